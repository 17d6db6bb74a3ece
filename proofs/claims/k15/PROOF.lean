import PyProof.Rows.All
import Wide.All
import OpenK.AllK
import Wide.FinOn
import HandS.ForMost
import HandS.IsInst
import HandS.Evl
import HandS.Zip
import HandS.ExcInit
import HandS.ExcIs
import HandS.Walk
import KE.KExcIs
import KE.KxText
import HandS.Nested
import HandS.Star
import HandS.More
import HandS.MethStar
import KE.KSuper
import HandS.FStr
import HandS.Gcd
import KE.KMathGC
import HandS.TupSets
import HandS.RaiseMore
import HandS.TupAny
import HandS.SetFor
import HandS.Deep
import HandS.Dict
import HandS.DictComp
import HandS.Property
import HandS.Finally
import HandS.TupLe
import KE.DataFind
import KE.DatumMoreOrd
import KE.KDictCopyH
import KE.KCallOwn
import HandS.SlotsOwn
import HandS.WordsDict
import HandS.Defaults
import PyProof.StrBlock2
import PyProof.Rows.TmSorted
import HandS.ForExc
import HandS.TryMany
import HandS.ExcField
import KE.KFmtOwn
import HandS.DeepEq
import HandS.Lambda
import HandS.EndTab
import HandS.HeadWalk
import HandS.MakeKwOnly
import HandS.EndOwn
import PyProof.InstNe
import KE.GoesMore
import HandS.Ends
import HandS.Rev
import HandS.NoneIn
import HandS.SetKeys
import HandS.Iter
import HandS.ClsMeth
import HandS.Text
import HandS.Style
import HandS.Conv
import HandS.MakeKw
import PySem.Challenge.RW_surelet_k15_whole_cuts_of_a_disk
set_option Elab.async false
set_option linter.all false
set_option maxRecDepth 100000
set_option maxHeartbeats 4000000
namespace LC
open PySem L2
/-- a def as it stands behind the top: its text, its name, how its arguments bind -/
structure Def (K : PySem.W.Frag) (mg : Str → Option Value) (x : Str) (st : Stmt) (ps : List Str) (f : Addr) (fd : FuncData) : Prop where
  F : Fun K x x st f fd
  g : mg x = some (.ref f)
  b : Binds K fd ps []
/-- all but the bag at g is as it was -/
def Kp (g : Addr) (H H' : Hp) : Prop := ∀ b o, b ≠ g → H b = some o → H' b = some o
theorem Kp.refl (g : Addr) (H : Hp) : Kp g H H := fun _ _ _ h => h
theorem Kp.trans {g : Addr} {H H1 H2 : Hp} (a : Kp g H H1) (b : Kp g H1 H2) : Kp g H H2 := fun c o n h => b c o n (a c o n h)
theorem Kp.upd {g : Addr} {H H1 : Hp} {p : Addr} {o : HO} (a : Kp g H H1) (h : H1 p = none) : Kp g H (upd H1 p o) := fun c u n e => by
  have q := a c u n e
  rw [upd_ne (ne_of_none q h)]
  exact q
theorem Kp.bag {g : Addr} {H H1 : Hp} {o : HO} (a : Kp g H H1) : Kp g H (L2.upd H1 g o) := fun c u n e => by
  rw [upd_ne n]
  exact a c u n e
theorem Kp.free {g : Addr} {H H' : Hp} (e : Kp g H H') {l : Addr} (hl : l ≠ g) (h : H' l = Option.none) : H l = Option.none := by
  cases q : H l with
  | none => rfl
  | some o =>
    rw [e l o hl q] at h
    cases h
/-- the bag of draws at g, the script's copy at l -/
def Bag (l : Addr) (H : Hp) (g : Addr) : Prop := ∃ (ns : List Int) (i d s c : Int), H g = some (.lst [.ref l, .int i, .int d, .int s, .int c]) ∧ l ≠ g ∧ H l = some (.lst (ns.map V.int)) ∧
  0 ≤ i ∧ i ≤ ns.length ∧ 0 ≤ d ∧ 0 ≤ s ∧ s < 2147483399
theorem Bag.there {l : Addr} {H : Hp} {g : Addr} (B : Bag l H g) : (∃ xs, H g = some (.lst xs)) ∧ ∃ xs, H l = some (.lst xs) := by
  obtain ⟨ns, i, d, s, c, h, _, h2, _⟩ := B
  exact ⟨⟨_, h⟩, ⟨_, h2⟩⟩
theorem Bag.ne {l : Addr} {H : Hp} {g p : Addr} (B : Bag l H g) (h : H p = none) : p ≠ g ∧ p ≠ l := by
  obtain ⟨⟨xs, q⟩, ⟨ys, r⟩⟩ := B.there
  refine ⟨fun e => ?_, fun e => ?_⟩
  · rw [e, q] at h
    cases h
  · rw [e, r] at h
    cases h
theorem Bag.mut {l : Addr} {H : Hp} {g p : Addr} {o : HO} (B : Bag l H g) (h : p ≠ g) (h' : p ≠ l) : Bag l (L2.upd H p o) g := by
  obtain ⟨ns, i, d, s, c, h1, h2, h3, r⟩ := B
  exact ⟨ns, i, d, s, c, by rw [upd_ne (Ne.symm h)]; exact h1, h2, by rw [upd_ne (Ne.symm h')]; exact h3, r⟩
/-- from H0 to H: all but the bag stands, things came beside it, the bag is one -/
structure Ok (g l : Addr) (H0 H : Hp) : Prop where
  b0 : Bag l H0 g
  kp : Kp g H0 H
  bag : Bag l H g
theorem Ok.refl {g l : Addr} {H : Hp} (B : Bag l H g) : Ok g l H H := ⟨B, Kp.refl g H, B⟩
theorem Ok.trans {g l : Addr} {H H1 H2 : Hp} (a : Ok g l H H1) (b : Ok g l H1 H2) : Ok g l H H2 := ⟨a.b0, a.kp.trans b.kp, b.bag⟩
theorem Ok.new {g l p : Addr} {H H1 : Hp} {o : HO} (a : Ok g l H H1) (h : H1 p = none) : Ok g l H (L2.upd H1 p o) := ⟨a.b0, a.kp.upd h, a.bag.mut (a.bag.ne h).1 (a.bag.ne h).2⟩
theorem Ok.free {g l p : Addr} {H H1 : Hp} (a : Ok g l H H1) (h : H1 p = none) : H p = none := a.kp.free (a.bag.ne h).1 h
theorem Ok.mut {g l p : Addr} {H H1 : Hp} {o : HO} (a : Ok g l H H1) (h : H p = none) : Ok g l H (L2.upd H1 p o) :=
  ⟨a.b0, fun b u n e => by rw [upd_ne (ne_of_none e h)]; exact a.kp b u n e, a.bag.mut (a.b0.ne h).1 (a.b0.ne h).2⟩
theorem Ok.at_ {g l p : Addr} {H H1 : Hp} {o : HO} (a : Ok g l H H1) (h : H p = some o) (n : p ≠ g) : H1 p = some o := a.kp p o n h
theorem SqL.kp {K : PySem.W.Frag} {g : Addr} {H H' : Hp} {a : Addr} {xs : List V} (e : Kp g H H') (n : a ≠ g) (h : SqL K H a xs) : SqL K H' a xs := by
  rcases h with (h | ⟨o, h⟩) | h
  · exact .inl (.inl (e _ _ n h))
  · exact .inl (.inr ⟨o, e _ _ n h⟩)
  · exact .inr h
theorem SqT.kp {K : PySem.W.Frag} {g : Addr} {H H' : Hp} {a : Addr} {xs : List V} (e : Kp g H H') (n : a ≠ g) (h : SqT K H a xs) : SqT K H' a xs := by
  rcases h with (h | ⟨o, h⟩) | h
  · exact .inl (.inl (e _ _ n h))
  · exact .inl (.inr ⟨o, e _ _ n h⟩)
  · exact .inr h
theorem ite_b {c : Bool} {A B : Prop} (h1 : c = true → A) (h2 : c = false → B) : if c = true then A else B := by
  cases c with
  | true => exact iteT (h1 rfl)
  | false => exact iteF (h2 rfl)
/-- a test of two ints -/
theorem ite_d {p : Prop} [Decidable p] {A B : Prop} (h1 : p → A) (h2 : ¬ p → B) : if decide p = true then A else B := by
  by_cases h : p
  · rw [decide_eq_true h]
    exact iteT (h1 h)
  · rw [decide_eq_false h]
    exact iteF (h2 h)
theorem ite_eq {i j : Int} {A B : Prop} (h1 : i = j → A) (h2 : i ≠ j → B) : if decide (V.int i = V.int j) = true then A else B :=
  ite_d (fun h => h1 (V.int.inj h)) fun h => h2 fun e => h (by rw [e])
section
variable {X : Cx} {CX : CXT} {k : Nat} {f : Addr} {fd : FuncData} {ps ks : List Str} {sp : Sp} {E : XK} {x : Str} {p pos : Pos} {kws : List Keyword} {tk : TA} {g : List Value → List Value → List Value} {gV : List V → List V → List V}
theorem pe_callK0 (F : FnOk X.prog X.w X.K X.mg X.base CX k f fd ps sp) (hr : Room k X.A) (hg : Gl X x) (hm : X.mg x = some (.ref f)) (hk : PySem.W.keepIn X.K (.ref f) = true) (hb : KBinds X.K fd ps ks g gV) (hx : Passes CX X E)
    (hkw : PK X kws tk) (hall : (backToKw pos (keywordEach kws X.env)).all (·.1.isSome) = true := by rfl) (hks : (backToKw pos (keywordEach kws X.env)).filterMap (·.1) = ks := by rfl)
    (hdb : (x == ("__debug__" : Str)) = false := by decide) (hpl : ((backTo pos (starEach [] X.env)).any (·.1) || (backToKw pos (keywordEach kws X.env)).any (·.1.isNone)) = false := by rfl) :
    PE X (.Call (.Name x p) [] kws pos) (tCallK sp gV E tNil tk) := by
  refine ⟨fun pins s σ H Q I h => ?_⟩
  refine wpAny_Call_Name_kw (ld_glob I hg hm ?_ hdb)
  refine PySem.W.callWith_KW0 (h₀ := X.base) I.ok.mod.kin hk hall ?_ hpl
  refine thn (hkw.run pos pins s σ H _ I h) fun ws s2 ⟨zs, H2, I2, rz, q2⟩ => ⟨I2.kIn, ?_⟩
  rw [hks]
  exact run_fnk (us := []) F hr hb hx I2 .nil rz q2
end
end LC
namespace LC
open PySem L2
theorem cut_ints (ns : List Int) (lo hi : Option Int) : ∃ ms : List Int, cutV (ns.map V.int) lo hi = ms.map V.int ∧ ms.length ≤ ns.length := by
  refine ⟨(ns.drop (HT.sIx ns.length 0 lo)).take (HT.sIx ns.length ns.length hi - HT.sIx ns.length 0 lo), ?_, ?_⟩
  · unfold cutV
    rw [List.length_map, ← List.map_drop, ← List.map_take]
  · rw [List.length_take, List.length_drop]
    omega
theorem same_new {H : Hp} {p : Addr} {o : HO} (h : H p = none) : Same H (upd H p o) := fun b u e => by
  rw [upd_ne (ne_of_none e h)]
  exact e
theorem int_of {ns : List Int} {i : Nat} {y : V} (h : (ns.map V.int)[i]? = some y) : ∃ u, y = V.int u := by
  rw [List.getElem?_map] at h
  cases e : ns[i]? with
  | none =>
    rw [e] at h
    cases h
  | some u =>
    rw [e] at h
    exact ⟨u, (Option.some.inj h).symm⟩
end LC

namespace LC
theorem fmod_nn (a : Int) {n : Int} (h : 0 < n) : 0 ≤ a.fmod n := by
  rw [Int.fmod_eq_emod_of_nonneg _ (Int.le_of_lt h)]
  exact Int.emod_nonneg _ (by omega)
theorem fmod_lt (a : Int) {n : Int} (h : 0 < n) : a.fmod n < n := by
  rw [Int.fmod_eq_emod_of_nonneg _ (Int.le_of_lt h)]
  exact Int.emod_lt_of_pos _ h
end LC

namespace LC
open PySem L2
/-- a value of any of the drawn kinds; C: the error's class -/
inductive Th (C g : Addr) (H : Hp) : V → Prop where
  | non : Th C g H .non
  | bl (b : Bool) : Th C g H (.bl b)
  | int (i : Int) : Th C g H (.int i)
  | str (z : Str) (h : z.length ≤ 1000000) : Th C g H (.str z)
  | lst {a : Addr} {xs : List V} (h : H a = some (.lst xs)) (n : a ≠ g) : Th C g H (.ref a)
  | tup {a : Addr} {xs : List V} (h : H a = some (.tup xs)) (n : a ≠ g) : Th C g H (.ref a)
  | dK {a : Addr} {kvs : List (Key × V)} (h : H a = some (.dK kvs)) (n : a ≠ g) : Th C g H (.ref a)
  | exo {a d : Addr} {fs : List (Str × V)} (h : H a = some (exo a C (some d))) (n : a ≠ g) (hd : H d = some (exd d fs)) (nd : d ≠ g) : Th C g H (.ref a)
theorem Th.kp {C g : Addr} {H H' : Hp} {v : V} (r : Kp g H H') (t : Th C g H v) : Th C g H' v := by
  cases t with
  | non => exact .non
  | bl b => exact .bl b
  | int i => exact .int i
  | str z h => exact .str z h
  | lst h n => exact .lst (r _ _ n h) n
  | tup h n => exact .tup (r _ _ n h) n
  | dK h n => exact .dK (r _ _ n h) n
  | exo h n hd nd => exact .exo (r _ _ n h) n (r _ _ nd hd) nd
theorem Th.list {C g l : Addr} {H0 H : Hp} {p : Addr} {xs : List V} (a : Ok g l H0 H) (h : H p = none) : Th C g (upd H p (.lst xs)) (.ref p) := .lst upd_same (a.bag.ne h).1
theorem Th.tupl {C g l : Addr} {H0 H : Hp} {p : Addr} {xs : List V} (a : Ok g l H0 H) (h : H p = none) : Th C g (upd H p (.tup xs)) (.ref p) := .tup upd_same (a.bag.ne h).1
theorem upd_kp {g l : Addr} {H0 H : Hp} {p : Addr} {o : HO} (a : Ok g l H0 H) (h : H p = none) : Kp g H (upd H p o) := (Ok.new (Ok.refl a.bag) h).kp
/-- a comprehension over a text whose element leaves the heap -/
theorem lc_text {z : Str} {j : Nat} {te : TE} {vs : List Nat} {σ : L2.St} {H1 : Hp} {D : Addr} {Qd : Hp → Prop} (f : Nat → V) (hD : H1 D = none) (hz : z.length ≤ 1000000) (hw : ∀ x, wipe ((wipe σ vs).set j (some x)) vs = wipe σ vs)
    (he : ∀ (c : Nat) (H : Hp) (Q : VK), c ∈ z.cps.toList → Q (f c) H → te ((wipe σ vs).set j (some (.str ⟨#[c]⟩))) H Q) (hd : Qd (upd H1 D (.lst (z.cps.toList.map f)))) :
    ∃ W : Nat → Nat → Hp → Prop, (∃ m, W 0 m (upd H1 D (.lst []))) ∧ ∀ i m H, W i m H →
      ((Its z).stop i H ∧ Qd H) ∨ ((Its z).go i H ∧ ∃ Nx : Hp → Prop, (∀ H', Nx H' → ∃ m', m' < m ∧ W (i + 1) m' H') ∧ ∀ x H', (Its z).yld i H x H' → gName j x (wipe σ vs) H' fun σ2 H2 => wipe σ2 vs = wipe σ vs ∧ tYes σ2 H2 fun b H3 =>
        if b = true then te σ2 H3 fun y H4 => ∃ acc, H4 D = some (.lst acc) ∧ acc.length < sizeLine ∧ Nx (upd H4 D (.lst (acc ++ [y]))) else Nx H3) := by
  have hn : z.cps.toList.length = z.cps.size := Array.length_toList
  refine lc_it (walk_str (z := z)) (fun i H => i ≤ z.cps.size ∧ H = upd H1 D (.lst ((z.cps.toList.take i).map f))) ⟨Nat.zero_le _, rfl⟩ (fun _ _ _ _ => trivial) ?_ ?_
  · rintro i x H H' hi ⟨_, rfl⟩ ⟨rfl, c, hc, rfl⟩
    refine ⟨hw _, ?_⟩
    have hc' : z.cps.toList[i]? = some c := by rw [Array.getElem?_toList]; exact hc
    refine he c _ _ (List.mem_of_getElem? hc') ?_
    refine ⟨_, upd_same, ?_, hi, ?_⟩
    · rw [List.length_map, List.length_take]
      have e1 : z.cps.size = z.length := rfl
      exact Nat.lt_of_le_of_lt (Nat.min_le_right _ _) (Nat.lt_of_le_of_lt (by rw [hn, e1]; exact hz) (by decide : 1000000 < sizeLine))
    · rw [upd_upd, List.take_add_one, hc', List.map_append]
      rfl
  · rintro H ⟨_, rfl⟩
    rw [← hn, List.take_length]
    exact hd
end LC
namespace LC
open PySem L2 PySem.Spec PyProof.Rows
/-- C(e, ..) as a value, C an own error class over ValueError with its own __init__, which keeps sp -/
def tMkV (C : Addr) (sp : Sp) (ta : TA) : TE := fun σ H Q => ta σ H fun vs H1 => vs.length ≤ 1000 ∧ ∀ a, H1 a = none → sp (.ref a :: vs) (upd H1 a (exo a C none)) (fun v H2 => v = .non ∧ Q (.ref a) H2) (fun _ _ _ => False)
section
variable {X : Cx} {e : Expr} {es : List Expr} {ta : TA} {p pos : Pos}
theorem pe_oexV {CX : CXT} {x : Str} {C fI : Addr} {k : Nat} {fd : FuncData} {ps : List Str} {sp : Sp} (T : OexC X.K C) (iC : PySem.W.findIn X.K (.ref C) "__init__" = some (some (.ref fI))) (tI : PySem.W.typeIn X.K (.ref fI) = some (.type "function"))
    (F1 : FnOk X.prog X.w X.K X.mg X.base CX k fI fd ps sp) (hr : Room (k + 1) X.A) (hb : Binds X.K fd ps []) (hx : Passes CX X (fun _ _ _ => False)) (hg : Gl X x) (hm : X.mg x = some (.ref C)) (ha : PA X (e :: es) ta)
    (hdb : (x == ("__debug__" : Str)) = false := by decide) (he : starEach (e :: es) X.env = (false, eval e X.env) :: starEach es X.env := by rfl) (hpl : (backTo pos (starEach es X.env)).any (·.1) = false := by rfl) :
    PE X (.Call (.Name x p) (e :: es) [] pos) (tMkV C sp ta) := by
  refine ⟨fun pins s σ H Q I h => ?_⟩
  obtain ⟨nm, q, N, bs, bm, sn, sub, ab, col, dd, k0, k1, k2, k3, k5, hC, hbm⟩ := T.cls
  refine wpAny_Call_Name_kw (ld_glob I hg hm ?_ hdb)
  refine PySem.W.callWith_K (h₀ := X.base) I.ok.mod.kin T.kC (thn (ha.run pos pins s σ H _ I h) fun us s1 ⟨vs, H1, I1, r1, hz, q1⟩ => ⟨I1.kIn, ?_⟩) he hpl
  show wpAny _ _ (call (.ref C) us) _ _ _
  obtain ⟨hp, g, dr, tk, os⟩ := s1
  have hsz : hp.objs.size ≤ hp.objs.size + 1 := Nat.le_succ _
  have hn : H1 (hp.objs.size + 1) = none := I1.hok.fresh hsz
  have hq := q1 (hp.objs.size + 1) hn
  have kk : ∀ b o, hp.get? b = some o → ((hp.push (PySem.W.kdv_tup us)).push (PySem.HandSPX.excO C hp.objs.size)).get? b = some o := fun b o e => Heap.get?_push_of_some _ (Heap.get?_push_of_some _ e)
  have hget : ((hp.push (PySem.W.kdv_tup us)).push (PySem.HandSPX.excO C hp.objs.size)).get? (hp.objs.size + 1) = some (PySem.HandSPX.excO C hp.objs.size) := by heap_get
  have I2 : L2.Inv X pins σ (upd H1 (hp.objs.size + 1) (exo (hp.objs.size + 1) C none)) ⟨(hp.push (PySem.W.kdv_tup us)).push (PySem.HandSPX.excO C hp.objs.size), g, dr, tk, os⟩ :=
    I1.laid (t' := tk) (a := hp.objs.size + 1) (o := exo (hp.objs.size + 1) C none) (h' := (hp.push (PySem.W.kdv_tup us)).push (PySem.HandSPX.excO C hp.objs.size)) kk hsz (exo_ok hget)
  have r2 : Vals (V.ref (hp.objs.size + 1) :: vs) (Value.ref (hp.objs.size + 1) :: us) := .cons rfl r1
  have hl : (Value.ref (hp.objs.size + 1) :: us ++ []).length = ps.length := by
    have e := r2.length
    rw [F1.len _ _ _ _ hq] at e
    rw [List.append_nil]
    exact e.symm
  have hus : us.length ≤ sizeLine := by
    rw [← Paired.length r1, sizeLine_eq]
    omega
  have hbb := hb _ (Value.ref (hp.objs.size + 1) :: us) I2.kIn hl
  rw [List.append_nil] at hbb
  refine wpAny_call (PySem.HandSPX.call_own F.excBase_ValueError (fun Y => PySem.HandSPX.refsVE_contains Y bm hbm) (I1.kIn _ _ hC) (PySem.W.looks_findIn I1.kIn iC) (fun self => PySem.W.bind_fn I1.kIn self tI) hus
    (codeAny_mono (F1.run _ X.stack _ _ ⟨Value.ref (hp.objs.size + 1) :: us, []⟩ (Value.ref (hp.objs.size + 1) :: us) _ _ (fun _ _ _ => False) (hr.make C us []) (I2.env0.make C us []) hbb r2 hq) fun r s' hq' => ?_))
  cases r with
  | error er => exact hx pins σ _ _ er s' I2 hq'
  | ok fl =>
    cases fl with
    | ret u =>
      obtain ⟨v, H2, os2, bare2, un2, hok2, rv, ev, q2⟩ := hq'
      subst ev
      exact ⟨rv, .ref (hp.objs.size + 1), H2, I2.call' (ch := []) os2 un2 hok2 bare2 (fun b hb => by cases hb), rfl, q2⟩
    | next => exact False.elim hq'
    | brk => exact False.elim hq'
    | cont => exact False.elim hq'
end
/-- what the written part says of an own error class, for isinstance -/
structure IsC (K : PySem.W.Frag) (C : Addr) : Prop where
  hcl : (PySem.W.clsIn K C).isSome = true
  hga : PySem.W.findIn K (.ref C) "__getattribute__" = some (some (.builtin "BaseException.__getattribute__"))
  hgt : PySem.W.findIn K (.ref C) "__getattr__" = some none
  hsub : PySem.W.subIn K (.ref C) (.type "BaseException") = some true
  ha : PySem.W.findIn K (.ref C) "__class__" = some (some (.builtin "object.__class__"))
  hn : PySem.W.specialIn K (.builtin "object.__class__") "__get__" = some (some (.builtin "getset_descriptor.__get__"))
  htk : PySem.W.takesIn K (.builtin "object.__class__") = some true
  hm : PySem.W.mroIn K C (.type "object") = some true
/-- isinstance(x, c), x an own error too -/
def rIsX (K : PySem.W.Frag) : List V → Hp → VK → Prop := fun xs H Q => rIsi K xs H Q ∨
  ∃ (a C d : Addr) (c : V) (cv : Value) (b : Bool) (fs : List (Str × V)), xs = [.ref a, c] ∧ IsC K C ∧ H a = some (exo a C (some d)) ∧ H d = some (exd d fs) ∧ ClsV c cv ∧ PySem.W.kitOne K (.ref C) cv = some b ∧ Q (.bl b) H
theorem call_isX {X : Cx} : CallR X (.builtin "isinstance") (rIsX X.K) := by
  intro pins s σ H xs us Q I r h
  rcases h with h | ⟨a, C, d, c, cv, b, fs, rfl, T, ha, hd, k, e, q⟩
  · exact call_isi pins s σ H xs us Q I r h
  · obtain ⟨u1, u2, rfl, r1, r2⟩ := vals2 r
    have e2 := k.eq r2
    subst e2
    obtain rfl : u1 = Value.ref a := r1
    obtain ⟨t1, ho⟩ := exo_at I.hok ha
    obtain ⟨od, hod⟩ : ∃ od, s.heap.get? d = some od := by
      obtain ⟨_, z, _⟩ := I.hok d _ hd
      exact z
    have J : PySem.W.InstAt s.heap a { cls := .ref C, dict := some d, data := .fields #[.ref t1, .none, .none, .none, .bool false, .none] } C (some od) := ⟨ho, rfl, rfl, hod⟩
    exact PySem.W.kia_one (PySem.W.kitx_exc T.hcl T.hga T.hgt T.hsub T.ha T.hn T.htk T.hm) I.kIn J e (fun z => nomatch z) fun tk => ⟨.bl b, H, I.tok tk, rfl, q⟩
end LC

namespace LC
open PySem L2
/-! the values of isinstance(x, int | bool | str) -/
def isI : V → Bool | .int _ => true | .bl _ => true | _ => false
def isB : V → Bool | .bl _ => true | _ => false
def isS : V → Bool | .str _ => true | _ => false
/-- what the error's class answers -/
structure NoB (K : PySem.W.Frag) (C : Addr) : Prop where
  is : IsC K C
  i : PySem.W.kitOne K (.ref C) (.type "int") = some false
  b : PySem.W.kitOne K (.ref C) (.type "bool") = some false
  s : PySem.W.kitOne K (.ref C) (.type "str") = some false
theorem isi_th {K : PySem.W.Frag} {C g : Addr} {H : Hp} {v : V} {Q : VK} (N : NoB K C) (t : Th C g H v) : (Q (.bl (isI v)) H → rIsX K [v, .ty "int"] H Q) ∧ (Q (.bl (isB v)) H → rIsX K [v, .ty "bool"] H Q) ∧ (Q (.bl (isS v)) H → rIsX K [v, .ty "str"] H Q) := by
  have go : ∀ {x : V} {T S : String} {b : Bool}, TyOf K H x (.type T) → kitB T S = some b → Q (.bl b) H → rIsX K [x, .ty S] H Q := fun ty e q => .inl ⟨_, _, _, _, _, rfl, .ty _, .base ty, kit_ty e, q⟩
  cases t with
  | non => exact ⟨go .non (show kitB "NoneType" "int" = some false by decide +kernel), go .non (show kitB "NoneType" "bool" = some false by decide +kernel), go .non (show kitB "NoneType" "str" = some false by decide +kernel)⟩
  | bl b => exact ⟨go (.bl b) (show kitB "bool" "int" = some true by decide +kernel), go (.bl b) (show kitB "bool" "bool" = some true by decide +kernel), go (.bl b) (show kitB "bool" "str" = some false by decide +kernel)⟩
  | int i => exact ⟨go (.int i) (show kitB "int" "int" = some true by decide +kernel), go (.int i) (show kitB "int" "bool" = some false by decide +kernel), go (.int i) (show kitB "int" "str" = some false by decide +kernel)⟩
  | str z h => exact ⟨go (.str z) (show kitB "str" "int" = some false by decide +kernel), go (.str z) (show kitB "str" "bool" = some false by decide +kernel), go (.str z) (show kitB "str" "str" = some true by decide +kernel)⟩
  | lst h n => exact ⟨go (.lst h) (show kitB "list" "int" = some false by decide +kernel), go (.lst h) (show kitB "list" "bool" = some false by decide +kernel), go (.lst h) (show kitB "list" "str" = some false by decide +kernel)⟩
  | tup h n => exact ⟨go (.tup h) (show kitB "tuple" "int" = some false by decide +kernel), go (.tup h) (show kitB "tuple" "bool" = some false by decide +kernel), go (.tup h) (show kitB "tuple" "str" = some false by decide +kernel)⟩
  | dK h n => exact ⟨go (.dK h) (show kitB "dict" "int" = some false by decide +kernel), go (.dK h) (show kitB "dict" "bool" = some false by decide +kernel), go (.dK h) (show kitB "dict" "str" = some false by decide +kernel)⟩
  | exo h n hd nd => exact ⟨fun q => .inr ⟨_, C, _, _, _, _, _, rfl, N.is, h, hd, .ty _, N.i, q⟩, fun q => .inr ⟨_, C, _, _, _, _, _, rfl, N.is, h, hd, .ty _, N.b, q⟩, fun q => .inr ⟨_, C, _, _, _, _, _, rfl, N.is, h, hd, .ty _, N.s, q⟩⟩
def isNum (v : V) (lo hi : Int) : Bool := match v with | .int i => decide (lo ≤ i) && decide (i ≤ hi) | _ => false
def chL (c : Nat) : Bool := decide (97 ≤ c) && decide (c ≤ 122)
def chD (c : Nat) : Bool := decide (48 ≤ c) && decide (c ≤ 57)
def isNam (v : V) : Bool := match v with | .str z => decide (1 ≤ z.length) && decide (z.length ≤ 8) && chL (z.cps.toList.getD 0 0) && z.cps.toList.all (fun c => chL c || chD c) | _ => false
theorem mem_low (c : Nat) : decide (c ∈ ("abcdefghijklmnopqrstuvwxyz" : Str).cps.toList) = chL c := by
  have e : ("abcdefghijklmnopqrstuvwxyz" : Str).cps.toList = List.range' 97 26 := by decide +kernel
  rw [e]
  unfold chL
  rw [← Bool.decide_and]
  refine decide_eq_decide.mpr ?_
  rw [List.mem_range'_1]
  omega
theorem mem_dig (c : Nat) : decide (c ∈ ("0123456789" : Str).cps.toList) = chD c := by
  have e : ("0123456789" : Str).cps.toList = List.range' 48 10 := by decide +kernel
  rw [e]
  unfold chD
  rw [← Bool.decide_and]
  refine decide_eq_decide.mpr ?_
  rw [List.mem_range'_1]
  omega
end LC
namespace LC
open PySem L2
theorem pe_ty {X : Cx} {x : Str} {pos : Pos} (n : String) (hg : Gl X x) (hm : X.mg x = none) (hv : bootBuiltins x = some (.type n)) (hn : x ≠ "__name__" := by decide) (hd : (x == ("__debug__" : Str)) = false := by decide) : PE X (.Name x pos) (tC (.ty n)) :=
  pe_bltn hg hm hv rfl hn hd
end LC
namespace LC
open PySem L2
theorem ite_nd {p : Prop} [Decidable p] {A B : Prop} (h1 : ¬ p → A) (h2 : p → B) : if (!decide p) = true then A else B := by
  by_cases h : p
  · rw [decide_eq_true h]
    exact iteF (h2 h)
  · rw [decide_eq_false h]
    exact iteT (h1 h)
theorem ite_nb {c : Bool} {A B : Prop} (h1 : c = false → A) (h2 : c = true → B) : if (!c) = true then A else B := by
  cases c with
  | true => exact iteF (h2 rfl)
  | false => exact iteT (h1 rfl)
theorem ite_is {a b : Bool} {A B : Prop} (e : a = b) (h1 : b = true → A) (h2 : b = false → B) : if a = true then A else B := by
  subst e
  exact ite_b h1 h2
theorem Ok.same {g l : Addr} {H0 H H' : Hp} (a : Ok g l H0 H) (s : Same H H') : Ok g l H0 H' := by
  refine ⟨a.b0, fun b o n e => s _ _ (a.kp b o n e), ?_⟩
  obtain ⟨ns, i, d, t, c, h1, h2, h3, r⟩ := a.bag
  exact ⟨ns, i, d, t, c, s _ _ h1, h2, s _ _ h3, r⟩
theorem Th.same {C g : Addr} {H H' : Hp} {v : V} (t : Th C g H v) (s : Same H H') : Th C g H' v := t.kp fun b o _ e => s b o e
theorem len1 {z : Str} (h : 1 ≤ z.length) : ∃ c, z.cps.toList[0]? = some c ∧ z.cps.toList.getD 0 0 = c := by
  have e : z.cps.toList.length = z.length := rfl
  have h0 : 0 < z.cps.toList.length := by omega
  refine ⟨z.cps.toList[0], List.getElem?_eq_getElem h0, ?_⟩
  rw [List.getD_eq_getElem?_getD, List.getElem?_eq_getElem h0]
  rfl
theorem sz_str {z : Str} (h : z.length ≤ 1000000) : z.length ≤ sizeLine := Nat.le_trans h (by decide)
theorem bls_map {α : Type} (l : List α) (f : α → Bool) : (l.map fun c => V.bl (f c)) = (l.map f).map V.bl := by
  rw [List.map_map]
  rfl
theorem all_id {α : Type} (l : List α) (f : α → Bool) : (l.map f).all id = l.all f := by
  rw [List.all_map]
  rfl
theorem isNam_str (z : Str) : isNam (.str z) = (decide (1 ≤ z.length) && decide (z.length ≤ 8) && chL (z.cps.toList.getD 0 0) && z.cps.toList.all (fun c => chL c || chD c)) := rfl
end LC
namespace LC
open PySem L2
theorem pe_gstr {X : Cx} {x z : Str} {t : Tok} {pos : Pos} (hg : Gl X x) (hm : X.mg x = some (.str z t)) (hd : (x == ("__debug__" : Str)) = false := by decide) : PE X (.Name x pos) (tC (.str z)) := pe_glob hg hm ⟨_, rfl⟩ hd
theorem pe_gint {X : Cx} {x : Str} {z : Int} {t : Tok} {pos : Pos} (hg : Gl X x) (hm : X.mg x = some (.int z t)) (hd : (x == ("__debug__" : Str)) = false := by decide) : PE X (.Name x pos) (tC (.int z)) := pe_glob hg hm ⟨_, rfl⟩ hd
end LC

namespace LC
open PySem L2
/-- ord('a') <= ord(sign) <= ord('z') as an element -/
theorem ord_in {a b : Str} {c i lo hi : Nat} {σ : L2.St} {H : Hp} {Q : VK} {f : Nat → Bool} (h1 : a.length = 1 ∧ a.cps.getD 0 0 = lo) (h2 : b.length = 1 ∧ b.cps.getD 0 0 = hi) (hf : f c = (decide (lo ≤ c) && decide (c ≤ hi))) (hs : σ[i]? = some (some (.str ⟨#[c]⟩))) (q : Q (.bl (f c)) H) :
    tChain (rI0 fun i j => .bl (decide (i ≤ j))) (rI0 fun i j => .bl (decide (i ≤ j))) (tCB (fun xs H Q => ∃ x, xs = [.str x] ∧ x.length = 1 ∧ Q (.int (x.cps.getD 0 0 : Nat)) H) (tCons (tC (.str a)) tNil))
      (tCB (fun xs H Q => ∃ x, xs = [.str x] ∧ x.length = 1 ∧ Q (.int (x.cps.getD 0 0 : Nat)) H) (tCons (tVar i) tNil)) (tCB (fun xs H Q => ∃ x, xs = [.str x] ∧ x.length = 1 ∧ Q (.int (x.cps.getD 0 0 : Nat)) H) (tCons (tC (.str b)) tNil)) σ H Q := by
  refine ⟨a, rfl, h1.1, _, hs, _, rfl, rfl, _, _, rfl, rfl, _, rfl, ?_⟩
  rw [h1.2]
  refine ite_d (fun e1 => ?_) (fun e1 => ?_)
  · refine ⟨b, rfl, h2.1, _, _, rfl, rfl, ?_⟩
    rw [h2.2]
    have e : f c = decide ((c : Int) ≤ (hi : Int)) := by
      rw [hf, decide_eq_true (show lo ≤ c by exact Int.ofNat_le.mp e1), Bool.true_and]
      exact decide_eq_decide.mpr Int.ofNat_le.symm
    rw [e] at q
    exact q
  · have e : f c = false := by
      rw [hf, decide_eq_false (show ¬ lo ≤ c from fun z => e1 (Int.ofNat_le.mpr z)), Bool.false_and]
    rw [e] at q
    exact q
end LC
namespace LC
open PySem L2
/-- a comprehension over range(n) whose element draws: the list's items all in F -/
theorem lc_draws {n : Nat} {j : Nat} {te : TE} {vs : List Nat} {σ : L2.St} {g l : Addr} {H0 H1 : Hp} {D : Addr} {Qd : Hp → Prop} (F : Hp → V → Prop) (R : Ok g l H0 H1) (hD : H1 D = none) (hn : n ≤ 1000000)
    (hw : ∀ x, wipe ((wipe σ vs).set j (some x)) vs = wipe σ vs) (hF : ∀ x H H', F H x → Kp g H H' → F H' x) (hG : ∀ x H xs ys, H D = some (.lst xs) → F H x → F (upd H D (.lst ys)) x)
    (he : ∀ (i : Nat) (H : Hp) (Q : VK), i < n → Ok g l H0 H → (∀ x H', F H' x → Ok g l H H' → Q x H') → te ((wipe σ vs).set j (some (.int (0 + (i : Int))))) H Q)
    (hd : ∀ H xs, Ok g l H0 H → Kp g H1 H → H D = some (.lst xs) → xs.length = n → (∀ x ∈ xs, F H x) → Qd H) :
    ∃ W : Nat → Nat → Hp → Prop, (∃ m, W 0 m (upd H1 D (.lst []))) ∧ ∀ i m H, W i m H →
      ((Itr 0 n).stop i H ∧ Qd H) ∨ ((Itr 0 n).go i H ∧ ∃ Nx : Hp → Prop, (∀ H', Nx H' → ∃ m', m' < m ∧ W (i + 1) m' H') ∧ ∀ x H', (Itr 0 n).yld i H x H' → gName j x (wipe σ vs) H' fun σ2 H2 => wipe σ2 vs = wipe σ vs ∧ tYes σ2 H2 fun b H3 =>
        if b = true then te σ2 H3 fun y H4 => ∃ acc, H4 D = some (.lst acc) ∧ acc.length < sizeLine ∧ Nx (upd H4 D (.lst (acc ++ [y]))) else Nx H3) := by
  have nD := R.bag.ne hD
  refine lc_it walk_range (fun i H => i ≤ n ∧ Ok g l H1 H ∧ ∃ xs, H D = some (.lst xs) ∧ xs.length = i ∧ ∀ x ∈ xs, F H x) ⟨Nat.zero_le _, Ok.new (Ok.refl R.bag) hD, [], upd_same, rfl, fun x hx => by cases hx⟩ (fun _ _ _ _ => trivial) ?_ ?_
  · rintro i x H H' hi ⟨_, r, xs, h1, h2, h3⟩ ⟨rfl, rfl⟩
    refine ⟨hw _, ?_⟩
    refine he i _ _ hi (R.trans r) fun x H2 fx r2 => ?_
    have h4 := r2.kp D _ nD.1 h1
    refine ⟨xs, h4, Nat.lt_of_lt_of_le (by omega : xs.length < 1000000 + 1) (by decide), hi, (r.trans r2).mut hD, xs ++ [x], upd_same, by rw [List.length_append, h2]; rfl, fun y hy => ?_⟩
    refine hG y H2 xs _ h4 ?_
    rcases List.mem_append.mp hy with hy | hy
    · exact hF y _ _ (h3 y hy) r2.kp
    · rw [List.mem_singleton] at hy
      rw [hy]
      exact fx
  · rintro H ⟨_, r, xs, h1, h2, h3⟩
    exact hd H xs (R.trans r) r.kp h1 h2 h3
end LC

namespace LC
open PySem L2
theorem Th.lstmut {C g : Addr} {H : Hp} {D : Addr} {v : V} {xs ys : List V} (h : H D = some (.lst xs)) (t : Th C g H v) : Th C g (upd H D (.lst ys)) v := by
  cases t with
  | non => exact .non
  | bl b => exact .bl b
  | int i => exact .int i
  | str z h => exact .str z h
  | @lst a xs' h' n =>
    by_cases e : a = D
    · subst e
      exact .lst upd_same n
    · exact .lst (by rw [upd_ne e]; exact h') n
  | tup h' n => exact .tup (by rw [upd_ne (ne_of h' h (by intro z; cases z))]; exact h') n
  | dK h' n => exact .dK (by rw [upd_ne (ne_of h' h (by intro z; cases z))]; exact h') n
  | exo h' n hd nd => exact .exo (by rw [upd_ne (ne_of h' h (by intro z; cases z))]; exact h') n (by rw [upd_ne (ne_of hd h (by intro z; cases z))]; exact hd) nd
end LC

namespace LC
open PySem L2
theorem Th.dKmut {C g : Addr} {H : Hp} {D : Addr} {v : V} {xs ys : List (Key × V)} (h : H D = some (.dK xs)) (t : Th C g H v) : Th C g (upd H D (.dK ys)) v := by
  cases t with
  | non => exact .non
  | bl b => exact .bl b
  | int i => exact .int i
  | str z h => exact .str z h
  | @dK a xs' h' n =>
    by_cases e : a = D
    · subst e
      exact .dK upd_same n
    · exact .dK (by rw [upd_ne e]; exact h') n
  | tup h' n => exact .tup (by rw [upd_ne (ne_of h' h (by intro z; cases z))]; exact h') n
  | lst h' n => exact .lst (by rw [upd_ne (ne_of h' h (by intro z; cases z))]; exact h') n
  | exo h' n hd nd => exact .exo (by rw [upd_ne (ne_of h' h (by intro z; cases z))]; exact h') n (by rw [upd_ne (ne_of hd h (by intro z; cases z))]; exact hd) nd
theorem Th.upd {C g l : Addr} {H0 H : Hp} {p : Addr} {o : HO} {v : V} (a : Ok g l H0 H) (h : H p = none) (t : Th C g H v) : Th C g (L2.upd H p o) v := t.kp (upd_kp a h)
theorem Th.dict {C g l : Addr} {H0 H : Hp} {p : Addr} {xs : List (Key × V)} (a : Ok g l H0 H) (h : H p = none) : Th C g (L2.upd H p (.dK xs)) (.ref p) := .dK upd_same (a.bag.ne h).1
end LC

namespace LC
open PySem L2
/-- a dict stands at p -/
def Dd (g : Addr) (H : Hp) (p : Addr) : Prop := p ≠ g ∧ ∃ kvs, H p = some (.dK kvs)
theorem Dd.new {g : Addr} {H : Hp} {p q : Addr} {o : HO} (d : Dd g H p) (h : H q = none) : Dd g (L2.upd H q o) p := by
  obtain ⟨n, kvs, e⟩ := d
  exact ⟨n, kvs, by rw [upd_ne (ne_of_none e h)]; exact e⟩
theorem Dd.dict {g : Addr} {H : Hp} {p q : Addr} {kvs : List (Key × V)} (d : Dd g H p) : Dd g (L2.upd H q (.dK kvs)) p := by
  obtain ⟨n, ks, e⟩ := d
  by_cases h : p = q
  · subst h
    exact ⟨n, kvs, upd_same⟩
  · exact ⟨n, ks, by rw [upd_ne h]; exact e⟩
theorem Dd.mk' {g l : Addr} {H0 H : Hp} {p : Addr} {kvs : List (Key × V)} (a : Ok g l H0 H) (h : H p = none) : Dd g (L2.upd H p (.dK kvs)) p := ⟨(a.bag.ne h).1, kvs, upd_same⟩
theorem Dd.th {C g : Addr} {H : Hp} {p : Addr} (d : Dd g H p) : Th C g H (.ref p) := by
  obtain ⟨n, kvs, e⟩ := d
  exact .dK e n
end LC
namespace LC
open PySem L2
theorem strs_of (z : Str) : ∀ xs : List V, (∀ x ∈ xs, ∃ c ∈ z.cps.toList, x = V.str ⟨#[c]⟩) → ∃ ys : List Str, xs = ys.map V.str ∧ (∀ y ∈ ys, y.length = 1) ∧ ys.length = xs.length
  | [], _ => ⟨[], rfl, (fun y hy => by cases hy), rfl⟩
  | x :: r, h => by
    obtain ⟨ys, e, h1, h2⟩ := strs_of z r fun y hy => h y (List.mem_cons_of_mem _ hy)
    obtain ⟨c, _, rfl⟩ := h x (List.mem_cons_self ..)
    refine ⟨⟨#[c]⟩ :: ys, by rw [e]; rfl, fun y hy => ?_, by rw [List.length_cons, h2]; rfl⟩
    rcases List.mem_cons.mp hy with rfl | hy
    · rfl
    · exact h1 y hy
theorem sum_ones : ∀ ys : List Str, (∀ y ∈ ys, y.length = 1) → (ys.map (·.length)).sum = ys.length
  | [], _ => rfl
  | y :: r, h => by
    have e := sum_ones r fun z hz => h z (List.mem_cons_of_mem _ hz)
    show (y.length :: r.map (·.length)).sum = r.length + 1
    rw [List.sum_cons, e, h y (List.mem_cons_self ..)]
    omega
theorem cutS_le (z : Str) (lo hi : Option Int) : (cutS z lo hi).length ≤ z.length := by
  show (cutS z lo hi).cps.size ≤ z.cps.size
  unfold cutS
  rw [List.size_toArray, List.length_take, List.length_drop, Array.length_toList]
  omega
end LC

namespace LC
open PySem L2
theorem kp_of {g : Addr} {H1 H2 : Hp} {a : Addr} {o : HO} (ha : H1 a = none) (k : ∀ b u, b ≠ a → L2.upd H1 a o b = some u → H2 b = some u) : Kp g H1 H2 := fun b u _ e => k b u (ne_of_none e ha) (by rw [upd_ne (ne_of_none e ha)]; exact e)
theorem log_small {i : Int} (h0 : -1000000 ≤ i) (h1 : i ≤ 1000000) : i.natAbs.log2 < 1920 := Nat.lt_trans (PySem.Flt.log2_lt_of (k := 20) (by decide) (Nat.lt_of_le_of_lt (show i.natAbs ≤ 1000000 by omega) (by decide))) (by decide)
end LC

namespace LC
theorem ite_same {c : Prop} [Decidable c] {A B C : Prop} (h : C) (h1 : C → A) (h2 : C → B) : if c then A else B := by
  by_cases q : c
  · rw [if_pos q]
    exact h1 h
  · rw [if_neg q]
    exact h2 h
theorem ite_nbeq {b : Bool} {A B : Prop} (h : B) : if (!(b == b)) = true then A else B := by
  rw [beq_self_eq_true]
  exact L2.iteF h
end LC

namespace LC
open PySem L2
theorem kit_sub {K : PySem.W.Frag} {C : Addr} {T : String} {b : Bool} (m : PySem.W.kitMeta T = true) (h : PySem.W.subIn K (.ref C) (.type T) = some b) : PySem.W.kitOne K (.ref C) (.type T) = some b := by
  have e : ((Value.ref C : Value) == Value.type T) = false := rfl
  unfold PySem.W.kitOne
  rw [e, if_neg Bool.false_ne_true]
  show (if PySem.W.kitMeta T = true then PySem.W.subIn K (.ref C) (.type T) else none) = some b
  rw [m, if_pos rfl]
  exact h
theorem cls_some {K : PySem.W.Frag} {C : Addr} {nm q : Str} {N : Addr} {bs bm : List Value} {sn : List Str} {sub : List Value} {ab : Bool} {col : Option Bool} {dd : Option Addr} {k0 k1 k2 k3 k5 : Option Value} {nw : String} (h : K.lookup C = some (excClassObj nm q C N bs bm true sn sub ab col dd k0 k1 k2 k3 k5 nw)) : (PySem.W.clsIn K C).isSome = true := by
  unfold PySem.W.clsIn
  rw [h] <;> rfl
theorem refs_ve (S : Addr) : PySem.HandSPX.refsVE [.ref S, .type "ValueError", .type "Exception", .type "BaseException", .type "object"] = true := by
  show PySem.HandSPX.refsVE [.type "ValueError", .type "Exception", .type "BaseException", .type "object"] = true
  decide +kernel
end LC

namespace LS
open PySem L2 NdefX
/-! ### bodies that say super(): run at their own code -/
structure PSAt (X : Cx) (c : Code) (st : Stmt) (t : TS) : Prop where
  run : ∀ (pins : List (Addr × Obj)) (s : Shared) (σ : L2.St) (H : Hp) (D : Ends), Inv X pins σ H s → t D σ H → PySem.wpAt (model X.prog X.w) X.A c (exec st X.env) (SP X pins D) X.xe s
structure PSsAt (X : Cx) (c : Code) (ss : List Stmt) (t : TS) : Prop where
  run : ∀ (pins : List (Addr × Obj)) (s : Shared) (σ : L2.St) (H : Hp) (D : Ends), Inv X pins σ H s → t D σ H → PySem.wpAt (model X.prog X.w) X.A c (execs ss X.env) (SP X pins D) X.xe s
section
variable {X : Cx} {c : Code} {st : Stmt} {rest : List Stmt} {t u : TS}
theorem psa (h : PS X st t) : PSAt X c st t := ⟨fun pins s σ H D I q => PySem.wpAt_of_wpAny (h.run pins s σ H D I q)⟩
theorem pssa (h : PSs X rest t) : PSsAt X c rest t := ⟨fun pins s σ H D I q => PySem.wpAt_of_wpAny (h.run pins s σ H D I q)⟩
theorem pssa_cons (h1 : PSAt X c st t) (h2 : PSsAt X c rest u) : PSsAt X c (st :: rest) (tSeq t u) := by
  refine ⟨fun pins s σ H D I h => ?_⟩
  refine ks_wpAt_execs_cons (PySem.wpAt_mono (h1.run pins s σ H { D with nx := u D } I h) (fun f s1 q => ?_) fun _ _ x => x)
  cases f with
  | next =>
    obtain ⟨σ', H', I', q⟩ := q
    exact h2.run pins s1 σ' H' D I' q
  | ret v => exact q
  | brk => exact q
  | cont => exact q
end
/-- what the written part says of the method f of the class D, which says super(): its def, its code, the cell of its class; the base's method f2 -/
structure SupF (P : Program) (K : PySem.W.Frag) (F : NF) (f D f2 : Addr) (m : Str) : Prop where
  fn : ∃ (oc : Value) (od : Option Addr) (doc pm ct : Value) (osl : Array (Option Value)), K.lookup f = some ⟨oc, od, .func (F.fd doc pm ct), osl⟩
  cd : PySem.W.codeIn K (.ref F.c) F.qual = true
  code : ∃ (oc : Value) (od : Option Addr) (vs : Array Value) (sl : Array (Option Value)) (file : Str) (tf : Tok), K.lookup F.c = some ⟨oc, od, .fields vs, sl⟩ ∧ vs[2]? = some (.str file tf) ∧ ((P.main.file : Str) == file) = true
  cell : ∃ (cc : Addr) (oc : Value) (od : Option Addr) (sl : Array (Option Value)), F.cl = [(("__class__" : Str), cc)] ∧ K.lookup cc = some ⟨oc, od, .cell (some (.ref D)), sl⟩
  cls : ∃ cd, PySem.W.clsIn K D = some cd
  sub : PySem.W.mroIn K D (.ref D) = some true
  sup : PySem.W.ks_superIn K D D m = some (some (.ref f2))
  ty : PySem.W.typeIn K (.ref f2) = some (.type "function")
  op : PySem.W.nsIn K cStatics "thirdparty.any" = some none
  fi : PySem.W.fnIn K f2 = true
  top : (P.main.scope.names.lookup ("super" : Str)).isSome = false
/-- super().m(e, ..): the base's method, its promise sp; self in slot 0 -/
def tSup (D f2 : Addr) (sp : Sp) (ta : TA) : TE := fun σ H Q => ∃ (x dx : Addr) (fs : List (Str × V)), σ[0]? = some (some (.ref x)) ∧ H x = some (.ins D dx fs) ∧
  ∀ q, H q = none → ta σ (upd H q (.met f2 x)) fun vs H1 => H1 q = some (.met f2 x) ∧ sp (.ref x :: vs) H1 Q E0
section
variable {X : Cx} {F : NF} {f D f2 : Addr} {m : Str} {sp : Sp} {k : Nat} {e : Expr} {es : List Expr} {ta : TA} {p0 p1 p2 pos pos' : Pos}
theorem sup_core (S : SupF X.prog X.K F f D f2 m) (hF : X.env.scope = F.scope ∧ X.env.func = some f ∧ X.env.code = .ref F.c ∧ X.env.cells = F.cl) (hmg : X.mg "super" = none) (hat : (m == ("__class__" : Str)) = false)
    (hks : F.scope.names.lookup ("super" : Str) = some .globalImplicit) (hkc : F.scope.names.lookup ("__class__" : Str) = some .free) (hka : F.scope.names.lookup ("self" : Str) = some .local) (hN : X.N[0]? = some ("self" : Str))
    (hp : ∃ ar, (F.params.posonlyargs ++ F.params.args).head? = some ar ∧ ar.arg = "self") {body : List Stmt} {whole : Sem Value} {Q : Value → Shared → Prop}
    {pins : List (Addr × Obj)} {s : Shared} {σ : L2.St} {H : Hp} {x dx : Addr} {fs : List (Str × V)} (I : Inv X pins σ H s) (hs : σ[0]? = some (some (.ref x))) (hx : H x = some (.ins D dx fs))
    (h : ∀ (so : Addr) (s' : Shared), Inv X pins σ H s' → s'.heap.get? so = some { cls := .type "super", dict := none, data := .fields #[.ref D, .ref x, .ref D], slots := #[] } → Q (.ref so) s') :
    PySem.wpAt (model X.prog X.w) X.A (.func body X.env) (attributeBase (.Call (.Name "super" p0) [] [] p1) m X.env whole) Q X.xe s := by
  obtain ⟨hsc, hfu, hco, hce⟩ := hF
  obtain ⟨oc, od, doc, pm, ct, osl, lf⟩ := S.fn
  obtain ⟨occ, occd, vs, ccs, file, tf, lc, hvs, hfile⟩ := S.code
  obtain ⟨cc, cl, cld, csl, ecl, lcell⟩ := S.cell
  obtain ⟨cdD, hD⟩ := S.cls
  obtain ⟨ar, ha1, ha2⟩ := hp
  have KX := I.kIn
  obtain ⟨oD, hD1, hD2⟩ : ∃ oD, s.heap.get? D = some oD ∧ oD.data = .cls cdD := by
    unfold PySem.W.clsIn at hD
    split at hD
    · rename_i c d cd' sl ho
      cases hD
      exact ⟨_, KX _ _ ho, rfl⟩
    · cases hD
  have kks : X.env.kindOf "super" = some .globalImplicit := by
    show X.env.scope.names.lookup ("super" : Str) = _
    rw [hsc]; exact hks
  have kkc : X.env.kindOf "__class__" = some .free := by
    show X.env.scope.names.lookup ("__class__" : Str) = _
    rw [hsc]; exact hkc
  have kka : X.env.kindOf "self" = some .local := by
    show X.env.scope.names.lookup ("self" : Str) = _
    rw [hsc]; exact hka
  obtain ⟨mb, b1, b2⟩ := I.mod.blt
  obtain ⟨mA, O, _, _, _, _⟩ := ins_get I.hok hx
  obtain ⟨odx, J, _⟩ := O.look
  obtain ⟨ml, hns, hl⟩ := I.loc
  have vself : ml "self" = some (.ref x) := by
    obtain ⟨u, ru, lk⟩ := hl 0 "self" (.ref x) hN hs (.inl (by rw [hsc]; exact hka))
    cases ru
    rcases lk with ⟨_, e1⟩ | ⟨z, _⟩
    · exact e1
    · rw [kka] at z
      rcases z with z | z <;> cases z
  refine ks_wpAt_super_base (env := X.env) kks kkc hat hfu (KX _ _ lf) rfl ha1 hco (KX _ _ lc) rfl hvs hfile S.top ?_
  refine PySem.W.ks_loadName_global I.ok.kind kks (Calls.loadGlobal_builtin (by rw [I.ok.glob]; exact I.mod.glob.keeps I.bk) hmg (by rw [I.ok.blt]; exact b1.keeps I.bk) ((b2 "super" (by decide +kernel)).trans (by decide +kernel : bootBuiltins "super" = some (.type "super"))) ⟨rfl, ?_⟩)
  refine wpAny_loadName_free I.ok.kind kkc (by rw [hce, ecl]; rfl) ⟨_, KX _ _ lcell, rfl⟩ ?_
  rw [ha2]
  refine wpAny_loadName_local I.ok.kind kka hns vself ?_
  refine ks_wpAny_isType_cls hD1 hD2 ⟨rfl, ?_⟩
  obtain ⟨hh, g, dr, t, os⟩ := s
  refine ks_wpAny_call_super hD1 hD2 J.at_ J.cls (fun c e => ?_) (PySem.W.looks_mroIn KX S.sub) (fun h' eso kk => ?_)
  · have z := J.no
    unfold PySem.W.notCls at z
    rw [e] at z
    exact Bool.noConfusion z
  exact h _ _ (I.kept (t' := t) kk) eso
theorem sup_facts (S : SupF X.prog X.K F f D f2 m) {pins : List (Addr × Obj)} {s : Shared} {σ : L2.St} {H : Hp} {x dx : Addr} {fs : List (Str × V)} (I : Inv X pins σ H s) (hx : H x = some (.ins D dx fs)) :
    PySem.W.Looks (model X.prog X.w) s.heap (opaqueClassAbove (.ref D)) none ∧ ∃ (l0 : List Value) (of : Obj), PySem.W.Looks (model X.prog X.w) s.heap (mroOf (.ref D)) l0 ∧ PySem.W.alongIn X.K m ((l0.dropWhile (· != .ref D)).drop 1) = some (some (.ref f2)) ∧ s.heap.get? f2 = some of ∧ of.cls = .type "function" ∧ x ≠ D := by
  obtain ⟨cdD, hD⟩ := S.cls
  have KX2 := I.kIn
  have hm := S.sup
  unfold PySem.W.ks_superIn at hm
  rw [hD] at hm
  obtain ⟨of, hof, hofc⟩ : ∃ of, s.heap.get? f2 = some of ∧ of.cls = .type "function" := by
    have ht' : (X.K.lookup f2).map (·.cls) = some (.type "function") := S.ty
    cases z : X.K.lookup f2 with
    | none => rw [z] at ht'; cases ht'
    | some of => rw [z] at ht'; exact ⟨of, KX2 _ _ z, Option.some.inj ht'⟩
  obtain ⟨mA, O, _, _, _, _⟩ := ins_get I.hok hx
  obtain ⟨odx, J, _⟩ := O.look
  exact ⟨PySem.W.looks_opaque KX2 S.op, cdD.mro, of, fun A Q E s k q => wpAny_bind ((PySem.W.looks_clsIn KX2 hD) A _ E s k (wpAny_pure q)), hm, hof, hofc, PySem.W.ks_ne KX2 J hD⟩
theorem sup_meth (S : SupF X.prog X.K F f D f2 m) (hat : (m == ("__class__" : Str)) = false) {pl : Sem Bool} {Q : Value × List Value → Shared → Prop}
    {pins : List (Addr × Obj)} {s : Shared} {σ : L2.St} {H : Hp} {x dx so : Addr} {fs : List (Str × V)} (I : Inv X pins σ H s) (hx : H x = some (.ins D dx fs))
    (eso : s.heap.get? so = some { cls := .type "super", dict := none, data := .fields #[.ref D, .ref x, .ref D], slots := #[] })
    (h : ∀ (q : Addr) (s' : Shared), H q = none → Inv X pins σ (upd H q (.met f2 x)) s' → Q (.ref q, []) s') : wpAny (model X.prog X.w) X.A (getMethod (.ref so) m pl) Q X.xe s := by
  obtain ⟨h1, l0, of, h2, hm, hof, hofc, hne⟩ := sup_facts S I hx
  have KX := I.kIn
  obtain ⟨h', g, dr, t, os⟩ := s
  refine ks_wpAny_getMethod_super eso h1 h2 rfl KX hm hof hofc hne hat ?_
  refine h h'.objs.size _ (I.hok.fresh (Nat.le_refl _)) ?_
  exact I.laid (t' := t + 1) (a := h'.objs.size) (o := .met f2 x) (fun b u z => Heap.get?_push_of_some _ z) (Nat.le_refl _)
    (show (h'.push (PySem.W.methodObj (.ref f2) (.ref x))).get? h'.objs.size = some (PySem.W.methodObj (.ref f2) (.ref x)) from Heap.get?_push_size h' rfl)
theorem getAttr_super {prog : Program} {w : World} {A : Around} {E : Value → Shared → Prop} {h : Heap} {g : Array GenState} {d : Drawn} {t : Nat} {os : OsState} {so D x C f : Addr} {of : Obj} {l₀ l : List Value} {K : PySem.W.Frag} {name : Str} {b : Bool} {Q : Value → Shared → Prop}
    (hso : h.get? so = some { cls := .type "super", dict := none, data := .fields #[.ref D, .ref x, .ref C], slots := #[] }) (hno : PySem.W.Looks (model prog w) h (opaqueClassAbove (.ref C)) none)
    (hC : PySem.W.Looks (model prog w) h (mroOf (.ref C)) l₀) (hl : (l₀.dropWhile (· != .ref D)).drop 1 = l) (X : K.In h)
    (hf : PySem.W.alongIn K name l = some (some (.ref f))) (hfo : h.get? f = some of) (hfc : of.cls = .type "function") (hxC : x ≠ C) (hn : (name == ("__class__" : Str)) = false)
    (hq : Q (.ref h.objs.size) ⟨h.push { cls := .type "method", data := .fields #[.ref f, .ref x] }, g, d, t + 1, os⟩) :
    wpAny (model prog w) A (getAttr (.ref so) name b) Q E ⟨h, g, d, t, os⟩ := by
  have hlk := F.ks_slot_super_ga.lookup
  have hT : ∀ t', (⟨h, g, d, t', os⟩ : Shared).TypeIs (.ref so) "super" := fun _ => ⟨_, hso, rfl⟩
  unfold getAttr getAttrBy
  refine wpAny_bind (wpAny_mkText (wpAny_holding (wpAny_bind (wpAny_typeOf (hT _) (wpAny_bind (wpAny_of_eq hlk ?_))))))
  show wpAny _ _ (getAttrByItsOwn (.ref so) (.str name t) (.type "super") (.builtin "super.__getattribute__") true b) _ _ _
  unfold getAttrByItsOwn hookBefore callGetattribute boundAndCalled
  refine wpAny_bind (wpAny_of_eq (show (if onTheHeap (.type "super") then typeLookup (.type "super") "__getattr__" else pure none) = pure none from rfl) ?_)
  refine wpAny_bind (wpAny_attempt (wpAny_holding ?_))
  have e0 : (b && onTheHeap (Value.builtin "super.__getattribute__")) = false := by cases b <;> rfl
  rw [e0, if_neg Bool.false_ne_true]
  refine wpAny_bind (wpAny_of_eq (F.ks_slot_super_ga.bind _) ?_)
  refine wpAny_mono (Q := fun v s' => v = .ref h.objs.size ∧ s' = ⟨h.push { cls := .type "method", data := .fields #[.ref f, .ref x] }, g, d, t + 1, os⟩) (E := fun _ _ => False)
    (wpAny_call_entry F.ks_slot_super_ga (hT _) F.ks_entry_super_ga (ks_wpAny_super_ga hso hno hC hl X hf hfo hfc hxC hn ⟨_, rfl, rfl, rfl⟩) (F.ks_gaArgs_super _ _)) (fun v s' hv => ?_) fun _ _ z => z.elim
  obtain ⟨rfl, rfl⟩ := hv
  exact wpAny_pure hq
/-- super().m(e, ..) as a statement -/
theorem ps_sup (S : SupF X.prog X.K F f D f2 m) (hF : X.env.scope = F.scope ∧ X.env.func = some f ∧ X.env.code = .ref F.c ∧ X.env.cells = F.cl) (hmg : X.mg "super" = none) (F2 : FnR X.prog X.w X.K X.mg X.base CX0 k f2 sp) (hr : Room k X.A) (ha : PA X (e :: es) ta)
    (hp : ∃ ar, (F.params.posonlyargs ++ F.params.args).head? = some ar ∧ ar.arg = "self") (hat : (m == ("__class__" : Str)) = false := by decide)
    (hks : F.scope.names.lookup ("super" : Str) = some .globalImplicit := by rfl) (hkc : F.scope.names.lookup ("__class__" : Str) = some .free := by rfl) (hka : F.scope.names.lookup ("self" : Str) = some .local := by rfl) (hN : X.N[0]? = some ("self" : Str) := by rfl)
    {pl : Sem Bool} (he : eval (.Call (.Attribute (.Call (.Name "super" p0) [] [] p1) m p2) (e :: es) [] pos) X.env = (do
      let ov ← attributeBase (.Call (.Name "super" p0) [] [] p1) m X.env (eval (.Call (.Name "super" p0) [] [] p1) X.env)
      standAt p2.atName
      let (f, first) ← holding [ov] (getMethod ov m pl)
      callWith pos f first (backTo pos (starEach (e :: es) X.env)) []) := by rfl)
    (hst : starEach (e :: es) X.env = (false, eval e X.env) :: starEach es X.env := by rfl) (hpl : (backTo pos (starEach es X.env)).any (·.1) = false := by rfl)
    (hsw : swapsWith (.Call (.Attribute (.Call (.Name "super" p0) [] [] p1) m p2) (e :: es) [] pos) none pos'.line X.env = pure false := by rfl) :
    PSAt X (.func F.body X.env) (.Expr (.Call (.Attribute (.Call (.Name "super" p0) [] [] p1) m p2) (e :: es) [] pos) pos') (tDrop (tSup D f2 sp ta)) := by
  refine ⟨fun pins s σ H Dn I h => ?_⟩
  obtain ⟨x, dx, fs, hs, hx, q⟩ := h
  refine ks_wpAt_Expr_any (ks_wpAt_MethodCall (pl := pl) (sup_core S hF hmg hat hks hkc hka hN hp I hs hx fun so s0 I0 eso => sup_meth S hat I0 hx eso fun q1 s1 hq1 I1 => ?_) he) I.quiet hsw
  refine callwith_met (a := x) (by rw [hst]; show ((false || (backTo pos (starEach es X.env)).any (·.1)) || false) = false; rw [hpl]; rfl) S.fi ?_
  have hrun := ha.run pos pins s1 σ _ _ I1 (q q1 hq1)
  rw [hst] at hrun ⊢
  refine Calls.evalArgs_plain (thn hrun fun us s2 ⟨vs, H2, I2, rv, hm2, q2⟩ => ?_)
  refine ⟨met_P I2 hm2, ?_⟩
  refine wpAny_call (PySem.W.method_call (met_P I2 hm2).1 (codeAny_mono (run_fnR (us := .ref x :: us) (vs := .ref x :: vs) F2 hr pass0 I2 (.cons rfl rv) q2) fun r s' hr' => ?_))
  cases r with
  | error e => exact hr'
  | ok fl =>
    cases fl with
    | ret u =>
      obtain ⟨v, H', I', _, q'⟩ := hr'
      exact ⟨σ, H', I', q'⟩
    | next => exact hr'
    | brk => exact hr'
    | cont => exact hr'
end
/-- super().m(*e), e a tuple or a list -/
def tSupS (K : PySem.W.Frag) (D f2 : Addr) (sp : Sp) (te : TE) : TE := fun σ H Q => ∃ (x dx : Addr) (fs : List (Str × V)), σ[0]? = some (some (.ref x)) ∧ H x = some (.ins D dx fs) ∧
  ∀ q, H q = none → te σ (upd H q (.met f2 x)) fun y H1 => ∃ b vs, y = .ref b ∧ (SqT K H1 b vs ∨ SqL K H1 b vs) ∧ H1 q = some (.met f2 x) ∧ sp (.ref x :: vs) H1 Q E0
section
variable {X : Cx} {F : NF} {f D f2 : Addr} {m : Str} {sp : Sp} {k : Nat} {e : Expr} {te : TE} {p p0 p1 p2 pos pos' : Pos}
theorem ps_supS (S : SupF X.prog X.K F f D f2 m) (hF : X.env.scope = F.scope ∧ X.env.func = some f ∧ X.env.code = .ref F.c ∧ X.env.cells = F.cl) (hmg : X.mg "super" = none) (F2 : FnR X.prog X.w X.K X.mg X.base CX0 k f2 sp) (hr : Room k X.A) (ha : PE X e te)
    (hp : ∃ ar, (F.params.posonlyargs ++ F.params.args).head? = some ar ∧ ar.arg = "self") (hat : (m == ("__class__" : Str)) = false := by decide)
    (hks : F.scope.names.lookup ("super" : Str) = some .globalImplicit := by rfl) (hkc : F.scope.names.lookup ("__class__" : Str) = some .free := by rfl) (hka : F.scope.names.lookup ("self" : Str) = some .local := by rfl) (hN : X.N[0]? = some ("self" : Str) := by rfl)
    (hsw : swapsWith (.Call (.Attribute (.Call (.Name "super" p0) [] [] p1) m p2) [.Starred e p] [] pos) none pos'.line X.env = pure false := by rfl) :
    PSAt X (.func F.body X.env) (.Expr (.Call (.Attribute (.Call (.Name "super" p0) [] [] p1) m p2) [.Starred e p] [] pos) pos') (tDrop (tSupS X.K D f2 sp te)) := by
  refine ⟨fun pins s σ H Dn I h => ?_⟩
  obtain ⟨x, dx, fs, hs, hx, q⟩ := h
  have hse : starEach [.Starred e p] X.env = [(true, eval e X.env)] := rfl
  have hke : backToKw pos (keywordEach [] X.env) = [] := rfl
  have hform : methodCallForm ([Expr.Starred e p].length + ([] : List Keyword).length) (backTo pos [(true, eval e X.env)]) [] = false := rfl
  have hpos : methodCallPos false (.Call (.Name "super" p0) [] [] p1) X.env p2 pos = pure pos := rfl
  have hcal : ∀ ov, calleeOf false (.Call (.Name "super" p0) [] [] p1) X.env ov m = (getAttr ov m true >>= fun v => pure (v, [])) := fun _ => rfl
  refine ks_wpAt_Expr_any ?_ I.quiet hsw
  rw [arm_eval_Call, hse, hke]
  refine PySem.wpAt_bind (sup_core S hF hmg hat hks hkc hka hN hp I hs hx fun so s0 I0 eso => ?_)
  refine PySem.wpAt_of_wpAny ?_
  refine wpAny_bind (wpAny_standAt ?_)
  unfold methodCall
  rw [hform, hpos, hcal]
  obtain ⟨h1, l0, of, h2, hm, hof, hofc, hne⟩ := sup_facts S I0 hx
  have KX := I0.kIn
  obtain ⟨h', g, dr, t, os⟩ := s0
  refine wpAny_bind (wpAny_holding (wpAny_bind (getAttr_super eso h1 h2 rfl KX hm hof hofc hne hat (wpAny_pure ?_))))
  have hq1 := I0.hok.fresh (Nat.le_refl _)
  have I1 : Inv X pins σ (upd H h'.objs.size (.met f2 x)) ⟨h'.push (PySem.W.methodObj (.ref f2) (.ref x)), g, dr, t + 1, os⟩ :=
    I0.laid (t' := t + 1) (a := h'.objs.size) (o := .met f2 x) (fun b u z => Heap.get?_push_of_some _ z) (Nat.le_refl _)
      (show (h'.push (PySem.W.methodObj (.ref f2) (.ref x))).get? h'.objs.size = some (PySem.W.methodObj (.ref f2) (.ref x)) from Heap.get?_push_size h' rfl)
  refine wpAny_bind (wpAny_pure ?_)
  refine PySem.W.ks_call (P := PySem.W.MethP X.K h'.objs.size f2 (.ref x)) rfl (PySem.W.keeps_M S.fi) (PySem.W.ks_lone ?_)
  refine thn (ha.run pins _ σ _ _ I1 (q _ hq1)) fun v s3 ⟨y, H2, I3, ry, b, vs, ey, ht, hm2, hsp⟩ => ?_
  subst ey
  obtain rfl : v = Value.ref b := ry
  refine StX.star_any I3 ht fun us s4 I4 rv => ⟨met_P I4 hm2, ?_⟩
  refine wpAny_call (PySem.W.method_call (met_P I4 hm2).1 (codeAny_mono (run_fnR (us := .ref x :: us) (vs := .ref x :: vs) F2 hr pass0 I4 (.cons rfl rv) hsp) fun r s' hr' => ?_))
  cases r with
  | error e => exact hr'
  | ok fl =>
    cases fl with
    | ret u =>
      obtain ⟨v, H', I', _, q'⟩ := hr'
      exact ⟨σ, H', I', q'⟩
    | next => exact hr'
    | brk => exact hr'
    | cont => exact hr'
end
section
variable {P : Program} {w : World} {K : PySem.W.Frag} {mg : Str → Option Value} {base : Heap} {F : NF} {f D f2 : Addr} {m : Str} {N ps : List Str} {sp : Sp} {k : Nat}
theorem cell_at (U : SupF P K F f D f2 m) {A : Around} {outer : List Env} {s : Shared} {H : Hp} (e0 : Env0 P w K mg base A outer s H) : CellsAt F.cl [("__class__" : Str)] [some (.ref D)] s.heap H := by
  obtain ⟨cc, oc, od, sl, ecl, lc⟩ := U.cell
  obtain ⟨h1, h2⟩ := e0.bs cc _ (e0.mod.kin _ _ lc)
  have one : ∀ y c, F.cl.lookup y = some c → y = ("__class__" : Str) ∧ c = cc := fun y c e => by
    rw [ecl] at e
    by_cases q : y = ("__class__" : Str)
    · subst q
      have z : ([(("__class__" : Str), cc)] : List (Str × Addr)).lookup ("__class__" : Str) = some cc := by simp [List.lookup]
      rw [z] at e
      exact ⟨rfl, (Option.some.inj e).symm⟩
    · have z : (y == ("__class__" : Str)) = false := by simpa using q
      simp [List.lookup, z] at e
  refine ⟨rfl, fun y c e => ?_, fun x y c e1 e2 => (one x c e1).1.trans (one y c e2).1.symm, fun i y hi => ?_⟩
  · obtain ⟨rfl, rfl⟩ := one y c e
    exact ⟨h2, _, _, h1, rfl⟩
  · match i, hi with
    | 0, hi =>
      cases hi
      refine ⟨cc, by rw [ecl]; simp [List.lookup], fun v hv => ?_⟩
      cases hv
      exact ⟨_, rfl, _, h1, rfl⟩
    | i + 1, hi => simp at hi
/-- THE RULE for a method that says super() -/
theorem fnS_of (S : NScope N ps ["__class__"] F.scope) (U : SupF P K F f D f2 m) {doc pm ct oc : Value} {od : Option Addr} {osl : Array (Option Value)} (lf : K.lookup f = some ⟨oc, od, .func (F.fd doc pm ct), osl⟩) (len : ∀ vs H Q E, sp vs H Q E → vs.length = ps.length)
    (hbody : ∀ (A : Around) (outer : List Env) (s : Shared) (H : Hp) (vs : List V) (Q : VK) (E : XK), Room k (A.deeper (envF F f s.heap.objs.size)) → sp vs H Q E →
      ∃ t, PSsAt (ncx CX0 P w K mg base N F f A outer s H E) (.func F.body (ncx CX0 P w K mg base N F f A outer s H E).env) F.body t ∧ t { nx := fun _ H' => Q .non H', rt := Q } (startF N vs [some (.ref D)]) H) :
    FnOk P w K mg base CX0 (k + 1) f (F.fd doc pm ct) ps sp := by
  refine ⟨len, fun A outer s H args us vs Q E hr e0 hb r hsp => ?_⟩
  have hl := len _ _ _ _ hsp
  have KX : K.In s.heap := e0.mod.kin.keeps fun b o e => (e0.bs b o e).1
  have lim : s.heap.NoLimit := e0.mod.nolimit.keeps fun b o e => (e0.bs b o e).1
  have hloc : ∀ x ∈ ps.zip us, F.scope.names.lookup x.1 = some .local := fun ⟨n, v⟩ hy => S.par n (List.of_mem_zip hy).1
  refine ks_codeAny_call_defAt (fd := F.fd doc pm ct) (body := F.body) (binds := ps.zip us) hr.depth (KX _ _ lf) rfl lim (PySem.W.codeRec_of KX U.cd) rfl hb S.nocell hloc (fun h₁ hns kp => ?_) S.co S.gen S.kind
  obtain ⟨t, ht, hq⟩ := hbody A outer s H vs Q E (hr.deeper _) hsp
  have I : Inv (ncx CX0 P w K mg base N F f A outer s H E) [] (startF N vs [some (.ref D)]) H { s with heap := h₁, toks := s.toks + (ps.zip us).length } := inv_startN S hr.hd e0 hl r (cell_at U e0) hns kp
  refine PySem.wpAt_mono (ht.run [] _ (startF N vs [some (.ref D)]) H _ I hq) (fun fl s' hs => ?_) fun e s' hs => hs
  have fin : ∀ {σ' : L2.St} {H' : Hp} {v : V} {u : Value}, Inv (ncx CX0 P w K mg base N F f A outer s H E) [] σ' H' s' → L2.RelV v u → Q v H' → CE outer P w H s Q u s' :=
    fun {σ' H' v u} J rv q => ⟨v, H', J.os, J.bare, J.base, J.hok, rv, q⟩
  cases fl with
  | ret u =>
    obtain ⟨v, σ', H', J, rv, q⟩ := hs
    exact fin J rv q
  | next =>
    obtain ⟨σ', H', J, q⟩ := hs
    exact fin (v := V.non) (u := Value.none) J rfl q
  | brk =>
    obtain ⟨_, _, _, q⟩ := hs
    exact False.elim q
  | cont =>
    obtain ⟨_, _, _, q⟩ := hs
    exact False.elim q
end
/-! ### calls whose class is known at the run alone -/
section
variable {X : Cx} {k : Nat} {fe e o : Expr} {es : List Expr} {tf ta : TE} {t : TA} {pos apos : Pos} {m : Str} {f : Addr} {sp : Sp}
def tCallD (X : Cx) (k : Nat) (tf : TE) (t : TA) : TE := fun σ H Q => tf σ H fun y H1 => ∃ a, y = V.ref a ∧ t σ H1 fun vs H2 => ∃ (C g : Addr) (sp : Sp), StX.CallO X.K C g ∧ FnR X.prog X.w X.K X.mg X.base CX0 k g sp ∧ (∃ dx fs, H2 a = some (.ins C dx fs)) ∧ sp (V.ref a :: vs) H2 Q E0
theorem pe_callD (hf : PE X fe tf) (hr : Room k X.A) (ha : PA X (e :: es) t)
    (ht : eval (.Call fe (e :: es) [] pos) X.env = (do callWith pos (← eval fe X.env) [] (backTo pos (starEach (e :: es) X.env)) (backToKw pos (keywordEach [] X.env))) := by rfl)
    (he : starEach (e :: es) X.env = (false, eval e X.env) :: starEach es X.env := by rfl) (hpl : (backTo pos (starEach es X.env)).any (·.1) = false := by rfl) : PE X (.Call fe (e :: es) [] pos) (tCallD X k tf t) := by
  refine ⟨fun pins s σ H Q I h => ?_⟩
  refine PyProof.Rows.Call_ (thn (hf.run pins s σ H _ I h) fun u s1 ⟨y, H1, I1, ry, a, ey, q⟩ => ?_) ht
  subst ey
  obtain rfl : u = Value.ref a := ry
  refine StX.callO_with (thn (ha.run pos pins s1 σ H1 _ I1 q) fun us s2 ⟨vs, H2, I2, r, C, g, sp, c, F, hi, q2⟩ => ?_) he hpl
  obtain ⟨ox, od, J, hd⟩ := StX.insC_at (X := X) I2 (.inr hi)
  exact ⟨⟨C, ox, od, J, hd⟩, StX.run_callO c F hr pass0 I2 (.inr hi) r q2⟩
def tMethD (K : PySem.W.Frag) (m : Str) (f : Addr) (sp : Sp) (ta : TE) (t : TA) : TE := fun σ H Q => ta σ H fun x H1 => ∃ a C dx fs, x = .ref a ∧ H1 a = some (.ins C dx fs) ∧ Cls K C ∧ Meth K C m f ∧ fs.lookup m = none ∧ t σ H1 fun vs H2 => sp (x :: vs) H2 Q E0
theorem pe_methD {pl : Sem Bool} (he : PE X o ta) (hk : PySem.W.keepIn X.K (.ref f) = true) (F : FnR X.prog X.w X.K X.mg X.base CX0 k f sp) (hr : Room k X.A) (ha : PA X (e :: es) t)
    (hst : starEach (e :: es) X.env = (false, eval e X.env) :: starEach es X.env := by rfl) (hpl : (backTo pos (starEach es X.env)).any (·.1) = false := by rfl)
    (ht : eval (.Call (.Attribute o m apos) (e :: es) [] pos) X.env = (do
      let ov ← eval o X.env
      standAt apos.atName
      let (f, first) ← holding [ov] (getMethod ov m pl)
      callWith pos f first (backTo pos (starEach (e :: es) X.env)) (backToKw pos (keywordEach [] X.env))) := by rfl) :
    PE X (.Call (.Attribute o m apos) (e :: es) [] pos) (tMethD X.K m f sp ta t) := by
  refine ⟨fun pins s σ H Q I h => ?_⟩
  refine PySem.W.methodCall_KW (pl := pl) (thn (he.run pins s σ H _ I h) fun u s1 ⟨x, H1, I1, rx, a, C, dx, fs, ex, ea, c, hm, l, q⟩ => ?_) ht
  subst ex
  obtain rfl : u = Value.ref a := rx
  refine getmeth_ok I1 ea c hm l ?_
  refine PySem.W.callWith_K (first := [.ref a]) (h₀ := X.base) I.ok.mod.kin hk (thn (ha.run pos pins s1 σ H1 _ I1 q) fun us s2 ⟨vs, H2, I2, r, q2⟩ => ⟨I2.kIn, ?_⟩) hst hpl
  exact wpAny_call (codeAny_mono (run_fnR (us := .ref a :: us) (vs := .ref a :: vs) F hr pass0 I2 (.cons rfl r) q2) fun r s' h => h)
theorem pe_methD0 {pl : Sem Bool} (he : PE X o ta) (hk : PySem.W.keepIn X.K (.ref f) = true) (F : FnR X.prog X.w X.K X.mg X.base CX0 k f sp) (hr : Room k X.A)
    (ht : eval (.Call (.Attribute o m apos) [] [] pos) X.env = (do
      let ov ← eval o X.env
      standAt apos.atName
      let (f, first) ← holding [ov] (getMethod ov m pl)
      callWith pos f first (backTo pos (starEach [] X.env)) (backToKw pos (keywordEach [] X.env))) := by rfl) :
    PE X (.Call (.Attribute o m apos) [] [] pos) (tMethD X.K m f sp ta tNil) := by
  refine ⟨fun pins s σ H Q I h => ?_⟩
  refine PySem.W.methodCall_KW (pl := pl) (thn (he.run pins s σ H _ I h) fun u s1 ⟨x, H1, I1, rx, a, C, dx, fs, ex, ea, c, hm, l, q⟩ => ?_) ht
  subst ex
  obtain rfl : u = Value.ref a := rx
  refine getmeth_ok I1 ea c hm l ?_
  refine PySem.W.callWith_K0 (first := [.ref a]) I1.kIn hk ?_
  exact wpAny_call (codeAny_mono (run_fnR (us := [.ref a]) (vs := [.ref a]) F hr pass0 I1 (.cons rfl .nil) q) fun r s' h => h)
/-- o.m(e, ..), m a field of the instance that holds an instance of a class that may be called -/
def tCallFD (X : Cx) (k : Nat) (m : Str) (to : TE) (t : TA) : TE := fun σ H Q => to σ H fun x H1 => ∃ (b D dx : Addr) (fs : List (Str × V)) (a : Addr), x = V.ref b ∧ H1 b = some (.ins D dx fs) ∧ Cls X.K D ∧ NoAttr X.K D m ∧ fs.lookup m = some (.ref a) ∧
  t σ H1 fun vs H2 => ∃ (C g : Addr) (sp : Sp), StX.CallO X.K C g ∧ FnR X.prog X.w X.K X.mg X.base CX0 k g sp ∧ (∃ dx fs, H2 a = some (.ins C dx fs)) ∧ sp (V.ref a :: vs) H2 Q E0
theorem pe_callFD {pl : Sem Bool} (ho : PE X o ta) (hr : Room k X.A) (ha : PA X (e :: es) t)
    (ht : eval (.Call (.Attribute o m apos) (e :: es) [] pos) X.env = (do
      let ov ← eval o X.env
      standAt apos.atName
      let (f, first) ← holding [ov] (getMethod ov m pl)
      callWith pos f first (backTo pos (starEach (e :: es) X.env)) (backToKw pos (keywordEach [] X.env))) := by rfl)
    (he : starEach (e :: es) X.env = (false, eval e X.env) :: starEach es X.env := by rfl) (hpl : (backTo pos (starEach es X.env)).any (·.1) = false := by rfl) : PE X (.Call (.Attribute o m apos) (e :: es) [] pos) (tCallFD X k m ta t) := by
  refine ⟨fun pins s σ H Q I h => ?_⟩
  refine PySem.W.methodCall_KW (pl := pl) (thn (ho.run pins s σ H _ I h) fun u s1 ⟨x, H1, I1, rx, b, D, dx, fs, a, ex, eb, c, n, l, q⟩ => ?_) ht
  subst ex
  obtain rfl : u = Value.ref b := rx
  refine getmeth_fld I1 eb c n l fun v s2 I2 rv => ?_
  obtain rfl : v = Value.ref a := rv
  refine StX.callO_with (thn (ha.run pos pins s2 σ H1 _ I2 q) fun us s3 ⟨vs, H2, I3, r, C, g, sp, c, F, hi, q2⟩ => ?_) he hpl
  obtain ⟨ox, od, J, hd⟩ := StX.insC_at (X := X) I3 (.inr hi)
  exact ⟨⟨C, ox, od, J, hd⟩, StX.run_callO c F hr pass0 I3 (.inr hi) r q2⟩
end
theorem cls_of {K : PySem.W.Frag} {C : Addr} {oc : Value} {od : Option Addr} {cd : ClassData} {sl : Array (Option Value)} (h : K.lookup C = some ⟨oc, od, .cls cd, sl⟩) : PySem.W.clsIn K C = some cd := by
  unfold PySem.W.clsIn
  rw [h]
theorem kit_own {K : PySem.W.Frag} {C R : Addr} {oc : Value} {od : Option Addr} {cd : ClassData} {sl : Array (Option Value)} (x : K.lookup R = some ⟨oc, od, .cls cd, sl⟩) (t : PySem.W.typeIn K (.ref R) = some (.type "type")) (h : PySem.W.subIn K (.ref C) (.ref R) = some true) : PySem.W.kitOne K (.ref C) (.ref R) = some true := by
  unfold PySem.W.kitOne
  by_cases q : ((Value.ref C : Value) == Value.ref R) = true
  · rw [if_pos q]
  · rw [if_neg q]
    show (if ((PySem.W.clsIn K R).isSome && PySem.W.typeIn K (.ref R) == some (.type "type")) = true then PySem.W.subIn K (.ref C) (.ref R) else none) = some true
    rw [cls_of x, t, if_pos (by simp)]
    exact h
theorem sup_of {K : PySem.W.Frag} {C R f : Addr} {oc oc2 : Value} {od od2 : Option Addr} {cd cd2 : ClassData} {sl sl2 : Array (Option Value)} {m : Str} (h : K.lookup C = some ⟨oc, od, .cls cd, sl⟩) (e : (cd.mro.dropWhile (· != .ref C)).drop 1 = cd2.mro) (h2 : K.lookup R = some ⟨oc2, od2, .cls cd2, sl2⟩)
    (hf : PySem.W.findIn K (.ref R) m = some (some (.ref f))) : PySem.W.ks_superIn K C C m = some (some (.ref f)) := by
  unfold PySem.W.ks_superIn
  rw [cls_of h]
  show PySem.W.alongIn K m ((cd.mro.dropWhile (· != .ref C)).drop 1) = _
  rw [e]
  have hf' : (match K.lookup R with | some ⟨_, _, .cls cd, _⟩ => PySem.W.alongIn K m cd.mro | _ => none) = some (some (.ref f)) := hf
  rw [h2] at hf'
  exact hf'
end LS

namespace RM
/-- the plan of a rest -/
inductive Pl where
  | win (w : Int)
  | days (bs : List Int) (e : Int)
  | lat (p q : Pl)
  | soo (p q : Pl)
  | nex (p q : Pl)
def lastOf (bs : List Int) : Int := bs.getLastD 0
def dayAt (bs : List Int) (e t : Int) : Int := match bs.find? (fun b => decide (b > t)) with
  | some b => b
  | none => lastOf bs + ((t - lastOf bs) / e + 1) * e
def Pl.at : Pl → Int → Int
  | .win w, t => t + w
  | .days bs e, t => dayAt bs e t
  | .lat p q, t => if q.at t > p.at t then q.at t else p.at t
  | .soo p q, t => if q.at t < p.at t then q.at t else p.at t
  | .nex p q, t => q.at (p.at t)
def Pl.leaves : Pl → Nat
  | .win _ => 1
  | .days _ _ => 1
  | .lat p q => p.leaves + q.leaves
  | .soo p q => p.leaves + q.leaves
  | .nex p q => p.leaves + q.leaves
def Pl.forms : Pl → Int
  | .win _ => 1
  | .days _ _ => 1
  | .lat p q => 1 + p.forms + q.forms
  | .soo p q => 1 + p.forms + q.forms
  | .nex p q => 1 + p.forms + q.forms
def lcmI (a b : Int) : Int := ((a.natAbs.lcm b.natAbs : Nat) : Int)
def Pl.per : Pl → Int
  | .win _ => 1
  | .days _ e => e
  | .lat p q => lcmI p.per q.per
  | .soo p q => lcmI p.per q.per
  | .nex p q => lcmI p.per q.per
def maxI (a b : Int) : Int := if b > a then b else a
def Pl.bend : Pl → Int
  | .win _ => 0
  | .days bs _ => lastOf bs
  | .lat p q => maxI p.bend q.bend
  | .soo p q => maxI p.bend q.bend
  | .nex p q => maxI p.bend q.bend
def Pl.h : Pl → Nat
  | .win _ => 0
  | .days _ _ => 0
  | .lat p q => 1 + max p.h q.h
  | .soo p q => 1 + max p.h q.h
  | .nex p q => 1 + max p.h q.h
/-- borders that rise from n on -/
def Asc : Int → List Int → Prop
  | _, [] => True
  | n, b :: r => n ≤ b ∧ b ≤ 1000 ∧ Asc (b + 1) r
def Pl.ok (L : Nat) : Pl → Prop
  | .win w => 1 ≤ w ∧ w ≤ 1000
  | .days bs e => 1 ≤ e ∧ e ≤ 2000 ∧ e.natAbs ∣ L ∧ bs.length ≤ 12 ∧ Asc 1 bs
  | .lat p q => p.ok L ∧ q.ok L
  | .soo p q => p.ok L ∧ q.ok L
  | .nex p q => p.ok L ∧ q.ok L
theorem Pl.leaves_pos : ∀ p : Pl, 1 ≤ p.leaves
  | .win _ => Nat.le_refl _
  | .days _ _ => Nat.le_refl _
  | .lat p q => Nat.le_trans p.leaves_pos (Nat.le_add_right _ _)
  | .soo p q => Nat.le_trans p.leaves_pos (Nat.le_add_right _ _)
  | .nex p q => Nat.le_trans p.leaves_pos (Nat.le_add_right _ _)
theorem Pl.h_lt : ∀ p : Pl, p.h + 1 ≤ p.leaves
  | .win _ => Nat.le_refl _
  | .days _ _ => Nat.le_refl _
  | .lat p q => by have := p.h_lt; have := q.h_lt; simp only [Pl.h, Pl.leaves]; omega
  | .soo p q => by have := p.h_lt; have := q.h_lt; simp only [Pl.h, Pl.leaves]; omega
  | .nex p q => by have := p.h_lt; have := q.h_lt; simp only [Pl.h, Pl.leaves]; omega
theorem Pl.forms_eq : ∀ p : Pl, p.forms = 2 * p.leaves - 1
  | .win _ => rfl
  | .days _ _ => rfl
  | .lat p q => by have := p.forms_eq; have := q.forms_eq; simp only [Pl.forms, Pl.leaves]; omega
  | .soo p q => by have := p.forms_eq; have := q.forms_eq; simp only [Pl.forms, Pl.leaves]; omega
  | .nex p q => by have := p.forms_eq; have := q.forms_eq; simp only [Pl.forms, Pl.leaves]; omega
theorem Pl.ok_mono {L M : Nat} (d : L ∣ M) : ∀ p : Pl, p.ok L → p.ok M
  | .win _, h => h
  | .days _ _, h => ⟨h.1, h.2.1, Nat.dvd_trans h.2.2.1 d, h.2.2.2⟩
  | .lat p q, h => ⟨p.ok_mono d h.1, q.ok_mono d h.2⟩
  | .soo p q, h => ⟨p.ok_mono d h.1, q.ok_mono d h.2⟩
  | .nex p q, h => ⟨p.ok_mono d h.1, q.ok_mono d h.2⟩
theorem lcmI_dvd {a b : Int} {L : Nat} (h1 : a.natAbs ∣ L) (h2 : b.natAbs ∣ L) : (lcmI a b).natAbs ∣ L := by
  unfold lcmI
  rw [Int.natAbs_natCast]
  exact Nat.lcm_dvd h1 h2
theorem lcmI_pos {a b : Int} (h1 : 0 < a) (h2 : 0 < b) : 0 < lcmI a b := by
  unfold lcmI
  have := Nat.lcm_pos (m := a.natAbs) (n := b.natAbs) (by omega) (by omega)
  omega
theorem Pl.per_ok {L : Nat} : ∀ p : Pl, p.ok L → p.per.natAbs ∣ L ∧ 0 < p.per
  | .win _, _ => ⟨Nat.one_dvd _, (show (0 : Int) < 1 by decide)⟩
  | .days _ e, h => ⟨h.2.2.1, by have := h.1; simp only [Pl.per]; omega⟩
  | .lat p q, h => ⟨lcmI_dvd (p.per_ok h.1).1 (q.per_ok h.2).1, lcmI_pos (p.per_ok h.1).2 (q.per_ok h.2).2⟩
  | .soo p q, h => ⟨lcmI_dvd (p.per_ok h.1).1 (q.per_ok h.2).1, lcmI_pos (p.per_ok h.1).2 (q.per_ok h.2).2⟩
  | .nex p q, h => ⟨lcmI_dvd (p.per_ok h.1).1 (q.per_ok h.2).1, lcmI_pos (p.per_ok h.1).2 (q.per_ok h.2).2⟩
theorem Pl.per_le {L : Nat} (p : Pl) (h : p.ok L) (h0 : 0 < L) (h1 : L ≤ 2000) : 1 ≤ p.per ∧ p.per ≤ 2000 := by
  obtain ⟨d, q⟩ := p.per_ok h
  have := Nat.le_of_dvd h0 d
  omega
theorem Asc.all : ∀ {n : Int} {bs : List Int}, Asc n bs → ∀ b ∈ bs, n ≤ b ∧ b ≤ 1000
  | _, [], _, b, hb => by cases hb
  | n, c :: r, h, b, hb => by
    rcases List.mem_cons.mp hb with rfl | hb
    · exact ⟨h.1, h.2.1⟩
    · have := Asc.all h.2.2 b hb
      have := h.1
      omega
theorem lastOf_nil : lastOf [] = 0 := rfl
theorem lastOf_mem : ∀ {bs : List Int}, bs ≠ [] → lastOf bs ∈ bs
  | [], h => absurd rfl h
  | [b], _ => List.mem_singleton.mpr rfl
  | b :: c :: r, _ => by
    have := lastOf_mem (bs := c :: r) (by simp)
    exact List.mem_cons_of_mem _ this
theorem Asc.last {n : Int} : ∀ {bs : List Int}, Asc n bs → ∀ b ∈ bs, b ≤ lastOf bs
  | [], _, b, hb => by cases hb
  | [c], _, b, hb => by
    rw [List.mem_singleton] at hb
    rw [hb]
    exact Int.le_refl _
  | c :: d :: r, h, b, hb => by
    have ih := Asc.last (bs := d :: r) h.2.2
    show b ≤ lastOf (d :: r)
    rcases List.mem_cons.mp hb with rfl | hb
    · have := ih d (by simp)
      have := h.2.2.1
      omega
    · exact ih b hb
theorem Asc.last_bd {bs : List Int} (h : Asc 1 bs) : 0 ≤ lastOf bs ∧ lastOf bs ≤ 1000 := by
  by_cases e : bs = []
  · subst e
    exact ⟨Int.le_refl _, by decide⟩
  · have := h.all _ (lastOf_mem e)
    omega
/-- the greatest of 0 and the borders -/
theorem Asc.max {bs : List Int} (h : Asc 1 bs) {m : Int} (hm : m ∈ 0 :: bs) (hu : ∀ y ∈ 0 :: bs, y ≤ m) : m = lastOf bs := by
  have l0 := h.last_bd
  rcases List.mem_cons.mp hm with rfl | hm
  · by_cases e : bs = []
    · subst e; rfl
    · have := h.all _ (lastOf_mem e)
      have := hu _ (List.mem_cons_of_mem _ (lastOf_mem e))
      omega
  · have e : bs ≠ [] := fun z => by rw [z] at hm; cases hm
    have := h.last m hm
    have := hu _ (List.mem_cons_of_mem _ (lastOf_mem e))
    omega
theorem dayAt_some {bs : List Int} {e t b : Int} (h : bs.find? (fun b => decide (b > t)) = some b) : dayAt bs e t = b := by unfold dayAt; rw [h]
theorem dayAt_none {bs : List Int} {e t : Int} (h : bs.find? (fun b => decide (b > t)) = none) : dayAt bs e t = lastOf bs + ((t - lastOf bs) / e + 1) * e := by unfold dayAt; rw [h]
theorem find_none {bs : List Int} {t : Int} (h : bs.find? (fun b => decide (b > t)) = none) : ∀ b ∈ bs, b ≤ t := by
  intro b hb
  have := List.find?_eq_none.mp h b hb
  simp at this
  exact this
theorem last_le {bs : List Int} {t : Int} (h0 : 0 ≤ t) (h : ∀ b ∈ bs, b ≤ t) : lastOf bs ≤ t := by
  by_cases e : bs = []
  · subst e; exact h0
  · exact h _ (lastOf_mem e)
theorem div_step (x e : Int) (he : 0 < e) : x < (x / e + 1) * e ∧ (x / e) * e ≤ x := by
  have h1 := Int.emod_nonneg x (by omega : e ≠ 0)
  have h2 := Int.emod_lt_of_pos x he
  have h3 := Int.mul_ediv_add_emod x e
  have h4 : (x / e + 1) * e = e * (x / e) + e := by rw [Int.add_mul, Int.one_mul, Int.mul_comm]
  have h5 : (x / e) * e = e * (x / e) := Int.mul_comm _ _
  omega
theorem dayAt_gt {bs : List Int} {e t : Int} (he : 0 < e) : t < dayAt bs e t := by
  cases q : bs.find? (fun b => decide (b > t)) with
  | some b =>
    rw [dayAt_some q]
    have := List.find?_some q
    simpa using this
  | none =>
    rw [dayAt_none q]
    have := (div_step (t - lastOf bs) e he).1
    omega
theorem dayAt_le {bs : List Int} {e t : Int} (he : 0 < e) (h1 : e ≤ 2000) (ha : Asc 1 bs) (h0 : 0 ≤ t) : dayAt bs e t ≤ t + 2000 := by
  cases q : bs.find? (fun b => decide (b > t)) with
  | some b =>
    rw [dayAt_some q]
    have := ha.all _ (List.mem_of_find?_eq_some q)
    omega
  | none =>
    rw [dayAt_none q]
    have := (div_step (t - lastOf bs) e he).2
    have h4 : ((t - lastOf bs) / e + 1) * e = (t - lastOf bs) / e * e + e := by rw [Int.add_mul, Int.one_mul]
    omega
theorem find_first {t t' : Int} (htt : t ≤ t') : ∀ {n : Int} {bs : List Int} {b b' : Int}, Asc n bs → bs.find? (fun b => decide (b > t)) = some b → bs.find? (fun b => decide (b > t')) = some b' → b ≤ b'
  | _, [], _, _, _, h, _ => by cases h
  | n, c :: r, b, b', ha, h, h' => by
    rw [List.find?_cons] at h h'
    by_cases q : c > t
    · rw [decide_eq_true q] at h
      cases h
      by_cases q' : c > t'
      · rw [decide_eq_true q'] at h'
        cases h'
        exact Int.le_refl _
      · rw [decide_eq_false q'] at h'
        have := ha.2.2.all _ (List.mem_of_find?_eq_some h')
        omega
    · rw [decide_eq_false q] at h
      rw [decide_eq_false (show ¬ c > t' by omega)] at h'
      exact find_first htt ha.2.2 h h'
theorem dayAt_mono {bs : List Int} {e t t' : Int} (he : 0 < e) (ha : Asc 1 bs) (htt : t ≤ t') : dayAt bs e t ≤ dayAt bs e t' := by
  cases q : bs.find? (fun b => decide (b > t)) with
  | some b =>
    rw [dayAt_some q]
    cases q' : bs.find? (fun b => decide (b > t')) with
    | some b' =>
      rw [dayAt_some q']
      exact find_first htt ha q q'
    | none =>
      have h1 := ha.last _ (List.mem_of_find?_eq_some q)
      have h2 := find_none q' _ (List.mem_of_find?_eq_some q)
      have := dayAt_gt (bs := bs) (t := t') he
      omega
  | none =>
    rw [dayAt_none q]
    have q2 : bs.find? (fun b => decide (b > t')) = none := by
      rw [List.find?_eq_none]
      intro b hb
      have := find_none q b hb
      simp
      omega
    rw [dayAt_none q2]
    have hd : (t - lastOf bs) / e ≤ (t' - lastOf bs) / e := Int.ediv_le_ediv he (by omega)
    have := Int.mul_le_mul_of_nonneg_right (show (t - lastOf bs) / e + 1 ≤ (t' - lastOf bs) / e + 1 by omega) (Int.le_of_lt he)
    omega
theorem dayAt_per {bs : List Int} {e t m : Int} (he : 0 < e) (ha : Asc 1 bs) (hb : lastOf bs ≤ t) (hm : 0 ≤ m) (hd : e ∣ m) : dayAt bs e (t + m) = dayAt bs e t + m := by
  have no : ∀ {u : Int}, lastOf bs ≤ u → bs.find? (fun b => decide (b > u)) = none := fun {u} hu => by
    rw [List.find?_eq_none]
    intro b hb
    have := ha.last b hb
    simp
    omega
  rw [dayAt_none (no hb), dayAt_none (no (show lastOf bs ≤ t + m by omega))]
  obtain ⟨c, rfl⟩ := hd
  have e1 : t + e * c - lastOf bs = (t - lastOf bs) + e * c := by omega
  rw [e1, Int.add_mul_ediv_left _ _ (by omega : e ≠ 0)]
  have e2 : ((t - lastOf bs) / e + c + 1) * e = ((t - lastOf bs) / e + 1) * e + e * c := by
    rw [Int.add_mul, Int.add_mul, Int.add_mul, Int.mul_comm c e]
    omega
  rw [e2]
  omega
theorem Pl.at_gt {L : Nat} : ∀ (p : Pl), p.ok L → ∀ t, t < p.at t
  | .win w, h, t => by have := h.1; simp only [Pl.at]; omega
  | .days bs e, h, t => dayAt_gt (by have := h.1; omega)
  | .lat p q, h, t => by
    have := p.at_gt h.1 t
    have := q.at_gt h.2 t
    simp only [Pl.at]
    split <;> omega
  | .soo p q, h, t => by
    have := p.at_gt h.1 t
    have := q.at_gt h.2 t
    simp only [Pl.at]
    split <;> omega
  | .nex p q, h, t => Int.lt_trans (p.at_gt h.1 t) (q.at_gt h.2 _)
theorem Pl.at_le {L : Nat} : ∀ (p : Pl), p.ok L → ∀ t, 0 ≤ t → p.at t ≤ t + 2000 * p.leaves
  | .win w, h, t, _ => by have := h.2; simp only [Pl.at, Pl.leaves]; omega
  | .days bs e, h, t, h0 => by
    have := dayAt_le (bs := bs) (by have := h.1; omega) h.2.1 h.2.2.2.2 h0
    simp only [Pl.at, Pl.leaves]
    omega
  | .lat p q, h, t, h0 => by
    have := p.at_le h.1 t h0
    have := q.at_le h.2 t h0
    simp only [Pl.at, Pl.leaves]
    split <;> omega
  | .soo p q, h, t, h0 => by
    have := p.at_le h.1 t h0
    have := q.at_le h.2 t h0
    simp only [Pl.at, Pl.leaves]
    split <;> omega
  | .nex p q, h, t, h0 => by
    have h1 := p.at_gt h.1 t
    have := p.at_le h.1 t h0
    have := q.at_le h.2 (p.at t) (by omega)
    simp only [Pl.at, Pl.leaves]
    omega
theorem Pl.at_mono {L : Nat} : ∀ (p : Pl), p.ok L → ∀ t t', t ≤ t' → p.at t ≤ p.at t'
  | .win w, h, t, t', ht => by simp only [Pl.at]; omega
  | .days bs e, h, t, t', ht => dayAt_mono (by have := h.1; omega) h.2.2.2.2 ht
  | .lat p q, h, t, t', ht => by
    have := p.at_mono h.1 t t' ht
    have := q.at_mono h.2 t t' ht
    simp only [Pl.at]
    split <;> split <;> omega
  | .soo p q, h, t, t', ht => by
    have := p.at_mono h.1 t t' ht
    have := q.at_mono h.2 t t' ht
    simp only [Pl.at]
    split <;> split <;> omega
  | .nex p q, h, t, t', ht => q.at_mono h.2 _ _ (p.at_mono h.1 t t' ht)
theorem maxI_le {a b t : Int} (h : maxI a b ≤ t) : a ≤ t ∧ b ≤ t := by
  unfold maxI at h
  split at h <;> omega
theorem dvd_l {a b m : Int} (h : lcmI a b ∣ m) : a ∣ m ∧ b ∣ m := by
  have h1 : a ∣ lcmI a b := Int.natAbs_dvd_natAbs.mp (by unfold lcmI; rw [Int.natAbs_natCast]; exact Nat.dvd_lcm_left _ _)
  have h2 : b ∣ lcmI a b := Int.natAbs_dvd_natAbs.mp (by unfold lcmI; rw [Int.natAbs_natCast]; exact Nat.dvd_lcm_right _ _)
  exact ⟨Int.dvd_trans h1 h, Int.dvd_trans h2 h⟩
theorem Pl.at_per {L : Nat} : ∀ (p : Pl), p.ok L → ∀ t m, p.bend ≤ t → 0 ≤ m → p.per ∣ m → p.at (t + m) = p.at t + m
  | .win w, h, t, m, _, _, _ => by simp only [Pl.at]; omega
  | .days bs e, h, t, m, hb, hm, hd => dayAt_per (by have := h.1; omega) h.2.2.2.2 hb hm hd
  | .lat p q, h, t, m, hb, hm, hd => by
    obtain ⟨d1, d2⟩ := dvd_l hd
    obtain ⟨b1, b2⟩ := maxI_le hb
    have h1 := p.at_per h.1 t m b1 hm d1
    have h2 := q.at_per h.2 t m b2 hm d2
    simp only [Pl.at, h1, h2]
    split <;> split <;> omega
  | .soo p q, h, t, m, hb, hm, hd => by
    obtain ⟨d1, d2⟩ := dvd_l hd
    obtain ⟨b1, b2⟩ := maxI_le hb
    have h1 := p.at_per h.1 t m b1 hm d1
    have h2 := q.at_per h.2 t m b2 hm d2
    simp only [Pl.at, h1, h2]
    split <;> split <;> omega
  | .nex p q, h, t, m, hb, hm, hd => by
    obtain ⟨d1, d2⟩ := dvd_l hd
    obtain ⟨b1, b2⟩ := maxI_le hb
    have h1 := p.at_per h.1 t m b1 hm d1
    have := p.at_gt h.1 t
    have h2 := q.at_per h.2 (p.at t) m (by omega) hm d2
    simp only [Pl.at, h1, h2]
theorem Pl.bend_bd {L : Nat} : ∀ p : Pl, p.ok L → 0 ≤ p.bend ∧ p.bend ≤ 1000
  | .win _, _ => ⟨Int.le_refl _, (show (0 : Int) ≤ 1000 by decide)⟩
  | .days _ _, h => h.2.2.2.2.last_bd
  | .lat p q, h => by have := p.bend_bd h.1; have := q.bend_bd h.2; simp only [Pl.bend, maxI]; split <;> omega
  | .soo p q, h => by have := p.bend_bd h.1; have := q.bend_bd h.2; simp only [Pl.bend, maxI]; split <;> omega
  | .nex p q, h => by have := p.bend_bd h.1; have := q.bend_bd h.2; simp only [Pl.bend, maxI]; split <;> omega
end RM
namespace RM
theorem fmod_nat (X Y : Nat) : (X : Int).fmod (Y : Int) = ((X % Y : Nat) : Int) := by
  rw [Int.fmod_eq_emod_of_nonneg _ (Int.natCast_nonneg _)]
  rfl
theorem fdiv_nat (X Y : Nat) : (X : Int).fdiv (Y : Int) = ((X / Y : Nat) : Int) := by
  rw [Int.fdiv_eq_ediv_of_nonneg _ (Int.natCast_nonneg _)]
  rfl
theorem lcm_by (A B : Nat) : ((A : Int).fdiv ((Nat.gcd A B : Nat) : Int)) * (B : Int) = lcmI A B := by
  rw [fdiv_nat]
  unfold lcmI
  rw [Int.natAbs_natCast, Int.natAbs_natCast, ← Int.natCast_mul]
  congr 1
  rw [Nat.div_mul_right_comm (Nat.gcd_dvd_left A B)]
  rfl
theorem gcd_step (X Y : Nat) : Nat.gcd Y (X % Y) = Nat.gcd X Y := by
  rw [Nat.gcd_comm X Y, Nat.gcd_rec Y X, Nat.gcd_comm]
end RM
namespace RM
theorem Asc.snoc {e c : Int} : ∀ {n : Int} {bs : List Int}, Asc n bs → (∀ b ∈ bs, b ≤ e) → n ≤ c → e < c → c ≤ 1000 → Asc n (bs ++ [c])
  | n, [], _, _, h1, _, h3 => ⟨h1, h3, True.intro⟩
  | n, b :: r, h, hb, h1, h2, h3 => ⟨h.1, h.2.1, Asc.snoc h.2.2 (fun x hx => hb x (List.mem_cons_of_mem _ hx)) (by have := hb b (by simp); omega) h2 h3⟩
theorem lcmI_one (B : Nat) : lcmI B 1 = B := by
  unfold lcmI
  rw [Int.natAbs_natCast]
  show ((B.lcm 1 : Nat) : Int) = B
  rw [Nat.lcm_one_right]
theorem lcmI_self (B : Nat) : lcmI B B = B := by
  unfold lcmI
  rw [Int.natAbs_natCast, Nat.lcm_self]
end RM
namespace RM
/-- a plan is as good with its own period -/
theorem Pl.ok_per {L : Nat} : ∀ p : Pl, p.ok L → p.ok p.per.natAbs
  | .win _, h => h
  | .days _ e, h => ⟨h.1, h.2.1, Nat.dvd_refl _, h.2.2.2⟩
  | .lat p q, h => ⟨Pl.ok_mono (by simp only [Pl.per, lcmI, Int.natAbs_natCast]; exact Nat.dvd_lcm_left _ _) p (p.ok_per h.1), Pl.ok_mono (by simp only [Pl.per, lcmI, Int.natAbs_natCast]; exact Nat.dvd_lcm_right _ _) q (q.ok_per h.2)⟩
  | .soo p q, h => ⟨Pl.ok_mono (by simp only [Pl.per, lcmI, Int.natAbs_natCast]; exact Nat.dvd_lcm_left _ _) p (p.ok_per h.1), Pl.ok_mono (by simp only [Pl.per, lcmI, Int.natAbs_natCast]; exact Nat.dvd_lcm_right _ _) q (q.ok_per h.2)⟩
  | .nex p q, h => ⟨Pl.ok_mono (by simp only [Pl.per, lcmI, Int.natAbs_natCast]; exact Nat.dvd_lcm_left _ _) p (p.ok_per h.1), Pl.ok_mono (by simp only [Pl.per, lcmI, Int.natAbs_natCast]; exact Nat.dvd_lcm_right _ _) q (q.ok_per h.2)⟩
theorem lcmI_comm (a b : Int) : lcmI a b = lcmI b a := by
  unfold lcmI
  rw [Nat.lcm_comm]
end RM

namespace LC
open PySem L2
section
variable {X : Cx} {st : Stmt} {ss : List Stmt}
/-- a statement that is never come to -/
theorem ps_never : PS X st (fun _ _ _ => False) := ⟨fun _ _ _ _ _ _ h => h.elim⟩
theorem pss_never : PSs X ss (fun _ _ _ => False) := ⟨fun _ _ _ _ _ _ h => h.elim⟩
def rLcm : List V → Hp → VK → Prop := fun vs H Q => ∃ a b : Int, vs = [.int a, .int b] ∧ a.natAbs < 2 ^ 64 ∧ b.natAbs < 2 ^ 64 ∧ Q (.int (RM.lcmI a b)) H
theorem cr_lcm : CallR X (.builtin "math.lcm") rLcm := by
  intro pins s σ H vs us Q I r h
  obtain ⟨a, b, rfl, h1, h2, q⟩ := h
  obtain ⟨t, u, rfl⟩ := Vals.int2 r
  exact PySem.W.mc_lcm h1 h2 fun _ => ⟨.int _, H, I.tok _, ⟨_, rfl⟩, q⟩
end
theorem fn_none {P : Program} {w : World} {K : PySem.W.Frag} {mg : Str → Option Value} {base : Heap} {CX : CXT} {k : Nat} {f : Addr} {fd : FuncData} {ps : List Str} {sp : Sp} (h : ∀ vs H Q E, ¬ sp vs H Q E) : FnOk P w K mg base CX k f fd ps sp :=
  ⟨fun vs H Q E q => (h _ _ _ _ q).elim, fun A outer s H args us vs Q E hr e0 hb r q => (h _ _ _ _ q).elim⟩
theorem raw0 {P : Program} {w : World} {K : PySem.W.Frag} {mg : Str → Option Value} {base : Heap} {CX : CXT} {k : Nat} {f : Addr} {fd : FuncData} {ps : List Str} {sp : Sp} (F : FnOk P w K mg base CX k f fd ps sp) (hb : Binds K fd ps []) : FnR P w K mg base CX k f sp :=
  (F.raw hb .nil).imp fun vs H Q E h => by
    rw [List.append_nil]
    exact h
theorem kLT_int {K : PySem.W.Frag} : PySem.W.kitAny K (.type "int") [.type "list", .type "tuple"] = some false := kitAny_cons (kit_ty (show kitB "int" "list" = some false by decide +kernel)) (fun _ => kitAny_cons (kit_ty (show kitB "int" "tuple" = some false by decide +kernel)) (fun _ => kitAny_nil) fun z => by cases z) (fun z => by cases z)
theorem kLT_lst {K : PySem.W.Frag} : PySem.W.kitAny K (.type "list") [.type "list", .type "tuple"] = some true := kitAny_cons (kit_ty (show kitB "list" "list" = some true by decide +kernel)) (fun z => by cases z) (fun _ => rfl)
end LC

namespace LX
open PySem L2 PySem.Spec PyProof.Rows
/-- what the written part says of an own error class with its own __init__ -/
structure ErrC (K : PySem.W.Frag) (mg : Str → Option Value) (nm : Str) (fs : List Str) (C fI : Addr) : Prop where
  ox : OexC K C
  iC : PySem.W.findIn K (.ref C) "__init__" = some (some (.ref fI))
  tI : PySem.W.typeIn K (.ref fI) = some (.type "function")
  gC : mg nm = some (.ref C)
  xf : XfC K C
  te : PySem.W.exmOne K (.ref C) (.ref C) = some true
  no : ∀ f ∈ fs, PySem.W.findIn K (.ref C) f = some none
theorem no_cons {K : PySem.W.Frag} {C : Addr} {f : Str} {fs : List Str} (h : PySem.W.findIn K (.ref C) f = some none) (r : ∀ f ∈ fs, PySem.W.findIn K (.ref C) f = some none) : ∀ g ∈ f :: fs, PySem.W.findIn K (.ref C) g = some none := fun g hg => by
  rcases List.mem_cons.mp hg with rfl | hg
  · exact h
  · exact r g hg
theorem no_nil {K : PySem.W.Frag} {C : Addr} : ∀ g ∈ ([] : List Str), PySem.W.findIn K (.ref C) g = some none := fun g hg => by cases hg
/-- an error of its class is what a clause of the class takes -/
theorem exm_self {K : PySem.W.Frag} {S T : Addr} {b : Bool} (h1 : PySem.W.subIn K (.ref T) (.type "BaseException") = some true) (h2 : PySem.W.isClsIn K T = true) (h3 : PySem.W.typeIn K (.ref T) = some (.type "type")) (h4 : PySem.W.subIn K (.ref S) (.ref T) = some b) :
    PySem.W.exmOne K (.ref S) (.ref T) = some b := by
  have h2' : (PySem.W.clsIn K T).isSome = true := h2
  unfold PySem.W.exmOne
  rw [h1, if_pos (by rfl)]
  show (if ((PySem.W.clsIn K T).isSome && PySem.W.typeIn K (.ref T) == some (.type "type")) = true then PySem.W.subIn K (.ref S) (.ref T) else none) = some b
  rw [h2', h3, if_pos (by rfl)]
  exact h4
/-- the way out of an error with the fields fs, made in H -/
def ErrOut (H : Hp) (E : XK) (C : Addr) (fs : List (Str × V)) : Prop := ∀ (d : Addr) (H' : Hp), L2.Same H H' → H d = none → H' d = some (.xd fs) → E (.ref C) (some d) H'
/-- the promise of an __init__ that stores fs of the arguments -/
def spErr (C : Addr) (n : Nat) (fs : List V → List (Str × V)) : Sp := fun vs H Q _ => ∃ (a : Addr) (ws : List V), vs = .ref a :: ws ∧ ws.length = n ∧ H a = some (exo a C none) ∧ ∀ (d : Addr) (H' : Hp), H d = none → H' a = some (exo a C (some d)) → H' d = some (exd d (fs ws)) → (∀ b o, b ≠ a → H b = some o → H' b = some o) → Q .non H'
/-- raise C(..): the way out follows from the class's promise -/
theorem err_out {H : Hp} {E : XK} {C : Addr} {n : Nat} {fs : List V → List (Str × V)} {ws : List V} (hn : ws.length = n) (h : ErrOut H E C (fs ws)) : ∀ a, H a = none → spErr C n fs (.ref a :: (ws ++ [])) (upd H a (exo a C none))
    (fun v H2 => v = .non ∧ ∃ (d : Addr) (gs : List (Str × V)), H2 a = some (exo a C (some d)) ∧ H2 d = some (exd d gs) ∧ H d = none ∧ E (.ref C) (some d) (upd (del H2 a) d (.xd gs))) (fun _ _ _ => False) := fun a ha => by
  rw [List.append_nil]
  refine ⟨a, ws, rfl, hn, upd_same, fun d H' hd h1 h2 k => ?_⟩
  have da : d ≠ a := fun z => by
    rw [z, upd_same] at hd
    cases hd
  rw [upd_ne da] at hd
  refine ⟨rfl, d, _, h1, h2, hd, h d _ (fun b o e => ?_) hd upd_same⟩
  have nb : b ≠ a := ne_of_none e ha
  rw [upd_ne (ne_of_none e hd), del_ne nb]
  exact k b o nb (by rw [upd_ne nb]; exact e)
/-- several clauses, each with a name -/
def wAsM (K : PySem.W.Frag) (Wout : WX) (D : Ends) : List (Value × Nat × (Addr → Value → Option Addr → TS)) → WX
  | [] => Wout
  | (c, i, ts) :: r => fun cls d σ H => ∃ b, PySem.W.exmOne K cls c = some b ∧
      (b = true → ∀ a, H a = none → ts a cls d { nx := fun σ' H' => D.nx (σ'.set i none) H', rt := D.rt, bk := fun σ' H' => D.bk (σ'.set i none) H', ct := fun σ' H' => D.ct (σ'.set i none) H' } (σ.set i (some (.ref a))) H) ∧
      (b = false → wAsM K Wout D r cls d σ H)
inductive AsOk (X : Cx) : List ExceptHandler → List (Value × Nat × (Addr → Value → Option Addr → TS)) → Prop
  | nil : AsOk X [] []
  | cons {x n : Str} {c : Value} {i : Nat} {ts : Addr → Value → Option Addr → TS} {b₀ : Stmt} {suite : List Stmt} {np pos' : Pos} {hds : List ExceptHandler} {l : List (Value × Nat × (Addr → Value → Option Addr → TS))}
      (hi : X.N[i]? = some n) (hln : X.env.kindOf n = some .local) (hc : Names X x c)
      (hsu : ∀ (a : Addr) (oe : Obj) (cls : Value) (d : Option Addr) (pn : List (Addr × Obj)), Zc cls d oe → (∃ vs, oe.data = .fields vs) → PSs (X.suite a ((a, oe) :: pn)) (b₀ :: suite) (ts a cls d)) (r : AsOk X hds l) :
      AsOk X (.ExceptHandler (some (.Name x np)) (some n) (b₀ :: suite) pos' :: hds) ((c, i, ts) :: l)
section
variable {X : Cx} {body : List Stmt} {h₀ : ExceptHandler} {hds : List ExceptHandler} {l : List (Value × Nat × (Addr → Value → Option Addr → TS))} {pos : Pos} {tb : WX → TS} {Wout : WX}
/-- what every clause finds: the error at a stands on the ground -/
structure Caught (X : Cx) (a : Addr) (B : Heap) (pins : List (Addr × Obj)) (σ : L2.St) (H : Hp) (cls : Value) (d : Option Addr) (sI s : Shared) : Prop where
  J : L2.Inv X pins σ H sI
  nb : ∀ b o, sI.heap.get? b = some o → b ∉ frs X.stack → B.get? b = some o
  up : sI.heap.UpToSlots s.heap
  fl : HandSPX.FlyingZ B (X.env :: X.outer) a (Zc cls d) s.heap
  na : H a = none
  os : s.os = sI.os
  ag : AllBare s.gens
  nL : a ≠ X.env.locals
  nF : a ∉ X.fs
theorem clauses {a : Addr} {B : Heap} {pins : List (Addr × Obj)} {σ : L2.St} {H : Hp} {cls : Value} {d : Option Addr} {sI s : Shared} {D : Ends} (hs : X.stack = X.env :: X.outer) (hf : X.env.frame = some X.env.locals) (hN : X.N.Nodup) (tk : Takes X Wout) (ok : X.Ok)
    (T : Caught X a B pins σ H cls d sI s) : ∀ {hds : List ExceptHandler} {l : List (Value × Nat × (Addr → Value → Option Addr → TS))}, AsOk X hds l → wAsM X.K Wout D l cls d σ H →
    wpAny (model X.prog X.w) X.A (handleBy (.ref a) X.env hds) (SP X pins D) X.xe s := by
  obtain ⟨J, nb, up, fl, na, os, ag, nL, nF⟩ := T
  obtain ⟨hp, g, dr, tok, oss⟩ := s
  intro hds l hk
  induction hk with
  | nil =>
    intro w
    refine wpAny_handleBy_nil ?_
    obtain ⟨k1, k2, k3, oe, vs, T, oT, ts', he, hz, hd, h1, hr⟩ := id fl
    unfold PySem.passOn
    refine wpAny_bind (wpAny_field he hd h1 ?_)
    rw [if_neg (show ¬ ((Value.ref T == Value.none) = true) from by simp)]
    have fin : wpAny (model X.prog X.w) X.A (setFlight (.ref a) X.env.frame) (fun _ s4 => wpAny (model X.prog X.w) X.A (throw (.ref a) : Sem Flow) (SP X pins D) X.xe s4) X.xe ⟨hp, g, dr, tok, oss⟩ := by
      rw [hf]
      refine HandSPX.setFlight_upZ fl fun h4 hh4 up4 => wpAny_throw (tk _ _ ?_)
      exact ⟨a, B, sI, pins, σ, H, cls, d, rfl, J, nb, up.trans up4, .inr (.inr (by rw [hs]; exact hh4)), na, os, ag, w⟩
    first
      | exact wpAny_bind (wpAny_pure (wpAny_bind fin))
      | exact wpAny_bind fin
  | @cons x n c i ts b₀ suite np pos' hds2 l2 hi hln hc hsu r ih =>
    intro w
    obtain ⟨b, hb1, hyes, hno⟩ := w
    have J3 : L2.Inv X pins σ H ⟨hp, g, dr, tok, oss⟩ := J.landed nb fl.1 up os ag
    obtain ⟨oe3, vs3, he3, hz3, hd3⟩ := fl.there
    have S3 := J3.suite he3 hd3 na nL nF
    refine wpAny_handleBy_cons (codeAny_handlers_test ?_) (by intro q; cases q)
    have LT : PySem.W.Looks (model X.prog X.w) hp (typeOf (.ref a)) cls := fun A Q E s k q => wpAny_typeOf_ref (k _ _ he3) (by rw [hz3.1]; exact q)
    have LM := PySem.W.exm_one (M := model X.prog X.w) (J3.kIn) LT hb1
    have test : ∀ {Q : Value → Shared → Prop} {E : Value → Shared → Prop}, Q c ⟨hp, g, dr, tok, oss⟩ → wpAny (model X.prog X.w) (X.A.mark (some (.ref a))) (eval (.Name x np) X.env) Q E ⟨hp, g, dr, tok, oss⟩ := fun {Q E} q => by
      obtain ⟨hg, hdbg, hm | ⟨hm, hv, hnn⟩⟩ := hc
      · exact ld_glob (X := X.suite a ((a, oe3) :: (X.pn ++ pins))) S3 hg hm q hdbg
      · exact ld_blt (X := X.suite a ((a, oe3) :: (X.pn ++ pins))) S3 hg hm hv q hnn hdbg
    refine test (LM.here ?_)
    cases b with
    | true =>
      refine codeAny_handlers_suite_as ?_
      refine HandSPX.lands_againZ fl fun h4 fl4 up4 => ?_
      have J4 : L2.Inv X pins σ H ⟨h4, g, dr, tok, oss⟩ := J.landed nb fl4.1 (up.trans up4) os ag
      obtain ⟨oe4, vs4, he4, hz4, hd4⟩ := fl4.there
      have S4 := J4.suite he4 hd4 na nL nF
      refine store_ok (X := X.suite a ((a, oe4) :: (X.pn ++ pins))) (v := .ref a) S4 hN hi (.inl hln) rfl (fun s5 S5 => ?_) (.inr hln)
      refine wpAny_mono ((hsu a oe4 cls d (X.pn ++ pins) hz4 ⟨_, hd4⟩).run [] s5 _ H _ S5 (hyes rfl a na)) (fun f s6 hsp => ?_) (fun _ _ z => False.elim z)
      have out : ∀ {σ6 : L2.St} {H6 : Hp} {Q : Shared → Prop}, L2.Inv (X.suite a ((a, oe4) :: (X.pn ++ pins))) [] σ6 H6 s6 → (∀ s7, L2.Inv X pins (σ6.set i none) H6 s7 → Q s7) →
          wpAny (model X.prog X.w) X.A (do bindName X.env n .none; unbindBehindTheSuite X.env n pos') (fun _ s7 => Q s7) X.xe s6 := fun {σ6 H6 Q} S6 hq => gone_ok (S6.unsuite ok) hN hi hln hq
      cases f with
      | next =>
        obtain ⟨σ6, H6, S6, q6⟩ := hsp
        exact out S6 fun s7 J7 => ⟨_, _, J7, q6⟩
      | brk =>
        obtain ⟨σ6, H6, S6, q6⟩ := hsp
        exact out S6 fun s7 J7 => ⟨_, _, J7, q6⟩
      | cont =>
        obtain ⟨σ6, H6, S6, q6⟩ := hsp
        exact out S6 fun s7 J7 => ⟨_, _, J7, q6⟩
      | ret u =>
        obtain ⟨v6, σ6, H6, S6, r6, q6⟩ := hsp
        exact out S6 fun s7 J7 => ⟨_, _, _, J7, r6, q6⟩
    | false =>
      show wpAny _ X.A (handleBy (.ref a) X.env hds2) _ _ _
      exact ih (hno rfl)
/-- try: .. except x1 as n1: .. except x2 as n2: .. -/
theorem ps_try_asM (hs : X.stack = X.env :: X.outer) (hf : X.env.frame = some X.env.locals) (hN : X.N.Nodup) (tk : Takes X Wout)
    (hb : ∀ (W : WX) (pn : List (Addr × Obj)) (xe : Value → Shared → Prop), Takes (X.tr pn xe) W → PassesOwn (model X.prog X.w) X.A X.env xe → PSs (X.tr pn xe) body (tb W))
    (hh : AsOk X (h₀ :: hds) l) : PS X (.Try body (h₀ :: hds) [] [] pos) (fun D σ H => tb (wAsM X.K Wout D l) D σ H) := by
  refine ⟨fun pins s σ H D I h => ?_⟩
  have ok := I.ok
  have hfr : X.A.frames = some (X.env :: X.outer) := by rw [ok.frames, hs]
  refine wpAny_Try_except ?_
  refine wpAny_mono ((hb (wAsM X.K Wout D l) (X.pn ++ pins) (fun e s₁ => wpAny (model X.prog X.w) X.A (noteFrame e X.env) (fun _ s₂ => wpAny (model X.prog X.w) X.A (setFlight e none) (fun _ s₃ =>
    wpAny (model X.prog X.w) X.A (handleBy e X.env (h₀ :: hds)) (SP X pins D) X.xe s₃) X.xe s₂) X.xe s₁) (fun u s' xx => ?_) PassesOwn.looking).run [] s σ H D (I.toTry _) h) (fun f s1 hsp => ?_) (fun e s1 he => he)
  · obtain ⟨a, B, sI, pins', σ', H', cls, d, rfl, J', nb, up, sky, na, os, ag, w⟩ := xx
    have J : L2.Inv X pins σ' H' sI := J'.ofTry ok
    have sky' : Sky B (X.env :: X.outer) a (Zc cls d) X.env.locals s'.heap := by rw [← hs]; exact sky
    show wpAny (model X.prog X.w) X.A (noteFrame (.ref a) X.env) _ _ _
    refine Sky.land Zc.steady hfr hf sky' fun h3 fl3 up3 => ?_
    have nfr : a ∉ frs (X.env :: X.outer) := fun hm => by
      obtain ⟨oe3, vs3, he3, hz3, hd3⟩ := fl3.there
      obtain ⟨_, o', e', hnf⟩ := fl3.2.2.1.mem hm
      rw [he3] at e'
      cases e'
      exact hnf _ hd3
    have nL : a ≠ X.env.locals := fun z => nfr (List.mem_filterMap.mpr ⟨X.env, List.mem_cons_self, by rw [hf, z]⟩)
    have nF : a ∉ X.fs := fun hm => by
      obtain ⟨e, he, q⟩ := List.mem_filterMap.mp hm
      exact nfr (List.mem_filterMap.mpr ⟨e, List.mem_cons_of_mem _ he, q⟩)
    exact clauses (s := { s' with heap := h3 }) hs hf hN tk ok ⟨J, nb, up.trans up3, fl3, na, os, ag, nL, nF⟩ hh w
  · cases f with
    | next =>
      obtain ⟨σ', H', J', q⟩ := hsp
      exact wpAny_execs_nil ⟨σ', H', J'.ofTry ok, q⟩
    | brk =>
      obtain ⟨σ', H', J', q⟩ := hsp
      exact ⟨σ', H', J'.ofTry ok, q⟩
    | cont =>
      obtain ⟨σ', H', J', q⟩ := hsp
      exact ⟨σ', H', J'.ofTry ok, q⟩
    | ret u =>
      obtain ⟨v, σ', H', J', r, q⟩ := hsp
      exact ⟨v, σ', H', J'.ofTry ok, r, q⟩
end
/-! ### calls by keyword alone, within a try -/
section
variable {X : Cx} {CX : CXT} {k : Nat} {f : Addr} {fd : FuncData} {ps ks : List Str} {sp : Sp} {E : L2.St → XK} {x : Str} {p pos : Pos} {kws : List Keyword} {tk : TA} {g : List Value → List Value → List Value} {gV : List V → List V → List V}
def tCallKS (sp : Sp) (gV : List V → List V → List V) (E : L2.St → XK) (t tk : TA) : TE := fun σ H Q => t σ H fun vs H1 => tk σ H1 fun zs H2 => sp (gV vs zs) H2 Q (E σ)
theorem run_kS {pins : List (Addr × Obj)} {σ : L2.St} {H : Hp} {s : Shared} {Q : VK} {us ws : List Value} {vs zs : List V} (F : FnOk X.prog X.w X.K X.mg X.base CX k f fd ps sp) (hr : Room k X.A) (hb : KBinds X.K fd ps ks g gV) (hx : PassesAt CX X σ (E σ))
    (I : L2.Inv X pins σ H s) (r : Vals vs us) (rz : Vals zs ws) (h : sp (gV vs zs) H Q (E σ)) : wpAny (model X.prog X.w) X.A (call (.ref f) us (ks.zip ws)) (EP X pins σ Q) X.xe s := by
  have r2 := hb.rel r rz
  have hl : (g us ws).length = ps.length := by
    have e := F.len _ _ _ _ h
    rw [r2.length] at e
    exact e
  refine wpAny_call (codeAny_mono (F.run X.A X.stack s H _ (g us ws) (gV vs zs) Q (E σ) hr I.env0 (hb.to s us ws I.kIn hl) r2 h) fun r s' hq => ?_)
  match r, hq with
  | .error e, hq => exact hx pins H s e s' I hq
  | .ok (.ret u), hq => exact I.after hq
theorem pe_callK0S (F : FnOk X.prog X.w X.K X.mg X.base CX k f fd ps sp) (hr : Room k X.A) (hg : Gl X x) (hm : X.mg x = some (.ref f)) (hk : PySem.W.keepIn X.K (.ref f) = true) (hb : KBinds X.K fd ps ks g gV) (hx : ∀ σ, PassesAt CX X σ (E σ))
    (hkw : PK X kws tk) (hall : (backToKw pos (keywordEach kws X.env)).all (·.1.isSome) = true := by rfl) (hks : (backToKw pos (keywordEach kws X.env)).filterMap (·.1) = ks := by rfl)
    (hdb : (x == ("__debug__" : Str)) = false := by decide) (hpl : ((backTo pos (starEach [] X.env)).any (·.1) || (backToKw pos (keywordEach kws X.env)).any (·.1.isNone)) = false := by rfl) :
    PE X (.Call (.Name x p) [] kws pos) (tCallKS sp gV E tNil tk) := by
  refine ⟨fun pins s σ H Q I h => ?_⟩
  refine wpAny_Call_Name_kw (ld_glob I hg hm ?_ hdb)
  refine PySem.W.callWith_KW0 (h₀ := X.base) I.ok.mod.kin hk hall ?_ hpl
  refine thn (hkw.run pos pins s σ H _ I h) fun ws s2 ⟨zs, H2, I2, rz, q2⟩ => ⟨I2.kIn, ?_⟩
  rw [hks]
  exact run_kS (us := []) F hr hb (hx σ) I2 .nil rz q2
end
end LX

namespace LC
open PySem L2
section
variable {K : PySem.W.Frag} {a b : Addr} {xs ys : List V}
theorem walk_zipT {n : Nat} (hn : n = min xs.length ys.length) : Walk (RZ.ItzT K a b) n (fun H => SqT K H a xs ∧ SqT K H b ys) (YPair (fun i => xs[i]?) (fun i => ys[i]?)) := by
  have la : ∀ {i}, i < n → i < xs.length ∧ i < ys.length := fun h => by omega
  refine ⟨fun i _ hi q => ⟨xs, ys, xs[i]'(la hi).1, ys[i]'(la hi).2, q.1, q.2, List.getElem?_eq_getElem _, List.getElem?_eq_getElem _⟩, fun _ q => ⟨xs, ys, q.1, q.2, by omega⟩, fun i H v H' _ q y => ?_⟩
  obtain ⟨T, x, z, rest⟩ := y
  exact ⟨T, x, z, rest.1, rest.2.1, rest.2.2.1, rest.2.2.2.1 xs q.1, rest.2.2.2.2 ys q.2⟩
end
theorem kLT_non {K : PySem.W.Frag} : PySem.W.kitAny K (.type "NoneType") [.type "list", .type "tuple"] = some false := kitAny_cons (kit_ty (show kitB "NoneType" "list" = some false by decide +kernel)) (fun _ => kitAny_cons (kit_ty (show kitB "NoneType" "tuple" = some false by decide +kernel)) (fun _ => kitAny_nil) fun z => by cases z) (fun z => by cases z)
theorem kLT_str {K : PySem.W.Frag} : PySem.W.kitAny K (.type "str") [.type "list", .type "tuple"] = some false := kitAny_cons (kit_ty (show kitB "str" "list" = some false by decide +kernel)) (fun _ => kitAny_cons (kit_ty (show kitB "str" "tuple" = some false by decide +kernel)) (fun _ => kitAny_nil) fun z => by cases z) (fun z => by cases z)
theorem kLT_bool {K : PySem.W.Frag} : PySem.W.kitAny K (.type "bool") [.type "list", .type "tuple"] = some false := kitAny_cons (kit_ty (show kitB "bool" "list" = some false by decide +kernel)) (fun _ => kitAny_cons (kit_ty (show kitB "bool" "tuple" = some false by decide +kernel)) (fun _ => kitAny_nil) fun z => by cases z) (fun z => by cases z)
theorem kLT_tup {K : PySem.W.Frag} : PySem.W.kitAny K (.type "tuple") [.type "list", .type "tuple"] = some true := kitAny_cons (kit_ty (show kitB "tuple" "list" = some false by decide +kernel)) (fun _ => kitAny_cons (kit_ty (show kitB "tuple" "tuple" = some true by decide +kernel)) (fun z => by cases z) fun _ => rfl) (fun z => by cases z)
theorem sameT {K : PySem.W.Frag} {H H' : Hp} {a : Addr} {xs : List V} (e : L2.Same H H') (h : SqT K H a xs) : SqT K H' a xs := by
  rcases h with (h | ⟨o, h⟩) | h
  · exact .inl (.inl (e _ _ h))
  · exact .inl (.inr ⟨o, e _ _ h⟩)
  · exact .inr h
/-- both ways of a test go on alike -/
theorem ite_dc {p : Prop} [Decidable p] {A B C : Prop} (h : C) (h1 : p → C → A) (h2 : ¬ p → C → B) : if decide p = true then A else B := by
  by_cases q : p
  · rw [decide_eq_true q]
    exact L2.iteT (h1 q h)
  · rw [decide_eq_false q]
    exact L2.iteF (h2 q h)
theorem cut_lastV (xs : List V) (x : V) : cutV (xs ++ [x]) none (some (-1)) = xs := by
  have e : HT.sIx (xs ++ [x]).length (xs ++ [x]).length (some (-1)) = xs.length := by
    show (if (-1 : Int) < 0 then ((-1 : Int) + (((xs ++ [x]).length : Nat) : Int)).toNat else min (-1 : Int).toNat (xs ++ [x]).length) = xs.length
    rw [if_pos (by decide), List.length_append]
    show ((-1 : Int) + ((xs.length + 1 : Nat) : Int)).toNat = _
    omega
  unfold cutV
  rw [e, HT.sIx_none, Nat.sub_zero, List.drop_zero]
  exact List.take_left' rfl
/-- equal data, told and due -/
def Sc : V → Prop
  | .int _ => True
  | .non => True
  | .bl _ => True
  | .str _ => True
  | _ => False
def mkO (b : Bool) (xs : List V) : HO := if b = true then .lst xs else .tup xs
def Lk (H : Hp) : Nat → V → V → Prop
  | 0, x, y => x = y ∧ Sc x
  | n + 1, x, y => (x = y ∧ Sc x) ∨ ∃ (b : Bool) (p q : Addr) (xs ys : List V), x = .ref p ∧ y = .ref q ∧ H p = some (mkO b xs) ∧ H q = some (mkO b ys) ∧ xs.length = ys.length ∧ xs.length ≤ 1000000 ∧ ∀ (i : Nat) (u v : V), xs[i]? = some u → ys[i]? = some v → Lk H n u v
theorem Lk.same {H H' : Hp} (s : L2.Same H H') : ∀ {n : Nat} {x y : V}, Lk H n x y → Lk H' n x y
  | 0, _, _, h => h
  | n + 1, _, _, .inl h => .inl h
  | n + 1, _, _, .inr ⟨b, p, q, xs, ys, e1, e2, h1, h2, h3, h4, h5⟩ => .inr ⟨b, p, q, xs, ys, e1, e2, s _ _ h1, s _ _ h2, h3, h4, fun i u v a c => (h5 i u v a c).same s⟩
theorem Lk.sc {H : Hp} {x : V} (h : Sc x) : ∀ n, Lk H n x x
  | 0 => ⟨rfl, h⟩
  | _ + 1 => .inl ⟨rfl, h⟩
theorem Lk.cases {H : Hp} {m : Nat} {u v : V} (h : Lk H m u v) : (u = v ∧ Sc u) ∨ ∃ j, m = j + 1 ∧ ∃ (b : Bool) (p q : Addr) (xs ys : List V), u = .ref p ∧ v = .ref q ∧ H p = some (mkO b xs) ∧ H q = some (mkO b ys) ∧ xs.length = ys.length ∧ xs.length ≤ 1000000 ∧ ∀ (i : Nat) (s t : V), xs[i]? = some s → ys[i]? = some t → Lk H j s t := by
  cases m with
  | zero => exact .inl h
  | succ j =>
    rcases h with h | h
    · exact .inl h
    · exact .inr ⟨j, rfl, h⟩
end LC

namespace LE
open PySem L2 PySem.Spec PyProof.Rows
/-- the type of what stands on the right: an int, a text, an instance -/
inductive TyR (H : Hp) : V → Value → Prop where
  | int (i : Int) : TyR H (.int i) (.type "int")
  | str (z : Str) : TyR H (.str z) (.type "str")
  | ins {b C dx : Addr} {fs : List (Str × V)} (e : H b = some (.ins C dx fs)) : TyR H (.ref b) (.ref C)
/-- the class at C has the def at g, of the promise sp, under the name m -/
structure Own (X : Cx) (n : Nat) (m : Str) (C g : Addr) (sp : Sp) : Prop where
  at_ : PySem.W.findIn X.K (.ref C) m = some (some (.ref g))
  fn : PySem.W.isFn X.K (.ref g) = true
  F : FnR X.prog X.w X.K X.mg X.base CX0 n g sp
/-- x == y, x an instance of a class with an own == -/
def rEqI (X : Cx) (n : Nat) : R2 := fun x y H Q => ∃ (a C dx g : Addr) (fs : List (Str × V)) (sp : Sp) (tb : Value), x = .ref a ∧ H a = some (.ins C dx fs) ∧ Own X n "__eq__" C g sp ∧ TyR H y tb ∧ PySem.W.notFirst X.K C tb = true ∧ sp [x, y] H Q E0
section
variable {X : Cx} {n : Nat}
theorem op_eqI (hr : Room n X.A) : OpR X (compareOp .Eq) (rEqI X n) := by
  intro pins s σ H x y v u Q I rx ry h
  obtain ⟨a, C, dx, g, fs, sp, tb, rfl, ha, O, ty, hn, q⟩ := h
  cases (show v = Value.ref a from rx)
  obtain ⟨mA, J, _⟩ := ins_get I.hok ha
  obtain ⟨od, J, _⟩ := J.look
  obtain ⟨m, hF⟩ := I.fr
  have lk : PySem.W.Looks (model X.prog X.w) s.heap (typeOf u) tb := by
    cases ty with
    | int i => obtain ⟨t, e⟩ := (show ∃ t, u = Value.int i t from ry); cases e; exact PySem.W.Looks.of_pure rfl
    | str i => obtain ⟨t, e⟩ := (show ∃ t, u = Value.str i t from ry); cases e; exact PySem.W.Looks.of_pure rfl
    | ins e =>
      cases ry
      obtain ⟨mB, J', _⟩ := ins_get I.hok e
      obtain ⟨od', J', _⟩ := J'.look
      exact J'.type
  show wpAny (model X.prog X.w) X.A (richCompare .Eq (.ref a) u) (EP X pins σ Q) X.xe s
  refine PySem.W.cmp_K (op := .Eq) hr.units0 hF I.ok.mod.kin J lk hn O.at_ O.fn ?_
  refine wpAny_mono (wpAny_call (run_fnR (us := [.ref a, u]) (vs := [.ref a, y]) O.F hr (E := E0) pass0 I (.cons rfl (.cons ry .nil)) q)) (fun w s' z => ?_) fun _ _ x => x
  obtain ⟨z', H', I', rz, qz⟩ := z
  exact SlX.cmpback rz ⟨z', H', I', rz, qz⟩
/-- str(x) of an instance of a class with an own __str__ -/
def rStrI (X : Cx) (n : Nat) : List V → Hp → VK → Prop := fun xs H Q => ∃ (a C dx g : Addr) (fs : List (Str × V)) (sp : Sp), xs = [V.ref a] ∧ H a = some (.ins C dx fs) ∧ Own X n "__str__" C g sp ∧ sp [.ref a] H (fun z H' => ∃ t, z = .str t ∧ Q z H') E0
theorem run_in {A : Around} {pins : List (Addr × Obj)} {s : Shared} {σ : L2.St} {H : Hp} {g : Addr} {sp : Sp} {Q : VK} {us : List Value} {ws : List V} (F : FnR X.prog X.w X.K X.mg X.base CX0 n g sp) (hr : Room n A) (e0 : Env0 X.prog X.w X.K X.mg X.base A X.stack s H) (I : Inv X pins σ H s) (r : Vals ws us) (h : sp ws H Q E0) :
    codeAny (model X.prog X.w) A (.call (.ref g) ⟨us, []⟩) (fun r s' => match r with | .ok (.ret v) => EP X pins σ Q v s' | .ok _ => False | .error e => X.xe e s') s := by
  refine codeAny_mono (F A X.stack s H us ws Q E0 hr e0 r h) fun r s' hq => ?_
  cases r with
  | error e => exact pass0 pins σ H s e s' I hq
  | ok fl =>
    cases fl with
    | ret u => exact I.after hq
    | next => exact False.elim hq
    | brk => exact False.elim hq
    | cont => exact False.elim hq
theorem call_strI (hr : Room (n + 2) X.A) : CallR X (.type "str") (rStrI X n) := by
  intro pins s σ H xs us Q I r h
  obtain ⟨a, C, dx, g, fs, sp, rfl, ha, O, q⟩ := h
  obtain ⟨u, rfl, ru⟩ := r.one
  cases (show u = Value.ref a from ru)
  obtain ⟨mA, J, _⟩ := ins_get I.hok ha
  obtain ⟨od, J, _⟩ := J.look
  have hr2 : Room n X.A.in1.in1 := (show Room (n + 1) X.A.in1 from Room.in1 hr).in1
  refine PySem.W.kso_call hr2.units0 I.kIn J O.at_ O.fn (wpAny_mono (wpAny_call (run_in (us := [.ref a]) (ws := [.ref a]) O.F hr2 I.env0.in1.in1 I (.cons rfl .nil) q)) (fun w s' z => ?_) fun _ _ x => x)
  obtain ⟨z', H', I', rz, t, ez, qz⟩ := z
  subst ez
  obtain ⟨k, e⟩ := (show ∃ k, w = Value.str t k from rz)
  cases e
  exact ⟨.str t, H', I', ⟨k, rfl⟩, qz⟩
/-- f'{x}' of such an instance -/
def tFmtI (X : Cx) (n : Nat) (te : TE) : TE := fun σ H Q => te σ H fun x H1 => ∃ (a C dx g : Addr) (fs : List (Str × V)) (sp : Sp), x = V.ref a ∧ H1 a = some (.ins C dx fs) ∧ Own X n "__str__" C g sp ∧ PySem.W.findIn X.K (.ref C) "__format__" = some (some (.builtin "object.__format__")) ∧ PySem.W.mroIn X.K C (.type "object") = some true ∧
  sp [.ref a] H1 (fun z H' => ∃ t, z = .str t ∧ Q z H') E0
theorem pe_fmtI {e : Expr} {te : TE} {pos : Pos} (hr : Room (n + 1) X.A) (he : PE X e te) : PE X (.FormattedValue e (-1) none pos) (tFmtI X n te) := by
  refine ⟨fun pins s σ H Q I h => ?_⟩
  refine wpAny_FormattedValue_plain (thn (he.run pins s σ H _ I h) fun v s1 hv => ?_)
  obtain ⟨x, H1, I1, r1, a, C, dx, g, fs, sp, rfl, ha, O, hf, hm, q⟩ := hv
  cases (show v = Value.ref a from r1)
  obtain ⟨mA, J, _⟩ := ins_get I1.hok ha
  obtain ⟨od, J, _⟩ := J.look
  have hr1 : Room n X.A.in1 := Room.in1 hr
  have I2 := I1.tok (s1.toks + 1)
  refine PySem.W.kfo_fieldS hr1.units0 I1.kIn J hf hm O.at_ O.fn (wpAny_mono (wpAny_call (run_in (us := [.ref a]) (ws := [.ref a]) O.F hr1 I2.env0.in1 I2 (.cons rfl .nil) q)) (fun w s' z => ?_) fun _ _ x => x)
  obtain ⟨z', H', I', rz, t, ez, qz⟩ := z
  subst ez
  obtain ⟨k, e⟩ := (show ∃ k, w = Value.str t k from rz)
  cases e
  exact ⟨.str t, H', I', ⟨k, rfl⟩, qz⟩
end
end LE

namespace LL
open PySem PySem.Spec PyProof.Rows L2 LamX
/-! ### a lambda handed to a def that calls it within a try: the clauses see the names as they stood at the call -/
section
variable {X : Cx} {pins : List (Addr × Obj)} {σ : L2.St} {H : Hp} {s : Shared}
/-- x() in the def that got the lambda, the way out told at the very names -/
theorem pe_actS {CXg : CXT} {Eg : XK} {Ng : List Str} {qg : Str} {sg : Scope} {g f c' : Addr} {cdg pm ctv : Value} {params : Arguments} {body : Expr} {scope : Scope} {k i : Nat} {a : Str} {pn : List (Addr × Obj)} {xe : Value → Shared → Prop} {W : WX} {tb : XK → TE} {p1 p2 : Pos}
    (I : Inv X pins σ H s) (L : LamS X.env.scope scope) (hf : s.heap.get? f = some (PySem.W.kla_obj "<lambda>" (X.env.qual ++ "<lambda>") params body scope (cloFrom X.env.cells scope.names []) pm c' ctv)) (hfn : H f = none) (hfr : f ∉ frs X.stack)
    (hbind : bindArgs (PySem.W.kla_fn "<lambda>" (X.env.qual ++ "<lambda>") params body scope (cloFrom X.env.cells scope.names []) pm (.ref c') ctv) ⟨[], []⟩ = pure [])
    (tk : Takes ((cxOf CXg X.prog X.w X.K X.mg X.base Ng qg sg g cdg X.A X.stack s H Eg).tr pn xe) W) (hr : Room (k + 1) (X.A.deeper (envOfC qg sg s.heap.objs.size g cdg)))
    (hbody : ∀ (A : Around) (outer : List Env) (s : Shared) (H : Hp) (E : XK), Room k (A.deeper (lamEnv X scope s.heap.objs.size f c')) → PE (lamCx X A outer s H E scope f c') body (tb E))
    (hN : Ng[i]? = some a) (hv : Vis sg a) (hd : (a == ("__debug__" : Str)) = false := by decide) (hcd : (a == ("__classdict__" : Str)) = false := by decide) :
    PE ((cxOf CXg X.prog X.w X.K X.mg X.base Ng qg sg g cdg X.A X.stack s H Eg).tr pn xe) (.Call (.Name a p1) [] [] p2)
      (fun σZ HZ Q => σZ[i]? = some (some (.ref f)) ∧ HZ c' = some (CodeO c' (X.env.qual ++ "<lambda>")) ∧ tb (fun cls d H' => W cls d σZ H') σ HZ Q) := by
  refine ⟨fun pz sz σz Hz Q J0 h => ?_⟩
  obtain ⟨hs, hc, ht⟩ := h
  refine wpAny_Call_Name_kw (thn ((pe_var (pos := p1) (i := i) hN hv hd hcd).run pz sz σz Hz (fun v H1 => v = .ref f ∧ H1 = Hz) J0 ⟨.ref f, hs, rfl, rfl⟩) fun u s1 ⟨v, H1, J1, rv, ev, eH⟩ => ?_)
  subst ev
  subst eH
  obtain rfl : u = Value.ref f := rv
  have at1 := J1.base.keep f _ hf hfn hfr (fun z => nomatch (show f ∈ ([] : List Addr) from z))
  have un : Un (frs X.stack) [] H H1 s.heap s1.heap := J1.base
  refine PySem.W.callWith_F0 ⟨_, _, _, _, at1⟩ ?_
  obtain ⟨⟨oc, vs, t, ho, hdc, hvc⟩, _, _⟩ := J1.hok c' _ hc
  let E : XK := fun cls d H' => W cls d σz H'
  have run : codeAny (model X.prog X.w) (X.A.deeper (envOfC qg sg s.heap.objs.size g cdg)) (.call (.ref f) ⟨[], []⟩) (CR (L2.CX X.prog X.w) (envOfC qg sg s.heap.objs.size g cdg :: X.stack) X.prog X.w H1 s1 Q E) s1 := by
    refine PySem.W.kla_callFunE hr.depth at1 rfl L.co L.gen rfl ⟨c', oc, vs, t, rfl, ho, hdc, hvc⟩ ?_
    rw [hbind]
    refine wpAny_pure (wpAny_newFunctionEnv (fun y hy => (L.own y hy).2) (fun y hy => absurd hy (by simp)) (fun hh hns hsb => ⟨J1.nolimit.fresh _ hsb, ?_⟩) L.kind)
    show codeAny _ _ (.expr body (lamEnv X scope s1.heap.objs.size f c')) _ _
    have kp : ∀ b o, s1.heap.get? b = some o → hh.get? b = some o := fun b o e => hsb.extBut b o (Nat.ne_of_lt (Heap.lt_size e)) (Heap.get?_push_of_some _ e)
    refine PySem.W.kla_codeExpr (wpAny_mono ((hbody _ _ s1 H1 E (hr.deeper _)).run [] _ _ H1 Q (lam_start2 I L J1.env0 hr.hd un hns kp) ht) (fun v s' hq => ?_) fun e s' hq => hq)
    obtain ⟨w', H', J', rv, q⟩ := hq
    exact ⟨w', H', J'.os, J'.bare, J'.base, J'.hok, rv, q⟩
  refine wpAny_call (codeAny_mono run fun r s' hq => ?_)
  match r, hq with
  | .error e, hq => exact (passAt tk σz) pz H1 s1 e s' J1 hq
  | .ok (.ret u), hq => exact J1.after hq
end
/-- what the body of such a def gives, if its call of x runs as tl -/
def GivesS (X : Cx) (Ng : List Str) (x : Str) (sg : Scope) (g : Addr) (cdg : Value) (bg : List Stmt) (a : Str) (q : Str) (TT : (XK → Hp → VK → Prop) → Hp → VK → Prop) : Prop :=
  ∀ (f c' : Addr) (s : Shared) (H : Hp) (Q : VK) (tl : XK → Hp → VK → Prop),
    (∀ (W : WX) (pn : List (Addr × Obj)) (xe : Value → Shared → Prop) (p1 p2 : Pos), Takes ((cxOf CX0 X.prog X.w X.K X.mg X.base Ng x sg g cdg X.A X.stack s H E0).nox.tr pn xe) W →
      PE ((cxOf CX0 X.prog X.w X.K X.mg X.base Ng x sg g cdg X.A X.stack s H E0).nox.tr pn xe) (.Call (.Name a p1) [] [] p2) (fun σZ HZ Q => σZ[0]? = some (some (.ref f)) ∧ HZ c' = some (CodeO c' q) ∧ tl (fun cls d H' => W cls d σZ H') HZ Q)) →
    H c' = some (CodeO c' q) → TT tl H Q →
    ∃ t, PSs (cxOf CX0 X.prog X.w X.K X.mg X.base Ng x sg g cdg X.A X.stack s H E0).nox bg t ∧ t { nx := fun _ H' => Q .non H', rt := Q } (L2.start Ng [.ref f]) H
/-- x(lambda: body) -/
theorem pe_lamcallS {X : Cx} {T : List (Addr × Str)} {TT : (XK → Hp → VK → Prop) → Hp → VK → Prop} {x a : Str} {g c P : Addr} {k : Nat} {st : Stmt} {fd : FuncData} {Ng : List Str} {params : Arguments} {body : Expr} {scope : Scope} {t : XK → TE} {p lpos pos : Pos} {ql : Str}
    (D : LC.Def X.K X.mg x st [a] g fd) (hg : Gl X x) (Sg : FnScope Ng [a] (defScope st)) (hNg : Ng[0]? = some a) (hva : Vis (defScope st) a) (hG : ∀ cdg, GivesS X Ng x (defScope st) g cdg (defBody st) a (X.env.qual ++ "<lambda>") TT)
    (hql : X.env.qual = ql) (TB : TabB X.base X.mg c P) (hcode : X.env.code = .ref c) (hmT : (P, ql ++ "<lambda>") ∈ T) (hu : ∀ p ∈ T, p.1 = P → p.2 = ql ++ "<lambda>") (hr : Room (k + 2) X.A) (L : LamS X.env.scope scope) (hdef : defaultsOf params X.env = ([], []))
    (hbind : ∀ (q : Str) (cl : List (Str × Addr)) (pm cv ctv : Value), bindArgs (PySem.W.kla_fn "<lambda>" q params body scope cl pm cv ctv) ⟨[], []⟩ = pure [])
    (hbody : ∀ (A : Around) (outer : List Env) (s : Shared) (H : Hp) (E : XK) (f c' : Addr), Room k (A.deeper (lamEnv X scope s.heap.objs.size f c')) → PE (lamCx X A outer s H E scope f c') body (t E))
    (hdb : (x == ("__debug__" : Str)) = false := by decide) (hd : (a == ("__debug__" : Str)) = false := by decide) (hcd : (a == ("__classdict__" : Str)) = false := by decide) :
    PE X (.Call (.Name x p) [.Lambda params body scope lpos] [] pos) (tLam T TT t) := by
  subst hql
  refine ⟨fun pins s σ H Q I h => ?_⟩
  obtain ⟨hT, h⟩ := h
  obtain ⟨oc, od, kV, doc, pm, an, cdv, ct, osl, rfl, lk, hcg⟩ := D.F.ex
  refine wpAny_Call_Name_kw (ld_glob I hg D.g ?_ hdb)
  refine PySem.W.callWith_K (h₀ := X.base) I.ok.mod.kin D.F.kp ?_ (by rfl) (by rfl)
  show wpAny _ _ (spliced ((false, eval (.Lambda params body scope lpos) X.env) :: backTo pos (starEach [] X.env))) _ _ s
  refine Calls.spliced_cons (lam_make2 I TB hcode hmT hu hT hdef (L.has I.ok) fun f c' pm' ctv H1 s' I1 eN T1 hf hfn hfr hco => ?_)
  refine Calls.spliced_nil ⟨I1.kIn, ?_⟩
  have rc : codeAny (model X.prog X.w) X.A (.call (.ref g) ⟨[.ref f], []⟩) (CR CX0 X.stack X.prog X.w H1 s' Q E0) s' := by
    refine run_ofS (N := Ng) (ps := [a]) (us := [.ref f]) (vs := [.ref f]) lk hcg Sg hr I1.env0 (D.b s' [.ref f] I1.kIn rfl) (.cons rfl .nil) rfl fun hr' => ?_
    obtain ⟨t', ht', hq'⟩ := hG cdv f c' s' H1 Q (fun E H' Q' => t E σ H' Q') (fun W pn xe p1 p2 tk => pe_actS (CXg := CX0) (Eg := E0) (i := 0) I1 L hf hfn hfr (hbind _ _ _ _ _) tk hr' (fun A outer s H E hr2 => hbody A outer s H E f c' hr2) hNg hva hd hcd) hco (h H1 eN T1)
    exact ⟨t', ht'.nox, hq'⟩
  refine wpAny_call (codeAny_mono rc fun r s2 hq => ?_)
  match r, hq with
  | .error e, hq => exact (show False from hq).elim
  | .ok (.ret u), hq => exact I1.after hq
/-- a def's body where its code object is known -/
theorem okC {P : Program} {w : World} {K : PySem.W.Frag} {mg : Str → Option Value} {base : Heap} {x qual : Str} {st : Stmt} {f c : Addr} {N ps : List Str} {k : Nat} {sp : Sp} {oc kV doc pm ct : Value} {od an : Option Addr} {osl : Array (Option Value)}
    (lk : K.lookup f = some ⟨oc, od, .func (PySem.W.fnOf x qual (defArgs st) (defBody st) (defScope st) .none kV doc pm an (.ref c) ct), osl⟩) (hcd : PySem.W.codeIn K (.ref c) qual = true) (S : FnScope N ps (defScope st)) (len : ∀ vs H Q E, sp vs H Q E → vs.length = ps.length)
    (hbody : ∀ (A : Around) (outer : List Env) (s : Shared) (H : Hp) (vs : List V) (Q : VK) (E : XK), Room k (A.deeper (envOfC qual (defScope st) s.heap.objs.size f (.ref c))) → sp vs H Q E →
      ∃ t, PSs (cxOf CX0 P w K mg base N qual (defScope st) f (.ref c) A outer s H E).nox (defBody st) t ∧ t { nx := fun _ H' => Q .non H', rt := Q } (start N vs) H) :
    FnOk P w K mg base CX0 (k + 1) f (PySem.W.fnOf x qual (defArgs st) (defBody st) (defScope st) .none kV doc pm an (.ref c) ct) ps sp :=
  fn_of lk hcd S len fun A outer s H vs Q E hr hsp => by
    obtain ⟨t, h, q⟩ := hbody A outer s H vs Q E hr hsp
    exact ⟨t, h.nox, q⟩
end LL

namespace LE2
open PySem PySem.Spec PyProof.Rows L2 LamX
/-- the end by tables of the law's defs -/
theorem walk_own2 {l : PySem.W.OpenLaw} {n k : Nat} {q : Program} {loose : List Str} {XP : (Str → Option Value) → Heap → Prop} {YP : World → Heap → Prop} {d : DefRec} {K : Params → PySem.W.Frag} {CX : World → CXT} {x : Str} {NM : Str → Prop}
    (hn : l.most = some n) (hn2 : n ≤ sizeLine) (hdf : d.params.defaults = []) (hr : Room k callerA) (hrec : ∀ nm : Str, NM nm → ((recsOf q).any fun e => e.name == nm) = true) (hY : ∀ (w : World) (h : Heap), YP w h → (K w.params).In h)
    (F : ∀ (w : World) (mg : Str → Option Value) (fa : Addr) (h : Heap), YP w h → (K w.params).In h → h.Ns mainGlobals mg → mg d.name = some (.ref fa) → (∀ nm : Str, NM nm → ∀ fb, mg nm = some (.ref fb) → OwnTab (K w.params) fb h) → LawAtS l w (K w.params) (CX w) k n x mg fa h)
    (hCX : ∀ (w : World) (H : Hp) (s : Shared) (e : Value) (s' : Shared), CX w [] H s (fun _ _ _ => False) e s' → False) :
    PySem.W.WalkO q loose XP YP l.row.toRowW d [] (fun f vs => PySem.call f vs) := by
  refine Att.attach_callB hn hdf fun w s₀ s₁ mg mb fa o pm cd doc a vs ns G Y ho hd hcd hmg hobj hints hlen hbits hg => ?_
  have KX := hY w _ Y
  have own : ∀ nm : Str, NM nm → ∀ fb, mg nm = some (.ref fb) → OwnTab (K w.params) fb s₁.heap := fun nm hnm fb hfb c P o1 fd1 e dd vs1 sl k1 k2 k3 k4 k5 => by
    obtain ⟨dL, hm, hn1⟩ := List.any_eq_true.mp (hrec nm hnm)
    have e0 : dL.name = nm := beq_iff_eq.mp hn1
    obtain ⟨a', o', fd', c', P', h1, h2, h3, h4, h5, h6⟩ := G.T.tab dL hm
    rw [e0, hfb] at h1
    cases h1
    have g1 := KX _ _ k1
    rw [g1] at h2
    cases h2
    rw [k2] at h3
    cases h3
    rw [k3] at h4
    cases h4
    obtain ⟨⟨oc, vc, e1, _, e3, e4⟩, hP⟩ := h6
    have g2 := KX _ _ k4
    rw [g2] at e1
    cases e1
    cases e3
    rw [k5] at e4
    cases e4
    exact hP
  obtain ⟨fd, cs, sp, hT, nT, C, hb, hsp, hF⟩ := F w mg fa _ Y KX G.T.g hmg own
  exact law_callTs KX G.T.g G.T.b G.T.builtins G.T.nolimit hg hT nT C G.T.bmain hobj hints (Nat.le_trans hlen hn2) hr hF hb (fun H hH hS => hsp H a ns hlen hbits hH hS) fun H e s' => hCX w H s₁ e s'
end LE2
namespace LE2
open PySem L2
/-- the fields of a code object at c that has its table at P -/
def hdB (vs : Array Value) (c P : Addr) : Bool := (match (vs[11]? : Option Value) with | some (.ref P') => P' == P | _ => false) &&
      (match vs.getD 18 .none with | .str _ _ => true | _ => false) && (match vs.getD 7 .none with | .int _ _ => true | _ => false) &&
      (match vs.getD 9 .none with | .bool _ => true | _ => false) && (match vs.getD 10 .none with | .int _ _ => true | _ => false) && c != P
theorem hd_of {K : PySem.W.Frag} {c P : Addr} {od : Option Addr} {vs : Array Value} {sl : Array (Option Value)} (h : K.lookup c = some ⟨.type "code", od, .fields vs, sl⟩) (r : hdB vs c P = true) : PySem.W.codeHdIn K c P = true := by
  unfold PySem.W.codeHdIn
  rw [h]
  exact r
/-- facts of classes, from the plain look-ups -/
theorem kit_tyF {K : PySem.W.Frag} {R : Addr} {t : String} (c : PySem.W.isClsIn K R = true) (y : PySem.W.typeIn K (.ref R) = some (.type "type")) (h : PySem.W.subIn K (.type t) (.ref R) = some false) : PySem.W.kitOne K (.type t) (.ref R) = some false := by
  have c' : (PySem.W.clsIn K R).isSome = true := c
  have e : ((Value.type t : Value) == Value.ref R) = false := rfl
  unfold PySem.W.kitOne
  rw [e, if_neg Bool.false_ne_true]
  show (if ((PySem.W.clsIn K R).isSome && PySem.W.typeIn K (.ref R) == some (.type "type")) = true then PySem.W.subIn K (.type t) (.ref R) else none) = some false
  rw [c', y, if_pos (by rfl)]
  exact h
theorem kit_ref {K : PySem.W.Frag} {C R : Addr} {b : Bool} (c : PySem.W.isClsIn K R = true) (y : PySem.W.typeIn K (.ref R) = some (.type "type")) (s : PySem.W.subIn K (.ref C) (.ref C) = some true) (h : PySem.W.subIn K (.ref C) (.ref R) = some b) : PySem.W.kitOne K (.ref C) (.ref R) = some b := by
  have c' : (PySem.W.clsIn K R).isSome = true := c
  unfold PySem.W.kitOne
  by_cases q : ((Value.ref C : Value) == Value.ref R) = true
  · rw [if_pos q]
    have e : C = R := by simpa using q
    subst e
    rw [s] at h
    exact h
  · rw [if_neg q]
    show (if ((PySem.W.clsIn K R).isSome && PySem.W.typeIn K (.ref R) == some (.type "type")) = true then PySem.W.subIn K (.ref C) (.ref R) else none) = some b
    rw [c', y, if_pos (by rfl)]
    exact h
theorem any2F {K : PySem.W.Frag} {v c1 c2 : Value} (h1 : PySem.W.kitOne K v c1 = some false) (h2 : PySem.W.kitOne K v c2 = some false) : PySem.W.kitAny K v [c1, c2] = some false := by
  unfold PySem.W.kitAny
  rw [h1]
  show PySem.W.kitAny K v [c2] = some false
  unfold PySem.W.kitAny
  rw [h2] <;> rfl
theorem any2T1 {K : PySem.W.Frag} {v c1 c2 : Value} (h1 : PySem.W.kitOne K v c1 = some true) : PySem.W.kitAny K v [c1, c2] = some true := by
  unfold PySem.W.kitAny
  rw [h1]
theorem any2T2 {K : PySem.W.Frag} {v c1 c2 : Value} (h1 : PySem.W.kitOne K v c1 = some false) (h2 : PySem.W.kitOne K v c2 = some true) : PySem.W.kitAny K v [c1, c2] = some true := by
  unfold PySem.W.kitAny
  rw [h1]
  show PySem.W.kitAny K v [c2] = some true
  unfold PySem.W.kitAny
  rw [h2]
theorem nf_of {K : PySem.W.Frag} {C : Addr} {tb : Value} (h : PySem.W.subIn K tb (.ref C) = some false) : PySem.W.notFirst K C tb = true := by
  unfold PySem.W.notFirst
  rw [h]
  simp
end LE2

namespace LD
open PySem PySem.Spec PyProof.Rows L2
theorem u65 {k : Nat} {A : Around} (r : Room k A) : A.units + 65 < cLine := by have := r.un; omega
section
variable {X : Cx}
/-- xs.remove(y), y is there: the first equal one goes -/
def rRemD (K : PySem.W.Frag) : V → List V → Hp → VK → Prop := fun x xs H Q => ∃ (a : Addr) (y : V) (d : PyData) (ys : List V) (ds : List PyData) (j : Nat) (z : PyData), x = V.ref a ∧ xs = [y] ∧ H a = some (.lst ys) ∧ DpAll K H ys ds ∧ Dp K H y d ∧
  SeqAt.shaped (.list ds) = true ∧ SeqAt.shaped d = true ∧ ds[j]? = some z ∧ PyData.eqv z d = true ∧ (∀ (m : Nat) (z' : PyData), m < j → ds[m]? = some z' → PyData.eqv z' d = false) ∧ Q .non (upd H a (.lst (ys.eraseIdx j)))
theorem mt_removeD (hu : X.A.units + 65 < cLine) : MtR X "list.remove" (rRemD X.K) := by
  intro pins s σ H x xs v us Q I rx rxs h
  obtain ⟨a, y, d, ys, ds, j, z, rfl, rfl, hH, hl, hy, sl, sd, hz, hzj, hno, q⟩ := h
  cases rx
  cases rxs with
  | cons ry rt =>
    rename_i uy ut
    cases rt
    obtain ⟨bs, r1⟩ := Dp.reads I d y uy hy ry
    have hxs : PyData.canLayAll0 ds = true := SeqAt.canLay_of_shaped sl
    have hroom : X.A.units + 1 + min (PyData.depthAll ds) d.depth < cLine := room_in_shaped sd hu
    obtain ⟨zl, its, n, rv, hlen, ho⟩ := I.lstM hH
    obtain ⟨as, h4⟩ := Dp.readsAll I ds _ its hl rv
    have hn : its.length = ds.length := SeqAt.ReadsAll.length ds its as h4
    have hmap : its.map (SeqAt.readOf s.heap) = ds := SeqAt.readsAll_map ds its as hxs h4
    have hvl := rv.length
    have hsl := sizeLine_eq
    obtain ⟨hjd, _⟩ := List.getElem?_eq_some_iff.mp hz
    have hjl : j < its.length := by omega
    have hj : j < its.toArray.size := by simpa using hjl
    have at_ : ∀ (m : Nat) (hm : m < its.toArray.size) (z' : PyData), ds[m]? = some z' → SeqAt.readOf s.heap its.toArray[m] = z' := by
      intro m hm z' hz'
      have hml : m < its.length := by simpa using hm
      rw [← hmap, List.getElem?_map, List.getElem?_eq_getElem hml] at hz'
      have e1 : SeqAt.readOf s.heap its[m] = z' := Option.some.inj (show some (SeqAt.readOf s.heap its[m]) = some z' from hz')
      simpa using e1
    refine call_meets PySem.F.slot_list_remove ⟨_, ho, rfl⟩ PySem.F.entry_list_remove (PySem.F.args_list_remove_2 _ _)
      (SeqAt.list_removeAt a its.toArray n none #[] uy (fun u => PyData.eqv (SeqAt.readOf s.heap u) d) j hj ?_ ?_ (by rw [List.size_toArray]; omega)) ⟨ho, SeqAt.items_eqAt (vs := its.toArray) (show ReadsAll s.heap its.toArray.toList ds as from h4) r1 hxs (SeqAt.canLay_of_shaped sd) hroom, ?_⟩
    · show PyData.eqv (SeqAt.readOf s.heap its.toArray[j]) d = true
      rw [at_ j hj z hz]
      exact hzj
    · intro m hm hmj
      have hmd : m < ds.length := by omega
      have hz' : ds[m]? = some ds[m] := List.getElem?_eq_getElem hmd
      show PyData.eqv (SeqAt.readOf s.heap its.toArray[m]) d = false
      rw [at_ m hm _ hz']
      exact hno m _ hmj hz'
    · have rr := rv.eraseIdx j
      refine ⟨.non, _, I.lset (its' := its.eraseIdx j) (t' := s.toks) hH ho ?_ rr ?_, rfl, q⟩
      · show its.toArray.eraseIdxIfInBounds j = (its.eraseIdx j).toArray
        rw [List.eraseIdxIfInBounds_toArray]
      · have := List.length_eraseIdx_le ys j
        omega
/-- the row of three at t -/
def Row3 (H : Hp) (t : Addr) (r : PySem.W.T3 Int Str Int) : Prop := H t = some (.tup [.int r.a, .str r.b, .int r.c])
/-- min(xs) of a list of tuples: the first least one itself -/
def rMinT (K : PySem.W.Frag) : List V → Hp → VK → Prop := fun vs H Q => ∃ (a : Addr) (ts : List Addr) (r0 : PySem.W.T3 Int Str Int) (rs : List (PySem.W.T3 Int Str Int)), vs = [V.ref a] ∧ SqL K H a (ts.map V.ref) ∧ Paired (Row3 H) ts (r0 :: rs) ∧
  ∀ (i : Nat) (t : Addr), ts[i]? = some t → (r0 :: rs)[i]? = some (PySem.W.minOf r0 rs) → Q (.ref t) H
theorem t3_inj {h : Heap} {v : Value} {p q : PySem.W.T3 Int Str Int} (H : PySem.W.Holds h v p) (H' : PySem.W.Holds h v q) : p = q := by
  obtain ⟨l, va, vb, vc, e, ⟨o, ho, hc, n, hd⟩, Ha, Hb, Hc⟩ := PySem.W.t3_of_holds H
  obtain ⟨l', va', vb', vc', e', ⟨o', ho', hc', n', hd'⟩, Ha', Hb', Hc'⟩ := PySem.W.t3_of_holds H'
  rw [e] at e'
  cases e'
  rw [ho] at ho'
  cases ho'
  rw [hd] at hd'
  cases hd'
  obtain ⟨t1, e1⟩ := PySem.W.int_of_holds Ha
  obtain ⟨t1', e1'⟩ := PySem.W.int_of_holds Ha'
  obtain ⟨t2, e2⟩ := PySem.W.str_of_holds Hb
  obtain ⟨t2', e2'⟩ := PySem.W.str_of_holds Hb'
  obtain ⟨t3, e3⟩ := PySem.W.int_of_holds Hc
  obtain ⟨t3', e3'⟩ := PySem.W.int_of_holds Hc'
  refine PySem.W.T3.same ?_ ?_ ?_
  · have := e1.symm.trans e1'
    injection this
  · have := e2.symm.trans e2'
    injection this
  · have := e3.symm.trans e3'
    injection this
theorem row_holds {pins : List (Addr × Obj)} {σ : L2.St} {H : Hp} {s : Shared} {t : Addr} {r : PySem.W.T3 Int Str Int} (I : Inv X pins σ H s) (h : Row3 H t r) : PySem.W.Holds s.heap (.ref t) r := by
  obtain ⟨_, its, r2, o, ho, hc, n, hd⟩ := I.hok _ _ h
  cases r2 with
  | cons q1 r2 =>
    cases r2 with
    | cons q2 r2 =>
      cases r2 with
      | cons q3 r2 =>
        cases r2
        obtain ⟨t1, rfl⟩ := q1
        obtain ⟨t2, rfl⟩ := q2
        obtain ⟨t3, rfl⟩ := q3
        exact PySem.W.holds_t3 ⟨o, ho, hc, n, hd⟩ (PySem.W.holds_int _ _) (PySem.W.holds_str _ _) (PySem.W.holds_int _ _)
theorem rows_hold {pins : List (Addr × Obj)} {σ : L2.St} {H : Hp} {s : Shared} (I : Inv X pins σ H s) : ∀ {ts : List Addr} {rs : List (PySem.W.T3 Int Str Int)} {us : List Value}, Paired (Row3 H) ts rs → Vals (ts.map V.ref) us → PySem.W.HoldAll s.heap us rs ∧ us = ts.map Value.ref
  | [], _, _, .nil, .nil => ⟨.nil, rfl⟩
  | t :: ts, _, _, .cons h p, .cons rv rvs => by
    obtain ⟨h1, h2⟩ := rows_hold I p rvs
    obtain rfl := rv
    exact ⟨.cons (row_holds I h) h1, by rw [h2]; rfl⟩
theorem cr_minT (hc : X.calm = true) (hu : X.A.units + 64 < cLine) : CallR X (.builtin "min") (rMinT X.K) := by
  intro pins s σ H vs us Q I r h
  obtain ⟨a, ts, r0, rs, rfl, hs, hp, q⟩ := h
  obtain ⟨its, rv, hl, _⟩ := I.list hs
  rw [Vals.ref1 r]
  obtain ⟨ha, rfl⟩ := rows_hold I hp rv
  refine PySem.W.min_list_datum (α := PySem.W.T3 Int Str Int) (I.ok.hd hc) hl.isList ha (by show X.A.units + 1 + 1 < cLine; omega) fun i v h' tk hi hv hk => ?_
  have hi' : (ts.map Value.ref)[i]? = some v := by simpa using hi
  rw [List.getElem?_map] at hi'
  cases e : ts[i]? with
  | none => rw [e] at hi'; cases hi'
  | some t =>
    rw [e] at hi'
    cases hi'
    obtain ⟨x, hx, hxv⟩ := ha.at (i := i) (v := .ref t) (by rw [List.getElem?_map, e]; rfl)
    have := t3_inj (hxv.keeps hk) hv
    subst this
    exact ⟨.ref t, H, I.kept hk, rfl, q i t e hx⟩
end
section
variable {X : Cx}
theorem vals_of_kv {κ : Type} {kvs : List (κ × V)} {vs : List (κ × Value)} (r : KV kvs vs) : Vals (kvs.map (·.2)) (vs.map (·.2)) := by
  induction r with
  | nil => exact .nil
  | cons h _ ih => exact .cons h.2 ih
/-- list(o.values()) -/
def tListVals (td : TE) : TE := fun σ H Q => td σ H fun x H1 => ∃ a kvs, x = V.ref a ∧ H1 a = some (.dK kvs) ∧ ∀ p, H1 p = none → Q (.ref p) (upd H1 p (.lst (kvs.map (·.2))))
variable {o : Expr} {p pos apos mpos : Pos} {td : TE}
theorem pe_listVals (hc : X.calm = true) (hg : Gl X "list") (hm : X.mg "list" = none) (hd : PE X o td) (hbase : attributeBase o "values" X.env (eval o X.env) = eval o X.env := by rfl) (hline : (apos.endLine == mpos.line) = true := by rfl)
    (hse : starEach [Expr.Call (.Attribute o "values" apos) [] [] mpos] X.env = [(false, eval (Expr.Call (.Attribute o "values" apos) [] [] mpos) X.env)] := by rfl) :
    PE X (.Call (.Name "list" p) [.Call (.Attribute o "values" apos) [] [] mpos] [] pos) (tListVals td) := by
  refine ⟨fun pins s σ H Q I h => ?_⟩
  refine wpAny_Call_Name_kw (ld_blt I hg hm (u := .type "list") (by first | rfl | decide +kernel) ?_ (by first | decide +kernel | decide) (by first | decide +kernel | decide))
  rw [hse]
  refine PySem.callWith_type1 (wpAny_Call_method0_late hbase hline (thn (hd.run pins s σ H _ I h) fun v s1 ⟨x, H1, I1, r1, a, kvs, ex, ha, q⟩ => ?_))
  subst ex
  obtain rfl : v = Value.ref a := r1
  obtain ⟨hz, hsys, vs, rel, dof⟩ := dk_of I1.hok ha
  obtain ⟨ep, dat⟩ := dof.dictAt
  have dat' := dat
  obtain ⟨ob, es, ho, ex, hdat, hko, hpr, hnd⟩ := dat'
  refine ⟨"dict", "dict.values", F.plainAttrs_dict, F.slot_dict_values, F.type_dict_values, ⟨ob, ho, ex.1⟩, fun b e => ?_, Calls.callWith_builtin rfl (PySem.evalArgs_none ?_)⟩
  · cases e
    exact ⟨ob, ho, ex.2.1⟩
  refine call_meetsIn F.slot_dict_values ⟨ob, ho, ex.1⟩ F.entry_dict_values (F.args_dict_values_1 _) (meets_dict_values (mixKind X.prog X.w) a hsys) ⟨⟨vs, dof⟩, ?_⟩
  have k1 : ∀ b u, s1.heap.get? b = some u → (s1.heap.push { cls := .type "dict_values", data := .fields #[.ref a] }).get? b = some u := fun b u e => Heap.get?_push_of_some _ e
  have dat1 : (s1.heap.push { cls := .type "dict_values", data := .fields #[.ref a] }).DictAt (mixKind X.prog X.w) a vs ep := dat.keep k1
  refine PySem.W.kdl_call (PySem.W.kdl_values (knd := mixKind X.prog X.w) (ep := ep)) (I.ok.hd hc) ⟨⟨_, Heap.get?_push_size _ rfl, rfl, rfl⟩, dat1⟩ (by rw [← KV.length rel]; exact hz) fun h' tk acc' c' hk hS' hacc => ?_
  have e1 : acc'.toList = vs.map (·.2) := PySem.W.kdl_vals_eq acc'.toList (by rw [Array.length_toList]; exact hacc.1) fun j v e => hacc.2 j v (by rw [← Array.getElem?_toList]; exact e)
  have kk : ∀ b u, s1.heap.get? b = some u → h'.get? b = some u := fun b u e => hk b u (k1 b u e)
  refine ⟨.ref _, _, I1.laid (t' := tk) (a := (s1.heap.push { cls := .type "dict_values", data := .fields #[.ref a] }).objs.size) (o := .lst (kvs.map (·.2))) kk (by rw [Heap.size_push]; exact Nat.le_succ _) ⟨?_, vs.map (·.2), c', vals_of_kv rel, ?_⟩, rfl, q _ (I1.hok.fresh (by rw [Heap.size_push]; exact Nat.le_succ _))⟩
  · rw [List.length_map]
    exact hz
  · rw [← e1]
    simpa using hS'
end
/-! ### len(x) and bool(x) of an instance -/
theorem kbo_call {prog : Program} {w : World} {A : Around} {E : Value → Shared → Prop} {s : Shared} {K : PySem.W.Frag} {h₀ : Heap} {L : Addr} {m : Str → Option Value} {x C f : Addr} {ox : Obj} {od : Option Obj} {Q : Value → Shared → Prop} (F : Fr h₀ L s.heap m) (X₀ : K.In h₀) (I : PySem.W.InstAt s.heap x ox C od)
    (hs : PySem.W.findIn K (.ref C) "__bool__" = some (some (.ref f))) (hf : PySem.W.isFn K (.ref f) = true) (h : wpAny (model prog w) A.in1.in1 (call (.ref f) [.ref x]) (PySem.W.BoolBack fun b s' => Q (.bool b) s') E s) : wpAny (model prog w) A (call (.type "bool") [.ref x]) Q E s := by
  refine callType_codes (T := "bool") (Bi := Builtin.«object.__init__») (Q₁ := fun r s₁ => ∃ y, r = .bool y ∧ Q r s₁) PySem.F.called_bool (PySem.F.typeCall_bool_1 _) PySem.F.entry_object_init ?_ ?_
  · refine codeAny_of_tree ?_
    show wpAny _ A.in1.in1 (do checkBuiltinCall "bool.__new__" ⟨[.type "bool", .ref x], []⟩; again (.builtin "bool.__new__" ⟨[.type "bool", .ref x], []⟩)) _ _ s
    refine wpAny_bind (wpAny_of_eq (PySem.F.newCall_bool_1 _) (wpAny_pure ⟨plainId_quiet (by decide +kernel) _, codeAny_builtin PySem.F.entry_bool_new ?_⟩))
    rw [Around.under_plainId (by decide +kernel) _]
    unfold Builtin.«bool.__new__»
    refine wpAny_bind (wpAny_pure ?_)
    refine wpAny_bind (wpAny_of_eq PySem.F.conv_sub_bool ?_)
    refine wpAny_bind (wpAny_pure ?_)
    refine wpAny_bind (PySem.W.truthy_K F X₀ I hs hf (wpAny_mono h (fun r s₁ hr => ?_) fun _ _ y => y))
    cases r <;> first | exact hr.elim | exact wpAny_pure ⟨_, rfl, hr⟩
  · rintro obj s₁ ⟨y, rfl, hq⟩
    exact ⟨rfl, PySem.F.args_object_init_2 _ _, object_init_meets PySem.F.called_bool.init.lookup PySem.F.called_bool.made (by decide) prog w A.in1 _ s₁ ⟨rfl, rfl, hq⟩⟩
section
variable {X : Cx} {n : Nat}
/-- len(x), x an instance of a class with an own __len__ -/
def rLenI (X : Cx) (n : Nat) : List V → Hp → VK → Prop := fun xs H Q => ∃ (a C dx g : Addr) (fs : List (Str × V)) (sp : Sp), xs = [V.ref a] ∧ H a = some (.ins C dx fs) ∧ LE.Own X n "__len__" C g sp ∧ sp [.ref a] H (fun z H' => ∃ k : Int, z = .int k ∧ 0 ≤ k ∧ k < 2 ^ 63 ∧ Q z H') E0
theorem call_lenI (hr : Room (n + 1) X.A) : CallR X (.builtin "len") (rLenI X n) := by
  intro pins s σ H xs us Q I r h
  obtain ⟨a, C, dx, g, fs, sp, rfl, ha, O, q⟩ := h
  obtain ⟨u, rfl, ru⟩ := r.one
  cases (show u = Value.ref a from ru)
  obtain ⟨mA, J, _⟩ := ins_get I.hok ha
  obtain ⟨od, J, _⟩ := J.look
  obtain ⟨m, hF⟩ := I.fr
  have hr1 : Room n X.A.in1 := Room.in1 hr
  refine PySem.W.len_K hF I.ok.mod.kin J O.at_ O.fn (wpAny_mono (wpAny_call (LE.run_in (us := [.ref a]) (ws := [.ref a]) O.F hr1 I.env0.in1 I (.cons rfl .nil) q)) (fun w s' z => ?_) fun _ _ x => x)
  obtain ⟨z', H', I', rz, k, ez, k0, k1, qz⟩ := z
  subst ez
  obtain ⟨t, e⟩ := (show ∃ t, w = Value.int k t from rz)
  cases e
  exact ⟨⟨k0, k1⟩, .int k, H', I'.tok _, ⟨_, rfl⟩, qz⟩
/-- bool(x), x an instance of a class with an own __bool__ -/
def rBoolI (X : Cx) (n : Nat) : List V → Hp → VK → Prop := fun xs H Q => ∃ (a C dx g : Addr) (fs : List (Str × V)) (sp : Sp), xs = [V.ref a] ∧ H a = some (.ins C dx fs) ∧ LE.Own X n "__bool__" C g sp ∧ sp [.ref a] H (fun z H' => ∃ k : Bool, z = .bl k ∧ Q z H') E0
theorem call_boolI (hr : Room (n + 2) X.A) : CallR X (.type "bool") (rBoolI X n) := by
  intro pins s σ H xs us Q I r h
  obtain ⟨a, C, dx, g, fs, sp, rfl, ha, O, q⟩ := h
  obtain ⟨u, rfl, ru⟩ := r.one
  cases (show u = Value.ref a from ru)
  obtain ⟨mA, J, _⟩ := ins_get I.hok ha
  obtain ⟨od, J, _⟩ := J.look
  obtain ⟨m, hF⟩ := I.fr
  have hr2 : Room n X.A.in1.in1 := (show Room (n + 1) X.A.in1 from Room.in1 hr).in1
  refine kbo_call hF I.ok.mod.kin J O.at_ O.fn (wpAny_mono (wpAny_call (LE.run_in (us := [.ref a]) (ws := [.ref a]) O.F hr2 I.env0.in1.in1 I (.cons rfl .nil) q)) (fun w s' z => ?_) fun _ _ x => x)
  obtain ⟨z', H', I', rz, k, ez, qz⟩ := z
  subst ez
  obtain rfl := (show w = Value.bool k from rz)
  exact ⟨.bl k, H', I', rfl, qz⟩
end
end LD

namespace LN
open PySem PySem.Spec PyProof.Rows L2
/-! ### enumerate over a tuple -/
/-- enumerate(v): what its making leaves -/
theorem newT {v : Value} {o : Obj} {H : Heap → Prop} (B : Begins v o H) :
    Meets (Builtin.«enumerate.__new__» ⟨[.type "enumerate", v], []⟩) (fun _ R s' => H s'.heap ∧
      R (.ok (.ret (.ref (s'.heap.push o).objs.size)))
        { s' with heap := (s'.heap.push o).push ({ cls := .type "enumerate", data := .fields #[.none, .bool false, .ref s'.heap.objs.size, rawInt 0, .none, .none] } : Obj) }) :=
  .of_wp fun prog w A R st h0 => by
    obtain ⟨hp, gg, dd, tk, os⟩ := st
    obtain ⟨h1, h⟩ := h0
    have su := sub_enumerate
    have go : ∀ {A' : Around} {E : Value → Shared → Prop} {Q : Value → Shared → Prop}, Q (.ref hp.objs.size) ⟨hp.push o, gg, dd, tk, os⟩ →
        wpAny (model prog w) A' (pyIter v) Q E ⟨hp, gg, dd, tk, os⟩ := fun q => B.iter prog w _ _ ⟨hp, gg, dd, tk, os⟩ _ h1 q
    wp_walk using go
    refine wpAny_stack_any fun _ => wpAny_pure ?_
    split
    · rename_i c _ _ _ _ _
      cases (c == Value.type "enumerate") <;> (wp_walk using go; exact ⟨_, rfl, h⟩)
    · (wp_walk using go; exact ⟨_, rfl, h⟩)
section
variable {prog : Program} {w : World} {A : Around} {E : Value → Shared → Prop} {s : Shared}
theorem call_enumT {t : Addr} {items : Array Value} {Q : Value → Shared → Prop} (ht : s.heap.IsTuple t items)
    (h : ∀ h', IsEnum h' (s.heap.objs.size + 1) s.heap.objs.size 0 .none → h'.IsTupleIter s.heap.objs.size t 0 →
      (∀ b o, s.heap.get? b = some o → h'.get? b = some o) → Q (.ref (s.heap.objs.size + 1)) { s with heap := h' }) :
    wpAny (model prog w) A (call (.type "enumerate") [.ref t]) Q E s := by
  let ob : Obj := { cls := .type "tuple_iterator", data := .fields #[.ref t, .int 0 0] }
  let oe : Obj := { cls := .type "enumerate", data := .fields #[.none, .bool false, .ref s.heap.objs.size, rawInt 0, .none, .none] }
  refine callType_new F.called_enumerate (by decide) (F.typeCall_enumerate_1 _)
    (F.newCall_enumerate_1 _) (fun obj => F.args_object_init_2 obj _) F.entry_enumerate_new (newT (begins_tuple t items)) ⟨ht, ?_⟩
  have hz : (s.heap.push ob).objs.size = s.heap.objs.size + 1 := Heap.size_push ..
  have q := Heap.get?_push_size (s.heap.push ob) (o := oe) rfl
  show _ ∧ _
  rw [hz] at q ⊢
  have he : IsEnum ((s.heap.push ob).push oe) (s.heap.objs.size + 1) s.heap.objs.size 0 .none := q
  refine ⟨⟨_, he, rfl⟩, h _ he ⟨ob, Heap.get?_push_of_some _ (Heap.get?_push_size _ (o := ob) rfl), rfl, rfl⟩ fun b o x => ?_⟩
  exact Heap.get?_push_of_some _ (Heap.get?_push_of_some _ x)
end
def IteT (K : PySem.W.Frag) (a : Addr) : It :=
  ⟨fun i H => ∃ (xs : List V) (x : V), SqT K H a xs ∧ xs[i]? = some x,
    fun i H v H' => ∃ T x, v = .ref T ∧ H T = none ∧ H' = upd H T (.tup [.int (i : Nat), x]) ∧ ∀ xs, SqT K H a xs → xs[i]? = some x,
    fun i H => ∃ xs : List V, SqT K H a xs ∧ xs.length = i⟩
theorem turn_enumT {P : Program} {w : World} {K : PySem.W.Frag} {elts : List Expr} {kk : Nat} {tpos : Pos} (a e it : Addr) :
    Turn P w K (.Tuple elts kk tpos) (IteT K a) [e, it] e
      (fun i h => (∃ old, IsEnum h e it ((i : Nat) : Int) old) ∧ h.IsTupleIter it a i ∧ e ≠ it ∧ e ≠ a ∧ a ≠ it) where
  mem := by simp
  obj := fun i h st b hb => by
    obtain ⟨⟨old, he⟩, ⟨o, ho, hc, hd⟩, _⟩ := st
    rcases (show b = e ∨ b = it by simpa using hb) with z | z
    · rw [z]
      exact ⟨_, he, fun v q => nomatch q⟩
    · rw [z]
      exact ⟨o, ho, fun v q => by rw [hd] at q; cases q⟩
  keep := fun i h h' st k => by
    obtain ⟨⟨old, he⟩, hi, r⟩ := st
    exact ⟨⟨old, k e (by simp) _ he⟩, hi.at fun o q => k it (by simp) o q, r⟩
  item := by
    intro X hP hw hK hc i pins s σ H E I hf st hg
    subst hP hw hK
    obtain ⟨⟨old, he⟩, hit, hne, hea, hai⟩ := st
    obtain ⟨xs, x, hq, hx⟩ := hg
    obtain ⟨its, rv, p, hz⟩ := I.tuple hq
    obtain ⟨u, hu, ru⟩ := rv.get hx
    have hel : e < s.heap.objs.size := Heap.lt_size he
    have hil : it < s.heap.objs.size := by
      obtain ⟨_, q, _⟩ := hit
      exact Heap.lt_size q
    have hlt : i < its.toArray.size := by
      have := (List.getElem?_eq_some_iff.mp hu).1
      simpa using this
    refine wpAny_pyNext_enum_itemD (Draws.tuple (A := X.A.in1) (I.ok.hd hc) it a hai its.toArray) he ⟨hit, p⟩ hlt hne (by simp [hne, hea]) fun x' h' tk hx' ho st' hT hsz hk => ?_
    obtain rfl : x' = u := by
      rw [show its.toArray[i]? = its[i]? by simp, hu] at hx'
      exact (Option.some.inj hx').symm
    refine ⟨_, rfl, wpAny_letOwnedTupleGo_enum (s := { s with heap := h', toks := tk + 1 }) ho fun h'' he' sb => ?_⟩
    have hT2 := (sb.2 _ (Nat.ne_of_gt hel)).trans hT
    have new : ObjOk X.prog X.w (upd H s.heap.objs.size (.tup [.int (i : Nat), x])) h'' s.heap.objs.size (.tup [.int (i : Nat), x]) :=
      ⟨by show 2 ≤ sizeLine; decide, [.int i tk, x'], .cons ⟨_, rfl⟩ (.cons ru .nil), ⟨_, hT2, rfl, _, rfl⟩⟩
    have I1 : Inv X pins σ (upd H s.heap.objs.size (.tup [.int (i : Nat), x])) { s with heap := h'', toks := tk + 1 } :=
      I.turnedNew (t' := tk + 1) (ch := [e, it]) (fun b ob hb q => (sb.2 b (fun z => hb (by simp [z]))).trans (hk b ob (fun z => hb (by simp [z])) (fun z => hb (by simp [z])) q)) hf (Nat.le_refl _) new
    refine ⟨.ref s.heap.objs.size, _, I1, rfl, ⟨_, x, rfl, I.hok.fresh (Nat.le_refl _), rfl, fun ys hy => ?_⟩, ⟨⟨x', ?_⟩, st'.1.at fun o q => (sb.2 it (Ne.symm hne)).trans q, hne, hea, hai⟩, fun b hb => ?_⟩
    · rw [I.tuple_inj hy hq]
      exact hx
    · rw [show ((i + 1 : Nat) : Int) = (i : Int) + 1 by omega]
      exact he'
    · have hb' : b < s.heap.objs.size := by
        rcases (show b = e ∨ b = it by simpa using hb) with z | z
        · exact z ▸ hel
        · exact z ▸ hil
      rw [upd_ne (Nat.ne_of_lt hb')]
      exact (hf b hb).1
  done := by
    intro X hP hw hK hc i pins s σ H E I hf st hg
    subst hP hw hK
    obtain ⟨⟨old, he⟩, hit, hne, hea, hai⟩ := st
    obtain ⟨xs, hq, hx⟩ := hg
    obtain ⟨its, rv, p, hz⟩ := I.tuple hq
    obtain ⟨f0, f1, f2, f3, f4, f5⟩ := hf it (by simp)
    have hl := rv.length
    have hi : i = its.toArray.size := by rw [List.size_toArray, ← hl, hx]
    subst hi
    refine wpAny_pyNext_enum_endD (Draws.tuple (A := X.A.in1) (I.ok.hd hc) it a hai its.toArray) he ⟨hit, p⟩ fun h' eb => ?_
    exact ⟨rfl, I.turned (t' := s.toks) (fun b o hb q => eb b o hb q) f0 f1 f3 f4 f5⟩
  self := fun A i s Q E st h => by
    obtain ⟨⟨_, he⟩, _⟩ := st
    exact wpAny_pyIter_enum he h
def iEnumT (K : PySem.W.Frag) (ta : TA) : TI := fun σ H R => ta σ H fun vs H1 => ∃ (a : Addr) (xs : List V), vs = [.ref a] ∧ SqT K H1 a xs ∧ R (IteT K a) H1
theorem pi_enumT {X : Cx} {e : Expr} {ta : TA} {p pos tpos : Pos} {elts : List Expr} {kk : Nat} (hg : Gl X "enumerate") (hm : X.mg "enumerate" = none) (ha : PA X [e] ta) (hs : starEach [e] X.env = [(false, eval e X.env)] := by rfl) :
    PI X (.Tuple elts kk tpos) (.Call (.Name "enumerate" p) [e] [] pos) (iEnumT X.K ta) := by
  refine ⟨fun pins s σ H R I h => Call_ (ld_blt I hg hm boot_enumerate (PyProof.Rows.callWith_type1 (thn (ha.run pos pins s σ H _ I h) fun us s1 ⟨vs, H1, I1, r1, a, xs, ex, hq, q⟩ => ?_) hs rfl))⟩
  subst ex
  rw [Vals.ref1 r1]
  obtain ⟨its, rv, pt, hz⟩ := I1.tuple hq
  have hal : a < s1.heap.objs.size := by
    obtain ⟨_, z, _⟩ := pt
    exact Heap.lt_size z
  refine call_enumT pt fun h' he hit hk => wpAny_pyIter_enum he ?_
  have I2 : Inv X pins σ H1 { s1 with heap := h' } := I1.kept (t' := s1.toks) hk
  refine ⟨s1.heap.objs.size + 1, [s1.heap.objs.size + 1, s1.heap.objs.size], _, _, H1, rfl, I2, turn_enumT a (s1.heap.objs.size + 1) s1.heap.objs.size, ⟨⟨.none, he⟩, hit, Nat.succ_ne_self _, Ne.symm (Nat.ne_of_lt (Nat.lt_succ_of_lt hal)), Nat.ne_of_lt hal⟩, fun b hb => ?_, q⟩
  have hle : s1.heap.objs.size ≤ b := by
    rcases (show b = s1.heap.objs.size + 1 ∨ b = s1.heap.objs.size by simpa using hb) with z | z
    · rw [z]; exact Nat.le_succ _
    · rw [z]; exact Nat.le_refl _
  exact I1.fpOk hle (I1.hok.fresh hle)
theorem walk_enumT {K : PySem.W.Frag} {a : Addr} {xs : List V} : Walk (IteT K a) xs.length (fun H => SqT K H a xs) (YPair (fun i => some (.int (i : Nat))) (fun i => xs[i]?)) := by
  refine ⟨fun i _ hi q => ⟨xs, xs[i], q, by simp [hi]⟩, fun _ q => ⟨xs, q, rfl⟩, fun i H v H' _ q y => ?_⟩
  obtain ⟨T, x, h1, h2, h3, h4⟩ := y
  exact ⟨T, .int (i : Nat), x, h1, h2, h3, rfl, h4 xs q⟩
/-! ### repr of six booleans -/
end LN

namespace LO
open PySem L2 PySem.Spec PyProof.Rows
/-- either of two readings -/
theorem pi_or {X : Cx} {tg e : Expr} {w1 w2 : TI} (p : PI X tg e w1) (q : PI X tg e w2) : PI X tg e (fun σ H R => w1 σ H R ∨ w2 σ H R) :=
  ⟨fun pins s σ H R I h => h.elim (p.run pins s σ H R I) (q.run pins s σ H R I)⟩
theorem pe_or {X : Cx} {e : Expr} {t1 t2 : TE} (p : PE X e t1) (q : PE X e t2) : PE X e (fun σ H Q => t1 σ H Q ∨ t2 σ H Q) :=
  ⟨fun pins s σ H Q I h => h.elim (p.run pins s σ H Q I) (q.run pins s σ H Q I)⟩
/-- x == y, x an instance of a class with an own ==, y of any type -/
def rEqO (X : Cx) (n : Nat) : R2 := fun x y H Q => ∃ (a C dx g : Addr) (fs : List (Str × V)) (sp : Sp) (tb : Value), x = .ref a ∧ H a = some (.ins C dx fs) ∧ LE.Own X n "__eq__" C g sp ∧ TyX X.K H y tb ∧ PySem.W.notFirst X.K C tb = true ∧ sp [x, y] H Q E0
/-- x != y by the own == -/
def rNeO (X : Cx) (n : Nat) : R2 := fun x y H Q => ∃ (a C dx g : Addr) (fs : List (Str × V)) (sp : Sp) (tb : Value), x = .ref a ∧ H a = some (.ins C dx fs) ∧ LE.Own X n "__eq__" C g sp ∧ PySem.W.findIn X.K (.ref C) "__ne__" = some (some (.builtin "object.__ne__")) ∧ PySem.W.mroIn X.K C (.type "object") = some true ∧ TyX X.K H y tb ∧ PySem.W.notFirst X.K C tb = true ∧ sp [x, y] H (fun v H' => ∃ b, v = .bl b ∧ Q (.bl (!b)) H') E0
section
variable {X : Cx} {n : Nat}
theorem op_eqO (hr : Room n X.A) : OpR X (compareOp .Eq) (rEqO X n) := by
  intro pins s σ H x y v u Q I rx ry h
  obtain ⟨a, C, dx, g, fs, sp, tb, rfl, ha, O, ty, hn, q⟩ := h
  cases (show v = Value.ref a from rx)
  obtain ⟨mA, J, _⟩ := ins_get I.hok ha
  obtain ⟨od, J, _⟩ := J.look
  obtain ⟨m, hF⟩ := I.fr
  obtain ⟨P, Z, p, _⟩ := kit_of I ry ty
  show wpAny (model X.prog X.w) X.A (richCompare .Eq (.ref a) u) (EP X pins σ Q) X.xe s
  refine PySem.W.cmp_K (op := .Eq) hr.units0 hF I.ok.mod.kin J (Z.ty _ _ I.kIn p) hn O.at_ O.fn ?_
  refine wpAny_mono (wpAny_call (run_fnR (us := [.ref a, u]) (vs := [.ref a, y]) O.F hr (E := E0) pass0 I (.cons rfl (.cons ry .nil)) q)) (fun w s' z => ?_) fun _ _ x => x
  obtain ⟨z', H', I', rz, qz⟩ := z
  exact SlX.cmpback rz ⟨z', H', I', rz, qz⟩
theorem ne_entry {prog : Program} {w : World} {A : Around} {E : Value → Shared → Prop} {s : Shared} {K : PySem.W.Frag} {x C f : Addr} {ox : Obj} {od : Option Obj} {b : Value} (Xk : K.In s.heap) (I : PySem.W.InstAt s.heap x ox C od) (hs : PySem.W.findIn K (.ref C) "__eq__" = some (some (.ref f))) (hf : PySem.W.isFn K (.ref f) = true)
    (hu : A.units < cLine) {Q : Fin → Shared → Prop} (hcall : wpAny (model prog w) A (call (.ref f) [.ref x, b]) (fun v s' => ∃ c, v = .bool c ∧ Q (.done (.ret (.bool (!c)))) s') E s) :
    wpAny (model prog w) A (Builtin.«object.__ne__» ⟨[.ref x, b], []⟩) Q E s := by
  obtain ⟨h, g, d, t, os⟩ := s
  unfold Builtin.«object.__ne__»
  repeat (first
    | with_reducible refine wpAny_cRoomFor hu ?_
    | (refine wpAny_bind (m := callSpecialIfBound? (.ref x) (Str.ofString "__eq__") [b])
        (PySem.W.ifBound_K Xk I hs hf (wpAny_mono hcall (fun r s' hr => by
          obtain ⟨c, rfl, hq⟩ := hr
          repeat (first | exact hq | exact wpAny_pure hq | exact wpAny_truthy_bool hq | (refine wpAny_bind (m := truthy (.bool _)) (wpAny_truthy_bool ?_)) | wp_step)) fun _ _ e => e)))
    | wp_step)
theorem op_neO (hr : Room (n + 1) X.A) : OpR X (compareOp .NotEq) (rNeO X n) := by
  intro pins s σ H x y v u Q I rx ry h
  obtain ⟨a, C, dx, g, fs, sp, tb, rfl, ha, O, hne, hm, ty, hn, q⟩ := h
  cases (show v = Value.ref a from rx)
  obtain ⟨mA, J, _⟩ := ins_get I.hok ha
  obtain ⟨od, J, _⟩ := J.look
  obtain ⟨P, Z, p, _⟩ := kit_of I ry ty
  have hr1 : Room n X.A.in1 := Room.in1 hr
  have hb := Z.ty (model X.prog X.w) _ I.kIn p
  have Xk := I.kIn
  have one : wpAny (model X.prog X.w) X.A (tryCompare (.ref a) "__ne__" u) (fun r s' => ∃ v, r = some v ∧ EP X pins σ Q v s') X.xe s := by
    unfold tryCompare
    refine wpAny_bind ?_
    simp only [callSpecialIfBound?, bindSpecialIfBound?]
    refine wpAny_holding (wpAny_bind (wpAny_bind (wpAny_bind (J.type.here ((PySem.W.looks_findIn Xk hne).here ?_)))))
    refine wpAny_bind (wpAny_askSetting (wpAny_ite ?_))
    have body : wpAny (model X.prog X.w) X.A (call (.builtin "object.__ne__") [.ref a, u]) (fun v s' => ∃ b, v = .bool b ∧ EP X pins σ Q v s') X.xe s := by
      refine wpAny_call (codeAny_call_builtin F.cmp_object.ne.plain F.cmpEntry_ne (PySem.W.check_slot (i := "object.__ne__") (owner := "object") (n := "__ne__") F.cmpKind_ne F.cmpSplit_ne (J.type.andThen (PySem.W.looks_mroIn Xk hm)) (F.cmpArgs_ne _ _) ?_))
      refine ne_entry (A := X.A.in1) Xk J O.at_ O.fn hr1.units0 ?_
      refine wpAny_mono (wpAny_call (LE.run_in (us := [.ref a, u]) (ws := [.ref a, y]) O.F hr1 I.env0.in1 I (.cons rfl (.cons ry .nil)) q)) (fun w s' z => ?_) fun _ _ x => x
      obtain ⟨z', H', I', rz, b, rfl, qz⟩ := z
      cases (show w = Value.bool b from rz)
      exact ⟨b, rfl, !b, rfl, .bl (!b), H', I', rfl, qz⟩
    have fin : wpAny (model X.prog X.w) X.A (call (.builtin "object.__ne__") ([.ref a] ++ [u]) >>= fun v => pure (some v)) (fun r s' => wpAny (model X.prog X.w) X.A (match r with | some .notImplemented | none => pure none | some v => pure (some v)) (fun r s' => ∃ v, r = some v ∧ EP X pins σ Q v s') X.xe s') X.xe s :=
      wpAny_bind (wpAny_mono body (fun v s' hv => wpAny_pure (by obtain ⟨b, rfl, hq⟩ := hv; exact wpAny_pure ⟨_, rfl, hq⟩)) fun _ _ e => e)
    simp only [F.cmp_object.ne.bind]
    split
    · exact wpAny_bind (wpAny_pure (wpAny_pure fin))
    · exact wpAny_tryCatch (wpAny_bind (wpAny_pure (wpAny_pure fin)))
  show wpAny (model X.prog X.w) X.A (richCompare .NotEq (.ref a) u) (EP X pins σ Q) X.xe s
  unfold richCompare
  simp only [oneThing_ref]
  refine wpAny_holding (wpAny_bind (wpAny_cRoomFor hr.units0 ?_))
  refine wpAny_bind (J.type.here (wpAny_bind (hb.here ?_)))
  split
  · rename_i q'
    have e : PySem.W.subIn X.K tb (.ref C) = some false := by
      rcases Bool.or_eq_true_iff.mp hn with e | e
      · rw [beq_iff_eq.mp e] at q'; simp at q'
      · exact beq_iff_eq.mp e
    refine wpAny_bind ((PySem.W.looks_subIn Xk e).here ?_)
    simp only [Bool.false_eq_true, if_false]
    refine wpAny_bind (wpAny_mono one (fun r s' z => ?_) fun _ _ e => e)
    obtain ⟨v, rfl, hq⟩ := z
    exact wpAny_pure hq
  · refine wpAny_bind (wpAny_pure ?_)
    simp only [Bool.false_eq_true, if_false]
    refine wpAny_bind (wpAny_mono one (fun r s' z => ?_) fun _ _ e => e)
    obtain ⟨v, rfl, hq⟩ := z
    exact wpAny_pure hq
/-- repr(x) of an instance of a class with an own __repr__ -/
def rReprI (X : Cx) (n : Nat) : List V → Hp → VK → Prop := fun xs H Q => ∃ (a C dx g : Addr) (fs : List (Str × V)) (sp : Sp), xs = [V.ref a] ∧ H a = some (.ins C dx fs) ∧ LE.Own X n "__repr__" C g sp ∧ sp [.ref a] H (fun z H' => ∃ t, z = .str t ∧ Q z H') E0
theorem call_reprI (hr : Room (n + 1) X.A) : CallR X (.builtin "repr") (rReprI X n) := by
  intro pins s σ H xs us Q I r h
  obtain ⟨a, C, dx, g, fs, sp, rfl, ha, O, q⟩ := h
  obtain ⟨u, rfl, ru⟩ := r.one
  cases (show u = Value.ref a from ru)
  obtain ⟨mA, J, _⟩ := ins_get I.hok ha
  obtain ⟨od, J, _⟩ := J.look
  obtain ⟨m, hF⟩ := I.fr
  have hr1 : Room n X.A.in1 := Room.in1 hr
  refine PySem.W.repr_K hr1.units0 hF I.ok.mod.kin J O.at_ O.fn (wpAny_mono (wpAny_call (LE.run_in (us := [.ref a]) (ws := [.ref a]) O.F hr1 I.env0.in1 I (.cons rfl .nil) q)) (fun w s' z => ?_) fun _ _ x => x)
  obtain ⟨z', H', I', rz, t, ez, qz⟩ := z
  subst ez
  obtain ⟨k, e⟩ := (show ∃ k, w = Value.str t k from rz)
  cases e
  exact ⟨.str t, H', I', ⟨k, rfl⟩, qz⟩
end
open NdefX in
/-- a def that says super(), in a world of errors -/
theorem fnS_ofX {P : Program} {w : World} {K : PySem.W.Frag} {mg : Str → Option Value} {base : Heap} {N ps : List Str} {F : NF} {f D f2 : Addr} {m : Str} {k : Nat} {sp : Sp} (S : NScope N ps ["__class__"] F.scope) (U : LS.SupF P K F f D f2 m) {doc pm ct oc : Value} {od : Option Addr} {osl : Array (Option Value)} (lf : K.lookup f = some ⟨oc, od, .func (F.fd doc pm ct), osl⟩) (len : ∀ vs H Q E, sp vs H Q E → vs.length = ps.length)
    (hbody : ∀ (A : Around) (outer : List Env) (s : Shared) (H : Hp) (vs : List V) (Q : VK) (E : XK), Room k (A.deeper (envF F f s.heap.objs.size)) → sp vs H Q E →
      ∃ t, LS.PSsAt (ncx (L2.CX P w) P w K mg base N F f A outer s H E) (.func F.body (ncx (L2.CX P w) P w K mg base N F f A outer s H E).env) F.body t ∧ t { nx := fun _ H' => Q .non H', rt := Q } (startF N vs [some (.ref D)]) H) :
    FnOk P w K mg base (L2.CX P w) (k + 1) f (F.fd doc pm ct) ps sp := by
  refine ⟨len, fun A outer s H args us vs Q E hr e0 hb r hsp => ?_⟩
  have hl := len _ _ _ _ hsp
  have KX : K.In s.heap := e0.mod.kin.keeps fun b o e => (e0.bs b o e).1
  have lim : s.heap.NoLimit := e0.mod.nolimit.keeps fun b o e => (e0.bs b o e).1
  have hloc : ∀ x ∈ ps.zip us, F.scope.names.lookup x.1 = some .local := fun ⟨n, v⟩ hy => S.par n (List.of_mem_zip hy).1
  refine ks_codeAny_call_defAt (fd := F.fd doc pm ct) (body := F.body) (binds := ps.zip us) hr.depth (KX _ _ lf) rfl lim (PySem.W.codeRec_of KX U.cd) rfl hb S.nocell hloc (fun h₁ hns kp => ?_) S.co S.gen S.kind
  obtain ⟨t, ht, hq⟩ := hbody A outer s H vs Q E (hr.deeper _) hsp
  have I : L2.Inv (ncx (L2.CX P w) P w K mg base N F f A outer s H E) [] (startF N vs [some (.ref D)]) H { s with heap := h₁, toks := s.toks + (ps.zip us).length } := inv_startN S hr.hd e0 hl r (LS.cell_at U e0) hns kp
  refine PySem.wpAt_mono (ht.run [] _ (startF N vs [some (.ref D)]) H _ I hq) (fun fl s' hs => ?_) fun e s' hs => hs
  have fin : ∀ {σ' : L2.St} {H' : Hp} {v : V} {u : Value}, L2.Inv (ncx (L2.CX P w) P w K mg base N F f A outer s H E) [] σ' H' s' → L2.RelV v u → Q v H' → CE outer P w H s Q u s' :=
    fun {σ' H' v u} J rv q => ⟨v, H', J.os, J.bare, J.base, J.hok, rv, q⟩
  cases fl with
  | ret u =>
    obtain ⟨v, σ', H', J, rv, q⟩ := hs
    exact fin J rv q
  | next =>
    obtain ⟨σ', H', J, q⟩ := hs
    exact fin (v := V.non) (u := Value.none) J rfl q
  | brk =>
    obtain ⟨_, _, _, q⟩ := hs
    exact False.elim q
  | cont =>
    obtain ⟨_, _, _, q⟩ := hs
    exact False.elim q
theorem nf_self {K : PySem.W.Frag} {C : Addr} : PySem.W.notFirst K C (.ref C) = true := by
  unfold PySem.W.notFirst
  simp
end LO

namespace LT
open PySem L2 PySem.Spec PyProof.Rows
/-- a text times an int -/
def rMulS : R2 := fun x y H Q => ∃ (z : Str) (k : Int), x = .str z ∧ y = .int k ∧ PySem.MulOk z k ∧ Q (.str (Txt.mul z k)) H
theorem op_mulS {X : Cx} : OpR X (binaryOp .Mult) rMulS := by
  intro pins s σ H x y v u Q I rx ry h
  obtain ⟨z, k, rfl, rfl, ok, q⟩ := h
  obtain ⟨t, rfl⟩ := rx
  obtain ⟨t', rfl⟩ := ry
  exact PySem.SB.mul ok (fun t' tk => ⟨.str (Txt.mul z k), H, I.tok _, ⟨_, rfl⟩, q⟩)
/-- o.m(k = v, ..), m a method of the class C -/
def tMethK (C : Addr) (m : Str) (n : Nat) (sp : Sp) (gV : List V → List V → List V) (E : XK) (ta : TE) (tk : TA) : TE := fun σ H Q => ta σ H fun x H1 => ∃ (a dx : Addr) (fs : List (Str × V)), x = V.ref a ∧ H1 a = some (.ins C dx fs) ∧ fs.lookup m = none ∧ tk σ H1 fun zs H2 => zs.length = n ∧ sp (gV [V.ref a] zs) H2 Q E
theorem pe_methKw {X : Cx} {CX : CXT} {k : Nat} {f C : Addr} {m : Str} {fd : FuncData} {ps ks : List Str} {sp : Sp} {E : XK} {apos pos : Pos} {o : Expr} {kws : List Keyword} {ta : TE} {tk : TA} {g : List Value → List Value → List Value} {gV : List V → List V → List V} {pl : Sem Bool}
    (he : PE X o ta) (c : Cls X.K C) (hm : Meth X.K C m f) (F : FnOk X.prog X.w X.K X.mg X.base CX k f fd ps sp) (hr : Room k X.A) (hb : KBn X.K fd ps 1 ks g gV) (hx : Passes CX X E) (hkw : PK X kws tk)
    (hall : (backToKw pos (keywordEach kws X.env)).all (·.1.isSome) = true := by rfl) (hks : (backToKw pos (keywordEach kws X.env)).filterMap (·.1) = ks := by rfl)
    (hpl : ((backTo pos (starEach [] X.env)).any (·.1) || (backToKw pos (keywordEach kws X.env)).any (·.1.isNone)) = false := by rfl)
    (ht : eval (.Call (.Attribute o m apos) [] kws pos) X.env = (do
      let ov ← eval o X.env
      standAt apos.atName
      let (f, first) ← holding [ov] (getMethod ov m pl)
      callWith pos f first (backTo pos (starEach [] X.env)) (backToKw pos (keywordEach kws X.env))) := by rfl) :
    PE X (.Call (.Attribute o m apos) [] kws pos) (tMethK C m ks.length sp gV E ta tk) := by
  refine ⟨fun pins s σ H Q I h => ?_⟩
  refine PySem.W.methodCall_KW (pl := pl) (thn (he.run pins s σ H _ I h) fun u s1 ⟨x, H1, I1, rx, a, dx, fs, ex, ea, l, q⟩ => ?_) ht
  subst ex
  obtain rfl : u = Value.ref a := rx
  refine getmeth_ok I1 ea c hm l ?_
  refine PySem.W.callWith_KW0 (first := [.ref a]) (h₀ := X.base) I1.ok.mod.kin hm.kp hall ?_ hpl
  refine thn (hkw.run pos pins s1 σ H1 _ I1 q) fun ws s2 ⟨zs, H2, I2, rz, l2, q2⟩ => ⟨I2.kIn, ?_⟩
  rw [hks]
  exact run_fnN (us := [.ref a]) (vs := [.ref a]) F hr hb hx I2 (.cons rfl .nil) rz rfl l2 q2
end LT

namespace SM
open PySem L2 PyProof.Rows PySem.Spec
theorem lt_cons (x y : Nat) (a b : List Nat) : ltCps (x :: a) (y :: b) = (decide (x < y) || (x == y && ltCps a b)) := rfl
theorem nlt_anti : ∀ a b : List Nat, ltCps a b = false → ltCps b a = false → a = b
  | [], [], _, _ => rfl
  | [], _ :: _, h, _ => by cases h
  | _ :: _, [], _, h => by cases h
  | x :: a, y :: b, h1, h2 => by
    rw [lt_cons, Bool.or_eq_false_iff] at h1 h2
    have e : x = y := by
      have a1 := of_decide_eq_false h1.1
      have a2 := of_decide_eq_false h2.1
      omega
    subst e
    have q1 := h1.2
    have q2 := h2.2
    simp only [beq_self_eq_true, Bool.true_and] at q1 q2
    rw [nlt_anti a b q1 q2]
theorem nlt_trans : ∀ a b c : List Nat, ltCps b a = false → ltCps c b = false → ltCps c a = false
  | [], _, [], _, _ => rfl
  | [], _, _ :: _, _, _ => rfl
  | _ :: _, [], _, h, _ => by cases h
  | _ :: _, _ :: _, [], _, h => by cases h
  | x :: a, y :: b, z :: c, h1, h2 => by
    rw [lt_cons, Bool.or_eq_false_iff] at h1 h2 ⊢
    have a1 := of_decide_eq_false h1.1
    have a2 := of_decide_eq_false h2.1
    refine ⟨decide_eq_false (by omega), ?_⟩
    by_cases e : z = x
    · have e1 : y = x := by omega
      subst e
      subst e1
      have q1 := h1.2
      have q2 := h2.2
      simp only [beq_self_eq_true, Bool.true_and] at q1 q2 ⊢
      exact nlt_trans a b c q1 q2
    · rw [beq_eq_false_iff_ne.mpr e]
      rfl
def Le (x y : Str) : Prop := ltCps y.cps.toList x.cps.toList = false
theorem rising_pw : ∀ (p : Str) (r : List Str), risingS p r = true → (p :: r).Pairwise Le
  | p, [], _ => List.pairwise_singleton _ _
  | p, x :: r, h => by
    have h' : (!ltCps x.cps.toList p.cps.toList && risingS x r) = true := h
    rw [Bool.and_eq_true, Bool.not_eq_true'] at h'
    have ih := rising_pw x r h'.2
    rw [List.pairwise_cons] at ih ⊢
    refine ⟨fun y hy => ?_, List.pairwise_cons.mpr ih⟩
    rcases List.mem_cons.mp hy with rfl | hy
    · exact h'.1
    · exact nlt_trans _ _ _ h'.1 (ih.1 y hy)
theorem sorted_pw {l : List Str} (h : sortedS l = true) : l.Pairwise Le := by
  cases l with
  | nil => exact List.Pairwise.nil
  | cons x r => exact rising_pw x r h
/-- two sorted lists of the same texts are one -/
theorem sorted_eq {l1 l2 : List Str} (h1 : sortedS l1 = true) (h2 : sortedS l2 = true) (p : l1.Perm l2) : l1 = l2 :=
  List.Perm.eq_of_pairwise (le := Le) (fun a b _ _ q1 q2 => by
    have e := nlt_anti _ _ q2 q1
    cases a with
    | mk a =>
      cases b with
      | mk b =>
        have e' : a = b := Array.toList_inj.mp e
        rw [e']) (sorted_pw h1) (sorted_pw h2) p
theorem pw_sorted : ∀ {l : List Str}, l.Pairwise Le → sortedS l = true
  | [], _ => rfl
  | [_], _ => rfl
  | x :: y :: r, h => by
    rw [List.pairwise_cons] at h
    have ih := pw_sorted h.2
    show (!ltCps y.cps.toList x.cps.toList && risingS y r) = true
    rw [show ltCps y.cps.toList x.cps.toList = false from h.1 y (List.mem_cons_self ..)]
    exact ih
theorem le_total (x y : Str) : Le x y ∨ Le y x := by
  have go : ∀ a b : List Nat, ltCps b a = false ∨ ltCps a b = false := by
    intro a
    induction a with
    | nil => intro b; cases b with
      | nil => exact .inl rfl
      | cons _ _ => exact .inl rfl
    | cons x a ih => intro b; cases b with
      | nil => exact .inr rfl
      | cons y b =>
        rw [lt_cons, lt_cons]
        rcases Nat.lt_trichotomy x y with h | h | h
        · refine .inl ?_
          rw [decide_eq_false (by omega), beq_eq_false_iff_ne.mpr (by omega)]
          rfl
        · subst h
          rcases ih b with q | q
          · exact .inl (by rw [q, decide_eq_false (Nat.lt_irrefl x), Bool.and_false]; rfl)
          · exact .inr (by rw [q, decide_eq_false (Nat.lt_irrefl x), Bool.and_false]; rfl)
        · refine .inr ?_
          rw [decide_eq_false (by omega), beq_eq_false_iff_ne.mpr (by omega)]
          rfl
  exact go _ _
/-- the texts in their order -/
def ins (x : Str) : List Str → List Str
  | [] => [x]
  | y :: r => if ltCps y.cps.toList x.cps.toList = true then y :: ins x r else x :: y :: r
def srt : List Str → List Str
  | [] => []
  | x :: r => ins x (srt r)
theorem ins_perm (x : Str) : ∀ l : List Str, (ins x l).Perm (x :: l)
  | [] => List.Perm.refl _
  | y :: r => by
    unfold ins
    by_cases c : ltCps y.cps.toList x.cps.toList = true
    · rw [if_pos c]
      exact ((ins_perm x r).cons y).trans (List.Perm.swap x y r)
    · rw [if_neg c]
theorem srt_perm : ∀ l : List Str, (srt l).Perm l
  | [] => List.Perm.refl _
  | x :: r => (ins_perm x (srt r)).trans ((srt_perm r).cons x)
theorem ins_pw (x : Str) : ∀ {l : List Str}, l.Pairwise Le → (ins x l).Pairwise Le
  | [], _ => List.pairwise_singleton _ _
  | y :: r, h => by
    rw [List.pairwise_cons] at h
    unfold ins
    by_cases c : ltCps y.cps.toList x.cps.toList = true
    · rw [if_pos c, List.pairwise_cons]
      refine ⟨fun z hz => ?_, ins_pw x h.2⟩
      rcases List.mem_cons.mp ((ins_perm x r).mem_iff.mp hz) with rfl | hz
      · rcases le_total z y with q | q
        · rw [show ltCps y.cps.toList z.cps.toList = false from q] at c
          cases c
        · exact q
      · exact h.1 z hz
    · rw [if_neg c, List.pairwise_cons]
      have q : Le x y := by
        unfold Le
        cases w : ltCps y.cps.toList x.cps.toList with
        | true => exact absurd w c
        | false => rfl
      refine ⟨fun z hz => ?_, List.pairwise_cons.mpr h⟩
      rcases List.mem_cons.mp hz with rfl | hz
      · exact q
      · exact nlt_trans _ _ _ q (h.1 z hz)
theorem srt_pw : ∀ l : List Str, (srt l).Pairwise Le
  | [] => List.Pairwise.nil
  | x :: r => ins_pw x (srt_pw r)
/-- what sorted() gives is this list -/
theorem srt_of {ys ks : List Str} (p : ys.Perm ks) (h : sortedS ys = true) : ys = srt ks :=
  sorted_eq h (pw_sorted (srt_pw ks)) (p.trans (srt_perm ks).symm)
end SM

namespace SM
open PySem L2
/-- one more than the greatest index of a dict of cells -/
def kN (p : Key × V) : Nat := match p.1 with | .inl i => i.toNat + 1 | .inr _ => 0
def bnd (M : List (Key × V)) : Nat := (M.map kN).foldr max 0
def cellV (M : List (Key × V)) (k : Nat) : V := (valV M (.inl (k : Int))).getD .non
def cells (M : List (Key × V)) : List V := (List.range (bnd M)).map (cellV M)
theorem cells_len (M : List (Key × V)) : (cells M).length = bnd M := by
  unfold cells
  rw [List.length_map, List.length_range]
theorem bnd_app (M : List (Key × V)) (p : Key × V) : bnd (M ++ [p]) = max (bnd M) (kN p) := by
  unfold bnd
  rw [List.map_append]
  induction M with
  | nil => show max (kN p) 0 = max 0 (kN p); omega
  | cons q r ih =>
    show max (kN q) (((r.map kN) ++ [kN p]).foldr max 0) = max (max (kN q) ((r.map kN).foldr max 0)) (kN p)
    rw [show ((r.map kN) ++ [kN p]).foldr max 0 = ((r.map kN) ++ [p].map kN).foldr max 0 from rfl, ih]
    omega
theorem bnd_in {M : List (Key × V)} {k : Key} {v : V} (h : valV M k = some v) : kN (k, v) ≤ bnd M := by
  induction M with
  | nil => cases h
  | cons q r ih =>
    show _ ≤ max (kN q) (bnd r)
    by_cases c : q.1 = k
    · have : kN (k, v) = kN q := by unfold kN; rw [c]
      omega
    · rw [valV_neg c] at h
      have := ih h
      omega
theorem bnd_map (M : List (Key × V)) (k : Key) (v : V) : bnd (M.map fun kv => if kv.1 = k then (kv.1, v) else kv) = bnd M := by
  unfold bnd
  rw [List.map_map]
  congr 1
  refine List.map_congr_left fun p _ => ?_
  show kN (if p.1 = k then (p.1, v) else p) = kN p
  by_cases c : p.1 = k
  · rw [if_pos c]; rfl
  · rw [if_neg c]
theorem bnd_put (M : List (Key × V)) (at_ : Nat) (v : V) : bnd (putK M (.inl (at_ : Int)) v) = max (bnd M) (at_ + 1) := by
  have e : kN (Sum.inl (at_ : Int), v) = at_ + 1 := rfl
  cases h : valV M (Sum.inl (at_ : Int) : Key) with
  | none => rw [putK_new v h, bnd_app, e]
  | some u =>
    have q := bnd_in h
    have e' : kN (Sum.inl (at_ : Int), u) = at_ + 1 := rfl
    have hp : putK M (Sum.inl (at_ : Int)) v = M.map fun kv => if kv.1 = Sum.inl (at_ : Int) then (kv.1, v) else kv := by
      unfold putK
      rw [valV_any, h]
      rfl
    rw [hp, bnd_map]
    omega
/-- keep(at, text): the list grows by None up to at, and the cell is set; so does the dict's list -/
theorem cells_put (M : List (Key × V)) (at_ : Nat) (v : V) : cells (putK M (.inl (at_ : Int)) v) = (cells M ++ List.replicate (at_ + 1 - bnd M) V.non).set at_ v := by
  have hb := bnd_put M at_ v
  refine List.ext_getElem? fun i => ?_
  have hl : (cells M ++ List.replicate (at_ + 1 - bnd M) V.non).length = max (bnd M) (at_ + 1) := by
    rw [List.length_append, cells_len, List.length_replicate]
    omega
  by_cases ci : i < max (bnd M) (at_ + 1)
  · have e1 : (cells (putK M (.inl (at_ : Int)) v))[i]? = some (cellV (putK M (.inl (at_ : Int)) v) i) := by
      unfold cells
      rw [List.getElem?_map, hb, List.getElem?_range ci]
      rfl
    rw [e1]
    unfold cellV
    rw [valV_put]
    by_cases ca : i = at_
    · subst ca
      rw [if_pos rfl, List.getElem?_set_self (by rw [hl]; omega)]
      rfl
    · rw [if_neg (show ¬ (Sum.inl (i : Int) : Key) = Sum.inl (at_ : Int) from fun z => ca (by have := Sum.inl.inj z; omega)), List.getElem?_set_ne (Ne.symm ca)]
      by_cases cb : i < bnd M
      · rw [List.getElem?_append_left (by rw [cells_len]; exact cb)]
        unfold cells
        rw [List.getElem?_map, List.getElem?_range cb]
        rfl
      · rw [List.getElem?_append_right (by rw [cells_len]; omega), cells_len, List.getElem?_replicate, if_pos (by omega)]
        have hn : valV M (Sum.inl (i : Int) : Key) = none := by
          cases w : valV M (Sum.inl (i : Int) : Key) with
          | none => rfl
          | some u =>
            have q := bnd_in w
            have e' : kN (Sum.inl (i : Int), u) = i + 1 := rfl
            omega
        rw [hn]
        rfl
  · rw [List.getElem?_eq_none (by rw [cells_len, hb]; omega), List.getElem?_eq_none (by rw [List.length_set, hl]; omega)]
end SM

/-! ### a field as a target of unpacking -/
namespace LF
open PySem PySem.Spec PyProof.Rows L2
section
variable {X : Cx}
def gFld (K : PySem.W.Frag) (to : TE) (f : Str) : TG := fun v σ H Q => to σ H fun x H2 => ∃ a C dx fs, x = .ref a ∧ H2 a = some (.ins C dx fs) ∧ Cls K C ∧ NoAttr K C f ∧ fs.length < 1000 ∧ Q σ (upd H2 a (.ins C dx (putF f v fs)))
theorem pg_fld {o : Expr} {f : Str} {pos : Pos} {to : TE} (ho : PE X o to) : PG X (.Attribute o f pos) (gFld X.K to f) := by
  refine ⟨fun pins s σ H v u Q I r h => ?_⟩
  rw [assign_Attribute]
  refine wpAny_bind (wpAny_holding (thn (ho.run pins s σ H _ I h) fun ov s1 ⟨x, H1, I1, r1, a, C, dx, fs, ex, ea, c, n, l, q⟩ => ?_))
  subst ex
  obtain rfl : ov = Value.ref a := r1
  refine wpAny_bind (wpAny_standAt (wpAny_bind (wpAny_holding (setattr_ok I1 ea c n l r fun s2 I2 => ?_))))
  exact wpAny_release ⟨σ, _, I2, q⟩
end
end LF
/-! ### a loop of a comprehension, whatever its body -/
namespace LF
open PySem PySem.Spec PyProof.Rows L2
theorem lp_it {J : It} {n : Nat} {G : Hp → Prop} {Y : Nat → Hp → V → Hp → Prop} (w : Walk J n G Y) {Hs : Hp} {Qd : Hp → Prop} {B : (Hp → Prop) → V → Hp → Prop} (Pv : Nat → Hp → Prop) (h0 : Pv 0 Hs) (hG : ∀ i H, i ≤ n → Pv i H → G H)
    (hs : ∀ i x H H', i < n → Pv i H → Y i H x H' → B (Pv (i + 1)) x H') (hd : ∀ H, Pv n H → Qd H) :
    ∃ W : Nat → Nat → Hp → Prop, (∃ m, W 0 m Hs) ∧ ∀ i m H, W i m H → (J.stop i H ∧ Qd H) ∨ (J.go i H ∧ ∃ Nx : Hp → Prop, (∀ H', Nx H' → ∃ m', m' < m ∧ W (i + 1) m' H') ∧ ∀ x H', J.yld i H x H' → B Nx x H') := by
  refine ⟨fun i m H => m = n - i ∧ i ≤ n ∧ Pv i H, ⟨n, by simp, Nat.zero_le _, h0⟩, ?_⟩
  rintro i m H ⟨rfl, hi, p⟩
  have q := hG i H hi p
  by_cases c : i < n
  · exact .inr ⟨w.goes i H c q, Pv (i + 1), fun H' p' => ⟨n - (i + 1), by omega, rfl, c, p'⟩, fun x H' y => hs i x H H' c p (w.yields i H x H' c q y)⟩
  · have e : i = n := by omega
    subst e
    exact .inl ⟨w.stops H q, hd H p⟩
end LF

/-! ### zip of a list and a tuple -/
namespace LZ
open PySem PySem.Spec PyProof.Rows L2
def ItzM (K : PySem.W.Frag) (a b : Addr) : It :=
  ⟨fun i H => ∃ (xs ys : List V) (x y : V), SqL K H a xs ∧ SqT K H b ys ∧ xs[i]? = some x ∧ ys[i]? = some y,
    fun i H v H' => ∃ T x y, v = .ref T ∧ H T = none ∧ H' = upd H T (.tup [x, y]) ∧ (∀ xs, SqL K H a xs → xs[i]? = some x) ∧ ∀ ys, SqT K H b ys → ys[i]? = some y,
    fun i H => ∃ xs ys : List V, SqL K H a xs ∧ SqT K H b ys ∧ (xs.length = i ∨ ys.length = i) ∧ i ≤ xs.length ∧ i ≤ ys.length⟩
theorem turn_zipM {P : Program} {w : World} {K : PySem.W.Frag} {elts : List Expr} {kk : Nat} {tpos : Pos} {a b z TI TO i1 i2 : Addr} (S : ZipSep2 z TI TO i1 i2 [i1, a] [i2, b]) :
    Turn P w K (.Tuple elts kk tpos) (ItzM K a b) [z, TI, TO, i1, i2] z (fun i h => IsZip h z TI TO .none ∧ IsPair h TI (.ref i1) (.ref i2) ∧ (∃ x y, IsPair h TO x y) ∧ h.IsListIter i1 a i ∧ h.IsTupleIter i2 b i) where
  mem := by simp
  obj := fun i h st c hc => by
    obtain ⟨hz, hTI, ⟨x, y, hTO⟩, ⟨o1, e1, _, d1⟩, ⟨o2, e2, _, d2⟩⟩ := st
    rcases (show c = z ∨ c = TI ∨ c = TO ∨ c = i1 ∨ c = i2 by simpa using hc) with rfl | rfl | rfl | rfl | rfl
    · exact ⟨_, hz, fun v q => nomatch q⟩
    · exact ⟨_, hTI, fun v q => nomatch q⟩
    · exact ⟨_, hTO, fun v q => nomatch q⟩
    · exact ⟨o1, e1, fun v q => by rw [d1] at q; cases q⟩
    · exact ⟨o2, e2, fun v q => by rw [d2] at q; cases q⟩
  keep := fun i h h' st k => by
    obtain ⟨hz, hTI, ⟨x, y, hTO⟩, h1, h2⟩ := st
    exact ⟨k z (by simp) _ hz, k TI (by simp) _ hTI, ⟨x, y, k TO (by simp) _ hTO⟩, h1.at fun o q => k i1 (by simp) o q, h2.at fun o q => k i2 (by simp) o q⟩
  item := by
    intro X hP hw hK hc i pins s σ H E I hf st hg
    subst hP hw hK
    obtain ⟨hz, hTI, ⟨x0, y0, hTO⟩, h1, h2⟩ := st
    obtain ⟨xs, ys, x, y, hqx, hqy, hx, hy⟩ := hg
    obtain ⟨its, rv, p, _⟩ := I.list hqx
    obtain ⟨its2, rv2, p2, _⟩ := I.tuple hqy
    obtain ⟨u, hu, ru⟩ := rv.get hx
    obtain ⟨u2, hu2, ru2⟩ := rv2.get hy
    have l1 : i < its.toArray.size := by have := (List.getElem?_eq_some_iff.mp hu).1; simpa using this
    have l2 : i < its2.toArray.size := by have := (List.getElem?_eq_some_iff.mp hu2).1; simpa using this
    have hzl : z < s.heap.objs.size := Heap.lt_size hz
    have ai : a ≠ i1 := fun e => by
      have q := p.isList
      rw [e] at q
      obtain ⟨o1, e1, c1, _⟩ := h1
      obtain ⟨o2, e2, c2, _⟩ := q
      rw [e1] at e2
      cases e2
      rw [c1] at c2
      exact absurd (Value.type.inj c2) (by decide)
    have bi : b ≠ i2 := fun e => by
      obtain ⟨o2, e2, c2, _⟩ := p2
      rw [e] at e2
      obtain ⟨o1, e1, c1, _⟩ := h2
      rw [e1] at e2
      cases e2
      rw [c1] at c2
      exact absurd (Value.type.inj c2) (by decide)
    refine wpAny_pyNext_zipD2_item S (Draws.list (A := X.A.in1) (I.ok.hd hc) i1 a ai its.toArray) (Draws.tuple (A := X.A.in1) (I.ok.hd hc) i2 b bi its2.toArray) hz hTI hTO ⟨h1, p.isList⟩ ⟨h2, p2⟩ l1 l2 fun v1 v2 h' tk q1 q2 z' TO' s1 s2 hT hsz hk => ?_
    obtain rfl : v1 = u := by
      have q1 : its.toArray[i]? = some v1 := q1
      rw [show its.toArray[i]? = its[i]? by simp, hu] at q1
      exact (Option.some.inj q1).symm
    obtain rfl : v2 = u2 := by
      have q2 : its2.toArray[i]? = some v2 := q2
      rw [show its2.toArray[i]? = its2[i]? by simp, hu2] at q2
      exact (Option.some.inj q2).symm
    refine ⟨_, rfl, wpAny_letOwnedTupleGo_zip (s := { s with heap := h', toks := tk }) z' fun h'' z'' sb => ?_⟩
    have hT2 : h''.get? s.heap.objs.size = some { cls := .type "tuple", data := .seq #[v1, v2] } := (sb.2 _ (Nat.ne_of_gt hzl)).trans hT
    have new : ObjOk X.prog X.w (upd H s.heap.objs.size (.tup [x, y])) h'' s.heap.objs.size (.tup [x, y]) :=
      ⟨by show 2 ≤ sizeLine; decide, [v1, v2], .cons ru (.cons ru2 .nil), ⟨_, hT2, rfl, _, rfl⟩⟩
    have I1 : Inv X pins σ (upd H s.heap.objs.size (.tup [x, y])) { s with heap := h'', toks := tk } :=
      I.turnedNew (t' := tk) (ch := [z, TI, TO, i1, i2]) (fun c o hb q => (sb.2 c (fun q' => hb (by simp [q']))).trans (hk c o (fun q' => hb (by simp [q'])) (fun q' => hb (by simp [q'])) (fun q' => hb (by simp [q'])) (fun q' => hb (by simp [q'])) q)) hf (Nat.le_refl _) new
    have zi1 := Ne.symm S.zi1
    have zi2 := Ne.symm S.zi2
    refine ⟨.ref s.heap.objs.size, _, I1, rfl, ⟨_, x, y, rfl, I.hok.fresh (Nat.le_refl _), rfl, fun l hl => by rw [I.list_inj hl hqx]; exact hx, fun l hl => by rw [I.tuple_inj hl hqy]; exact hy⟩, ⟨z'', ?_, ⟨v1, v2, ?_⟩, ?_, ?_⟩, fun c hcm => ?_⟩
    · exact (sb.2 _ S.TIz).trans (hk _ _ S.TIz S.TITO S.TIi1 S.TIi2 hTI)
    · exact (sb.2 _ S.TOz).trans TO'
    · exact s1.1.at fun o q => (sb.2 _ zi1).trans q
    · exact s2.1.at fun o q => (sb.2 _ zi2).trans q
    · have hlt : c < s.heap.objs.size := by
        rcases (show c = z ∨ c = TI ∨ c = TO ∨ c = i1 ∨ c = i2 by simpa using hcm) with q | q | q | q | q
        · rw [q]; exact hzl
        · rw [q]; exact Heap.lt_size hTI
        · rw [q]; exact Heap.lt_size hTO
        · rw [q]; obtain ⟨_, e1, _⟩ := h1; exact Heap.lt_size e1
        · rw [q]; obtain ⟨_, e2, _⟩ := h2; exact Heap.lt_size e2
      rw [upd_ne (Nat.ne_of_lt hlt)]
      exact (hf c hcm).1
  done := by
    intro X hP hw hK hc i pins s σ H E I hf st hg
    subst hP hw hK
    obtain ⟨hz, hTI, ⟨x0, y0, hTO⟩, h1, h2⟩ := st
    obtain ⟨xs, ys, hqx, hqy, hend, le1, le2⟩ := hg
    obtain ⟨its, rv, p, _⟩ := I.list hqx
    obtain ⟨its2, rv2, p2, _⟩ := I.tuple hqy
    have r1 := rv.length
    have r2 := rv2.length
    have ai : a ≠ i1 := fun e => by
      have q := p.isList
      rw [e] at q
      obtain ⟨o1, e1, c1, _⟩ := h1
      obtain ⟨o2, e2, c2, _⟩ := q
      rw [e1] at e2
      cases e2
      rw [c1] at c2
      exact absurd (Value.type.inj c2) (by decide)
    have bi : b ≠ i2 := fun e => by
      obtain ⟨o2, e2, c2, _⟩ := p2
      rw [e] at e2
      obtain ⟨o1, e1, c1, _⟩ := h2
      rw [e1] at e2
      cases e2
      rw [c1] at c2
      exact absurd (Value.type.inj c2) (by decide)
    refine wpAny_pyNext_zipD2_end S (Draws.list (A := X.A.in1) (I.ok.hd hc) i1 a ai its.toArray) (Draws.tuple (A := X.A.in1) (I.ok.hd hc) i2 b bi its2.toArray) hz hTI hTO ⟨h1, p.isList⟩ ⟨h2, p2⟩ (by rw [List.size_toArray]; omega) (by rw [List.size_toArray]; omega) (by rw [List.size_toArray, List.size_toArray]; omega) fun h' tk hk => ?_
    exact ⟨rfl, I.turnedL (t' := tk) (ch := [z, TI, TO, i1, i2]) (fun c o hb q =>
      hk c o (fun q' => hb (by simp [q'])) (fun q' => hb (by simp [q'])) (fun q' => hb (by simp [q'])) (fun q' => hb (by simp [q'])) q) hf⟩
  self := fun A i s Q E st h => wpAny_pyIter_zip st.1 h
def iZipM (K : PySem.W.Frag) (ta : TA) : TI := fun σ H R => ta σ H fun vs H1 => ∃ a b xs ys, vs = [.ref a, .ref b] ∧ SqL K H1 a xs ∧ SqT K H1 b ys ∧ R (ItzM K a b) H1
theorem pi_zipM {X : Cx} {e e2 : Expr} {ta : TA} {p pos tpos : Pos} {elts : List Expr} {kk : Nat} (hg : Gl X "zip") (hm : X.mg "zip" = none) (ha : PA X [e, e2] ta)
    (hs : starEach [e, e2] X.env = (false, eval e X.env) :: starEach [e2] X.env := by rfl) (hpl : (backTo pos (starEach [e2] X.env)).any (·.1) = false := by rfl) :
    PI X (.Tuple elts kk tpos) (.Call (.Name "zip" p) [e, e2] [] pos) (iZipM X.K ta) := by
  refine ⟨fun pins s σ H R I h => Call_ (ld_blt I hg hm PyProof.Rows.boot_zip (PyProof.Rows.callWith_type1 (thn (ha.run pos pins s σ H _ I h) fun us s1 ⟨vs, H1, I1, r1, a, b, xs, ys, ex, hqx, hqy, q⟩ => ?_) hs hpl))⟩
  subst ex
  cases r1 with
  | cons r rr =>
    cases rr with
    | cons r' rr =>
      cases rr
      cases r
      cases r'
      obtain ⟨its, rv, p1, _⟩ := I1.list hqx
      obtain ⟨its2, rv2, p2, _⟩ := I1.tuple hqy
      have al : a < s1.heap.objs.size := p1.lt
      have bl : b < s1.heap.objs.size := by
        obtain ⟨_, e, _⟩ := id p2
        exact Heap.lt_size e
      have fr : ∀ c, c ∈ [s1.heap.objs.size + 4, s1.heap.objs.size + 2, s1.heap.objs.size + 3, s1.heap.objs.size, s1.heap.objs.size + 1] → FpOk X pins H1 c := fun c hcm => by
        have hle : s1.heap.objs.size ≤ c := by
          rcases (show c = s1.heap.objs.size + 4 ∨ c = s1.heap.objs.size + 2 ∨ c = s1.heap.objs.size + 3 ∨ c = s1.heap.objs.size ∨ c = s1.heap.objs.size + 1 by simpa using hcm) with z | z | z | z | z
          · rw [z]; exact Nat.le_add_right _ _
          · rw [z]; exact Nat.le_add_right _ _
          · rw [z]; exact Nat.le_add_right _ _
          · rw [z]; exact Nat.le_refl _
          · rw [z]; exact Nat.le_add_right _ _
        exact I1.fpOk hle (I1.hok.fresh hle)
      have nm : ∀ (a b c : Nat), a ≠ b → a ≠ c → a ∉ [b, c] := fun a b c h1 h2 h => by
        rcases List.mem_cons.mp h with e | h
        · exact h1 e
        · exact h2 (List.mem_singleton.mp h)
      have sep : ∀ (n x y : Nat), x < n → y < n → ZipSep2 (n + 4) (n + 2) (n + 3) n (n + 1) [n, x] [n + 1, y] := fun n x y hx hy =>
        ⟨(by show (n + 2 : Nat) ≠ n + 4; omega), (by show (n + 3 : Nat) ≠ n + 4; omega), (by show (n + 2 : Nat) ≠ n + 3; omega), (by show (n + 2 : Nat) ≠ n; omega), List.mem_cons_self .., nm _ _ _ (by omega) (by omega), nm _ _ _ (by omega) (by omega), (by show (n + 2 : Nat) ≠ n + 1; omega), List.mem_cons_self ..,
          nm _ _ _ (by omega) (by omega), nm _ _ _ (by omega) (by omega), nm _ _ _ (by omega) (by omega), nm _ _ _ (by omega) (by omega)⟩
      refine zip_begins2 (begins_list a its.toArray) (begins_tuple b its2.toArray) p1.isList p2 fun h' hz hTI hTO g1 g2 hsz hk => wpAny_pyIter_zip hz ?_
      have I2 : Inv X pins σ H1 { s1 with heap := h' } := I1.kept (t' := s1.toks) hk
      exact ⟨s1.heap.objs.size + 4, [s1.heap.objs.size + 4, s1.heap.objs.size + 2, s1.heap.objs.size + 3, s1.heap.objs.size, s1.heap.objs.size + 1], _, _, H1, rfl, I2, turn_zipM (sep _ a b al bl), ⟨hz, hTI, ⟨_, _, hTO⟩, ⟨_, g1, rfl, rfl⟩, ⟨_, g2, rfl, rfl⟩⟩, fr, q⟩
theorem walk_zipM {K : PySem.W.Frag} {a b : Addr} {xs ys : List V} {n : Nat} (hn : n = min xs.length ys.length) : Walk (ItzM K a b) n (fun H => SqL K H a xs ∧ SqT K H b ys) (YPair (fun i => xs[i]?) (fun i => ys[i]?)) := by
  have la : ∀ {i}, i < n → i < xs.length ∧ i < ys.length := fun h => by omega
  refine ⟨fun i _ hi q => ⟨xs, ys, xs[i]'(la hi).1, ys[i]'(la hi).2, q.1, q.2, List.getElem?_eq_getElem _, List.getElem?_eq_getElem _⟩, fun _ q => ⟨xs, ys, q.1, q.2, by omega, by omega, by omega⟩, fun i H v H' _ q y => ?_⟩
  obtain ⟨T, x, z, rest⟩ := y
  exact ⟨T, x, z, rest.1, rest.2.1, rest.2.2.1, rest.2.2.2.1 xs q.1, rest.2.2.2.2 ys q.2⟩
end LZ


namespace k15
open PySem L2 LC
def top (i : Nat) : Stmt := PySem.Challenge.pw_surelet_k15_whole_cuts_of_a_disk.main.body.getD i (.Pass ⟨0, 0, 0, 0⟩)
abbrev sInvalidNumber_init : Stmt := inClass (top 4) 0
abbrev NmInvalidNumber_init : List Str := ["self", "value"]
abbrev PInvalidNumber_init : List Str := ["self", "value"]
theorem scInvalidNumber_init : FnScope NmInvalidNumber_init PInvalidNumber_init (defScope sInvalidNumber_init) := ⟨rfl, rfl, rfl, by decide +kernel, rfl, by decide +kernel, by decide +kernel⟩
abbrev sis_whole : Stmt := top 20
abbrev Nmis_whole : List Str := ["value"]
abbrev Pis_whole : List Str := ["value"]
theorem scis_whole : FnScope Nmis_whole Pis_whole (defScope sis_whole) := ⟨rfl, rfl, rfl, by decide +kernel, rfl, by decide +kernel, by decide +kernel⟩
abbrev sis_number : Stmt := top 21
abbrev Nmis_number : List Str := ["value", "least", "most"]
abbrev Pis_number : List Str := ["value", "least", "most"]
theorem scis_number : FnScope Nmis_number Pis_number (defScope sis_number) := ⟨rfl, rfl, rfl, by decide +kernel, rfl, by decide +kernel, by decide +kernel⟩
abbrev schanges_text : Stmt := top 10
abbrev Nmchanges_text : List Str := ["changes", "texts", "key"]
abbrev Pchanges_text : List Str := ["changes"]
theorem scchanges_text : FnScope Nmchanges_text Pchanges_text (defScope schanges_text) := ⟨rfl, rfl, rfl, by decide +kernel, rfl, by decide +kernel, by decide +kernel⟩
abbrev sapply_changes : Stmt := top 12
abbrev Nmapply_changes : List Str := ["table", "changes", "key", "value"]
abbrev Papply_changes : List Str := ["table", "changes"]
theorem scapply_changes : FnScope Nmapply_changes Papply_changes (defScope sapply_changes) := ⟨rfl, rfl, rfl, by decide +kernel, rfl, by decide +kernel, by decide +kernel⟩
abbrev sstretches : Stmt := top 13
abbrev Nmstretches : List Str := ["text", "length", "at"]
abbrev Pstretches : List Str := ["text", "length"]
theorem scstretches : FnScope Nmstretches Pstretches (defScope sstretches) := ⟨rfl, rfl, rfl, by decide +kernel, rfl, by decide +kernel, by decide +kernel⟩
abbrev sread_changes : Stmt := top 11
abbrev Nmread_changes : List Str := ["text", "changes", "piece", "key", "mark", "value"]
abbrev Pread_changes : List Str := ["text"]
theorem scread_changes : FnScope Nmread_changes Pread_changes (defScope sread_changes) := ⟨rfl, rfl, rfl, by decide +kernel, rfl, by decide +kernel, by decide +kernel⟩
abbrev sgeneration_of : Stmt := top 14
abbrev Nmgeneration_of : List Str := ["cell"]
abbrev Pgeneration_of : List Str := ["cell"]
theorem scgeneration_of : FnScope Nmgeneration_of Pgeneration_of (defScope sgeneration_of) := ⟨rfl, rfl, rfl, by decide +kernel, rfl, by decide +kernel, by decide +kernel⟩
abbrev shead_of : Stmt := top 16
abbrev Nmhead_of : List Str := ["cells", "_", "generation", "count"]
abbrev Phead_of : List Str := ["cells"]
theorem schead_of : FnScope Nmhead_of Phead_of (defScope shead_of) := ⟨rfl, rfl, rfl, by decide +kernel, rfl, by decide +kernel, by decide +kernel⟩
abbrev sstretches_from : Stmt := top 17
abbrev Nmstretches_from : List Str := ["cells", "start", "found", "cell", "begin"]
abbrev Pstretches_from : List Str := ["cells", "start"]
theorem scstretches_from : FnScope Nmstretches_from Pstretches_from (defScope sstretches_from) := ⟨rfl, rfl, rfl, by decide +kernel, rfl, by decide +kernel, by decide +kernel⟩
abbrev srecords_from : Stmt := top 18
abbrev Nmrecords_from : List Str := ["cells", "generation", "records", "text", "row", "follow", "_", "stretch"]
abbrev Precords_from : List Str := ["cells", "generation"]
theorem screcords_from : FnScope Nmrecords_from Precords_from (defScope srecords_from) := ⟨rfl, rfl, rfl, by decide +kernel, rfl, by decide +kernel, by decide +kernel⟩
abbrev sread_area : Stmt := top 15
abbrev Nmread_area : List Str := ["cells", "generation", "count", "pieces", "table", "record"]
abbrev Pread_area : List Str := ["cells"]
theorem scread_area : FnScope Nmread_area Pread_area (defScope sread_area) := ⟨rfl, rfl, rfl, by decide +kernel, rfl, by decide +kernel, by decide +kernel⟩
abbrev sread_areas : Stmt := top 26
abbrev Nmread_areas : List Str := ["areas", "best", "area", "cells", "generation", "table", "key"]
abbrev Pread_areas : List Str := ["areas"]
theorem scread_areas : FnScope Nmread_areas Pread_areas (defScope sread_areas) := ⟨rfl, rfl, rfl, by decide +kernel, rfl, by decide +kernel, by decide +kernel⟩
abbrev scheck_cut : Stmt := top 25
abbrev Nmcheck_cut : List Str := ["cut", "at", "word"]
abbrev Pcheck_cut : List Str := ["cut"]
theorem sccheck_cut : FnScope Nmcheck_cut Pcheck_cut (defScope scheck_cut) := ⟨rfl, rfl, rfl, by decide +kernel, rfl, by decide +kernel, by decide +kernel⟩
abbrev sDisk_check_awake : Stmt := inClass (top 24) 8
abbrev NmDisk_check_awake : List Str := ["self"]
abbrev PDisk_check_awake : List Str := ["self"]
theorem scDisk_check_awake : FnScope NmDisk_check_awake PDisk_check_awake (defScope sDisk_check_awake) := ⟨rfl, rfl, rfl, by decide +kernel, rfl, by decide +kernel, by decide +kernel⟩
abbrev sDisk_put : Stmt := inClass (top 24) 6
abbrev NmDisk_put : List Str := ["self", "at", "text"]
abbrev PDisk_put : List Str := ["self", "at", "text"]
theorem scDisk_put : FnScope NmDisk_put PDisk_put (defScope sDisk_put) := ⟨rfl, rfl, rfl, by decide +kernel, rfl, by decide +kernel, by decide +kernel⟩
abbrev sDisk_keep : Stmt := inClass (top 24) 7
abbrev NmDisk_keep : List Str := ["self", "area", "at", "text", "cells"]
abbrev PDisk_keep : List Str := ["self", "area", "at", "text"]
theorem scDisk_keep : FnScope NmDisk_keep PDisk_keep (defScope sDisk_keep) := ⟨rfl, rfl, rfl, by decide +kernel, rfl, by decide +kernel, by decide +kernel⟩
abbrev sDisk_sync : Stmt := inClass (top 24) 4
abbrev NmDisk_sync : List Str := ["self", "area", "at", "text"]
abbrev PDisk_sync : List Str := ["self"]
theorem scDisk_sync : FnScope NmDisk_sync PDisk_sync (defScope sDisk_sync) := ⟨rfl, rfl, rfl, by decide +kernel, rfl, by decide +kernel, by decide +kernel⟩
abbrev sDisk_check : Stmt := inClass (top 24) 3
abbrev NmDisk_check : List Str := ["self", "synced", "at", "pieces", "text", "area", "_"]
abbrev PDisk_check : List Str := ["self", "synced"]
theorem scDisk_check : FnScope NmDisk_check PDisk_check (defScope sDisk_check) := ⟨rfl, rfl, rfl, by decide +kernel, rfl, by decide +kernel, by decide +kernel⟩
abbrev sDisk_write : Stmt := inClass (top 24) 2
abbrev NmDisk_write : List Str := ["self", "changes", "rows", "at", "text", "follow"]
abbrev PDisk_write : List Str := ["self", "changes"]
theorem scDisk_write : FnScope NmDisk_write PDisk_write (defScope sDisk_write) := ⟨rfl, rfl, rfl, by decide +kernel, rfl, by decide +kernel, by decide +kernel⟩
abbrev sDisk_table : Stmt := inClass (top 24) 11
abbrev NmDisk_table : List Str := ["self", "key"]
abbrev PDisk_table : List Str := ["self"]
theorem scDisk_table : FnScope NmDisk_table PDisk_table (defScope sDisk_table) := ⟨rfl, rfl, rfl, by decide +kernel, rfl, by decide +kernel, by decide +kernel⟩
abbrev sDisk_areas : Stmt := inClass (top 24) 12
abbrev NmDisk_areas : List Str := ["self", "cells"]
abbrev PDisk_areas : List Str := ["self"]
theorem scDisk_areas : FnScope NmDisk_areas PDisk_areas (defScope sDisk_areas) := ⟨rfl, rfl, rfl, by decide +kernel, rfl, by decide +kernel, by decide +kernel⟩
abbrev sDisk_unsynced : Stmt := inClass (top 24) 13
abbrev NmDisk_unsynced : List Str := ["self"]
abbrev PDisk_unsynced : List Str := ["self"]
theorem scDisk_unsynced : FnScope NmDisk_unsynced PDisk_unsynced (defScope sDisk_unsynced) := ⟨rfl, rfl, rfl, by decide +kernel, rfl, by decide +kernel, by decide +kernel⟩
abbrev sDisk_syncs : Stmt := inClass (top 24) 14
abbrev NmDisk_syncs : List Str := ["self"]
abbrev PDisk_syncs : List Str := ["self"]
theorem scDisk_syncs : FnScope NmDisk_syncs PDisk_syncs (defScope sDisk_syncs) := ⟨rfl, rfl, rfl, by decide +kernel, rfl, by decide +kernel, by decide +kernel⟩
abbrev sDisk_fallen : Stmt := inClass (top 24) 15
abbrev NmDisk_fallen : List Str := ["self"]
abbrev PDisk_fallen : List Str := ["self"]
theorem scDisk_fallen : FnScope NmDisk_fallen PDisk_fallen (defScope sDisk_fallen) := ⟨rfl, rfl, rfl, by decide +kernel, rfl, by decide +kernel, by decide +kernel⟩
abbrev sDisk_wake : Stmt := inClass (top 24) 10
abbrev NmDisk_wake : List Str := ["self", "_", "cells", "cell"]
abbrev PDisk_wake : List Str := ["self"]
theorem scDisk_wake : FnScope NmDisk_wake PDisk_wake (defScope sDisk_wake) := ⟨rfl, rfl, rfl, by decide +kernel, rfl, by decide +kernel, by decide +kernel⟩
abbrev sDisk_fall : Stmt := inClass (top 24) 9
abbrev NmDisk_fall : List Str := ["self", "cut", "area", "at", "text", "word"]
abbrev PDisk_fall : List Str := ["self", "cut"]
theorem scDisk_fall : FnScope NmDisk_fall PDisk_fall (defScope sDisk_fall) := ⟨rfl, rfl, rfl, by decide +kernel, rfl, by decide +kernel, by decide +kernel⟩
abbrev sbag : Stmt := top 28
abbrev Nmbag : List Str := ["_law_script", "_law_seed", "_law_item"]
abbrev Pbag : List Str := ["_law_script"]
theorem scbag : FnScope Nmbag Pbag (defScope sbag) := ⟨rfl, rfl, rfl, by decide +kernel, rfl, by decide +kernel, by decide +kernel⟩
abbrev sdraw : Stmt := top 29
abbrev Nmdraw : List Str := ["_law_bag_here", "_law_limit", "_law_item", "_law_digit"]
abbrev Pdraw : List Str := ["_law_bag_here", "_law_limit"]
theorem scdraw : FnScope Nmdraw Pdraw (defScope sdraw) := ⟨rfl, rfl, rfl, by decide +kernel, rfl, by decide +kernel, by decide +kernel⟩
abbrev sof : Stmt := top 30
abbrev Nmof : List Str := ["_law_bag_here", "_law_things"]
abbrev Pof : List Str := ["_law_bag_here", "_law_things"]
theorem scof : FnScope Nmof Pof (defScope sof) := ⟨rfl, rfl, rfl, by decide +kernel, rfl, by decide +kernel, by decide +kernel⟩
abbrev slike : Stmt := top 31
abbrev Nmlike : List Str := ["_law_told", "_law_due_here", "_law_a", "_law_b"]
abbrev Plike : List Str := ["_law_told", "_law_due_here"]
theorem sclike : FnScope Nmlike Plike (defScope slike) := ⟨rfl, rfl, rfl, by decide +kernel, rfl, by decide +kernel, by decide +kernel⟩
abbrev scut : Stmt := top 32
abbrev Nmcut : List Str := ["_law_text", "_law_k"]
abbrev Pcut : List Str := ["_law_text"]
theorem sccut : FnScope Nmcut Pcut (defScope scut) := ⟨rfl, rfl, rfl, by decide +kernel, rfl, by decide +kernel, by decide +kernel⟩
abbrev swritten : Stmt := top 33
abbrev Nmwritten : List Str := ["_law_shelf_here", "_law_key_here"]
abbrev Pwritten : List Str := ["_law_shelf_here"]
theorem scwritten : FnScope Nmwritten Pwritten (defScope swritten) := ⟨rfl, rfl, rfl, by decide +kernel, rfl, by decide +kernel, by decide +kernel⟩
abbrev srecorded : Stmt := top 34
abbrev Nmrecorded : List Str := ["_law_pairs_here", "_law_key_here"]
abbrev Precorded : List Str := ["_law_pairs_here"]
theorem screcorded : FnScope Nmrecorded Precorded (defScope srecorded) := ⟨rfl, rfl, rfl, by decide +kernel, rfl, by decide +kernel, by decide +kernel⟩
abbrev scopy : Stmt := top 36
abbrev Nmcopy : List Str := ["_law_shelf_here", "_law_some", "_law_key_here"]
abbrev Pcopy : List Str := ["_law_shelf_here"]
theorem sccopy : FnScope Nmcopy Pcopy (defScope scopy) := ⟨rfl, rfl, rfl, by decide +kernel, rfl, by decide +kernel, by decide +kernel⟩
abbrev ssync : Stmt := top 37
abbrev Nmsync : List Str := ["_law_own", "_law_side", "_law_index", "_law_text", "_law_cells"]
abbrev Psync : List Str := ["_law_own"]
theorem scsync : FnScope Nmsync Psync (defScope ssync) := ⟨rfl, rfl, rfl, by decide +kernel, rfl, by decide +kernel, by decide +kernel⟩
abbrev scheck : Stmt := top 38
abbrev Nmcheck : List Str := ["_law_own", "_law_hard", "_law_parts", "_law_side", "_law_gen", "_law_fresh", "_law_k"]
abbrev Pcheck : List Str := ["_law_own", "_law_hard"]
theorem sccheck : FnScope Nmcheck Pcheck (defScope scheck) := ⟨rfl, rfl, rfl, by decide +kernel, rfl, by decide +kernel, by decide +kernel⟩
abbrev swrite : Stmt := top 39
abbrev Nmwrite : List Str := ["_law_own", "_law_pairs_here", "_law_parts", "_law_k", "_law_serial", "_law_text", "_law_shelf_here", "_law_key_here"]
abbrev Pwrite : List Str := ["_law_own", "_law_pairs_here"]
theorem scwrite : FnScope Nmwrite Pwrite (defScope swrite) := ⟨rfl, rfl, rfl, by decide +kernel, rfl, by decide +kernel, by decide +kernel⟩
abbrev skey : Stmt := top 41
abbrev Nmkey : List Str := ["_law_bag_here"]
abbrev Pkey : List Str := ["_law_bag_here"]
theorem sckey : FnScope Nmkey Pkey (defScope skey) := ⟨rfl, rfl, rfl, by decide +kernel, rfl, by decide +kernel, by decide +kernel⟩
abbrev smost : Stmt := top 46
abbrev Nmmost : List Str := ["_law_bag_here"]
abbrev Pmost : List Str := ["_law_bag_here"]
theorem scmost : FnScope Nmmost Pmost (defScope smost) := ⟨rfl, rfl, rfl, by decide +kernel, rfl, by decide +kernel, by decide +kernel⟩
abbrev spairs : Stmt := top 47
abbrev Nmpairs : List Str := ["_law_shelf_here", "_law_key_here"]
abbrev Ppairs : List Str := ["_law_shelf_here"]
theorem scpairs : FnScope Nmpairs Ppairs (defScope spairs) := ⟨rfl, rfl, rfl, by decide +kernel, rfl, by decide +kernel, by decide +kernel⟩
abbrev sareas : Stmt := top 40
abbrev Nmareas : List Str := ["_law_own", "_law_some", "_law_cells", "_law_k"]
abbrev Pareas : List Str := ["_law_own"]
theorem scareas : FnScope Nmareas Pareas (defScope sareas) := ⟨rfl, rfl, rfl, by decide +kernel, rfl, by decide +kernel, by decide +kernel⟩
abbrev sdisk_so : Stmt := top 48
abbrev Nmdisk_so : List Str := ["_law_disk", "_law_own", "_law_told", "_law_key_here"]
abbrev Pdisk_so : List Str := ["_law_disk", "_law_own"]
theorem scdisk_so : FnScope Nmdisk_so Pdisk_so (defScope sdisk_so) := ⟨rfl, rfl, rfl, by decide +kernel, rfl, by decide +kernel, by decide +kernel⟩
abbrev slong : Stmt := top 42
abbrev Nmlong : List Str := ["_law_bag_here", "_law_size", "_law_chunk", "_law_k"]
abbrev Plong : List Str := ["_law_bag_here", "_law_size"]
theorem sclong : FnScope Nmlong Plong (defScope slong) := ⟨rfl, rfl, rfl, by decide +kernel, rfl, by decide +kernel, by decide +kernel⟩
abbrev svalue : Stmt := top 43
abbrev Nmvalue : List Str := ["_law_bag_here", "_law_key_here", "_law_pick"]
abbrev Pvalue : List Str := ["_law_bag_here", "_law_key_here"]
theorem scvalue : FnScope Nmvalue Pvalue (defScope svalue) := ⟨rfl, rfl, rfl, by decide +kernel, rfl, by decide +kernel, by decide +kernel⟩
abbrev schanges : Stmt := top 44
abbrev Nmchanges : List Str := ["_law_bag_here", "_law_shelf_here", "_law_some", "_law_k", "_law_key_here", "_law_pick"]
abbrev Pchanges : List Str := ["_law_bag_here", "_law_shelf_here"]
theorem scchanges : FnScope Nmchanges Pchanges (defScope schanges) := ⟨rfl, rfl, rfl, by decide +kernel, rfl, by decide +kernel, by decide +kernel⟩
abbrev sshelf : Stmt := top 45
abbrev Nmshelf : List Str := ["_law_bag_here", "_law_some", "_law_k", "_law_key_here"]
abbrev Pshelf : List Str := ["_law_bag_here"]
theorem scshelf : FnScope Nmshelf Pshelf (defScope sshelf) := ⟨rfl, rfl, rfl, by decide +kernel, rfl, by decide +kernel, by decide +kernel⟩
abbrev sDisk_init : Stmt := inClass (top 24) 1
abbrev NmDisk_init : List Str := ["self", "table", "rows"]
abbrev PDisk_init : List Str := ["self", "table", "rows"]
theorem scDisk_init : FnScope NmDisk_init PDisk_init (defScope sDisk_init) := ⟨rfl, rfl, rfl, by decide +kernel, rfl, by decide +kernel, by decide +kernel⟩
abbrev sDisk_copy : Stmt := inClass (top 24) 16
abbrev NmDisk_copy : List Str := ["self", "other"]
abbrev PDisk_copy : List Str := ["self"]
theorem scDisk_copy : FnScope NmDisk_copy PDisk_copy (defScope sDisk_copy) := ⟨rfl, rfl, rfl, by decide +kernel, rfl, by decide +kernel, by decide +kernel⟩
abbrev snew : Stmt := top 35
abbrev Nmnew : List Str := ["_law_shelf_here", "_law_most_here", "_law_parts", "_law_cells", "_law_k", "_law_own"]
abbrev Pnew : List Str := ["_law_shelf_here", "_law_most_here"]
theorem scnew : FnScope Nmnew Pnew (defScope snew) := ⟨rfl, rfl, rfl, by decide +kernel, rfl, by decide +kernel, by decide +kernel⟩
abbrev spower : Stmt := top 54
abbrev Nmpower : List Str := ["_law_n", "_law_some", "_law_k"]
abbrev Ppower : List Str := ["_law_n"]
theorem scpower : FnScope Nmpower Ppower (defScope spower) := ⟨rfl, rfl, rfl, by decide +kernel, rfl, by decide +kernel, by decide +kernel⟩
abbrev swords : Stmt := top 52
abbrev Nmwords : List Str := ["_law_bag_here", "_law_many", "_law_turn", "_law_some", "_law_left", "_law_k", "_law_pick"]
abbrev Pwords : List Str := ["_law_bag_here", "_law_many", "_law_turn"]
theorem scwords : FnScope Nmwords Pwords (defScope swords) := ⟨rfl, rfl, rfl, by decide +kernel, rfl, by decide +kernel, by decide +kernel⟩
abbrev sstart : Stmt := top 49
abbrev Nmstart : List Str := ["_law_bag_here", "_law_disk", "_law_own", "_law_k", "_law_pairs_here"]
abbrev Pstart : List Str := ["_law_bag_here", "_law_disk", "_law_own"]
theorem scstart : FnScope Nmstart Pstart (defScope sstart) := ⟨rfl, rfl, rfl, by decide +kernel, rfl, by decide +kernel, by decide +kernel⟩
abbrev sdue : Stmt := top 51
abbrev Nmdue : List Str := ["_law_base", "_law_steps", "_law_words_here", "_law_here", "_law_whole", "_law_at", "_law_word", "_law_many", "_law_shelf_here", "_law_kept", "_law_k"]
abbrev Pdue : List Str := ["_law_base", "_law_steps", "_law_words_here"]
theorem scdue : FnScope Nmdue Pdue (defScope sdue) := ⟨rfl, rfl, rfl, by decide +kernel, rfl, by decide +kernel, by decide +kernel⟩
abbrev sunsynced : Stmt := top 50
abbrev Nmunsynced : List Str := ["_law_bag_here", "_law_disk", "_law_own", "_law_base", "_law_steps", "_law_k", "_law_before", "_law_shelf_here", "_law_many", "_law_step", "_law_pairs_here"]
abbrev Punsynced : List Str := ["_law_bag_here", "_law_disk", "_law_own"]
theorem scunsynced : FnScope Nmunsynced Punsynced (defScope sunsynced) := ⟨rfl, rfl, rfl, by decide +kernel, rfl, by decide +kernel, by decide +kernel⟩
abbrev scut_so : Stmt := top 53
abbrev Nmcut_so : List Str := ["_law_disk", "_law_words_here", "_law_due_here", "_law_way", "_law_twin", "_law_told", "_law_key_here"]
abbrev Pcut_so : List Str := ["_law_disk", "_law_words_here", "_law_due_here", "_law_way"]
theorem sccut_so : FnScope Nmcut_so Pcut_so (defScope scut_so) := ⟨rfl, rfl, rfl, by decide +kernel, rfl, by decide +kernel, by decide +kernel⟩
abbrev slaw : Stmt := top 55
abbrev Nmlaw : List Str := ["_law_script", "_law_bag_here", "_law_shelf_here", "_law_most_here", "_law_disk", "_law_own", "_law_base", "_law_steps", "_law_many", "_law_turns", "_law_k", "_law_turn", "_law_j", "_law_words_here", "_law_step"]
abbrev Plaw : List Str := ["_law_script"]
theorem sclaw : FnScope Nmlaw Plaw (defScope slaw) := ⟨rfl, rfl, rfl, by decide +kernel, rfl, by decide +kernel, by decide +kernel⟩
structure Txt (K : PySem.W.Frag) (mg : Str → Option Value) : Prop where
  n_all : mg "all" = none
  n_any : mg "any" = none
  n_bool : mg "bool" = none
  n_dict : mg "dict" = none
  n_enumerate : mg "enumerate" = none
  n_int : mg "int" = none
  n_isinstance : mg "isinstance" = none
  n_len : mg "len" = none
  n_list : mg "list" = none
  n_max : mg "max" = none
  n_range : mg "range" = none
  n_sorted : mg "sorted" = none
  n_str : mg "str" = none
  n_sum : mg "sum" = none
  n_tuple : mg "tuple" = none
  n_zip : mg "zip" = none
  c_MOST_ROWS : ∃ t, mg "MOST_ROWS" = some (.int 64 t)
open RM SM
/-- the addresses of what the program's top has made for the disks -/
structure Ar where
  (c i fwrite fcheck fsync fput fkeep fawake ftable fareas funsynced fsyncs ffallen fcopy psyncs pfallen ffall fwake cw ed : Addr)
structure Kr (K : PySem.W.Frag) (mg : Str → Option Value) (r : Ar) : Prop where
  cl : Cls K r.c
  n_most : NoAttr K r.c "_most"
  n_table : NoAttr K r.c "_table"
  n_areas : NoAttr K r.c "_areas"
  n_unsynced : NoAttr K r.c "_unsynced"
  n_syncs : NoAttr K r.c "_syncs"
  n_fallen : NoAttr K r.c "_fallen"
  n_halts : NoAttr K r.c "_halts"
  n_halted : NoAttr K r.c "_halted"
  n_area : NoAttr K r.c "_area"
  n_generation : NoAttr K r.c "_generation"
  n_pieces : NoAttr K r.c "_pieces"
  n_rows : NoAttr K r.c "_rows"
  st : ∃ u, Con K r.c "STRETCH" (.int 60) u
  mwrite : Meth K r.c "write" r.fwrite
  mcheck : Meth K r.c "check" r.fcheck
  msync : Meth K r.c "sync" r.fsync
  mput : Meth K r.c "put" r.fput
  mkeep : Meth K r.c "keep" r.fkeep
  mcheck_awake : Meth K r.c "check_awake" r.fawake
  mtable : Meth K r.c "table" r.ftable
  mareas : Meth K r.c "areas" r.fareas
  munsynced : Meth K r.c "unsynced" r.funsynced
  mcopy : Meth K r.c "copy" r.fcopy
  psyncs : PropOf K r.c "syncs" r.psyncs r.fsyncs
  pfallen : PropOf K r.c "fallen" r.pfallen r.ffallen
  m : Mk K r.c r.i
  g : mg "Disk" = some (.ref r.c)
  mfall : Meth K r.c "fall" r.ffall
  mwake : Meth K r.c "wake" r.fwake
  gcw : mg "CUT_WORDS" = some (.ref r.cw)
  ced : ∃ (o : Obj) (its : Array Value) (n : Nat), K.lookup r.ed = some o ∧ o.cls = .type "tuple" ∧ o.data = .seq its n ∧ its.size ≤ sizeLine ∧ Vals [] its.toList
  cwt : ∀ H, SqT K H r.cw [.str "kept", .str "lost", .str "torn"]
  cst : ∃ mc u, ClX.CRead K r.c mc ∧ ClX.CVal K r.c mc "STRETCH" (.int 60) u
/-! ### frames -/
/-- all but what is in F is as it was -/
def KpF (F : Addr → Prop) (H H' : Hp) : Prop := ∀ b o, ¬ F b → H b = some o → H' b = some o
theorem KpF.refl (F : Addr → Prop) (H : Hp) : KpF F H H := fun _ _ _ e => e
theorem KpF.trans {F : Addr → Prop} {H H1 H2 : Hp} (a : KpF F H H1) (b : KpF F H1 H2) : KpF F H H2 := fun c o n e => b c o n (a c o n e)
theorem KpF.same {F : Addr → Prop} {H H' : Hp} (s : Same H H') : KpF F H H' := fun b o _ e => s b o e
theorem KpF.mono {F G : Addr → Prop} {H H' : Hp} (k : KpF F H H') (h : ∀ b, F b → G b) : KpF G H H' := fun b o n e => k b o (fun z => n (h b z)) e
theorem KpF.upd {F : Addr → Prop} {H H1 : Hp} {p : Addr} {o : HO} (k : KpF F H H1) (h : F p) : KpF F H (L2.upd H1 p o) := fun b u n e => by
  rw [upd_ne (fun z => n (by rw [z]; exact h))]
  exact k b u n e
theorem KpF.new {F : Addr → Prop} {H H1 : Hp} {p : Addr} {o : HO} (k : KpF F H H1) (h : H1 p = none) : KpF F H (L2.upd H1 p o) := fun b u n e => by
  have q := k b u n e
  rw [upd_ne (ne_of_none q h)]
  exact q
theorem KpF.kp {F : Addr → Prop} {g : Addr} {H H' : Hp} (hg : F g) (k : Kp g H H') : KpF F H H' := fun b o n e => k b o (fun z => n (z ▸ hg)) e
/-! ### the state of a disk -/
abbrev Op := Int × Int × Str
structure DS where
  kv : List (Key × V)
  m0 : List (Key × V)
  m1 : List (Key × V)
  op : List Op
  most : Int
  side : Int
  gen : Int
  pcs : Int
  cnt : Int
  syn : Int
  fal : Bool
def opV (q : Op) : List V := [.int q.1, .int q.2.1, .str q.2.2]
def OpAt (F : Addr → Prop) (H : Hp) (t : Addr) (q : Op) : Prop := F t ∧ H t = some (.tup (opV q))
abbrev Ops (F : Addr → Prop) (H : Hp) (ts : List Addr) (ln : List Op) : Prop := Paired (OpAt F H) ts ln
def dF (S : DS) (T AA U : Addr) : List (Str × V) := [("_most", .int S.most), ("_table", .ref T), ("_areas", .ref AA), ("_unsynced", .ref U), ("_syncs", .int S.syn), ("_fallen", .bl S.fal), ("_halts", .bl false), ("_halted", .bl false), ("_area", .int S.side), ("_generation", .int S.gen), ("_pieces", .int S.pcs), ("_rows", .int S.cnt)]
structure DiskX (r : Ar) (F : Addr → Prop) (H : Hp) (d : Addr) (S : DS) (dx T AA A0 A1 U : Addr) (ts : List Addr) : Prop where
  hd : H d = some (.ins r.c dx (dF S T AA U))
  t : H T = some (.dK S.kv)
  aa : H AA = some (.lst [.ref A0, .ref A1])
  a0 : H A0 = some (.lst (cells S.m0))
  a1 : H A1 = some (.lst (cells S.m1))
  u : H U = some (.lst (ts.map V.ref))
  op : Ops (fun b => ¬ F b) H ts S.op
  fd : F d
  ft : F T
  faa : F AA
  fa0 : F A0
  fa1 : F A1
  fu : F U
  n01 : A0 ≠ A1
  n0u : A0 ≠ U
  n1u : A1 ≠ U
  na0 : AA ≠ A0
  na1 : AA ≠ A1
  nau : AA ≠ U
  al : ∀ b, F b → ∃ o, H b = some o
/-- the disk at d; all that is its own is in F -/
def DiskAt (r : Ar) (F : Addr → Prop) (H : Hp) (d : Addr) (S : DS) : Prop := ∃ (dx T AA A0 A1 U : Addr) (ts : List Addr), DiskX r F H d S dx T AA A0 A1 U ts
theorem Ops.mono' {F F' : Addr → Prop} {H H' : Hp} {ts : List Addr} {ln : List Op} (h : Ops F H ts ln) (k : ∀ t q, OpAt F H t q → OpAt F' H' t q) : Ops F' H' ts ln := h.mono fun _ _ z => k _ _ z
/-- nothing in G is a tuple -/
def NT (G : Addr → Prop) (H : Hp) : Prop := ∀ b xs, G b → H b ≠ some (.tup xs)
theorem DiskX.kp {r : Ar} {F G : Addr → Prop} {H H' : Hp} {d : Addr} {S : DS} {dx T AA A0 A1 U : Addr} {ts : List Addr} (h : DiskX r F H d S dx T AA A0 A1 U ts) (k : KpF G H H') (n : ∀ b, F b → ¬ G b) (nt : NT G H) : DiskX r F H' d S dx T AA A0 A1 U ts :=
  ⟨k _ _ (n _ h.fd) h.hd, k _ _ (n _ h.ft) h.t, k _ _ (n _ h.faa) h.aa, k _ _ (n _ h.fa0) h.a0, k _ _ (n _ h.fa1) h.a1, k _ _ (n _ h.fu) h.u, h.op.mono' fun _ _ z => ⟨z.1, k _ _ (fun w => nt _ _ w z.2) z.2⟩, h.fd, h.ft, h.faa, h.fa0, h.fa1, h.fu, h.n01, h.n0u, h.n1u, h.na0, h.na1, h.nau, fun b hb => by
    obtain ⟨o, e⟩ := h.al b hb
    exact ⟨o, k _ _ (n _ hb) e⟩⟩
theorem DiskX.same {r : Ar} {F : Addr → Prop} {H H' : Hp} {d : Addr} {S : DS} {dx T AA A0 A1 U : Addr} {ts : List Addr} (h : DiskX r F H d S dx T AA A0 A1 U ts) (k : Same H H') : DiskX r F H' d S dx T AA A0 A1 U ts := h.kp (G := fun _ => False) (KpF.same k) (fun _ _ z => z) fun _ _ z => z.elim
theorem DiskAt.kp {r : Ar} {F G : Addr → Prop} {H H' : Hp} {d : Addr} {S : DS} (h : DiskAt r F H d S) (k : KpF G H H') (n : ∀ b, F b → ¬ G b) (nt : NT G H) : DiskAt r F H' d S := by
  obtain ⟨dx, T, AA, A0, A1, U, ts, h⟩ := h
  exact ⟨dx, T, AA, A0, A1, U, ts, h.kp k n nt⟩
theorem DiskAt.same {r : Ar} {F : Addr → Prop} {H H' : Hp} {d : Addr} {S : DS} (h : DiskAt r F H d S) (k : Same H H') : DiskAt r F H' d S := h.kp (G := fun _ => False) (KpF.same k) (fun _ _ z => z) fun _ _ z => z.elim
/-- behind a deed on the disk: only what is its own has changed, or is new -/
def Chg (r : Ar) (F : Addr → Prop) (H H' : Hp) (d : Addr) (S' : DS) : Prop := ∃ F', KpF F H H' ∧ DiskAt r F' H' d S' ∧ ∀ b, F' b → F b ∨ H b = none
theorem Chg.refl {r : Ar} {F : Addr → Prop} {H : Hp} {d : Addr} {S : DS} (h : DiskAt r F H d S) : Chg r F H H d S := ⟨F, KpF.refl F H, h, fun _ z => .inl z⟩
theorem Chg.then {r : Ar} {F F1 : Addr → Prop} {H H1 H2 : Hp} {d : Addr} {S2 : DS} (k : KpF F H H1) (f : ∀ b, F1 b → F b ∨ H b = none) (b : Chg r F1 H1 H2 d S2) : Chg r F H H2 d S2 := by
  obtain ⟨F2, k2, h2, f2⟩ := b
  refine ⟨F2, fun b o n e => ?_, h2, fun b z => ?_⟩
  · refine k2 b o (fun z => (f b z).elim n fun q => ?_) (k b o n e)
    rw [e] at q
    cases q
  · rcases f2 b z with z | z
    · exact f b z
    · by_cases q : F b
      · exact .inl q
      · refine .inr ?_
        cases e : H b with
        | none => rfl
        | some o =>
          rw [k b o q e] at z
          cases z
/-! ### texts -/
theorem len_app (a b : Str) : (a ++ b).length = a.length + b.length := by
  show (a.cps ++ b.cps).size = _
  rw [Array.size_append]
  rfl
def keysOf (kv : List (Key × V)) : List Str := kv.filterMap fun p => match p.1 with | .inr z => some z | .inl _ => none
def pieceOf (z : Str) (v : V) : Str := match v with | .str w => (((Str.empty ++ z) ++ "=") ++ w) ++ ";" | _ => (Str.empty ++ z) ++ "!;"
def partsOf (kv : List (Key × V)) : List Str := (srt (keysOf kv)).map fun z => pieceOf z ((valV kv (.inr z)).getD .non)
def textOf (kv : List (Key × V)) : Str := Txt.join "" (partsOf kv)
/-- short values, or none -/
def Val (v : V) : Prop := v = .non ∨ ∃ w : Str, v = .str w ∧ w.length ≤ 1000
/-- a table, or changes of one: few keys, all texts; short values, or none -/
structure Tab (kv : List (Key × V)) : Prop where
  keys : kv.map (·.1) = (keysOf kv).map Sum.inr
  few : kv.length < 64
  sz : ∀ p ∈ kv, Val p.2
  ks : ∀ z ∈ keysOf kv, z.length ≤ 100
  nd : (kv.map (·.1)).Nodup
theorem valV_mem {kv : List (Key × V)} {k : Key} {v : V} (h : valV kv k = some v) : ∃ p ∈ kv, p.1 = k ∧ p.2 = v := by
  induction kv with
  | nil => cases h
  | cons q r ih =>
    by_cases c : q.1 = k
    · rw [show valV (q :: r) k = some q.2 from valV_pos c] at h
      cases h
      exact ⟨q, List.mem_cons_self .., c, rfl⟩
    · rw [valV_neg c] at h
      obtain ⟨p, hp, e⟩ := ih h
      exact ⟨p, List.mem_cons_of_mem _ hp, e⟩
theorem valV_has {kv : List (Key × V)} {p : Key × V} (h : p ∈ kv) : ∃ v, valV kv p.1 = some v := by
  induction kv with
  | nil => cases h
  | cons q r ih =>
    by_cases c : q.1 = p.1
    · exact ⟨q.2, valV_pos c⟩
    · rw [valV_neg c]
      rcases List.mem_cons.mp h with rfl | h
      · exact absurd rfl c
      · exact ih h
theorem Tab.val {kv : List (Key × V)} (t : Tab kv) {k : Key} {v : V} (h : valV kv k = some v) : Val v := by
  obtain ⟨p, hp, _, e⟩ := valV_mem h
  rw [← e]
  exact t.sz p hp
theorem keysOf_mem {kv : List (Key × V)} {z : Str} (h : z ∈ keysOf kv) : ∃ p ∈ kv, p.1 = .inr z := by
  obtain ⟨p, hp, e⟩ := List.mem_filterMap.mp h
  refine ⟨p, hp, ?_⟩
  match p, e with
  | (.inr w, _), e => cases e; rfl
theorem Tab.at_ {kv : List (Key × V)} (t : Tab kv) {z : Str} (h : z ∈ keysOf kv) : ∃ v, valV kv (.inr z) = some v ∧ Val v := by
  obtain ⟨p, hp, e⟩ := keysOf_mem h
  obtain ⟨v, hv⟩ := valV_has hp
  rw [e] at hv
  exact ⟨v, hv, t.val hv⟩
theorem keysOf_len {kv : List (Key × V)} (t : Tab kv) : (keysOf kv).length = kv.length := by
  have := congrArg List.length t.keys
  rw [List.length_map, List.length_map] at this
  exact this.symm
theorem piece_len {z : Str} {v : V} (hz : z.length ≤ 100) (hv : Val v) : (pieceOf z v).length ≤ 1102 := by
  have e0 : (Str.empty : Str).length = 0 := rfl
  have e1 : ("=" : Str).length = 1 := by decide +kernel
  have e2 : (";" : Str).length = 1 := by decide +kernel
  have e3 : ("!;" : Str).length = 2 := by decide +kernel
  rcases hv with rfl | ⟨w, rfl, hw⟩
  · show ((Str.empty ++ z) ++ "!;").length ≤ 1102
    rw [len_app, len_app, e0, e3]
    omega
  · show ((((Str.empty ++ z) ++ "=") ++ w) ++ ";").length ≤ 1102
    rw [len_app, len_app, len_app, len_app, e0, e1, e2]
    omega
def nCut (z : Str) : Nat := if 0 < z.length then (z.length - 1) / 60 + 1 else 0
def cutT (z : Str) : List Str := (List.range (nCut z)).map fun i : Nat => cutS z (some (0 + (i : Int) * 60)) (some (0 + (i : Int) * 60 + 60))
theorem nCut_le (z : Str) : nCut z ≤ z.length := by
  unfold nCut
  split <;> omega
theorem fits {i : Int} (h0 : -1 ≤ i) (h1 : i ≤ 2000000) : Builtin.Range.rangeFitsLong i = true := by
  unfold Builtin.Range.rangeFitsLong
  rw [decide_eq_true (show -2 ^ 63 ≤ i by omega), decide_eq_true (show i < 2 ^ 63 by omega)]
  rfl
theorem rgc60 {n : Nat} (h : n ≤ 1000000) : RgC 0 n 60 (if 0 < n then (n - 1) / 60 + 1 else 0) := by
  have e : Builtin.Range.rangeSize 0 (n : Int) 60 = ((if 0 < n then (n - 1) / 60 + 1 else 0 : Nat) : Int) := by
    unfold Builtin.Range.rangeSize
    rw [if_pos (by decide)]
    by_cases c : 0 < n
    · rw [if_pos (by omega), if_pos c]
      omega
    · rw [if_neg (by omega), if_neg c]
      rfl
  obtain ⟨m, hm, hb⟩ : ∃ m : Nat, (if 0 < n then (n - 1) / 60 + 1 else 0) = m ∧ m * 60 ≤ n + 60 := ⟨_, rfl, by split <;> omega⟩
  rw [hm] at e ⊢
  refine ⟨by decide, by decide, ?_, e⟩
  unfold Builtin.Range.small
  rw [e, fits (by omega) (by omega), fits (i := (n : Int)) (by omega) (by omega), fits (i := 60) (by omega) (by omega), fits (i := (m : Int)) (by omega) (by omega), if_pos (by decide), fits (i := (n : Int) + (60 - 1)) (by omega) (by omega), Bool.or_true]
  rfl
theorem sum_bd {b : Nat} : ∀ {l : List Nat}, (∀ y ∈ l, y ≤ b) → l.sum ≤ l.length * b
  | [], _ => Nat.zero_le _
  | y :: r, h => by
    have ih := sum_bd (b := b) (l := r) fun z hz => h z (List.mem_cons_of_mem _ hz)
    have h1 := h y (List.mem_cons_self ..)
    rw [List.sum_cons, List.length_cons, Nat.add_mul]
    omega
/-! ### what deeds do to the state -/
def DS.keep (S : DS) (q : Op) : DS := if q.1 = 0 then { S with m0 := putK S.m0 (.inl q.2.1) (.str q.2.2) } else { S with m1 := putK S.m1 (.inl q.2.1) (.str q.2.2) }
def DS.put (S : DS) (at_ : Int) (t : Str) : DS := { S with op := S.op ++ [(S.side, at_, t)] }
def DS.sync (S : DS) : DS := if S.op = [] then S else { S.op.foldl DS.keep S with op := [], syn := S.syn + 1 }
theorem Ops.len {F : Addr → Prop} {H : Hp} {ts : List Addr} {ln : List Op} (h : Ops F H ts ln) : ts.length = ln.length := h.length
theorem DiskX.put {r : Ar} {F : Addr → Prop} {H : Hp} {d : Addr} {S : DS} {dx T AA A0 A1 U : Addr} {ts : List Addr} (h : DiskX r F H d S dx T AA A0 A1 U ts) {t : Addr} (ht : H t = none) {a : Int} {z : Str} :
    Chg r F H (upd (upd H t (.tup [.int S.side, .int a, .str z])) U (.lst (ts.map V.ref ++ [.ref t]))) d (S.put a z) := by
  have st : ∀ b o, b ≠ U → H b = some o → upd (upd H t (.tup [.int S.side, .int a, .str z])) U (.lst (ts.map V.ref ++ [.ref t])) b = some o := fun b o n e => by
    rw [upd_ne n, upd_ne (ne_of_none e ht)]
    exact e
  have tU : t ≠ U := Ne.symm (ne_of_none h.u ht)
  have et : upd (upd H t (.tup [.int S.side, .int a, .str z])) U (.lst (ts.map V.ref ++ [.ref t])) t = some (.tup [.int S.side, .int a, .str z]) := by
    rw [upd_ne tU]
    exact upd_same
  have dif : ∀ {b : Addr} {o : HO}, H b = some o → (∀ xs, o ≠ .lst xs) → b ≠ U := fun {b o} e n z => by
    rw [z, h.u] at e
    cases e
    exact n _ rfl
  have nFt : ¬ F t := fun z => by
    obtain ⟨o, e⟩ := h.al t z
    rw [e] at ht
    cases ht
  refine ⟨F, fun b o n e => st b o (fun z => n (z ▸ h.fu)) e, ⟨dx, T, AA, A0, A1, U, ts ++ [t], ⟨st _ _ (dif h.hd fun _ => by simp) h.hd, st _ _ (dif h.t fun _ => by simp) h.t, st _ _ h.nau h.aa, st _ _ h.n0u h.a0, st _ _ h.n1u h.a1, by rw [upd_same, List.map_append]; rfl, ?_,
    h.fd, h.ft, h.faa, h.fa0, h.fa1, h.fu, h.n01, h.n0u, h.n1u, h.na0, h.na1, h.nau, fun b hb => ?_⟩⟩, fun b hb => .inl hb⟩
  · exact (h.op.mono' fun t' q z => ⟨z.1, st _ _ (dif z.2 fun _ => by simp) z.2⟩).snoc ⟨nFt, et⟩
  · by_cases c : b = U
    · exact ⟨_, by rw [c]; exact upd_same⟩
    · obtain ⟨o, e⟩ := h.al b hb
      exact ⟨o, st _ _ c e⟩
/-- behind a deed that makes nothing new -/
def ChgK (r : Ar) (F : Addr → Prop) (H H' : Hp) (d : Addr) (S' : DS) (dx T AA A0 A1 U : Addr) (ts : List Addr) : Prop := KpF F H H' ∧ DiskX r F H' d S' dx T AA A0 A1 U ts
theorem DiskX.keep0 {r : Ar} {F : Addr → Prop} {H H' : Hp} {d : Addr} {S : DS} {dx T AA A0 A1 U : Addr} {ts : List Addr} (h : DiskX r F H d S dx T AA A0 A1 U ts) (k : KpF (· = A0) H H') {i : Int} {z : Str} (e : H' A0 = some (.lst (cells (putK S.m0 (.inl i) (.str z))))) : ChgK r F H H' d (S.keep (0, i, z)) dx T AA A0 A1 U ts := by
  have dif : ∀ {b : Addr} {o : HO}, H b = some o → (∀ xs, o ≠ .lst xs) → b ≠ A0 := fun {b o} e n z => by
    rw [z, h.a0] at e
    cases e
    exact n _ rfl
  refine ⟨k.mono fun b z => z ▸ h.fa0, ⟨k _ _ (dif h.hd fun _ => by simp) h.hd, k _ _ (dif h.t fun _ => by simp) h.t, k _ _ h.na0 h.aa, e, k _ _ (Ne.symm h.n01) h.a1, k _ _ (Ne.symm h.n0u) h.u, h.op.mono' fun t' q z => ⟨z.1, k _ _ (dif z.2 fun _ => by simp) z.2⟩, h.fd, h.ft, h.faa, h.fa0, h.fa1, h.fu, h.n01, h.n0u, h.n1u, h.na0, h.na1, h.nau, fun b hb => ?_⟩⟩
  by_cases c : b = A0
  · exact ⟨_, by rw [c]; exact e⟩
  · obtain ⟨o, q⟩ := h.al b hb
    exact ⟨o, k _ _ c q⟩
theorem DiskX.keep1 {r : Ar} {F : Addr → Prop} {H H' : Hp} {d : Addr} {S : DS} {dx T AA A0 A1 U : Addr} {ts : List Addr} (h : DiskX r F H d S dx T AA A0 A1 U ts) (k : KpF (· = A1) H H') {i : Int} {z : Str} (e : H' A1 = some (.lst (cells (putK S.m1 (.inl i) (.str z))))) : ChgK r F H H' d (S.keep (1, i, z)) dx T AA A0 A1 U ts := by
  have dif : ∀ {b : Addr} {o : HO}, H b = some o → (∀ xs, o ≠ .lst xs) → b ≠ A1 := fun {b o} e n z => by
    rw [z, h.a1] at e
    cases e
    exact n _ rfl
  refine ⟨k.mono fun b z => z ▸ h.fa1, ⟨k _ _ (dif h.hd fun _ => by simp) h.hd, k _ _ (dif h.t fun _ => by simp) h.t, k _ _ h.na1 h.aa, k _ _ h.n01 h.a0, e, k _ _ (Ne.symm h.n1u) h.u, h.op.mono' fun t' q z => ⟨z.1, k _ _ (dif z.2 fun _ => by simp) z.2⟩, h.fd, h.ft, h.faa, h.fa0, h.fa1, h.fu, h.n01, h.n0u, h.n1u, h.na0, h.na1, h.nau, fun b hb => ?_⟩⟩
  by_cases c : b = A1
  · exact ⟨_, by rw [c]; exact e⟩
  · obtain ⟨o, q⟩ := h.al b hb
    exact ⟨o, k _ _ c q⟩
structure OpsOk (S : DS) : Prop where
  fal : S.fal = false
  sz : S.m0.length + S.m1.length + S.op.length ≤ 1000000
  ar : ∀ q ∈ S.op, (q.1 = 0 ∨ q.1 = 1) ∧ 0 ≤ q.2.1 ∧ q.2.1 ≤ 1000000
theorem keep_same (S : DS) (q : Op) : (S.keep q).kv = S.kv ∧ (S.keep q).op = S.op ∧ (S.keep q).most = S.most ∧ (S.keep q).side = S.side ∧ (S.keep q).gen = S.gen ∧ (S.keep q).pcs = S.pcs ∧ (S.keep q).cnt = S.cnt ∧ (S.keep q).syn = S.syn := by
  unfold DS.keep
  split <;> exact ⟨rfl, rfl, rfl, rfl, rfl, rfl, rfl, rfl⟩
theorem fold_same : ∀ (l : List Op) (S : DS), (l.foldl DS.keep S).kv = S.kv ∧ (l.foldl DS.keep S).op = S.op ∧ (l.foldl DS.keep S).most = S.most ∧ (l.foldl DS.keep S).side = S.side ∧ (l.foldl DS.keep S).gen = S.gen ∧ (l.foldl DS.keep S).pcs = S.pcs ∧ (l.foldl DS.keep S).cnt = S.cnt ∧ (l.foldl DS.keep S).syn = S.syn
  | [], _ => ⟨rfl, rfl, rfl, rfl, rfl, rfl, rfl, rfl⟩
  | q :: l, S => by
    obtain ⟨a1, a2, a3, a4, a5, a6, a7, a8⟩ := fold_same l (S.keep q)
    obtain ⟨b1, b2, b3, b4, b5, b6, b7, b8⟩ := keep_same S q
    exact ⟨a1.trans b1, a2.trans b2, a3.trans b3, a4.trans b4, a5.trans b5, a6.trans b6, a7.trans b7, a8.trans b8⟩
theorem Ops.get {F : Addr → Prop} {H : Hp} : ∀ {ts : List Addr} {ln : List Op}, Ops F H ts ln → ∀ {i : Nat} {t : Addr}, ts[i]? = some t → ∃ q, ln[i]? = some q ∧ OpAt F H t q
  | _, _, .nil, i, t, e => by simp at e
  | _, _, .cons h p, 0, t, e => by
    simp at e
    subst e
    exact ⟨_, rfl, h⟩
  | _, _, .cons h p, i + 1, t, e => by
    obtain ⟨q, e1, e2⟩ := Ops.get p (i := i) (t := t) (by simpa using e)
    exact ⟨q, by simpa using e1, e2⟩
theorem OpsOk.len {S : DS} (h : OpsOk S) : S.op.length ≤ 1000000 := by have := h.sz; omega
/-- a field of the disk is stored: the state behind it, the unsynced writes at N -/
theorem DiskX.store {r : Ar} {F : Addr → Prop} {H : Hp} {d : Addr} {S S' : DS} {dx T AA A0 A1 U N : Addr} {ts : List Addr} (h : DiskX r F H d S dx T AA A0 A1 U ts) (hN : H N = none) (e0 : S'.m0 = S.m0) (e1 : S'.m1 = S.m1) (ek : S'.kv = S.kv) (eo : S'.op = []) :
    DiskX r (fun b => F b ∨ b = N) (upd (upd H N (.lst [])) d (.ins r.c dx (dF S' T AA N))) d S' dx T AA A0 A1 N [] := by
  have dN : d ≠ N := ne_of_none h.hd hN
  have st : ∀ b o, b ≠ d → H b = some o → upd (upd H N (.lst [])) d (.ins r.c dx (dF S' T AA N)) b = some o := fun b o n e => by
    rw [upd_ne n, upd_ne (ne_of_none e hN)]
    exact e
  have dif : ∀ {b : Addr} {o : HO}, H b = some o → (∀ C dx fs, o ≠ .ins C dx fs) → b ≠ d := fun {b o} e n z => by
    rw [z, h.hd] at e
    cases e
    exact n _ _ _ rfl
  have eN : upd (upd H N (.lst [])) d (.ins r.c dx (dF S' T AA N)) N = some (.lst []) := by
    rw [upd_ne (Ne.symm dN)]
    exact upd_same
  refine ⟨upd_same, by rw [ek]; exact st _ _ (dif h.t fun _ _ _ => by simp) h.t, st _ _ (dif h.aa fun _ _ _ => by simp) h.aa, by rw [e0]; exact st _ _ (dif h.a0 fun _ _ _ => by simp) h.a0, by rw [e1]; exact st _ _ (dif h.a1 fun _ _ _ => by simp) h.a1, eN, by rw [eo]; exact .nil,
    .inl h.fd, .inl h.ft, .inl h.faa, .inl h.fa0, .inl h.fa1, .inr rfl, h.n01, ne_of_none h.a0 hN, ne_of_none h.a1 hN, h.na0, h.na1, ne_of_none h.aa hN, fun b hb => ?_⟩
  rcases hb with hb | rfl
  · by_cases c : b = d
    · exact ⟨_, by rw [c]; exact upd_same⟩
    · obtain ⟨o, e⟩ := h.al b hb
      exact ⟨o, st _ _ c e⟩
  · exact ⟨_, eN⟩
theorem upd_upd (H : Hp) (a : Addr) (o o' : HO) : upd (upd H a o) a o' = upd H a o' := by
  funext b
  by_cases c : b = a
  · rw [c, upd_same, upd_same]
  · rw [upd_ne c, upd_ne c, upd_ne c]
def DS.soft (S : DS) : Bool := S.op.any fun q => decide (q.1 = S.side) && decide (q.2.1 = 0)
def pieceT (g k : Int) (t : Str) : Str := (((((Str.empty ++ "piece ") ++ toString g) ++ " ") ++ toString k) ++ " ") ++ t
def headT (g k : Int) : Str := (((Str.empty ++ "head ") ++ toString g) ++ " ") ++ toString k
def rowT (g k f : Int) (t : Str) : Str := (((((((Str.empty ++ "row ") ++ toString g) ++ " ") ++ toString k) ++ " ") ++ toString f) ++ " ") ++ t
/-- the writes of a table's pieces -/
def fresh (sd g : Int) (ps : List Str) (n : Nat) : List Op := (List.range n).map fun i : Nat => (sd, (i : Int) + 1, pieceT g ((i : Int) + 1) (ps.getD i ""))
def DS.turn (S : DS) (ps : List Str) : DS := { S with side := 1 - S.side, gen := S.gen + 1, pcs := ps.length, cnt := 0 }
def DS.check (S : DS) (hard : Bool) : DS :=
  let S1 := if S.soft = true then S.sync else S
  let ps := cutT (textOf S1.kv)
  let S2 := S1.turn ps
  let S4 := { S2 with op := S1.op ++ fresh S2.side S2.gen ps ps.length ++ [(S2.side, 0, headT S2.gen ps.length)] }
  if hard = true then S4.sync else S4
theorem glue_size : ∀ (l : List Str) (a : Array Nat), (l.foldl (fun acc p => acc ++ ("" : Str).cps ++ p.cps) a).size = a.size + (l.map (·.length)).sum
  | [], a => by simp
  | p :: l, a => by
    rw [List.foldl_cons, glue_size l, List.map_cons, List.sum_cons]
    have e : (a ++ ("" : Str).cps ++ p.cps).size = a.size + p.length := by
      rw [Array.size_append, Array.size_append]
      show a.size + 0 + p.cps.size = a.size + p.cps.size
      omega
    rw [e]
    omega
theorem join_len (l : List Str) : (Txt.join "" l).length = (l.map (·.length)).sum := by
  show (Builtin.Str.glued "" l).cps.size = _
  unfold Builtin.Str.glued
  cases l with
  | nil => rfl
  | cons p l =>
    show ((l.foldl (fun acc p => acc ++ ("" : Str).cps ++ p.cps) p.cps).size) = _
    rw [glue_size, List.map_cons, List.sum_cons]
    rfl
theorem text_len {kv : List (Key × V)} (t : Tab kv) : (textOf kv).length ≤ 71000 := by
  unfold textOf
  rw [join_len]
  have bd : ∀ y ∈ (partsOf kv).map (·.length), y ≤ 1102 := fun y hy => by
    obtain ⟨q, hq, rfl⟩ := List.mem_map.mp hy
    unfold partsOf at hq
    obtain ⟨z, hz, rfl⟩ := List.mem_map.mp hq
    have zm := (srt_perm _).mem_iff.mp hz
    obtain ⟨v, hv, vv⟩ := t.at_ zm
    rw [hv]
    exact piece_len (t.ks z zm) vv
  have sb := sum_bd bd
  have pl : (partsOf kv).length = kv.length := by unfold partsOf; rw [List.length_map, (srt_perm _).length_eq, keysOf_len t]
  have fw := t.few
  rw [List.length_map] at sb
  omega
theorem cutT_len (z : Str) : (cutT z).length = nCut z := by unfold cutT; rw [List.length_map, List.length_range]
theorem cutS_len (z : Str) (a b : Option Int) : (cutS z a b).length ≤ z.length := by
  show ((z.cps.toList.drop _).take _).toArray.size ≤ z.cps.size
  rw [List.size_toArray, List.length_take, List.length_drop, Array.length_toList]
  omega
theorem cutT_mem {z t : Str} (h : t ∈ cutT z) : t.length ≤ z.length := by
  unfold cutT at h
  obtain ⟨i, _, rfl⟩ := List.mem_map.mp h
  exact cutS_len _ _ _
theorem int_len {i : Int} (h0 : -1000000 ≤ i) (h1 : i ≤ 1000000) : (PySem.Str.ofString (toString i)).length ≤ 1921 := PyProof.Rows.int_text_len_1921 (log_small h0 h1)
/-- what the law's deeds keep -/
structure DSok (S : DS) : Prop where
  fal : S.fal = false
  tab : Tab S.kv
  sz : S.m0.length + S.m1.length + S.op.length ≤ 500000
  ar : ∀ q ∈ S.op, (q.1 = 0 ∨ q.1 = 1) ∧ 0 ≤ q.2.1 ∧ q.2.1 ≤ 500000
  side : S.side = 0 ∨ S.side = 1
  gen : 0 ≤ S.gen ∧ S.gen ≤ 500000
  pcs : 0 ≤ S.pcs ∧ S.pcs ≤ 100000
  cnt : 0 ≤ S.cnt ∧ S.cnt ≤ 100000
theorem DSok.ops {S : DS} (h : DSok S) : S.op.length ≤ 500000 := by have := h.sz; omega
theorem DSok.op {S : DS} (h : DSok S) : OpsOk S := ⟨h.fal, by have := h.sz; omega, fun q hq => ⟨(h.ar q hq).1, (h.ar q hq).2.1, by have := (h.ar q hq).2.2; omega⟩⟩
theorem keep_fal (S : DS) (q : Op) : (S.keep q).fal = S.fal := by
  unfold DS.keep
  split <;> rfl
theorem fold_fal : ∀ (l : List Op) (S : DS), (l.foldl DS.keep S).fal = S.fal
  | [], _ => rfl
  | q :: l, S => (fold_fal l (S.keep q)).trans (keep_fal S q)
theorem sync_fal (S : DS) : S.sync.fal = S.fal := by
  unfold DS.sync
  split
  · rfl
  · exact fold_fal S.op S
theorem sync_same (S : DS) : S.sync.kv = S.kv ∧ S.sync.side = S.side ∧ S.sync.gen = S.gen ∧ S.sync.op = [] ∧ S.sync.most = S.most ∧ S.sync.pcs = S.pcs ∧ S.sync.cnt = S.cnt := by
  unfold DS.sync
  by_cases c : S.op = []
  · rw [if_pos c]
    exact ⟨rfl, rfl, rfl, c, rfl, rfl, rfl⟩
  · rw [if_neg c]
    obtain ⟨f1, f2, f3, f4, f5, f6, f7, f8⟩ := fold_same S.op S
    exact ⟨f1, f4, f5, rfl, f3, f6, f7⟩
theorem putK_le' (kv : List (Key × V)) (k : Key) (v : V) : (putK kv k v).length ≤ kv.length + 1 := by
  unfold putK
  split
  · rw [List.length_map]
    omega
  · rw [List.length_append]
    exact Nat.le_refl _
theorem keep_sz (S : DS) (q : Op) : (S.keep q).m0.length + (S.keep q).m1.length ≤ S.m0.length + S.m1.length + 1 := by
  unfold DS.keep
  split
  · have := putK_le' S.m0 (.inl q.2.1) (.str q.2.2)
    show (putK S.m0 (.inl q.2.1) (.str q.2.2)).length + S.m1.length ≤ _
    omega
  · have := putK_le' S.m1 (.inl q.2.1) (.str q.2.2)
    show S.m0.length + (putK S.m1 (.inl q.2.1) (.str q.2.2)).length ≤ _
    omega
theorem fold_sz : ∀ (l : List Op) (S : DS), (l.foldl DS.keep S).m0.length + (l.foldl DS.keep S).m1.length ≤ S.m0.length + S.m1.length + l.length
  | [], _ => Nat.le_refl _
  | q :: l, S => by
    have := fold_sz l (S.keep q)
    have := keep_sz S q
    show (l.foldl DS.keep (S.keep q)).m0.length + (l.foldl DS.keep (S.keep q)).m1.length ≤ S.m0.length + S.m1.length + (l.length + 1)
    omega
theorem sync_sz (S : DS) : S.sync.m0.length + S.sync.m1.length ≤ S.m0.length + S.m1.length + S.op.length := by
  unfold DS.sync
  by_cases c : S.op = []
  · rw [if_pos c]
    omega
  · rw [if_neg c]
    exact fold_sz S.op S
theorem DSok.sync {S : DS} (h : DSok S) : DSok S.sync := by
  obtain ⟨e1, e2, e3, e4, e5, e6, e7⟩ := sync_same S
  exact ⟨(sync_fal S).trans h.fal, by rw [e1]; exact h.tab, by have := sync_sz S; have := h.sz; rw [e4]; show _ + 0 ≤ _; omega, (fun q hq => by rw [e4] at hq; cases hq), by rw [e2]; exact h.side, by rw [e3]; exact h.gen, by rw [e6]; exact h.pcs, by rw [e7]; exact h.cnt⟩
theorem Chg.same {r : Ar} {F : Addr → Prop} {H H1 H2 : Hp} {d : Addr} {S : DS} (c : Chg r F H H1 d S) (s : Same H1 H2) : Chg r F H H2 d S := by
  obtain ⟨F1, k, h, f⟩ := c
  exact ⟨F1, k.trans (KpF.same s), h.same s, f⟩
/-- the fields of the disk are stored -/
theorem DiskX.turn {r : Ar} {F : Addr → Prop} {H : Hp} {d : Addr} {S S' : DS} {dx T AA A0 A1 U : Addr} {ts : List Addr} (h : DiskX r F H d S dx T AA A0 A1 U ts) (e0 : S'.m0 = S.m0) (e1 : S'.m1 = S.m1) (ek : S'.kv = S.kv) (eo : S'.op = S.op) :
    DiskX r F (upd H d (.ins r.c dx (dF S' T AA U))) d S' dx T AA A0 A1 U ts := by
  have dif : ∀ {b : Addr} {o : HO}, H b = some o → (∀ C dx fs, o ≠ .ins C dx fs) → upd H d (.ins r.c dx (dF S' T AA U)) b = some o := fun {b o} e n => by
    rw [upd_ne (fun z => by rw [z, h.hd] at e; cases e; exact n _ _ _ rfl)]
    exact e
  refine ⟨upd_same, by rw [ek]; exact dif h.t fun _ _ _ => by simp, dif h.aa fun _ _ _ => by simp, by rw [e0]; exact dif h.a0 fun _ _ _ => by simp, by rw [e1]; exact dif h.a1 fun _ _ _ => by simp, dif h.u fun _ _ _ => by simp, by rw [eo]; exact h.op.mono' fun t q z => ⟨z.1, dif z.2 fun _ _ _ => by simp⟩,
    h.fd, h.ft, h.faa, h.fa0, h.fa1, h.fu, h.n01, h.n0u, h.n1u, h.na0, h.na1, h.nau, fun b hb => ?_⟩
  by_cases c : b = d
  · exact ⟨_, by rw [c]; exact upd_same⟩
  · obtain ⟨o, e⟩ := h.al b hb
    exact ⟨o, (upd_ne c).trans e⟩
theorem dec_int (a b : Int) : decide (V.int a = V.int b) = decide (a = b) := decide_eq_decide.mpr ⟨V.int.inj, congrArg _⟩
theorem fresh_len (sd g : Int) (ps : List Str) (n : Nat) : (fresh sd g ps n).length = n := by unfold fresh; rw [List.length_map, List.length_range]
theorem fresh_succ {sd g : Int} {ps : List Str} {i : Nat} {l : List Op} (h : i < ps.length) : l ++ fresh sd g ps i ++ [(sd, (i : Int) + 1, pieceT g ((i : Int) + 1) ps[i])] = l ++ fresh sd g ps (i + 1) := by
  have e : ps.getD i "" = ps[i] := by rw [List.getD_eq_getElem?_getD, List.getElem?_eq_getElem h]; rfl
  unfold fresh
  rw [List.range_succ, List.map_append, ← List.append_assoc, ← e]
  rfl
/-! ### changes of a table -/
def stepK (kv : List (Key × V)) (p : Key × V) : List (Key × V) := if p.2 = .non then dropK kv p.1 else putK kv p.1 p.2
def applyK (kv ch : List (Key × V)) : List (Key × V) := ch.foldl stepK kv
theorem dropK_none {kv : List (Key × V)} {k : Key} (h : valV kv k = none) : dropK kv k = kv := by
  unfold dropK
  rw [List.filter_eq_self]
  intro p hp
  refine decide_eq_true fun e => ?_
  obtain ⟨v, hv⟩ := valV_has hp
  rw [e, h] at hv
  cases hv
theorem putK_le (kv : List (Key × V)) (k : Key) (v : V) : (putK kv k v).length ≤ kv.length + 1 := by
  unfold putK
  split
  · rw [List.length_map]
    omega
  · rw [List.length_append]
    exact Nat.le_refl _
theorem stepK_le (kv : List (Key × V)) (p : Key × V) : (stepK kv p).length ≤ kv.length + 1 := by
  unfold stepK
  split
  · have := dropK_le kv p.1
    omega
  · exact putK_le _ _ _
theorem applyK_le : ∀ (ch kv : List (Key × V)), (applyK kv ch).length ≤ kv.length + ch.length
  | [], kv => Nat.le_refl _
  | p :: ch, kv => by
    have := applyK_le ch (stepK kv p)
    have := stepK_le kv p
    show (applyK (stepK kv p) ch).length ≤ kv.length + (ch.length + 1)
    omega
theorem applyK_succ {kv ch : List (Key × V)} {i : Nat} {p : Key × V} (h : ch[i]? = some p) : applyK kv (ch.take (i + 1)) = stepK (applyK kv (ch.take i)) p := by
  unfold applyK
  rw [List.take_add_one, h, List.foldl_append]
  rfl
def rows (sd g pc n0 : Int) (ps : List Str) (n : Nat) : List Op := (List.range n).map fun i : Nat => (sd, pc + (n0 + (i : Int) + 1), rowT g (n0 + (i : Int) + 1) (ps.length - i - 1) (ps.getD i ""))
def DS.write (S : DS) (ch : List (Key × V)) : DS :=
  if ch = [] then S else
  let ps := cutT (textOf ch)
  let S1 := if S.cnt > 0 ∧ S.cnt + ps.length > S.most then S.check true else S
  { S1 with op := S1.op ++ rows S1.side S1.gen S1.pcs S1.cnt ps ps.length, cnt := S1.cnt + ps.length, kv := applyK S1.kv ch }
theorem check_same (S : DS) : (S.check true).kv = S.kv ∧ (S.check true).op = [] ∧ (S.check true).gen = S.gen + 1 ∧ (S.check true).cnt = 0 ∧ (S.check true).pcs = ((cutT (textOf S.kv)).length : Int) ∧ (S.check true).side = 1 - S.side ∧ (S.check true).most = S.most := by
  have e : ∀ S1 : DS, S1.kv = S.kv → S1.gen = S.gen → S1.side = S.side → S1.most = S.most → ∀ S4 : DS, S4 = { S1.turn (cutT (textOf S1.kv)) with op := S1.op ++ fresh (S1.turn (cutT (textOf S1.kv))).side (S1.turn (cutT (textOf S1.kv))).gen (cutT (textOf S1.kv)) (cutT (textOf S1.kv)).length ++ [((S1.turn (cutT (textOf S1.kv))).side, 0, headT (S1.turn (cutT (textOf S1.kv))).gen (cutT (textOf S1.kv)).length)] } → S4.sync.kv = S.kv ∧ S4.sync.op = [] ∧ S4.sync.gen = S.gen + 1 ∧ S4.sync.cnt = 0 ∧ S4.sync.pcs = ((cutT (textOf S.kv)).length : Int) ∧ S4.sync.side = 1 - S.side ∧ S4.sync.most = S.most := by
    intro S1 a1 a2 a3 a4 S4 h4
    obtain ⟨b1, b2, b3, b4, b5, b6, b7⟩ := sync_same S4
    rw [b1, b2, b3, b4, b5, b6, b7, h4]
    exact ⟨a1, rfl, by show S1.gen + 1 = S.gen + 1; rw [a2], rfl, by show ((cutT (textOf S1.kv)).length : Int) = _; rw [a1], by show 1 - S1.side = 1 - S.side; rw [a3], a4⟩
  unfold DS.check
  by_cases c : S.soft = true
  · rw [if_pos c, if_pos rfl]
    obtain ⟨b1, b2, b3, b4, b5, b6, b7⟩ := sync_same S
    exact e S.sync b1 b3 b2 b5 _ rfl
  · rw [if_neg c, if_pos rfl]
    exact e S rfl rfl rfl rfl _ rfl
theorem rows_len (sd g pc n0 : Int) (ps : List Str) (n : Nat) : (rows sd g pc n0 ps n).length = n := by unfold rows; rw [List.length_map, List.length_range]
theorem rows_succ {sd g pc n0 : Int} {ps : List Str} {i : Nat} {l : List Op} (h : i < ps.length) : l ++ rows sd g pc n0 ps i ++ [(sd, pc + (n0 + (i : Int) + 1), rowT g (n0 + (i : Int) + 1) ((ps.length : Int) - i - 1) ps[i])] = l ++ rows sd g pc n0 ps (i + 1) := by
  have e : ps.getD i "" = ps[i] := by rw [List.getD_eq_getElem?_getD, List.getElem?_eq_getElem h]; rfl
  unfold rows
  rw [List.range_succ, List.map_append, ← List.append_assoc, ← e]
  rfl
theorem DiskX.tabl {r : Ar} {F : Addr → Prop} {H H' : Hp} {d : Addr} {S : DS} {dx T AA A0 A1 U : Addr} {ts : List Addr} (h : DiskX r F H d S dx T AA A0 A1 U ts) (k : KpF (· = T) H H') {kv : List (Key × V)} (e : H' T = some (.dK kv)) : DiskX r F H' d { S with kv := kv } dx T AA A0 A1 U ts := by
  have dif : ∀ {b : Addr} {o : HO}, H b = some o → (∀ xs, o ≠ .dK xs) → H' b = some o := fun {b o} e n => k _ _ (fun z => by
    rw [z, h.t] at e
    cases e
    exact n _ rfl) e
  refine ⟨dif h.hd fun _ => by simp, e, dif h.aa fun _ => by simp, dif h.a0 fun _ => by simp, dif h.a1 fun _ => by simp, dif h.u fun _ => by simp, h.op.mono' fun t q z => ⟨z.1, dif z.2 fun _ => by simp⟩, h.fd, h.ft, h.faa, h.fa0, h.fa1, h.fu, h.n01, h.n0u, h.n1u, h.na0, h.na1, h.nau, fun b hb => ?_⟩
  by_cases c : b = T
  · exact ⟨_, by rw [c]; exact e⟩
  · obtain ⟨o, q⟩ := h.al b hb
    exact ⟨o, k _ _ c q⟩
/-- a table with its keys ascending -/
def srtK (kv : List (Key × V)) : List (Key × V) := (srt (keysOf kv)).map fun z => (.inr z, (valV kv (.inr z)).getD .non)
def rListK (K : PySem.W.Frag) : List V → Hp → VK → Prop := fun xs H Q => ∃ p ys, xs = [V.ref p] ∧ (SqL K H p ys ∨ SqT K H p ys) ∧ ∀ (l : Addr), H l = none → Q (V.ref l) (upd H l (HO.lst ys))
theorem Tab.ndk {kv : List (Key × V)} (t : Tab kv) : (srt (keysOf kv)).Nodup := by
  have h := t.nd
  rw [t.keys] at h
  refine (srt_perm _).nodup_iff.mpr (List.Pairwise.of_map (R := fun a b => a ≠ b) Sum.inr (fun a b z e => z (by rw [e])) h)
theorem srtK_step {kv : List (Key × V)} (t : Tab kv) {i : Nat} (hi : i < (srt (keysOf kv)).length) {v : V} (hv : valV kv (.inr (srt (keysOf kv))[i]) = some v) : putK ((srtK kv).take i) (.inr (srt (keysOf kv))[i]) v = (srtK kv).take (i + 1) := by
  have e : (srtK kv)[i]? = some (.inr (srt (keysOf kv))[i], v) := by
    unfold srtK
    rw [List.getElem?_map, List.getElem?_eq_getElem hi, Option.map_some, hv]
    rfl
  have no : valV ((srtK kv).take i) (.inr (srt (keysOf kv))[i]) = none := by
    cases q : valV ((srtK kv).take i) (.inr (srt (keysOf kv))[i]) with
    | none => rfl
    | some u =>
      obtain ⟨p, hp, e1, _⟩ := valV_mem q
      obtain ⟨j, hj⟩ := List.mem_iff_getElem?.mp hp
      rw [List.getElem?_take] at hj
      split at hj
      · next ji =>
        unfold srtK at hj
        have jl : j < (srt (keysOf kv)).length := by omega
        rw [List.getElem?_map, List.getElem?_eq_getElem jl] at hj
        cases hj
        have e1 : (srt (keysOf kv))[j] = (srt (keysOf kv))[i] := Sum.inr.inj e1
        exact absurd e1 (List.pairwise_iff_getElem.mp t.ndk j i jl hi ji)
      · cases hj
  rw [putK_new v no, List.take_add_one, e]
  rfl
theorem dc_it {J : It} {n : Nat} {G : Hp → Prop} {Y : Nat → Hp → V → Hp → Prop} (w : Walk J n G Y) {g : TG} {tt : TT} {tk tv : TE} {vs : List Nat} {σ : St} {H1 : Hp} {D : Addr} {Qd : Hp → Prop} (Pv : Nat → Hp → Prop) (h0 : Pv 0 (upd H1 D (.dK []))) (hG : ∀ i H, i ≤ n → Pv i H → G H)
    (hs : ∀ i x H H', i < n → Pv i H → Y i H x H' → g x (wipe σ vs) H' fun σ2 H2 => wipe σ2 vs = wipe σ vs ∧ tt σ2 H2 fun b H3 =>
      if b = true then tk σ2 H3 fun y H4 => tv σ2 H4 fun z H5 => ∃ kvs k, y = kV k ∧ H5 D = some (.dK kvs) ∧ kvs.length < sizeLine ∧ Pv (i + 1) (upd H5 D (.dK (putK kvs k z))) else Pv (i + 1) H3) (hd : ∀ H, Pv n H → Qd H) :
    ∃ W : Nat → Nat → Hp → Prop, (∃ m, W 0 m (upd H1 D (.dK []))) ∧ ∀ i m H, W i m H →
      (J.stop i H ∧ Qd H) ∨ (J.go i H ∧ ∃ Nx : Hp → Prop, (∀ H', Nx H' → ∃ m', m' < m ∧ W (i + 1) m' H') ∧ ∀ x H', J.yld i H x H' → g x (wipe σ vs) H' fun σ2 H2 => wipe σ2 vs = wipe σ vs ∧ tt σ2 H2 fun b H3 =>
        if b = true then tk σ2 H3 fun y H4 => tv σ2 H4 fun z H5 => ∃ kvs k, y = kV k ∧ H5 D = some (.dK kvs) ∧ kvs.length < sizeLine ∧ Nx (upd H5 D (.dK (putK kvs k z))) else Nx H3) := by
  refine ⟨fun i m H => m = n - i ∧ i ≤ n ∧ Pv i H, ⟨n, by simp, Nat.zero_le _, h0⟩, ?_⟩
  rintro i m H ⟨rfl, hi, p⟩
  have q := hG i H hi p
  by_cases hlt : i < n
  · refine .inr ⟨w.goes i H hlt q, Pv (i + 1), fun H' p' => ⟨n - (i + 1), by omega, rfl, hlt, p'⟩, fun x H' y => hs i x H H' hlt p (w.yields i H x H' hlt q y)⟩
  · have e : i = n := by omega
    subst e
    exact .inl ⟨w.stops H q, hd H p⟩
theorem valV_nd : ∀ {kv : List (Key × V)}, (kv.map (·.1)).Nodup → ∀ {i : Nat} (hi : i < kv.length), valV kv kv[i].1 = some kv[i].2
  | [], _, i, hi => absurd hi (Nat.not_lt_zero _)
  | p :: r, nd, 0, hi => valV_pos rfl
  | p :: r, nd, i + 1, hi => by
    have nd' : (p.1 :: r.map (·.1)).Nodup := nd
    rw [List.nodup_cons] at nd'
    have hi' : i < r.length := by simpa using hi
    show valV (p :: r) r[i].1 = some r[i].2
    rw [valV_neg fun e => nd'.1 (by rw [e]; exact List.mem_map.mpr ⟨_, List.getElem_mem hi', rfl⟩)]
    exact valV_nd nd'.2 hi'
theorem take_put {kv : List (Key × V)} (nd : (kv.map (·.1)).Nodup) {i : Nat} (hi : i < kv.length) : putK (kv.take i) kv[i].1 kv[i].2 = kv.take (i + 1) := by
  have no : valV (kv.take i) kv[i].1 = none := by
    cases q : valV (kv.take i) kv[i].1 with
    | none => rfl
    | some u =>
      obtain ⟨p, hp, e1, _⟩ := valV_mem q
      obtain ⟨j, hj⟩ := List.mem_iff_getElem?.mp hp
      rw [List.getElem?_take] at hj
      split at hj
      · next ji =>
        have jl : j < kv.length := by omega
        rw [List.getElem?_eq_getElem jl] at hj
        cases hj
        have z := List.pairwise_iff_getElem.mp nd j i (by rw [List.length_map]; exact jl) (by rw [List.length_map]; exact hi) ji
        rw [List.getElem_map, List.getElem_map] at z
        exact absurd e1 z
      · cases hj
  rw [putK_new _ no, List.take_add_one, List.getElem?_eq_getElem hi]
  rfl
/-! ### the law's own disk -/
def kS (z : Str) : Key := .inr z
def oF (S : DS) (soft : Bool) (sh hd op : Addr) : List (Key × V) := [(kS "shelf", .ref sh), (kS "most", .int S.most), (kS "side", .int S.side), (kS "gen", .int S.gen), (kS "pieces", .int S.pcs), (kS "count", .int S.cnt), (kS "soft", .bl soft), (kS "hard", .ref hd), (kS "open", .ref op), (kS "syncs", .int S.syn)]
/-- the law's own disk at o: F may change, N never does -/
structure OwnX (F N : Addr → Prop) (H : Hp) (o : Addr) (S : DS) (sh hd C0 C1 op : Addr) (ts : List Addr) : Prop where
  eo : H o = some (.dK (oF S S.soft sh hd op))
  es : H sh = some (.dK S.kv)
  eh : H hd = some (.lst [.ref C0, .ref C1])
  e0 : H C0 = some (.dK S.m0)
  e1 : H C1 = some (.dK S.m1)
  ep : H op = some (.lst (ts.map V.ref))
  ops : Ops N H ts S.op
  fo : F o
  fs : F sh
  f0 : F C0
  f1 : F C1
  nh : N hd
  np : N op
  os : o ≠ sh
  o0 : o ≠ C0
  o1 : o ≠ C1
  s0 : sh ≠ C0
  s1 : sh ≠ C1
  c01 : C0 ≠ C1
  al : ∀ b, F b ∨ N b → ∃ u, H b = some u
  di : ∀ b, F b → ¬ N b
def OwnAt (F N : Addr → Prop) (H : Hp) (o : Addr) (S : DS) : Prop := ∃ (sh hd C0 C1 op : Addr) (ts : List Addr), OwnX F N H o S sh hd C0 C1 op ts
theorem OwnX.kp {F N G : Addr → Prop} {H H' : Hp} {o : Addr} {S : DS} {sh hd C0 C1 op : Addr} {ts : List Addr} (h : OwnX F N H o S sh hd C0 C1 op ts) (k : KpF G H H') (n1 : ∀ b, F b → ¬ G b) (n2 : ∀ b, N b → ¬ G b) : OwnX F N H' o S sh hd C0 C1 op ts :=
  ⟨k _ _ (n1 _ h.fo) h.eo, k _ _ (n1 _ h.fs) h.es, k _ _ (n2 _ h.nh) h.eh, k _ _ (n1 _ h.f0) h.e0, k _ _ (n1 _ h.f1) h.e1, k _ _ (n2 _ h.np) h.ep, h.ops.mono' fun _ _ z => ⟨z.1, k _ _ (n2 _ z.1) z.2⟩, h.fo, h.fs, h.f0, h.f1, h.nh, h.np, h.os, h.o0, h.o1, h.s0, h.s1, h.c01, fun b hb => by
    obtain ⟨u, e⟩ := h.al b hb
    exact ⟨u, k _ _ (hb.elim (n1 b) (n2 b)) e⟩, h.di⟩
theorem OwnX.same {F N : Addr → Prop} {H H' : Hp} {o : Addr} {S : DS} {sh hd C0 C1 op : Addr} {ts : List Addr} (h : OwnX F N H o S sh hd C0 C1 op ts) (k : Same H H') : OwnX F N H' o S sh hd C0 C1 op ts := h.kp (G := fun _ => False) (KpF.same k) (fun _ _ z => z) fun _ _ z => z
/-- behind a deed on the law's own disk: what may change is the same, what is new never changes -/
def ChgO (F N : Addr → Prop) (H H' : Hp) (o : Addr) (S' : DS) : Prop := ∃ N', KpF F H H' ∧ OwnAt F N' H' o S' ∧ ∀ b, N' b → N b ∨ H b = none
theorem ChgO.then {F N N1 : Addr → Prop} {H H1 H2 : Hp} {o : Addr} {S2 : DS} (k : KpF F H H1) (al : ∀ b, F b → ∃ u, H b = some u) (f : ∀ b, N1 b → N b ∨ H b = none) (b : ChgO F N1 H1 H2 o S2) : ChgO F N H H2 o S2 := by
  obtain ⟨N2, k2, h2, f2⟩ := b
  refine ⟨N2, k.trans k2, h2, fun b z => ?_⟩
  rcases f2 b z with z' | z'
  · exact f b z'
  · refine .inr ?_
    cases e : H b with
    | none => rfl
    | some u =>
      by_cases c : F b
      · obtain ⟨_, _, _, _, _, _, h2⟩ := h2
        exact absurd z (h2.di b c)
      · rw [k b u c e] at z'
        cases z'
theorem OwnX.head {F N : Addr → Prop} {H H' : Hp} {o : Addr} {S S' : DS} {sh hd C0 C1 op : Addr} {ts : List Addr} (h : OwnX F N H o S sh hd C0 C1 op ts) (k : KpF (· = o) H H') (e : H' o = some (.dK (oF S' S'.soft sh hd op))) (ek : S'.kv = S.kv) (e0 : S'.m0 = S.m0) (e1 : S'.m1 = S.m1) (eo : S'.op = S.op) :
    OwnX F N H' o S' sh hd C0 C1 op ts := by
  have no : ∀ b, N b → b ≠ o := fun b z q => h.di o h.fo (q ▸ z)
  refine ⟨e, by rw [ek]; exact k _ _ (Ne.symm h.os) h.es, k _ _ (no _ h.nh) h.eh, by rw [e0]; exact k _ _ (Ne.symm h.o0) h.e0, by rw [e1]; exact k _ _ (Ne.symm h.o1) h.e1, k _ _ (no _ h.np) h.ep, by rw [eo]; exact h.ops.mono' fun t q z => ⟨z.1, k _ _ (no _ z.1) z.2⟩,
    h.fo, h.fs, h.f0, h.f1, h.nh, h.np, h.os, h.o0, h.o1, h.s0, h.s1, h.c01, fun b hb => ?_, h.di⟩
  by_cases c : b = o
  · exact ⟨_, by rw [c]; exact e⟩
  · obtain ⟨u, q⟩ := h.al b hb
    exact ⟨u, k _ _ c q⟩
/-- the cells have changed, the open writes stand in a new list -/
theorem OwnX.fin {F N : Addr → Prop} {H H2 : Hp} {o : Addr} {S S' : DS} {sh hd C0 C1 op L : Addr} {ts ns : List Addr} {os : List V} (h : OwnX F N H o S sh hd C0 C1 op ts) (k : KpF (fun b => b = C0 ∨ b = C1) H H2) (e0 : H2 C0 = some (.dK S'.m0)) (e1 : H2 C1 = some (.dK S'.m1)) (hL : H2 L = none) (ek : S'.kv = S.kv) (hos : os = ns.map V.ref) (hop : Ops N H2 ns S'.op) :
    OwnX F (fun b => N b ∨ b = L) (upd (upd H2 L (.lst os)) o (.dK (oF S' S'.soft sh hd L))) o S' sh hd C0 C1 L ns := by
  subst hos
  have nc : ∀ b, N b → ¬ (b = C0 ∨ b = C1) := fun b z q => q.elim (fun w => h.di C0 h.f0 (w ▸ z)) fun w => h.di C1 h.f1 (w ▸ z)
  have no : ∀ b, N b → b ≠ o := fun b z q => h.di o h.fo (q ▸ z)
  have oL : o ≠ L := ne_of_none (k _ _ (fun q => q.elim h.o0 h.o1) h.eo) hL
  have st : ∀ b u, b ≠ o → H2 b = some u → upd (upd H2 L (.lst (ns.map V.ref))) o (.dK (oF S' S'.soft sh hd L)) b = some u := fun b u n e => by
    rw [upd_ne n, upd_ne (ne_of_none e hL)]
    exact e
  have eL : upd (upd H2 L (.lst (ns.map V.ref))) o (.dK (oF S' S'.soft sh hd L)) L = some (.lst (ns.map V.ref)) := by
    rw [upd_ne (Ne.symm oL)]
    exact upd_same
  refine ⟨upd_same, by rw [ek]; exact st _ _ (Ne.symm h.os) (k _ _ (fun q => q.elim h.s0 h.s1) h.es), st _ _ (no _ h.nh) (k _ _ (nc _ h.nh) h.eh), st _ _ (Ne.symm h.o0) e0, st _ _ (Ne.symm h.o1) e1, eL, hop.mono' fun t q z => ⟨.inl z.1, st _ _ (no _ z.1) z.2⟩,
    h.fo, h.fs, h.f0, h.f1, .inl h.nh, .inr rfl, h.os, h.o0, h.o1, h.s0, h.s1, h.c01, fun b hb => ?_, fun b hb hn => ?_⟩
  · by_cases c : b = o
    · exact ⟨_, by rw [c]; exact upd_same⟩
    · by_cases cL : b = L
      · exact ⟨_, by rw [cL]; exact eL⟩
      · by_cases c0 : b = C0
        · exact ⟨_, by rw [c0]; exact st _ _ (Ne.symm h.o0) e0⟩
        · by_cases c1 : b = C1
          · exact ⟨_, by rw [c1]; exact st _ _ (Ne.symm h.o1) e1⟩
          · obtain ⟨u, q⟩ := h.al b (by
              rcases hb with hb | hb | hb
              · exact .inl hb
              · exact .inr hb
              · exact absurd hb cL)
            exact ⟨u, st _ _ c (k _ _ (fun q => q.elim c0 c1) q)⟩
  · rcases hn with hn | rfl
    · exact h.di b hb hn
    · obtain ⟨u, q⟩ := h.al b (.inl hb)
      by_cases c0 : b = C0
      · rw [c0, e0] at hL
        cases hL
      · by_cases c1 : b = C1
        · rw [c1, e1] at hL
          cases hL
        · rw [k _ _ (fun q => q.elim c0 c1) q] at hL
          cases hL
theorem sync_eq (S : DS) {sy : Int} (h : sy = if S.op = [] then S.syn else S.syn + 1) : S.sync = { S.op.foldl DS.keep S with op := [], syn := sy } := by
  unfold DS.sync
  by_cases c : S.op = []
  · rw [if_pos c] at h ⊢
    rw [h]
    cases S with
    | mk kv m0 m1 op most side gen pcs cnt syn fal =>
      have c : op = [] := c
      subst c
      rfl
  · rw [if_neg c] at h ⊢
    rw [h]
theorem keep_0 {S : DS} {q : Op} (h : q.1 = 0) : S.keep q = { S with m0 := putK S.m0 (.inl q.2.1) (.str q.2.2) } := by unfold DS.keep; rw [if_pos h]
theorem keep_1 {S : DS} {q : Op} (h : ¬ q.1 = 0) : S.keep q = { S with m1 := putK S.m1 (.inl q.2.1) (.str q.2.2) } := by unfold DS.keep; rw [if_neg h]
theorem OwnX.wide {F N Z : Addr → Prop} {H : Hp} {o : Addr} {S : DS} {sh hd C0 C1 op : Addr} {ts : List Addr} (h : OwnX F N H o S sh hd C0 C1 op ts) (hz : ∀ b, Z b → ∃ u, H b = some u) (hd' : ∀ b, F b → ¬ Z b) : OwnX F (fun b => N b ∨ Z b) H o S sh hd C0 C1 op ts :=
  ⟨h.eo, h.es, h.eh, h.e0, h.e1, h.ep, h.ops.mono' fun _ _ z => ⟨.inl z.1, z.2⟩, h.fo, h.fs, h.f0, h.f1, .inl h.nh, .inl h.np, h.os, h.o0, h.o1, h.s0, h.s1, h.c01, fun b hb => by
    rcases hb with hb | hb | hb
    · exact h.al b (.inl hb)
    · exact h.al b (.inr hb)
    · exact hz b hb, fun b hb q => q.elim (h.di b hb) (hd' b hb)⟩
theorem Ops.app {F : Addr → Prop} {H : Hp} : ∀ {ts us : List Addr} {a b : List Op}, Ops F H ts a → Ops F H us b → Ops F H (ts ++ us) (a ++ b)
  | _, _, _, _, .nil, h => h
  | _, _, _, _, .cons q p, h => .cons q (Ops.app p h)
theorem join5 (a b c d e : Str) : Txt.join " " [a, b, c, d, e] = ((((((((a ++ " ") ++ b) ++ " ") ++ c) ++ " ") ++ d) ++ " ") ++ e) := rfl
theorem row_eq (g k f : Int) (t : Str) : Txt.join " " ["row", Str.ofString (toString g), Str.ofString (toString k), Str.ofString (toString f), t] = rowT g k f t := by
  rw [join5]
  have e : ("row" : Str) ++ " " = Str.empty ++ "row " := by decide +kernel
  rw [e]
  rfl
theorem text_pos {kv : List (Key × V)} (t : Tab kv) (h : kv ≠ []) : 0 < (textOf kv).length := by
  unfold textOf
  rw [join_len]
  have pl : (partsOf kv).length = kv.length := by unfold partsOf; rw [List.length_map, (srt_perm _).length_eq, keysOf_len t]
  cases q : partsOf kv with
  | nil =>
    rw [q] at pl
    exact absurd (List.length_eq_zero_iff.mp pl.symm) h
  | cons x r =>
    have hx : x ∈ partsOf kv := by rw [q]; exact List.mem_cons_self ..
    unfold partsOf at hx
    obtain ⟨z, hz, rfl⟩ := List.mem_map.mp hx
    have l1 : 0 < (pieceOf z ((valV kv (.inr z)).getD .non)).length := by
      unfold pieceOf
      split
      · rw [len_app]
        have : (";" : Str).length = 1 := by decide +kernel
        omega
      · rw [len_app]
        have : ("!;" : Str).length = 2 := by decide +kernel
        omega
    rw [List.map_cons, List.sum_cons]
    omega
/-- the same deed, as the law does it -/
theorem write_eq (S : DS) {ch : List (Key × V)} (t : Tab ch) {ps : List Str} (hps : ps = cutT (textOf ch)) {S1 : DS} (h1 : S1 = if S.cnt > 0 ∧ ps ≠ [] ∧ S.cnt + ps.length > S.most then S.check true else S) :
    S.write ch = { S1 with op := S1.op ++ rows S1.side S1.gen S1.pcs S1.cnt ps ps.length, cnt := S1.cnt + ps.length, kv := applyK S1.kv ch } := by
  unfold DS.write
  by_cases c : ch = []
  · subst c
    have e : ps = [] := by
      rw [hps]
      rfl
    rw [if_pos rfl]
    rw [e, if_neg (fun z => z.2.1 rfl)] at h1
    rw [h1, e]
    cases S with
    | mk kv m0 m1 op most side gen pcs cnt syn fal =>
      show DS.mk kv m0 m1 op most side gen pcs cnt syn fal = DS.mk kv m0 m1 (op ++ []) most side gen pcs (cnt + 0) syn fal
      rw [List.append_nil, Int.add_zero]
  · rw [if_neg c]
    have ne : ps ≠ [] := fun e => by
      have tp := text_pos t c
      have := congrArg List.length e
      rw [hps, cutT_len] at this
      unfold nCut at this
      rw [if_pos tp] at this
      exact absurd this (by show ¬ _ + 1 = 0; omega)
    have cond : (S.cnt > 0 ∧ S.cnt + (cutT (textOf ch)).length > S.most) = (S.cnt > 0 ∧ ps ≠ [] ∧ S.cnt + ps.length > S.most) := by
      rw [hps] at ne ⊢
      exact propext ⟨fun z => ⟨z.1, ne, z.2⟩, fun z => ⟨z.1, z.2.2⟩⟩
    subst hps
    simp only [cond]
    rw [h1]
theorem OwnX.shelf {F N : Addr → Prop} {H H' : Hp} {o : Addr} {S : DS} {sh hd C0 C1 op : Addr} {ts : List Addr} (h : OwnX F N H o S sh hd C0 C1 op ts) (k : KpF (· = sh) H H') {kv : List (Key × V)} (e : H' sh = some (.dK kv)) : OwnX F N H' o { S with kv := kv } sh hd C0 C1 op ts := by
  have no : ∀ b, N b → b ≠ sh := fun b z q => h.di sh h.fs (q ▸ z)
  refine ⟨k _ _ h.os h.eo, e, k _ _ (no _ h.nh) h.eh, k _ _ (Ne.symm h.s0) h.e0, k _ _ (Ne.symm h.s1) h.e1, k _ _ (no _ h.np) h.ep, h.ops.mono' fun t q z => ⟨z.1, k _ _ (no _ z.1) z.2⟩, h.fo, h.fs, h.f0, h.f1, h.nh, h.np, h.os, h.o0, h.o1, h.s0, h.s1, h.c01, fun b hb => ?_, h.di⟩
  by_cases c : b = sh
  · exact ⟨_, by rw [c]; exact e⟩
  · obtain ⟨u, q⟩ := h.al b hb
    exact ⟨u, k _ _ c q⟩
/-- all but what is in F and the tables of code is as it was -/
def KpT (F : Addr → Prop) (H H' : Hp) : Prop := ∀ b o, ¬ F b → (∀ ps, o ≠ .tbl ps) → H b = some o → H' b = some o
theorem KpT.same {F : Addr → Prop} {H H' : Hp} (s : Same H H') : KpT F H H' := fun b o _ _ e => s b o e
theorem KpT.kp {F : Addr → Prop} {g : Addr} {H H' : Hp} (hg : F g) (k : Kp g H H') : KpT F H H' := fun b o n _ e => k b o (fun z => n (z ▸ hg)) e
theorem insN {C dx : Addr} {fs : List (Str × V)} : ∀ ps, HO.ins C dx fs ≠ .tbl ps := fun _ z => by cases z
theorem lstN {xs : List V} : ∀ ps, HO.lst xs ≠ .tbl ps := fun _ z => by cases z
theorem tupN {xs : List V} : ∀ ps, HO.tup xs ≠ .tbl ps := fun _ z => by cases z
def Sz : V → Prop
  | .int _ => True
  | .non => True
  | .bl _ => True
  | .str z => z.length ≤ 1000000
  | _ => False
theorem Sz.sc : ∀ {x : V}, Sz x → Sc x
  | .int _, _ => True.intro
  | .non, _ => True.intro
  | .bl _, _ => True.intro
  | .str _, _ => True.intro
/-- each value is the one of its key, flat or an object -/
def DkOk (ks : List (Key × V)) : Prop := ∀ p ∈ ks, valV ks p.1 = some p.2 ∧ (flatB p.2 = true ∨ ∃ a, p.2 = .ref a)
theorem dk0 : DkOk [] := fun p hp => by cases hp
theorem dk1 {k : Key} {v : V} (hv : flatB v = true ∨ ∃ a, v = .ref a) : DkOk (mergeK [] [(k, v)]) := fun p hp => by
  have e : mergeK [] [(k, v)] = [(k, v)] := rfl
  rw [e] at hp ⊢
  rw [List.mem_singleton] at hp
  rw [hp]
  refine ⟨?_, hv⟩
  unfold valV
  rw [List.find?_cons, decide_eq_true rfl]
  rfl
/-- data that is not in F: scalars, dicts, lists and tuples of such data, n deep -/
def Ov (F : Addr → Prop) (H : Hp) : Nat → V → Prop
  | 0, x => Sz x
  | n + 1, x => Sz x ∨ (∃ (p : Addr) (ks : List (Key × V)), x = .ref p ∧ ¬ F p ∧ H p = some (.dK ks) ∧ DkOk ks) ∨ ∃ (b : Bool) (p : Addr) (xs : List V), x = .ref p ∧ ¬ F p ∧ H p = some (mkO b xs) ∧ xs.length ≤ 1000000 ∧ ∀ u ∈ xs, Ov F H n u
theorem mkO_ne (b : Bool) (xs : List V) : ∀ ps, mkO b xs ≠ .tbl ps := fun ps z => by
  cases b with
  | true => cases (show HO.lst xs = .tbl ps from z)
  | false => cases (show HO.tup xs = .tbl ps from z)
theorem Ov.kp {F : Addr → Prop} {H H' : Hp} (k : KpT F H H') : ∀ {n : Nat} {x : V}, Ov F H n x → Ov F H' n x
  | 0, _, h => h
  | _ + 1, _, .inl h => .inl h
  | _ + 1, _, .inr (.inl ⟨p, ks, e, n, h, q⟩) => .inr (.inl ⟨p, ks, e, n, k _ _ n (fun _ z => by cases z) h, q⟩)
  | _ + 1, _, .inr (.inr ⟨b, p, xs, e, n, h, l, r⟩) => .inr (.inr ⟨b, p, xs, e, n, k _ _ n (mkO_ne b xs) h, l, fun u hu => (r u hu).kp k⟩)
theorem Ov.mono {F G : Addr → Prop} {H : Hp} (k : ∀ b, G b → F b) : ∀ {n : Nat} {x : V}, Ov F H n x → Ov G H n x
  | 0, _, h => h
  | _ + 1, _, .inl h => .inl h
  | _ + 1, _, .inr (.inl ⟨p, ks, e, n, h, q⟩) => .inr (.inl ⟨p, ks, e, fun z => n (k _ z), h, q⟩)
  | _ + 1, _, .inr (.inr ⟨b, p, xs, e, n, h, l, r⟩) => .inr (.inr ⟨b, p, xs, e, fun z => n (k _ z), h, l, fun u hu => (r u hu).mono k⟩)
theorem Ov.sz {F : Addr → Prop} {H : Hp} {x : V} (h : Sz x) : ∀ n, Ov F H n x
  | 0 => h
  | _ + 1 => .inl h
/-- by the mutation of a list in F nothing changes -/
theorem KpT.mut' {F : Addr → Prop} {H : Hp} {p : Addr} {o : HO} (h : F p) : KpT F H (L2.upd H p o) := fun b u n _ e => by
  rw [upd_ne (fun z => n (by rw [z]; exact h))]
  exact e
def isI : V → Bool
  | .int _ => true
  | .bl _ => true
  | _ => false
def isB : V → Bool
  | .bl _ => true
  | _ => false
def isS : V → Bool
  | .str _ => true
  | _ => false
/-- what isinstance says of such a value -/
theorem Ov.ty {K : PySem.W.Frag} {F : Addr → Prop} {H : Hp} {n : Nat} {x : V} (h : Ov F H n x) : ∃ t : String, TyX K H x (.type t) ∧ kitB t "int" = some (isI x) ∧ kitB t "bool" = some (isB x) ∧ kitB t "str" = some (isS x) ∧ t ∈ ["int", "bool", "str", "NoneType", "list", "tuple", "dict"] := by
  have sc : ∀ {x : V}, Sz x → ∃ t : String, TyX K H x (.type t) ∧ kitB t "int" = some (isI x) ∧ kitB t "bool" = some (isB x) ∧ kitB t "str" = some (isS x) ∧ t ∈ ["int", "bool", "str", "NoneType", "list", "tuple", "dict"] := fun {x} hs => by
    match x, hs with
    | .int i, _ => exact ⟨"int", .base (.int i), (show kitB "int" "int" = some true by decide +kernel), (show kitB "int" "bool" = some false by decide +kernel), (show kitB "int" "str" = some false by decide +kernel), by decide⟩
    | .bl i, _ => exact ⟨"bool", .base (.bl i), (show kitB "bool" "int" = some true by decide +kernel), (show kitB "bool" "bool" = some true by decide +kernel), (show kitB "bool" "str" = some false by decide +kernel), by decide⟩
    | .non, _ => exact ⟨"NoneType", .base .non, (show kitB "NoneType" "int" = some false by decide +kernel), (show kitB "NoneType" "bool" = some false by decide +kernel), (show kitB "NoneType" "str" = some false by decide +kernel), by decide⟩
    | .str i, _ => exact ⟨"str", .base (.str i), (show kitB "str" "int" = some false by decide +kernel), (show kitB "str" "bool" = some false by decide +kernel), (show kitB "str" "str" = some true by decide +kernel), by decide⟩
  cases n with
  | zero => exact sc h
  | succ n =>
    rcases h with h | ⟨p, ks, rfl, _, e, _⟩ | ⟨b, p, xs, rfl, _, e, _⟩
    · exact sc h
    · exact ⟨"dict", .base (.dK e), (show kitB "dict" "int" = some false by decide +kernel), (show kitB "dict" "bool" = some false by decide +kernel), (show kitB "dict" "str" = some false by decide +kernel), by decide⟩
    · cases b with
      | true => exact ⟨"list", .base (.lst e), (show kitB "list" "int" = some false by decide +kernel), (show kitB "list" "bool" = some false by decide +kernel), (show kitB "list" "str" = some false by decide +kernel), by decide⟩
      | false => exact ⟨"tuple", .base (.tup e), (show kitB "tuple" "int" = some false by decide +kernel), (show kitB "tuple" "bool" = some false by decide +kernel), (show kitB "tuple" "str" = some false by decide +kernel), by decide⟩
theorem Ov.str {F : Addr → Prop} {H : Hp} {n : Nat} {z : Str} (h : Ov F H n (.str z)) : z.length ≤ 1000000 := by
  cases n with
  | zero => exact h
  | succ n =>
    rcases h with h | ⟨p, ks, e, _⟩ | ⟨b, p, xs, e, _⟩
    · exact h
    · cases e
    · cases e
def ivF (nm : Str) : List V → List (Str × V)
  | [v] => [("code", .str nm), ("value", v)]
  | _ => []
structure RE (P : Program) (w : World) (K : PySem.W.Frag) (mg : Str → Option Value) (base : Heap) (nm f : Str) (fs : List V → List (Str × V)) (C fI : Addr) (fdI : FuncData) : Prop where
  er : LX.ErrC K mg nm [f, "code"] C fI
  G : FnOk P w K mg base CX0 1 fI fdI ["self", f] (LX.spErr C 1 fs)
  b : Binds K fdI ["self", f] []
theorem ErrOut.same {H H1 : Hp} {E : XK} {C : Addr} {fs : List (Str × V)} (s : Same H H1) (h : LX.ErrOut H E C fs) : LX.ErrOut H1 E C fs := fun d H' s' hd he => h d H' (s.trans s') (s.free hd) he

/-- the error classes -/
structure Ce where
  (nu : Addr)
/-- an error: its name, its class, what it tells, its fields -/
inductive Er (ce : Ce) : Str → Addr → List V → List (Str × V) → Prop where
  | nu (v : V) : Er ce "InvalidNumber" ce.nu [v] (ivF "InvalidNumber" [v])

theorem num_true {v lo hi : Int} (h1 : lo ≤ v) (h2 : v ≤ hi) : isNum (.int v) lo hi = true := by
  show (decide (lo ≤ v) && decide (v ≤ hi)) = true
  rw [decide_eq_true h1, decide_eq_true h2]
  rfl
/-- alike, told and due: dicts are one object -/
def Lq (H : Hp) : Nat → V → V → Prop
  | 0, x, y => x = y ∧ Sc x
  | n + 1, x, y => (x = y ∧ Sc x) ∨ (∃ (p q : Addr) (ks : List (Key × V)), x = .ref p ∧ y = .ref q ∧ H p = some (.dK ks) ∧ H q = some (.dK ks) ∧ DkOk ks) ∨ ∃ (b : Bool) (p q : Addr) (xs ys : List V), x = .ref p ∧ y = .ref q ∧ H p = some (mkO b xs) ∧ H q = some (mkO b ys) ∧ xs.length = ys.length ∧ xs.length ≤ 1000000 ∧ ∀ (i : Nat) (u v : V), xs[i]? = some u → ys[i]? = some v → Lq H n u v
theorem Lq.same {H H' : Hp} (s : L2.Same H H') : ∀ {n : Nat} {x y : V}, Lq H n x y → Lq H' n x y
  | 0, _, _, h => h
  | n + 1, _, _, .inl h => .inl h
  | n + 1, _, _, .inr (.inl ⟨p, p', ks, e1, e2, h, h', q⟩) => .inr (.inl ⟨p, p', ks, e1, e2, s _ _ h, s _ _ h', q⟩)
  | n + 1, _, _, .inr (.inr ⟨b, p, q, xs, ys, e1, e2, h1, h2, h3, h4, h5⟩) => .inr (.inr ⟨b, p, q, xs, ys, e1, e2, s _ _ h1, s _ _ h2, h3, h4, fun i u v a c => (h5 i u v a c).same s⟩)
theorem Lq.sc {H : Hp} {x : V} (h : Sc x) : ∀ n, Lq H n x x
  | 0 => ⟨rfl, h⟩
  | _ + 1 => .inl ⟨rfl, h⟩
theorem Lq.cases {H : Hp} {m : Nat} {u v : V} (h : Lq H m u v) : (u = v ∧ Sc u) ∨ (∃ (p q : Addr) (ks : List (Key × V)), u = .ref p ∧ v = .ref q ∧ H p = some (.dK ks) ∧ H q = some (.dK ks) ∧ DkOk ks) ∨ ∃ j, m = j + 1 ∧ ∃ (b : Bool) (p q : Addr) (xs ys : List V), u = .ref p ∧ v = .ref q ∧ H p = some (mkO b xs) ∧ H q = some (mkO b ys) ∧ xs.length = ys.length ∧ xs.length ≤ 1000000 ∧ ∀ (i : Nat) (s t : V), xs[i]? = some s → ys[i]? = some t → Lq H j s t := by
  cases m with
  | zero => exact .inl h
  | succ j =>
    rcases h with h | h | h
    · exact .inl h
    · exact .inr (.inl h)
    · exact .inr (.inr ⟨j, rfl, h⟩)
/-- data is like itself -/
theorem Ov.lq {F : Addr → Prop} {H : Hp} : ∀ {n : Nat} {x : V}, Ov F H n x → Lq H n x x
  | 0, _, h => ⟨rfl, h.sc⟩
  | _ + 1, _, .inl h => .inl ⟨rfl, h.sc⟩
  | _ + 1, _, .inr (.inl ⟨p, ks, e, _, h, q⟩) => .inr (.inl ⟨p, p, ks, e, e, h, h, q⟩)
  | _ + 1, _, .inr (.inr ⟨b, p, xs, e, _, h, l, r⟩) => .inr (.inr ⟨b, p, p, xs, xs, e, e, h, h, rfl, l, fun i u v a c => by
      rw [a] at c
      cases c
      exact (r u (List.mem_of_getElem? a)).lq⟩)
theorem kLT_dK {K : PySem.W.Frag} : PySem.W.kitAny K (.type "dict") [.type "list", .type "tuple"] = some false := kitAny_cons (kit_ty (show kitB "dict" "list" = some false by decide +kernel)) (fun _ => kitAny_cons (kit_ty (show kitB "dict" "tuple" = some false by decide +kernel)) (fun _ => kitAny_nil) fun z => by cases z) (fun z => by cases z)
/-- == of scalars, or of a dict with itself -/
def rEqS (K : PySem.W.Frag) : R2 := fun x y H Q => rEq x y H Q ∨ ∃ (p q : Addr) (ks : List (Key × V)), x = .ref p ∧ y = .ref q ∧ H p = some (.dK ks) ∧ H q = some (.dK ks) ∧ DkOk ks ∧ Q (.bl true) H
theorem op_eqS {X : Cx} (hu : X.A.units + 64 < cLine) : OpR X (compareOp .Eq) (rEqS X.K) := by
  intro pins s σ H x y v u Q I rx ry h
  rcases h with h | ⟨p, p', ks, rfl, rfl, hp, hp', ok, q⟩
  · exact op_eq pins s σ H x y v u Q I rx ry h
  · refine op_eqV hu pins s σ H _ _ v u Q I rx ry ⟨1, by decide, .inr ⟨p, p', ks, ks, rfl, rfl, hp, hp', rfl, fun z hz => ?_⟩, q⟩
    obtain ⟨e, f⟩ := ok z hz
    refine ⟨z.2, e, ?_⟩
    rcases f with f | ⟨b, f⟩
    · exact .inl ⟨rfl, f⟩
    · exact .inr (.inl ⟨b, f, f⟩)
/-- what is new is not in F -/
theorem nF_of {F : Addr → Prop} {g l : Addr} {H H' : Hp} {t : Addr} (hF : ∀ b, F b → ∃ o, H b = some o) (r : Ok g l H H') (h : H' t = none) : ¬ F t := fun z => by
  obtain ⟨o, e⟩ := hF t z
  rw [r.free h] at e
  cases e
theorem hF_ok {F : Addr → Prop} {g l : Addr} {H H' : Hp} (hF : ∀ b, F b → ∃ o, H b = some o) (r : Ok g l H H') : ∀ b, F b → ∃ o, H' b = some o := fun b z => by
  cases q : H' b with
  | some o => exact ⟨o, rfl⟩
  | none => exact absurd z (nF_of hF r q)
/-- a good dict stands at p -/
def Dq (F : Addr → Prop) (H : Hp) (p : Addr) : Prop := ¬ F p ∧ ∃ ks, H p = some (.dK ks) ∧ DkOk ks
theorem Dq.new {F : Addr → Prop} {H : Hp} {p q : Addr} {o : HO} (d : Dq F H p) (h : H q = none) : Dq F (L2.upd H q o) p := by
  obtain ⟨n, ks, e, k⟩ := d
  exact ⟨n, ks, by rw [upd_ne (ne_of_none e h)]; exact e, k⟩
theorem Dq.dict {F : Addr → Prop} {H : Hp} {p q : Addr} {kvs : List (Key × V)} (ok : DkOk kvs) (d : Dq F H p) : Dq F (L2.upd H q (.dK kvs)) p := by
  obtain ⟨n, ks, e, k⟩ := d
  by_cases h : p = q
  · subst h
    exact ⟨n, kvs, upd_same, ok⟩
  · exact ⟨n, ks, by rw [upd_ne h]; exact e, k⟩
theorem Dq.ov {F : Addr → Prop} {H : Hp} {p : Addr} (d : Dq F H p) (n : Nat) : Ov F H (n + 1) (.ref p) := by
  obtain ⟨n, ks, e, k⟩ := d
  exact .inr (.inl ⟨p, ks, rfl, n, e, k⟩)
theorem num_int {v : V} {lo hi : Int} (h : isNum v lo hi = true) : ∃ i, v = .int i ∧ lo ≤ i ∧ i ≤ hi := by
  cases v with
  | int i =>
    have q : (decide (lo ≤ i) && decide (i ≤ hi)) = true := h
    rw [Bool.and_eq_true] at q
    exact ⟨i, rfl, of_decide_eq_true q.1, of_decide_eq_true q.2⟩
  | _ => exact Bool.noConfusion h
theorem KpT.trans {F : Addr → Prop} {H H1 H2 : Hp} (a : KpT F H H1) (b : KpT F H1 H2) : KpT F H H2 := fun c o n t e => b c o n t (a c o n t e)
theorem KpT.ext {F : Addr → Prop} {H H1 : Hp} (e : LamX.ExtN H H1) : KpT F H H1 := fun b o _ t h => e b o h t
theorem KpT.new {F : Addr → Prop} {H : Hp} {p : Addr} {o : HO} (h : H p = none) : KpT F H (upd H p o) := KpT.same (same_new h)
theorem bag_ext {l g : Addr} {H H1 : Hp} (e : LamX.ExtN H H1) (B : Bag l H g) : Bag l H1 g := by
  obtain ⟨ns, i, d, s, c, h1, h2, h3, r⟩ := B
  exact ⟨ns, i, d, s, c, e _ _ h1 (fun ps z => by cases z), h2, e _ _ h3 (fun ps z => by cases z), r⟩
theorem bag_same {l g : Addr} {H H1 : Hp} (e : Same H H1) (B : Bag l H g) : Bag l H1 g := ((Ok.refl B).same e).bag
theorem tabs_ok {T : List (Addr × Str)} {g l : Addr} {H H' : Hp} (r : Ok g l H H') (t : LamX.Tabs T H) : LamX.Tabs T H' := fun p hp => by
  obtain ⟨ps, h1, h2, h3⟩ := t p hp
  obtain ⟨⟨xs, hg⟩, _⟩ := r.b0.there
  refine ⟨ps, r.kp _ _ (fun z => ?_) h1, h2, fun pos cv hc => ?_⟩
  · rw [z, hg] at h1
    cases h1
  · obtain ⟨c, e1, e2⟩ := h3 pos cv hc
    refine ⟨c, e1, r.kp _ _ (fun z => ?_) e2⟩
    rw [z, hg] at e2
    have q := Option.some.inj e2
    unfold LamX.CodeO at q
    cases q
/-- the tables stand though a list is changed -/
theorem tabs_lst {T : List (Addr × Str)} {H : Hp} {q : Addr} {xs ys : List V} (hq : H q = some (.lst xs)) (t : LamX.Tabs T H) : LamX.Tabs T (upd H q (.lst ys)) := fun p hp => by
  obtain ⟨ps, h1, h2, h3⟩ := t p hp
  refine ⟨ps, by rw [upd_ne (fun z => by rw [z, hq] at h1; cases h1)]; exact h1, h2, fun pos cv hc => ?_⟩
  obtain ⟨c, e1, e2⟩ := h3 pos cv hc
  have n : c ≠ q := fun z => by
    rw [z, hq] at e2
    have q := Option.some.inj e2
    unfold LamX.CodeO at q
    cases q
  exact ⟨c, e1, by rw [upd_ne n]; exact e2⟩
theorem Lq.lst2 {H : Hp} {p q : Addr} {xs : List V} {n : Nat} (h1 : H p = some (.lst xs)) (h2 : H q = some (.lst xs)) (hl : xs.length ≤ 1000000) (h : ∀ x ∈ xs, Lq H n x x) : Lq H (n + 1) (.ref p) (.ref q) :=
  .inr (.inr ⟨true, p, q, _, _, rfl, rfl, h1, h2, rfl, hl, fun j u w a1 a2 => by
    rw [a1] at a2
    cases a2
    exact h u (List.mem_of_getElem? a1)⟩)
/-- the way out with such an error -/
def Out (ce : Ce) (H : Hp) (E : XK) (e : Str × List V) : Prop := ∀ C fs, Er ce e.1 C e.2 fs → LX.ErrOut H E C fs
theorem Out.same {ce : Ce} {H H1 : Hp} {E : XK} {e : Str × List V} (s : Same H H1) (h : Out ce H E e) : Out ce H1 E e := fun C fs r => ErrOut.same s (h C fs r)
theorem Out.nu {ce : Ce} {H : Hp} {E : XK} {v : V} (h : Out ce H E ("InvalidNumber", [v])) : LX.ErrOut H E ce.nu (ivF "InvalidNumber" [v]) := h _ _ (.nu v)
/-- told: what the deed gives, or its error with what it tells -/
def TAsk (ce : Ce) : (XK → Hp → VK → Prop) → Hp → VK → Prop := fun tl H Q => ∀ H1, Same H H1 → ∃ G : XK,
  (∀ cls d H', G cls d H' → ∃ (nm : Str) (C dd : Addr) (ws : List V) (fs : List (Str × V)), Er ce nm C ws fs ∧ cls = .ref C ∧ d = some dd ∧ H' dd = some (.xd fs) ∧ ∀ (D T : Addr) H2, Same H' H2 → H' D = none → H' T = none → H2 D = some (.lst (.str nm :: ws)) → H2 T = some (.tup [.non, .ref D]) → Q (.ref T) H2) ∧
  ∀ (E : XK) (Qv : VK), (∀ cls d H', G cls d H' → E cls d H') → (∀ v H', (∀ T, H' T = none → Q (.ref T) (upd H' T (.tup [v, .non]))) → Qv v H') → tl E H1 Qv
theorem lam_std {Tb : List (Addr × Str)} {ce : Ce} {t : XK → TE} {σ : St} {H : Hp} {Q : VK} {F : Addr → Prop} {l g : Addr} (hT : LamX.Tabs Tb H) (B : Bag l H g) (due : Option (Str × List V)) (Made : Hp → V → Prop) (mk : ∀ H H' v, Same H H' → Made H v → Made H' v)
    (run : ∀ H1 E Qv, KpT F H H1 → Bag l H1 g → LamX.Tabs Tb H1 → (∀ er H', due = some er → KpT F H H' → Bag l H' g → LamX.Tabs Tb H' → Out ce H' E er) → (∀ v H', due = none → KpT F H H' → Bag l H' g → LamX.Tabs Tb H' → Made H' v → Qv v H') → t E σ H1 Qv)
    (h : ∀ T H3 tv fv, KpT F H H3 → Bag l H3 g → LamX.Tabs Tb H3 → H3 T = some (.tup [tv, fv]) → ((∃ (nm : Str) (ws : List V) (D : Addr), due = some (nm, ws) ∧ tv = .non ∧ fv = .ref D ∧ H3 D = some (.lst (.str nm :: ws))) ∨ (due = none ∧ fv = .non ∧ Made H3 tv)) → Q (.ref T) H3) :
    LamX.tLam Tb (TAsk ce) t σ H Q := by
  refine ⟨hT, fun H1 e1 t1 H2 s2 => ?_⟩
  have k2 : KpT F H H2 := (KpT.ext e1).trans (KpT.same s2)
  have B2 : Bag l H2 g := bag_same s2 (bag_ext e1 B)
  have t2 : LamX.Tabs Tb H2 := t1.ext s2
  refine ⟨fun cls d H' => ∃ (nm : Str) (C dd : Addr) (ws : List V) (fs : List (Str × V)), Er ce nm C ws fs ∧ cls = .ref C ∧ d = some dd ∧ H' dd = some (.xd fs) ∧ due = some (nm, ws) ∧ KpT F H H' ∧ Bag l H' g ∧ LamX.Tabs Tb H', ?_, ?_⟩
  · rintro cls d H' ⟨nm, C, dd, ws, fs, c1, c2, c3, c4, c5, c6, c7, c8⟩
    exact ⟨nm, C, dd, ws, fs, c1, c2, c3, c4, fun D T H3 s d1 d2 d3 d4 => h T H3 _ _ (c6.trans (KpT.same s)) (bag_same s c7) (c8.ext s) d4 (.inl ⟨nm, ws, D, c5, rfl, rfl, d3⟩)⟩
  · intro E Qv hE hv
    refine run H2 E Qv k2 B2 t2 (fun er H' du k' b' t' C fs r d H3 s hd he => hE _ _ _ ⟨er.1, C, d, er.2, fs, r, rfl, rfl, he, du, k'.trans (KpT.same s), bag_same s b', t'.ext s⟩) (fun v H' du k' b' t' m => hv v H' fun T hT => ?_)
    have sT := same_new (o := .tup [v, .non]) hT
    exact h T _ _ _ (k'.trans (KpT.same sT)) (bag_same sT b') (t'.ext sT) upd_same (.inr ⟨du, rfl, mk _ _ _ sT m⟩)
/-! ### what the law draws -/
def K9 : List Str := ["a", "b1", "r lot a 0", "r past", "r next", "k-2,3", "Zz", "a 1", "0"]
def TupAt (H : Hp) (t : Addr) (p : Key × V) : Prop := H t = some (.tup [kV p.1, p.2])
/-- cells: their keys are small numbers -/
def KInt (M : List (Key × V)) : Prop := M.length ≤ 1000000 ∧ ∀ p ∈ M, ∃ n : Nat, p.1 = .inl (n : Int) ∧ n ≤ 1000000
theorem bnd_le {M : List (Key × V)} (h : ∀ p ∈ M, kN p ≤ 1000001) : bnd M ≤ 1000001 := by
  unfold bnd
  induction M with
  | nil => exact Nat.zero_le _
  | cons q r ih =>
    have h1 := h q (List.mem_cons_self ..)
    have := ih fun p hp => h p (List.mem_cons_of_mem _ hp)
    show max (kN q) ((r.map kN).foldr max 0) ≤ 1000001
    omega
theorem bnd_mem {M : List (Key × V)} : bnd M = 0 ∨ ∃ p ∈ M, bnd M = kN p := by
  unfold bnd
  induction M with
  | nil => exact .inl rfl
  | cons q r ih =>
    show max (kN q) ((r.map kN).foldr max 0) = 0 ∨ ∃ p ∈ q :: r, max (kN q) ((r.map kN).foldr max 0) = kN p
    by_cases c : (r.map kN).foldr max 0 ≤ kN q
    · exact .inr ⟨q, List.mem_cons_self .., by omega⟩
    · rcases ih with e | ⟨p, hp, e⟩
      · omega
      · exact .inr ⟨p, List.mem_cons_of_mem _ hp, by omega⟩
theorem bnd_ge {M : List (Key × V)} {p : Key × V} (h : p ∈ M) : kN p ≤ bnd M := by
  unfold bnd
  induction M with
  | nil => cases h
  | cons q r ih =>
    show kN p ≤ max (kN q) ((r.map kN).foldr max 0)
    rcases List.mem_cons.mp h with rfl | h
    · omega
    · have := ih h
      omega
def intsOf (M : List (Key × V)) : List Int := M.map fun p => match p.1 with | .inl i => i | .inr _ => 0
theorem intsOf_eq {M : List (Key × V)} (h : KInt M) : (M.map fun kv => kV kv.1) = (intsOf M).map V.int := by
  unfold intsOf
  rw [List.map_map]
  refine List.map_congr_left fun p hp => ?_
  obtain ⟨n, e, _⟩ := h.2 p hp
  show kV p.1 = V.int (match p.1 with | .inl i => i | .inr _ => 0)
  rw [e]
  rfl
theorem max_bnd {M : List (Key × V)} (h : KInt M) {m : Int} (hm : m ∈ (-1 :: intsOf M)) (hy : ∀ y ∈ (-1 :: intsOf M), y ≤ m) : m + 1 = (bnd M : Int) := by
  have h0 := hy (-1) (List.mem_cons_self ..)
  have im : ∀ p ∈ M, ((kN p : Nat) : Int) ≤ m + 1 := fun p hp => by
    obtain ⟨n, e, _⟩ := h.2 p hp
    have q : (n : Int) ∈ intsOf M := List.mem_map.mpr ⟨p, hp, by rw [e]⟩
    have := hy n (List.mem_cons_of_mem _ q)
    have k : kN p = n + 1 := by unfold kN; rw [e]; show (n : Int).toNat + 1 = n + 1; omega
    rw [k]
    omega
  have up : (bnd M : Int) ≤ m + 1 := by
    rcases bnd_mem (M := M) with e | ⟨p, hp, e⟩
    · rw [e]
      omega
    · rw [e]
      exact im p hp
  have dn : m + 1 ≤ (bnd M : Int) := by
    rcases List.mem_cons.mp hm with e | e
    · omega
    · obtain ⟨p, hp, e⟩ := List.mem_map.mp e
      obtain ⟨n, en, _⟩ := h.2 p hp
      rw [en] at e
      have e : (n : Int) = m := e
      have k : kN p = n + 1 := by unfold kN; rw [en]; show (n : Int).toNat + 1 = n + 1; omega
      have := bnd_ge hp
      omega
  omega
structure KCell (M : List (Key × V)) : Prop where
  i : KInt M
  v : ∀ p ∈ M, ∃ z : Str, p.2 = .str z
  few : (cells M).length ≤ 1000000
theorem Pr.get {α β : Type} {R : α → β → Prop} : ∀ {xs : List α} {ys : List β}, Paired R xs ys → ∀ {i : Nat} {x : α}, xs[i]? = some x → ∃ y, ys[i]? = some y ∧ R x y
  | _, _, .nil, i, x, e => by simp at e
  | _, _, .cons h p, 0, x, e => by
    simp at e
    subst e
    exact ⟨_, rfl, h⟩
  | _, _, .cons h p, i + 1, x, e => by
    obtain ⟨y, e1, e2⟩ := Pr.get p (i := i) (x := x) (by simpa using e)
    exact ⟨y, by simpa using e1, e2⟩
theorem Lk.tupl {H : Hp} {s t : Addr} {us : List V} (h1 : H s = some (.tup us)) (h2 : H t = some (.tup us)) (sc : ∀ u ∈ us, Sc u) (hl : us.length ≤ 1000000) (n : Nat) : Lq H (n + 1) (.ref s) (.ref t) := by
  refine .inr (.inr ⟨false, s, t, _, _, rfl, rfl, h1, h2, rfl, hl, fun i x y e1 e2 => ?_⟩)
  rw [e1] at e2
  cases e2
  exact Lq.sc (sc x (List.mem_of_getElem? e1)) n
theorem Lk.flat {H : Hp} {s t : Addr} {us : List V} (h1 : H s = some (.lst us)) (h2 : H t = some (.lst us)) (sc : ∀ u ∈ us, Sc u) (hl : us.length ≤ 1000000) (n : Nat) : Lq H (n + 1) (.ref s) (.ref t) := by
  refine .inr (.inr ⟨true, s, t, _, _, rfl, rfl, h1, h2, rfl, hl, fun i x y e1 e2 => ?_⟩)
  rw [e1] at e2
  cases e2
  exact Lq.sc (sc x (List.mem_of_getElem? e1)) n
/-- two lists of tuples alike, by what they stand for -/
theorem Lk.many {β : Type} {H : Hp} {f : β → List V} {R R' : Addr → β → Prop} {A B : Addr} {vs ws : List Addr} {l : List β} (hr : ∀ t q, R t q → H t = some (.tup (f q))) (hr' : ∀ t q, R' t q → H t = some (.tup (f q))) (h : Paired R vs l) (h' : Paired R' ws l) (sc : ∀ q ∈ l, (∀ u ∈ f q, Sc u) ∧ (f q).length ≤ 1000000) (hA : H A = some (.lst (vs.map V.ref))) (hB : H B = some (.lst (ws.map V.ref))) (hl : l.length ≤ 1000000) : Lq H 2 (.ref A) (.ref B) := by
  have l1 := h.length
  have l2 := h'.length
  refine .inr (.inr ⟨true, A, B, _, _, rfl, rfl, hA, hB, by rw [List.length_map, List.length_map, l1, l2], by rw [List.length_map, l1]; exact hl, fun i u v e1 e2 => ?_⟩)
  rw [List.getElem?_map] at e1 e2
  cases q1 : vs[i]? with
  | none => rw [q1] at e1; cases e1
  | some s =>
    cases q2 : ws[i]? with
    | none => rw [q2] at e2; cases e2
    | some t =>
      rw [q1] at e1
      rw [q2] at e2
      cases e1
      cases e2
      obtain ⟨p, hp, r⟩ := Pr.get h q1
      obtain ⟨p', hp', r'⟩ := Pr.get h' q2
      rw [hp] at hp'
      cases hp'
      have s := sc p (List.mem_of_getElem? hp)
      exact Lk.tupl (hr _ _ r) (hr' _ _ r') s.1 s.2 0
theorem cells_sc {M : List (Key × V)} (h : KCell M) : ∀ u ∈ cells M, Sc u := fun u hu => by
  unfold cells at hu
  obtain ⟨k, _, rfl⟩ := List.mem_map.mp hu
  unfold cellV
  cases q : valV M (.inl (k : Int)) with
  | none => exact True.intro
  | some v =>
    obtain ⟨p, hp, _, e⟩ := valV_mem q
    obtain ⟨z, ez⟩ := h.v p hp
    rw [← e, ez]
    exact True.intro
theorem strs1 : ∀ {xs : List V}, (∀ x ∈ xs, ∃ c : Nat, x = V.str ⟨#[c]⟩) → ∃ ys : List Str, xs = ys.map V.str ∧ ∀ y ∈ ys, y.length ≤ 1
  | [], _ => ⟨[], rfl, fun y hy => by cases hy⟩
  | x :: xs, h => by
    obtain ⟨c, rfl⟩ := h x (List.mem_cons_self ..)
    obtain ⟨ys, rfl, hy⟩ := strs1 (xs := xs) fun y q => h y (List.mem_cons_of_mem _ q)
    refine ⟨⟨#[c]⟩ :: ys, rfl, fun y q => ?_⟩
    rcases List.mem_cons.mp q with rfl | q
    · exact Nat.le_refl 1
    · exact hy y q
theorem mul_ok {z : Str} {n : Int} (hz : z.length ≤ 8) (n0 : 0 ≤ n) (n1 : n ≤ 100) : PySem.MulOk z n := by
  refine ⟨?_, fun h _ => ?_, fun _ _ => ?_⟩
  · rw [decide_eq_false (by omega), decide_eq_false (by omega)]
    rfl
  · have h1 : 1 ≤ n := by omega
    have : (8 : Int) ≤ (2 ^ 63 - 1) / n := by
      rw [Int.le_ediv_iff_mul_le (by omega)]
      omega
    omega
  · unfold Builtin.Str.tooLong
    have : z.length * n.toNat ≤ 8 * 100 := Nat.mul_le_mul hz (by omega)
    have sl : 8 * 100 ≤ sizeLine := by decide
    exact decide_eq_false (by omega)
/-! ### what the law's tables hold -/
theorem nd_sub {α : Type} [BEq α] [LawfulBEq α] : ∀ (xs ys : List α), xs.Nodup → (∀ x ∈ xs, x ∈ ys) → xs.length ≤ ys.length
  | [], _, _, _ => Nat.zero_le _
  | x :: xs, ys, nd, h => by
    rw [List.nodup_cons] at nd
    have hx := h x (List.mem_cons_self ..)
    have ih := nd_sub xs (ys.erase x) nd.2 fun y hy => (List.mem_erase_of_ne (fun z : y = x => nd.1 (by rw [← z]; exact hy))).mpr (h y (List.mem_cons_of_mem _ hy))
    rw [List.length_erase_of_mem hx] at ih
    have : 0 < ys.length := List.length_pos_of_mem hx
    show xs.length + 1 ≤ ys.length
    omega
/-- a value that the law's tables hold: none, or a short text without ';' -/
def Vf (v : V) : Prop := Val v ∧ ∀ w : Str, v = .str w → 59 ∉ w.cps.toList
theorem Vf.non : Vf .non := ⟨.inl rfl, fun w e => by cases e⟩
theorem Vf.str {w : Str} (h : w.length ≤ 1000) (f : 59 ∉ w.cps.toList) : Vf (.str w) := ⟨.inr ⟨w, rfl, h⟩, fun z e => by cases e; exact f⟩
/-- keys among the nine, each once; short values, or none -/
structure T9 (kv : List (Key × V)) : Prop where
  k : ∀ p ∈ kv, ∃ z ∈ K9, p.1 = Sum.inr z
  v : ∀ p ∈ kv, Vf p.2
  nd : (kv.map (·.1)).Nodup
theorem keysOf_of {kv : List (Key × V)} (h : ∀ p ∈ kv, ∃ z : Str, p.1 = Sum.inr z) : kv.map (·.1) = (keysOf kv).map Sum.inr := by
  induction kv with
  | nil => rfl
  | cons p r ih =>
    obtain ⟨z, e⟩ := h p (List.mem_cons_self ..)
    have ih := ih fun q hq => h q (List.mem_cons_of_mem _ hq)
    have ek : keysOf (p :: r) = z :: keysOf r := by
      unfold keysOf
      rw [List.filterMap_cons, e]
    rw [ek, List.map_cons, List.map_cons, ih, e]
theorem T9.len {kv : List (Key × V)} (h : T9 kv) : kv.length ≤ 9 := by
  have e := keysOf_of fun p hp => by
    obtain ⟨z, _, e⟩ := h.k p hp
    exact ⟨z, e⟩
  have nd := h.nd
  rw [e] at nd
  have nd' : (keysOf kv).Nodup := List.Pairwise.of_map (R := fun a b => a ≠ b) Sum.inr (fun a b z e => z (by rw [e])) nd
  have := nd_sub _ K9 nd' fun z hz => by
    obtain ⟨p, hp, e⟩ := keysOf_mem hz
    obtain ⟨w, hw, e'⟩ := h.k p hp
    rw [e] at e'
    cases e'
    exact hw
  have l := congrArg List.length e
  rw [List.length_map, List.length_map] at l
  have k9 : K9.length = 9 := rfl
  omega
theorem k9_len : ∀ z ∈ K9, z.length ≤ 9 := by
  intro z hz
  simp only [K9, List.mem_cons, List.not_mem_nil, or_false] at hz
  rcases hz with rfl | rfl | rfl | rfl | rfl | rfl | rfl | rfl | rfl
  all_goals decide +kernel
theorem T9.tab {kv : List (Key × V)} (h : T9 kv) : Tab kv := by
  refine ⟨keysOf_of fun p hp => ?_, by have := h.len; omega, fun p hp => (h.v p hp).1, fun z hz => ?_, h.nd⟩
  · obtain ⟨z, _, e⟩ := h.k p hp
    exact ⟨z, e⟩
  · obtain ⟨p, hp, e⟩ := keysOf_mem hz
    obtain ⟨w, hw, e'⟩ := h.k p hp
    rw [e] at e'
    cases e'
    have := k9_len z hw
    omega
theorem T9.nil : T9 [] := ⟨(fun p hp => by cases hp), (fun p hp => by cases hp), List.nodup_nil⟩
theorem putK_mem {kv : List (Key × V)} {k : Key} {v : V} {p : Key × V} (h : p ∈ putK kv k v) : p ∈ kv ∨ p = (k, v) := by
  unfold putK at h
  split at h
  · obtain ⟨q, hq, rfl⟩ := List.mem_map.mp h
    by_cases c : q.1 = k
    · rw [if_pos c]
      exact .inr (by rw [c])
    · rw [if_neg c]
      exact .inl hq
  · rcases List.mem_append.mp h with h | h
    · exact .inl h
    · exact .inr (List.mem_singleton.mp h)
theorem nd_put {kv : List (Key × V)} {k : Key} {v : V} (nd : (kv.map (·.1)).Nodup) : ((putK kv k v).map (·.1)).Nodup := by
  cases h : valV kv k with
  | none => exact nd_putK v nd h
  | some u =>
    have e : (putK kv k v).map (·.1) = kv.map (·.1) := by
      unfold putK
      rw [valV_any, h]
      show List.map (·.1) (List.map (fun kv => if kv.1 = k then (kv.1, v) else kv) kv) = _
      rw [List.map_map]
      refine List.map_congr_left fun q _ => ?_
      show (if q.1 = k then (q.1, v) else q).1 = q.1
      split <;> rfl
    rw [e]
    exact nd
theorem T9.put {kv : List (Key × V)} (h : T9 kv) {z : Str} {v : V} (hz : z ∈ K9) (hv : Vf v) : T9 (putK kv (.inr z) v) := by
  refine ⟨fun p hp => ?_, fun p hp => ?_, nd_put h.nd⟩
  · rcases putK_mem hp with hp | rfl
    · exact h.k p hp
    · exact ⟨z, hz, rfl⟩
  · rcases putK_mem hp with hp | rfl
    · exact h.v p hp
    · exact hv
theorem T9.drop {kv : List (Key × V)} (h : T9 kv) (k : Key) : T9 (dropK kv k) := ⟨fun p hp => h.k p (dropK_mem hp), fun p hp => h.v p (dropK_mem hp), nd_dropK h.nd⟩
theorem T9.vf {kv : List (Key × V)} (t : T9 kv) {k : Key} {v : V} (h : valV kv k = some v) : Vf v := by
  obtain ⟨p, hp, _, e⟩ := valV_mem h
  rw [← e]
  exact t.v p hp
/-- no value is None -/
def Full (kv : List (Key × V)) : Prop := ∀ p ∈ kv, p.2 ≠ .non
theorem Full.put {kv : List (Key × V)} (h : Full kv) {k : Key} {v : V} (hv : v ≠ .non) : Full (putK kv k v) := fun p hp => by
  rcases putK_mem hp with hp | rfl
  · exact h p hp
  · exact hv
theorem Full.drop {kv : List (Key × V)} (h : Full kv) (k : Key) : Full (dropK kv k) := fun p hp => h p (dropK_mem hp)
theorem Full.val {kv : List (Key × V)} (h : Full kv) (t : T9 kv) {p : Key × V} (hp : p ∈ kv) : ∃ w : Str, p.2 = .str w ∧ w.length ≤ 1000 := by
  rcases (t.v p hp).1 with e | e
  · exact absurd e (h p hp)
  · exact e
theorem T9.apply : ∀ {ch kv : List (Key × V)}, T9 kv → T9 ch → T9 (applyK kv ch) := by
  have go : ∀ (ch kv : List (Key × V)), T9 kv → (∀ p ∈ ch, ∃ z ∈ K9, p.1 = Sum.inr z) → (∀ p ∈ ch, Vf p.2) → T9 (applyK kv ch) := by
    intro ch
    induction ch with
    | nil => exact fun kv t _ _ => t
    | cons p r ih =>
      intro kv t hk hv
      refine ih _ ?_ (fun q hq => hk q (List.mem_cons_of_mem _ hq)) fun q hq => hv q (List.mem_cons_of_mem _ hq)
      unfold stepK
      split
      · exact t.drop _
      · obtain ⟨z, hz, e⟩ := hk p (List.mem_cons_self ..)
        rw [e]
        exact t.put hz (hv p (List.mem_cons_self ..))
  exact fun {ch kv} t c => go ch kv t c.k c.v
theorem Full.apply : ∀ (ch : List (Key × V)) {kv : List (Key × V)}, Full kv → Full (applyK kv ch)
  | [], _, h => h
  | p :: r, kv, h => by
    refine Full.apply r (kv := stepK kv p) ?_
    unfold stepK
    split
    · exact h.drop _
    · next c => exact h.put c
/-- the cells that the law's deeds make -/
def KC (M : List (Key × V)) : Prop := ∀ p ∈ M, ∃ n : Nat, p.1 = .inl (n : Int) ∧ n ≤ 5000 ∧ ∃ z : Str, p.2 = .str z
theorem KC.cell {M : List (Key × V)} (h : KC M) (hl : M.length ≤ 1000000) : KCell M := by
  refine ⟨⟨hl, fun p hp => ?_⟩, fun p hp => ?_, ?_⟩
  · obtain ⟨n, e, b, _⟩ := h p hp
    exact ⟨n, e, by omega⟩
  · obtain ⟨n, e, b, z⟩ := h p hp
    exact z
  · rw [cells_len]
    rcases bnd_mem (M := M) with e | ⟨p, hp, e⟩
    · rw [e]
      exact Nat.zero_le _
    · obtain ⟨n, en, b, _⟩ := h p hp
      rw [e]
      unfold kN
      rw [en]
      show (n : Int).toNat + 1 ≤ 1000000
      omega
theorem KC.put {M : List (Key × V)} (h : KC M) {i : Int} (h0 : 0 ≤ i) (h1 : i ≤ 5000) (z : Str) : KC (putK M (.inl i) (.str z)) := fun p hp => by
  rcases putK_mem hp with hp | rfl
  · exact h p hp
  · exact ⟨i.toNat, by show (Sum.inl i : Key) = Sum.inl (i.toNat : Int); rw [show (i.toNat : Int) = i by omega], by omega, z, rfl⟩
/-- what a disk of the law keeps behind n deeds -/
structure Gd (S : DS) (n : Nat) : Prop where
  t : T9 S.kv
  full : Full S.kv
  n0 : (S.m0.map (·.1)).Nodup
  n1 : (S.m1.map (·.1)).Nodup
  c0 : KC S.m0
  c1 : KC S.m1
  sz : S.m0.length + S.m1.length + S.op.length ≤ 4000 * n
  ar : ∀ q ∈ S.op, (q.1 = 0 ∨ q.1 = 1) ∧ 0 ≤ q.2.1 ∧ q.2.1 ≤ 5000
  side : S.side = 0 ∨ S.side = 1
  gen : 0 ≤ S.gen ∧ S.gen ≤ 2 * n
  pcs : 0 ≤ S.pcs ∧ S.pcs ≤ 1200
  cnt : 0 ≤ S.cnt ∧ S.cnt ≤ 1300
  most : 1 ≤ S.most ∧ S.most ≤ 64
  fal : S.fal = false
theorem Gd.ok {S : DS} {n : Nat} (h : Gd S n) (hn : n ≤ 120) : DSok S := by
  have := h.sz
  have := h.gen
  have := h.pcs
  have := h.cnt
  refine ⟨h.fal, h.t.tab, by omega, fun q hq => ?_, h.side, by omega, by omega, by omega⟩
  have := h.ar q hq
  exact ⟨this.1, this.2.1, by omega⟩
theorem Gd.cell {S : DS} {n : Nat} (h : Gd S n) (hn : n ≤ 120) : KCell S.m0 ∧ KCell S.m1 := by
  have := h.sz
  exact ⟨h.c0.cell (by omega), h.c1.cell (by omega)⟩
theorem nCut_le2 (z : Str) : 60 * nCut z ≤ z.length + 59 := by
  unfold nCut
  split <;> omega
theorem cut_few {kv : List (Key × V)} (t : Tab kv) : (cutT (textOf kv)).length ≤ 1190 := by
  rw [cutT_len]
  have := nCut_le2 (textOf kv)
  have := text_len t
  omega
theorem keep_gd {S : DS} {n : Nat} (h : Gd S n) {q : Op} (hq : (q.1 = 0 ∨ q.1 = 1) ∧ 0 ≤ q.2.1 ∧ q.2.1 ≤ 5000) : KC (S.keep q).m0 ∧ KC (S.keep q).m1 ∧ ((S.keep q).m0.map (·.1)).Nodup ∧ ((S.keep q).m1.map (·.1)).Nodup := by
  unfold DS.keep
  split
  · exact ⟨h.c0.put hq.2.1 hq.2.2 _, h.c1, nd_put h.n0, h.n1⟩
  · exact ⟨h.c0, h.c1.put hq.2.1 hq.2.2 _, h.n0, nd_put h.n1⟩
theorem fold_gd : ∀ (l : List Op) (S : DS), KC S.m0 → KC S.m1 → (S.m0.map (·.1)).Nodup → (S.m1.map (·.1)).Nodup → (∀ q ∈ l, (q.1 = 0 ∨ q.1 = 1) ∧ 0 ≤ q.2.1 ∧ q.2.1 ≤ 5000) → KC (l.foldl DS.keep S).m0 ∧ KC (l.foldl DS.keep S).m1 ∧ ((l.foldl DS.keep S).m0.map (·.1)).Nodup ∧ ((l.foldl DS.keep S).m1.map (·.1)).Nodup
  | [], S, a, b, c, d, _ => ⟨a, b, c, d⟩
  | q :: l, S, a, b, c, d, h => by
    have hq := h q (List.mem_cons_self ..)
    have k : KC (S.keep q).m0 ∧ KC (S.keep q).m1 ∧ ((S.keep q).m0.map (·.1)).Nodup ∧ ((S.keep q).m1.map (·.1)).Nodup := by
      unfold DS.keep
      split
      · exact ⟨a.put hq.2.1 hq.2.2 _, b, nd_put c, d⟩
      · exact ⟨a, b.put hq.2.1 hq.2.2 _, c, nd_put d⟩
    exact fold_gd l (S.keep q) k.1 k.2.1 k.2.2.1 k.2.2.2 fun q hq => h q (List.mem_cons_of_mem _ hq)
theorem Gd.sync {S : DS} {n : Nat} (h : Gd S n) : Gd S.sync n := by
  obtain ⟨e1, e2, e3, e4, e5, e6, e7⟩ := sync_same S
  have f : KC S.sync.m0 ∧ KC S.sync.m1 ∧ (S.sync.m0.map (·.1)).Nodup ∧ (S.sync.m1.map (·.1)).Nodup := by
    unfold DS.sync
    split
    · exact ⟨h.c0, h.c1, h.n0, h.n1⟩
    · exact fold_gd S.op S h.c0 h.c1 h.n0 h.n1 h.ar
  have sz := sync_sz S
  have := h.sz
  exact ⟨by rw [e1]; exact h.t, by rw [e1]; exact h.full, f.2.2.1, f.2.2.2, f.1, f.2.1, by rw [e4]; show _ + 0 ≤ _; omega, (fun q hq => by rw [e4] at hq; cases hq), by rw [e2]; exact h.side, by rw [e3]; exact h.gen, by rw [e6]; exact h.pcs, by rw [e7]; exact h.cnt, by rw [e5]; exact h.most, (sync_fal S).trans h.fal⟩
theorem Gd.up {S : DS} {n m : Nat} (h : Gd S n) (hm : n ≤ m) : Gd S m :=
  ⟨h.t, h.full, h.n0, h.n1, h.c0, h.c1, by have := h.sz; omega, h.ar, h.side, by have := h.gen; omega, h.pcs, h.cnt, h.most, h.fal⟩
/-- half a deed: what a check adds -/
structure Gm (S : DS) (n m g : Nat) : Prop where
  t : T9 S.kv
  full : Full S.kv
  n0 : (S.m0.map (·.1)).Nodup
  n1 : (S.m1.map (·.1)).Nodup
  c0 : KC S.m0
  c1 : KC S.m1
  sz : S.m0.length + S.m1.length + S.op.length ≤ 4000 * n + m
  ar : ∀ q ∈ S.op, (q.1 = 0 ∨ q.1 = 1) ∧ 0 ≤ q.2.1 ∧ q.2.1 ≤ 5000
  side : S.side = 0 ∨ S.side = 1
  gen : 0 ≤ S.gen ∧ S.gen ≤ 2 * n + g
  pcs : 0 ≤ S.pcs ∧ S.pcs ≤ 1200
  cnt : 0 ≤ S.cnt ∧ S.cnt ≤ 1300
  most : 1 ≤ S.most ∧ S.most ≤ 64
  fal : S.fal = false
theorem Gm.gd {S : DS} {n m g : Nat} (h : Gm S n m g) (hm : m ≤ 4000) (hg : g ≤ 2) : Gd S (n + 1) :=
  ⟨h.t, h.full, h.n0, h.n1, h.c0, h.c1, by have := h.sz; omega, h.ar, h.side, by have := h.gen; omega, h.pcs, h.cnt, h.most, h.fal⟩
theorem Gm.sync {S : DS} {n m g : Nat} (h : Gm S n m g) : Gm S.sync n m g := by
  obtain ⟨e1, e2, e3, e4, e5, e6, e7⟩ := sync_same S
  have f : KC S.sync.m0 ∧ KC S.sync.m1 ∧ (S.sync.m0.map (·.1)).Nodup ∧ (S.sync.m1.map (·.1)).Nodup := by
    unfold DS.sync
    split
    · exact ⟨h.c0, h.c1, h.n0, h.n1⟩
    · exact fold_gd S.op S h.c0 h.c1 h.n0 h.n1 h.ar
  have sz := sync_sz S
  have := h.sz
  exact ⟨by rw [e1]; exact h.t, by rw [e1]; exact h.full, f.2.2.1, f.2.2.2, f.1, f.2.1, by rw [e4]; show _ + 0 ≤ _; omega, (fun q hq => by rw [e4] at hq; cases hq), by rw [e2]; exact h.side, by rw [e3]; exact h.gen, by rw [e6]; exact h.pcs, by rw [e7]; exact h.cnt, by rw [e5]; exact h.most, (sync_fal S).trans h.fal⟩
theorem Gm.of {S : DS} {n : Nat} (h : Gd S n) : Gm S n 0 0 := ⟨h.t, h.full, h.n0, h.n1, h.c0, h.c1, h.sz, h.ar, h.side, h.gen, h.pcs, h.cnt, h.most, h.fal⟩
theorem Gd.check {S : DS} {n : Nat} (h : Gd S n) (hard : Bool) : Gm (S.check hard) n 1200 1 := by
  obtain ⟨S1, hS1⟩ : ∃ S1, S1 = if S.soft = true then S.sync else S := ⟨_, rfl⟩
  have g1 : Gd S1 n := by rw [hS1]; split; exact h.sync; exact h
  obtain ⟨ps, hps⟩ : ∃ ps, ps = cutT (textOf S1.kv) := ⟨_, rfl⟩
  have pl : ps.length ≤ 1190 := by rw [hps]; exact cut_few g1.t.tab
  obtain ⟨S4, hS4⟩ : ∃ S4, S4 = { S1.turn ps with op := S1.op ++ fresh (1 - S1.side) (S1.gen + 1) ps ps.length ++ [(1 - S1.side, 0, headT (S1.gen + 1) ps.length)] } := ⟨_, rfl⟩
  have sd := g1.side
  have g4 : Gm S4 n 1200 1 := by
    rw [hS4]
    refine ⟨g1.t, g1.full, g1.n0, g1.n1, g1.c0, g1.c1, ?_, fun q hq => ?_, ?_, ?_, ?_, ?_, g1.most, g1.fal⟩
    · show S1.m0.length + S1.m1.length + (S1.op ++ fresh (1 - S1.side) (S1.gen + 1) ps ps.length ++ [(1 - S1.side, 0, headT (S1.gen + 1) ps.length)]).length ≤ _
      rw [List.length_append, List.length_append, fresh_len]
      have := g1.sz
      show S1.m0.length + S1.m1.length + (S1.op.length + ps.length + 1) ≤ _
      omega
    · have hq : q ∈ S1.op ++ fresh (1 - S1.side) (S1.gen + 1) ps ps.length ++ [(1 - S1.side, 0, headT (S1.gen + 1) ps.length)] := hq
      rcases List.mem_append.mp hq with hq | hq
      · rcases List.mem_append.mp hq with hq | hq
        · exact g1.ar q hq
        · obtain ⟨j, hj, rfl⟩ := List.mem_map.mp hq
          have hj := List.mem_range.mp hj
          exact ⟨by show 1 - S1.side = 0 ∨ 1 - S1.side = 1; omega, by show (0 : Int) ≤ (j : Int) + 1; omega, by show (j : Int) + 1 ≤ 5000; omega⟩
      · rw [List.mem_singleton] at hq
        rw [hq]
        exact ⟨by show 1 - S1.side = 0 ∨ 1 - S1.side = 1; omega, Int.le_refl _, by show (0 : Int) ≤ 5000; decide⟩
    · show 1 - S1.side = 0 ∨ 1 - S1.side = 1
      omega
    · show 0 ≤ S1.gen + 1 ∧ S1.gen + 1 ≤ 2 * (n : Int) + (1 : Nat)
      have := g1.gen
      omega
    · show 0 ≤ (ps.length : Int) ∧ (ps.length : Int) ≤ 1200
      omega
    · show (0 : Int) ≤ 0 ∧ (0 : Int) ≤ 1300
      decide
  have eS : S.check hard = if hard = true then S4.sync else S4 := by
    unfold DS.check
    rw [← hS1, hS4, hps]
    rfl
  rw [eS]
  cases hard with
  | true => exact g4.sync
  | false => exact g4
theorem Gd.write {S : DS} {n : Nat} (h : Gd S n) {ch : List (Key × V)} (t : T9 ch) : Gd (S.write ch) (n + 1) := by
  unfold DS.write
  by_cases c : ch = []
  · rw [if_pos c]
    exact h.up (Nat.le_succ n)
  rw [if_neg c]
  obtain ⟨ps, hps⟩ : ∃ ps, ps = cutT (textOf ch) := ⟨_, rfl⟩
  have pl : ps.length ≤ 1190 := by rw [hps]; exact cut_few t.tab
  obtain ⟨S1, hS1⟩ : ∃ S1, S1 = if S.cnt > 0 ∧ S.cnt + ps.length > S.most then S.check true else S := ⟨_, rfl⟩
  have hm := h.most
  have hc := h.cnt
  obtain ⟨g1, cn⟩ : Gm S1 n 1200 1 ∧ S1.cnt + ps.length ≤ 1300 := by
    rw [hS1]
    by_cases q : S.cnt > 0 ∧ S.cnt + ps.length > S.most
    · rw [if_pos q]
      obtain ⟨_, _, _, e, _⟩ := check_same S
      exact ⟨h.check true, by rw [e]; omega⟩
    · rw [if_neg q]
      refine ⟨⟨h.t, h.full, h.n0, h.n1, h.c0, h.c1, by have := h.sz; omega, h.ar, h.side, by have := h.gen; omega, h.pcs, h.cnt, h.most, h.fal⟩, ?_⟩
      by_cases q0 : S.cnt > 0
      · have : ¬ S.cnt + ps.length > S.most := fun z => q ⟨q0, z⟩
        omega
      · omega
  have hc1 := g1.cnt
  have hp1 := g1.pcs
  have e : Gm { S1 with op := S1.op ++ rows S1.side S1.gen S1.pcs S1.cnt ps ps.length, cnt := S1.cnt + ps.length, kv := applyK S1.kv ch } n 2400 1 := by
    refine ⟨g1.t.apply t, Full.apply ch g1.full, g1.n0, g1.n1, g1.c0, g1.c1, ?_, fun q hq => ?_, g1.side, g1.gen, g1.pcs, ?_, g1.most, g1.fal⟩
    · show S1.m0.length + S1.m1.length + (S1.op ++ rows S1.side S1.gen S1.pcs S1.cnt ps ps.length).length ≤ _
      rw [List.length_append, rows_len]
      have := g1.sz
      omega
    · have hq : q ∈ S1.op ++ rows S1.side S1.gen S1.pcs S1.cnt ps ps.length := hq
      rcases List.mem_append.mp hq with hq | hq
      · exact g1.ar q hq
      · obtain ⟨j, hj, rfl⟩ := List.mem_map.mp hq
        have hj := List.mem_range.mp hj
        exact ⟨g1.side, by show (0 : Int) ≤ S1.pcs + (S1.cnt + (j : Int) + 1); omega, by show S1.pcs + (S1.cnt + (j : Int) + 1) ≤ 5000; omega⟩
    · show 0 ≤ S1.cnt + (ps.length : Int) ∧ S1.cnt + (ps.length : Int) ≤ 1300
      omega
  have r := e.gd (by decide) (by decide)
  rw [hS1, hps] at r
  exact r
/-! ### disk and own disk together -/
def plainO : HO → Prop
  | .lst _ => True
  | .dK _ => True
  | .ins _ _ _ => True
  | _ => False
/-- what is in G are lists, dicts, instances -/
def OD (G : Addr → Prop) (H : Hp) : Prop := ∀ b, G b → ∃ o, H b = some o ∧ plainO o
theorem OD.nt {G : Addr → Prop} {H : Hp} (h : OD G H) : NT G H := fun b xs hb e => by
  obtain ⟨o, q, p⟩ := h b hb
  rw [q] at e
  cases e
  exact p
theorem OD.al {G : Addr → Prop} {H : Hp} (h : OD G H) {b : Addr} (hb : G b) : ∃ o, H b = some o := by
  obtain ⟨o, e, _⟩ := h b hb
  exact ⟨o, e⟩
theorem OD.kp {F G : Addr → Prop} {H H' : Hp} (h : OD F H) (k : KpF G H H') (n : ∀ b, F b → ¬ G b) : OD F H' := fun b hb => by
  obtain ⟨o, e, p⟩ := h b hb
  exact ⟨o, k _ _ (n b hb) e, p⟩
theorem OD.or {F G : Addr → Prop} {H : Hp} (h : OD F H) (g : OD G H) : OD (fun b => F b ∨ G b) H := fun b hb => hb.elim (h b) (g b)
theorem bag_od {l g : Addr} {H : Hp} (B : Bag l H g) : OD (· = g) H := fun b hb => by
  obtain ⟨⟨xs, e⟩, _⟩ := B.there
  have hb : b = g := hb
  exact ⟨.lst xs, by rw [hb]; exact e, True.intro⟩
theorem bag_kp {F : Addr → Prop} {l g : Addr} {H H' : Hp} (B : Bag l H g) (k : KpF F H H') (n1 : ¬ F g) (n2 : ¬ F l) : Bag l H' g := by
  obtain ⟨ns, i, d, s, c, h1, h2, h3, r⟩ := B
  exact ⟨ns, i, d, s, c, k _ _ n1 h1, h2, k _ _ n2 h3, r⟩
theorem tabs_od {T : List (Addr × Str)} {G : Addr → Prop} {H H' : Hp} (o : OD G H) (k : KpF G H H') (t : LamX.Tabs T H) : LamX.Tabs T H' := fun p hp => by
  obtain ⟨ps, h1, h2, h3⟩ := t p hp
  refine ⟨ps, k _ _ (fun z => ?_) h1, h2, fun pos cv hc => ?_⟩
  · obtain ⟨u, e, q⟩ := o _ z
    rw [h1] at e
    cases e
    exact q
  · obtain ⟨c, e1, e2⟩ := h3 pos cv hc
    refine ⟨c, e1, k _ _ (fun z => ?_) e2⟩
    obtain ⟨u, e, q⟩ := o _ z
    rw [e2] at e
    have w := Option.some.inj e
    unfold LamX.CodeO at w
    subst w
    exact q
theorem DiskAt.tight {r : Ar} {F : Addr → Prop} {H : Hp} {d : Addr} {S : DS} (h : DiskAt r F H d S) : ∃ F', DiskAt r F' H d S ∧ OD F' H ∧ ∀ b, F' b → F b := by
  obtain ⟨dx, T, AA, A0, A1, U, ts, h⟩ := h
  have sub : ∀ b, (b = d ∨ b = T ∨ b = AA ∨ b = A0 ∨ b = A1 ∨ b = U) → F b := fun b z => by
    rcases z with rfl | rfl | rfl | rfl | rfl | rfl
    · exact h.fd
    · exact h.ft
    · exact h.faa
    · exact h.fa0
    · exact h.fa1
    · exact h.fu
  have od : OD (fun b => b = d ∨ b = T ∨ b = AA ∨ b = A0 ∨ b = A1 ∨ b = U) H := fun b z => by
    rcases z with rfl | rfl | rfl | rfl | rfl | rfl
    · exact ⟨_, h.hd, True.intro⟩
    · exact ⟨_, h.t, True.intro⟩
    · exact ⟨_, h.aa, True.intro⟩
    · exact ⟨_, h.a0, True.intro⟩
    · exact ⟨_, h.a1, True.intro⟩
    · exact ⟨_, h.u, True.intro⟩
  exact ⟨_, ⟨dx, T, AA, A0, A1, U, ts, h.hd, h.t, h.aa, h.a0, h.a1, h.u, h.op.mono' fun t q z => ⟨fun w => z.1 (sub t w), z.2⟩, .inl rfl, .inr (.inl rfl), .inr (.inr (.inl rfl)), .inr (.inr (.inr (.inl rfl))), .inr (.inr (.inr (.inr (.inl rfl)))), .inr (.inr (.inr (.inr (.inr rfl)))),
    h.n01, h.n0u, h.n1u, h.na0, h.na1, h.nau, fun b z => od.al z⟩, od, sub⟩
theorem OwnAt.tight {O N : Addr → Prop} {H : Hp} {o : Addr} {S : DS} (h : OwnAt O N H o S) : ∃ O', OwnAt O' N H o S ∧ OD O' H ∧ ∀ b, O' b → O b := by
  obtain ⟨sh, hd, C0, C1, op, ts, h⟩ := h
  have sub : ∀ b, (b = o ∨ b = sh ∨ b = C0 ∨ b = C1) → O b := fun b z => by
    rcases z with rfl | rfl | rfl | rfl
    · exact h.fo
    · exact h.fs
    · exact h.f0
    · exact h.f1
  have od : OD (fun b => b = o ∨ b = sh ∨ b = C0 ∨ b = C1) H := fun b z => by
    rcases z with rfl | rfl | rfl | rfl
    · exact ⟨_, h.eo, True.intro⟩
    · exact ⟨_, h.es, True.intro⟩
    · exact ⟨_, h.e0, True.intro⟩
    · exact ⟨_, h.e1, True.intro⟩
  exact ⟨_, ⟨sh, hd, C0, C1, op, ts, h.eo, h.es, h.eh, h.e0, h.e1, h.ep, h.ops, .inl rfl, .inr (.inl rfl), .inr (.inr (.inl rfl)), .inr (.inr (.inr rfl)), h.nh, h.np, h.os, h.o0, h.o1, h.s0, h.s1, h.c01,
    fun b z => z.elim (fun w => od.al w) fun w => h.al b (.inr w), fun b z => h.di b (sub b z)⟩, od, sub⟩
/-- the disk at d with the state S, the law's own one at o with the state W -/
structure Tw (r : Ar) (F O N : Addr → Prop) (H : Hp) (d o : Addr) (S W : DS) : Prop where
  D : DiskAt r F H d S
  W : OwnAt O N H o W
  fo : ∀ b, F b → ¬ O b
  fn : ∀ b, F b → ¬ N b
  df : OD F H
  dO : OD O H
theorem Tw.kp {r : Ar} {F O N G : Addr → Prop} {H H' : Hp} {d o : Addr} {S W : DS} (t : Tw r F O N H d o S W) (k : KpF G H H') (hG : OD G H) (n1 : ∀ b, F b → ¬ G b) (n2 : ∀ b, O b → ¬ G b) (n3 : ∀ b, N b → ¬ G b) : Tw r F O N H' d o S W := by
  obtain ⟨sh, hd, C0, C1, op, ts, h⟩ := t.W
  exact ⟨t.D.kp k n1 hG.nt, ⟨sh, hd, C0, C1, op, ts, h.kp k n2 n3⟩, t.fo, t.fn, t.df.kp k n1, t.dO.kp k n2⟩
theorem Tw.same {r : Ar} {F O N : Addr → Prop} {H H' : Hp} {d o : Addr} {S W : DS} (t : Tw r F O N H d o S W) (s : Same H H') : Tw r F O N H' d o S W :=
  t.kp (G := fun _ => False) (KpF.same s) (fun b z => z.elim) (fun _ _ z => z) (fun _ _ z => z) fun _ _ z => z
theorem Tw.alN {r : Ar} {F O N : Addr → Prop} {H : Hp} {d o : Addr} {S W : DS} (t : Tw r F O N H d o S W) {b : Addr} (h : N b) : ∃ u, H b = some u := by
  obtain ⟨sh, hd, C0, C1, op, ts, x⟩ := t.W
  exact x.al b (.inr h)
theorem Tw.disk {r : Ar} {F O N : Addr → Prop} {H H' : Hp} {d o : Addr} {S W S' : DS} (t : Tw r F O N H d o S W) (c : Chg r F H H' d S') : ∃ F', Tw r F' O N H' d o S' W ∧ KpF F H H' ∧ ∀ b, F' b → F b ∨ H b = none := by
  obtain ⟨F1, k, D1, f⟩ := c
  obtain ⟨F2, D2, od, sub⟩ := D1.tight
  have nO : ∀ b, O b → ¬ F b := fun b z w => t.fo b w z
  have nN : ∀ b, N b → ¬ F b := fun b z w => t.fn b w z
  obtain ⟨sh, hd, C0, C1, op, ts, h⟩ := t.W
  refine ⟨F2, ⟨D2, ⟨sh, hd, C0, C1, op, ts, h.kp k nO nN⟩, fun b z w => ?_, fun b z w => ?_, od, t.dO.kp k nO⟩, k, fun b z => f b (sub b z)⟩
  · rcases f b (sub b z) with q | q
    · exact t.fo b q w
    · obtain ⟨u, e⟩ := t.dO.al w
      rw [e] at q
      cases q
  · rcases f b (sub b z) with q | q
    · exact t.fn b q w
    · obtain ⟨u, e⟩ := h.al b (.inr w)
      rw [e] at q
      cases q
theorem Tw.own {r : Ar} {F O N : Addr → Prop} {H H' : Hp} {d o : Addr} {S W W' : DS} (t : Tw r F O N H d o S W) (c : ChgO O N H H' o W') : ∃ O' N', Tw r F O' N' H' d o S W' ∧ KpF O H H' ∧ (∀ b, O' b → O b) ∧ ∀ b, N' b → N b ∨ H b = none := by
  obtain ⟨N1, k, W1, f⟩ := c
  obtain ⟨O2, W2, od, sub⟩ := W1.tight
  refine ⟨O2, N1, ⟨t.D.kp k t.fo t.dO.nt, W2, fun b z w => t.fo b z (sub b w), fun b z w => ?_, t.df.kp k t.fo, od⟩, k, sub, f⟩
  rcases f b w with q | q
  · exact t.fn b z q
  · obtain ⟨u, e⟩ := t.df.al z
    rw [e] at q
    cases q
/-- with the bag and the tables of lambdas -/
structure Sit (r : Ar) (Tb : List (Addr × Str)) (F O N : Addr → Prop) (g l : Addr) (H : Hp) (d o : Addr) (S W : DS) : Prop where
  t : Tw r F O N H d o S W
  b : Bag l H g
  tb : LamX.Tabs Tb H
  fg : ¬ F g
  og : ¬ O g
  ng : ¬ N g
  fl : ¬ F l
  ol : ¬ O l
/-- what a row of deeds has changed -/
structure Ev (g : Addr) (F O N F' O' N' : Addr → Prop) (H H' : Hp) : Prop where
  k : KpF (fun b => F b ∨ O b ∨ b = g) H H'
  f : ∀ b, F' b → (F b ∨ O b ∨ b = g) ∨ H b = none
  o : ∀ b, O' b → (F b ∨ O b ∨ b = g) ∨ H b = none
  n : ∀ b, N' b → N b ∨ (F b ∨ O b ∨ b = g) ∨ H b = none
theorem Ev.refl (g : Addr) (F O N : Addr → Prop) (H : Hp) : Ev g F O N F O N H H := ⟨KpF.refl _ _, fun _ z => .inl (.inl z), fun _ z => .inl (.inr (.inl z)), fun _ z => .inl z⟩
theorem Ev.trans {g : Addr} {F O N F1 O1 N1 F2 O2 N2 : Addr → Prop} {H H1 H2 : Hp} (a : Ev g F O N F1 O1 N1 H H1) (b : Ev g F1 O1 N1 F2 O2 N2 H1 H2) : Ev g F O N F2 O2 N2 H H2 := by
  have z1 : ∀ c, (F1 c ∨ O1 c ∨ c = g) → (F c ∨ O c ∨ c = g) ∨ H c = none := fun c z => by
    rcases z with z | z | z
    · exact a.f c z
    · exact a.o c z
    · exact .inl (.inr (.inr z))
  have z0 : ∀ c, H1 c = none → (F c ∨ O c ∨ c = g) ∨ H c = none := fun c z => by
    by_cases w : F c ∨ O c ∨ c = g
    · exact .inl w
    · refine .inr ?_
      cases e : H c with
      | none => rfl
      | some u =>
        rw [a.k c u w e] at z
        cases z
  refine ⟨fun c o n e => ?_, fun c z => (b.f c z).elim (z1 c) (z0 c), fun c z => (b.o c z).elim (z1 c) (z0 c), fun c z => ?_⟩
  · refine b.k c o (fun z => ?_) (a.k c o n e)
    rcases z1 c z with q | q
    · exact n q
    · rw [e] at q
      cases q
  · rcases b.n c z with q | q | q
    · exact a.n c q
    · exact .inr (z1 c q)
    · exact .inr (z0 c q)
section
variable {r : Ar} {Tb : List (Addr × Str)} {F O N : Addr → Prop} {g l : Addr} {H H' : Hp} {d o : Addr} {S W S' W' : DS}
theorem Sit.ok (s : Sit r Tb F O N g l H d o S W) (k : Ok g l H H') : Sit r Tb F O N g l H' d o S W ∧ Ev g F O N F O N H H' := by
  have kf : KpF (· = g) H H' := fun b u n e => k.kp b u n e
  exact ⟨⟨s.t.kp kf (bag_od s.b) (fun b z w => s.fg (by have w : b = g := w; rw [← w]; exact z)) (fun b z w => s.og (by have w : b = g := w; rw [← w]; exact z)) (fun b z w => s.ng (by have w : b = g := w; rw [← w]; exact z)), k.bag, tabs_ok k s.tb, s.fg, s.og, s.ng, s.fl, s.ol⟩,
    kf.mono fun b z => .inr (.inr z), fun _ z => .inl (.inl z), fun _ z => .inl (.inr (.inl z)), fun _ z => .inl z⟩
theorem Sit.same (s : Sit r Tb F O N g l H d o S W) (k : Same H H') : Sit r Tb F O N g l H' d o S W ∧ Ev g F O N F O N H H' :=
  ⟨⟨s.t.same k, bag_same k s.b, s.tb.ext k, s.fg, s.og, s.ng, s.fl, s.ol⟩, KpF.same k, fun _ z => .inl (.inl z), fun _ z => .inl (.inr (.inl z)), fun _ z => .inl z⟩
theorem Sit.disk (s : Sit r Tb F O N g l H d o S W) (c : Chg r F H H' d S') : ∃ F', Sit r Tb F' O N g l H' d o S' W ∧ Ev g F O N F' O N H H' := by
  obtain ⟨F', t, k, f⟩ := s.t.disk c
  have al := s.b.there
  refine ⟨F', ⟨t, bag_kp s.b k s.fg s.fl, tabs_od s.t.df k s.tb, fun z => ?_, s.og, s.ng, fun z => ?_, s.ol⟩, k.mono fun b z => .inl z, fun b z => (f b z).imp .inl id, fun _ z => .inl (.inr (.inl z)), fun _ z => .inl z⟩
  · obtain ⟨⟨xs, e⟩, _⟩ := al
    exact (f g z).elim s.fg fun q => by rw [e] at q; cases q
  · obtain ⟨_, ⟨xs, e⟩⟩ := al
    exact (f l z).elim s.fl fun q => by rw [e] at q; cases q
theorem Sit.own (s : Sit r Tb F O N g l H d o S W) (c : ChgO O N H H' o W') : ∃ O' N', Sit r Tb F O' N' g l H' d o S W' ∧ Ev g F O N F O' N' H H' := by
  obtain ⟨O', N', t, k, sub, f⟩ := s.t.own c
  have al := s.b.there
  refine ⟨O', N', ⟨t, bag_kp s.b k s.og s.ol, tabs_od s.t.dO k s.tb, s.fg, fun z => s.og (sub g z), fun z => ?_, s.fl, fun z => s.ol (sub l z)⟩, k.mono fun b z => .inr (.inl z), fun _ z => .inl (.inl z), fun b z => .inl (.inr (.inl (sub b z))), fun b z => (f b z).imp id .inr⟩
  obtain ⟨⟨xs, e⟩, _⟩ := al
  exact (f g z).elim s.ng fun q => by rw [e] at q; cases q
/-- a thing of one's own that is none of theirs is changed -/
theorem Sit.mut (s : Sit r Tb F O N g l H d o S W) {C : Addr} {ks ks' : List (Key × V)} (hC : H C = some (.dK ks)) (n1 : ¬ F C) (n2 : ¬ O C) (n3 : ¬ N C) : Sit r Tb F O N g l (upd H C (.dK ks')) d o S W := by
  have k : KpF (· = C) H (upd H C (.dK ks')) := (KpF.refl _ _).upd rfl
  have od : OD (· = C) H := fun b z => by
    have z : b = C := z
    exact ⟨.dK ks, by rw [z]; exact hC, True.intro⟩
  have ne : ∀ {P : Addr → Prop}, ¬ P C → ∀ b, P b → ¬ b = C := fun n b z w => n (w ▸ z)
  obtain ⟨⟨xs, e⟩, ⟨ys, e'⟩⟩ := s.b.there
  exact ⟨s.t.kp k od (ne n1) (ne n2) (ne n3), bag_kp s.b k (fun z => by have z : g = C := z; rw [z, hC] at e; cases e) (fun z => by have z : l = C := z; rw [z, hC] at e'; cases e'), tabs_od od k s.tb, s.fg, s.og, s.ng, s.fl, s.ol⟩
end
/-- what lives and is none of theirs is none of theirs afterwards -/
theorem Ev.out {g : Addr} {F O N F' O' N' : Addr → Prop} {H H' : Hp} (a : Ev g F O N F' O' N' H H') {C : Addr} {u : HO} (hC : H C = some u) (n : ¬ (F C ∨ O C ∨ C = g)) : H' C = some u ∧ ¬ F' C ∧ ¬ O' C ∧ (¬ N C → ¬ N' C) := by
  have nn : ¬ H C = none := fun q => by rw [hC] at q; cases q
  exact ⟨a.k C u n hC, fun z => (a.f C z).elim n nn, fun z => (a.o C z).elim n nn, fun nN z => (a.n C z).elim nN fun w => w.elim n nn⟩
def kg1 {α : Type} (us ws : List α) : List α := match us, ws with | [s], [r] => [s, r] | _, _ => []
theorem srtK_sc {kv : List (Key × V)} (tb : Tab kv) : ∀ q ∈ srtK kv, (∀ u ∈ [kV q.1, q.2], Sc u) ∧ [kV q.1, q.2].length ≤ 1000000 := fun q hq => by
  unfold srtK at hq
  obtain ⟨z, hz, rfl⟩ := List.mem_map.mp hq
  have zm := (srt_perm _).mem_iff.mp hz
  obtain ⟨v, hv, vv⟩ := tb.at_ zm
  refine ⟨fun u hu => ?_, (by show 2 ≤ 1000000; decide)⟩
  rcases List.mem_cons.mp hu with rfl | hu
  · exact True.intro
  · rw [List.mem_singleton] at hu
    rw [hu, hv]
    rcases vv with rfl | ⟨w, rfl, _⟩
    · exact True.intro
    · exact True.intro
theorem srtK_len {kv : List (Key × V)} (tb : Tab kv) : (srtK kv).length ≤ 64 := by
  have fw := tb.few
  unfold srtK
  rw [List.length_map, (srt_perm _).length_eq, keysOf_len tb]
  omega
theorem Sit.fresh {r : Ar} {Tb : List (Addr × Str)} {F O N : Addr → Prop} {g l : Addr} {H : Hp} {d o : Addr} {S W : DS} (s : Sit r Tb F O N g l H d o S W) {C : Addr} (e : H C = none) : ¬ F C ∧ ¬ O C ∧ ¬ N C ∧ C ≠ g := by
  refine ⟨fun z => ?_, fun z => ?_, fun z => ?_, (s.b.ne e).1⟩
  · obtain ⟨u, q⟩ := s.t.df.al z
    rw [e] at q
    cases q
  · obtain ⟨u, q⟩ := s.t.dO.al z
    rw [e] at q
    cases q
  · obtain ⟨u, q⟩ := s.t.alN z
    rw [e] at q
    cases q
theorem Ev.new {g : Addr} {F O N F' O' N' : Addr → Prop} {H H' : Hp} (a : Ev g F O N F' O' N' H H') {C : Addr} {u : HO} (hC : H C = none) : Ev g F O N F' O' N' H (upd H' C u) :=
  ⟨fun b v n e => by
    rw [upd_ne (ne_of_none e hC)]
    exact a.k b v n e, a.f, a.o, a.n⟩
theorem same_mut {Hb H : Hp} {x : Addr} {o : HO} (s : Same Hb H) (hb : Hb x = none) : Same Hb (upd H x o) := fun c u e => by
  rw [upd_ne (ne_of_none e hb)]
  exact s _ _ e
section
variable {P : Program} {w : World} {K : PySem.W.Frag} {mg : Str → Option Value} {base : Heap}
/-- a def with defaults, by its body -/
theorem okD {x qual : Str} {st : Stmt} {f : Addr} {fd : FuncData} {N ps : List Str} {k : Nat} {sp : Sp} {dvs : List V} {kws : List (Str × V)} (F : FunD K x qual (defArgs st) (defBody st) (defScope st) dvs kws f fd) (S : FnScope N ps (defScope st)) (len : ∀ vs H Q E, sp vs H Q E → vs.length = ps.length)
    (hbody : ∀ (cdv : Value) (A : Around) (outer : List Env) (s : Shared) (H : Hp) (vs : List V) (Q : VK) (E : XK), Room k (A.deeper (PyProof.Rows.envOfC qual (defScope st) s.heap.objs.size f cdv)) → sp vs H Q E →
      ∃ t, PSs (cxOf CX0 P w K mg base N qual (defScope st) f cdv A outer s H E).nox (defBody st) t ∧ t { nx := fun _ H' => Q .non H', rt := Q } (start N vs) H) : FnOk P w K mg base CX0 (k + 1) f fd ps sp := by
  obtain ⟨oc, od, dV, kV, doc, pm, an, cdv, ct, osl, rfl, lk, hcd, _, _⟩ := F.ex
  refine fn_of lk hcd S len fun A outer s H vs Q E hr hsp => ?_
  obtain ⟨t, h, q⟩ := hbody cdv A outer s H vs Q E hr hsp
  exact ⟨t, h.nox, q⟩
end
/-! ### a new disk -/
theorem valV_app_neg {X : List (Key × V)} {k : Key} {v : V} (h : valV X k = none) (j : Key) : valV (X ++ [(k, v)]) j = valV ((k, v) :: X) j := by
  rw [valV_snoc k j v X h]
  by_cases c : j = k
  · rw [if_pos c, valV_pos (by exact c.symm)]
  · rw [if_neg c, valV_neg (fun z => c z.symm)]
theorem cells_rot {X : List (Key × V)} {k : Key} {v : V} (h : valV X k = none) : cells (X ++ [(k, v)]) = cells ((k, v) :: X) := by
  have b : bnd (X ++ [(k, v)]) = bnd ((k, v) :: X) := by
    rw [bnd_app]
    show max (bnd X) (kN (k, v)) = max (kN (k, v)) (bnd X)
    omega
  unfold cells
  rw [b]
  refine List.map_congr_left fun j _ => ?_
  unfold cellV
  rw [valV_app_neg h]
def pcs0 (ps : List Str) (n : Nat) : List (Key × V) := (List.range n).map fun i : Nat => (Sum.inl ((i : Int) + 1), V.str (pieceT 1 ((i : Int) + 1) (ps.getD i "")))
def m0L (ps : List Str) : List (Key × V) := (Sum.inl 0, V.str (headT 1 ps.length)) :: pcs0 ps ps.length
theorem pcs0_none {ps : List Str} {n : Nat} {j : Int} (h : j = 0 ∨ (n : Int) < j) : valV (pcs0 ps n) (Sum.inl j : Key) = none := by
  cases e : valV (pcs0 ps n) (Sum.inl j : Key) with
  | none => rfl
  | some v =>
    obtain ⟨p, hp, e1, _⟩ := valV_mem e
    obtain ⟨i, hi, rfl⟩ := List.mem_map.mp hp
    have hi := List.mem_range.mp hi
    have e1 : (Sum.inl ((i : Int) + 1) : Key) = Sum.inl j := e1
    have := Sum.inl.inj e1
    omega
theorem pcs0_len (ps : List Str) (n : Nat) : (pcs0 ps n).length = n := by unfold pcs0; rw [List.length_map, List.length_range]
theorem pcs0_put (ps : List Str) (n : Nat) : putK (pcs0 ps n) (Sum.inl ((n : Int) + 1)) (V.str (pieceT 1 ((n : Int) + 1) (ps.getD n ""))) = pcs0 ps (n + 1) := by
  rw [putK_new _ (pcs0_none (.inr (by omega)))]
  unfold pcs0
  rw [List.range_succ, List.map_append]
  rfl
theorem fold_pcs (ps : List Str) (S : DS) (h0 : S.m0 = []) : ∀ n, ((fresh 0 1 ps n).foldl DS.keep S).m0 = pcs0 ps n ∧ ((fresh 0 1 ps n).foldl DS.keep S).m1 = S.m1
  | 0 => ⟨h0, rfl⟩
  | n + 1 => by
    obtain ⟨a, b⟩ := fold_pcs ps S h0 n
    have e : fresh 0 1 ps (n + 1) = fresh 0 1 ps n ++ [(0, (n : Int) + 1, pieceT 1 ((n : Int) + 1) (ps.getD n ""))] := by
      unfold fresh
      rw [List.range_succ, List.map_append]
      rfl
    rw [e, List.foldl_append, List.foldl_cons, List.foldl_nil, keep_0 (q := (0, _, _)) rfl]
    refine ⟨?_, b⟩
    show putK _ _ _ = _
    rw [a]
    exact pcs0_put ps n
def newS (kv : List (Key × V)) (m : Int) : DS := ⟨kv, m0L (cutT (textOf kv)), [], [], m, 0, 1, (cutT (textOf kv)).length, 0, 0, false⟩
def bornS (kv : List (Key × V)) (m : Int) : DS := ⟨kv, [], [], [], m, 1, 0, 0, 0, 0, false⟩
theorem born_check (kv : List (Key × V)) (m : Int) : cells ((bornS kv m).check true).m0 = cells (newS kv m).m0 ∧ { (bornS kv m).check true with m0 := (newS kv m).m0, syn := 0 } = newS kv m := by
  obtain ⟨ps, hps⟩ : ∃ ps, ps = cutT (textOf kv) := ⟨_, rfl⟩
  obtain ⟨S4, hS4⟩ : ∃ S4 : DS, S4 = ⟨kv, [], [], fresh 0 1 ps ps.length ++ [(0, 0, headT 1 ps.length)], m, 0, 1, ps.length, 0, 0, false⟩ := ⟨_, rfl⟩
  have e : (bornS kv m).check true = S4.sync := by
    rw [hS4, hps]
    rfl
  have f : S4.sync = { S4.op.foldl DS.keep S4 with op := [], syn := S4.syn + 1 } := by
    unfold DS.sync
    rw [if_neg]
    intro z
    have := congrArg List.length z
    rw [hS4] at this
    have q : (fresh 0 1 ps ps.length ++ [((0 : Int), (0 : Int), headT 1 ps.length)]).length = 0 := this
    rw [List.length_append] at q
    exact absurd q (by show ¬ _ + 1 = 0; omega)
  obtain ⟨a, b⟩ := fold_pcs ps S4 (by rw [hS4]) ps.length
  have g0 : (S4.op.foldl DS.keep S4).m0 = pcs0 ps ps.length ++ [(Sum.inl 0, V.str (headT 1 ps.length))] := by
    have eo : S4.op = fresh 0 1 ps ps.length ++ [(0, 0, headT 1 ps.length)] := by rw [hS4]
    rw [eo, List.foldl_append, List.foldl_cons, List.foldl_nil, keep_0 (q := (0, _, _)) rfl]
    show putK _ _ _ = _
    rw [a, putK_new _ (pcs0_none (.inl rfl))]
  have g1 : (S4.op.foldl DS.keep S4).m1 = [] := by
    have eo : S4.op = fresh 0 1 ps ps.length ++ [(0, 0, headT 1 ps.length)] := by rw [hS4]
    rw [eo, List.foldl_append, List.foldl_cons, List.foldl_nil, keep_0 (q := (0, _, _)) rfl]
    show (List.foldl DS.keep S4 (fresh 0 1 ps ps.length)).m1 = _
    rw [b, hS4]
  obtain ⟨f1, f2, f3, f4, f5, f6, f7, f8⟩ := fold_same S4.op S4
  rw [e, f]
  refine ⟨?_, ?_⟩
  · show cells (S4.op.foldl DS.keep S4).m0 = cells (m0L (cutT (textOf kv)))
    rw [g0, ← hps]
    exact cells_rot (pcs0_none (.inl rfl))
  · show DS.mk (S4.op.foldl DS.keep S4).kv (m0L (cutT (textOf kv))) (S4.op.foldl DS.keep S4).m1 [] (S4.op.foldl DS.keep S4).most (S4.op.foldl DS.keep S4).side (S4.op.foldl DS.keep S4).gen (S4.op.foldl DS.keep S4).pcs (S4.op.foldl DS.keep S4).cnt 0 (S4.op.foldl DS.keep S4).fal = newS kv m
    rw [fold_fal, f1, f3, f4, f5, f6, f7, g1, hS4, hps]
    rfl
/-- a disk whose cells are the same is the same -/
theorem DiskX.alike {r : Ar} {F : Addr → Prop} {H : Hp} {d : Addr} {S : DS} {dx T AA A0 A1 U : Addr} {ts : List Addr} (h : DiskX r F H d S dx T AA A0 A1 U ts) {M : List (Key × V)} (e : cells S.m0 = cells M) : DiskX r F H d { S with m0 := M } dx T AA A0 A1 U ts :=
  ⟨h.hd, h.t, h.aa, by show H A0 = some (.lst (cells M)); rw [← e]; exact h.a0, h.a1, h.u, h.op, h.fd, h.ft, h.faa, h.fa0, h.fa1, h.fu, h.n01, h.n0u, h.n1u, h.na0, h.na1, h.nau, h.al⟩
theorem newS_gd {kv : List (Key × V)} {m : Int} (t : T9 kv) (f : Full kv) (h0 : 1 ≤ m) (h1 : m ≤ 64) : Gd (newS kv m) 1 := by
  have pl : (cutT (textOf kv)).length ≤ 1190 := cut_few t.tab
  obtain ⟨ps, hps⟩ : ∃ ps, ps = cutT (textOf kv) := ⟨_, rfl⟩
  have e : newS kv m = ⟨kv, m0L ps, [], [], m, 0, 1, ps.length, 0, 0, false⟩ := by rw [hps]; rfl
  rw [← hps] at pl
  rw [e]
  have kc : KC (m0L ps) := fun p hp => by
    rcases List.mem_cons.mp hp with rfl | hp
    · exact ⟨0, rfl, by decide, _, rfl⟩
    · obtain ⟨i, hi, rfl⟩ := List.mem_map.mp hp
      have hi := List.mem_range.mp hi
      exact ⟨i + 1, by show (Sum.inl ((i : Int) + 1) : Key) = Sum.inl ((i + 1 : Nat) : Int); rw [show ((i + 1 : Nat) : Int) = (i : Int) + 1 by omega], by omega, _, rfl⟩
  have nd : ((m0L ps).map (·.1)).Nodup := by
    show ((Sum.inl 0 : Key) :: (pcs0 ps ps.length).map (·.1)).Nodup
    rw [List.nodup_cons]
    refine ⟨fun z => ?_, ?_⟩
    · obtain ⟨p, hp, e1⟩ := List.mem_map.mp z
      obtain ⟨i, hi, rfl⟩ := List.mem_map.mp hp
      have e1 : (Sum.inl ((i : Int) + 1) : Key) = Sum.inl 0 := e1
      have := Sum.inl.inj e1
      omega
    · unfold pcs0
      rw [List.map_map]
      refine List.pairwise_map.mpr (List.nodup_range.imp fun {a b} n z => n ?_)
      have z : (Sum.inl ((a : Int) + 1) : Key) = Sum.inl ((b : Int) + 1) := z
      have := Sum.inl.inj z
      omega
  refine ⟨t, f, nd, List.nodup_nil, kc, (fun p hp => by cases hp), ?_, (fun q hq => by cases hq), .inl rfl, ⟨by show (0 : Int) ≤ 1; decide, by show (1 : Int) ≤ 2 * ((1 : Nat) : Int); decide⟩, ⟨by show (0 : Int) ≤ (ps.length : Int); omega, by show (ps.length : Int) ≤ 1200; omega⟩, ⟨by show (0 : Int) ≤ 0; decide, by show (0 : Int) ≤ 1300; decide⟩, ⟨h0, h1⟩, rfl⟩
  show ((pcs0 ps ps.length).length + 1) + 0 + 0 ≤ 4000 * 1
  rw [pcs0_len]
  omega
def kgR {α : Type} (us ws : List α) : List α := match us, ws with | [s, t], [r] => [s, t, r] | _, _ => []
def kgT {α : Type} (us ws : List α) : List α := match us, ws with | [s], [r, t] => [s, t, r] | _, _ => []
theorem Sit.make {r : Ar} {Tb : List (Addr × Str)} {F O N : Addr → Prop} {g l : Addr} {H0 H1 H2 : Hp} {d o : Addr} {S : DS} (B : Bag l H0 g) (tb : LamX.Tabs Tb H0) (s1 : Same H0 H1) (D : DiskAt r F H1 d S) (f : ∀ b, F b → H0 b = none) (s2 : Same H1 H2) (W : OwnAt O N H2 o S) (fo : ∀ b, O b → H1 b = none) (fn : ∀ b, N b → H1 b = none) :
    ∃ F' O', Sit r Tb F' O' N g l H2 d o S S ∧ (∀ b, F' b → H0 b = none) ∧ (∀ b, O' b → H0 b = none) ∧ ∀ b, N b → H0 b = none := by
  obtain ⟨F', D', df, sf⟩ := D.tight
  obtain ⟨O', W', do', so⟩ := W.tight
  have s := s1.trans s2
  obtain ⟨⟨xs, e⟩, ⟨ys, e'⟩⟩ := B.there
  have nF : ∀ b, F' b → H0 b = none := fun b z => f b (sf b z)
  have nO : ∀ b, O' b → H0 b = none := fun b z => s1.free (fo b (so b z))
  have nN : ∀ b, N b → H0 b = none := fun b z => s1.free (fn b z)
  have no : ∀ {P : Addr → Prop} {x : Addr} {u : HO}, (∀ b, P b → H0 b = none) → H0 x = some u → ¬ P x := fun h e z => by
    rw [h _ z] at e
    cases e
  have df' : OD F' H2 := fun b z => by
    obtain ⟨u, q, p⟩ := df b z
    exact ⟨u, s2 _ _ q, p⟩
  refine ⟨F', O', ⟨⟨D'.same s2, W', fun b z w => ?_, fun b z w => ?_, df', do'⟩, bag_same s B, tb.ext s, no nF e, no nO e, no nN e, no nF e', no nO e'⟩, nF, nO, nN⟩
  · obtain ⟨u, q⟩ := df.al z
    rw [fo b (so b w)] at q
    cases q
  · obtain ⟨u, q⟩ := df.al z
    rw [fn b w] at q
    cases q
/-! ### the law's pairs -/
structure PR where
  (F O N : Addr → Prop)
  (d o t : Addr)
  S : DS
structure LI (r : Ar) (Tb : List (Addr × Str)) (g l : Addr) (H : Hp) (pl : Addr) (ps : List PR) (n : Nat) : Prop where
  ep : H pl = some (.lst (ps.map fun p => V.ref p.t))
  ng : pl ≠ g
  nl : pl ≠ l
  b : Bag l H g
  tb : LamX.Tabs Tb H
  s : ∀ (i : Nat) (p : PR), ps[i]? = some p → Sit r Tb p.F p.O p.N g l H p.d p.o p.S p.S ∧ Gd p.S n ∧ H p.t = some (.tup [.ref p.d, .ref p.o]) ∧ ¬ p.F pl ∧ ¬ p.O pl ∧ ¬ p.N pl
  dj : ∀ (i j : Nat) (p q : PR), ps[i]? = some p → ps[j]? = some q → i ≠ j → ∀ b, (q.F b ∨ q.O b ∨ q.N b) → ¬ (p.F b ∨ p.O b)
section
variable {r : Ar} {Tb : List (Addr × Str)} {g l : Addr} {H H' : Hp} {pl : Addr} {ps : List PR} {n : Nat}
theorem LI.ok (h : LI r Tb g l H pl ps n) (k : Ok g l H H') : LI r Tb g l H' pl ps n := by
  refine ⟨k.kp _ _ h.ng h.ep, h.ng, h.nl, k.bag, tabs_ok k h.tb, fun i p hp => ?_, h.dj⟩
  obtain ⟨s, gd, et, a, b, c⟩ := h.s i p hp
  refine ⟨(s.ok k).1, gd, k.kp _ _ (fun z => ?_) et, a, b, c⟩
  obtain ⟨⟨xs, e⟩, _⟩ := h.b.there
  rw [z, e] at et
  cases et
theorem LI.same (h : LI r Tb g l H pl ps n) (k : Same H H') : LI r Tb g l H' pl ps n := by
  refine ⟨k _ _ h.ep, h.ng, h.nl, bag_same k h.b, h.tb.ext k, fun i p hp => ?_, h.dj⟩
  obtain ⟨s, gd, et, a, b, c⟩ := h.s i p hp
  exact ⟨(s.same k).1, gd, k _ _ et, a, b, c⟩
theorem LI.step (h : LI r Tb g l H pl ps n) {i : Nat} {p : PR} (hp : ps[i]? = some p) {F' O' N' : Addr → Prop} {S' : DS} (st : Sit r Tb F' O' N' g l H' p.d p.o S' S') (gd : Gd S' (n + 1)) (ev : Ev g p.F p.O p.N F' O' N' H H') :
    LI r Tb g l H' pl (ps.set i ⟨F', O', N', p.d, p.o, p.t, S'⟩) (n + 1) := by
  obtain ⟨sp, gp, ep, fp, op, np⟩ := h.s i p hp
  have od : OD (fun b => p.F b ∨ p.O b ∨ b = g) H := sp.t.df.or (sp.t.dO.or (bag_od h.b))
  have il : i < ps.length := (List.getElem?_eq_some_iff.mp hp).1
  have zpl : ¬ (p.F pl ∨ p.O pl ∨ pl = g) := fun z => z.elim fp fun z => z.elim op h.ng
  have zt : ∀ {t : Addr} {xs : List V}, H t = some (.tup xs) → ¬ (p.F t ∨ p.O t ∨ t = g) := fun e z => od.nt _ _ z e
  have out := ev.out h.ep zpl
  have al : ∀ {q : PR} {j : Nat}, ps[j]? = some q → ∀ b, (q.F b ∨ q.O b ∨ q.N b) → ∃ u, H b = some u := fun {q j} hq b z => by
    obtain ⟨sq, _⟩ := h.s j q hq
    rcases z with z | z | z
    · exact sq.t.df.al z
    · exact sq.t.dO.al z
    · exact sq.t.alN z
  have nz : ∀ {q : PR} {j : Nat}, ps[j]? = some q → i ≠ j → ∀ b, (q.F b ∨ q.O b ∨ q.N b) → ¬ (p.F b ∨ p.O b ∨ b = g) := fun {q j} hq ne b z w => by
    obtain ⟨sq, _⟩ := h.s j q hq
    rcases w with w | w | w
    · exact h.dj i j p q hp hq ne b z (.inl w)
    · exact h.dj i j p q hp hq ne b z (.inr w)
    · subst w
      exact z.elim sq.fg fun z => z.elim sq.og sq.ng
  have at_ : ∀ {j : Nat} {q : PR}, (ps.set i ⟨F', O', N', p.d, p.o, p.t, S'⟩)[j]? = some q → (j = i ∧ q = ⟨F', O', N', p.d, p.o, p.t, S'⟩) ∨ (i ≠ j ∧ ps[j]? = some q) := fun {j q} e => by
    rw [List.getElem?_set] at e
    by_cases c : i = j
    · rw [if_pos c, if_pos (by exact il)] at e
      exact .inl ⟨c.symm, (Option.some.inj e).symm⟩
    · rw [if_neg c] at e
      exact .inr ⟨c, e⟩
  refine ⟨?_, h.ng, h.nl, st.b, st.tb, fun j q hq => ?_, fun j k q q' hq hq' ne b z w => ?_⟩
  · rw [out.1]
    congr 2
    refine List.ext_getElem? fun j => ?_
    rw [List.getElem?_map, List.getElem?_map, List.getElem?_set]
    by_cases c : i = j
    · subst c
      rw [if_pos rfl, if_pos il, hp]
      rfl
    · rw [if_neg c]
  · rcases at_ hq with ⟨rfl, rfl⟩ | ⟨ne, hq⟩
    · exact ⟨st, gd, ev.k _ _ (zt ep) ep, out.2.1, out.2.2.1, out.2.2.2 np⟩
    · obtain ⟨sq, gq, eq, a, b, c⟩ := h.s j q hq
      refine ⟨⟨sq.t.kp ev.k od (fun b z => nz hq ne b (.inl z)) (fun b z => nz hq ne b (.inr (.inl z))) (fun b z => nz hq ne b (.inr (.inr z))), st.b, st.tb, sq.fg, sq.og, sq.ng, sq.fl, sq.ol⟩, gq.up (Nat.le_succ n), ev.k _ _ (zt eq) eq, a, b, c⟩
  · rcases at_ hq with ⟨rfl, rfl⟩ | ⟨n1, hq1⟩
    · rcases at_ hq' with ⟨e, _⟩ | ⟨n2, hq'⟩
      · exact ne e.symm
      · obtain ⟨u, e⟩ := al hq' b z
        have o := ev.out e (nz hq' n2 b z)
        exact w.elim o.2.1 o.2.2.1
    · rcases at_ hq' with ⟨rfl, rfl⟩ | ⟨n2, hq2⟩
      · have zq : q.F b ∨ q.O b ∨ q.N b := w.elim .inl fun w => .inr (.inl w)
        obtain ⟨u, e⟩ := al hq1 b zq
        have nZ := nz hq1 n1 b zq
        have dead : ¬ H b = none := fun y => by rw [e] at y; cases y
        rcases z with z | z | z
        · exact (ev.f b z).elim nZ dead
        · exact (ev.o b z).elim nZ dead
        · rcases ev.n b z with z | z
          · exact h.dj j k q p hq1 hp (Ne.symm n1) b (.inr (.inr z)) w
          · exact z.elim nZ dead
      · exact h.dj j k q q' hq1 hq2 ne b z w
theorem Sit.mutG {F O N : Addr → Prop} {d o : Addr} {S W : DS} (s : Sit r Tb F O N g l H d o S W) {C : Addr} {u u' : HO} (hC : H C = some u) (pu : plainO u) (n1 : ¬ F C) (n2 : ¬ O C) (n3 : ¬ N C) (cg : C ≠ g) (cl : C ≠ l) : Sit r Tb F O N g l (upd H C u') d o S W := by
  have k : KpF (· = C) H (upd H C u') := (KpF.refl _ _).upd rfl
  have od : OD (· = C) H := fun b z => by
    have z : b = C := z
    exact ⟨u, by rw [z]; exact hC, pu⟩
  have ne : ∀ {P : Addr → Prop}, ¬ P C → ∀ b, P b → ¬ b = C := fun n b z w => n (w ▸ z)
  exact ⟨s.t.kp k od (ne n1) (ne n2) (ne n3), bag_kp s.b k (Ne.symm cg) (Ne.symm cl), tabs_od od k s.tb, s.fg, s.og, s.ng, s.fl, s.ol⟩
theorem LI.add (h : LI r Tb g l H pl ps n) {q : PR} (sq : Sit r Tb q.F q.O q.N g l H q.d q.o q.S q.S) (gq : Gd q.S n) (eq : H q.t = some (.tup [.ref q.d, .ref q.o])) (n1 : ¬ q.F pl) (n2 : ¬ q.O pl) (n3 : ¬ q.N pl)
    (d1 : ∀ (i : Nat) (p : PR), ps[i]? = some p → ∀ b, (q.F b ∨ q.O b ∨ q.N b) → ¬ (p.F b ∨ p.O b)) (d2 : ∀ (i : Nat) (p : PR), ps[i]? = some p → ∀ b, (p.F b ∨ p.O b ∨ p.N b) → ¬ (q.F b ∨ q.O b)) :
    LI r Tb g l (upd H pl (.lst (ps.map (fun p => V.ref p.t) ++ [.ref q.t]))) pl (ps ++ [q]) n := by
  have at_ : ∀ {j : Nat} {p : PR}, (ps ++ [q])[j]? = some p → (j < ps.length ∧ ps[j]? = some p) ∨ (j = ps.length ∧ p = q) := fun {j p} e => by
    by_cases c : j < ps.length
    · rw [List.getElem?_append_left c] at e
      exact .inl ⟨c, e⟩
    · rw [List.getElem?_append_right (by omega)] at e
      by_cases c2 : j = ps.length
      · rw [c2, Nat.sub_self] at e
        exact .inr ⟨c2, (Option.some.inj e).symm⟩
      · rw [List.getElem?_eq_none (by show 1 ≤ _; omega)] at e
        cases e
  have tne : ∀ {t : Addr} {xs : List V}, H t = some (.tup xs) → t ≠ pl := fun e z => by
    rw [z, h.ep] at e
    cases e
  have mt := sq.mutG (u' := .lst (ps.map (fun p => V.ref p.t) ++ [.ref q.t])) h.ep True.intro n1 n2 n3 h.ng h.nl
  refine ⟨by rw [upd_same, List.map_append]; rfl, h.ng, h.nl, mt.b, mt.tb, fun i p hp => ?_, fun i j p p' hp hp' ne => ?_⟩
  · rcases at_ hp with ⟨_, hp⟩ | ⟨_, rfl⟩
    · obtain ⟨s, gp, ep, a, b, c⟩ := h.s i p hp
      exact ⟨s.mutG h.ep True.intro a b c h.ng h.nl, gp, by rw [upd_ne (tne ep)]; exact ep, a, b, c⟩
    · exact ⟨mt, gq, by rw [upd_ne (tne eq)]; exact eq, n1, n2, n3⟩
  · rcases at_ hp with ⟨l1, hp1⟩ | ⟨l1, rfl⟩
    · rcases at_ hp' with ⟨l2, hp2⟩ | ⟨l2, rfl⟩
      · exact h.dj i j p p' hp1 hp2 ne
      · exact d1 i p hp1
    · rcases at_ hp' with ⟨l2, hp2⟩ | ⟨l2, rfl⟩
      · exact d2 j p' hp2
      · exact absurd (l1.trans l2.symm) ne
end
/-- a pair's copy -/
theorem Sit.twin {r : Ar} {Tb : List (Addr × Str)} {F O N F2 O2 N2 : Addr → Prop} {g l : Addr} {H H1 H2 : Hp} {d o y o2 : Addr} {S : DS} (s : Sit r Tb F O N g l H d o S S) (s1 : Same H H1) (D2 : DiskAt r F2 H1 y S) (f2 : ∀ b, F2 b → H b = none) (s2 : Same H1 H2) (W2 : OwnAt O2 N2 H2 o2 S) (fo : ∀ b, O2 b → H1 b = none) (fn : ∀ b, N2 b → N b ∨ H1 b = none) :
    ∃ F' O', Sit r Tb F' O' N2 g l H2 y o2 S S ∧ (∀ b, F' b → H b = none) ∧ (∀ b, O' b → H b = none) ∧ ∀ b, N2 b → N b ∨ H b = none := by
  obtain ⟨F', D', df, sf⟩ := D2.tight
  obtain ⟨O', W', do', so⟩ := W2.tight
  have ss := s1.trans s2
  obtain ⟨⟨xs, e⟩, ⟨ys, e'⟩⟩ := s.b.there
  have nF : ∀ b, F' b → H b = none := fun b z => f2 b (sf b z)
  have nO : ∀ b, O' b → H b = none := fun b z => s1.free (fo b (so b z))
  have nN : ∀ b, N2 b → N b ∨ H b = none := fun b z => (fn b z).imp id s1.free
  have no : ∀ {P : Addr → Prop} {x : Addr} {u : HO}, (∀ b, P b → H b = none) → H x = some u → ¬ P x := fun h e z => by
    rw [h _ z] at e
    cases e
  have df' : OD F' H2 := fun b z => by
    obtain ⟨u, q, p⟩ := df b z
    exact ⟨u, s2 _ _ q, p⟩
  refine ⟨F', O', ⟨⟨D'.same s2, W', fun b z w => ?_, fun b z w => ?_, df', do'⟩, bag_same ss s.b, s.tb.ext ss, no nF e, no nO e, (fun z => (nN g z).elim s.ng fun q => (by rw [e] at q; cases q)), no nF e', no nO e'⟩, nF, nO, nN⟩
  · obtain ⟨u, q⟩ := df.al z
    rw [fo b (so b w)] at q
    cases q
  · obtain ⟨u, q⟩ := df.al z
    rcases fn b w with v | v
    · obtain ⟨u', q'⟩ := s.t.alN v
      rw [nF b z] at q'
      cases q'
    · rw [v] at q
      cases q
theorem LI.one {r : Ar} {Tb : List (Addr × Str)} {g l : Addr} {H : Hp} {F O N : Addr → Prop} {d o t pl : Addr} {S : DS} {n : Nat} (s : Sit r Tb F O N g l H d o S S) (gd : Gd S n) (ht : H t = none) (hp : upd H t (.tup [.ref d, .ref o]) pl = none) :
    LI r Tb g l (upd (upd H t (.tup [.ref d, .ref o])) pl (.lst [.ref t])) pl [⟨F, O, N, d, o, t, S⟩] n := by
  have s1 := (s.same (same_new (o := .tup [.ref d, .ref o]) ht)).1
  obtain ⟨f1, f2, f3, f4⟩ := s1.fresh hp
  have s2 := (s1.same (same_new (o := .lst [.ref t]) hp)).1
  refine ⟨upd_same, f4, (s1.b.ne hp).2, s2.b, s2.tb, fun i p e => ?_, fun i j p q e1 e2 ne => ?_⟩
  · match i, e with
    | 0, e =>
      cases e
      exact ⟨s2, gd, by rw [upd_ne (ne_of_none upd_same hp)]; exact upd_same, f1, f2, f3⟩
  · match i, j, e1, e2 with
    | 0, 0, _, _ => exact absurd rfl ne
open TL
/-! ### texts of cells, and what is read from them -/
theorem tl_empty : tl Str.empty = [] := rfl
theorem tl_sp : tl (" " : Str) = [32] := by decide +kernel
theorem tl_semi : tl (";" : Str) = [59] := by decide +kernel
theorem tl_eq : tl ("=" : Str) = [61] := by decide +kernel
theorem starts_pre (x y : Str) : Txt.startswith x y = pre (tl y) (tl x) := by
  unfold Txt.startswith
  rw [StrLaws.subAt_eq, List.drop_zero]
  unfold pre
  rw [show (tl y).length = y.length from (len_tl y).symm]
  by_cases h : y.length ≤ x.length
  · rw [decide_eq_true (show 0 + y.length ≤ x.length by omega), Bool.true_and]
  · rw [decide_eq_false (show ¬ 0 + y.length ≤ x.length by omega), Bool.false_and]
    cases q : ((tl x).take y.length == tl y) with
    | false => rfl
    | true =>
      have e := congrArg List.length (eq_of_beq q)
      rw [List.length_take, ← len_tl, ← len_tl] at e
      omega
theorem tl_cut_from (z : Str) (n : Nat) : tl (cutS z (some (n : Int)) none) = (tl z).drop n := by
  have lz := len_tl z
  show ((tl z).drop (HT.sIx z.length 0 (some (n : Int)))).take (z.length - HT.sIx z.length 0 (some (n : Int))) = _
  rw [HT.sIx_nat, List.take_of_length_le (by rw [List.length_drop]; omega)]
  by_cases h : n ≤ z.length
  · rw [Nat.min_eq_left h]
  · rw [Nat.min_eq_right (by omega), List.drop_of_length_le (by omega), List.drop_of_length_le (by omega)]
theorem pre_eq (S l : List Nat) : pre S l = true ↔ ∃ r, l = S ++ r := by
  unfold pre
  rw [beq_iff_eq]
  constructor
  · intro h
    exact ⟨l.drop S.length, by rw [← List.take_append_drop S.length l, h, List.drop_left]⟩
  · rintro ⟨r, rfl⟩
    exact List.take_left ..
/-- a run free of s, then s: told alike on both sides -/
theorem run_eq {s : Nat} : ∀ {a b : List Nat} {r q : List Nat}, s ∉ a → s ∉ b → a ++ s :: r = b ++ s :: q → a = b ∧ r = q
  | [], [], r, q, _, _, e => ⟨rfl, by cases e; rfl⟩
  | [], c :: b, r, q, _, hb, e => by
    cases e
    exact absurd (List.mem_cons_self ..) hb
  | c :: a, [], r, q, ha, _, e => by
    cases e
    exact absurd (List.mem_cons_self ..) ha
  | c :: a, d :: b, r, q, ha, hb, e => by
    injection e with e1 e2
    obtain ⟨h1, h2⟩ := run_eq (fun z => ha (List.mem_cons_of_mem _ z)) (fun z => hb (List.mem_cons_of_mem _ z)) e2
    exact ⟨by rw [e1, h1], h2⟩
theorem n32 (n : Nat) : (32 : Nat) ∉ numL n := numL_free (.inl (by decide))
def wHead : List Nat := [104, 101, 97, 100]
def wPiece : List Nat := [112, 105, 101, 99, 101]
def wRow : List Nat := [114, 111, 119]
theorem tl_whead : tl ("head " : Str) = wHead ++ [32] := by decide +kernel
theorem tl_wpiece : tl ("piece " : Str) = wPiece ++ [32] := by decide +kernel
theorem tl_wrow : tl ("row " : Str) = wRow ++ [32] := by decide +kernel
theorem tl_toS (n : Nat) : tl ((toString ((n : Nat) : Int) : String) : Str) = numL n := tl_num n
theorem tl_head (g c : Nat) : tl (headT g c) = wHead ++ 32 :: (numL g ++ 32 :: numL c) := by
  unfold headT
  rw [tl_append, tl_append, tl_append, tl_append, tl_empty, tl_whead, tl_sp, tl_toS, tl_toS]
  simp only [List.nil_append, List.append_assoc, List.cons_append]
theorem tl_piece (g i : Nat) (s : Str) : tl (pieceT g i s) = wPiece ++ 32 :: (numL g ++ 32 :: (numL i ++ 32 :: tl s)) := by
  unfold pieceT
  rw [tl_append, tl_append, tl_append, tl_append, tl_append, tl_append, tl_empty, tl_wpiece, tl_sp, tl_toS, tl_toS]
  simp only [List.nil_append, List.append_assoc, List.cons_append]
theorem tl_row (g i f : Nat) (s : Str) : tl (rowT g i f s) = wRow ++ 32 :: (numL g ++ 32 :: (numL i ++ 32 :: (numL f ++ 32 :: tl s))) := by
  unfold rowT
  rw [tl_append, tl_append, tl_append, tl_append, tl_append, tl_append, tl_append, tl_append, tl_empty, tl_wrow, tl_sp, tl_toS, tl_toS, tl_toS]
  simp only [List.nil_append, List.append_assoc, List.cons_append]
/-- a cell, told -/
inductive Cl where
  | gone
  | torn
  | head (g c : Nat)
  | piece (g i : Nat) (s : Str)
  | row (g i f : Nat) (s : Str)
def Cl.v : Cl → V
  | .gone => .non
  | .torn => .str ""
  | .head g c => .str (headT g c)
  | .piece g i s => .str (pieceT g i s)
  | .row g i f s => .str (rowT g i f s)
/-- the generation that a cell tells; 0 for none -/
def Cl.gen : Cl → Nat
  | .gone => 0
  | .torn => 0
  | .head g _ => g
  | .piece g _ _ => g
  | .row g _ _ _ => g
structure Cl.Ok (c : Cl) : Prop where
  num : match c with
    | .head g n => g ≤ 100000 ∧ n ≤ 100000
    | .piece g i s => g ≤ 100000 ∧ i ≤ 100000 ∧ s.length ≤ 60
    | .row g i f s => g ≤ 100000 ∧ i ≤ 100000 ∧ f ≤ 100000 ∧ s.length ≤ 60
    | _ => True
/-! #### the readers, over cells as they stand -/
/-- what each cell is to begin with -/
def begT (start : Str) (n : Nat) : Str := (((Str.empty ++ start) ++ " ") ++ toString ((n : Nat) : Int)) ++ " "
def sfG (start : Str) : Nat → List V → List Str
  | _, [] => []
  | n, v :: r => match v with
    | .str z => if Txt.startswith z (begT start (n + 1)) = true then cutS z (some (((begT start (n + 1)).length : Nat) : Int)) none :: sfG start (n + 1) r else []
    | _ => []
def pStart (g : Nat) : Str := (Str.empty ++ "piece ") ++ toString ((g : Nat) : Int)
def rStart (g : Nat) : Str := (Str.empty ++ "row ") ++ toString ((g : Nat) : Int)
theorem tl_begP (g n : Nat) : tl (begT (pStart g) n) = wPiece ++ 32 :: (numL g ++ 32 :: (numL n ++ [32])) := by
  unfold begT pStart
  rw [tl_append, tl_append, tl_append, tl_append, tl_append, tl_append, tl_empty, tl_wpiece, tl_sp, tl_toS, tl_toS]
  simp only [List.nil_append, List.append_assoc, List.cons_append]
theorem tl_begR (g n : Nat) : tl (begT (rStart g) n) = wRow ++ 32 :: (numL g ++ 32 :: (numL n ++ [32])) := by
  unfold begT rStart
  rw [tl_append, tl_append, tl_append, tl_append, tl_append, tl_append, tl_empty, tl_wrow, tl_sp, tl_toS, tl_toS]
  simp only [List.nil_append, List.append_assoc, List.cons_append]
theorem two_nums {w : List Nat} {g n g' i : Nat} {r : List Nat} : pre (w ++ 32 :: (numL g ++ 32 :: (numL n ++ [32]))) (w ++ 32 :: (numL g' ++ 32 :: (numL i ++ 32 :: r))) = true ↔ g' = g ∧ i = n := by
  rw [pre_eq]
  constructor
  · rintro ⟨q, e⟩
    simp only [List.append_assoc, List.cons_append, List.nil_append, List.append_cancel_left_eq, List.cons.injEq, true_and] at e
    obtain ⟨h1, e⟩ := run_eq (n32 _) (n32 _) e
    obtain ⟨h2, _⟩ := run_eq (n32 _) (n32 _) e
    exact ⟨numL_inj h1, numL_inj h2⟩
  · rintro ⟨rfl, rfl⟩
    exact ⟨r, by simp⟩
theorem drop_two_nums {w : List Nat} {g n : Nat} {r : List Nat} : (w ++ 32 :: (numL g ++ 32 :: (numL n ++ 32 :: r))).drop (w ++ 32 :: (numL g ++ 32 :: (numL n ++ [32]))).length = r := by
  have e : w ++ 32 :: (numL g ++ 32 :: (numL n ++ 32 :: r)) = (w ++ 32 :: (numL g ++ 32 :: (numL n ++ [32]))) ++ r := by simp
  rw [e, List.drop_left]
theorem pre_far {a b : Nat} {x y : List Nat} (h : a ≠ b) : pre (a :: x) (b :: y) = false := by
  cases q : pre (a :: x) (b :: y) with
  | false => rfl
  | true =>
    obtain ⟨r, e⟩ := (pre_eq _ _).mp q
    cases e
    exact absurd rfl h
theorem pre_none {a : Nat} {x : List Nat} : pre (a :: x) [] = false := rfl
theorem starts_pp (g n g' i : Nat) (s : Str) : Txt.startswith (pieceT g' i s) (begT (pStart g) n) = decide (g' = g ∧ i = n) := by
  rw [starts_pre, tl_begP, tl_piece]
  by_cases h : g' = g ∧ i = n
  · rw [decide_eq_true h]
    exact two_nums.mpr h
  · rw [decide_eq_false h]
    exact Bool.eq_false_iff.mpr fun z => h (two_nums.mp z)
theorem starts_rr (g n g' i f : Nat) (s : Str) : Txt.startswith (rowT g' i f s) (begT (rStart g) n) = decide (g' = g ∧ i = n) := by
  rw [starts_pre, tl_begR, tl_row]
  by_cases h : g' = g ∧ i = n
  · rw [decide_eq_true h]
    exact two_nums.mpr h
  · rw [decide_eq_false h]
    exact Bool.eq_false_iff.mpr fun z => h (two_nums.mp z)
theorem starts_pr (g n g' i f : Nat) (s : Str) : Txt.startswith (rowT g' i f s) (begT (pStart g) n) = false := by
  rw [starts_pre, tl_begP, tl_row]
  exact pre_far (by decide)
theorem starts_ph (g n g' c : Nat) : Txt.startswith (headT g' c) (begT (pStart g) n) = false := by
  rw [starts_pre, tl_begP, tl_head]
  exact pre_far (by decide)
theorem starts_p0 (g n : Nat) : Txt.startswith "" (begT (pStart g) n) = false := by
  rw [starts_pre, tl_begP]
  exact pre_none
theorem starts_rp (g n g' i : Nat) (s : Str) : Txt.startswith (pieceT g' i s) (begT (rStart g) n) = false := by
  rw [starts_pre, tl_begR, tl_piece]
  exact pre_far (by decide)
theorem starts_rh (g n g' c : Nat) : Txt.startswith (headT g' c) (begT (rStart g) n) = false := by
  rw [starts_pre, tl_begR, tl_head]
  exact pre_far (by decide)
theorem starts_r0 (g n : Nat) : Txt.startswith "" (begT (rStart g) n) = false := by
  rw [starts_pre, tl_begR]
  exact pre_none
/-- a row behind its beginning -/
def tailT (f : Nat) (s : Str) : Str := ((toString ((f : Nat) : Int) : String) : Str) ++ " " ++ s
def sfP (g : Nat) : Nat → List Cl → List Str
  | _, [] => []
  | n, c :: r => match c with
    | .piece g' i s => if g' = g ∧ i = n + 1 then s :: sfP g (n + 1) r else []
    | _ => []
def sfR (g : Nat) : Nat → List Cl → List (Nat × Str)
  | _, [] => []
  | n, c :: r => match c with
    | .row g' i f s => if g' = g ∧ i = n + 1 then (f, s) :: sfR g (n + 1) r else []
    | _ => []
theorem sfG_piece (g : Nat) : ∀ (cs : List Cl) (n : Nat), sfG (pStart g) n (cs.map Cl.v) = sfP g n cs
  | [], _ => rfl
  | c :: r, n => by
    have ih := sfG_piece g r (n + 1)
    cases c with
    | gone => rfl
    | torn =>
      show (if Txt.startswith "" (begT (pStart g) (n + 1)) = true then _ else []) = []
      rw [starts_p0]
      rfl
    | head g' c =>
      show (if Txt.startswith (headT g' c) (begT (pStart g) (n + 1)) = true then _ else []) = []
      rw [starts_ph]
      rfl
    | piece g' i s =>
      show (if Txt.startswith (pieceT g' i s) (begT (pStart g) (n + 1)) = true then _ else []) = (if g' = g ∧ i = n + 1 then s :: sfP g (n + 1) r else [])
      rw [starts_pp]
      by_cases h : g' = g ∧ i = n + 1
      · rw [decide_eq_true h, if_pos rfl, if_pos h, ih]
        congr 1
        obtain ⟨rfl, rfl⟩ := h
        refine ext_tl ?_
        rw [tl_cut_from, len_tl, tl_begP, tl_piece, drop_two_nums]
      · rw [decide_eq_false h, if_neg h]
        rfl
    | row g' i f s =>
      show (if Txt.startswith (rowT g' i f s) (begT (pStart g) (n + 1)) = true then _ else []) = []
      rw [starts_pr]
      rfl
theorem sfG_row (g : Nat) : ∀ (cs : List Cl) (n : Nat), sfG (rStart g) n (cs.map Cl.v) = (sfR g n cs).map fun p => tailT p.1 p.2
  | [], _ => rfl
  | c :: r, n => by
    have ih := sfG_row g r (n + 1)
    cases c with
    | gone => rfl
    | torn =>
      show (if Txt.startswith "" (begT (rStart g) (n + 1)) = true then _ else []) = []
      rw [starts_r0]
      rfl
    | head g' c =>
      show (if Txt.startswith (headT g' c) (begT (rStart g) (n + 1)) = true then _ else []) = []
      rw [starts_rh]
      rfl
    | piece g' i s =>
      show (if Txt.startswith (pieceT g' i s) (begT (rStart g) (n + 1)) = true then _ else []) = []
      rw [starts_rp]
      rfl
    | row g' i f s =>
      show (if Txt.startswith (rowT g' i f s) (begT (rStart g) (n + 1)) = true then _ else []) = List.map (fun p : Nat × Str => tailT p.1 p.2) (if g' = g ∧ i = n + 1 then (f, s) :: sfR g (n + 1) r else [])
      rw [starts_rr]
      by_cases h : g' = g ∧ i = n + 1
      · rw [decide_eq_true h, if_pos rfl, if_pos h, ih, List.map_cons]
        congr 1
        obtain ⟨rfl, rfl⟩ := h
        refine ext_tl ?_
        rw [tl_cut_from, len_tl, tl_begR, tl_row, drop_two_nums]
        unfold tailT
        rw [tl_append, tl_append, tl_toS, tl_sp, List.append_assoc]
        rfl
      · rw [decide_eq_false h, if_neg h]
        rfl
theorem tail_part (f : Nat) (s : Str) : Txt.partition (tailT f s) " " = (((toString ((f : Nat) : Int) : String) : Str), (" " : Str), s) := by
  unfold tailT
  exact partition_app tl_sp (by rw [tl_toS]; exact n32 f)
theorem num_zero (f : Nat) : (((toString ((f : Nat) : Int) : String) : Str) = "0") ↔ f = 0 := by
  constructor
  · intro e
    have e1 := congrArg tl e
    rw [tl_toS] at e1
    refine numL_inj (e1.trans ?_)
    decide +kernel
  · rintro rfl
    rfl
/-- the whole records -/
def recsL : Str → List (Nat × Str) → List Str
  | _, [] => []
  | t, (f, s) :: r => if f = 0 then (t ++ s) :: recsL "" r else recsL (t ++ s) r
def hd0 : List Cl → Nat × Nat
  | .head g c :: _ => (g, c)
  | _ => (0, 0)
theorem head_starts (g c : Nat) : Txt.startswith (headT g c) "head " = true := by
  rw [starts_pre, tl_whead, tl_head, pre_eq]
  exact ⟨numL g ++ 32 :: numL c, by simp⟩
theorem piece_starts (g i : Nat) (s : Str) : Txt.startswith (pieceT g i s) "head " = false := by
  rw [starts_pre, tl_whead, tl_piece]
  exact pre_far (by decide)
theorem row_starts (g i f : Nat) (s : Str) : Txt.startswith (rowT g i f s) "head " = false := by
  rw [starts_pre, tl_whead, tl_row]
  exact pre_far (by decide)
theorem torn_starts : Txt.startswith "" "head " = false := by
  rw [starts_pre, tl_whead]
  exact pre_none
theorem sp_kind {x : Str} : ¬ Builtin.Str.strKind x < Builtin.Str.strKind (" " : Str) := kind_ok (by decide +kernel)
theorem sp_ne : tl (" " : Str) ≠ [] := by rw [tl_sp]; simp
theorem head_split (g c : Nat) : Txt.split (headT g c) " " = [("head" : Str), ((toString ((g : Nat) : Int) : String) : Str), ((toString ((c : Nat) : Int) : String) : Str)] := by
  refine map_tl_inj ?_
  rw [split_spl _ _ sp_ne sp_kind, tl_sp, tl_head]
  have a1 : (32 : Nat) ∉ wHead := by decide
  have e1 := spl_part1 (s := 32) (S := []) (p := wHead) (rest := numL g ++ 32 :: numL c) (acc := []) a1
  have e2 := spl_part1 (s := 32) (S := []) (p := numL g) (rest := numL c) (acc := []) (n32 g)
  have e3 := spl_last1 (s := 32) (S := []) (p := numL c) (acc := []) (n32 c)
  rw [show wHead ++ 32 :: (numL g ++ 32 :: numL c) = wHead ++ ([32] ++ (numL g ++ 32 :: numL c)) from rfl, e1, show numL g ++ 32 :: numL c = numL g ++ ([32] ++ numL c) from rfl, e2, e3]
  simp only [List.nil_append, List.map_cons, List.map_nil, tl_toS]
  rfl
theorem second_of {z : Str} {w r : List Nat} {g : Nat} (e : tl z = w ++ 32 :: (numL g ++ 32 :: r)) (hw : (32 : Nat) ∉ w) : (Txt.split z " ")[1]? = some ((toString ((g : Nat) : Int) : String) : Str) := by
  have h : (Txt.split z " ").map tl = w :: numL g :: spl [32] 0 [] r := by
    rw [split_spl _ _ sp_ne sp_kind, tl_sp, e]
    have e1 := spl_part1 (s := 32) (S := []) (p := w) (rest := numL g ++ 32 :: r) (acc := []) hw
    have e2 := spl_part1 (s := 32) (S := []) (p := numL g) (rest := r) (acc := []) (n32 g)
    rw [show w ++ 32 :: (numL g ++ 32 :: r) = w ++ ([32] ++ (numL g ++ 32 :: r)) from rfl, e1, show numL g ++ 32 :: r = numL g ++ ([32] ++ r) from rfl, e2]
    rfl
  have h1 := congrArg (fun l : List (List Nat) => l[1]?) h
  rw [List.getElem?_map] at h1
  cases q : (Txt.split z " ")[1]? with
  | none => rw [q] at h1; cases h1
  | some y =>
    rw [q] at h1
    have h2 : tl y = numL g := Option.some.inj h1
    rw [show y = ((toString ((g : Nat) : Int) : String) : Str) from ext_tl (by rw [tl_toS]; exact h2)]
theorem gen_second {c : Cl} {z : Str} (e : c.v = .str z) (n : z ≠ "") : (Txt.split z " ")[1]? = some ((toString ((c.gen : Nat) : Int) : String) : Str) := by
  cases c with
  | gone => cases e
  | torn => cases e; exact absurd rfl n
  | head g k => cases e; exact second_of (w := wHead) (tl_head g k) (by decide)
  | piece g i s => cases e; exact second_of (w := wPiece) (tl_piece g i s) (by decide)
  | row g i f s => cases e; exact second_of (w := wRow) (tl_row g i f s) (by decide)
/-- the changes that a text tells -/
def rdStep (kv : List (Key × V)) (p : Str) : List (Key × V) :=
  if (Txt.partition p "=").2.1 = "" then putK kv (.inr (cutS (Txt.partition p "=").1 none (some (-1)))) .non else putK kv (.inr (Txt.partition p "=").1) (.str (Txt.partition p "=").2.2)
def rdCh (z : Str) : List (Key × V) := ((Txt.split z ";").dropLast).foldl rdStep []
def rdA (cs : List Cl) : Option (Nat × List (Key × V)) :=
  if (hd0 cs).1 = 0 ∨ (sfP (hd0 cs).1 0 ((cs.drop 1).take (hd0 cs).2)).length < (hd0 cs).2 then none
  else some ((hd0 cs).1, (recsL "" (sfR (hd0 cs).1 0 (cs.drop (1 + (hd0 cs).2)))).foldl (fun t z => applyK t (rdCh z)) (rdCh (Txt.join "" (sfP (hd0 cs).1 0 ((cs.drop 1).take (hd0 cs).2)))))
theorem sIx_last (n d : Nat) : HT.sIx n d (some (-1)) = n - 1 := by
  show (if (-1 : Int) < 0 then ((-1 : Int) + (n : Int)).toNat else min (-1 : Int).toNat n) = n - 1
  rw [if_pos (by decide)]
  omega
theorem cutV_last (xs : List V) : cutV xs none (some (-1)) = xs.dropLast := by
  unfold cutV
  rw [sIx_last, HT.sIx_none, List.drop_zero, Nat.sub_zero, List.dropLast_eq_take]
theorem cutV_from (xs : List V) (n : Nat) : cutV xs (some (n : Int)) none = xs.drop n := by
  unfold cutV
  show (xs.drop (HT.sIx xs.length 0 (some (n : Int)))).take (xs.length - HT.sIx xs.length 0 (some (n : Int))) = _
  rw [HT.sIx_nat, List.take_of_length_le (by rw [List.length_drop]; omega)]
  by_cases h : n ≤ xs.length
  · rw [Nat.min_eq_left h]
  · rw [Nat.min_eq_right (by omega), List.drop_of_length_le (by omega), List.drop_of_length_le (by omega)]
theorem cutV_mid (xs : List V) (a b : Nat) (h : a ≤ b) : cutV xs (some (a : Int)) (some (b : Int)) = (xs.drop a).take (b - a) := by
  unfold cutV
  rw [HT.sIx_nat, HT.sIx_nat]
  by_cases h1 : a ≤ xs.length
  · rw [Nat.min_eq_left h1]
    by_cases h2 : b ≤ xs.length
    · rw [Nat.min_eq_left h2]
    · rw [Nat.min_eq_right (by omega), List.take_of_length_le (by rw [List.length_drop]; omega), List.take_of_length_le (by rw [List.length_drop]; omega)]
  · rw [Nat.min_eq_right (by omega : xs.length ≤ a), List.drop_of_length_le (Nat.le_refl _), List.drop_of_length_le (by omega : xs.length ≤ a), List.take_nil, List.take_nil]
theorem cutS_last (z : Str) : tl (cutS z none (some (-1))) = (tl z).dropLast := by
  have lz := len_tl z
  show ((tl z).drop (HT.sIx z.length 0 none)).take (HT.sIx z.length z.length (some (-1)) - HT.sIx z.length 0 none) = _
  rw [sIx_last, HT.sIx_none, List.drop_zero, Nat.sub_zero, List.dropLast_eq_take, lz]
theorem spl_mem {S p : List Nat} : ∀ (l : List Nat) (k : Nat) (acc : List Nat), p ∈ spl S k acc l → p.length ≤ acc.length + l.length
  | [], k, acc, h => by
    rw [spl_nil, List.mem_singleton] at h
    rw [h]
    exact Nat.le_add_right _ _
  | c :: r, k + 1, acc, h => by
    have := spl_mem r k acc h
    show _ ≤ acc.length + (r.length + 1)
    omega
  | c :: r, 0, acc, h => by
    cases q : pre S (c :: r) with
    | true =>
      rw [spl_hit q] at h
      rcases List.mem_cons.mp h with rfl | h
      · exact Nat.le_add_right _ _
      · have := spl_mem r _ [] h
        show _ ≤ acc.length + (r.length + 1)
        simp only [List.length_nil] at this
        omega
    | false =>
      rw [spl_miss q] at h
      have := spl_mem r 0 (acc ++ [c]) h
      rw [List.length_append] at this
      show _ ≤ acc.length + (r.length + 1)
      simp only [List.length_cons, List.length_nil] at this
      omega
theorem split_mem_len {z q y : Str} (hq : tl q ≠ []) (hk : q.cps.all (· < 256) = true) (h : y ∈ Txt.split z q) : y.length ≤ z.length := by
  have h1 : tl y ∈ (Txt.split z q).map tl := List.mem_map_of_mem h
  rw [split_spl _ _ hq (kind_ok hk)] at h1
  have := spl_mem _ _ _ h1
  rw [len_tl, len_tl]
  simpa using this
theorem par_len {S : List Nat} : ∀ (l acc a b : List Nat), par S acc l = some (a, b) → a.length ≤ acc.length + l.length ∧ b.length ≤ l.length
  | [], acc, a, b, h => by cases h
  | c :: r, acc, a, b, h => by
    cases q : pre S (c :: r) with
    | true =>
      rw [par_hit q] at h
      cases h
      exact ⟨Nat.le_add_right _ _, by rw [List.length_drop]; omega⟩
    | false =>
      rw [par_miss q] at h
      have := par_len r (acc ++ [c]) a b h
      rw [List.length_append] at this
      simp only [List.length_cons, List.length_nil] at this ⊢
      omega
theorem part_len {z q : Str} (hq : tl q ≠ []) : (Txt.partition z q).1.length ≤ z.length := by
  rw [partition_par _ _ hq]
  cases h : par (tl q) [] (tl z) with
  | none => exact Nat.le_refl _
  | some p =>
    obtain ⟨a, b⟩ := p
    have := (par_len _ _ _ _ h).1
    show (⟨a.toArray⟩ : Str).length ≤ _
    rw [len_tl, len_tl]
    show a.length ≤ _
    simpa using this
theorem head_ne (g c : Nat) : headT g c ≠ "" := fun e => by
  have e := congrArg tl e
  rw [tl_head] at e
  cases e
theorem piece_ne (g i : Nat) (s : Str) : pieceT g i s ≠ "" := fun e => by
  have e := congrArg tl e
  rw [tl_piece] at e
  cases e
theorem row_ne (g i f : Nat) (s : Str) : rowT g i f s ≠ "" := fun e => by
  have e := congrArg tl e
  rw [tl_row] at e
  cases e
theorem numL6 {n : Nat} (h : n ≤ 100000) : (numL n).length ≤ 6 := numL_len (by decide) (Nat.lt_of_le_of_lt h (by decide))
theorem Cl.Ok.len {c : Cl} (h : c.Ok) : (∀ z, c.v = .str z → z.length ≤ 1000) ∧ c.gen ≤ 100000 := by
  have h := h.num
  cases c with
  | gone => exact ⟨(fun z e => by cases e), Nat.zero_le _⟩
  | torn => exact ⟨(fun z e => by cases e; exact Nat.zero_le _), Nat.zero_le _⟩
  | head g n =>
    refine ⟨fun z e => ?_, h.1⟩
    cases e
    have a := numL6 h.1
    have b := numL6 h.2
    rw [len_tl, tl_head]
    simp only [List.length_append, List.length_cons, wHead, List.length_nil]
    omega
  | piece g i s =>
    refine ⟨fun z e => ?_, h.1⟩
    cases e
    have a := numL6 h.1
    have b := numL6 h.2.1
    have l := h.2.2
    rw [len_tl] at l
    rw [len_tl, tl_piece]
    simp only [List.length_append, List.length_cons, wPiece, List.length_nil]
    omega
  | row g i f s =>
    refine ⟨fun z e => ?_, h.1⟩
    cases e
    have a := numL6 h.1
    have b := numL6 h.2.1
    have d := numL6 h.2.2.1
    have l := h.2.2.2
    rw [len_tl] at l
    rw [len_tl, tl_row]
    simp only [List.length_append, List.length_cons, wRow, List.length_nil]
    omega
theorem Cl.vs {c : Cl} (h : c.Ok) : c.v = .non ∨ ∃ z : Str, c.v = .str z ∧ z.length ≤ 1000 := by
  have l := h.len.1
  cases c with
  | gone => exact .inl rfl
  | torn => exact .inr ⟨_, rfl, l _ rfl⟩
  | head g n => exact .inr ⟨_, rfl, l _ rfl⟩
  | piece g i s => exact .inr ⟨_, rfl, l _ rfl⟩
  | row g i f s => exact .inr ⟨_, rfl, l _ rfl⟩
theorem sfR_mem {g : Nat} : ∀ {cs : List Cl} {n : Nat}, (∀ c ∈ cs, c.Ok) → ∀ p ∈ sfR g n cs, p.1 ≤ 100000 ∧ p.2.length ≤ 60
  | [], _, _, p, h => by cases h
  | c :: r, n, ok, p, h => by
    have okr : ∀ c ∈ r, c.Ok := fun d hd => ok d (List.mem_cons_of_mem _ hd)
    have okc := (ok c (List.mem_cons_self ..)).num
    cases c with
    | row g' i f s =>
      have h : p ∈ (if g' = g ∧ i = n + 1 then (f, s) :: sfR g (n + 1) r else []) := h
      split at h
      · rcases List.mem_cons.mp h with rfl | h
        · exact ⟨okc.2.2.1, okc.2.2.2⟩
        · exact sfR_mem okr p h
      · cases h
    | gone => cases h
    | torn => cases h
    | head _ _ => cases h
    | piece _ _ _ => cases h
theorem sfR_len {g : Nat} : ∀ (cs : List Cl) (n : Nat), (sfR g n cs).length ≤ cs.length
  | [], _ => Nat.le_refl _
  | c :: r, n => by
    have ih := sfR_len (g := g) r (n + 1)
    cases c with
    | row g' i f s =>
      show (if g' = g ∧ i = n + 1 then (f, s) :: sfR g (n + 1) r else []).length ≤ r.length + 1
      split
      · exact Nat.succ_le_succ ih
      · exact Nat.zero_le _
    | gone => exact Nat.zero_le _
    | torn => exact Nat.zero_le _
    | head _ _ => exact Nat.zero_le _
    | piece _ _ _ => exact Nat.zero_le _
theorem sfP_mem {g : Nat} : ∀ {cs : List Cl} {n : Nat}, (∀ c ∈ cs, c.Ok) → ∀ p ∈ sfP g n cs, p.length ≤ 60
  | [], _, _, p, h => by cases h
  | c :: r, n, ok, p, h => by
    have okr : ∀ c ∈ r, c.Ok := fun d hd => ok d (List.mem_cons_of_mem _ hd)
    have okc := (ok c (List.mem_cons_self ..)).num
    cases c with
    | piece g' i s =>
      have h : p ∈ (if g' = g ∧ i = n + 1 then s :: sfP g (n + 1) r else []) := h
      split at h
      · rcases List.mem_cons.mp h with rfl | h
        · exact okc.2.2
        · exact sfP_mem okr p h
      · cases h
    | gone => cases h
    | torn => cases h
    | head _ _ => cases h
    | row _ _ _ _ => cases h
theorem sfP_len {g : Nat} : ∀ (cs : List Cl) (n : Nat), (sfP g n cs).length ≤ cs.length
  | [], _ => Nat.le_refl _
  | c :: r, n => by
    have ih := sfP_len (g := g) r (n + 1)
    cases c with
    | piece g' i s =>
      show (if g' = g ∧ i = n + 1 then s :: sfP g (n + 1) r else []).length ≤ r.length + 1
      split
      · exact Nat.succ_le_succ ih
      · exact Nat.zero_le _
    | gone => exact Nat.zero_le _
    | torn => exact Nat.zero_le _
    | head _ _ => exact Nat.zero_le _
    | row _ _ _ _ => exact Nat.zero_le _
/-- the records' sizes -/
theorem recs_sz : ∀ (l : List (Nat × Str)) (t : Str), (∀ p ∈ l, p.2.length ≤ 60) → ∀ z ∈ recsL t l, z.length ≤ t.length + 60 * l.length
  | [], _, _, z, h => by cases h
  | (f, s) :: r, t, hs, z, h => by
    have hr : ∀ p ∈ r, p.2.length ≤ 60 := fun p hp => hs p (List.mem_cons_of_mem _ hp)
    have s60 : s.length ≤ 60 := hs (f, s) (List.mem_cons_self ..)
    have h : z ∈ (if f = 0 then (t ++ s) :: recsL "" r else recsL (t ++ s) r) := h
    show _ ≤ t.length + 60 * (r.length + 1)
    split at h
    · rcases List.mem_cons.mp h with rfl | h
      · rw [len_app]
        omega
      · have := recs_sz r "" hr z h
        have e : ("" : Str).length = 0 := rfl
        omega
    · have := recs_sz r (t ++ s) hr z h
      rw [len_app] at this
      omega
theorem recs_len : ∀ (l : List (Nat × Str)) (t : Str), (recsL t l).length ≤ l.length
  | [], _ => Nat.le_refl _
  | (f, s) :: r, t => by
    show (if f = 0 then (t ++ s) :: recsL "" r else recsL (t ++ s) r).length ≤ r.length + 1
    split
    · exact Nat.succ_le_succ (recs_len r "")
    · exact Nat.le_succ_of_le (recs_len r _)
/-- what is read from the cells is small -/
structure RdOk (cs : List Cl) : Prop where
  tab : ¬ ((hd0 cs).1 = 0 ∨ (sfP (hd0 cs).1 0 ((cs.drop 1).take (hd0 cs).2)).length < (hd0 cs).2) → T9 (rdCh (Txt.join "" (sfP (hd0 cs).1 0 ((cs.drop 1).take (hd0 cs).2))))
  recs : ¬ ((hd0 cs).1 = 0 ∨ (sfP (hd0 cs).1 0 ((cs.drop 1).take (hd0 cs).2)).length < (hd0 cs).2) → ∀ z ∈ recsL "" (sfR (hd0 cs).1 0 (cs.drop (1 + (hd0 cs).2))), T9 (rdCh z)
theorem fold_t9 : ∀ (l : List Str) {kv : List (Key × V)}, T9 kv → (∀ z ∈ l, T9 (rdCh z)) → T9 (l.foldl (fun t z => applyK t (rdCh z)) kv)
  | [], _, t, _ => t
  | z :: l, _, t, h => fold_t9 l (t.apply (h z (List.mem_cons_self ..))) fun y hy => h y (List.mem_cons_of_mem _ hy)
theorem RdOk.t9 {cs : List Cl} (h : RdOk cs) {p : Nat × List (Key × V)} (e : rdA cs = some p) : T9 p.2 := by
  unfold rdA at e
  split at e
  · cases e
  · next c =>
    cases e
    exact fold_t9 _ (h.tab c) (h.recs c)
theorem hd0_le {cs : List Cl} (ok : ∀ c ∈ cs, c.Ok) : (hd0 cs).1 ≤ 100000 ∧ (hd0 cs).2 ≤ 100000 := by
  cases cs with
  | nil => exact ⟨Nat.zero_le _, Nat.zero_le _⟩
  | cons c r =>
    have h := (ok c (List.mem_cons_self ..)).num
    cases c with
    | head g n => exact h
    | gone => exact ⟨Nat.zero_le _, Nat.zero_le _⟩
    | torn => exact ⟨Nat.zero_le _, Nat.zero_le _⟩
    | piece _ _ _ => exact ⟨Nat.zero_le _, Nat.zero_le _⟩
    | row _ _ _ _ => exact ⟨Nat.zero_le _, Nat.zero_le _⟩
/-- what is read from both: the side, the generation, the table in its order -/
def rdB (a b : List Cl) : Option (Nat × Nat × List (Key × V)) := match rdA a, rdA b with
  | none, none => none
  | some x, none => some (0, x.1, srtK x.2)
  | none, some y => some (1, y.1, srtK y.2)
  | some x, some y => if x.1 < y.1 then some (1, y.1, srtK y.2) else some (0, x.1, srtK x.2)
/-- the better of what is read, so far -/
def stepB (b : Option (Nat × Nat × List (Key × V))) (i : Nat) (o : Option (Nat × List (Key × V))) : Option (Nat × Nat × List (Key × V)) := match o with
  | none => b
  | some x => match b with
    | none => some (i, x.1, srtK x.2)
    | some y => if y.2.1 < x.1 then some (i, x.1, srtK x.2) else some y
theorem rdB_step (a b : List Cl) : rdB a b = stepB (stepB none 0 (rdA a)) 1 (rdA b) := by
  unfold rdB
  cases rdA a with
  | none => cases rdA b <;> rfl
  | some x => cases rdA b <;> rfl
/-- the value of the better one -/
def BV (H0 H : Hp) (v : V) : Option (Nat × Nat × List (Key × V)) → Prop
  | none => v = .non
  | some y => ∃ t D : Addr, v = .ref t ∧ H0 D = none ∧ H D = some (.dK y.2.2) ∧ H t = some (.tup [.int (y.1 : Int), .int (y.2.1 : Int), .ref D])
theorem BV.same {H0 H H' : Hp} {v : V} {b : Option (Nat × Nat × List (Key × V))} (h : BV H0 H v b) (s : Same H H') : BV H0 H' v b := by
  cases b with
  | none => exact h
  | some y =>
    obtain ⟨t, D, e1, e2, e3, e4⟩ := h
    exact ⟨t, D, e1, e2, s _ _ e3, s _ _ e4⟩
/-- the greatest generation that cells tell -/
def maxGen (cs : List Cl) : Nat := (cs.map Cl.gen).foldr max 0
/-- a disk that wakes, before its check -/
def DS.rise (S : DS) (a : Nat) (kv : List (Key × V)) (g : Nat) : DS := { S with side := (a : Int), kv := kv, gen := (g : Int), fal := false }
/-- a disk wakes: its side is set, its table is another dict -/
theorem DiskX.rise {r : Ar} {F : Addr → Prop} {H : Hp} {d D : Addr} {S S' : DS} {dx T AA A0 A1 U : Addr} {ts : List Addr} (h : DiskX r F H d S dx T AA A0 A1 U ts) (hD : H D = some (.dK S'.kv)) (e0 : S'.m0 = S.m0) (e1 : S'.m1 = S.m1) (eo : S'.op = S.op) :
    DiskX r (fun b => F b ∨ b = D) (upd H d (.ins r.c dx (dF S' D AA U))) d S' dx D AA A0 A1 U ts := by
  have dif : ∀ {b : Addr} {o : HO}, H b = some o → (∀ C dx fs, o ≠ .ins C dx fs) → upd H d (.ins r.c dx (dF S' D AA U)) b = some o := fun {b o} e n => by
    rw [upd_ne (fun z => by rw [z, h.hd] at e; cases e; exact n _ _ _ rfl)]
    exact e
  refine ⟨upd_same, dif hD fun _ _ _ => by simp, dif h.aa fun _ _ _ => by simp, by rw [e0]; exact dif h.a0 fun _ _ _ => by simp, by rw [e1]; exact dif h.a1 fun _ _ _ => by simp, dif h.u fun _ _ _ => by simp, by rw [eo]; exact h.op.mono' fun t q z => ⟨fun w => w.elim z.1 fun w => (by have z2 := z.2; rw [w, hD] at z2; cases z2), dif z.2 fun _ _ _ => by simp⟩,
    .inl h.fd, .inr rfl, .inl h.faa, .inl h.fa0, .inl h.fa1, .inl h.fu, h.n01, h.n0u, h.n1u, h.na0, h.na1, h.nau, fun b hb => ?_⟩
  by_cases c : b = d
  · exact ⟨_, by rw [c]; exact upd_same⟩
  · rcases hb with hb | rfl
    · obtain ⟨o, e⟩ := h.al b hb
      exact ⟨o, (upd_ne c).trans e⟩
    · exact ⟨_, (upd_ne c).trans hD⟩
theorem fold_max : ∀ (l : List Nat) (x : Nat), x ∈ l → x ≤ l.foldr max 0
  | [], _, h => by cases h
  | y :: l, x, h => by
    show x ≤ max y (l.foldr max 0)
    rcases List.mem_cons.mp h with rfl | h
    · exact Nat.le_max_left _ _
    · exact Nat.le_trans (fold_max l x h) (Nat.le_max_right _ _)
theorem fold_in : ∀ (l : List Nat), l ≠ [] → l.foldr max 0 ∈ l
  | [], h => absurd rfl h
  | [x], _ => by
    show max x 0 ∈ [x]
    rw [Nat.max_eq_left (Nat.zero_le _)]
    exact List.mem_singleton.mpr rfl
  | x :: y :: l, _ => by
    have ih := fold_in (y :: l) (by simp)
    show max x ((y :: l).foldr max 0) ∈ _
    rcases Nat.le_total x ((y :: l).foldr max 0) with c | c
    · rw [Nat.max_eq_right c]
      exact List.mem_cons_of_mem _ ih
    · rw [Nat.max_eq_left c]
      exact List.mem_cons_self ..
/-- the greatest of the generations, as max tells it -/
theorem max_gen {cs : List Cl} (ne : cs ≠ []) {m : Int} (hm : m ∈ cs.map fun c => (c.gen : Int)) (hy : ∀ y ∈ (cs.map fun c => (c.gen : Int)), y ≤ m) : m = (maxGen cs : Int) := by
  obtain ⟨c, hc, rfl⟩ := List.mem_map.mp hm
  have h1 := fold_max (cs.map Cl.gen) c.gen (List.mem_map_of_mem hc)
  have h2 := fold_in (cs.map Cl.gen) (fun z => ne (List.map_eq_nil_iff.mp z))
  obtain ⟨e, he, ee⟩ := List.mem_map.mp h2
  have h3 := hy _ (List.mem_map.mpr ⟨e, he, rfl⟩)
  unfold maxGen
  omega
/-- the words of a cut -/
inductive Wd where
  | kept
  | lost
  | torn
def Wd.t : Wd → Str
  | .kept => "kept"
  | .lost => "lost"
  | .torn => "torn"
def Wd.v (w : Wd) : V := .str w.t
/-- a cut: a list, a tuple, or a tuple of the program's own (its default) -/
def CutAt (K : PySem.W.Frag) (H : Hp) (C : Addr) (ws : List Wd) : Prop := H C = some (.lst (ws.map Wd.v)) ∨ H C = some (.tup (ws.map Wd.v)) ∨ ∃ (o : Obj) (its : Array Value) (n : Nat), K.lookup C = some o ∧ o.cls = .type "tuple" ∧ o.data = .seq its n ∧ its.size ≤ sizeLine ∧ Vals (ws.map Wd.v) its.toList
theorem CutAt.same {K : PySem.W.Frag} {H H' : Hp} {C : Addr} {ws : List Wd} (h : CutAt K H C ws) (s : Same H H') : CutAt K H' C ws := by
  rcases h with h | h | h
  · exact .inl (s _ _ h)
  · exact .inr (.inl (s _ _ h))
  · exact .inr (.inr h)
theorem CutAt.ty {K : PySem.W.Frag} {H : Hp} {C : Addr} {ws : List Wd} (h : CutAt K H C ws) : ∃ t, TyX K H (.ref C) t ∧ PySem.W.kitAny K t [.type "list", .type "tuple"] = some true := by
  rcases h with h | h | ⟨o, its, n, e, c, _⟩
  · exact ⟨_, .base (.lst h), kLT_lst⟩
  · exact ⟨_, .base (.tup h), kLT_tup⟩
  · exact ⟨_, .kTuple e c, kLT_tup⟩
theorem CutAt.seq {K : PySem.W.Frag} {H : Hp} {C : Addr} {ws : List Wd} (h : CutAt K H C ws) : SqL K H C (ws.map Wd.v) ∨ SqT K H C (ws.map Wd.v) := by
  rcases h with h | h | h
  · exact .inl (SqL.of h)
  · exact .inr (SqT.of h)
  · exact .inr (.inr h)
/-- one write, as the cut lets it -/
def DS.cut1 (S : DS) (p : Op × Wd) : DS := match p.2 with
  | .kept => S.keep p.1
  | .lost => S
  | .torn => S.keep (p.1.1, p.1.2.1, "")
/-- a disk falls -/
def DS.fall (S : DS) (ws : List Wd) : DS := { (S.op.zip ws).foldl DS.cut1 S with op := [], kv := [], fal := true }
theorem wd_in (w : Wd) : (!inV w.v [.str "kept", .str "lost", .str "torn"]) = false := by
  cases w <;> decide +kernel
theorem wd_lost (w : Wd) : decide (w.v = V.str "lost") = (match w with | .lost => true | _ => false) := by
  cases w <;> decide +kernel
theorem wd_kept (w : Wd) : decide (w.v = V.str "kept") = (match w with | .kept => true | _ => false) := by
  cases w <;> decide +kernel
theorem cut1_same (S : DS) (p : Op × Wd) : (S.cut1 p).op = S.op ∧ (S.cut1 p).fal = S.fal ∧ (S.cut1 p).most = S.most ∧ (S.cut1 p).syn = S.syn ∧ (S.cut1 p).kv = S.kv := by
  unfold DS.cut1
  obtain ⟨q, w⟩ := p
  cases w with
  | kept =>
    obtain ⟨a1, a2, a3, a4, a5, a6, a7, a8⟩ := keep_same S q
    exact ⟨a2, keep_fal S q, a3, a8, a1⟩
  | lost => exact ⟨rfl, rfl, rfl, rfl, rfl⟩
  | torn =>
    obtain ⟨a1, a2, a3, a4, a5, a6, a7, a8⟩ := keep_same S (q.1, q.2.1, "")
    exact ⟨a2, keep_fal S _, a3, a8, a1⟩
theorem cut_same : ∀ (l : List (Op × Wd)) (S : DS), (l.foldl DS.cut1 S).op = S.op ∧ (l.foldl DS.cut1 S).fal = S.fal ∧ (l.foldl DS.cut1 S).most = S.most ∧ (l.foldl DS.cut1 S).syn = S.syn ∧ (l.foldl DS.cut1 S).kv = S.kv
  | [], _ => ⟨rfl, rfl, rfl, rfl, rfl⟩
  | p :: l, S => by
    obtain ⟨a1, a2, a3, a4, a5⟩ := cut_same l (S.cut1 p)
    obtain ⟨b1, b2, b3, b4, b5⟩ := cut1_same S p
    exact ⟨a1.trans b1, a2.trans b2, a3.trans b3, a4.trans b4, a5.trans b5⟩
theorem wd_at (z : Int) : ∃ w : Wd, atI [V.str "kept", V.str "lost", V.str "torn"] (z % 3) = some w.v := by
  have h : z % 3 = ((0 : Nat) : Int) ∨ z % 3 = ((1 : Nat) : Int) ∨ z % 3 = ((2 : Nat) : Int) := by omega
  rcases h with h | h | h
  · exact ⟨.kept, by rw [h]; exact atI_nat rfl⟩
  · exact ⟨.lost, by rw [h]; exact atI_nat rfl⟩
  · exact ⟨.torn, by rw [h]; exact atI_nat rfl⟩
theorem cutV_to (xs : List V) (n : Nat) : cutV xs none (some (n : Int)) = xs.take n := by
  unfold cutV
  rw [HT.sIx_none, HT.sIx_nat, List.drop_zero, Nat.sub_zero]
  by_cases h : n ≤ xs.length
  · rw [Nat.min_eq_left h]
  · rw [Nat.min_eq_right (by omega), List.take_of_length_le (Nat.le_refl _), List.take_of_length_le (by omega)]
/-- a step of the law: a checkpoint or a record; how many writes; the table as pairs -/
structure Stp where
  chk : Bool
  many : Nat
  sh : Addr
def stepV (s : Stp) : List V := [.str (if s.chk = true then "check" else "record"), .int (s.many : Int), .ref s.sh]
def StpAt (H : Hp) (t : Addr) (s : Stp) : Prop := H t = some (.tup (stepV s))
def isKept : Option Wd → Bool
  | some .kept => true
  | _ => false
/-- are the writes from a on, n of them, all kept -/
def keptB (ws : List Wd) (a n : Nat) : Bool := (List.range n).all fun k => isKept ws[a + k]?
/-- which of the tables a cut leaves -/
def due (ws : List Wd) : Addr → Bool → Nat → List Stp → Addr
  | b, _, _, [] => b
  | b, wh, a, s :: r => if s.chk = true then (if keptB ws a s.many = true then due ws s.sh true (a + s.many) r else b)
    else if keptB ws a s.many = true then (if wh = true then due ws s.sh true (a + s.many) r else due ws b false (a + s.many) r)
    else due ws b false (a + s.many) r
theorem k9_free : ∀ z ∈ K9, 59 ∉ tl z ∧ 61 ∉ tl z := by
  intro z hz
  simp only [K9, List.mem_cons, List.not_mem_nil, or_false] at hz
  rcases hz with rfl | rfl | rfl | rfl | rfl | rfl | rfl | rfl | rfl
  all_goals decide +kernel
/-- a piece without its ';' -/
def bodyOf (z : Str) (v : V) : Str := match v with | .str w => ((Str.empty ++ z) ++ "=") ++ w | _ => (Str.empty ++ z) ++ "!"
theorem tl_body (z : Str) (v : V) : tl (pieceOf z v) = tl (bodyOf z v) ++ [59] := by
  have e : tl ("!;" : Str) = tl ("!" : Str) ++ [59] := by decide +kernel
  unfold pieceOf bodyOf
  cases v with
  | str w =>
    show tl ((((Str.empty ++ z) ++ "=") ++ w) ++ ";") = _
    rw [tl_append, tl_semi]
  | _ =>
    show tl ((Str.empty ++ z) ++ "!;") = tl ((Str.empty ++ z) ++ "!") ++ [59]
    simp only [tl_append, e, List.append_assoc]
theorem spl_bodies : ∀ (l : List (List Nat)), (∀ b ∈ l, 59 ∉ b) → spl [59] 0 [] ((l.map fun b => b ++ [59]).flatten) = l ++ [[]]
  | [], _ => rfl
  | b :: l, h => by
    have ih := spl_bodies l fun x hx => h x (List.mem_cons_of_mem _ hx)
    have e := spl_part1 (s := 59) (S := []) (p := b) (rest := (l.map fun b => b ++ [59]).flatten) (acc := []) (h b (List.mem_cons_self ..))
    rw [List.map_cons, List.flatten_cons, List.append_assoc]
    rw [show b ++ ([59] ++ (l.map fun b => b ++ [59]).flatten) = b ++ ((59 :: []) ++ (l.map fun b => b ++ [59]).flatten) from rfl, e, ih]
    rfl
theorem joinL_nil : ∀ l : List (List Nat), TL.joinL [] l = l.flatten
  | [] => rfl
  | [p] => by
    show p = [p].flatten
    simp
  | p :: q :: r => by
    show p ++ ([] ++ TL.joinL [] (q :: r)) = _
    rw [joinL_nil (q :: r), List.nil_append, List.flatten_cons (l := p)]
theorem body_free {kv : List (Key × V)} (t : T9 kv) {z : Str} (hz : z ∈ keysOf kv) : z ∈ K9 ∧ Vf ((valV kv (.inr z)).getD .non) ∧ 59 ∉ tl (bodyOf z ((valV kv (.inr z)).getD .non)) := by
  obtain ⟨p, hp, e⟩ := keysOf_mem hz
  obtain ⟨w, hw, e'⟩ := t.k p hp
  rw [e] at e'
  cases e'
  obtain ⟨v, hv⟩ := valV_has hp
  rw [e] at hv
  have vf := t.vf hv
  rw [hv]
  refine ⟨hw, vf, ?_⟩
  have f := (k9_free z hw).1
  have e1 : 59 ∉ tl ("=" : Str) := by decide +kernel
  have e2 : 59 ∉ tl ("!" : Str) := by decide +kernel
  show 59 ∉ tl (bodyOf z v)
  unfold bodyOf
  cases v with
  | str w =>
    show 59 ∉ tl (((Str.empty ++ z) ++ "=") ++ w)
    rw [tl_append, tl_append, tl_append, tl_empty]
    simp only [List.nil_append, List.mem_append, not_or]
    exact ⟨⟨f, e1⟩, vf.2 w rfl⟩
  | _ =>
    show 59 ∉ tl ((Str.empty ++ z) ++ "!")
    rw [tl_append, tl_append, tl_empty]
    simp only [List.nil_append, List.mem_append, not_or]
    exact ⟨f, e2⟩
theorem split_text {kv : List (Key × V)} (t : T9 kv) : Txt.split (textOf kv) ";" = ((srt (keysOf kv)).map fun z => bodyOf z ((valV kv (.inr z)).getD .non)) ++ [("" : Str)] := by
  refine map_tl_inj ?_
  rw [split_spl _ _ (by rw [tl_semi]; simp) (kind_ok (by decide +kernel)), tl_semi]
  have e : tl (textOf kv) = ((((srt (keysOf kv)).map fun z => tl (bodyOf z ((valV kv (.inr z)).getD .non)))).map fun b => b ++ [59]).flatten := by
    unfold textOf
    rw [TL.join_eq, TL.tl_join, show tl ("" : Str) = [] from rfl, joinL_nil]
    unfold partsOf
    rw [List.map_map, List.map_map]
    congr 1
    exact List.map_congr_left fun z _ => tl_body z _
  rw [e, spl_bodies _ fun b hb => by
    obtain ⟨z, hz, rfl⟩ := List.mem_map.mp hb
    exact (body_free t ((srt_perm _).mem_iff.mp hz)).2.2]
  rw [List.map_append, List.map_map]
  rfl
theorem empty_app (z : Str) : Str.empty ++ z = z := ext_tl (by rw [tl_append, tl_empty, List.nil_append])
theorem rd_body {acc : List (Key × V)} {z : Str} {v : V} (hz : z ∈ K9) (vf : Vf v) : rdStep acc (bodyOf z v) = putK acc (.inr z) v := by
  have f := (k9_free z hz).2
  have ne : ("=" : Str) ≠ "" := fun e => by have e := congrArg tl e; rw [tl_eq] at e; cases e
  rcases vf.1 with rfl | ⟨w, rfl, _⟩
  · have e1 : tl ("!" : Str) = [33] := by decide +kernel
    have eb : bodyOf z .non = z ++ "!" := by
      show (Str.empty ++ z) ++ "!" = _
      rw [empty_app]
    have hp : Txt.partition (z ++ "!") "=" = (z ++ "!", Str.empty, Str.empty) := partition_none tl_eq (by
      rw [tl_append, e1]
      intro q
      rcases List.mem_append.mp q with q | q
      · exact f q
      · exact absurd q (by decide))
    have ec : cutS (z ++ "!") none (some (-1)) = z := ext_tl (by rw [cutS_last, tl_append, e1, List.dropLast_concat])
    rw [eb]
    unfold rdStep
    rw [hp]
    show (if (Str.empty : Str) = "" then putK acc (.inr (cutS (z ++ "!") none (some (-1)))) .non else _) = _
    rw [if_pos (show (Str.empty : Str) = "" from rfl), ec]
  · have eb : bodyOf z (.str w) = z ++ "=" ++ w := by
      show ((Str.empty ++ z) ++ "=") ++ w = _
      rw [empty_app]
    have hp : Txt.partition (z ++ "=" ++ w) "=" = (z, ("=" : Str), w) := partition_app tl_eq f
    rw [eb]
    unfold rdStep
    rw [hp]
    exact if_neg ne
theorem rd_fold {f : Str → V} : ∀ (zs : List Str) (acc : List (Key × V)), zs.Nodup → (∀ z ∈ zs, z ∈ K9 ∧ Vf (f z)) → (∀ z ∈ zs, valV acc (Sum.inr z : Key) = none) → (zs.map fun z => bodyOf z (f z)).foldl rdStep acc = acc ++ zs.map fun z => ((Sum.inr z : Key), f z)
  | [], acc, _, _, _ => (List.append_nil _).symm
  | z :: zs, acc, nd, h, hv => by
    rw [List.nodup_cons] at nd
    have hz := h z (List.mem_cons_self ..)
    rw [List.map_cons, List.foldl_cons, rd_body hz.1 hz.2, putK_new _ (hv z (List.mem_cons_self ..)),
      rd_fold zs _ nd.2 (fun y hy => h y (List.mem_cons_of_mem _ hy)) (fun y hy => by
        rw [valV_app_neg (hv z (List.mem_cons_self ..)), valV_neg (fun e => nd.1 (by
          have e : (Sum.inr z : Key) = Sum.inr y := e
          rw [Sum.inr.inj e]
          exact hy))]
        exact hv y (List.mem_cons_of_mem _ hy)), List.append_assoc]
    rfl
/-- THE READ-BACK of a table's or a record's text -/
theorem rdCh_text {kv : List (Key × V)} (t : T9 kv) : rdCh (textOf kv) = srtK kv := by
  unfold rdCh
  rw [split_text t, List.dropLast_concat]
  have nd : (srt (keysOf kv)).Nodup := by
    have e := keysOf_of fun p hp => by
      obtain ⟨z, _, e⟩ := t.k p hp
      exact ⟨z, e⟩
    have n := t.nd
    rw [e] at n
    have n' : (keysOf kv).Nodup := List.Pairwise.of_map (R := fun a b => a ≠ b) Sum.inr (fun a b z e => z (by rw [e])) n
    exact (srt_perm _).nodup_iff.mpr n'
  rw [rd_fold (f := fun z => (valV kv (.inr z)).getD .non) _ [] nd (fun z hz => by
    have b := body_free t ((srt_perm _).mem_iff.mp hz)
    exact ⟨b.1, b.2.1⟩) (fun z _ => rfl)]
  rfl
theorem srt_sorted (l : List Str) : PyProof.Rows.sortedS (srt l) = true := pw_sorted (srt_pw l)
theorem keys_iff {kv : List (Key × V)} {z : Str} : z ∈ keysOf kv ↔ (valV kv (.inr z)).isSome = true := by
  constructor
  · intro h
    obtain ⟨p, hp, e⟩ := keysOf_mem h
    obtain ⟨v, hv⟩ := valV_has hp
    rw [e] at hv
    rw [hv]
    rfl
  · intro h
    cases q : valV kv (.inr z) with
    | none => rw [q] at h; cases h
    | some v =>
      obtain ⟨p, hp, e, _⟩ := valV_mem q
      exact List.mem_filterMap.mpr ⟨p, hp, by rw [e]⟩
theorem keys_nd {kv : List (Key × V)} (t : T9 kv) : (keysOf kv).Nodup := by
  have e := keysOf_of fun p hp => by
    obtain ⟨z, _, e⟩ := t.k p hp
    exact ⟨z, e⟩
  have n := t.nd
  rw [e] at n
  exact List.Pairwise.of_map (R := fun a b => a ≠ b) Sum.inr (fun a b z e => z (by rw [e])) n
/-- tables that answer alike are told alike -/
theorem srtK_congr {a b : List (Key × V)} (ha : T9 a) (hb : T9 b) (h : ∀ k, valV a k = valV b k) : srtK a = srtK b := by
  have p : (keysOf a).Perm (keysOf b) := (List.perm_ext_iff_of_nodup (keys_nd ha) (keys_nd hb)).mpr fun z => by rw [keys_iff, keys_iff, h]
  have e : srt (keysOf a) = srt (keysOf b) := srt_of ((srt_perm _).trans p) (srt_sorted _)
  unfold srtK
  rw [e]
  exact List.map_congr_left fun z _ => by rw [h]
theorem valV_dropK {kv : List (Key × V)} {k j : Key} : valV (dropK kv k) j = if j = k then none else valV kv j := by
  induction kv with
  | nil => split <;> rfl
  | cons p r ih =>
    by_cases c : p.1 = k
    · have e : dropK (p :: r) k = dropK r k := by
        unfold dropK
        rw [List.filter_cons, if_neg (by simp [c])]
      rw [e, ih]
      by_cases q : j = k
      · rw [if_pos q, if_pos q]
      · rw [if_neg q, if_neg q, valV_neg (fun z => q (by rw [← z, c]))]
    · have e : dropK (p :: r) k = p :: dropK r k := by
        unfold dropK
        rw [List.filter_cons, if_pos (by simp [c])]
      rw [e]
      by_cases z : p.1 = j
      · rw [valV_pos z, valV_pos z, if_neg (fun w => c (by rw [z, w]))]
      · rw [valV_neg z, valV_neg z, ih]
theorem stepK_congr {a b : List (Key × V)} (h : ∀ k, valV a k = valV b k) (p : Key × V) : ∀ k, valV (stepK a p) k = valV (stepK b p) k := fun k => by
  unfold stepK
  split
  · rw [valV_dropK, valV_dropK, h]
  · rw [valV_put, valV_put, h]
/-- the same changes on tables that answer alike -/
theorem applyK_congr : ∀ (ch : List (Key × V)) {a b : List (Key × V)}, (∀ k, valV a k = valV b k) → ∀ k, valV (applyK a ch) k = valV (applyK b ch) k
  | [], _, _, h => h
  | p :: r, _, _, h => applyK_congr r (stepK_congr h p)
theorem valV_row {f : Str → V} : ∀ (zs : List Str) (y : Str), valV (zs.map fun z => ((Sum.inr z : Key), f z)) (Sum.inr y) = if y ∈ zs then some (f y) else none
  | [], y => rfl
  | z :: zs, y => by
    rw [List.map_cons]
    by_cases c : z = y
    · subst c
      rw [valV_pos rfl, if_pos (List.mem_cons_self ..)]
    · rw [valV_neg (fun e => c (Sum.inr.inj e)), valV_row zs y]
      by_cases m : y ∈ zs
      · rw [if_pos m, if_pos (List.mem_cons_of_mem _ m)]
      · rw [if_neg m, if_neg (fun h => (List.mem_cons.mp h).elim (fun e => c e.symm) m)]
theorem valV_rowN {f : Str → V} : ∀ (zs : List Str) (i : Int), valV (zs.map fun z => ((Sum.inr z : Key), f z)) (Sum.inl i) = none
  | [], _ => rfl
  | z :: zs, i => by
    rw [List.map_cons, valV_neg (fun e => by cases e), valV_rowN zs i]
/-- a table in its order answers as before -/
theorem valV_srt {kv : List (Key × V)} (t : T9 kv) (k : Key) : valV (srtK kv) k = valV kv k := by
  unfold srtK
  cases k with
  | inl i =>
    rw [valV_rowN]
    cases q : valV kv (Sum.inl i : Key) with
    | none => rfl
    | some v =>
      obtain ⟨p, hp, e, _⟩ := valV_mem q
      obtain ⟨z, _, e'⟩ := t.k p hp
      rw [e] at e'
      cases e'
  | inr y =>
    rw [valV_row]
    by_cases m : y ∈ srt (keysOf kv)
    · rw [if_pos m]
      have h := keys_iff.mp ((srt_perm _).mem_iff.mp m)
      cases q : valV kv (Sum.inr y : Key) with
      | none => rw [q] at h; cases h
      | some v => rfl
    · rw [if_neg m]
      cases q : valV kv (Sum.inr y : Key) with
      | none => rfl
      | some v => exact absurd ((srt_perm _).mem_iff.mpr (keys_iff.mpr (by rw [q]; rfl))) m
/-! #### records as rows -/
/-- the rows of a record: how many follow, and the stretch -/
def rowsL : List Str → List (Nat × Str)
  | [] => []
  | p :: r => (r.length, p) :: rowsL r
def catL : Str → List Str → Str
  | t, [] => t
  | t, p :: r => catL (t ++ p) r
theorem rowsL_len : ∀ ps : List Str, (rowsL ps).length = ps.length
  | [] => rfl
  | p :: r => congrArg (· + 1) (rowsL_len r)
/-- a whole record is read -/
theorem recs_rows : ∀ (r : List Str) (p t : Str) (rest : List (Nat × Str)), recsL t (rowsL (p :: r) ++ rest) = catL t (p :: r) :: recsL "" rest
  | [], p, t, rest => by
    show (if (0 : Nat) = 0 then (t ++ p) :: recsL "" rest else _) = _
    rw [if_pos rfl]
    rfl
  | q :: r, p, t, rest => by
    show (if (q :: r).length = 0 then _ else recsL (t ++ p) (rowsL (q :: r) ++ rest)) = _
    rw [if_neg (by simp), recs_rows r q (t ++ p) rest]
    rfl
/-- a record that is cut is not read -/
theorem recs_part : ∀ (ps : List Str) (t : Str) (m : Nat), m < ps.length → recsL t ((rowsL ps).take m) = []
  | [], _, _, h => by cases h
  | p :: r, t, 0, _ => rfl
  | p :: r, t, m + 1, h => by
    have h' : m < r.length := Nat.lt_of_succ_lt_succ h
    show (if r.length = 0 then _ else recsL (t ++ p) ((rowsL r).take m)) = []
    rw [if_neg (by omega), recs_part r (t ++ p) m h']
theorem tl_cat : ∀ (ps : List Str) (t : Str), tl (catL t ps) = tl t ++ (ps.map tl).flatten
  | [], t => by
    show tl t = _
    rw [List.map_nil, List.flatten_nil, List.append_nil]
  | p :: r, t => by
    show tl (catL (t ++ p) r) = _
    rw [tl_cat r (t ++ p), tl_append, List.map_cons, List.flatten_cons, List.append_assoc]
theorem chunk_flat (l : List Nat) : ∀ n : Nat, ((List.range n).map fun i : Nat => (l.drop (60 * i)).take 60).flatten = l.take (60 * n)
  | 0 => by simp
  | n + 1 => by
    rw [List.range_succ, List.map_append, List.flatten_append, chunk_flat l n]
    show l.take (60 * n) ++ ((l.drop (60 * n)).take 60 ++ []) = _
    rw [List.append_nil, show 60 * (n + 1) = 60 * n + 60 by omega, List.take_add]
/-- the stretches of a text, joined, are the text -/
theorem cutT_flat (z : Str) : ((cutT z).map tl).flatten = tl z := by
  have lz := len_tl z
  have e : (cutT z).map tl = (List.range (nCut z)).map fun i : Nat => ((tl z).drop (60 * i)).take 60 := by
    unfold cutT
    rw [List.map_map]
    refine List.map_congr_left fun i _ => ?_
    show ((tl z).drop (HT.sIx z.length 0 (some (0 + (i : Int) * 60)))).take (HT.sIx z.length z.length (some (0 + (i : Int) * 60 + 60)) - HT.sIx z.length 0 (some (0 + (i : Int) * 60))) = _
    rw [show (0 : Int) + (i : Int) * 60 = ((60 * i : Nat) : Int) by omega, show ((60 * i : Nat) : Int) + 60 = ((60 * i + 60 : Nat) : Int) by omega, HT.sIx_nat, HT.sIx_nat]
    by_cases h : 60 * i + 60 ≤ z.length
    · rw [Nat.min_eq_left h, Nat.min_eq_left (by omega), show 60 * i + 60 - 60 * i = 60 by omega]
    · by_cases h2 : 60 * i ≤ z.length
      · rw [Nat.min_eq_right (by omega : z.length ≤ 60 * i + 60), Nat.min_eq_left h2, List.take_of_length_le (by rw [List.length_drop]; omega), List.take_of_length_le (by rw [List.length_drop]; omega)]
      · rw [Nat.min_eq_right (by omega : z.length ≤ 60 * i + 60), Nat.min_eq_right (by omega : z.length ≤ 60 * i), List.drop_of_length_le (by omega : (tl z).length ≤ z.length), List.drop_of_length_le (by omega : (tl z).length ≤ 60 * i), List.take_nil, List.take_nil]
  rw [e, chunk_flat, List.take_of_length_le]
  unfold nCut
  split <;> omega
/-! ### the log of a disk -/
abbrev Tbl := List (Key × V)
def pcsT (kv : Tbl) : List Str := cutT (textOf kv)
def rowsR (chs : List Tbl) : List (Nat × Str) := (chs.map fun ch => rowsL (pcsT ch)).flatten
theorem rowsR_app (a b : List Tbl) : rowsR (a ++ b) = rowsR a ++ rowsR b := by
  unfold rowsR
  rw [List.map_append, List.flatten_append]
theorem rowsR_one (ch : Tbl) : rowsR [ch] = rowsL (pcsT ch) := by
  unfold rowsR
  rw [List.map_cons, List.map_nil, List.flatten_cons, List.flatten_nil, List.append_nil]
theorem rowsR_cons (ch : Tbl) (r : List Tbl) : rowsR (ch :: r) = rowsL (pcsT ch) ++ rowsR r := rfl
theorem rowsL_get : ∀ (ps : List Str) (i : Nat), (rowsL ps)[i]? = ps[i]?.map fun p => (ps.length - i - 1, p)
  | [], i => by simp [rowsL]
  | p :: r, 0 => by
    show some (r.length, p) = some (r.length + 1 - 0 - 1, p)
    rw [show r.length + 1 - 0 - 1 = r.length by omega]
  | p :: r, i + 1 => by
    show (rowsL r)[i]? = (r[i]?).map fun p => (r.length + 1 - (i + 1) - 1, p)
    rw [rowsL_get r i, show r.length + 1 - (i + 1) - 1 = r.length - i - 1 by omega]
theorem drop_get {α : Type} {R : List α} {n : Nat} {x : α} (h : R[n]? = some x) : R.drop n = x :: R.drop (n + 1) := by
  obtain ⟨hl, e⟩ := List.getElem?_eq_some_iff.mp h
  rw [List.drop_eq_getElem_cons hl, e]
/-- rows that agree with a row are read as a beginning of it -/
theorem sfR_pre {g : Nat} {R : List (Nat × Str)} : ∀ (cs : List Cl) (n : Nat), (∀ i f p, cs[i]? = some (Cl.row g (n + i + 1) f p) → R[n + i]? = some (f, p)) → ∃ m, sfR g n cs = (R.drop n).take m
  | [], n, _ => ⟨0, by rw [List.take_zero]; rfl⟩
  | c :: r, n, h => by
    cases c with
    | row g' i f s =>
      by_cases q : g' = g ∧ i = n + 1
      · obtain ⟨rfl, rfl⟩ := q
        have h0 : R[n]? = some (f, s) := h 0 f s rfl
        obtain ⟨m, hm⟩ := sfR_pre r (n + 1) fun i f p e => by
          have := h (i + 1) f p (by rw [List.getElem?_cons_succ, e, show n + 1 + i + 1 = n + (i + 1) + 1 by omega])
          rw [show n + 1 + i = n + (i + 1) by omega]
          exact this
        refine ⟨m + 1, ?_⟩
        show (if g' = g' ∧ n + 1 = n + 1 then (f, s) :: sfR g' (n + 1) r else []) = _
        rw [if_pos ⟨rfl, rfl⟩, hm, drop_get h0, List.take_succ_cons]
      · refine ⟨0, ?_⟩
        show (if g' = g ∧ i = n + 1 then (f, s) :: sfR g (n + 1) r else []) = _
        rw [if_neg q, List.take_zero]
    | gone => exact ⟨0, by rw [List.take_zero]; rfl⟩
    | torn => exact ⟨0, by rw [List.take_zero]; rfl⟩
    | head _ _ => exact ⟨0, by rw [List.take_zero]; rfl⟩
    | piece _ _ _ => exact ⟨0, by rw [List.take_zero]; rfl⟩
theorem sfP_pre {g : Nat} {R : List Str} : ∀ (cs : List Cl) (n : Nat), (∀ i p, cs[i]? = some (Cl.piece g (n + i + 1) p) → R[n + i]? = some p) → ∃ m, sfP g n cs = (R.drop n).take m
  | [], n, _ => ⟨0, by rw [List.take_zero]; rfl⟩
  | c :: r, n, h => by
    cases c with
    | piece g' i s =>
      by_cases q : g' = g ∧ i = n + 1
      · obtain ⟨rfl, rfl⟩ := q
        have h0 : R[n]? = some s := h 0 s rfl
        obtain ⟨m, hm⟩ := sfP_pre r (n + 1) fun i p e => by
          have := h (i + 1) p (by rw [List.getElem?_cons_succ, e, show n + 1 + i + 1 = n + (i + 1) + 1 by omega])
          rw [show n + 1 + i = n + (i + 1) by omega]
          exact this
        refine ⟨m + 1, ?_⟩
        show (if g' = g' ∧ n + 1 = n + 1 then s :: sfP g' (n + 1) r else []) = _
        rw [if_pos ⟨rfl, rfl⟩, hm, drop_get h0, List.take_succ_cons]
      · refine ⟨0, ?_⟩
        show (if g' = g ∧ i = n + 1 then s :: sfP g (n + 1) r else []) = _
        rw [if_neg q, List.take_zero]
    | gone => exact ⟨0, by rw [List.take_zero]; rfl⟩
    | torn => exact ⟨0, by rw [List.take_zero]; rfl⟩
    | head _ _ => exact ⟨0, by rw [List.take_zero]; rfl⟩
    | row _ _ _ _ => exact ⟨0, by rw [List.take_zero]; rfl⟩
/-- rows that stand there, and no further one -/
theorem sfR_spec {g : Nat} : ∀ (rs : List (Nat × Str)) (cs : List Cl) (n : Nat), (∀ i x, rs[i]? = some x → cs[i]? = some (Cl.row g (n + i + 1) x.1 x.2)) → (∀ f p, cs[rs.length]? ≠ some (Cl.row g (n + rs.length + 1) f p)) → sfR g n cs = rs
  | [], [], _, _, _ => rfl
  | [], c :: r, n, _, h2 => by
    cases c with
    | row g' i f s =>
      show (if g' = g ∧ i = n + 1 then (f, s) :: sfR g (n + 1) r else []) = []
      exact if_neg fun q => h2 f s (by obtain ⟨rfl, rfl⟩ := q; rfl)
    | gone => rfl
    | torn => rfl
    | head _ _ => rfl
    | piece _ _ _ => rfl
  | x :: rs, [], n, h1, _ => by
    have := h1 0 x rfl
    cases this
  | x :: rs, c :: r, n, h1, h2 => by
    have e : c = .row g (n + 1) x.1 x.2 := Option.some.inj (h1 0 x rfl)
    subst e
    have ih := sfR_spec rs r (n + 1) (fun i y e => by
      have := h1 (i + 1) y e
      rw [List.getElem?_cons_succ] at this
      rw [this, show n + 1 + i + 1 = n + (i + 1) + 1 by omega]) (fun f p e => h2 f p (by
      show (Cl.row g (n + 1) x.1 x.2 :: r)[rs.length + 1]? = _
      rw [List.getElem?_cons_succ, e, show n + 1 + rs.length + 1 = n + (rs.length + 1) + 1 by omega]
      rfl))
    show (if g = g ∧ n + 1 = n + 1 then (x.1, x.2) :: sfR g (n + 1) r else []) = _
    rw [if_pos ⟨rfl, rfl⟩, ih]
theorem sfP_spec {g : Nat} : ∀ (ps : List Str) (cs : List Cl) (n : Nat), (∀ i p, ps[i]? = some p → cs[i]? = some (Cl.piece g (n + i + 1) p)) → sfP g n (cs.take ps.length) = ps
  | [], cs, n, _ => by rw [List.length_nil, List.take_zero]; rfl
  | x :: rs, [], n, h1 => by
    have := h1 0 x rfl
    cases this
  | x :: rs, c :: r, n, h1 => by
    have e : c = .piece g (n + 1) x := Option.some.inj (h1 0 x rfl)
    subst e
    have ih := sfP_spec rs r (n + 1) (fun i y e => by
      have := h1 (i + 1) y e
      rw [List.getElem?_cons_succ] at this
      rw [this, show n + 1 + i + 1 = n + (i + 1) + 1 by omega])
    show (if g = g ∧ n + 1 = n + 1 then x :: sfP g (n + 1) (r.take rs.length) else []) = _
    rw [if_pos ⟨rfl, rfl⟩, ih]
theorem sfP_le {g : Nat} : ∀ (i : Nat) (cs : List Cl) (n : Nat), (∀ p, cs[i]? ≠ some (Cl.piece g (n + i + 1) p)) → (sfP g n cs).length ≤ i
  | i, [], n, _ => Nat.zero_le _
  | 0, c :: r, n, h => by
    cases c with
    | piece g' j s =>
      show (if g' = g ∧ j = n + 1 then s :: sfP g (n + 1) r else []).length ≤ 0
      rw [if_neg fun q => h s (by obtain ⟨rfl, rfl⟩ := q; rfl)]
      exact Nat.le_refl _
    | gone => exact Nat.le_refl _
    | torn => exact Nat.le_refl _
    | head _ _ => exact Nat.le_refl _
    | row _ _ _ _ => exact Nat.le_refl _
  | i + 1, c :: r, n, h => by
    have ih := sfP_le i r (n + 1) fun p e => h p (by rw [List.getElem?_cons_succ, e, show n + 1 + i + 1 = n + (i + 1) + 1 by omega])
    cases c with
    | piece g' j s =>
      show (if g' = g ∧ j = n + 1 then s :: sfP g (n + 1) r else []).length ≤ i + 1
      split
      · exact Nat.succ_le_succ ih
      · exact Nat.zero_le _
    | gone => exact Nat.zero_le _
    | torn => exact Nat.zero_le _
    | head _ _ => exact Nat.zero_le _
    | row _ _ _ _ => exact Nat.zero_le _
theorem sfP_short {g i k : Nat} {cs : List Cl} {n : Nat} (hi : i < k) (h : ∀ p, cs[i]? ≠ some (Cl.piece g (n + i + 1) p)) : (sfP g n (cs.take k)).length < k :=
  Nat.lt_of_le_of_lt (sfP_le i _ n fun p e => h p (by
    rw [List.getElem?_take] at e
    rw [if_pos hi] at e
    exact e)) hi
/-! #### whole records -/
def nR (ch : Tbl) : Nat := (pcsT ch).length
def wholeN : Nat → List Tbl → Nat
  | _, [] => 0
  | m, ch :: r => if nR ch ≤ m then wholeN (m - nR ch) r + 1 else 0
theorem cat_cut (z : Str) : catL "" (cutT z) = z := ext_tl (by
  rw [tl_cat, cutT_flat, show tl ("" : Str) = [] from rfl, List.nil_append])
theorem recs_take : ∀ (chs : List Tbl) (m : Nat), (∀ ch ∈ chs, pcsT ch ≠ []) → recsL "" ((rowsR chs).take m) = (chs.take (wholeN m chs)).map textOf
  | [], m, _ => by
    show recsL "" (([] : List (Nat × Str)).take m) = _
    rw [List.take_nil]
    show [] = (([] : List Tbl).take _).map textOf
    rw [List.take_nil]
    rfl
  | ch :: r, m, h => by
    have ih := recs_take r (m - nR ch) fun c hc => h c (List.mem_cons_of_mem _ hc)
    have ne := h ch (List.mem_cons_self ..)
    have ll : (rowsL (pcsT ch)).length = nR ch := rowsL_len _
    rw [rowsR_cons, List.take_append, ll]
    show _ = ((ch :: r).take (if nR ch ≤ m then wholeN (m - nR ch) r + 1 else 0)).map textOf
    by_cases c : nR ch ≤ m
    · rw [if_pos c, List.take_of_length_le (by rw [ll]; exact c), List.take_succ_cons, List.map_cons, ← ih]
      have cc : catL "" (pcsT ch) = textOf ch := cat_cut _
      cases q : pcsT ch with
      | nil => exact absurd q ne
      | cons p ps =>
        rw [recs_rows, ← q, cc]
    · rw [if_neg c, show m - nR ch = 0 by omega, List.take_zero, List.append_nil, List.take_zero, List.map_nil]
      exact recs_part _ "" m (by show m < nR ch; omega)
/-! #### changes, by what they answer -/
theorem applyK_val : ∀ {ch : Tbl}, (ch.map (·.1)).Nodup → ∀ (kv : Tbl) (k : Key), valV (applyK kv ch) k = match valV ch k with | none => valV kv k | some v => if v = .non then none else some v
  | [], _, kv, k => rfl
  | p :: r, nd, kv, k => by
    rw [List.map_cons, List.nodup_cons] at nd
    have ih := applyK_val nd.2 (stepK kv p) k
    show valV (applyK (stepK kv p) r) k = _
    rw [ih]
    have sv : valV (stepK kv p) k = if k = p.1 then (if p.2 = .non then none else some p.2) else valV kv k := by
      unfold stepK
      by_cases c : p.2 = .non
      · rw [if_pos c, valV_dropK, if_pos c]
      · rw [if_neg c, valV_put, if_neg c]
    by_cases c : p.1 = k
    · have hn : valV r k = none := by
        cases q : valV r k with
        | none => rfl
        | some v =>
          obtain ⟨x, hx, e, _⟩ := valV_mem q
          exact absurd (List.mem_map.mpr ⟨x, hx, e.trans c.symm⟩) nd.1
      rw [hn, valV_pos c, sv, if_pos c.symm]
    · rw [valV_neg c]
      cases q : valV r k with
      | none => rw [sv, if_neg (Ne.symm c)]
      | some v => rfl
theorem T9.srt {kv : Tbl} (t : T9 kv) : T9 (srtK kv) := by
  have km : ∀ z ∈ SM.srt (keysOf kv), z ∈ keysOf kv := fun z h => (srt_perm _).mem_iff.mp h
  refine ⟨fun p hp => ?_, fun p hp => ?_, ?_⟩
  · obtain ⟨z, hz, rfl⟩ := List.mem_map.mp hp
    exact ⟨z, (body_free t (km z hz)).1, rfl⟩
  · obtain ⟨z, hz, rfl⟩ := List.mem_map.mp hp
    exact (body_free t (km z hz)).2.1
  · unfold srtK
    rw [List.map_map]
    have nd : (SM.srt (keysOf kv)).Nodup := (srt_perm _).nodup_iff.mpr (keys_nd t)
    exact List.pairwise_map.mpr (nd.imp fun {a b} n e => n (Sum.inr.inj e))
def tabF (kv : Tbl) (chs : List Tbl) : Tbl := chs.foldl applyK kv
theorem tabF_app (kv : Tbl) (a b : List Tbl) : tabF kv (a ++ b) = tabF (tabF kv a) b := by unfold tabF; rw [List.foldl_append]
theorem tabF_t9 : ∀ (chs : List Tbl) {kv : Tbl}, T9 kv → (∀ ch ∈ chs, T9 ch) → T9 (tabF kv chs)
  | [], _, t, _ => t
  | ch :: r, _, t, h => tabF_t9 r (t.apply (h ch (List.mem_cons_self ..))) fun c hc => h c (List.mem_cons_of_mem _ hc)
theorem fold_read : ∀ (chs : List Tbl) {a b : Tbl}, (∀ ch ∈ chs, T9 ch) → T9 a → (∀ k, valV a k = valV b k) → (∀ k, valV ((chs.map textOf).foldl (fun t z => applyK t (rdCh z)) a) k = valV (tabF b chs) k) ∧ T9 ((chs.map textOf).foldl (fun t z => applyK t (rdCh z)) a)
  | [], _, _, _, t, h => ⟨h, t⟩
  | ch :: r, a, b, hc, t, h => by
    have tc := hc ch (List.mem_cons_self ..)
    have e : rdCh (textOf ch) = srtK ch := rdCh_text tc
    refine fold_read r (a := applyK a (rdCh (textOf ch))) (b := applyK b ch) (fun c hh => hc c (List.mem_cons_of_mem _ hh)) (by rw [e]; exact t.apply tc.srt) fun k => ?_
    rw [e, applyK_val tc.srt.nd, applyK_val tc.nd, valV_srt tc, h]
/-- what is read from pieces and rows -/
theorem read_tab {kv : Tbl} {chs : List Tbl} (t : T9 kv) (hc : ∀ ch ∈ chs, T9 ch) : (∀ k, valV ((chs.map textOf).foldl (fun t z => applyK t (rdCh z)) (rdCh (textOf kv))) k = valV (tabF kv chs) k) ∧ T9 ((chs.map textOf).foldl (fun t z => applyK t (rdCh z)) (rdCh (textOf kv))) := by
  rw [rdCh_text t]
  exact fold_read chs hc t.srt fun k => valV_srt t k
theorem join_cut (z : Str) : PySem.Txt.join "" (cutT z) = z := ext_tl (by
  rw [TL.join_eq, TL.tl_join, show tl ("" : Str) = [] from rfl, joinL_nil, cutT_flat])
/-! #### the cells as a function -/
def RepC (M : Tbl) (f : Nat → Cl) : Prop := ∀ j : Nat, cellV M j = (f j).v
def clsF (M : Tbl) (f : Nat → Cl) : List Cl := (List.range (bnd M)).map f
theorem RepC.cells {M : Tbl} {f : Nat → Cl} (h : RepC M f) : cells M = (clsF M f).map Cl.v := by
  unfold SM.cells clsF
  rw [List.map_map]
  exact List.map_congr_left fun j _ => h j
theorem v_non {c : Cl} (h : c.v = .non) : c = .gone := by
  cases c with
  | gone => rfl
  | torn => cases h
  | head _ _ => cases h
  | piece _ _ _ => cases h
  | row _ _ _ _ => cases h
theorem RepC.far {M : Tbl} {f : Nat → Cl} (h : RepC M f) {j : Nat} (hj : bnd M ≤ j) : f j = .gone := by
  refine v_non ?_
  rw [← h j]
  unfold cellV
  cases q : valV M (Sum.inl (j : Int) : Key) with
  | none => rfl
  | some u =>
    have := bnd_in q
    have e' : kN (Sum.inl (j : Int), u) = j + 1 := rfl
    omega
theorem cls_get {M : Tbl} {f : Nat → Cl} {i : Nat} {c : Cl} (e : (clsF M f)[i]? = some c) : f i = c := by
  unfold clsF at e
  rw [List.getElem?_map] at e
  by_cases h : i < bnd M
  · rw [List.getElem?_range h] at e
    exact Option.some.inj e
  · rw [List.getElem?_eq_none (by rw [List.length_range]; omega)] at e
    cases e
theorem RepC.get {M : Tbl} {f : Nat → Cl} (h : RepC M f) {i : Nat} (n : f i ≠ .gone) : (clsF M f)[i]? = some (f i) := by
  unfold clsF
  rw [List.getElem?_map, List.getElem?_range (Nat.lt_of_not_le fun q => n (h.far q))]
  rfl
theorem RepC.hd {M : Tbl} {f : Nat → Cl} (h : RepC M f) : hd0 (clsF M f) = hd0 [f 0] := by
  cases q : clsF M f with
  | nil =>
    have b : bnd M = 0 := by
      have := congrArg List.length q
      unfold clsF at this
      rw [List.length_map, List.length_range] at this
      exact this
    rw [h.far (by omega)]
    rfl
  | cons c r =>
    have : f 0 = c := cls_get (M := M) (by rw [q]; rfl)
    rw [this]
    cases c <;> rfl
theorem RepC.put {M : Tbl} {f : Nat → Cl} (h : RepC M f) (i : Nat) {c : Cl} {z : Str} (hz : c.v = .str z) : RepC (putK M (.inl (i : Int)) (.str z)) (fun j => if j = i then c else f j) := fun j => by
  unfold cellV
  rw [valV_put]
  by_cases e : j = i
  · subst e
    rw [if_pos rfl]
    show V.str z = (if j = j then c else f j).v
    rw [if_pos rfl, hz]
  · rw [if_neg (fun z => e (by have := Sum.inl.inj z; omega))]
    show _ = (if j = i then c else f j).v
    rw [if_neg e]
    exact h j
/-- a write: the side, the index, the cell -/
abbrev COp := Nat × Nat × Cl
def Cl.t : Cl → Str
  | .gone => ""
  | .torn => ""
  | .head g c => headT g c
  | .piece g i s => pieceT g i s
  | .row g i f s => rowT g i f s
theorem Cl.vt {c : Cl} (n : c ≠ .gone) : c.v = .str c.t := by
  cases c with
  | gone => exact absurd rfl n
  | torn => rfl
  | head _ _ => rfl
  | piece _ _ _ => rfl
  | row _ _ _ _ => rfl
def opC (q : COp) : Op := ((q.1 : Int), (q.2.1 : Int), q.2.2.t)
abbrev Mem := Nat → Nat → Cl
def RepS (S : DS) (f : Mem) : Prop := RepC S.m0 (f 0) ∧ RepC S.m1 (f 1)
def updF (f : Mem) (s i : Nat) (c : Cl) : Mem := fun s' i' => if s' = s then (if i' = i then c else f s' i') else f s' i'
theorem RepS.keep {S : DS} {f : Mem} (h : RepS S f) {s i : Nat} {c : Cl} (hs : s < 2) {z : Str} (n : c.v = .str z) : RepS (S.keep ((s : Int), (i : Int), z)) (updF f s i c) := by
  match s, hs with
  | 0, _ =>
    rw [keep_0 (S := S) (q := (((0 : Nat) : Int), (i : Int), z)) rfl]
    exact ⟨h.1.put i n, h.2⟩
  | 1, _ =>
    rw [keep_1 (S := S) (q := (((1 : Nat) : Int), (i : Int), z)) (by show ¬ (1 : Int) = 0; decide)]
    exact ⟨h.1, h.2.put i n⟩
def cutF : Mem → List COp → List Wd → Mem
  | f, [], _ => f
  | f, _ :: _, [] => f
  | f, q :: r, w :: ws => cutF (match w with | .kept => updF f q.1 q.2.1 q.2.2 | .lost => f | .torn => updF f q.1 q.2.1 .torn) r ws
def OkO (q : COp) : Prop := q.1 < 2 ∧ q.2.2 ≠ .gone
theorem RepS.cut : ∀ (ops : List COp) {S : DS} {f : Mem} (ws : List Wd), RepS S f → (∀ q ∈ ops, OkO q) → RepS (((ops.map opC).zip ws).foldl DS.cut1 S) (cutF f ops ws)
  | [], S, f, ws, h, _ => h
  | q :: r, S, f, [], h, _ => h
  | q :: r, S, f, w :: ws, h, ok => by
    have hq := ok q (List.mem_cons_self ..)
    refine RepS.cut r ws ?_ fun x hx => ok x (List.mem_cons_of_mem _ hx)
    cases w with
    | kept => exact h.keep hq.1 (Cl.vt hq.2)
    | lost => exact h
    | torn => exact h.keep (c := .torn) hq.1 rfl
theorem cut_keep : ∀ (l : List Op) (S : DS), (l.zip (List.replicate l.length Wd.kept)).foldl DS.cut1 S = l.foldl DS.keep S
  | [], _ => rfl
  | q :: l, S => cut_keep l (S.keep q)
theorem RepS.fall {S : DS} {f : Mem} {ops : List COp} (h : RepS S f) (e : S.op = ops.map opC) (ok : ∀ q ∈ ops, OkO q) (ws : List Wd) : RepS (S.fall ws) (cutF f ops ws) := by
  have := RepS.cut ops ws h ok
  unfold DS.fall
  rw [e]
  exact this
theorem RepS.sync {S : DS} {f : Mem} {ops : List COp} (h : RepS S f) (e : S.op = ops.map opC) (ok : ∀ q ∈ ops, OkO q) : RepS S.sync (cutF f ops (List.replicate ops.length .kept)) := by
  have c := RepS.cut ops (List.replicate ops.length .kept) h ok
  unfold DS.sync
  by_cases q : S.op = []
  · rw [if_pos q]
    rw [e] at q
    have : ops = [] := List.map_eq_nil_iff.mp q
    subst this
    exact h
  · rw [if_neg q]
    have k := cut_keep (ops.map opC) S
    rw [List.length_map] at k
    rw [k] at c
    rw [e]
    exact c
/-! #### rows of writes -/
def seqOps (s : Nat) : Nat → List Cl → List COp
  | _, [] => []
  | b, c :: r => (s, b, c) :: seqOps s (b + 1) r
theorem seq_get (s : Nat) : ∀ (cs : List Cl) (b i : Nat), (seqOps s b cs)[i]? = cs[i]?.map fun c => (s, b + i, c)
  | [], b, i => by simp [seqOps]
  | c :: r, b, 0 => rfl
  | c :: r, b, i + 1 => by
    show (seqOps s (b + 1) r)[i]? = (r[i]?).map fun c => (s, b + (i + 1), c)
    rw [seq_get s r (b + 1) i, show b + 1 + i = b + (i + 1) by omega]
theorem seq_len (s : Nat) : ∀ (cs : List Cl) (b : Nat), (seqOps s b cs).length = cs.length
  | [], _ => rfl
  | c :: r, b => congrArg (· + 1) (seq_len s r (b + 1))
theorem seq_app (s : Nat) : ∀ (x y : List Cl) (b : Nat), seqOps s b (x ++ y) = seqOps s b x ++ seqOps s (b + x.length) y
  | [], y, b => rfl
  | c :: r, y, b => by
    show (s, b, c) :: seqOps s (b + 1) (r ++ y) = (s, b, c) :: (seqOps s (b + 1) r ++ seqOps s (b + (r.length + 1)) y)
    rw [seq_app s r y (b + 1), show b + 1 + r.length = b + (r.length + 1) by omega]
theorem cutF_app : ∀ (a b : List COp) (f : Mem) (ws : List Wd), cutF f (a ++ b) ws = cutF (cutF f a ws) b (ws.drop a.length)
  | [], b, f, ws => rfl
  | q :: r, b, f, [] => by
    show f = cutF f b (([] : List Wd).drop _)
    rw [List.drop_nil]
    cases b <;> rfl
  | q :: r, b, f, w :: ws => cutF_app r b _ ws
/-- a cell behind a cut: its write's word, the new cell, the old one -/
def wordC : Option Wd → Cl → Cl → Cl
  | some .kept, c, _ => c
  | some .torn, _, _ => .torn
  | _, _, o => o
theorem cutF_off (s : Nat) : ∀ (cs : List Cl) (b : Nat) (f : Mem) (ws : List Wd) (s' i' : Nat), (s' ≠ s ∨ i' < b ∨ b + cs.length ≤ i') → cutF f (seqOps s b cs) ws s' i' = f s' i'
  | [], b, f, ws, s', i', _ => rfl
  | c :: r, b, f, [], s', i', _ => rfl
  | c :: r, b, f, w :: ws, s', i', h => by
    have h' : s' ≠ s ∨ i' < b + 1 ∨ b + 1 + r.length ≤ i' := by
      rcases h with h | h | h
      · exact .inl h
      · exact .inr (.inl (by omega))
      · exact .inr (.inr (by rw [List.length_cons] at h; omega))
    have o : ∀ x : Cl, updF f s b x s' i' = f s' i' := fun x => by
      unfold updF
      by_cases e : s' = s
      · rw [if_pos e, if_neg]
        rcases h with h | h | h
        · exact absurd e h
        · omega
        · rw [List.length_cons] at h; omega
      · rw [if_neg e]
    show cutF _ (seqOps s (b + 1) r) ws s' i' = _
    rw [cutF_off s r (b + 1) _ ws s' i' h']
    cases w with
    | kept => exact o _
    | lost => rfl
    | torn => exact o _
theorem cutF_at (s : Nat) : ∀ (cs : List Cl) (b : Nat) (f : Mem) (ws : List Wd) (j : Nat) (c : Cl), cs[j]? = some c → cutF f (seqOps s b cs) ws s (b + j) = wordC ws[j]? c (f s (b + j))
  | [], b, f, ws, j, c, e => by cases e
  | d :: r, b, f, [], j, c, e => rfl
  | d :: r, b, f, w :: ws, 0, c, e => by
    obtain rfl := Option.some.inj e
    show cutF _ (seqOps s (b + 1) r) ws s (b + 0) = _
    rw [cutF_off s r (b + 1) _ ws s (b + 0) (.inr (.inl (by omega)))]
    cases w with
    | kept => show updF f s b d s b = d; unfold updF; rw [if_pos rfl, if_pos rfl]
    | lost => rfl
    | torn => show updF f s b .torn s b = .torn; unfold updF; rw [if_pos rfl, if_pos rfl]
  | d :: r, b, f, w :: ws, j + 1, c, e => by
    have ih := fun g => cutF_at s r (b + 1) g ws j c e
    have o : ∀ x : Cl, updF f s b x s (b + (j + 1)) = f s (b + (j + 1)) := fun x => by
      unfold updF
      rw [if_pos rfl, if_neg (by omega)]
    show cutF _ (seqOps s (b + 1) r) ws s (b + (j + 1)) = wordC ws[j]? c (f s (b + (j + 1)))
    rw [show b + (j + 1) = b + 1 + j by omega, ih]
    rw [show b + (j + 1) = b + 1 + j by omega] at o
    cases w with
    | kept => exact congrArg _ (o _)
    | lost => rfl
    | torn => exact congrArg _ (o _)
/-- what holds of all cells holds behind a cut -/
theorem cutF_all {P : Nat → Nat → Cl → Prop} (ht : ∀ s i, P s i .torn) : ∀ (ops : List COp) {f : Mem} (ws : List Wd), (∀ s i, P s i (f s i)) → (∀ q ∈ ops, P q.1 q.2.1 q.2.2) → ∀ s i, P s i (cutF f ops ws s i)
  | [], f, ws, h, _ => h
  | q :: r, f, [], h, _ => h
  | q :: r, f, w :: ws, h, ho => by
    have u : ∀ x : Cl, P q.1 q.2.1 x → ∀ s i, P s i (updF f q.1 q.2.1 x s i) := fun x hx s i => by
      unfold updF
      by_cases e : s = q.1
      · rw [if_pos e]
        by_cases e' : i = q.2.1
        · rw [if_pos e', e, e']; exact hx
        · rw [if_neg e']; exact h s i
      · rw [if_neg e]; exact h s i
    refine cutF_all ht r ws ?_ fun x hx => ho x (List.mem_cons_of_mem _ hx)
    cases w with
    | kept => exact u _ (ho q (List.mem_cons_self ..))
    | lost => exact h
    | torn => exact u _ (ht _ _)
def rowCs (g n : Nat) (rs : List (Nat × Str)) : List Cl := rs.mapIdx fun i x => Cl.row g (n + i + 1) x.1 x.2
def pcCs (g : Nat) (ps : List Str) : List Cl := ps.mapIdx fun i p => Cl.piece g (i + 1) p
theorem rowCs_get (g n : Nat) (rs : List (Nat × Str)) (i : Nat) : (rowCs g n rs)[i]? = rs[i]?.map fun x => Cl.row g (n + i + 1) x.1 x.2 := List.getElem?_mapIdx
theorem pcCs_get (g : Nat) (ps : List Str) (i : Nat) : (pcCs g ps)[i]? = ps[i]?.map fun p => Cl.piece g (i + 1) p := List.getElem?_mapIdx
theorem rowCs_len (g n : Nat) (rs : List (Nat × Str)) : (rowCs g n rs).length = rs.length := List.length_mapIdx
theorem pcCs_len (g : Nat) (ps : List Str) : (pcCs g ps).length = ps.length := List.length_mapIdx
theorem rowCs_app (g n : Nat) (a b : List (Nat × Str)) : rowCs g n (a ++ b) = rowCs g n a ++ rowCs g (n + a.length) b := by
  refine List.ext_getElem? fun i => ?_
  rw [rowCs_get]
  by_cases h : i < a.length
  · rw [List.getElem?_append_left h, List.getElem?_append_left (by rw [rowCs_len]; exact h), rowCs_get]
  · rw [List.getElem?_append_right (by omega), List.getElem?_append_right (by rw [rowCs_len]; omega), rowCs_len, rowCs_get, show n + a.length + (i - a.length) + 1 = n + i + 1 by omega]
/-- the program's rows are these -/
theorem rows_ops {sd : Int} {s g c n : Nat} (hs : sd = (s : Int)) (ps : List Str) : rows sd (g : Int) (c : Int) (n : Int) ps ps.length = (seqOps s (c + n + 1) (rowCs g n (rowsL ps))).map opC := by
  refine List.ext_getElem? fun i => ?_
  unfold rows
  rw [List.getElem?_map, List.getElem?_map, seq_get, rowCs_get, rowsL_get]
  by_cases h : i < ps.length
  · rw [List.getElem?_range h, List.getElem?_eq_getElem h]
    show some (sd, (c : Int) + ((n : Int) + (i : Int) + 1), rowT g ((n : Int) + (i : Int) + 1) ((ps.length : Int) - i - 1) (ps.getD i "")) = some ((s : Int), ((c + n + 1 + i : Nat) : Int), rowT (g : Int) ((n + i + 1 : Nat) : Int) ((ps.length - i - 1 : Nat) : Int) ps[i])
    have e : ps.getD i "" = ps[i] := by rw [List.getD_eq_getElem?_getD, List.getElem?_eq_getElem h]; rfl
    rw [e, hs, show ((c + n + 1 + i : Nat) : Int) = (c : Int) + ((n : Int) + (i : Int) + 1) by omega, show ((n + i + 1 : Nat) : Int) = (n : Int) + (i : Int) + 1 by omega, show ((ps.length - i - 1 : Nat) : Int) = (ps.length : Int) - i - 1 by omega]
  · rw [List.getElem?_eq_none (by rw [List.length_range]; omega), List.getElem?_eq_none (by omega)]
    rfl
theorem fresh_ops {sd : Int} {s g : Nat} (hs : sd = (s : Int)) (ps : List Str) : fresh sd (g : Int) ps ps.length = (seqOps s 1 (pcCs g ps)).map opC := by
  refine List.ext_getElem? fun i => ?_
  unfold fresh
  rw [List.getElem?_map, List.getElem?_map, seq_get, pcCs_get]
  by_cases h : i < ps.length
  · rw [List.getElem?_range h, List.getElem?_eq_getElem h]
    show some (sd, (i : Int) + 1, pieceT g ((i : Int) + 1) (ps.getD i "")) = some ((s : Int), ((1 + i : Nat) : Int), pieceT (g : Int) ((i + 1 : Nat) : Int) ps[i])
    have e : ps.getD i "" = ps[i] := by rw [List.getD_eq_getElem?_getD, List.getElem?_eq_getElem h]; rfl
    rw [e, hs, show ((1 + i : Nat) : Int) = (i : Int) + 1 by omega, show ((i + 1 : Nat) : Int) = (i : Int) + 1 by omega]
  · rw [List.getElem?_eq_none (by rw [List.length_range]; omega), List.getElem?_eq_none (by omega)]
    rfl
/-! #### what the cells tell of the log -/
def sdN (g : Nat) : Nat := (g + 1) % 2
theorem sdN_lt (g : Nat) : sdN g < 2 := Nat.mod_lt _ (by decide)
theorem sdN_ne (g : Nat) : sdN (g + 1) ≠ sdN g := by unfold sdN; omega
abbrev Hist := Nat → Tbl × List Tbl
def nP (h : Hist) (g : Nat) : Nat := (pcsT (h g).1).length
def nRw (h : Hist) (g : Nat) : Nat := (rowsR (h g).2).length
def Ag (h : Hist) (s i : Nat) : Cl → Prop
  | .gone => True
  | .torn => True
  | .head g n => i = 0 ∧ 1 ≤ g ∧ sdN g = s ∧ n = nP h g
  | .piece g j p => i = j ∧ 1 ≤ g ∧ sdN g = s ∧ 1 ≤ j ∧ (pcsT (h g).1)[j - 1]? = some p
  | .row g j f p => 1 ≤ g ∧ sdN g = s ∧ 1 ≤ j ∧ i = nP h g + j ∧ (rowsR (h g).2)[j - 1]? = some (f, p)
theorem Ag.side {h : Hist} {s i : Nat} {c : Cl} (a : Ag h s i c) : c.gen = 0 ∨ sdN c.gen = s := by
  cases c with
  | gone => exact .inl rfl
  | torn => exact .inl rfl
  | head g n => exact .inr a.2.2.1
  | piece g j p => exact .inr a.2.2.1
  | row g j f p => exact .inr a.2.1
/-- the history grows -/
theorem Ag.grow {h h' : Hist} {s i : Nat} {c : Cl} (a : Ag h s i c) (e : c.gen ≠ 0 → (h c.gen).1 = (h' c.gen).1 ∧ ∃ x, (h' c.gen).2 = (h c.gen).2 ++ x) : Ag h' s i c := by
  cases c with
  | gone => exact a
  | torn => exact a
  | head g n =>
    obtain ⟨e1, _⟩ := e (show g ≠ 0 by have := a.2.1; omega)
    have e1 : (h g).1 = (h' g).1 := e1
    refine ⟨a.1, a.2.1, a.2.2.1, a.2.2.2.trans ?_⟩
    unfold nP
    rw [e1]
  | piece g j p =>
    obtain ⟨e1, _⟩ := e (show g ≠ 0 by have := a.2.1; omega)
    have e1 : (h g).1 = (h' g).1 := e1
    exact ⟨a.1, a.2.1, a.2.2.1, a.2.2.2.1, by rw [← e1]; exact a.2.2.2.2⟩
  | row g j f p =>
    obtain ⟨e1, x, e2⟩ := e (show g ≠ 0 by have := a.1; omega)
    have e1 : (h g).1 = (h' g).1 := e1
    have e2 : (h' g).2 = (h g).2 ++ x := e2
    refine ⟨a.1, a.2.1, a.2.2.1, a.2.2.2.1.trans (by unfold nP; rw [e1]), ?_⟩
    rw [e2, rowsR_app, List.getElem?_append_left (List.getElem?_eq_some_iff.mp a.2.2.2.2).1]
    exact a.2.2.2.2
structure HOk (h : Hist) : Prop where
  t : ∀ g, T9 (h g).1
  c : ∀ g, ∀ ch ∈ (h g).2, T9 ch ∧ ch ≠ []
  few : ∀ g, nRw h g ≤ 1300
theorem pcs_ne {ch : Tbl} (t : T9 ch) (n : ch ≠ []) : pcsT ch ≠ [] := fun e => by
  have p := text_pos t.tab n
  have l := cutT_len (textOf ch)
  have e : cutT (textOf ch) = [] := e
  rw [e] at l
  unfold nCut at l
  rw [if_pos p] at l
  cases l
theorem cutS_60 {z : Str} {i : Nat} : (cutS z (some (0 + (i : Int) * 60)) (some (0 + (i : Int) * 60 + 60))).length ≤ 60 := by
  rw [len_tl]
  show (((tl z).drop (HT.sIx z.length 0 (some (0 + (i : Int) * 60)))).take (HT.sIx z.length z.length (some (0 + (i : Int) * 60 + 60)) - HT.sIx z.length 0 (some (0 + (i : Int) * 60)))).length ≤ 60
  rw [show (0 : Int) + (i : Int) * 60 = ((60 * i : Nat) : Int) by omega, show ((60 * i : Nat) : Int) + 60 = ((60 * i + 60 : Nat) : Int) by omega, HT.sIx_nat, HT.sIx_nat, List.length_take]
  omega
theorem pcs_60 {kv : Tbl} {p : Str} (h : p ∈ pcsT kv) : p.length ≤ 60 := by
  unfold pcsT cutT at h
  obtain ⟨i, _, rfl⟩ := List.mem_map.mp h
  exact cutS_60
theorem rowsR_mem {chs : List Tbl} {x : Nat × Str} (h : x ∈ rowsR chs) : ∃ ch ∈ chs, x.1 < nR ch ∧ x.2.length ≤ 60 := by
  unfold rowsR at h
  obtain ⟨l, hl, hx⟩ := List.mem_flatten.mp h
  obtain ⟨ch, hc, rfl⟩ := List.mem_map.mp hl
  obtain ⟨i, hi⟩ := List.mem_iff_getElem?.mp hx
  rw [rowsL_get] at hi
  cases q : (pcsT ch)[i]? with
  | none => rw [q] at hi; cases hi
  | some p =>
    rw [q] at hi
    obtain rfl := Option.some.inj hi
    have := (List.getElem?_eq_some_iff.mp q).1
    exact ⟨ch, hc, by show (pcsT ch).length - i - 1 < (pcsT ch).length; omega, pcs_60 (List.mem_of_getElem? q)⟩
theorem HOk.nP {h : Hist} (k : HOk h) (g : Nat) : nP h g ≤ 1190 := cut_few (k.t g).tab
theorem Ag.ok {h : Hist} (k : HOk h) {s i : Nat} {c : Cl} (a : Ag h s i c) (l : c.gen ≤ 100000) : c.Ok := by
  cases c with
  | gone => exact ⟨True.intro⟩
  | torn => exact ⟨True.intro⟩
  | head g n =>
    refine ⟨⟨l, ?_⟩⟩
    have := k.nP g
    have := a.2.2.2
    omega
  | piece g j p =>
    have b := (List.getElem?_eq_some_iff.mp a.2.2.2.2).1
    have := k.nP g
    have b : j - 1 < nP h g := b
    exact ⟨⟨l, by omega, pcs_60 (List.mem_of_getElem? a.2.2.2.2)⟩⟩
  | row g j f p =>
    have b := (List.getElem?_eq_some_iff.mp a.2.2.2.2).1
    have := k.few g
    have b : j - 1 < nRw h g := b
    obtain ⟨ch, hc, h1, h2⟩ := rowsR_mem (List.mem_of_getElem? a.2.2.2.2)
    have cf := cut_few (k.c g ch hc).1.tab
    have h1 : f < (cutT (textOf ch)).length := h1
    exact ⟨⟨l, by omega, by omega, h2⟩⟩
/-! #### reading an area -/
def memA (h : Hist) (s : Nat) (cs : List Cl) : Prop := ∀ i c, cs[i]? = some c → Ag h s i c
theorem memA.hd {h : Hist} {s : Nat} {cs : List Cl} (m : memA h s cs) : (hd0 cs).1 = 0 ∨ (1 ≤ (hd0 cs).1 ∧ sdN (hd0 cs).1 = s ∧ (hd0 cs).2 = nP h (hd0 cs).1) := by
  cases cs with
  | nil => exact .inl rfl
  | cons c r =>
    have a := m 0 c rfl
    cases c with
    | head g n => exact .inr ⟨a.2.1, a.2.2.1, a.2.2.2⟩
    | gone => exact .inl rfl
    | torn => exact .inl rfl
    | piece _ _ _ => exact .inl rfl
    | row _ _ _ _ => exact .inl rfl
/-- whatever is read is a table of the history with some of its records -/
theorem memA.read {h : Hist} (k : HOk h) {s : Nat} {cs : List Cl} (m : memA h s cs) (n : ¬ ((hd0 cs).1 = 0 ∨ (sfP (hd0 cs).1 0 ((cs.drop 1).take (hd0 cs).2)).length < (hd0 cs).2)) :
    sfP (hd0 cs).1 0 ((cs.drop 1).take (hd0 cs).2) = pcsT (h (hd0 cs).1).1 ∧ ∃ l, sfR (hd0 cs).1 0 (cs.drop (1 + (hd0 cs).2)) = (rowsR (h (hd0 cs).1).2).take l := by
  obtain ⟨n1, n2⟩ := not_or.mp n
  rcases m.hd with z | ⟨g1, sd, en⟩
  · exact absurd z n1
  generalize hd0 cs = x at *
  obtain ⟨g, c⟩ := x
  have en : c = nP h g := en
  have n2 : ¬ (sfP g 0 ((cs.drop 1).take c)).length < c := n2
  constructor
  · obtain ⟨l, e⟩ := sfP_pre (g := g) (R := pcsT (h g).1) ((cs.drop 1).take c) 0 fun i p e => by
      rw [List.getElem?_take] at e
      by_cases q : i < c
      · rw [if_pos q, List.getElem?_drop] at e
        have a := m _ _ e
        have a5 := a.2.2.2.2
        rw [show 0 + i + 1 - 1 = 0 + i by omega] at a5
        exact a5
      · rw [if_neg q] at e; cases e
    rw [List.drop_zero] at e
    show sfP g 0 ((cs.drop 1).take c) = pcsT (h g).1
    rw [e] at n2 ⊢
    rw [List.length_take] at n2
    have : (pcsT (h g).1).length = c := en.symm
    exact List.take_of_length_le (by omega)
  · obtain ⟨l, e⟩ := sfR_pre (g := g) (R := rowsR (h g).2) (cs.drop (1 + c)) 0 fun i f p e => by
      rw [List.getElem?_drop] at e
      have a := m _ _ e
      have a5 := a.2.2.2.2
      rw [show 0 + i + 1 - 1 = 0 + i by omega] at a5
      exact a5
    rw [List.drop_zero] at e
    exact ⟨l, e⟩
theorem rdR_text {h : Hist} (k : HOk h) (g l : Nat) : recsL "" ((rowsR (h g).2).take l) = ((h g).2.take (wholeN l (h g).2)).map textOf := recs_take _ l fun ch hc => pcs_ne (k.c g ch hc).1 (k.c g ch hc).2
theorem memA.rd {h : Hist} (k : HOk h) {s : Nat} {cs : List Cl} (m : memA h s cs) : RdOk cs := by
  refine ⟨fun n => ?_, fun n => ?_⟩
  · rw [(m.read k n).1]
    rw [show Txt.join "" (pcsT (h (hd0 cs).1).1) = textOf (h (hd0 cs).1).1 from join_cut _, rdCh_text (k.t _)]
    exact (k.t _).srt
  · obtain ⟨l, e⟩ := (m.read k n).2
    rw [e, rdR_text k]
    intro z hz
    obtain ⟨ch, hc, rfl⟩ := List.mem_map.mp hz
    have t := (k.c _ ch (List.mem_of_mem_take hc)).1
    rw [rdCh_text t]
    exact t.srt
theorem rdA_gen {cs : List Cl} {y : Nat × Tbl} (e : rdA cs = some y) : y.1 = (hd0 cs).1 ∧ y.1 ≠ 0 := by
  unfold rdA at e
  split at e
  · cases e
  · next c =>
    cases e
    exact ⟨rfl, fun z => c (.inl z)⟩
/-- an area whose head and pieces stand, and l of its rows -/
theorem rdA_of {h : Hist} (k : HOk h) {cs : List Cl} {g l : Nat} (g1 : 1 ≤ g) (eh : hd0 cs = (g, nP h g)) (hp : ∀ i p, (pcsT (h g).1)[i]? = some p → cs[i + 1]? = some (Cl.piece g (i + 1) p)) (hl : l ≤ nRw h g)
    (hr : ∀ i x, i < l → (rowsR (h g).2)[i]? = some x → cs[nP h g + (i + 1)]? = some (Cl.row g (i + 1) x.1 x.2)) (hx : ∀ f p, cs[nP h g + (l + 1)]? ≠ some (Cl.row g (l + 1) f p)) :
    ∃ kv, rdA cs = some (g, kv) ∧ T9 kv ∧ ∀ j, valV kv j = valV (tabF (h g).1 ((h g).2.take (wholeN l (h g).2))) j := by
  have e1 : sfP g 0 ((cs.drop 1).take (nP h g)) = pcsT (h g).1 := sfP_spec _ _ 0 fun i p e => by
    rw [List.getElem?_drop, show 1 + i = i + 1 by omega, hp i p e, show 0 + i + 1 = i + 1 by omega]
  have lt : ((rowsR (h g).2).take l).length = l := by
    rw [List.length_take]
    have hl : l ≤ (rowsR (h g).2).length := hl
    omega
  have e2 : sfR g 0 (cs.drop (1 + nP h g)) = (rowsR (h g).2).take l := sfR_spec _ _ 0 (fun i x e => by
    rw [List.getElem?_take] at e
    by_cases q : i < l
    · rw [if_pos q] at e
      rw [List.getElem?_drop, show 1 + nP h g + i = nP h g + (i + 1) by omega, hr i x q e, show 0 + i + 1 = i + 1 by omega]
    · rw [if_neg q] at e; cases e) fun f p e => by
    rw [lt, List.getElem?_drop, show 1 + nP h g + l = nP h g + (l + 1) by omega, show 0 + l + 1 = l + 1 by omega] at e
    exact hx f p e
  have rt := read_tab (chs := (h g).2.take (wholeN l (h g).2)) (k.t g) fun ch hc => (k.c g ch (List.mem_of_mem_take hc)).1
  refine ⟨_, ?_, rt.2, rt.1⟩
  unfold rdA
  rw [eh]
  show (if g = 0 ∨ (sfP g 0 ((cs.drop 1).take (nP h g))).length < nP h g then none else some (g, (recsL "" (sfR g 0 (cs.drop (1 + nP h g)))).foldl (fun t z => applyK t (rdCh z)) (rdCh (Txt.join "" (sfP g 0 ((cs.drop 1).take (nP h g))))))) = _
  rw [e1, e2, rdR_text k, if_neg (by
    show ¬ (g = 0 ∨ (pcsT (h g).1).length < (pcsT (h g).1).length)
    omega), show Txt.join "" (pcsT (h g).1) = textOf (h g).1 from join_cut _]
theorem rdA_no {cs : List Cl} {g n i : Nat} (eh : hd0 cs = (g, n)) (hi : i < n) (hp : ∀ p, cs[i + 1]? ≠ some (Cl.piece g (i + 1) p)) : rdA cs = none := by
  unfold rdA
  rw [eh]
  refine if_pos (.inr ?_)
  exact sfP_short hi fun p e => hp p (by
    rw [List.getElem?_drop, show 1 + i = i + 1 by omega, show 0 + i + 1 = i + 1 by omega] at e
    exact e)
theorem rdB_pick {cs : Nat → List Cl} {s g : Nat} {kv : Tbl} (hs : s < 2) (e : rdA (cs s) = some (g, kv)) (o : ∀ y, rdA (cs (1 - s)) = some y → y.1 < g) : rdB (cs 0) (cs 1) = some (s, g, srtK kv) := by
  unfold rdB
  match s, hs with
  | 0, _ =>
    have e : rdA (cs 0) = some (g, kv) := e
    rw [e]
    cases q : rdA (cs 1) with
    | none => rfl
    | some y =>
      have := o y q
      show (if g < y.1 then _ else _) = _
      rw [if_neg (by omega)]
  | 1, _ =>
    have e : rdA (cs 1) = some (g, kv) := e
    rw [e]
    cases q : rdA (cs 0) with
    | none => rfl
    | some y =>
      have := o y q
      show (if y.1 < g then _ else _) = _
      rw [if_pos this]
/-! #### which records a cut keeps -/
def okN (ws : List Wd) : Nat → List Tbl → Nat
  | _, [] => 0
  | a, ch :: r => if keptB ws a (nR ch) = true then okN ws (a + nR ch) r + 1 else 0
theorem okN_le (ws : List Wd) : ∀ (un : List Tbl) (a : Nat), okN ws a un ≤ un.length
  | [], _ => Nat.le_refl _
  | ch :: r, a => by
    show (if keptB ws a (nR ch) = true then okN ws (a + nR ch) r + 1 else 0) ≤ r.length + 1
    split
    · exact Nat.succ_le_succ (okN_le ws r _)
    · exact Nat.zero_le _
theorem rowsR_len_cons (ch : Tbl) (r : List Tbl) : (rowsR (ch :: r)).length = nR ch + (rowsR r).length := by
  rw [rowsR_cons, List.length_append, rowsL_len]
  rfl
theorem okN_snoc (ws : List Wd) (ch : Tbl) : ∀ (un : List Tbl) (a : Nat), okN ws a (un ++ [ch]) = if okN ws a un = un.length then (if keptB ws (a + (rowsR un).length) (nR ch) = true then un.length + 1 else un.length) else okN ws a un
  | [], a => by
    show (if keptB ws a (nR ch) = true then 0 + 1 else 0) = if (0 : Nat) = 0 then (if keptB ws (a + 0) (nR ch) = true then 0 + 1 else 0) else 0
    rw [if_pos rfl]
    rfl
  | c :: r, a => by
    have ih := okN_snoc ws ch r (a + nR c)
    rw [rowsR_len_cons, ← Nat.add_assoc]
    show (if keptB ws a (nR c) = true then okN ws (a + nR c) (r ++ [ch]) + 1 else 0) = if (if keptB ws a (nR c) = true then okN ws (a + nR c) r + 1 else 0) = r.length + 1 then _ else (if keptB ws a (nR c) = true then okN ws (a + nR c) r + 1 else 0)
    by_cases q : keptB ws a (nR c) = true
    · rw [if_pos q, if_pos q, ih]
      by_cases e : okN ws (a + nR c) r = r.length
      · rw [if_pos e, if_pos (show okN ws (a + nR c) r + 1 = r.length + 1 by omega)]
        show _ = if keptB ws (a + nR c + (rowsR r).length) (nR ch) = true then r.length + 1 + 1 else r.length + 1
        split <;> rfl
      · rw [if_neg e, if_neg (show ¬ okN ws (a + nR c) r + 1 = r.length + 1 by omega)]
    · rw [if_neg q, if_neg q, if_neg (by omega)]
theorem keptB_all {ws : List Wd} {a n : Nat} : keptB ws a n = true ↔ ∀ k, k < n → isKept ws[a + k]? = true := by
  unfold keptB
  rw [List.all_eq_true]
  exact ⟨fun h k hk => h k (List.mem_range.mpr hk), fun h k hk => h k (List.mem_range.mp hk)⟩
theorem lead_ex (p : Nat → Bool) : ∀ n, ∃ l, l ≤ n ∧ (∀ j, j < l → p j = true) ∧ (l < n → p l = false)
  | 0 => ⟨0, Nat.le_refl _, fun j h => absurd h (Nat.not_lt_zero _), fun h => absurd h (Nat.lt_irrefl _)⟩
  | n + 1 => by
    obtain ⟨l, h1, h2, h3⟩ := lead_ex p n
    by_cases e : l = n
    · subst e
      cases q : p l with
      | true => exact ⟨l + 1, Nat.le_refl _, fun j hj => by
          by_cases c : j = l
          · rw [c]; exact q
          · exact h2 j (by omega), fun h => absurd h (Nat.lt_irrefl _)⟩
      | false => exact ⟨l, by omega, h2, fun _ => q⟩
    · exact ⟨l, by omega, h2, fun _ => h3 (by omega)⟩
theorem whole_ok {ws : List Wd} : ∀ (un : List Tbl) (a l : Nat), l ≤ (rowsR un).length → (∀ j, j < l → isKept ws[a + j]? = true) → (l < (rowsR un).length → isKept ws[a + l]? = false) → wholeN l un = okN ws a un
  | [], a, l, _, _, _ => by cases l <;> rfl
  | ch :: r, a, l, h1, h2, h3 => by
    rw [rowsR_len_cons] at h1 h3
    show (if nR ch ≤ l then wholeN (l - nR ch) r + 1 else 0) = (if keptB ws a (nR ch) = true then okN ws (a + nR ch) r + 1 else 0)
    by_cases q : nR ch ≤ l
    · rw [if_pos q, if_pos (keptB_all.mpr fun k hk => h2 k (by omega)), whole_ok r (a + nR ch) (l - nR ch) (by omega) (fun j hj => by
        rw [show a + nR ch + j = a + (nR ch + j) by omega]
        exact h2 _ (by omega)) fun hj => by
        rw [show a + nR ch + (l - nR ch) = a + l by omega]
        exact h3 (by omega)]
    · rw [if_neg q, if_neg fun z => by
        have := keptB_all.mp z l (by omega)
        rw [h3 (by omega)] at this
        cases this]
theorem whole_app : ∀ (a b : List Tbl) (l : Nat), wholeN ((rowsR a).length + l) (a ++ b) = a.length + wholeN l b
  | [], b, l => by
    show wholeN (0 + l) b = 0 + wholeN l b
    rw [Nat.zero_add, Nat.zero_add]
  | ch :: r, b, l => by
    rw [rowsR_len_cons]
    show (if nR ch ≤ nR ch + (rowsR r).length + l then wholeN (nR ch + (rowsR r).length + l - nR ch) (r ++ b) + 1 else 0) = r.length + 1 + wholeN l b
    rw [if_pos (by omega), show nR ch + (rowsR r).length + l - nR ch = (rowsR r).length + l by omega, whole_app r b l]
    omega
/-! #### the state of the log -/
def gN (g0 : Nat) (nb : Bool) : Nat := if nb = true then g0 + 1 else g0
/-- the writes of a check -/
def chkO (h : Hist) (g : Nat) : List COp := seqOps (sdN g) 1 (pcCs g (pcsT (h g).1)) ++ seqOps (sdN g) 0 [Cl.head g (nP h g)]
def oldO (h : Hist) (g0 : Nat) (ch0 un0 : List Tbl) : List COp := seqOps (sdN g0) (nP h g0 + (rowsR ch0).length + 1) (rowCs g0 (rowsR ch0).length (rowsR un0))
def newO (h : Hist) (g : Nat) : List COp := seqOps (sdN g) (nP h g + 0 + 1) (rowCs g 0 (rowsR (h g).2))
def opsN (h : Hist) (g0 : Nat) (ch0 un0 : List Tbl) (nb : Bool) : List COp := oldO h g0 ch0 un0 ++ (if nb = true then chkO h (g0 + 1) ++ newO h (g0 + 1) else [])
structure Lw (S : DS) (h : Hist) (g0 : Nat) (ch0 un0 : List Tbl) (nb : Bool) (f : Mem) : Prop where
  g1 : 1 ≤ g0
  ok : HOk h
  rep : RepS S f
  ag : ∀ s i, Ag h s i (f s i)
  gn : ∀ s i, (f s i).gen ≤ g0
  rw : ∀ s i j x p, f s i = .row g0 j x p → j ≤ (rowsR ch0).length
  hd : f (sdN g0) 0 = .head g0 (nP h g0)
  pc : ∀ i p, (pcsT (h g0).1)[i]? = some p → f (sdN g0) (i + 1) = .piece g0 (i + 1) p
  ro : ∀ i x, (rowsR ch0)[i]? = some x → f (sdN g0) (nP h g0 + (i + 1)) = .row g0 (i + 1) x.1 x.2
  h0 : (h g0).2 = ch0 ++ un0
  nx : nb = true → (h (g0 + 1)).1 = tabF (h g0).1 (h g0).2
  gen : S.gen = (gN g0 nb : Int)
  side : S.side = (sdN (gN g0 nb) : Int)
  kv : S.kv = tabF (h (gN g0 nb)).1 (h (gN g0 nb)).2
  pcs : S.pcs = (nP h (gN g0 nb) : Int)
  cnt : S.cnt = (nRw h (gN g0 nb) : Int)
  op : S.op = (opsN h g0 ch0 un0 nb).map opC
theorem seq_mem {s : Nat} {cs : List Cl} {b : Nat} {q : COp} (h : q ∈ seqOps s b cs) : ∃ i c, cs[i]? = some c ∧ q = (s, b + i, c) := by
  obtain ⟨i, hi⟩ := List.mem_iff_getElem?.mp h
  rw [seq_get] at hi
  cases e : cs[i]? with
  | none => rw [e] at hi; cases hi
  | some c =>
    rw [e] at hi
    exact ⟨i, c, e, (Option.some.inj hi).symm⟩
theorem rowCs_at {g n : Nat} {rs : List (Nat × Str)} {i : Nat} {c : Cl} (h : (rowCs g n rs)[i]? = some c) : ∃ x, rs[i]? = some x ∧ c = .row g (n + i + 1) x.1 x.2 := by
  rw [rowCs_get] at h
  cases e : rs[i]? with
  | none => rw [e] at h; cases h
  | some x =>
    rw [e] at h
    exact ⟨x, rfl, (Option.some.inj h).symm⟩
theorem pcCs_at {g : Nat} {ps : List Str} {i : Nat} {c : Cl} (h : (pcCs g ps)[i]? = some c) : ∃ p, ps[i]? = some p ∧ c = .piece g (i + 1) p := by
  rw [pcCs_get] at h
  cases e : ps[i]? with
  | none => rw [e] at h; cases h
  | some x =>
    rw [e] at h
    exact ⟨x, rfl, (Option.some.inj h).symm⟩
section
variable {S : DS} {h : Hist} {g0 : Nat} {ch0 un0 : List Tbl} {nb : Bool} {f : Mem}
theorem Lw.mem (L : Lw S h g0 ch0 un0 nb f) {q : COp} (hq : q ∈ opsN h g0 ch0 un0 nb) :
    (∃ i x, (rowsR un0)[i]? = some x ∧ q = (sdN g0, nP h g0 + (rowsR ch0).length + 1 + i, .row g0 ((rowsR ch0).length + i + 1) x.1 x.2)) ∨
    (nb = true ∧ ((∃ i p, (pcsT (h (g0 + 1)).1)[i]? = some p ∧ q = (sdN (g0 + 1), 1 + i, .piece (g0 + 1) (i + 1) p)) ∨ q = (sdN (g0 + 1), 0, .head (g0 + 1) (nP h (g0 + 1))) ∨
      ∃ i x, (rowsR (h (g0 + 1)).2)[i]? = some x ∧ q = (sdN (g0 + 1), nP h (g0 + 1) + 0 + 1 + i, .row (g0 + 1) (0 + i + 1) x.1 x.2))) := by
  unfold opsN at hq
  rcases List.mem_append.mp hq with hq | hq
  · obtain ⟨i, c, e, rfl⟩ := seq_mem hq
    obtain ⟨x, ex, rfl⟩ := rowCs_at e
    exact .inl ⟨i, x, ex, rfl⟩
  · by_cases b : nb = true
    · rw [if_pos b] at hq
      refine .inr ⟨b, ?_⟩
      rcases List.mem_append.mp hq with hq | hq
      · rcases List.mem_append.mp hq with hq | hq
        · obtain ⟨i, c, e, rfl⟩ := seq_mem hq
          obtain ⟨p, ep, rfl⟩ := pcCs_at e
          exact .inl ⟨i, p, ep, rfl⟩
        · obtain rfl := List.mem_singleton.mp hq
          exact .inr (.inl rfl)
      · obtain ⟨i, c, e, rfl⟩ := seq_mem hq
        obtain ⟨x, ex, rfl⟩ := rowCs_at e
        exact .inr (.inr ⟨i, x, ex, rfl⟩)
    · rw [if_neg b] at hq
      cases hq
theorem Lw.opok (L : Lw S h g0 ch0 un0 nb f) : ∀ q ∈ opsN h g0 ch0 un0 nb, OkO q := fun q hq => by
  rcases L.mem hq with ⟨i, x, _, rfl⟩ | ⟨_, ⟨i, p, _, rfl⟩ | rfl | ⟨i, x, _, rfl⟩⟩
  · exact ⟨sdN_lt _, by simp⟩
  · exact ⟨sdN_lt _, by simp⟩
  · exact ⟨sdN_lt _, by simp⟩
  · exact ⟨sdN_lt _, by simp⟩
theorem Lw.opag (L : Lw S h g0 ch0 un0 nb f) : ∀ q ∈ opsN h g0 ch0 un0 nb, Ag h q.1 q.2.1 q.2.2 := fun q hq => by
  have g1 := L.g1
  rcases L.mem hq with ⟨i, x, e, rfl⟩ | ⟨_, ⟨i, p, e, rfl⟩ | rfl | ⟨i, x, e, rfl⟩⟩
  · refine ⟨g1, rfl, by omega, (by show nP h g0 + (rowsR ch0).length + 1 + i = nP h g0 + ((rowsR ch0).length + i + 1); omega), ?_⟩
    rw [L.h0, rowsR_app, show (rowsR ch0).length + i + 1 - 1 = (rowsR ch0).length + i by omega, List.getElem?_append_right (by omega), show (rowsR ch0).length + i - (rowsR ch0).length = i by omega]
    exact e
  · exact ⟨(by show 1 + i = i + 1; omega), by omega, rfl, by omega, by rw [show i + 1 - 1 = i by omega]; exact e⟩
  · exact ⟨rfl, by omega, rfl, rfl⟩
  · exact ⟨by omega, rfl, by omega, (by show nP h (g0 + 1) + 0 + 1 + i = nP h (g0 + 1) + (0 + i + 1); omega), by rw [show 0 + i + 1 - 1 = i by omega]; exact e⟩
theorem Lw.opgn (L : Lw S h g0 ch0 un0 nb f) : ∀ q ∈ opsN h g0 ch0 un0 nb, q.2.2.gen ≤ gN g0 nb := fun q hq => by
  rcases L.mem hq with ⟨i, x, e, rfl⟩ | ⟨b, ⟨i, p, e, rfl⟩ | rfl | ⟨i, x, e, rfl⟩⟩
  · show g0 ≤ gN g0 nb
    unfold gN
    split <;> omega
  · rw [b]; exact Nat.le_refl _
  · rw [b]; exact Nat.le_refl _
  · rw [b]; exact Nat.le_refl _
/-- every cell behind a cut belongs to the history -/
theorem Lw.agC (L : Lw S h g0 ch0 un0 nb f) (ws : List Wd) : ∀ s i, Ag h s i (cutF f (opsN h g0 ch0 un0 nb) ws s i) :=
  cutF_all (P := fun s i c => Ag h s i c) (fun _ _ => True.intro) _ ws L.ag L.opag
theorem gN_le (g0 : Nat) (nb : Bool) : g0 ≤ gN g0 nb ∧ gN g0 nb ≤ g0 + 1 := by
  unfold gN
  split <;> omega
theorem Lw.gnC (L : Lw S h g0 ch0 un0 nb f) (ws : List Wd) : ∀ s i, (cutF f (opsN h g0 ch0 un0 nb) ws s i).gen ≤ gN g0 nb :=
  cutF_all (P := fun _ _ c => c.gen ≤ gN g0 nb) (fun _ _ => Nat.zero_le _) _ ws (fun s i => Nat.le_trans (L.gn s i) (gN_le g0 nb).1) L.opgn
/-- the side of the durable generation: rows behind its own may be new, nothing else -/
theorem cut_old (ws : List Wd) : ∀ i, cutF f (opsN h g0 ch0 un0 nb) ws (sdN g0) i = cutF f (oldO h g0 ch0 un0) ws (sdN g0) i := fun i => by
  unfold opsN
  rw [cutF_app]
  by_cases b : nb = true
  · rw [if_pos b]
    unfold chkO newO
    rw [cutF_app, cutF_app]
    have n := (sdN_ne g0).symm
    rw [cutF_off _ _ _ _ _ _ _ (.inl n), cutF_off _ _ _ _ _ _ _ (.inl n), cutF_off _ _ _ _ _ _ _ (.inl n)]
  · rw [if_neg b]
    rfl
theorem old_low (ws : List Wd) {i : Nat} (hi : i ≤ nP h g0 + (rowsR ch0).length) : cutF f (opsN h g0 ch0 un0 nb) ws (sdN g0) i = f (sdN g0) i := by
  rw [cut_old]
  exact cutF_off _ _ _ _ _ _ _ (.inr (.inl (by omega)))
theorem oldO_len : (oldO h g0 ch0 un0).length = (rowsR un0).length := by
  unfold oldO
  rw [seq_len, rowCs_len]
theorem old_row (ws : List Wd) {i : Nat} {x : Nat × Str} (e : (rowsR un0)[i]? = some x) : cutF f (opsN h g0 ch0 un0 nb) ws (sdN g0) (nP h g0 + (rowsR ch0).length + 1 + i) = wordC ws[i]? (.row g0 ((rowsR ch0).length + i + 1) x.1 x.2) (f (sdN g0) (nP h g0 + (rowsR ch0).length + 1 + i)) := by
  rw [cut_old]
  exact cutF_at _ _ _ _ _ _ _ (by rw [rowCs_get, e]; rfl)
theorem old_high (ws : List Wd) {i : Nat} (hi : nP h g0 + (rowsR ch0).length + 1 + (rowsR un0).length ≤ i) : cutF f (opsN h g0 ch0 un0 nb) ws (sdN g0) i = f (sdN g0) i := by
  rw [cut_old]
  exact cutF_off _ _ _ _ _ _ _ (.inr (.inr (by rw [rowCs_len]; exact hi)))
end
section
variable {S : DS} {h : Hist} {g0 : Nat} {ch0 un0 : List Tbl} {nb : Bool} {f : Mem}
/-- what the side of the durable generation tells behind a cut -/
theorem Lw.rdOld (L : Lw S h g0 ch0 un0 nb f) (ws : List Wd) {M : Tbl} (R : RepC M (cutF f (opsN h g0 ch0 un0 nb) ws (sdN g0))) :
    ∃ kv, rdA (clsF M (cutF f (opsN h g0 ch0 un0 nb) ws (sdN g0))) = some (g0, kv) ∧ T9 kv ∧ ∀ j, valV kv j = valV (tabF (tabF (h g0).1 ch0) (un0.take (okN ws 0 un0))) j := by
  obtain ⟨l, l1, l2, l3⟩ := lead_ex (fun j => isKept ws[j]?) (rowsR un0).length
  have rr : rowsR (h g0).2 = rowsR ch0 ++ rowsR un0 := by rw [L.h0, rowsR_app]
  have rl : nRw h g0 = (rowsR ch0).length + (rowsR un0).length := by
    show (rowsR (h g0).2).length = _
    rw [rr, List.length_append]
  obtain ⟨kv, e, t, v⟩ := rdA_of (h := h) L.ok (cs := clsF M (cutF f (opsN h g0 ch0 un0 nb) ws (sdN g0))) (g := g0) (l := (rowsR ch0).length + l) L.g1
    (by rw [R.hd, old_low ws (Nat.zero_le _), L.hd]; rfl)
    (fun i p e => by
      have hi := (List.getElem?_eq_some_iff.mp e).1
      have hi : i < nP h g0 := hi
      have z : cutF f (opsN h g0 ch0 un0 nb) ws (sdN g0) (i + 1) = .piece g0 (i + 1) p := (old_low ws (by omega)).trans (L.pc i p e)
      rw [R.get (by rw [z]; simp), z])
    (by omega)
    (fun i x hi e => by
      rw [rr] at e
      by_cases c : i < (rowsR ch0).length
      · rw [List.getElem?_append_left c] at e
        have z : cutF f (opsN h g0 ch0 un0 nb) ws (sdN g0) (nP h g0 + (i + 1)) = .row g0 (i + 1) x.1 x.2 := (old_low ws (by omega)).trans (L.ro i x e)
        rw [R.get (by rw [z]; simp), z]
      · rw [List.getElem?_append_right (by omega)] at e
        have k : isKept ws[i - (rowsR ch0).length]? = true := l2 _ (by omega)
        have o := old_row (h := h) (g0 := g0) (ch0 := ch0) (un0 := un0) (nb := nb) (f := f) ws e
        have z : cutF f (opsN h g0 ch0 un0 nb) ws (sdN g0) (nP h g0 + (i + 1)) = .row g0 (i + 1) x.1 x.2 := by
          rw [show nP h g0 + (rowsR ch0).length + 1 + (i - (rowsR ch0).length) = nP h g0 + (i + 1) by omega, show (rowsR ch0).length + (i - (rowsR ch0).length) + 1 = i + 1 by omega] at o
          rw [o]
          cases q : ws[i - (rowsR ch0).length]? with
          | none => rw [q] at k; cases k
          | some w =>
            rw [q] at k
            cases w with
            | kept => rfl
            | lost => cases k
            | torn => cases k
        rw [R.get (by rw [z]; simp), z])
    (fun x p e => by
      have z := cls_get e
      have old : f (sdN g0) (nP h g0 + ((rowsR ch0).length + l + 1)) ≠ .row g0 ((rowsR ch0).length + l + 1) x p := fun q => by
        have := L.rw _ _ _ _ _ q
        omega
      by_cases c : l < (rowsR un0).length
      · have k := l3 c
        have o := old_row (h := h) (g0 := g0) (ch0 := ch0) (un0 := un0) (nb := nb) (f := f) ws (List.getElem?_eq_getElem c)
        rw [show nP h g0 + (rowsR ch0).length + 1 + l = nP h g0 + ((rowsR ch0).length + l + 1) by omega, z] at o
        cases q : ws[l]? with
        | none =>
          rw [q] at o
          exact old o.symm
        | some w =>
          rw [q] at o k
          cases w with
          | kept => cases k
          | lost => exact old o.symm
          | torn => cases o
      · rw [old_high ws (by omega)] at z
        exact old z)
  refine ⟨kv, e, t, fun j => ?_⟩
  rw [v, L.h0, whole_app, List.take_append, List.take_of_length_le (by omega), show ch0.length + wholeN l un0 - ch0.length = wholeN l un0 by omega, tabF_app, whole_ok un0 0 l l1 (fun j hj => by rw [Nat.zero_add]; exact l2 j hj) (fun hj => by rw [Nat.zero_add]; exact l3 hj)]
theorem pieces_len (g : Nat) : (seqOps (sdN g) 1 (pcCs g (pcsT (h g).1))).length = nP h g := by
  rw [seq_len, pcCs_len]
  rfl
theorem new_piece (nt : nb = true) (ws : List Wd) {i : Nat} {p : Str} (e : (pcsT (h (g0 + 1)).1)[i]? = some p) : cutF f (opsN h g0 ch0 un0 nb) ws (sdN (g0 + 1)) (i + 1) = wordC ws[(rowsR un0).length + i]? (.piece (g0 + 1) (i + 1) p) (f (sdN (g0 + 1)) (i + 1)) := by
  have hi := (List.getElem?_eq_some_iff.mp e).1
  have hi : i < nP h (g0 + 1) := hi
  unfold opsN
  rw [if_pos nt, cutF_app]
  unfold chkO newO
  rw [cutF_app, cutF_app, cutF_off _ _ _ _ _ _ _ (.inr (.inl (by omega))), cutF_off _ _ _ _ _ _ _ (.inr (.inr (by show 0 + 1 ≤ i + 1; omega))), show i + 1 = 1 + i by omega, cutF_at _ _ _ _ _ _ _ (by rw [pcCs_get, e]; rfl), List.getElem?_drop, oldO_len]
  unfold oldO
  rw [cutF_off _ _ _ _ _ _ _ (.inl (sdN_ne g0)), show i + 1 = 1 + i by omega]
theorem new_head (nt : nb = true) (ws : List Wd) : cutF f (opsN h g0 ch0 un0 nb) ws (sdN (g0 + 1)) 0 = wordC ws[(rowsR un0).length + nP h (g0 + 1)]? (.head (g0 + 1) (nP h (g0 + 1))) (f (sdN (g0 + 1)) 0) := by
  unfold opsN
  rw [if_pos nt, cutF_app]
  unfold chkO newO
  have a := cutF_at (sdN (g0 + 1)) [Cl.head (g0 + 1) (nP h (g0 + 1))] 0 (cutF (cutF f (oldO h g0 ch0 un0) ws) (seqOps (sdN (g0 + 1)) 1 (pcCs (g0 + 1) (pcsT (h (g0 + 1)).1))) (ws.drop (oldO h g0 ch0 un0).length)) ((ws.drop (oldO h g0 ch0 un0).length).drop (seqOps (sdN (g0 + 1)) 1 (pcCs (g0 + 1) (pcsT (h (g0 + 1)).1))).length) 0 _ rfl
  rw [cutF_app, cutF_app, cutF_off _ _ _ _ _ _ _ (.inr (.inl (by omega)))]
  refine Eq.trans a ?_
  rw [List.getElem?_drop, List.getElem?_drop, oldO_len, pieces_len, Nat.add_zero, cutF_off _ _ _ _ _ _ _ (.inr (.inl (by omega)))]
  unfold oldO
  rw [cutF_off _ _ _ _ _ _ _ (.inl (sdN_ne g0))]
theorem chk_len : (chkO h (g0 + 1)).length = nP h (g0 + 1) + 1 := by
  unfold chkO
  rw [List.length_append, pieces_len]
  rfl
theorem new_below (nt : nb = true) (ws : List Wd) {i : Nat} (hi : nP h (g0 + 1) < i) : cutF (cutF f (oldO h g0 ch0 un0) ws) (chkO h (g0 + 1)) (ws.drop (oldO h g0 ch0 un0).length) (sdN (g0 + 1)) i = f (sdN (g0 + 1)) i := by
  unfold chkO
  rw [cutF_app, cutF_off _ _ _ _ _ _ _ (.inr (.inr (by show 0 + 1 ≤ i; omega))), cutF_off _ _ _ _ _ _ _ (.inr (.inr (by rw [pcCs_len]; show 1 + nP h (g0 + 1) ≤ i; omega)))]
  unfold oldO
  rw [cutF_off _ _ _ _ _ _ _ (.inl (sdN_ne g0))]
theorem new_row (nt : nb = true) (ws : List Wd) {i : Nat} {x : Nat × Str} (e : (rowsR (h (g0 + 1)).2)[i]? = some x) : cutF f (opsN h g0 ch0 un0 nb) ws (sdN (g0 + 1)) (nP h (g0 + 1) + (i + 1)) = wordC ws[(rowsR un0).length + (nP h (g0 + 1) + 1) + i]? (.row (g0 + 1) (i + 1) x.1 x.2) (f (sdN (g0 + 1)) (nP h (g0 + 1) + (i + 1))) := by
  unfold opsN
  rw [if_pos nt, cutF_app, cutF_app]
  have a := cutF_at (sdN (g0 + 1)) (rowCs (g0 + 1) 0 (rowsR (h (g0 + 1)).2)) (nP h (g0 + 1) + 0 + 1) (cutF (cutF f (oldO h g0 ch0 un0) ws) (chkO h (g0 + 1)) (ws.drop (oldO h g0 ch0 un0).length)) ((ws.drop (oldO h g0 ch0 un0).length).drop (chkO h (g0 + 1)).length) i (.row (g0 + 1) (i + 1) x.1 x.2) (by rw [rowCs_get, e, show 0 + i + 1 = i + 1 by omega]; rfl)
  rw [show nP h (g0 + 1) + 0 + 1 + i = nP h (g0 + 1) + (i + 1) by omega] at a
  refine Eq.trans a ?_
  rw [new_below nt ws (by omega), List.getElem?_drop, List.getElem?_drop, oldO_len, chk_len, show (rowsR un0).length + (nP h (g0 + 1) + 1 + i) = (rowsR un0).length + (nP h (g0 + 1) + 1) + i by omega]
theorem new_high (nt : nb = true) (ws : List Wd) {i : Nat} (hi : nP h (g0 + 1) + (nRw h (g0 + 1) + 1) ≤ i) : cutF f (opsN h g0 ch0 un0 nb) ws (sdN (g0 + 1)) i = f (sdN (g0 + 1)) i := by
  unfold opsN
  rw [if_pos nt, cutF_app, cutF_app]
  unfold newO
  rw [cutF_off _ _ _ _ _ _ _ (.inr (.inr (by rw [rowCs_len]; show nP h (g0 + 1) + 0 + 1 + nRw h (g0 + 1) ≤ i; omega))), new_below nt ws (by omega)]
theorem Lw.notNew (L : Lw S h g0 ch0 un0 nb f) {s i : Nat} : (f s i).gen ≠ g0 + 1 := by
  have := L.gn s i
  omega
/-- a kept check is read -/
theorem Lw.rdNew (L : Lw S h g0 ch0 un0 nb f) (nt : nb = true) (ws : List Wd) {M : Tbl} (R : RepC M (cutF f (opsN h g0 ch0 un0 nb) ws (sdN (g0 + 1)))) (hk : keptB ws (rowsR un0).length (nP h (g0 + 1) + 1) = true) :
    ∃ kv, rdA (clsF M (cutF f (opsN h g0 ch0 un0 nb) ws (sdN (g0 + 1)))) = some (g0 + 1, kv) ∧ T9 kv ∧ ∀ j, valV kv j = valV (tabF (h (g0 + 1)).1 ((h (g0 + 1)).2.take (okN ws ((rowsR un0).length + (nP h (g0 + 1) + 1)) (h (g0 + 1)).2))) j := by
  have hk := keptB_all.mp hk
  have wk : ∀ {k : Nat} {c o : Cl}, isKept ws[k]? = true → wordC ws[k]? c o = c := fun {k c o} q => by
    cases e : ws[k]? with
    | none => rw [e] at q; cases q
    | some w =>
      rw [e] at q
      cases w with
      | kept => rfl
      | lost => cases q
      | torn => cases q
  obtain ⟨l, l1, l2, l3⟩ := lead_ex (fun j => isKept ws[(rowsR un0).length + (nP h (g0 + 1) + 1) + j]?) (nRw h (g0 + 1))
  obtain ⟨kv, e, t, v⟩ := rdA_of (h := h) L.ok (cs := clsF M (cutF f (opsN h g0 ch0 un0 nb) ws (sdN (g0 + 1)))) (g := g0 + 1) (l := l) (by omega)
    (by rw [R.hd, new_head nt, wk (hk _ (by omega))]; rfl)
    (fun i p e => by
      have hi := (List.getElem?_eq_some_iff.mp e).1
      have hi : i < nP h (g0 + 1) := hi
      have z := (new_piece (f := f) (ch0 := ch0) (un0 := un0) nt ws e).trans (wk (hk _ (by omega)))
      rw [R.get (by rw [z]; simp), z])
    l1
    (fun i x hi e => by
      have z := (new_row (f := f) (ch0 := ch0) (un0 := un0) nt ws e).trans (wk (l2 _ hi))
      rw [R.get (by rw [z]; simp), z])
    (fun x p e => by
      have z := cls_get e
      have old : f (sdN (g0 + 1)) (nP h (g0 + 1) + (l + 1)) ≠ .row (g0 + 1) (l + 1) x p := fun q => by
        have := L.notNew (s := sdN (g0 + 1)) (i := nP h (g0 + 1) + (l + 1))
        rw [q] at this
        exact this rfl
      by_cases c : l < nRw h (g0 + 1)
      · have k := l3 c
        have o := new_row (f := f) (ch0 := ch0) (un0 := un0) nt ws (List.getElem?_eq_getElem (show l < (rowsR (h (g0 + 1)).2).length from c))
        rw [z] at o
        cases q : ws[(rowsR un0).length + (nP h (g0 + 1) + 1) + l]? with
        | none =>
          rw [q] at o
          exact old o.symm
        | some w =>
          have k : isKept ws[(rowsR un0).length + (nP h (g0 + 1) + 1) + l]? = false := k
          rw [q] at o k
          cases w with
          | kept => cases k
          | lost => exact old o.symm
          | torn => cases o
      · rw [new_high nt ws (by omega)] at z
        exact old z)
  refine ⟨kv, e, t, fun j => ?_⟩
  rw [v, whole_ok _ _ l l1 l2 l3]
theorem hd0_gen (c : Cl) : (hd0 [c]).1 = 0 ∨ (hd0 [c]).1 = c.gen := by
  cases c with
  | head g n => exact .inr rfl
  | gone => exact .inl rfl
  | torn => exact .inl rfl
  | piece _ _ _ => exact .inl rfl
  | row _ _ _ _ => exact .inl rfl
theorem Lw.low (L : Lw S h g0 ch0 un0 nb f) : (hd0 [f (sdN (g0 + 1)) 0]).1 = 0 ∨ (hd0 [f (sdN (g0 + 1)) 0]).1 < g0 := by
  rcases hd0_gen (f (sdN (g0 + 1)) 0) with e | e
  · exact .inl e
  · rw [e]
    have a := L.gn (sdN (g0 + 1)) 0
    rcases (L.ag (sdN (g0 + 1)) 0).side with b | b
    · exact .inl b
    · refine .inr (Nat.lt_of_le_of_ne a fun q => ?_)
      rw [q] at b
      exact sdN_ne g0 b.symm
/-- without a kept check the other side tells nothing newer -/
theorem Lw.rdOther (L : Lw S h g0 ch0 un0 nb f) (ws : List Wd) {M : Tbl} (R : RepC M (cutF f (opsN h g0 ch0 un0 nb) ws (sdN (g0 + 1)))) (hk : ¬ (nb = true ∧ keptB ws (rowsR un0).length (nP h (g0 + 1) + 1) = true)) :
    ∀ y, rdA (clsF M (cutF f (opsN h g0 ch0 un0 nb) ws (sdN (g0 + 1)))) = some y → y.1 < g0 := fun y e => by
  obtain ⟨e1, e2⟩ := rdA_gen e
  rw [R.hd] at e1
  have low : (hd0 [f (sdN (g0 + 1)) 0]).1 = y.1 → y.1 < g0 := fun q => by
    rcases L.low with z | z
    · omega
    · omega
  by_cases nt : nb = true
  · rw [new_head nt] at e1
    cases q : ws[(rowsR un0).length + nP h (g0 + 1)]? with
    | none =>
      rw [q] at e1
      exact low e1.symm
    | some w =>
      rw [q] at e1
      cases w with
      | lost => exact low e1.symm
      | torn => exact absurd e1 e2
      | kept =>
        exfalso
        have hd : hd0 (clsF M (cutF f (opsN h g0 ch0 un0 nb) ws (sdN (g0 + 1)))) = (g0 + 1, nP h (g0 + 1)) := by
          rw [R.hd, new_head nt, q]
          rfl
        have nk : ¬ ∀ k, k < nP h (g0 + 1) + 1 → isKept ws[(rowsR un0).length + k]? = true := fun z => hk ⟨nt, keptB_all.mpr z⟩
        obtain ⟨k, hk'⟩ := Classical.not_forall.mp nk
        obtain ⟨h1, h2⟩ := Classical.not_imp.mp hk'
        have kc : k ≠ nP h (g0 + 1) := fun z => h2 (by rw [z, q]; rfl)
        have kl : k < (pcsT (h (g0 + 1)).1).length := by
          show k < nP h (g0 + 1)
          omega
        have no := rdA_no (cs := clsF M (cutF f (opsN h g0 ch0 un0 nb) ws (sdN (g0 + 1)))) (i := k) hd kl fun p ep => by
          have z := cls_get ep
          have o := new_piece (f := f) (ch0 := ch0) (un0 := un0) nt ws (List.getElem?_eq_getElem kl)
          rw [z] at o
          have old : f (sdN (g0 + 1)) (k + 1) ≠ .piece (g0 + 1) (k + 1) p := fun q => by
            have := L.notNew (s := sdN (g0 + 1)) (i := k + 1)
            rw [q] at this
            exact this rfl
          cases r : ws[(rowsR un0).length + k]? with
          | none =>
            rw [r] at o
            exact old o.symm
          | some w =>
            rw [r] at o h2
            cases w with
            | kept => exact h2 rfl
            | lost => exact old o.symm
            | torn => cases o
        rw [no] at e
        cases e
  · have o : cutF f (opsN h g0 ch0 un0 nb) ws (sdN (g0 + 1)) 0 = f (sdN (g0 + 1)) 0 := by
      unfold opsN oldO
      rw [if_neg nt, List.append_nil]
      exact cutF_off _ _ _ _ _ _ _ (.inl (sdN_ne g0))
    rw [o] at e1
    exact low e1.symm
end
/-! #### the steps that the law tells -/
abbrev StT := Bool × Nat × Tbl
abbrev DuS := Tbl × Bool × Nat × Bool
def stepD (ws : List Wd) (x : DuS) (s : StT) : DuS :=
  if x.2.2.2 = true then x
  else if s.1 = true then (if keptB ws x.2.2.1 s.2.1 = true then (s.2.2, true, x.2.2.1 + s.2.1, false) else (x.1, x.2.1, x.2.2.1, true))
  else if keptB ws x.2.2.1 s.2.1 = true then (if x.2.1 = true then (s.2.2, true, x.2.2.1 + s.2.1, false) else (x.1, false, x.2.2.1 + s.2.1, false))
  else (x.1, false, x.2.2.1 + s.2.1, false)
def dueG (ws : List Wd) (tb : Tbl) (st : List StT) : DuS := st.foldl (stepD ws) (tb, true, 0, false)
theorem dueG_snoc (ws : List Wd) (tb : Tbl) (st : List StT) (s : StT) : dueG ws tb (st ++ [s]) = stepD ws (dueG ws tb st) s := by
  unfold dueG
  rw [List.foldl_append]
  rfl
def stD (ws : List Wd) (h : Hist) (g0 : Nat) (ch0 un0 : List Tbl) (nb : Bool) : DuS :=
  if nb = true then
    (if keptB ws (rowsR un0).length (nP h (g0 + 1) + 1) = true then
      (tabF (h (g0 + 1)).1 ((h (g0 + 1)).2.take (okN ws ((rowsR un0).length + (nP h (g0 + 1) + 1)) (h (g0 + 1)).2)), decide (okN ws ((rowsR un0).length + (nP h (g0 + 1) + 1)) (h (g0 + 1)).2 = (h (g0 + 1)).2.length), (rowsR un0).length + (nP h (g0 + 1) + 1) + nRw h (g0 + 1), false)
    else (tabF (tabF (h g0).1 ch0) (un0.take (okN ws 0 un0)), decide (okN ws 0 un0 = un0.length), (rowsR un0).length, true))
  else (tabF (tabF (h g0).1 ch0) (un0.take (okN ws 0 un0)), decide (okN ws 0 un0 = un0.length), (rowsR un0).length, false)
def Lu (S : DS) (tb : Tbl) (st : List StT) : Prop := ∃ (h : Hist) (g0 : Nat) (ch0 un0 : List Tbl) (nb : Bool) (f : Mem), Lw S h g0 ch0 un0 nb f ∧ ∀ ws, dueG ws tb st = stD ws h g0 ch0 un0 nb
/-- one record more -/
theorem rec_step (ws : List Wd) (a : Nat) (b : Bool) (t : Tbl) (un : List Tbl) (ch : Tbl) {T : Tbl} (hT : T = tabF t (un ++ [ch])) :
    stepD ws (tabF t (un.take (okN ws a un)), decide (okN ws a un = un.length), a + (rowsR un).length, false) (false, nR ch, T) =
      (tabF t ((un ++ [ch]).take (okN ws a (un ++ [ch]))), decide (okN ws a (un ++ [ch]) = (un ++ [ch]).length), a + (rowsR (un ++ [ch])).length, false) := by
  have e : (rowsR (un ++ [ch])).length = (rowsR un).length + nR ch := by
    rw [rowsR_app, List.length_append, rowsR_one, rowsL_len]
    rfl
  have le := okN_le ws un a
  rw [okN_snoc, e, ← Nat.add_assoc, List.length_append, List.length_cons, List.length_nil]
  unfold stepD
  rw [if_neg Bool.false_ne_true, if_neg Bool.false_ne_true]
  show (if keptB ws (a + (rowsR un).length) (nR ch) = true then (if decide (okN ws a un = un.length) = true then (T, true, _, false) else (_, false, _, false)) else (_, false, _, false)) = _
  by_cases q : okN ws a un = un.length
  · rw [decide_eq_true q, if_pos rfl, if_pos q]
    by_cases k : keptB ws (a + (rowsR un).length) (nR ch) = true
    · have tk : (un ++ [ch]).take (un.length + 1) = un ++ [ch] := List.take_of_length_le (by rw [List.length_append]; exact Nat.le_refl _)
      rw [if_pos k, if_pos k, hT, decide_eq_true (by omega), tk]
    · rw [if_neg k, if_neg k, q, decide_eq_false (by omega), List.take_left, List.take_length]
  · rw [decide_eq_false q, if_neg Bool.false_ne_true, if_neg q, decide_eq_false (by omega), List.take_append_of_le_length le]
    split <;> rfl
section
variable {S : DS} {h : Hist} {g0 : Nat} {ch0 un0 : List Tbl} {nb : Bool} {f : Mem}
theorem rows_pos {ch : Tbl} (t : T9 ch) (n : ch ≠ []) : 0 < nR ch := List.length_pos_iff.mpr (pcs_ne t n)
theorem rowsR_nil : ∀ {un : List Tbl}, (∀ ch ∈ un, T9 ch ∧ ch ≠ []) → (rowsR un).length = 0 → un = []
  | [], _, _ => rfl
  | ch :: r, h, e => by
    rw [rowsR_len_cons] at e
    have := rows_pos (h ch (List.mem_cons_self ..)).1 (h ch (List.mem_cons_self ..)).2
    omega
theorem opsN_len : (opsN h g0 ch0 un0 nb).length = (rowsR un0).length + (if nb = true then nP h (g0 + 1) + 1 + nRw h (g0 + 1) else 0) := by
  unfold opsN
  rw [List.length_append, oldO_len]
  by_cases b : nb = true
  · rw [if_pos b, if_pos b, List.length_append, chk_len]
    unfold newO
    rw [seq_len, rowCs_len]
    rfl
  · rw [if_neg b, if_neg b]
    rfl
theorem Lw.none (L : Lw S h g0 ch0 un0 nb f) (e : S.op = []) : nb = false ∧ un0 = [] := by
  rw [L.op] at e
  have l := opsN_len (h := h) (g0 := g0) (ch0 := ch0) (un0 := un0) (nb := nb)
  rw [List.map_eq_nil_iff.mp e] at l
  have l : 0 = _ := l
  cases nb with
  | true => rw [if_pos rfl] at l; omega
  | false =>
    refine ⟨rfl, rowsR_nil (fun ch hc => L.ok.c g0 ch (by rw [L.h0]; exact List.mem_append_right _ hc)) ?_⟩
    rw [if_neg Bool.false_ne_true] at l
    omega
theorem Lw.softT (L : Lw S h g0 ch0 un0 nb f) : S.soft = nb := by
  have gs := L.side
  cases nb with
  | true =>
    have m : (((sdN (g0 + 1) : Nat) : Int), ((0 : Nat) : Int), (Cl.head (g0 + 1) (nP h (g0 + 1))).t) ∈ S.op := by
      rw [L.op]
      refine List.mem_map.mpr ⟨(sdN (g0 + 1), 0, .head (g0 + 1) (nP h (g0 + 1))), ?_, rfl⟩
      unfold opsN
      rw [if_pos rfl]
      refine List.mem_append_right _ (List.mem_append_left _ ?_)
      unfold chkO
      exact List.mem_append_right _ (List.mem_cons_self ..)
    unfold DS.soft
    rw [List.any_eq_true]
    refine ⟨_, m, ?_⟩
    rw [gs]
    show (decide (((sdN (g0 + 1) : Nat) : Int) = ((sdN (g0 + 1) : Nat) : Int)) && decide (((0 : Nat) : Int) = 0)) = true
    rw [decide_eq_true rfl]
    rfl
  | false =>
    unfold DS.soft
    rw [List.any_eq_false]
    intro q hq
    rw [L.op] at hq
    obtain ⟨c, hc, rfl⟩ := List.mem_map.mp hq
    rcases L.mem hc with ⟨i, x, _, rfl⟩ | ⟨b, _⟩
    · show ¬ (decide _ && decide (((nP h g0 + (rowsR ch0).length + 1 + i : Nat) : Int) = 0)) = true
      rw [decide_eq_false (show ¬ ((nP h g0 + (rowsR ch0).length + 1 + i : Nat) : Int) = 0 by omega), Bool.and_false]
      exact Bool.false_ne_true
    · cases b
/-- all is durable -/
theorem Lw.sync (L : Lw S h g0 ch0 un0 nb f) : ∃ f', Lw S.sync h (gN g0 nb) (h (gN g0 nb)).2 [] false f' := by
  obtain ⟨e1, e2, e3, e4, e5, e6, e7⟩ := sync_same S
  have g1 := L.g1
  obtain ⟨ge, gl⟩ := gN_le g0 nb
  obtain ⟨ws, hws⟩ : ∃ ws, ws = List.replicate (opsN h g0 ch0 un0 nb).length Wd.kept := ⟨_, rfl⟩
  have wk : ∀ {k : Nat} {c o : Cl}, k < (opsN h g0 ch0 un0 nb).length → wordC ws[k]? c o = c := fun {k c o} q => by
    rw [hws, List.getElem?_replicate, if_pos q]
    rfl
  have on := opsN_len (h := h) (g0 := g0) (ch0 := ch0) (un0 := un0) (nb := nb)
  refine ⟨cutF f (opsN h g0 ch0 un0 nb) ws, by omega, L.ok, by rw [hws]; exact L.rep.sync L.op L.opok, L.agC ws, L.gnC ws, fun s i j x p e => ?_, ?_, fun i p e => ?_, fun i x e => ?_, (List.append_nil _).symm, (fun e => by cases e), e3.trans L.gen, e2.trans L.side, e1.trans L.kv, e6.trans L.pcs, e7.trans L.cnt, e4.trans rfl⟩
  · have a := L.agC ws s i
    rw [e] at a
    have b := (List.getElem?_eq_some_iff.mp a.2.2.2.2).1
    omega
  · cases nb with
    | true =>
      rw [if_pos rfl] at on
      show cutF f (opsN h g0 ch0 un0 true) ws (sdN (g0 + 1)) 0 = .head (g0 + 1) (nP h (g0 + 1))
      rw [new_head rfl, wk (by omega)]
    | false =>
      show cutF f (opsN h g0 ch0 un0 false) ws (sdN g0) 0 = .head g0 (nP h g0)
      rw [old_low ws (by omega)]
      exact L.hd
  · cases nb with
    | true =>
      rw [if_pos rfl] at on
      have hi := (List.getElem?_eq_some_iff.mp e).1
      have hi : i < nP h (g0 + 1) := hi
      show cutF f (opsN h g0 ch0 un0 true) ws (sdN (g0 + 1)) (i + 1) = .piece (g0 + 1) (i + 1) p
      rw [new_piece rfl ws e, wk (by omega)]
    | false =>
      have hi := (List.getElem?_eq_some_iff.mp e).1
      have hi : i < nP h g0 := hi
      show cutF f (opsN h g0 ch0 un0 false) ws (sdN g0) (i + 1) = .piece g0 (i + 1) p
      rw [old_low ws (by omega)]
      exact L.pc i p e
  · cases nb with
    | true =>
      rw [if_pos rfl] at on
      have hi := (List.getElem?_eq_some_iff.mp e).1
      have hi : i < nRw h (g0 + 1) := hi
      show cutF f (opsN h g0 ch0 un0 true) ws (sdN (g0 + 1)) (nP h (g0 + 1) + (i + 1)) = .row (g0 + 1) (i + 1) x.1 x.2
      rw [new_row rfl ws e, wk (by omega)]
    | false =>
      rw [if_neg Bool.false_ne_true] at on
      have e : (rowsR (h g0).2)[i]? = some x := e
      show cutF f (opsN h g0 ch0 un0 false) ws (sdN g0) (nP h g0 + (i + 1)) = .row g0 (i + 1) x.1 x.2
      rw [L.h0, rowsR_app] at e
      by_cases c : i < (rowsR ch0).length
      · rw [List.getElem?_append_left c] at e
        rw [old_low ws (by omega)]
        exact L.ro i x e
      · rw [List.getElem?_append_right (by omega)] at e
        have hi := (List.getElem?_eq_some_iff.mp e).1
        have o := old_row (h := h) (g0 := g0) (ch0 := ch0) (un0 := un0) (nb := false) (f := f) ws e
        rw [show nP h g0 + (rowsR ch0).length + 1 + (i - (rowsR ch0).length) = nP h g0 + (i + 1) by omega, show (rowsR ch0).length + (i - (rowsR ch0).length) + 1 = i + 1 by omega, wk (by omega)] at o
        exact o
theorem stD_nil (ws : List Wd) : stD ws h g0 ch0 [] false = (tabF (h g0).1 ch0, true, 0, false) := rfl
/-- a state whose writes are all durable: from here the law's steps begin -/
theorem Lw.start (L : Lw S h g0 ch0 [] false f) : Lu S S.kv [] := ⟨h, g0, ch0, [], false, f, L, fun ws => by
  rw [stD_nil, L.kv]
  have e : (h g0).2 = ch0 := by rw [L.h0, List.append_nil]
  show (tabF (h g0).1 (h g0).2, true, 0, false) = _
  rw [e]⟩
end
section
variable {S : DS} {tb : Tbl} {st : List StT}
theorem Lu.sync (L : Lu S tb st) : Lu S.sync S.kv [] := by
  obtain ⟨h, g0, ch0, un0, nb, f, L, _⟩ := L
  obtain ⟨f', L'⟩ := L.sync
  have := L'.start
  rw [(sync_same S).1] at this
  exact this
/-- nothing is unsynced: the steps told so far have written nothing -/
theorem Lu.idle (L : Lu S tb st) (e : S.op = []) : ∀ ws, dueG ws tb st = (S.kv, true, 0, false) := by
  obtain ⟨h, g0, ch0, un0, nb, f, L, d⟩ := L
  obtain ⟨rfl, rfl⟩ := L.none e
  intro ws
  rw [d, stD_nil, L.kv]
  have e : (h g0).2 = ch0 := by rw [L.h0, List.append_nil]
  show _ = (tabF (h g0).1 (h g0).2, true, 0, false)
  rw [e]
theorem Lu.of_idle {S' : DS} (L : Lu S' S'.kv []) (o : S'.op = []) (e : ∀ ws, dueG ws tb st = (S'.kv, true, 0, false)) : Lu S' tb st := by
  have i := L.idle o
  obtain ⟨h, g0, ch0, un0, nb, f, L, d⟩ := L
  exact ⟨h, g0, ch0, un0, nb, f, L, fun ws => by rw [e, ← i, d]⟩
/-- a check that is not synced -/
theorem Lu.check0 (L : Lu S tb st) (ns : S.soft = false) {S4 : DS} (e4 : S4 = { S.turn (pcsT S.kv) with op := S.op ++ fresh (1 - S.side) (S.gen + 1) (pcsT S.kv) (pcsT S.kv).length ++ [(1 - S.side, 0, headT (S.gen + 1) (pcsT S.kv).length)] }) : Lu S4 tb (st ++ [(true, (pcsT S.kv).length + 1, S.kv)]) := by
  obtain ⟨h, g0, ch0, un0, nb, f, L, d⟩ := L
  obtain rfl : nb = false := by rw [← L.softT]; exact ns
  obtain ⟨h', hh⟩ : ∃ h' : Hist, h' = fun g => if g = g0 + 1 then (S.kv, []) else h g := ⟨_, rfl⟩
  have hn : h' (g0 + 1) = (S.kv, []) := by rw [hh]; exact if_pos rfl
  have ho : ∀ g, g ≠ g0 + 1 → h' g = h g := fun g n => by rw [hh]; exact if_neg n
  have h0 := ho g0 (by omega)
  have kv : S.kv = tabF (h g0).1 (h g0).2 := L.kv
  have tkv : T9 S.kv := by
    rw [kv]
    exact tabF_t9 _ (L.ok.t g0) fun ch hc => (L.ok.c g0 ch hc).1
  have ok' : HOk h' := by
    refine ⟨fun g => ?_, fun g ch hc => ?_, fun g => ?_⟩
    · by_cases c : g = g0 + 1
      · rw [c, hn]; exact tkv
      · rw [ho g c]; exact L.ok.t g
    · by_cases c : g = g0 + 1
      · rw [c, hn] at hc; cases hc
      · rw [ho g c] at hc; exact L.ok.c g ch hc
    · unfold nRw
      by_cases c : g = g0 + 1
      · rw [c, hn]; exact Nat.zero_le _
      · rw [ho g c]; exact L.ok.few g
  have nP0 : nP h' g0 = nP h g0 := by unfold nP; rw [h0]
  have nP1 : nP h' (g0 + 1) = (pcsT S.kv).length := by unfold nP; rw [hn]
  have sd : (1 - S.side : Int) = (sdN (g0 + 1) : Int) := by
    rw [L.side]
    show (1 - ((sdN g0 : Nat) : Int) : Int) = _
    have := sdN_lt g0
    have := sdN_lt (g0 + 1)
    have := sdN_ne g0
    omega
  have ge : S.gen + 1 = ((g0 + 1 : Nat) : Int) := by
    rw [L.gen]
    show ((g0 : Nat) : Int) + 1 = _
    omega
  have oO : oldO h' g0 ch0 un0 = oldO h g0 ch0 un0 := by unfold oldO; rw [nP0]
  refine ⟨h', g0, ch0, un0, true, f, ⟨L.g1, ok', ?_, fun s i => ?_, L.gn, L.rw, by rw [nP0]; exact L.hd, by rw [h0]; exact L.pc, by rw [nP0]; exact L.ro, by rw [h0]; exact L.h0, fun _ => by rw [hn, h0]; exact kv, ?_, ?_, ?_, ?_, ?_, ?_⟩, fun ws => ?_⟩
  · rw [e4]
    exact L.rep
  · refine (L.ag s i).grow fun _ => ?_
    have := L.gn s i
    rw [ho _ (by omega)]
    exact ⟨rfl, [], (List.append_nil _).symm⟩
  · rw [e4]
    exact ge
  · rw [e4]
    exact sd
  · rw [e4]
    show S.kv = tabF (h' (g0 + 1)).1 (h' (g0 + 1)).2
    rw [hn]
    rfl
  · rw [e4]
    show ((pcsT S.kv).length : Int) = (nP h' (g0 + 1) : Int)
    rw [nP1]
  · rw [e4]
    show (0 : Int) = (nRw h' (g0 + 1) : Int)
    unfold nRw
    rw [hn]
    rfl
  · rw [e4]
    show S.op ++ fresh (1 - S.side) (S.gen + 1) (pcsT S.kv) (pcsT S.kv).length ++ [(1 - S.side, 0, headT (S.gen + 1) (pcsT S.kv).length)] = _
    have e1 : S.op = (oldO h' g0 ch0 un0).map opC := by
      rw [oO, L.op]
      unfold opsN
      rw [if_neg Bool.false_ne_true, List.append_nil]
    have e2 : fresh (1 - S.side) (S.gen + 1) (pcsT S.kv) (pcsT S.kv).length = (seqOps (sdN (g0 + 1)) 1 (pcCs (g0 + 1) (pcsT (h' (g0 + 1)).1))).map opC := by
      rw [ge, fresh_ops sd, hn]
    have e3 : newO h' (g0 + 1) = [] := by
      unfold newO
      rw [hn]
      rfl
    unfold opsN
    rw [if_pos rfl, e3, List.append_nil]
    unfold chkO
    rw [List.map_append, List.map_append, ← e1, ← e2, List.append_assoc, sd, ge]
    congr 3
    show (((sdN (g0 + 1) : Nat) : Int), (0 : Int), headT ((g0 + 1 : Nat) : Int) ((pcsT S.kv).length : Int)) = (((sdN (g0 + 1) : Nat) : Int), ((0 : Nat) : Int), headT ((g0 + 1 : Nat) : Int) ((nP h' (g0 + 1) : Nat) : Int))
    rw [nP1]
    rfl
  · rw [dueG_snoc, d]
    unfold stD
    rw [if_neg Bool.false_ne_true, if_pos rfl, hn, h0, nP1]
    unfold stepD
    rw [if_neg Bool.false_ne_true, if_pos rfl]
    show (if keptB ws (rowsR un0).length ((pcsT S.kv).length + 1) = true then (S.kv, true, (rowsR un0).length + ((pcsT S.kv).length + 1), false) else _) = _
    unfold nRw
    rw [hn]
    rfl
/-- rows of a record -/
theorem Lu.rec (L : Lu S tb st) {ch : Tbl} (t : T9 ch) (n : ch ≠ []) (few : S.cnt + nR ch ≤ 1300) {S' : DS} (e : S' = { S with op := S.op ++ rows S.side S.gen S.pcs S.cnt (pcsT ch) (pcsT ch).length, cnt := S.cnt + (pcsT ch).length, kv := applyK S.kv ch }) : Lu S' tb (st ++ [(false, nR ch, applyK S.kv ch)]) := by
  obtain ⟨h, g0, ch0, un0, nb, f, L, d⟩ := L
  obtain ⟨G, hG⟩ : ∃ G, G = gN g0 nb := ⟨_, rfl⟩
  have gle := gN_le g0 nb
  rw [← hG] at gle
  obtain ⟨h', hh⟩ : ∃ h' : Hist, h' = fun g => if g = G then ((h g).1, (h g).2 ++ [ch]) else h g := ⟨_, rfl⟩
  have hn : h' G = ((h G).1, (h G).2 ++ [ch]) := by rw [hh]; exact if_pos rfl
  have ho : ∀ g, g ≠ G → h' g = h g := fun g n => by rw [hh]; exact if_neg n
  have h1 : ∀ g, (h' g).1 = (h g).1 := fun g => by
    by_cases c : g = G
    · rw [c, hn]
    · rw [ho g c]
  have nPe : ∀ g, nP h' g = nP h g := fun g => by unfold nP; rw [h1]
  have kv : S.kv = tabF (h G).1 (h G).2 := by rw [hG]; exact L.kv
  have cn : S.cnt = (nRw h G : Int) := by rw [hG]; exact L.cnt
  have nG : nRw h' G = nRw h G + nR ch := by
    unfold nRw
    rw [hn, rowsR_app, List.length_append, rowsR_one, rowsL_len]
    rfl
  have ok' : HOk h' := by
    refine ⟨fun g => by rw [h1]; exact L.ok.t g, fun g c hc => ?_, fun g => ?_⟩
    · by_cases q : g = G
      · rw [q, hn] at hc
        rcases List.mem_append.mp hc with hc | hc
        · exact L.ok.c G c hc
        · rw [List.mem_singleton.mp hc]
          exact ⟨t, n⟩
      · rw [ho g q] at hc; exact L.ok.c g c hc
    · by_cases q : g = G
      · rw [q, nG]
        omega
      · unfold nRw
        rw [ho g q]
        exact L.ok.few g
  have kv' : applyK S.kv ch = tabF (h G).1 ((h G).2 ++ [ch]) := by
    rw [kv, tabF_app]
    rfl
  have ag' : ∀ s i, Ag h' s i (f s i) := fun s i => (L.ag s i).grow fun _ => by
    refine ⟨(h1 _).symm, ?_⟩
    by_cases q : (f s i).gen = G
    · rw [q, hn]
      exact ⟨[ch], rfl⟩
    · rw [ho _ q]
      exact ⟨[], (List.append_nil _).symm⟩
  have ge : S.gen = (G : Int) := by rw [hG]; exact L.gen
  have sd : S.side = (sdN G : Int) := by rw [hG]; exact L.side
  have pc : S.pcs = (nP h G : Int) := by rw [hG]; exact L.pcs
  have er : rows S.side S.gen S.pcs S.cnt (pcsT ch) (pcsT ch).length = (seqOps (sdN G) (nP h G + nRw h G + 1) (rowCs G (nRw h G) (rowsL (pcsT ch)))).map opC := by
    rw [ge, pc, cn]
    exact rows_ops sd _
  cases nb with
  | false =>
    obtain rfl : G = g0 := hG
    have h0 : (h' G).2 = ch0 ++ (un0 ++ [ch]) := by rw [hn, L.h0, List.append_assoc]
    refine ⟨h', G, ch0, un0 ++ [ch], false, f, ⟨L.g1, ok', by rw [e]; exact L.rep, ag', L.gn, L.rw, by rw [nPe]; exact L.hd, by rw [h1]; exact L.pc, by rw [nPe]; exact L.ro, h0, (fun q => by cases q), by rw [e]; exact ge, by rw [e]; exact sd, ?_, by rw [e]; show S.pcs = (nP h' G : Int); rw [nPe]; exact pc, ?_, ?_⟩, fun ws => ?_⟩
    · rw [e]
      show applyK S.kv ch = tabF (h' G).1 (h' G).2
      rw [hn, kv']
    · rw [e]
      show S.cnt + ((pcsT ch).length : Int) = (nRw h' G : Int)
      rw [nG, cn]
      show _ + ((nR ch : Nat) : Int) = _
      omega
    · rw [e]
      show S.op ++ rows S.side S.gen S.pcs S.cnt (pcsT ch) (pcsT ch).length = _
      have en : nRw h G = (rowsR ch0).length + (rowsR un0).length := by
        unfold nRw
        rw [L.h0, rowsR_app, List.length_append]
      rw [er, L.op]
      unfold opsN oldO
      rw [if_neg Bool.false_ne_true, if_neg Bool.false_ne_true, List.append_nil, List.append_nil, rowsR_app, rowsR_one, rowCs_app, seq_app, List.map_append, rowCs_len, nPe, en]
      rw [show nP h G + (rowsR ch0).length + 1 + (rowsR un0).length = nP h G + ((rowsR ch0).length + (rowsR un0).length) + 1 by omega]
    · rw [dueG_snoc, d]
      have r := rec_step ws 0 false (tabF (h G).1 ch0) un0 ch (T := applyK S.kv ch) (by rw [kv', L.h0, List.append_assoc, tabF_app])
      rw [Nat.zero_add, Nat.zero_add] at r
      unfold stD
      rw [if_neg Bool.false_ne_true, if_neg Bool.false_ne_true, h1]
      exact r
  | true =>
    obtain rfl : G = g0 + 1 := hG
    have h0 := ho g0 (by omega)
    refine ⟨h', g0, ch0, un0, true, f, ⟨L.g1, ok', by rw [e]; exact L.rep, ag', L.gn, L.rw, by rw [nPe]; exact L.hd, by rw [h1]; exact L.pc, by rw [nPe]; exact L.ro, by rw [h0]; exact L.h0, (fun _ => by rw [h1, h0]; exact L.nx rfl), by rw [e]; exact ge, by rw [e]; exact sd, ?_, by rw [e]; show S.pcs = (nP h' (g0 + 1) : Int); rw [nPe]; exact pc, ?_, ?_⟩, fun ws => ?_⟩
    · rw [e]
      show applyK S.kv ch = tabF (h' (g0 + 1)).1 (h' (g0 + 1)).2
      rw [hn, kv']
    · rw [e]
      show S.cnt + ((pcsT ch).length : Int) = (nRw h' (g0 + 1) : Int)
      rw [nG, cn]
      show _ + ((nR ch : Nat) : Int) = _
      omega
    · rw [e]
      show S.op ++ rows S.side S.gen S.pcs S.cnt (pcsT ch) (pcsT ch).length = _
      rw [er, L.op]
      unfold opsN oldO chkO newO
      rw [if_pos rfl, if_pos rfl, hn, rowsR_app, rowsR_one, rowCs_app, seq_app, rowCs_len, nPe, nPe, Nat.zero_add]
      have q : nP h (g0 + 1) + 0 + 1 + (rowsR (h (g0 + 1)).2).length = nP h (g0 + 1) + nRw h (g0 + 1) + 1 := by unfold nRw; omega
      rw [q]
      simp only [List.map_append, List.append_assoc]
      rfl
    · rw [dueG_snoc, d]
      have r := rec_step ws ((rowsR un0).length + (nP h (g0 + 1) + 1)) false (h (g0 + 1)).1 (h (g0 + 1)).2 ch (T := applyK S.kv ch) kv'
      unfold stD
      rw [if_pos rfl, if_pos rfl, nPe]
      by_cases k : keptB ws (rowsR un0).length (nP h (g0 + 1) + 1) = true
      · rw [if_pos k, if_pos k, h1]
        unfold nRw
        rw [hn]
        exact r
      · rw [if_neg k, if_neg k, h0]
        rfl
end
/-! #### deeds -/
section
variable {S : DS} {tb : Tbl} {st : List StT}
theorem soft_nil (h : S.op = []) : S.soft = false := by unfold DS.soft; rw [h]; rfl
theorem check_eq (S : DS) (hard : Bool) {S1 S4 : DS} (h1 : S1 = if S.soft = true then S.sync else S) (h4 : S4 = { S1.turn (pcsT S1.kv) with op := S1.op ++ fresh (1 - S1.side) (S1.gen + 1) (pcsT S1.kv) (pcsT S1.kv).length ++ [(1 - S1.side, 0, headT (S1.gen + 1) (pcsT S1.kv).length)] }) : S.check hard = if hard = true then S4.sync else S4 := by
  unfold DS.check
  rw [← h1, h4]
  rfl
theorem Lu.check1 (L : Lu S tb st) : ∃ S4, (∀ hard, S.check hard = if hard = true then S4.sync else S4) ∧ S4.kv = S.kv ∧ ((S.soft = true ∧ Lu S4 S.kv [(true, (pcsT S.kv).length + 1, S.kv)] ∧ S4.op.length = (pcsT S.kv).length + 1) ∨ (S.soft = false ∧ Lu S4 tb (st ++ [(true, (pcsT S.kv).length + 1, S.kv)]) ∧ S4.op.length = S.op.length + ((pcsT S.kv).length + 1))) := by
  obtain ⟨S1, h1⟩ : ∃ S1, S1 = if S.soft = true then S.sync else S := ⟨_, rfl⟩
  obtain ⟨S4, h4⟩ : ∃ S4 : DS, S4 = { S1.turn (pcsT S1.kv) with op := S1.op ++ fresh (1 - S1.side) (S1.gen + 1) (pcsT S1.kv) (pcsT S1.kv).length ++ [(1 - S1.side, 0, headT (S1.gen + 1) (pcsT S1.kv).length)] } := ⟨_, rfl⟩
  have ol : S4.op.length = S1.op.length + ((pcsT S1.kv).length + 1) := by
    rw [h4]
    show (S1.op ++ fresh (1 - S1.side) (S1.gen + 1) (pcsT S1.kv) (pcsT S1.kv).length ++ [(1 - S1.side, 0, headT (S1.gen + 1) (pcsT S1.kv).length)]).length = _
    rw [List.length_append, List.length_append, fresh_len, Nat.add_assoc]
    rfl
  refine ⟨S4, fun hard => check_eq S hard h1 h4, ?_, ?_⟩
  · rw [h4]
    show S1.kv = S.kv
    rw [h1]
    split
    · exact (sync_same S).1
    · rfl
  · by_cases c : S.soft = true
    · rw [if_pos c] at h1
      obtain ⟨e1, e2, e3, e4, e5, e6, e7⟩ := sync_same S
      have L1 : Lu S1 S.kv [] := by rw [h1]; exact L.sync
      have o1 : S1.op = [] := by rw [h1]; exact e4
      have k1 : S1.kv = S.kv := by rw [h1]; exact e1
      have r := L1.check0 (soft_nil o1) h4
      rw [k1] at r ol
      rw [o1] at ol
      exact .inl ⟨c, r, by rw [ol]; exact Nat.zero_add _⟩
    · rw [if_neg c] at h1
      subst h1
      exact .inr ⟨Bool.eq_false_iff.mpr c, L.check0 (Bool.eq_false_iff.mpr c) h4, ol⟩
theorem Lu.hard (L : Lu S tb st) : Lu (S.check true) S.kv [] := by
  obtain ⟨S4, e, k, r⟩ := L.check1
  rw [e true, if_pos rfl]
  rcases r with ⟨_, L4, _⟩ | ⟨_, L4, _⟩
  · have := L4.sync
    rw [k] at this
    exact this
  · have := L4.sync
    rw [k] at this
    exact this
theorem Lu.soft (L : Lu S tb st) : Lu (S.check false) (if (S.check false).op.length ≠ S.op.length + ((pcsT S.kv).length + 1) then S.kv else tb) ((if (S.check false).op.length ≠ S.op.length + ((pcsT S.kv).length + 1) then [] else st) ++ [(true, (pcsT S.kv).length + 1, S.kv)]) := by
  obtain ⟨S4, e, k, r⟩ := L.check1
  rw [e false, if_neg Bool.false_ne_true]
  rcases r with ⟨s, L4, o⟩ | ⟨s, L4, o⟩
  · have ne : S.op.length ≠ 0 := fun z => by
      rw [soft_nil (List.length_eq_zero_iff.mp z)] at s
      cases s
    rw [if_pos (by omega), if_pos (by omega)]
    exact L4
  · rw [if_neg (by omega), if_neg (by omega)]
    exact L4
theorem kept0 (ws : List Wd) (a : Nat) : keptB ws a 0 = true := keptB_all.mpr fun k hk => absurd hk (Nat.not_lt_zero _)
theorem Lu.zero (L : Lu S tb st) : Lu S tb (st ++ [(false, 0, S.kv)]) := by
  obtain ⟨h, g0, ch0, un0, nb, f, L, d⟩ := L
  refine ⟨h, g0, ch0, un0, nb, f, L, fun ws => ?_⟩
  rw [dueG_snoc, d]
  have go : ∀ (t : Tbl) (un : List Tbl) (a k : Nat), (k = un.length → tabF t un = S.kv) → k ≤ un.length → stepD ws (tabF t (un.take k), decide (k = un.length), a, false) (false, 0, S.kv) = (tabF t (un.take k), decide (k = un.length), a, false) := fun t un a k ht kl => by
    unfold stepD
    rw [if_neg Bool.false_ne_true, if_neg Bool.false_ne_true, if_pos (kept0 ws _)]
    by_cases q : k = un.length
    · show (if decide (k = un.length) = true then (S.kv, true, a + 0, false) else _) = _
      rw [if_pos (decide_eq_true q), decide_eq_true q, q, List.take_length, ht q]
      rfl
    · show (if decide (k = un.length) = true then _ else (tabF t (un.take k), false, a + 0, false)) = _
      rw [if_neg (by rw [decide_eq_false q]; exact Bool.false_ne_true), decide_eq_false q]
      rfl
  unfold stD
  cases nb with
  | false =>
    rw [if_neg Bool.false_ne_true]
    refine go _ _ _ _ (fun _ => ?_) (okN_le ws _ _)
    rw [← tabF_app, ← L.h0]
    exact L.kv.symm
  | true =>
    rw [if_pos rfl]
    by_cases k : keptB ws (rowsR un0).length (nP h (g0 + 1) + 1) = true
    · rw [if_pos k]
      exact go _ _ _ _ (fun _ => L.kv.symm) (okN_le ws _ _)
    · rw [if_neg k]
      rfl
theorem nR_nil : nR [] = 0 := by decide +kernel
theorem Lu.write (L : Lu S tb st) {n : Nat} (gd : Gd S n) {ch : Tbl} (t : T9 ch) : Lu (S.write ch) (if nR ch > 0 ∧ (S.write ch).op.length ≠ S.op.length + nR ch then S.kv else tb) ((if nR ch > 0 ∧ (S.write ch).op.length ≠ S.op.length + nR ch then [] else st) ++ [(false, nR ch, (S.write ch).kv)]) := by
  by_cases c : ch = []
  · subst c
    have e : S.write [] = S := by unfold DS.write; rw [if_pos rfl]
    rw [e, nR_nil, if_neg (by omega), if_neg (by omega)]
    exact L.zero
  have pl : nR ch ≤ 1190 := cut_few t.tab
  have np := rows_pos t c
  have hm := gd.most
  have hc := gd.cnt
  obtain ⟨S1, h1⟩ : ∃ S1, S1 = if S.cnt > 0 ∧ S.cnt + (pcsT ch).length > S.most then S.check true else S := ⟨_, rfl⟩
  obtain ⟨S2, h2⟩ : ∃ S2 : DS, S2 = { S1 with op := S1.op ++ rows S1.side S1.gen S1.pcs S1.cnt (pcsT ch) (pcsT ch).length, cnt := S1.cnt + (pcsT ch).length, kv := applyK S1.kv ch } := ⟨_, rfl⟩
  have ew : S.write ch = S2 := by
    unfold DS.write
    rw [if_neg c, h2, h1]
    rfl
  have ol : S2.op.length = S1.op.length + nR ch := by
    rw [h2]
    show (S1.op ++ rows S1.side S1.gen S1.pcs S1.cnt (pcsT ch) (pcsT ch).length).length = _
    rw [List.length_append, rows_len]
    rfl
  have k2 : S2.kv = applyK S1.kv ch := by rw [h2]
  have pe : (nR ch : Int) = ((pcsT ch).length : Int) := rfl
  rw [ew, k2]
  by_cases q : S.cnt > 0 ∧ S.cnt + (pcsT ch).length > S.most
  · rw [if_pos q] at h1
    obtain ⟨a1, a2, a3, a4, _⟩ := check_same S
    have o1 : S1.op = [] := by rw [h1]; exact a2
    have c1 : S1.cnt = 0 := by rw [h1]; exact a4
    have kv1 : S1.kv = S.kv := by rw [h1]; exact a1
    have L1 : Lu S1 S.kv [] := by rw [h1]; exact L.hard
    have few : S1.cnt + (nR ch : Int) ≤ 1300 := by omega
    rw [o1] at ol
    have ol : S2.op.length = 0 + nR ch := ol
    by_cases z : S.op.length = 0
    · rw [if_neg (by omega), if_neg (by omega)]
      have i := L.idle (List.length_eq_zero_iff.mp z)
      rw [← kv1] at i
      exact (Lu.of_idle (S' := S1) (by rw [← kv1] at L1; exact L1) o1 i).rec t c few h2
    · rw [if_pos ⟨np, by omega⟩, if_pos ⟨np, by omega⟩]
      exact L1.rec t c few h2
  · rw [if_neg q] at h1
    subst h1
    have few : S1.cnt + (nR ch : Int) ≤ 1300 := by
      by_cases z : S1.cnt > 0
      · have : ¬ S1.cnt + (pcsT ch).length > S1.most := fun w => q ⟨z, w⟩
        omega
      · omega
    rw [if_neg (by omega), if_neg (by omega)]
    exact L.rec t c few h2
end
/-! #### a new disk's log -/
def f0 (ps : List Str) (n : Nat) : Nat → Cl := fun j => if 1 ≤ j ∧ j ≤ n then .piece 1 j (ps.getD (j - 1) "") else .gone
theorem rep_pcs0 (ps : List Str) : ∀ n, RepC (pcs0 ps n) (f0 ps n)
  | 0 => fun j => by
    unfold f0
    rw [if_neg (by omega)]
    rfl
  | n + 1 => by
    have ih := (rep_pcs0 ps n).put (n + 1) (c := .piece 1 (n + 1) (ps.getD n "")) (z := pieceT ((1 : Nat) : Int) ((n + 1 : Nat) : Int) (ps.getD n "")) rfl
    rw [show ((n + 1 : Nat) : Int) = (n : Int) + 1 by omega, show ((1 : Nat) : Int) = 1 from rfl, pcs0_put] at ih
    have e : f0 ps (n + 1) = fun j => if j = n + 1 then .piece 1 (n + 1) (ps.getD n "") else f0 ps n j := funext fun j => by
      unfold f0
      by_cases c : j = n + 1
      · subst c
        rw [if_pos (by omega), if_pos rfl, show n + 1 - 1 = n by omega]
      · rw [if_neg c]
        by_cases d : 1 ≤ j ∧ j ≤ n
        · rw [if_pos d, if_pos (by omega)]
        · rw [if_neg d, if_neg (by omega)]
    rw [e]
    exact ih
def fNew (ps : List Str) : Mem := fun s j => if s = 0 then (if j = 0 then .head 1 ps.length else f0 ps ps.length j) else .gone
theorem newS_lu {kv : Tbl} {m : Int} (t : T9 kv) : Lu (newS kv m) kv [] := by
  obtain ⟨ps, hps⟩ : ∃ ps, ps = pcsT kv := ⟨_, rfl⟩
  have e : newS kv m = ⟨kv, m0L ps, [], [], m, 0, 1, ps.length, 0, 0, false⟩ := by rw [hps]; rfl
  have r0 : RepC (m0L ps) (fNew ps 0) := fun j => by
    show ((valV ((Sum.inl 0, V.str (headT 1 ps.length)) :: pcs0 ps ps.length) (Sum.inl (j : Int))).getD .non) = (if (0 : Nat) = 0 then (if j = 0 then Cl.head 1 ps.length else f0 ps ps.length j) else .gone).v
    rw [if_pos rfl]
    by_cases c : j = 0
    · rw [if_pos c, c, valV_pos (show ((Sum.inl 0, V.str (headT 1 ps.length)) : Key × V).1 = (Sum.inl ((0 : Nat) : Int) : Key) from rfl)]
      rfl
    · rw [if_neg c, valV_neg (fun z => c (by have := Sum.inl.inj z; omega))]
      exact rep_pcs0 ps ps.length j
  have r1 : RepC [] (fNew ps 1) := fun j => rfl
  have fs : ∀ s j, (∃ h : s = 0, (j = 0 ∧ fNew ps s j = .head 1 ps.length) ∨ ∃ p, 1 ≤ j ∧ ps[j - 1]? = some p ∧ fNew ps s j = .piece 1 j p) ∨ fNew ps s j = .gone := fun s j => by
    unfold fNew f0
    by_cases c : s = 0
    · rw [if_pos c]
      by_cases d : j = 0
      · rw [if_pos d]
        exact .inl ⟨c, .inl ⟨d, rfl⟩⟩
      · rw [if_neg d]
        by_cases q : 1 ≤ j ∧ j ≤ ps.length
        · rw [if_pos q]
          refine .inl ⟨c, .inr ⟨ps.getD (j - 1) "", q.1, ?_, rfl⟩⟩
          rw [List.getD_eq_getElem?_getD, List.getElem?_eq_getElem (by omega)]
          rfl
        · rw [if_neg q]
          exact .inr rfl
    · rw [if_neg c]
      exact .inr rfl
  have nP1 : nP (fun _ => (kv, [])) 1 = ps.length := by rw [hps]; rfl
  have key : Lw (newS kv m) (fun _ => (kv, [])) 1 [] [] false (fNew ps) := by
    rw [e]
    refine ⟨Nat.le_refl _, ⟨fun _ => t, (fun _ ch hc => by cases hc), fun _ => Nat.zero_le _⟩, ⟨r0, r1⟩, fun s j => ?_, fun s j => ?_, fun s i j x p q => ?_, ?_, fun i p q => ?_, (fun i x q => by cases q), rfl, (fun q => by cases q), rfl, rfl, rfl, ?_, rfl, rfl⟩
    · rcases fs s j with ⟨rfl, ⟨rfl, z⟩ | ⟨p, j1, hp, z⟩⟩ | z
      · rw [z]; exact ⟨rfl, Nat.le_refl _, rfl, nP1.symm⟩
      · rw [z]; exact ⟨rfl, Nat.le_refl _, rfl, j1, by rw [← hps]; exact hp⟩
      · rw [z]; exact True.intro
    · rcases fs s j with ⟨rfl, ⟨rfl, z⟩ | ⟨p, j1, hp, z⟩⟩ | z
      · rw [z]; exact Nat.le_refl _
      · rw [z]; exact Nat.le_refl _
      · rw [z]; exact Nat.zero_le _
    · rcases fs s i with ⟨_, ⟨_, z⟩ | ⟨p, j1, hp, z⟩⟩ | z
      · rw [z] at q; cases q
      · rw [z] at q; cases q
      · rw [z] at q; cases q
    · show (if (0 : Nat) = 0 then (if (0 : Nat) = 0 then Cl.head 1 ps.length else _) else _) = _
      rw [if_pos rfl, if_pos rfl, nP1]
    · have q : (pcsT kv)[i]? = some p := q
      rw [← hps] at q
      have hi := (List.getElem?_eq_some_iff.mp q).1
      show (if (0 : Nat) = 0 then (if i + 1 = 0 then _ else f0 ps ps.length (i + 1)) else _) = _
      rw [if_pos rfl, if_neg (by omega)]
      unfold f0
      rw [if_pos (by omega), show i + 1 - 1 = i by omega, List.getD_eq_getElem?_getD, q]
      rfl
    · exact congrArg (fun n : Nat => (n : Int)) nP1.symm
  exact key.start
/-! #### a fall -/
theorem cut1_more (S : DS) (p : Op × Wd) : (S.cut1 p).pcs = S.pcs ∧ (S.cut1 p).cnt = S.cnt ∧ (S.cut1 p).m0.length + (S.cut1 p).m1.length ≤ S.m0.length + S.m1.length + 1 := by
  unfold DS.cut1
  obtain ⟨q, w⟩ := p
  cases w with
  | kept =>
    obtain ⟨a1, a2, a3, a4, a5, a6, a7, a8⟩ := keep_same S q
    exact ⟨a6, a7, keep_sz S q⟩
  | lost => exact ⟨rfl, rfl, by show S.m0.length + S.m1.length ≤ _; omega⟩
  | torn =>
    obtain ⟨a1, a2, a3, a4, a5, a6, a7, a8⟩ := keep_same S (q.1, q.2.1, "")
    exact ⟨a6, a7, keep_sz S _⟩
theorem cut_more : ∀ (l : List (Op × Wd)) (S : DS), (l.foldl DS.cut1 S).pcs = S.pcs ∧ (l.foldl DS.cut1 S).cnt = S.cnt ∧ (l.foldl DS.cut1 S).m0.length + (l.foldl DS.cut1 S).m1.length ≤ S.m0.length + S.m1.length + l.length
  | [], S => ⟨rfl, rfl, Nat.le_refl _⟩
  | p :: l, S => by
    obtain ⟨a1, a2, a3⟩ := cut_more l (S.cut1 p)
    obtain ⟨b1, b2, b3⟩ := cut1_more S p
    refine ⟨a1.trans b1, a2.trans b2, ?_⟩
    show (l.foldl DS.cut1 (S.cut1 p)).m0.length + (l.foldl DS.cut1 (S.cut1 p)).m1.length ≤ S.m0.length + S.m1.length + (l.length + 1)
    omega
theorem cut_kc : ∀ (l : List (Op × Wd)) (S : DS), KC S.m0 → KC S.m1 → (∀ p ∈ l, 0 ≤ p.1.2.1 ∧ p.1.2.1 ≤ 5000) → KC (l.foldl DS.cut1 S).m0 ∧ KC (l.foldl DS.cut1 S).m1
  | [], S, a, b, _ => ⟨a, b⟩
  | p :: l, S, a, b, h => by
    have hp := h p (List.mem_cons_self ..)
    have kk : ∀ z : Str, KC (S.keep (p.1.1, p.1.2.1, z)).m0 ∧ KC (S.keep (p.1.1, p.1.2.1, z)).m1 := fun z => by
      unfold DS.keep
      split
      · exact ⟨a.put hp.1 hp.2 _, b⟩
      · exact ⟨a, b.put hp.1 hp.2 _⟩
    have k : KC (S.cut1 p).m0 ∧ KC (S.cut1 p).m1 := by
      unfold DS.cut1
      obtain ⟨⟨q1, q2, q3⟩, w⟩ := p
      cases w with
      | kept => exact kk q3
      | lost => exact ⟨a, b⟩
      | torn => exact kk ""
    exact cut_kc l (S.cut1 p) k.1 k.2 fun x hx => h x (List.mem_cons_of_mem _ hx)
theorem KC.bnd {M : Tbl} (h : KC M) : bnd M ≤ 5001 := by
  rcases bnd_mem (M := M) with e | ⟨p, hp, e⟩
  · rw [e]
    exact Nat.zero_le _
  · obtain ⟨n, en, b, _⟩ := h p hp
    rw [e]
    unfold kN
    rw [en]
    show (n : Int).toNat + 1 ≤ 5001
    omega
theorem fold_le {b : Nat} : ∀ (l : List Nat), (∀ x ∈ l, x ≤ b) → l.foldr max 0 ≤ b
  | [], _ => Nat.zero_le _
  | y :: l, h => by
    show max y (l.foldr max 0) ≤ b
    have a := h y (List.mem_cons_self ..)
    have c := fold_le l fun x hx => h x (List.mem_cons_of_mem _ hx)
    omega
theorem Lu.fall {S : DS} {tb : Tbl} {st : List StT} (L : Lu S tb st) {n : Nat} (gd : Gd S n) (hn : n ≤ 100) (ws : List Wd) : T9 (dueG ws tb st).1 ∧ ∃ (c0 c1 : List Cl) (a g : Nat) (kv : Tbl), cells (S.fall ws).m0 = c0.map Cl.v ∧ cells (S.fall ws).m1 = c1.map Cl.v ∧ (∀ c ∈ c0, c.Ok) ∧ (∀ c ∈ c1, c.Ok) ∧ c0.length ≤ 6000 ∧ c1.length ≤ 6000 ∧ RdOk c0 ∧ RdOk c1 ∧
    rdB c0 c1 = some (a, g, kv) ∧ c0 ++ c1 ≠ [] ∧ DSok ((S.fall ws).rise a kv (maxGen (c0 ++ c1))) ∧ kv = srtK (dueG ws tb st).1 := by
  obtain ⟨h, g0, ch0, un0, nb, f, L, d⟩ := L
  rw [d]
  obtain ⟨F, hF⟩ : ∃ F, F = cutF f (opsN h g0 ch0 un0 nb) ws := ⟨_, rfl⟩
  have rep : RepS (S.fall ws) F := by rw [hF]; exact L.rep.fall L.op L.opok ws
  have ag : ∀ s i, Ag h s i (F s i) := by rw [hF]; exact L.agC ws
  have gn : ∀ s i, (F s i).gen ≤ gN g0 nb := by rw [hF]; exact L.gnC ws
  have gb : gN g0 nb ≤ 200 := by
    have a := gd.gen
    have b := L.gen
    omega
  obtain ⟨Ms, hM⟩ : ∃ Ms : Nat → Tbl, Ms = fun s => if s = 0 then (S.fall ws).m0 else (S.fall ws).m1 := ⟨_, rfl⟩
  have M0 : Ms 0 = (S.fall ws).m0 := by rw [hM]; rfl
  have M1 : Ms 1 = (S.fall ws).m1 := by rw [hM]; rfl
  have Rs : ∀ s, s < 2 → RepC (Ms s) (F s) := fun s hs => by
    match s, hs with
    | 0, _ => rw [M0]; exact rep.1
    | 1, _ => rw [M1]; exact rep.2
  have mA : ∀ s, memA h s (clsF (Ms s) (F s)) := fun s i c e => by
    rw [← cls_get e]
    exact ag s i
  have okc : ∀ s, ∀ c ∈ clsF (Ms s) (F s), c.Ok := fun s c hc => by
    obtain ⟨i, _, rfl⟩ := List.mem_map.mp hc
    exact (ag s i).ok L.ok (by have := gn s i; omega)
  have lens : ∀ s, (clsF (Ms s) (F s)).length = bnd (Ms s) := fun s => by
    unfold clsF
    rw [List.length_map, List.length_range]
  have ar : ∀ p ∈ S.op.zip ws, 0 ≤ p.1.2.1 ∧ p.1.2.1 ≤ 5000 := fun p hp => by
    have := gd.ar p.1 (List.of_mem_zip hp).1
    exact this.2
  have kc := cut_kc (S.op.zip ws) S gd.c0 gd.c1 ar
  have b0 : bnd (Ms 0) ≤ 5001 := by rw [M0]; exact kc.1.bnd
  have b1 : bnd (Ms 1) ≤ 5001 := by rw [M1]; exact kc.2.bnd
  have s0 := sdN_lt g0
  have s1 := sdN_lt (g0 + 1)
  have sn := sdN_ne g0
  have tO : T9 (tabF (tabF (h g0).1 ch0) (un0.take (okN ws 0 un0))) := tabF_t9 _ (tabF_t9 _ (L.ok.t g0) fun ch hc => (L.ok.c g0 ch (by rw [L.h0]; exact List.mem_append_left _ hc)).1) fun ch hc => (L.ok.c g0 ch (by rw [L.h0]; exact List.mem_append_right _ (List.mem_of_mem_take hc))).1
  have tN : T9 (tabF (h (g0 + 1)).1 ((h (g0 + 1)).2.take (okN ws ((rowsR un0).length + (nP h (g0 + 1) + 1)) (h (g0 + 1)).2))) := tabF_t9 _ (L.ok.t _) fun ch hc => (L.ok.c _ ch (List.mem_of_mem_take hc)).1
  obtain ⟨kO, eO, t1, v1⟩ := L.rdOld ws (M := Ms (sdN g0)) (by rw [← hF]; exact Rs _ s0)
  rw [← hF] at eO
  have r0 := (mA 0).rd L.ok
  have r1 := (mA 1).rd L.ok
  have fin : T9 (stD ws h g0 ch0 un0 nb).1 ∧ ∃ (a g : Nat), a < 2 ∧ rdB (clsF (Ms 0) (F 0)) (clsF (Ms 1) (F 1)) = some (a, g, srtK (stD ws h g0 ch0 un0 nb).1) := by
    by_cases k : nb = true ∧ keptB ws (rowsR un0).length (nP h (g0 + 1) + 1) = true
    · obtain ⟨kN, eN, t2, v2⟩ := L.rdNew k.1 ws (M := Ms (sdN (g0 + 1))) (by rw [← hF]; exact Rs _ s1) k.2
      rw [← hF] at eN
      have e : (stD ws h g0 ch0 un0 nb).1 = tabF (h (g0 + 1)).1 ((h (g0 + 1)).2.take (okN ws ((rowsR un0).length + (nP h (g0 + 1) + 1)) (h (g0 + 1)).2)) := by
        unfold stD
        rw [if_pos k.1, if_pos k.2]
      rw [e, ← srtK_congr t2 tN v2]
      refine ⟨tN, _, _, s1, rdB_pick (cs := fun s => clsF (Ms s) (F s)) s1 eN fun y ey => ?_⟩
      rw [show 1 - sdN (g0 + 1) = sdN g0 by omega] at ey
      have ey : rdA (clsF (Ms (sdN g0)) (F (sdN g0))) = some y := ey
      rw [eO] at ey
      cases ey
      exact Nat.lt_succ_self _
    · have oth := L.rdOther ws (M := Ms (sdN (g0 + 1))) (by rw [← hF]; exact Rs _ s1) k
      rw [← hF] at oth
      have e : (stD ws h g0 ch0 un0 nb).1 = tabF (tabF (h g0).1 ch0) (un0.take (okN ws 0 un0)) := by
        unfold stD
        by_cases c : nb = true
        · rw [if_pos c, if_neg fun q => k ⟨c, q⟩]
        · rw [if_neg c]
      rw [e, ← srtK_congr t1 tO v1]
      refine ⟨tO, _, _, s0, rdB_pick (cs := fun s => clsF (Ms s) (F s)) s0 eO fun y ey => ?_⟩
      rw [show 1 - sdN g0 = sdN (g0 + 1) by omega] at ey
      exact oth y ey
  obtain ⟨tT, a, g, ha, eB⟩ := fin
  refine ⟨tT, clsF (Ms 0) (F 0), clsF (Ms 1) (F 1), a, g, _, by rw [← M0]; exact (Rs 0 (by decide)).cells, by rw [← M1]; exact (Rs 1 (by decide)).cells, okc 0, okc 1, by rw [lens]; omega, by rw [lens]; omega, r0, r1, eB, fun z => ?_, ?_, rfl⟩
  · have z0 := List.append_eq_nil_iff.mp z
    rw [z0.1, z0.2] at eB
    cases eB
  · obtain ⟨c1, c2, c3, c4, c5⟩ := cut_same (S.op.zip ws) S
    obtain ⟨m1, m2, m3⟩ := cut_more (S.op.zip ws) S
    have zl : (S.op.zip ws).length ≤ S.op.length := by rw [List.length_zip]; exact Nat.min_le_left _ _
    have sz := gd.sz
    have gp := gd.pcs
    have gc := gd.cnt
    refine ⟨rfl, tT.srt.tab, ?_, (fun q hq => by cases hq), ?_, ?_, ?_, ?_⟩
    · show ((S.op.zip ws).foldl DS.cut1 S).m0.length + ((S.op.zip ws).foldl DS.cut1 S).m1.length + 0 ≤ 500000
      omega
    · show ((a : Int) = 0 ∨ (a : Int) = 1)
      omega
    · have mg : maxGen (clsF (Ms 0) (F 0) ++ clsF (Ms 1) (F 1)) ≤ 200 := by
        refine fold_le _ fun x hx => ?_
        obtain ⟨c, hc, rfl⟩ := List.mem_map.mp hx
        rcases List.mem_append.mp hc with hc | hc
        · obtain ⟨i, _, rfl⟩ := List.mem_map.mp hc
          exact Nat.le_trans (gn 0 i) gb
        · obtain ⟨i, _, rfl⟩ := List.mem_map.mp hc
          exact Nat.le_trans (gn 1 i) gb
      show 0 ≤ ((maxGen (clsF (Ms 0) (F 0) ++ clsF (Ms 1) (F 1)) : Nat) : Int) ∧ ((maxGen (clsF (Ms 0) (F 0) ++ clsF (Ms 1) (F 1)) : Nat) : Int) ≤ 500000
      omega
    · show 0 ≤ ((S.op.zip ws).foldl DS.cut1 S).pcs ∧ ((S.op.zip ws).foldl DS.cut1 S).pcs ≤ 100000
      rw [m1]
      omega
    · show 0 ≤ ((S.op.zip ws).foldl DS.cut1 S).cnt ∧ ((S.op.zip ws).foldl DS.cut1 S).cnt ≤ 100000
      rw [m2]
      omega
/-! #### what the deeds keep, and the steps on the heap -/
def LogOk (S : DS) : Prop := ∃ tb st, Lu S tb st
theorem LogOk.check {S : DS} (h : LogOk S) : LogOk (S.check true) := by
  obtain ⟨tb, st, L⟩ := h
  exact ⟨_, _, L.hard⟩
theorem LogOk.write {S : DS} (h : LogOk S) {n : Nat} (gd : Gd S n) {ch : Tbl} (t : T9 ch) : LogOk (S.write ch) := by
  obtain ⟨tb, st, L⟩ := h
  exact ⟨_, _, L.write gd t⟩
theorem LogOk.sync {S : DS} (h : LogOk S) : Lu S.sync S.kv [] := by
  obtain ⟨tb, st, L⟩ := h
  exact L.sync
theorem keptB_rep {M a n : Nat} (h : a + n ≤ M) : keptB (List.replicate M Wd.kept) a n = true := keptB_all.mpr fun k hk => by
  rw [List.getElem?_replicate, if_pos (by omega)]
  rfl
theorem fold_kept (M : Nat) : ∀ (st : List StT) (x : DuS), x.2.2.2 = false → x.2.2.1 + (st.map (·.2.1)).sum ≤ M → (st.foldl (stepD (List.replicate M Wd.kept)) x).2.2 = (x.2.2.1 + (st.map (·.2.1)).sum, false)
  | [], (a, b, c, d), h, _ => by
    have h : d = false := h
    subst h
    rfl
  | s :: r, (a, b, c, d), h, l => by
    have h : d = false := h
    subst h
    have l : c + (s.2.1 + (r.map (·.2.1)).sum) ≤ M := l
    have k : keptB (List.replicate M Wd.kept) c s.2.1 = true := keptB_rep (by omega)
    obtain ⟨a', b', e⟩ : ∃ a' b', stepD (List.replicate M Wd.kept) (a, b, c, false) s = (a', b', c + s.2.1, false) := by
      unfold stepD
      rw [if_neg Bool.false_ne_true]
      show ∃ a' b', (if s.1 = true then (if keptB (List.replicate M Wd.kept) c s.2.1 = true then (s.2.2, true, c + s.2.1, false) else _) else if keptB (List.replicate M Wd.kept) c s.2.1 = true then (if b = true then (s.2.2, true, c + s.2.1, false) else (a, false, c + s.2.1, false)) else _) = (a', b', c + s.2.1, false)
      rw [if_pos k, if_pos k]
      split
      · exact ⟨_, _, rfl⟩
      · split
        · exact ⟨_, _, rfl⟩
        · exact ⟨_, _, rfl⟩
    show (r.foldl (stepD _) (stepD _ (a, b, c, false) s)).2.2 = _
    rw [e, fold_kept M r (a', b', c + s.2.1, false) rfl (by show c + s.2.1 + _ ≤ M; omega)]
    show (c + s.2.1 + (r.map (·.2.1)).sum, false) = (c + (s.2.1 + (r.map (·.2.1)).sum), false)
    rw [Nat.add_assoc]
/-- the steps tell the number of the unsynced writes -/
theorem Lu.sum {S : DS} {tb : Tbl} {st : List StT} (L : Lu S tb st) : (st.map (·.2.1)).sum = S.op.length := by
  obtain ⟨h, g0, ch0, un0, nb, f, L, d⟩ := L
  have on := opsN_len (h := h) (g0 := g0) (ch0 := ch0) (un0 := un0) (nb := nb)
  have ol : S.op.length = (opsN h g0 ch0 un0 nb).length := by rw [L.op, List.length_map]
  obtain ⟨M, hM⟩ : ∃ M, M = (st.map (·.2.1)).sum + (opsN h g0 ch0 un0 nb).length := ⟨_, rfl⟩
  have a := fold_kept M st (tb, true, 0, false) rfl (by show 0 + _ ≤ M; omega)
  have b := d (List.replicate M .kept)
  unfold dueG at b
  rw [b] at a
  have c : (stD (List.replicate M .kept) h g0 ch0 un0 nb).2.2.1 = S.op.length := by
    rw [ol, on]
    unfold stD
    cases nb with
    | true =>
      rw [if_pos rfl] at on
      rw [if_pos rfl, if_pos rfl, if_pos (keptB_rep (by omega))]
      exact Nat.add_assoc _ _ _
    | false =>
      rw [if_neg Bool.false_ne_true, if_neg Bool.false_ne_true]
      rfl
  rw [← c, a]
  show _ = 0 + _
  rw [Nat.zero_add]
theorem NT.of {G : Addr → Prop} {H : Hp} (h : NT G H) {t : Addr} {xs : List V} (e : H t = some (.tup xs)) : ¬ G t := fun z => h t xs z e
/-- a table as pairs -/
def PAt (H : Hp) (A : Addr) (kv : Tbl) : Prop := ∃ ts : List Addr, H A = some (.lst (ts.map V.ref)) ∧ Paired (TupAt H) ts (srtK kv)
theorem PAt.kp {G : Addr → Prop} {H H' : Hp} {A : Addr} {kv : Tbl} (h : PAt H A kv) (k : KpF G H H') (n : ¬ G A) (nt : NT G H) : PAt H' A kv := by
  obtain ⟨ts, e, p⟩ := h
  exact ⟨ts, k _ _ n e, p.mono fun t q z => k _ _ (nt.of z) z⟩
def SAt (Z : Addr → Prop) (H : Hp) (t : Addr) (s : StT) : Prop := ∃ sh, H t = some (.tup (stepV ⟨s.1, s.2.1, sh⟩)) ∧ Z sh ∧ PAt H sh s.2.2
/-- the base and the steps, as the law holds them -/
structure Un (Z : Addr → Prop) (H : Hp) (A L : Addr) (tb : Tbl) (st : List StT) : Prop where
  za : Z A
  pa : PAt H A tb
  l : ∃ ts : List Addr, H L = some (.lst (ts.map V.ref)) ∧ Paired (SAt Z H) ts st
  nl : ¬ Z L
  al : ∀ b, Z b → ∃ u, H b = some u
theorem Un.kp {Z G : Addr → Prop} {H H' : Hp} {A L : Addr} {tb : Tbl} {st : List StT} (h : Un Z H A L tb st) (k : KpF G H H') (nz : ∀ b, Z b → ¬ G b) (nl : ¬ G L) (nt : NT G H) : Un Z H' A L tb st := by
  obtain ⟨ts, e, p⟩ := h.l
  refine ⟨h.za, h.pa.kp k (nz _ h.za) nt, ⟨ts, k _ _ nl e, p.mono fun t s ⟨sh, e1, z, e2⟩ => ⟨sh, k _ _ (nt.of e1) e1, z, e2.kp k (nz _ z) nt⟩⟩, h.nl, fun b hb => ?_⟩
  obtain ⟨u, e⟩ := h.al b hb
  exact ⟨u, k _ _ (nz b hb) e⟩
theorem Un.same {Z : Addr → Prop} {H H' : Hp} {A L : Addr} {tb : Tbl} {st : List StT} (h : Un Z H A L tb st) (s : Same H H') : Un Z H' A L tb st := h.kp (G := fun _ => False) (KpF.same s) (fun _ _ z => z) (fun z => z) fun _ _ z => z.elim
/-- one list more is kept -/
theorem Un.more {Z : Addr → Prop} {H : Hp} {A L B : Addr} {tb : Tbl} {st : List StT} (h : Un Z H A L tb st) (n : B ≠ L) {u : HO} (e : H B = some u) : Un (fun b => Z b ∨ b = B) H A L tb st := by
  obtain ⟨ts, e0, p⟩ := h.l
  refine ⟨.inl h.za, h.pa, ⟨ts, e0, p.mono fun t s ⟨sh, e1, z, e2⟩ => ⟨sh, e1, .inl z, e2⟩⟩, fun z => z.elim h.nl fun q => n q.symm, fun b hb => ?_⟩
  rcases hb with hb | rfl
  · exact h.al b hb
  · exact ⟨u, e⟩
theorem due_stop (ws : List Wd) : ∀ (st : List StT) (x : DuS), x.2.2.2 = true → st.foldl (stepD ws) x = x
  | [], x, _ => rfl
  | s :: r, x, h => by
    show r.foldl (stepD ws) (stepD ws x s) = x
    have e : stepD ws x s = x := by
      unfold stepD
      rw [if_pos h]
    rw [e, due_stop ws r x h]
/-- what is due, as the law's own address and as a table -/
theorem due_at {H : Hp} (ws : List Wd) : ∀ {ss : List Stp} {st : List StT}, Paired (fun (s : Stp) (x : StT) => s.chk = x.1 ∧ s.many = x.2.1 ∧ PAt H s.sh x.2.2) ss st → ∀ (b : Addr) (wh : Bool) (a : Nat) (tb : Tbl), PAt H b tb → PAt H (due ws b wh a ss) (st.foldl (stepD ws) (tb, wh, a, false)).1
  | [], [], .nil, b, wh, a, tb, h => h
  | s :: ss, x :: st, .cons ⟨e1, e2, e3⟩ p, b, wh, a, tb, h => by
    have ih := fun b wh a tb h => due_at ws p b wh a tb h
    show PAt H (if s.chk = true then (if keptB ws a s.many = true then due ws s.sh true (a + s.many) ss else b) else if keptB ws a s.many = true then (if wh = true then due ws s.sh true (a + s.many) ss else due ws b false (a + s.many) ss) else due ws b false (a + s.many) ss) (st.foldl (stepD ws) (stepD ws (tb, wh, a, false) x)).1
    unfold stepD
    rw [if_neg Bool.false_ne_true, e1, e2]
    show PAt H _ (st.foldl (stepD ws) (if x.1 = true then (if keptB ws a x.2.1 = true then (x.2.2, true, a + x.2.1, false) else (tb, wh, a, true)) else if keptB ws a x.2.1 = true then (if wh = true then (x.2.2, true, a + x.2.1, false) else (tb, false, a + x.2.1, false)) else (tb, false, a + x.2.1, false))).1
    by_cases c : x.1 = true
    · rw [if_pos c, if_pos c]
      by_cases k : keptB ws a x.2.1 = true
      · rw [if_pos k, if_pos k]
        exact ih _ _ _ _ e3
      · rw [if_neg k, if_neg k, due_stop ws st _ rfl]
        exact h
    · rw [if_neg c, if_neg c]
      by_cases k : keptB ws a x.2.1 = true
      · rw [if_pos k, if_pos k]
        by_cases w : wh = true
        · rw [if_pos w, if_pos w]
          exact ih _ _ _ _ e3
        · rw [if_neg w, if_neg w]
          exact ih _ _ _ _ h
      · rw [if_neg k, if_neg k]
        exact ih _ _ _ _ h
theorem steps_at {Z : Addr → Prop} {H : Hp} : ∀ {ts : List Addr} {st : List StT}, Paired (SAt Z H) ts st → ∃ ss : List Stp, Paired (StpAt H) ts ss ∧ Paired (fun (s : Stp) (x : StT) => s.chk = x.1 ∧ s.many = x.2.1 ∧ PAt H s.sh x.2.2) ss st
  | [], [], .nil => ⟨[], .nil, .nil⟩
  | t :: ts, x :: st, .cons ⟨sh, e1, _, e2⟩ p => by
    obtain ⟨ss, p1, p2⟩ := steps_at p
    exact ⟨⟨x.1, x.2.1, sh⟩ :: ss, .cons e1 p1, .cons ⟨rfl, rfl, e2⟩ p2⟩

end k15
namespace k15
open PySem L2 LC RM SM TL
abbrev spInvalidNumber_init (C : Addr) : Sp := LX.spErr C 1 (ivF "InvalidNumber")
theorem ok_InvalidNumber_init {P : Program} {w : World} {K : PySem.W.Frag} {mg : Str → Option Value} {base : Heap} {f : Addr} {fd : FuncData} (F0 : Fun K "__init__" "InvalidNumber.__init__" sInvalidNumber_init f fd) (T : Txt K mg) {C : Addr} (ox : OexC K C) (n1 : PySem.W.findIn K (.ref C) "value" = some none) (n2 : PySem.W.findIn K (.ref C) "code" = some none) :
    FnOk P w K mg base CX0 1 f fd PInvalidNumber_init (spInvalidNumber_init C) := by
  refine F0.ok scInvalidNumber_init (fun vs H Q E h => ?_) (fun cdv A outer s H vs Q E hr h => ?_)
  · obtain ⟨x, ws, rfl, hw, _⟩ := h
    show ws.length + 1 = 2
    rw [hw]
  · obtain ⟨x, ws, rfl, hw, ha, k⟩ := h
    obtain ⟨u, rfl⟩ : ∃ u, ws = [u] := by
      match ws, hw with
      | [u], _ => exact ⟨u, rfl⟩
    refine ⟨_, (pss_cons (ps_ost (pv 0) (pv 1))
        (pss_one (ps_ost (pv 0) pe_str))), ?_⟩
    refine ⟨_, rfl, _, rfl, x, C, rfl, ox, n1, .inl ⟨ha, fun d hd da => ?_⟩⟩
    refine ⟨_, rfl, x, C, rfl, ox, n2, .inr ⟨d, _, upd_same, by rw [upd_ne da]; exact upd_same, (by show 1 ≤ 900; decide), ?_⟩⟩
    refine k d _ hd (by rw [upd_ne (Ne.symm da)]; exact upd_same) upd_same (fun b o hb e => ?_)
    have nd := ne_of_none e hd
    rw [upd_ne nd, upd_ne hb, upd_ne nd]
    exact e
end k15
namespace k15
open PySem L2 LC RM SM TL
def isWh : V → Bool
  | .int _ => true
  | _ => false
def spis_whole : Sp := fun vs H Q _ => ∃ (F : Addr → Prop) (n : Nat) (v : V), vs = [v] ∧ Ov F H n v ∧ Q (.bl (isWh v)) H
theorem ok_is_whole {P : Program} {w : World} {K : PySem.W.Frag} {mg : Str → Option Value} {base : Heap} {f : Addr} {fd : FuncData} (D : Def K mg "is_whole" sis_whole Pis_whole f fd) (T : Txt K mg) :
    FnOk P w K mg base CX0 1 f fd Pis_whole (spis_whole) := by
  refine D.F.ok scis_whole (fun vs H Q E h => ?_) (fun cdv A outer s H vs Q E hr h => ?_)
  · obtain ⟨F, n, v, rfl, o, k⟩ := h
    rfl
  · obtain ⟨F, n, v, rfl, o, k⟩ := h
    refine ⟨_, (pss_one (ps_ret (pe_and (pe_callB call_isi (by rfl) T.n_isinstance (by decide +kernel) (pa_cons (pv 0) (pa_cons (pe_ty "int" (by rfl) T.n_int (by decide +kernel)) pa_nil))) (pe_one (pe_not (pe_callB call_isi (by rfl) T.n_isinstance (by decide +kernel) (pa_cons (pv 0) (pa_cons (pe_ty "bool" (by rfl) T.n_bool (by decide +kernel)) pa_nil)))))))), ?_⟩
    obtain ⟨t, ty, ki, kb, _, _⟩ := o.ty (K := K)
    refine ⟨_, rfl, _, _, _, _, _, rfl, .ty _, ty, kit_ty ki, _, rfl, ?_⟩
    cases v with
    | int i => exact iteT ⟨_, rfl, _, _, _, _, _, rfl, .ty _, ty, kit_ty kb, _, rfl, k⟩
    | bl b => exact iteT ⟨_, rfl, _, _, _, _, _, rfl, .ty _, ty, kit_ty kb, _, rfl, k⟩
    | _ => exact iteF k
end k15
namespace k15
open PySem L2 LC RM SM TL
def spis_number : Sp := fun vs H Q _ => ∃ (F : Addr → Prop) (n : Nat) (v : V) (lo hi : Int), vs = [v, .int lo, .int hi] ∧ Ov F H n v ∧ Q (.bl (isNum v lo hi)) H
theorem num_in {v lo hi : Int} {H : Hp} {Q : VK} {E : XK} (h1 : lo ≤ v) (h2 : v ≤ hi) (q : Q (.bl true) H) : spis_number [.int v, .int lo, .int hi] H Q E := by
  refine ⟨fun _ => False, 0, _, _, _, rfl, True.intro, ?_⟩
  show Q (.bl (decide (lo ≤ v) && decide (v ≤ hi))) H
  rw [decide_eq_true h1, decide_eq_true h2]
  exact q
theorem ok_is_number {P : Program} {w : World} {K : PySem.W.Frag} {mg : Str → Option Value} {base : Heap} {f : Addr} {fd : FuncData} (D : Def K mg "is_number" sis_number Pis_number f fd) (T : Txt K mg) {fis_whole : Addr} {fdis_whole : FuncData} (Dis_whole : Def K mg "is_whole" sis_whole Pis_whole fis_whole fdis_whole) (Gis_whole : FnOk P w K mg base CX0 1 fis_whole fdis_whole Pis_whole (spis_whole)) :
    FnOk P w K mg base CX0 2 f fd Pis_number (spis_number) := by
  refine D.F.ok scis_number (fun vs H Q E h => ?_) (fun cdv A outer s H vs Q E hr h => ?_)
  · obtain ⟨F, n, v, lo, hi, rfl, o, k⟩ := h
    rfl
  · obtain ⟨F, n, v, lo, hi, rfl, o, k⟩ := h
    have hris_whole : Room 1 _ := hr.mono (by decide)
    refine ⟨_, (pss_one (ps_ret (pe_and (pe_call Gis_whole hris_whole rfl Dis_whole.g Dis_whole.F.kp Dis_whole.b .nil pass0 (pa_cons (pv 0) pa_nil)) (pe_one (pe_chain op_le op_le (pv 1) (pv 0) (pv 2)))))), ?_⟩
    refine ⟨_, rfl, F, n, v, rfl, o, _, rfl, ?_⟩
    cases v with
    | int i =>
      refine iteT ⟨_, rfl, _, rfl, _, _, rfl, rfl, _, rfl, ?_⟩
      have e : isNum (.int i) lo hi = (decide (lo ≤ i) && decide (i ≤ hi)) := rfl
      refine ite_d (fun h1 => ?_) (fun h1 => ?_)
      · refine ⟨_, rfl, _, _, rfl, rfl, ?_⟩
        rw [e, decide_eq_true h1, Bool.true_and] at k
        exact k
      · rw [e, decide_eq_false h1, Bool.false_and] at k
        exact k
    | bl b => exact iteF k
    | _ => exact iteF k
end k15
namespace k15
open PySem L2 LC RM SM TL
def spchanges_text : Sp := fun vs H Q _ => ∃ (D : Addr) (kv : List (Key × V)), vs = [.ref D] ∧ H D = some (.dK kv) ∧ Tab kv ∧ ∀ H', Same H H' → Q (.str (textOf kv)) H'
theorem ok_changes_text {P : Program} {w : World} {K : PySem.W.Frag} {mg : Str → Option Value} {base : Heap} {f : Addr} {fd : FuncData} (D : Def K mg "changes_text" schanges_text Pchanges_text f fd) (T : Txt K mg) :
    FnOk P w K mg base CX0 1 f fd Pchanges_text (spchanges_text) := by
  refine D.F.ok scchanges_text (fun vs H Q E h => ?_) (fun cdv A outer s H vs Q E hr h => ?_)
  · obtain ⟨D, kv, rfl, hD, tb, k⟩ := h
    rfl
  · obtain ⟨D, kv, rfl, hD, tb, k⟩ := h
    refine ⟨_, (pss_cons (ps_setLc (i := 1) (own := [("key", 2)]) (g := gName 2) (tt := tYes) rfl scchanges_text.nd rfl rfl (sw_true rfl rfl rfl (by decide +kernel)) (pi_list (pe_callB (call_sortedD rfl) (by rfl) T.n_sorted (by decide +kernel) (pa_cons (pv 0) pa_nil))) (blkOk_by (own := [("key", 2)]) (N := Nmchanges_text) (sc := defScope schanges_text) (by decide +kernel)) (fun _ _ _ _ _ => pg_name (i := 2) scchanges_text.nd rfl (Or.inl rfl)) (fun _ _ _ _ _ => pts_nil) (fun _ _ _ _ _ => (pe_ifExp (pt_cmpR op_isN (pe_dget (hu_of hr) (pv 0) (pv 2) (fun _ _ => rfl)) pe_non (nomark _)) (pe_joined (.cons (pe_fmt (pv 2)) (.cons pe_str .nil))) (pe_joined (.cons (pe_fmt (pv 2)) (.cons pe_str (.cons (pe_fmt (pe_dget (hu_of hr) (pv 0) (pv 2) (fun _ _ => rfl))) (.cons pe_str .nil))))))))
        (pss_one (ps_ret (pe_join pe_str (pv 1))))), ?_⟩
    have fw := tb.few
    have kl := keysOf_len tb
    refine ⟨_, rfl, D, kv, keysOf kv, rfl, .inl hD, tb.keys, by omega, fun ys p hp hs hn => ?_⟩
    obtain rfl : ys = srt (keysOf kv) := srt_of hp hs
    have s1 := same_new (o := .lst ((srt (keysOf kv)).map V.str)) hn
    have e1 : upd H p (.lst ((srt (keysOf kv)).map V.str)) p = some (.lst ((srt (keysOf kv)).map V.str)) := upd_same
    have sl : (srt (keysOf kv)).length = kv.length := by rw [(srt_perm _).length_eq, kl]
    generalize upd H p (.lst ((srt (keysOf kv)).map V.str)) = H1 at s1 e1 ⊢
    have hD1 := s1 _ _ hD
    refine ⟨p, rfl, ⟨_, SqL.of e1⟩, fun C hC => lc_it (walk_list (K := K) (a := p) (xs := (srt (keysOf kv)).map V.str)) (fun i H' => Same H1 H' ∧ H' C = some (.lst (((partsOf kv).take i).map V.str))) ⟨same_new hC, upd_same⟩ (fun i H' _ ⟨s, _⟩ => s.seq (SqL.of e1)) ?_ ?_⟩
    · rintro i x H2 H2' hi ⟨s2, c2⟩ ⟨rfl, hx⟩
      rw [List.length_map] at hi
      rw [List.getElem?_map, List.getElem?_eq_getElem hi] at hx
      cases hx
      have zm : (srt (keysOf kv))[i] ∈ keysOf kv := (srt_perm _).mem_iff.mp (List.getElem_mem hi)
      have zl := tb.ks _ zm
      obtain ⟨v, hv, vv⟩ := tb.at_ zm
      have hp : (partsOf kv)[i]? = some (pieceOf (srt (keysOf kv))[i] v) := by
        unfold partsOf
        rw [List.getElem?_map, List.getElem?_eq_getElem hi, Option.map_some, hv]
        rfl
      have fin : ∀ q, pieceOf (srt (keysOf kv))[i] v = q → ∃ acc, H2' C = some (.lst acc) ∧ acc.length < sizeLine ∧ (Same H1 (upd H2' C (.lst (acc ++ [.str q]))) ∧ upd H2' C (.lst (acc ++ [.str q])) C = some (.lst (((partsOf kv).take (i + 1)).map V.str))) := fun q hq => by
        refine ⟨_, c2, ?_, fun b u e => ?_, ?_⟩
        · rw [List.length_map, List.length_take]
          exact Nat.lt_of_le_of_lt (show _ ≤ 64 by omega) (by decide)
        · rw [upd_ne (ne_of_none e hC)]
          exact s2 _ _ e
        · rw [upd_same, List.take_add_one, hp, List.map_append, hq]
          rfl
      generalize (srt (keysOf kv))[i] = z at zl hv hp fin ⊢
      have e0 : (Str.empty : Str).length = 0 := rfl
      have ea : ("=" : Str).length = 1 := by decide +kernel
      have eb : (";" : Str).length = 1 := by decide +kernel
      have ec : ("!;" : Str).length = 2 := by decide +kernel
      have sm : ∀ n : Nat, n ≤ 2000 → n ≤ sizeLine := fun n h => Nat.le_trans h (by decide)
      have hD2 := s2 _ _ hD1
      refine ⟨rfl, _, rfl, _, rfl, D, v, rfl, .inl ⟨kv, .inr z, .inl hD2, rfl, hv.symm⟩, rfl, _, rfl, ?_⟩
      rcases vv with rfl | ⟨w, rfl, hw⟩
      · refine ite_d (fun _ => ?_) (fun h => absurd rfl h)
        refine ⟨_, rfl, .inl ⟨z, rfl, sm _ (by omega), z, rfl, sm _ (by rw [len_app, e0]; omega), _, rfl, sm _ (by rw [len_app, len_app, e0, ec]; omega), ?_⟩⟩
        exact fin _ rfl
      · refine ite_d (fun h => by cases h) (fun _ => ?_)
        refine ⟨_, rfl, .inl ⟨z, rfl, sm _ (by omega), z, rfl, sm _ (by rw [len_app, e0]; omega), _, rfl, sm _ (by rw [len_app, len_app, e0, ea]; omega), ?_⟩⟩
        refine ⟨_, rfl, _, rfl, D, _, rfl, .inl ⟨kv, .inr z, .inl hD2, rfl, hv.symm⟩, .inl ⟨w, rfl, sm _ (by omega), w, rfl, sm _ (by rw [len_app, len_app, len_app, e0, ea]; omega), _, rfl, sm _ (by rw [len_app, len_app, len_app, len_app, e0, ea, eb]; omega), ?_⟩⟩
        exact fin _ rfl
    · rintro H2 ⟨s2, c2⟩
      rw [List.length_map, List.take_of_length_le (by unfold partsOf; rw [List.length_map]; exact Nat.le_refl _)] at c2
      refine ⟨⟨"", rfl⟩, _, rfl, "", C, partsOf kv, rfl, rfl, .inl (SqL.of c2), ?_, k H2 (s1.trans s2)⟩
      have bd : ∀ y ∈ (partsOf kv).map (·.length), y ≤ 1102 := fun y hy => by
        obtain ⟨q, hq, rfl⟩ := List.mem_map.mp hy
        unfold partsOf at hq
        obtain ⟨z, hz, rfl⟩ := List.mem_map.mp hq
        have zm := (srt_perm _).mem_iff.mp hz
        obtain ⟨v, hv, vv⟩ := tb.at_ zm
        rw [hv]
        exact piece_len (tb.ks z zm) vv
      have sb := sum_bd bd
      have pl : (partsOf kv).length = kv.length := by unfold partsOf; rw [List.length_map, sl]
      rw [List.length_map] at sb
      have : ("" : Str).length = 0 := rfl
      rw [this]
      omega
end k15
namespace k15
open PySem L2 LC RM SM TL
def spapply_changes : Sp := fun vs H Q _ => ∃ (T D : Addr) (kv ch : List (Key × V)), vs = [.ref T, .ref D] ∧ H T = some (.dK kv) ∧ H D = some (.dK ch) ∧ T ≠ D ∧ kv.length ≤ 1000 ∧ ch.length ≤ 1000 ∧ ∀ H', KpF (· = T) H H' → H' T = some (.dK (applyK kv ch)) → Q .non H'
theorem ok_apply_changes {P : Program} {w : World} {K : PySem.W.Frag} {mg : Str → Option Value} {base : Heap} {f : Addr} {fd : FuncData} (D : Def K mg "apply_changes" sapply_changes Papply_changes f fd) (T : Txt K mg) :
    FnOk P w K mg base CX0 1 f fd Papply_changes (spapply_changes) := by
  refine D.F.ok scapply_changes (fun vs H Q E h => ?_) (fun cdv A outer s H vs Q E hr h => ?_)
  · obtain ⟨Tb, D, kv, ch, rfl, hT, hD, ne, lk, lc, k⟩ := h
    rfl
  · obtain ⟨Tb, D, kv, ch, rfl, hT, hD, ne, lk, lc, k⟩ := h
    refine ⟨_, (pss_one (ps_lock (ps_for PassesOwn.never rfl (pi_items (pv 1)) ((pg_tup rfl (pgs_cons (pg_name (i := 2) scapply_changes.nd rfl (Or.inl rfl)) (pgs_cons (pg_name (i := 3) scapply_changes.nd rfl (Or.inl rfl)) pgs_nil))))
          (pss_one (ps_if (pt_cmpR op_isN (pv 3) pe_non (nomark _)) (pss_one (ps_expr (pe_dpop2 (pv 0) (pv 2) pe_non ⟨rfl, rfl, rfl, rfl⟩))) (pss_one (ps_dput (hu_of hr) (pv 0) (pv 2) (pv 3) (by rfl)))))))), ?_⟩
    refine ⟨D, _, hD, (by exact True.intro), fun od => ?_⟩
    have fT : upd H D (.frz od (.dK ch)) Tb = some (.dK kv) := by rw [upd_ne ne]; exact hT
    have fD : upd H D (.frz od (.dK ch)) D = some (.frz od (.dK ch)) := upd_same
    have fo : ∀ b o, b ≠ D → H b = some o → upd H D (.frz od (.dK ch)) b = some o := fun b o n e => by rw [upd_ne n]; exact e
    generalize upd H D (.frz od (.dK ch)) = H1 at fT fD fo ⊢
    refine ⟨_, rfl, D, od, ch, rfl, fD, for_it (walk_items (d := D) (o := od) (kvs := ch)) (fun i σ H' => ∃ v2 v3 : Option V, σ = [some (.ref Tb), some (.ref D), v2, v3] ∧ KpF (· = Tb) H1 H' ∧ H' Tb = some (.dK (applyK kv (ch.take i)))) ⟨none, none, rfl, KpF.refl _ _, fT⟩ (fun i σ H' _ ⟨_, _, _, k1, _⟩ => k1 _ _ (Ne.symm ne) fD) ?_ ?_⟩
    · rintro i x σ H2 H3 hi ⟨v2, v3, rfl, k2, e2⟩ ⟨Tt, x1, x2, rfl, hTt, rfl, q1, q2⟩
      have q1 : ch[i]?.map (fun kv => kV kv.1) = some x1 := q1
      have q2 : ch[i]?.map Prod.snd = some x2 := q2
      rw [List.getElem?_eq_getElem hi] at q1 q2
      cases q1
      cases q2
      have e3 : upd H2 Tt (.tup [kV ch[i].1, ch[i].2]) Tb = some (.dK (applyK kv (ch.take i))) := by rw [upd_ne (ne_of_none e2 hTt)]; exact e2
      have k3 : KpF (· = Tb) H1 (upd H2 Tt (.tup [kV ch[i].1, ch[i].2])) := k2.new hTt
      have et : upd H2 Tt (.tup [kV ch[i].1, ch[i].2]) Tt = some (.tup [kV ch[i].1, ch[i].2]) := upd_same
      have sc := applyK_succ (kv := kv) (List.getElem?_eq_getElem hi)
      have ln := applyK_le (ch.take i) kv
      rw [List.length_take] at ln
      generalize upd H2 Tt (.tup [kV ch[i].1, ch[i].2]) = H4 at e3 k3 et ⊢
      refine ⟨Tt, _, rfl, SqT.of et, rfl, _, _, rfl, _, _, rfl, rfl, ?_⟩
      refine ⟨_, rfl, rfl, _, rfl, ite_d (fun hn => ?_) (fun hn => ?_)⟩
      · refine ⟨_, rfl, Tb, rfl, .inl ⟨_, .inl e3⟩, _, rfl, _, ch[i].1, e3, rfl, fun v hv => ?_, fun hv => ?_⟩
        · refine ⟨_, _, rfl, k3.upd rfl, ?_⟩
          rw [upd_same, sc]
          unfold stepK
          rw [if_pos hn]
        · refine ⟨_, _, rfl, k3, ?_⟩
          rw [e3, sc]
          unfold stepK
          rw [if_pos hn, dropK_none hv]
      · refine ⟨_, rfl, _, rfl, _, rfl, Tb, _, rfl, DPut.k e3 (Nat.lt_of_le_of_lt (show _ ≤ 2000 by omega) (by decide)), _, _, rfl, k3.upd rfl, ?_⟩
        rw [upd_same, sc]
        unfold stepK
        rw [if_neg hn]
    · rintro σ H2 ⟨v2, v3, rfl, k2, e2⟩
      rw [List.take_length] at e2
      refine ⟨k2 _ _ (Ne.symm ne) fD, k _ (fun b o n e => ?_) (by rw [upd_ne ne]; exact e2)⟩
      by_cases c : b = D
      · rw [c, hD] at e
        rw [c, upd_same]
        exact e
      · rw [upd_ne c]
        exact k2 _ _ n (fo _ _ c e)
end k15
namespace k15
open PySem L2 LC RM SM TL
def spstretches : Sp := fun vs H Q _ => ∃ (z : Str), vs = [.str z, .int 60] ∧ z.length ≤ 1000000 ∧ ∀ (A : Addr) H', Same H H' → H A = none → H' A = some (.lst ((cutT z).map V.str)) → Q (.ref A) H'
theorem ok_stretches {P : Program} {w : World} {K : PySem.W.Frag} {mg : Str → Option Value} {base : Heap} {f : Addr} {fd : FuncData} (D : Def K mg "stretches" sstretches Pstretches f fd) (T : Txt K mg) :
    FnOk P w K mg base CX0 1 f fd Pstretches (spstretches) := by
  refine D.F.ok scstretches (fun vs H Q E h => ?_) (fun cdv A outer s H vs Q E hr h => ?_)
  · obtain ⟨z, rfl, hz, k⟩ := h
    rfl
  · obtain ⟨z, rfl, hz, k⟩ := h
    refine ⟨_, (pss_one (ps_ret (pe_lc (own := [("at", 2)]) (g := gName 2) (tt := tYes) rfl scstretches.nd (pi_range3 rfl T.n_range (pa_cons pe_int (pa_cons (pe_callB call_len_str (by rfl) T.n_len PySem.boot_len (pa_cons (pv 0) pa_nil)) (pa_cons (pv 1) pa_nil)))) (blkOk_by (own := [("at", 2)]) (N := Nmstretches) (sc := defScope sstretches) (by decide +kernel)) (fun _ _ _ _ _ => pg_name (i := 2) scstretches.nd rfl (Or.inl rfl)) (fun _ _ _ _ _ => pts_nil) (fun _ _ _ _ _ => (pe_slice sl_str (pv 0) (po_some (pv 2)) (po_some (pe_op op_add (pv 2) (pv 1)))))))), ?_⟩
    have nl := nCut_le z
    have zs : z.length ≤ sizeLine := Nat.le_trans hz (by decide)
    refine ⟨_, rfl, z, rfl, zs, _, rfl, 0, (z.length : Int), 60, nCut z, rfl, rgc60 hz, fun D hD => ?_⟩
    refine lc_it (walk_rangeC (lo := 0) (c := 60) (n := nCut z)) (fun i H' => Same H H' ∧ H' D = some (.lst (((cutT z).take i).map V.str))) ⟨same_new hD, upd_same⟩ (fun _ _ _ _ => True.intro) ?_ ?_
    · rintro i x H1 H1' hi ⟨s1, d1⟩ ⟨rfl, rfl⟩
      have hc : (cutT z)[i]? = some (cutS z (some (0 + (i : Int) * 60)) (some (0 + (i : Int) * 60 + 60))) := by
        unfold cutT
        rw [List.getElem?_map, List.getElem?_range hi]
        rfl
      refine ⟨rfl, _, rfl, _, rfl, _, rfl, _, rfl, _, rfl, _, _, rfl, rfl, _, rfl, z, rfl, zs, _, d1, ?_, fun b u e => ?_, ?_⟩
      · rw [List.length_map, List.length_take]
        exact Nat.lt_of_le_of_lt (show _ ≤ 1000000 by omega) (by decide)
      · rw [upd_ne (ne_of_none e hD)]
        exact s1 _ _ e
      · rw [upd_same, List.take_add_one, hc, List.map_append]
        rfl
    · rintro H1 ⟨s1, d1⟩
      rw [List.take_of_length_le (by unfold cutT; rw [List.length_map, List.length_range]; exact Nat.le_refl _)] at d1
      exact k D H1 s1 hD d1
end k15
namespace k15
open PySem L2 LC RM SM TL
def spread_changes : Sp := fun vs H Q _ => ∃ (z : Str), vs = [.str z] ∧ z.length ≤ 400000 ∧ ∀ (D : Addr) H', Same H H' → H D = none → H' D = some (.dK (rdCh z)) → Q (.ref D) H'
theorem ok_read_changes {P : Program} {w : World} {K : PySem.W.Frag} {mg : Str → Option Value} {base : Heap} {f : Addr} {fd : FuncData} (D : Def K mg "read_changes" sread_changes Pread_changes f fd) (T : Txt K mg) :
    FnOk P w K mg base CX0 1 f fd Pread_changes (spread_changes) := by
  refine D.F.ok scread_changes (fun vs H Q E h => ?_) (fun cdv A outer s H vs Q E hr h => ?_)
  · obtain ⟨z, rfl, hz, k⟩ := h
    rfl
  · obtain ⟨z, rfl, hz, k⟩ := h
    refine ⟨_, (pss_cons (ps_set (i := 1) scread_changes.nd rfl (Or.inl rfl) pe_dnewK)
        (pss_cons (ps_for PassesOwn.never rfl (pi_list (pe_slice sl_list (pe_split (pv 0) pe_str) po_none (po_some (pe_un un_neg pe_int)))) (pg_name (i := 2) scread_changes.nd rfl (Or.inl rfl))
          (pss_cons (ps_asg (pe_partition (pv 2) pe_str) (pg_tup rfl (pgs_cons (pg_name (i := 3) scread_changes.nd rfl (Or.inl rfl)) (pgs_cons (pg_name (i := 4) scread_changes.nd rfl (Or.inl rfl)) (pgs_cons (pg_name (i := 5) scread_changes.nd rfl (Or.inl rfl)) pgs_nil)))))
        (pss_one (ps_if (pt_cmpR op_eq (pv 4) pe_str (nomark _)) (pss_one (ps_dput (hu_of hr) (pv 1) (pe_slice sl_str (pv 3) po_none (po_some (pe_un un_neg pe_int))) pe_non (by rfl))) (pss_one (ps_dput (hu_of hr) (pv 1) (pv 3) (pv 5) (by rfl)))))))
        (pss_one (ps_ret (pv 1))))), ?_⟩
    refine fun D hD => ?_
    have t1 := same_new (o := .dK []) hD
    have eD : upd H D (.dK []) D = some (.dK []) := upd_same
    generalize upd H D (.dK []) = H1 at t1 eD ⊢
    have eb : (";" : Str).length = 1 := by decide +kernel
    refine ⟨_, rfl, ⟨z, rfl⟩, z, _, rfl, rfl, (by rw [eb]; rfl), Nat.le_trans (show _ ≤ 400002 by omega) (by decide), fun P hP => ?_⟩
    have t2 := same_new (o := .lst ((Txt.split z ";").map V.str)) hP
    have eP : upd H1 P (.lst ((Txt.split z ";").map V.str)) P = some (.lst ((Txt.split z ";").map V.str)) := upd_same
    have eD2 := t2 _ _ eD
    generalize upd H1 P (.lst ((Txt.split z ";").map V.str)) = H2 at t2 eP eD2 ⊢
    refine ⟨_, rfl, _, rfl, P, _, rfl, SqL.of eP, fun L hL => ?_⟩
    rw [cutV_last, ← List.map_dropLast]
    obtain ⟨ps, hps⟩ : ∃ ps, ps = (Txt.split z ";").dropLast := ⟨_, rfl⟩
    have pl : ps.length ≤ 400001 := by
      have := PyProof.Rows.split_le z ";"
      rw [hps, List.length_dropLast]
      omega
    have pm : ∀ y ∈ ps, y.length ≤ 400000 := fun y hy => by
      rw [hps] at hy
      have := split_mem_len (by rw [tl_semi]; simp) (by decide +kernel) ((List.dropLast_sublist _).subset hy)
      omega
    rw [← hps]
    have t3 := same_new (o := .lst (ps.map V.str)) hL
    have eL : upd H2 L (.lst (ps.map V.str)) L = some (.lst (ps.map V.str)) := upd_same
    have eD3 := t3 _ _ eD2
    have LD : L ≠ D := fun e => by rw [e, eD2] at hL; cases hL
    generalize upd H2 L (.lst (ps.map V.str)) = H3 at t3 eL eD3 ⊢
    have nD : H D = none := hD
    have t13 := (t1.trans t2).trans t3
    refine ⟨L, rfl, ⟨_, SqL.of eL⟩, for_list (K := K) (a := L) (xs := ps.map V.str) (fun i σ H' => ∃ v2 v3 v4 v5 : Option V, σ = [some (.str z), some (.ref D), v2, v3, v4, v5] ∧ KpF (· = D) H3 H' ∧ H' D = some (.dK ((ps.take i).foldl rdStep [])) ∧ ((ps.take i).foldl rdStep []).length ≤ i)
      ⟨none, none, none, none, rfl, KpF.refl _ _, eD3, Nat.le_refl _⟩ (fun i σ H' _ ⟨_, _, _, _, _, q, _⟩ => SqL.of (q _ _ LD eL)) ?_ ?_⟩
    · rintro i x σ H4 hi ⟨v2, v3, v4, v5, rfl, k4, e4, l4⟩
      rw [List.getElem?_map] at hi
      cases hu : ps[i]? with
      | none => rw [hu] at hi; cases hi
      | some y =>
        rw [hu] at hi
        cases hi
        have il := (List.getElem?_eq_some_iff.mp hu).1
        have yl := pm y (List.mem_of_getElem? hu)
        have sc : (ps.take (i + 1)).foldl rdStep [] = rdStep ((ps.take i).foldl rdStep []) y := by
          rw [List.take_add_one, hu, List.foldl_append]
          rfl
        generalize (ps.take i).foldl rdStep [] = kv at e4 l4 sc
        have ee : ("=" : Str).length = 1 := by decide +kernel
        refine ⟨_, rfl, ⟨y, rfl⟩, y, _, rfl, rfl, (by rw [ee]; rfl), Nat.le_trans yl (by decide), fun t ht => ?_⟩
        have k5 : KpF (· = D) H3 (upd H4 t (.tup [.str (Txt.partition y "=").1, .str (Txt.partition y "=").2.1, .str (Txt.partition y "=").2.2])) := k4.new ht
        have e5 : upd H4 t (.tup [.str (Txt.partition y "=").1, .str (Txt.partition y "=").2.1, .str (Txt.partition y "=").2.2]) D = some (.dK kv) := by rw [upd_ne (ne_of_none e4 ht)]; exact e4
        have et : upd H4 t (.tup [.str (Txt.partition y "=").1, .str (Txt.partition y "=").2.1, .str (Txt.partition y "=").2.2]) t = some (.tup [.str (Txt.partition y "=").1, .str (Txt.partition y "=").2.1, .str (Txt.partition y "=").2.2]) := upd_same
        generalize upd H4 t (.tup [.str (Txt.partition y "=").1, .str (Txt.partition y "=").2.1, .str (Txt.partition y "=").2.2]) = H5 at k5 e5 et
        have ln : ∀ k v, (putK kv k v).length ≤ i + 1 := fun k v => Nat.le_trans (putK_le' kv k v) (by omega)
        refine ⟨t, _, rfl, SqT.of et, rfl, _, _, rfl, _, _, rfl, _, _, rfl, rfl, ?_⟩
        refine ⟨_, rfl, rfl, _, rfl, ite_d (fun hm => ?_) (fun hm => ?_)⟩
        · have hm : (Txt.partition y "=").2.1 = "" := V.str.inj hm
          have st : rdStep kv y = putK kv (.inr (cutS (Txt.partition y "=").1 none (some (-1)))) .non := by unfold rdStep; rw [if_pos hm]
          have pz := part_len (z := y) (q := "=") (by rw [tl_eq]; simp)
          refine ⟨_, rfl, _, rfl, _, rfl, _, rfl, (Txt.partition y "=").1, rfl, Nat.le_trans (show _ ≤ 400000 by omega) (by decide), D, _, rfl, DPut.k (k := .inr _) e5 (Nat.lt_of_le_of_lt (show _ ≤ 400001 by omega) (by decide)), _, _, _, _, rfl, k5.upd rfl, ?_, ?_⟩
          · rw [upd_same, sc, st]
          · rw [sc, st]
            exact ln _ _
        · have hm : ¬ (Txt.partition y "=").2.1 = "" := fun z => hm (congrArg V.str z)
          have st : rdStep kv y = putK kv (.inr (Txt.partition y "=").1) (.str (Txt.partition y "=").2.2) := by unfold rdStep; rw [if_neg hm]
          refine ⟨_, rfl, _, rfl, _, rfl, D, _, rfl, DPut.k (k := .inr _) e5 (Nat.lt_of_le_of_lt (show _ ≤ 400001 by omega) (by decide)), _, _, _, _, rfl, k5.upd rfl, ?_, ?_⟩
          · rw [upd_same, sc, st]
          · rw [sc, st]
            exact ln _ _
    · rintro σ H4 ⟨v2, v3, v4, v5, rfl, k4, e4, l4⟩
      rw [List.length_map, List.take_length] at e4
      refine ⟨_, rfl, k D H4 (fun b o e => ?_) nD (by rw [e4, hps]; rfl)⟩
      exact k4 _ _ (fun e' => by rw [e', nD] at e; cases e) (t13 _ _ e)
end k15
namespace k15
open PySem L2 LC RM SM TL
def spgeneration_of : Sp := fun vs H Q _ => ∃ (c : Cl), vs = [c.v] ∧ c.Ok ∧ ∀ H', Same H H' → Q (.int (c.gen : Int)) H'
theorem ok_generation_of {P : Program} {w : World} {K : PySem.W.Frag} {mg : Str → Option Value} {base : Heap} {f : Addr} {fd : FuncData} (D : Def K mg "generation_of" sgeneration_of Pgeneration_of f fd) (T : Txt K mg) :
    FnOk P w K mg base CX0 1 f fd Pgeneration_of (spgeneration_of) := by
  refine D.F.ok scgeneration_of (fun vs H Q E h => ?_) (fun cdv A outer s H vs Q E hr h => ?_)
  · obtain ⟨c, rfl, ok, k⟩ := h
    rfl
  · obtain ⟨c, rfl, ok, k⟩ := h
    refine ⟨_, (pss_cons (ps_if (PW.pt (pw_or (pt_cmpR op_isN (pv 0) pe_non (nomark _)) (pw_or1 (pt_cmpR op_eq (pv 0) pe_str (nomark _))))) (pss_one (ps_ret pe_int)) pss_nil)
        (pss_one (ps_ret (pe_callTy call_int_str (by rfl) T.n_int (by decide +kernel) (pa_cons (pe_ix ix_list (pe_split (pv 0) pe_str) pe_int (fun _ _ => rfl)) pa_nil))))), ?_⟩
    have num : ∀ n : Nat, n ≤ 100000 → (((toString ((n : Nat) : Int) : String) : Str)).length ≤ 6 := fun n h => by
      rw [len_tl, tl_toS]
      exact numL_len (by decide) (Nat.lt_of_le_of_lt h (by decide))
    have es : (" " : Str).length = 1 := by decide +kernel
    obtain ⟨cl, gb⟩ : (∀ z, c.v = .str z → z.length ≤ 1000) ∧ c.gen ≤ 100000 := ok.len
    by_cases c1 : c.v = .non
    · refine ⟨_, rfl, rfl, _, rfl, ?_⟩
      rw [decide_eq_true c1]
      refine iteT (iteT ?_)
      cases c <;> first | exact k _ (Same.refl _) | cases c1
    by_cases c2 : c.v = .str ""
    · refine ⟨_, rfl, rfl, _, rfl, ?_⟩
      rw [decide_eq_false c1]
      refine iteF ⟨_, rfl, (by cases c <;> rfl), _, rfl, ite_d (fun _ => ?_) (fun h => absurd c2 h)⟩
      have e : c.gen = 0 := by
        cases c with
        | gone => rfl
        | torn => rfl
        | head g n => exact absurd (V.str.inj c2) (head_ne g n)
        | piece g i s => exact absurd (V.str.inj c2) (piece_ne g i s)
        | row g i f s => exact absurd (V.str.inj c2) (row_ne g i f s)
      have k := k _ (Same.refl _)
      rw [e] at k
      exact k
    obtain ⟨z, hz⟩ : ∃ z, c.v = .str z := by
      cases c with
      | gone => exact absurd rfl c1
      | torn => exact ⟨_, rfl⟩
      | head g n => exact ⟨_, rfl⟩
      | piece g i s => exact ⟨_, rfl⟩
      | row g i f s => exact ⟨_, rfl⟩
    have zl := cl z hz
    have nz : z ≠ "" := fun e => c2 (by rw [hz, e])
    have sec := gen_second hz nz
    rw [hz]
    refine ⟨_, rfl, rfl, _, rfl, iteF ⟨_, rfl, rfl, _, rfl, ite_d (fun h => absurd (V.str.inj h) nz) (fun _ => ?_)⟩⟩
    refine ⟨_, rfl, ⟨z, rfl⟩, z, _, rfl, rfl, (by rw [es]; rfl), Nat.le_trans (show _ ≤ 1002 by omega) (by decide), fun P hP => ?_⟩
    have t1 := same_new (o := .lst ((Txt.split z " ").map V.str)) hP
    have eP : upd H P (.lst ((Txt.split z " ").map V.str)) P = some (.lst ((Txt.split z " ").map V.str)) := upd_same
    have hat : atI ((Txt.split z " ").map V.str) ((1 : Nat) : Int) = some (V.str ((toString ((c.gen : Nat) : Int) : String) : Str)) := atI_nat (by rw [List.getElem?_map, sec]; rfl)
    exact ⟨_, _, _, _, rfl, rfl, SqL.of eP, hat, _, _, rfl, int_num (Nat.le_trans (numL6 gb) (by decide)), Nat.le_trans (num _ gb) (by decide), k _ t1⟩
end k15
namespace k15
open PySem L2 LC RM SM TL
def sphead_of : Sp := fun vs H Q _ => ∃ (A : Addr) (cs : List Cl), vs = [.ref A] ∧ H A = some (.lst (cs.map Cl.v)) ∧ (∀ c ∈ cs, c.Ok) ∧ ∀ (t : Addr) H', Same H H' → H' t = some (.tup [.int ((hd0 cs).1 : Int), .int ((hd0 cs).2 : Int)]) → Q (.ref t) H'
theorem ok_head_of {P : Program} {w : World} {K : PySem.W.Frag} {mg : Str → Option Value} {base : Heap} {f : Addr} {fd : FuncData} (D : Def K mg "head_of" shead_of Phead_of f fd) (T : Txt K mg) :
    FnOk P w K mg base CX0 1 f fd Phead_of (sphead_of) := by
  refine D.F.ok schead_of (fun vs H Q E h => ?_) (fun cdv A outer s H vs Q E hr h => ?_)
  · obtain ⟨A, cs, rfl, hA, ok, k⟩ := h
    rfl
  · obtain ⟨A, cs, rfl, hA, ok, k⟩ := h
    refine ⟨_, (pss_cons (ps_if (PW.pt (pw_or (pt_cmpR op_eq (pe_callB call_len_seq (by rfl) T.n_len PySem.boot_len (pa_cons (pv 0) pa_nil)) pe_int (nomark _)) (pw_or (pt_cmpR op_isN (pe_ix ix_list (pv 0) pe_int (fun _ _ => rfl)) pe_non (nomark _)) (pw_or1 (pt_not (pt_val (pe_m1 PySem.F.slot_str_startswith PySem.F.type_str_startswith mt_startswith (pe_ix ix_list (pv 0) pe_int (fun _ _ => rfl)) pe_str))))))) (pss_one (ps_ret (pe_tup (pa_cons pe_int (pa_cons pe_int pa_nil))))) pss_nil)
        (pss_cons (ps_asg (pe_split (pe_ix ix_list (pv 0) pe_int (fun _ _ => rfl)) pe_str) (pg_unl rfl (pgs_cons (pg_name (i := 1) schead_of.nd rfl (Or.inl rfl)) (pgs_cons (pg_name (i := 2) schead_of.nd rfl (Or.inl rfl)) (pgs_cons (pg_name (i := 3) schead_of.nd rfl (Or.inl rfl)) pgs_nil)))))
        (pss_one (ps_ret (pe_tup (pa_cons (pe_callTy call_int_str (by rfl) T.n_int (by decide +kernel) (pa_cons (pv 2) pa_nil)) (pa_cons (pe_callTy call_int_str (by rfl) T.n_int (by decide +kernel) (pa_cons (pv 3) pa_nil)) pa_nil))))))), ?_⟩
    have hs : ("head " : Str).length = 5 := by decide +kernel
    have es : (" " : Str).length = 1 := by decide +kernel
    have fin0 : hd0 cs = (0, 0) → ∀ t, H t = none → Q (.ref t) (upd H t (.tup [.int 0, .int 0])) := fun e t ht => k t _ (same_new ht) (by rw [e]; exact upd_same)
    cases cs with
    | nil =>
      refine ⟨_, rfl, A, _, rfl, .inl (SqL.of hA), rfl, _, rfl, iteT (iteT ⟨(by show 2 ≤ sizeLine; decide), fun t ht => fin0 rfl t ht⟩)⟩
    | cons c r =>
      have h0 : atI ((c :: r).map Cl.v) ((0 : Nat) : Int) = some c.v := atI_nat rfl
      refine ⟨_, rfl, A, _, rfl, .inl (SqL.of hA), rfl, _, rfl, ite_d (fun e => ?_) (fun _ => ?_)⟩
      · have e : ((((c :: r).map Cl.v).length : Nat) : Int) = 0 := V.int.inj e
        rw [List.length_map, List.length_cons] at e
        omega
      refine ⟨_, rfl, _, _, _, _, rfl, rfl, SqL.of hA, h0, rfl, _, rfl, ?_⟩
      have okc := ok c (List.mem_cons_self ..)
      cases c with
      | gone => exact iteT (iteT ⟨(by show 2 ≤ sizeLine; decide), fun t ht => fin0 rfl t ht⟩)
      | torn =>
        refine iteF ⟨_, rfl, _, _, _, _, rfl, rfl, SqL.of hA, h0, ⟨_, rfl⟩, _, _, rfl, rfl, _, rfl, ?_⟩
        rw [torn_starts]
        exact iteT ⟨(by show 2 ≤ sizeLine; decide), fun t ht => fin0 rfl t ht⟩
      | piece g i s =>
        refine iteF ⟨_, rfl, _, _, _, _, rfl, rfl, SqL.of hA, h0, ⟨_, rfl⟩, _, _, rfl, rfl, _, rfl, ?_⟩
        rw [piece_starts]
        exact iteT ⟨(by show 2 ≤ sizeLine; decide), fun t ht => fin0 rfl t ht⟩
      | row g i f s =>
        refine iteF ⟨_, rfl, _, _, _, _, rfl, rfl, SqL.of hA, h0, ⟨_, rfl⟩, _, _, rfl, rfl, _, rfl, ?_⟩
        rw [row_starts]
        exact iteT ⟨(by show 2 ≤ sizeLine; decide), fun t ht => fin0 rfl t ht⟩
      | head g n =>
        obtain ⟨lz, gb⟩ := okc.len
        have nb : n ≤ 100000 := okc.num.2
        have num : ∀ n : Nat, n ≤ 100000 → (((toString ((n : Nat) : Int) : String) : Str)).length ≤ 640 := fun n h => by
          rw [len_tl, tl_toS]
          exact Nat.le_trans (numL6 h) (by decide)
        refine iteF ⟨_, rfl, _, _, _, _, rfl, rfl, SqL.of hA, h0, ⟨_, rfl⟩, _, _, rfl, rfl, _, rfl, ?_⟩
        rw [head_starts]
        refine iteF ⟨_, rfl, _, _, _, _, rfl, rfl, SqL.of hA, h0, ⟨_, rfl⟩, _, _, rfl, rfl, (by rw [es]; rfl), Nat.le_trans (show _ ≤ 1002 by have := lz _ rfl; omega) (by decide), fun P hP => ?_⟩
        rw [head_split]
        have t1 := same_new (o := .lst ([("head" : Str), ((toString ((g : Nat) : Int) : String) : Str), ((toString ((n : Nat) : Int) : String) : Str)].map V.str)) hP
        refine ⟨P, _, rfl, SqL.of upd_same, rfl, _, _, rfl, _, _, rfl, _, _, rfl, rfl, ?_⟩
        refine ⟨_, rfl, _, _, rfl, int_num (Nat.le_trans (numL6 gb) (by decide)), num _ gb, _, rfl, _, _, rfl, int_num (Nat.le_trans (numL6 nb) (by decide)), num _ nb, (by show 2 ≤ sizeLine; decide), fun t ht => ?_⟩
        exact k t _ (t1.trans (same_new ht)) upd_same
end k15
namespace k15
open PySem L2 LC RM SM TL
def spstretches_from : Sp := fun vs H Q _ => ∃ (A : Addr) (start : Str) (ws : List V), vs = [.ref A, .str start] ∧ H A = some (.lst ws) ∧ (∀ w ∈ ws, w = .non ∨ ∃ z : Str, w = .str z ∧ z.length ≤ 1000) ∧ start.length ≤ 1000 ∧ ws.length ≤ 100000 ∧ ∀ (L : Addr) H', Same H H' → H L = none → H' L = some (.lst ((sfG start 0 ws).map V.str)) → Q (.ref L) H'
theorem ok_stretches_from {P : Program} {w : World} {K : PySem.W.Frag} {mg : Str → Option Value} {base : Heap} {f : Addr} {fd : FuncData} (D : Def K mg "stretches_from" sstretches_from Pstretches_from f fd) (T : Txt K mg) :
    FnOk P w K mg base CX0 1 f fd Pstretches_from (spstretches_from) := by
  refine D.F.ok scstretches_from (fun vs H Q E h => ?_) (fun cdv A outer s H vs Q E hr h => ?_)
  · obtain ⟨A, start, ws, rfl, hA, hw, hs, hl, k⟩ := h
    rfl
  · obtain ⟨A, start, ws, rfl, hA, hw, hs, hl, k⟩ := h
    refine ⟨_, (pss_cons (ps_set (i := 2) scstretches_from.nd rfl (Or.inl rfl) (pe_lst pa_nil))
        (pss_cons (ps_for PassesOwn.never rfl (pi_list (pv 0)) (pg_name (i := 3) scstretches_from.nd rfl (Or.inl rfl))
          (pss_cons (ps_set (i := 4) scstretches_from.nd rfl (Or.inl rfl) (pe_joined (.cons (pe_fmt (pv 1)) (.cons pe_str (.cons (pe_fmt (pe_op op_add (pe_callB call_len_seq (by rfl) T.n_len PySem.boot_len (pa_cons (pv 2) pa_nil)) pe_int)) (.cons pe_str .nil))))))
        (pss_cons (ps_if (PW.pt (pw_or (pt_cmpR op_isN (pv 3) pe_non (nomark _)) (pw_or1 (pt_not (pt_val (pe_m1 PySem.F.slot_str_startswith PySem.F.type_str_startswith mt_startswith (pv 3) (pv 4))))))) (pss_one (ps_ret (pv 2))) pss_nil)
        (pss_one (ps_expr (pe_bm PySem.F.plainAttrs_list PySem.F.slot_list_append PySem.F.type_list_append mt_append (pv 2) (pa_cons (pe_slice sl_str (pv 3) (po_some (pe_callB call_len_str (by rfl) T.n_len PySem.boot_len (pa_cons (pv 4) pa_nil))) po_none) pa_nil)))))))
        (pss_one (ps_ret (pv 2))))), ?_⟩
    have es : (" " : Str).length = 1 := by decide +kernel
    refine ⟨(by show 0 ≤ sizeLine; decide), fun L hL => ?_⟩
    have t1 := same_new (o := .lst []) hL
    have eL : upd H L (.lst []) L = some (.lst []) := upd_same
    have AL : A ≠ L := ne_of_none hA hL
    have hA1 := t1 _ _ hA
    generalize upd H L (.lst []) = H1 at t1 eL hA1 ⊢
    have fr : ∀ {H' : Hp}, KpF (· = L) H1 H' → Same H H' := fun {H'} q b o e => q b o (fun z => by rw [z, hL] at e; cases e) (t1 _ _ e)
    refine ⟨_, rfl, A, rfl, ⟨_, SqL.of hA1⟩, for_list (K := K) (a := A) (xs := ws) (fun i σ H' => ∃ v3 v4 : Option V, σ = [some (.ref A), some (.str start), some (.ref L), v3, v4] ∧ KpF (· = L) H1 H' ∧ i ≤ ws.length ∧ ∃ ys : List Str, ys.length = i ∧ H' L = some (.lst (ys.map V.str)) ∧ sfG start 0 ws = ys ++ sfG start i (ws.drop i))
      ⟨none, none, rfl, KpF.refl _ _, Nat.zero_le _, [], rfl, eL, rfl⟩ (fun i σ H' _ ⟨_, _, _, q, _⟩ => SqL.of (q _ _ AL hA1)) ?_ ?_⟩
    · rintro i x σ H2 hi ⟨v3, v4, rfl, k2, _, ys, yl, e2, sf⟩
      have il := (List.getElem?_eq_some_iff.mp hi).1
      have dr : ws.drop i = x :: ws.drop (i + 1) := by
        rw [List.drop_eq_getElem_cons il]
        congr 1
        exact Option.some.inj ((List.getElem?_eq_getElem il).symm.trans hi)
      rw [dr] at sf
      have sm : ∀ n : Nat, n ≤ 10000 → n ≤ sizeLine := fun n h => Nat.le_trans h (by decide)
      have e0 : (Str.empty : Str).length = 0 := rfl
      have nl : (((toString ((i : Int) + 1) : String) : Str)).length ≤ 1921 := int_len (by omega) (by omega)
      have bl : (begT start (i + 1)).length ≤ 10000 := by
        show (((((Str.empty ++ start) ++ " ") ++ toString ((i : Int) + 1)) ++ " ") : Str).length ≤ _
        simp only [len_app, es, e0]
        omega
      refine ⟨_, rfl, .inl ⟨start, rfl, sm _ (by omega), _, rfl, sm _ (by simp only [len_app, e0]; omega), _, rfl, sm _ (by simp only [len_app, e0, es]; omega), _, rfl, L, _, rfl, .inl (SqL.of e2), _, _, rfl, rfl, ?_⟩⟩
      rw [List.length_map, yl]
      refine .inr ⟨_, rfl, log_small (by omega) (by omega), _, rfl, sm _ (by simp only [len_app, e0, es]; omega), _, rfl, sm _ (by simp only [len_app, e0, es]; omega), ?_⟩
      rw [show (((((Str.empty ++ start) ++ " ") ++ toString ((i : Int) + 1)) ++ " ") : Str) = begT start (i + 1) from rfl]
      rcases hw x (List.mem_of_getElem? hi) with rfl | ⟨z, rfl, zl⟩
      · have e : sfG start i (V.non :: ws.drop (i + 1)) = [] := rfl
        rw [e, List.append_nil] at sf
        exact ⟨_, rfl, rfl, _, rfl, iteT (iteT ⟨_, rfl, k L H2 (fr k2) hL (by rw [e2, sf])⟩)⟩
      · refine ⟨_, rfl, rfl, _, rfl, iteF ⟨_, rfl, ⟨z, rfl⟩, _, rfl, z, _, rfl, rfl, _, rfl, ?_⟩⟩
        have e : sfG start i (V.str z :: ws.drop (i + 1)) = if Txt.startswith z (begT start (i + 1)) = true then cutS z (some (((begT start (i + 1)).length : Nat) : Int)) none :: sfG start (i + 1) (ws.drop (i + 1)) else [] := rfl
        rw [e] at sf
        generalize begT start (i + 1) = b at sf bl ⊢
        cases q : Txt.startswith z b with
        | false =>
          rw [q, if_neg Bool.false_ne_true, List.append_nil] at sf
          exact iteT ⟨_, rfl, k L H2 (fr k2) hL (by rw [e2, sf])⟩
        | true =>
          rw [q, if_pos rfl] at sf
          refine iteF ⟨_, rfl, .inl ⟨rfl, _, SqL.of e2⟩, _, rfl, _, rfl, b, rfl, sm _ bl, _, rfl, z, rfl, sm _ (by omega), L, _, _, rfl, rfl, e2, ?_, _, _, rfl, k2.upd rfl, by omega, ys ++ [cutS z (some ((b.length : Nat) : Int)) none], ?_, ?_, ?_⟩
          · rw [List.length_map, yl]
            exact Nat.lt_of_le_of_lt (show _ ≤ 100000 by omega) (by decide)
          · rw [List.length_append, yl]
            rfl
          · rw [upd_same, List.map_append]
            rfl
          · rw [sf, List.append_assoc]
            rfl
    · rintro σ H2 ⟨v3, v4, rfl, k2, _, ys, yl, e2, sf⟩
      rw [List.drop_length] at sf
      refine ⟨_, rfl, k L H2 (fr k2) hL ?_⟩
      rw [e2, sf]
      show _ = some (HO.lst ((ys ++ []).map V.str))
      rw [List.append_nil]
end k15
namespace k15
open PySem L2 LC RM SM TL
def sprecords_from : Sp := fun vs H Q _ => ∃ (A : Addr) (g : Nat) (cs : List Cl), vs = [.ref A, .int (g : Int)] ∧ H A = some (.lst (cs.map Cl.v)) ∧ (∀ c ∈ cs, c.Ok) ∧ g ≤ 100000 ∧ cs.length ≤ 6000 ∧ ∀ (L : Addr) H', Same H H' → H L = none → H' L = some (.lst ((recsL "" (sfR g 0 cs)).map V.str)) → Q (.ref L) H'
theorem ok_records_from {P : Program} {w : World} {K : PySem.W.Frag} {mg : Str → Option Value} {base : Heap} {f : Addr} {fd : FuncData} (D : Def K mg "records_from" srecords_from Precords_from f fd) (T : Txt K mg) {fstretches_from : Addr} {fdstretches_from : FuncData} (Dstretches_from : Def K mg "stretches_from" sstretches_from Pstretches_from fstretches_from fdstretches_from) (Gstretches_from : FnOk P w K mg base CX0 1 fstretches_from fdstretches_from Pstretches_from (spstretches_from)) :
    FnOk P w K mg base CX0 2 f fd Precords_from (sprecords_from) := by
  refine D.F.ok screcords_from (fun vs H Q E h => ?_) (fun cdv A outer s H vs Q E hr h => ?_)
  · obtain ⟨A, g, cs, rfl, hA, ok, hg, hl, k⟩ := h
    rfl
  · obtain ⟨A, g, cs, rfl, hA, ok, hg, hl, k⟩ := h
    have hrstretches_from : Room 1 _ := hr.mono (by decide)
    refine ⟨_, (pss_cons (ps_set (i := 2) screcords_from.nd rfl (Or.inl rfl) (pe_lst pa_nil))
        (pss_cons (ps_set (i := 3) screcords_from.nd rfl (Or.inl rfl) pe_str)
        (pss_cons (ps_for PassesOwn.never rfl (pi_list (pe_call Gstretches_from hrstretches_from rfl Dstretches_from.g Dstretches_from.F.kp Dstretches_from.b .nil pass0 (pa_cons (pv 0) (pa_cons (pe_joined (.cons pe_str (.cons (pe_fmt (pv 1)) .nil))) pa_nil)))) (pg_name (i := 4) screcords_from.nd rfl (Or.inl rfl))
          (pss_cons (ps_asg (pe_partition (pv 4) pe_str) (pg_tup rfl (pgs_cons (pg_name (i := 5) screcords_from.nd rfl (Or.inl rfl)) (pgs_cons (pg_name (i := 6) screcords_from.nd rfl (Or.inl rfl)) (pgs_cons (pg_name (i := 7) screcords_from.nd rfl (Or.inl rfl)) pgs_nil)))))
        (pss_cons (ps_set (i := 3) screcords_from.nd rfl (Or.inl rfl) (pe_op op_add_str (pv 3) (pv 7)))
        (pss_one (ps_if (pt_cmpR op_eq (pv 5) pe_str (nomark _)) (pss_cons (ps_expr (pe_bm PySem.F.plainAttrs_list PySem.F.slot_list_append PySem.F.type_list_append mt_append (pv 2) (pa_cons (pv 3) pa_nil)))
        (pss_one (ps_set (i := 3) screcords_from.nd rfl (Or.inl rfl) pe_str))) pss_nil)))))
        (pss_one (ps_ret (pv 2)))))), ?_⟩
    refine ⟨(by show 0 ≤ sizeLine; decide), fun L hL => ?_⟩
    have t1 := same_new (o := .lst []) hL
    have eL : upd H L (.lst []) L = some (.lst []) := upd_same
    have AL : A ≠ L := ne_of_none hA hL
    have hA1 := t1 _ _ hA
    generalize upd H L (.lst []) = H1 at t1 eL hA1 ⊢
    have fr : ∀ {H' : Hp}, KpF (· = L) H1 H' → Same H H' := fun {H'} q b o e => q b o (fun z => by rw [z, hL] at e; cases e) (t1 _ _ e)
    have ee : (" " : Str).length = 1 := by decide +kernel
    have e0 : (Str.empty : Str).length = 0 := rfl
    have er : ("row " : Str).length = 4 := by decide +kernel
    have sm : ∀ n : Nat, n ≤ 1000000 → n ≤ sizeLine := fun n h => Nat.le_trans h (by decide)
    have gl : (((toString ((g : Nat) : Int) : String) : Str)).length ≤ 6 := by
      rw [len_tl, tl_toS]
      exact numL6 hg
    refine ⟨_, rfl, _, rfl, sm _ (by simp only [len_app, e0, er]; omega), _, rfl, .inr ⟨_, rfl, log_small (by omega) (by omega), _, rfl, sm _ (by simp only [len_app, e0, er]; omega), ?_⟩⟩
    have es0 : ("" : Str).length = 0 := by decide +kernel
    obtain ⟨rs, hrs⟩ : ∃ rs, rs = sfR g 0 cs := ⟨_, rfl⟩
    have rl : rs.length ≤ 6000 := by
      have := sfR_len (g := g) cs 0
      rw [hrs]
      omega
    have rm : ∀ p ∈ rs, p.1 ≤ 100000 ∧ p.2.length ≤ 60 := by rw [hrs]; exact sfR_mem ok
    have rsl : (rStart g).length ≤ 1000 := by
      unfold rStart
      simp only [len_app, e0, er]
      omega
    have csl : (cs.map Cl.v).length ≤ 100000 := by rw [List.length_map]; omega
    rw [show (((Str.empty ++ "row ") ++ toString ((g : Nat) : Int)) : Str) = rStart g from rfl]
    generalize hst : rStart g = stt at rsl ⊢
    refine ⟨A, stt, cs.map Cl.v, rfl, hA1, fun w hw => ?_, rsl, csl, fun B H2 s2 hB eB => ?_⟩
    · obtain ⟨c, hc, rfl⟩ := List.mem_map.mp hw
      exact Cl.vs (ok c hc)
    rw [← hst, sfG_row, ← hrs, List.map_map] at eB
    have eB : H2 B = some (.lst (rs.map fun p => V.str (tailT p.1 p.2))) := eB
    have eL2 := s2 _ _ eL
    have LB : B ≠ L := fun z => by rw [z, eL] at hB; cases hB
    have fr2 : ∀ {H' : Hp}, KpF (· = L) H2 H' → Same H H' := fun {H'} q b o e => q b o (fun z => by rw [z, hL] at e; cases e) (s2 _ _ (t1 _ _ e))
    refine ⟨B, rfl, ⟨_, SqL.of eB⟩, ?_⟩
    refine for_list (K := K) (a := B) (xs := rs.map fun p => V.str (tailT p.1 p.2)) (fun i σ H' => ∃ (t : Str) (v4 v5 v6 v7 : Option V), σ = [some (.ref A), some (.int (g : Int)), some (.ref L), some (.str t), v4, v5, v6, v7] ∧ KpF (· = L) H2 H' ∧ t.length ≤ 60 * i ∧ ∃ ys : List Str, ys.length ≤ i ∧ H' L = some (.lst (ys.map V.str)) ∧ recsL "" rs = ys ++ recsL t (rs.drop i)) ?_ ?_ ?_ ?_
    · exact ⟨"", none, none, none, none, rfl, KpF.refl _ _, (by rw [es0]; exact Nat.zero_le _), [], Nat.zero_le _, eL2, (by rw [List.drop_zero, List.nil_append])⟩
    · exact (fun i σ H' _ ⟨_, _, _, _, _, _, q, _⟩ => SqL.of (q _ _ LB eB))
    · rintro i x σ H3 hi ⟨t, v4, v5, v6, v7, rfl, k3, tl_, ys, yl, e3, sf⟩
      rw [List.getElem?_map] at hi
      cases hu : rs[i]? with
      | none => rw [hu] at hi; cases hi
      | some p =>
        rw [hu] at hi
        obtain ⟨f, st⟩ := p
        obtain rfl : V.str (tailT f st) = x := Option.some.inj hi
        have il := (List.getElem?_eq_some_iff.mp hu).1
        have dr : rs.drop i = (f, st) :: rs.drop (i + 1) := by
          rw [List.drop_eq_getElem_cons il]
          congr 1
          exact Option.some.inj ((List.getElem?_eq_getElem il).symm.trans hu)
        obtain ⟨fb, sb⟩ := rm _ (List.mem_of_getElem? hu)
        have fb : f ≤ 100000 := fb
        have sb : st.length ≤ 60 := sb
        have e : recsL t (rs.drop i) = if f = 0 then (t ++ st) :: recsL "" (rs.drop (i + 1)) else recsL (t ++ st) (rs.drop (i + 1)) := by rw [dr]; rfl
        rw [e] at sf
        have fl : (((toString ((f : Nat) : Int) : String) : Str)).length ≤ 6 := by
          rw [len_tl, tl_toS]
          exact numL6 fb
        have xl : (tailT f st).length ≤ 67 := by
          unfold tailT
          simp only [len_app, ee]
          omega
        have hp := tail_part f st
        have nz := num_zero f
        generalize tailT f st = tt at hp xl hi ⊢
        generalize ((toString ((f : Nat) : Int) : String) : Str) = ft at hp fl nz
        refine ⟨_, rfl, ⟨tt, rfl⟩, tt, _, rfl, rfl, (by rw [ee]; rfl), sm _ (by omega), fun tu hu' => ?_⟩
        rw [hp]
        have k4 : KpF (· = L) H2 (upd H3 tu (.tup [.str ft, .str " ", .str st])) := k3.new hu'
        have e4 : upd H3 tu (.tup [.str ft, .str " ", .str st]) L = some (.lst (ys.map V.str)) := by rw [upd_ne (ne_of_none e3 hu')]; exact e3
        have et : upd H3 tu (.tup [.str ft, .str " ", .str st]) tu = some (.tup [.str ft, .str " ", .str st]) := upd_same
        generalize upd H3 tu (.tup [.str ft, .str " ", .str st]) = H4 at k4 e4 et
        refine ⟨tu, _, rfl, SqT.of et, rfl, _, _, rfl, _, _, rfl, _, _, rfl, rfl, ?_⟩
        refine ⟨_, rfl, _, rfl, t, st, rfl, rfl, sm _ (by omega), ?_⟩
        refine ⟨_, rfl, rfl, _, rfl, ite_d (fun h => ?_) (fun h => ?_)⟩
        · have f0 : f = 0 := nz.mp (V.str.inj h)
          rw [if_pos f0] at sf
          refine ⟨_, rfl, .inl ⟨rfl, _, SqL.of e4⟩, _, rfl, L, _, _, rfl, rfl, e4, ?_, "", _, _, _, _, rfl, k4.upd rfl, (by rw [es0]; exact Nat.zero_le _), ys ++ [t ++ st], ?_, ?_, ?_⟩
          · rw [List.length_map]
            exact Nat.lt_of_le_of_lt (show _ ≤ 6000 by omega) (by decide)
          · rw [List.length_append]
            show ys.length + 1 ≤ i + 1
            omega
          · rw [upd_same, List.map_append]
            rfl
          · rw [sf, List.append_assoc]
            rfl
        · have f0 : ¬ f = 0 := fun z => h (congrArg V.str (nz.mpr z))
          rw [if_neg f0] at sf
          exact ⟨t ++ st, _, _, _, _, rfl, k4, by rw [len_app]; omega, ys, by omega, e4, sf⟩
    · rintro σ H3 ⟨t, v4, v5, v6, v7, rfl, k3, tl_, ys, yl, e3, sf⟩
      rw [List.length_map, List.drop_length] at sf
      refine ⟨_, rfl, k L H3 (fr2 k3) hL ?_⟩
      rw [e3, ← hrs, sf]
      show _ = some (HO.lst ((ys ++ []).map V.str))
      rw [List.append_nil]
end k15
namespace k15
open PySem L2 LC RM SM TL
def spread_area : Sp := fun vs H Q _ => ∃ (A : Addr) (cs : List Cl), vs = [.ref A] ∧ H A = some (.lst (cs.map Cl.v)) ∧ (∀ c ∈ cs, c.Ok) ∧ cs.length ≤ 6000 ∧ RdOk cs ∧ (rdA cs = none → ∀ (t : Addr) H', Same H H' → H' t = some (.tup [.int 0, .non]) → Q (.ref t) H') ∧
  ∀ g kv, rdA cs = some (g, kv) → ∀ (t D : Addr) H', Same H H' → H D = none → H' D = some (.dK kv) → H' t = some (.tup [.int (g : Int), .ref D]) → Q (.ref t) H'
theorem ok_read_area {P : Program} {w : World} {K : PySem.W.Frag} {mg : Str → Option Value} {base : Heap} {f : Addr} {fd : FuncData} (D : Def K mg "read_area" sread_area Pread_area f fd) (T : Txt K mg) {fapply_changes : Addr} {fdapply_changes : FuncData} (Dapply_changes : Def K mg "apply_changes" sapply_changes Papply_changes fapply_changes fdapply_changes) (Gapply_changes : FnOk P w K mg base CX0 1 fapply_changes fdapply_changes Papply_changes (spapply_changes)) {fread_changes : Addr} {fdread_changes : FuncData} (Dread_changes : Def K mg "read_changes" sread_changes Pread_changes fread_changes fdread_changes) (Gread_changes : FnOk P w K mg base CX0 1 fread_changes fdread_changes Pread_changes (spread_changes)) {fhead_of : Addr} {fdhead_of : FuncData} (Dhead_of : Def K mg "head_of" shead_of Phead_of fhead_of fdhead_of) (Ghead_of : FnOk P w K mg base CX0 1 fhead_of fdhead_of Phead_of (sphead_of)) {fstretches_from : Addr} {fdstretches_from : FuncData} (Dstretches_from : Def K mg "stretches_from" sstretches_from Pstretches_from fstretches_from fdstretches_from) (Gstretches_from : FnOk P w K mg base CX0 1 fstretches_from fdstretches_from Pstretches_from (spstretches_from)) {frecords_from : Addr} {fdrecords_from : FuncData} (Drecords_from : Def K mg "records_from" srecords_from Precords_from frecords_from fdrecords_from) (Grecords_from : FnOk P w K mg base CX0 2 frecords_from fdrecords_from Precords_from (sprecords_from)) :
    FnOk P w K mg base CX0 3 f fd Pread_area (spread_area) := by
  refine D.F.ok scread_area (fun vs H Q E h => ?_) (fun cdv A outer s H vs Q E hr h => ?_)
  · obtain ⟨A, cs, rfl, hA, ok, hl, ro, kn, ks⟩ := h
    rfl
  · obtain ⟨A, cs, rfl, hA, ok, hl, ro, kn, ks⟩ := h
    have hrapply_changes : Room 1 _ := hr.mono (by decide)
    have hrread_changes : Room 1 _ := hr.mono (by decide)
    have hrhead_of : Room 1 _ := hr.mono (by decide)
    have hrstretches_from : Room 1 _ := hr.mono (by decide)
    have hrrecords_from : Room 2 _ := hr.mono (by decide)
    refine ⟨_, (pss_cons (ps_asg (pe_call Ghead_of hrhead_of rfl Dhead_of.g Dhead_of.F.kp Dhead_of.b .nil pass0 (pa_cons (pv 0) pa_nil)) (pg_tup rfl (pgs_cons (pg_name (i := 1) scread_area.nd rfl (Or.inl rfl)) (pgs_cons (pg_name (i := 2) scread_area.nd rfl (Or.inl rfl)) pgs_nil))))
        (pss_cons (ps_set (i := 3) scread_area.nd rfl (Or.inl rfl) (pe_call Gstretches_from hrstretches_from rfl Dstretches_from.g Dstretches_from.F.kp Dstretches_from.b .nil pass0 (pa_cons (pe_slice sl_list (pv 0) (po_some pe_int) (po_some (pe_op op_add (pv 2) pe_int))) (pa_cons (pe_joined (.cons pe_str (.cons (pe_fmt (pv 1)) .nil))) pa_nil))))
        (pss_cons (ps_if (PW.pt (pw_or (pt_cmpR op_eq (pv 1) pe_int (nomark _)) (pw_or1 (pt_cmpR op_lt (pe_callB call_len_seq (by rfl) T.n_len PySem.boot_len (pa_cons (pv 3) pa_nil)) (pv 2) (nomark _))))) (pss_one (ps_ret (pe_tup (pa_cons pe_int (pa_cons pe_non pa_nil))))) pss_nil)
        (pss_cons (ps_set (i := 4) scread_area.nd rfl (Or.inl rfl) (pe_call Gread_changes hrread_changes rfl Dread_changes.g Dread_changes.F.kp Dread_changes.b .nil pass0 (pa_cons (pe_join pe_str (pv 3)) pa_nil)))
        (pss_cons (ps_for PassesOwn.never rfl (pi_list (pe_call Grecords_from hrrecords_from rfl Drecords_from.g Drecords_from.F.kp Drecords_from.b .nil pass0 (pa_cons (pe_slice sl_list (pv 0) (po_some (pe_op op_add (pv 2) pe_int)) po_none) (pa_cons (pv 1) pa_nil)))) (pg_name (i := 5) scread_area.nd rfl (Or.inl rfl))
          (pss_one (ps_expr (pe_call Gapply_changes hrapply_changes rfl Dapply_changes.g Dapply_changes.F.kp Dapply_changes.b .nil pass0 (pa_cons (pv 4) (pa_cons (pe_call Gread_changes hrread_changes rfl Dread_changes.g Dread_changes.F.kp Dread_changes.b .nil pass0 (pa_cons (pv 5) pa_nil)) pa_nil))))))
        (pss_one (ps_ret (pe_tup (pa_cons (pv 1) (pa_cons (pv 4) pa_nil)))))))))), ?_⟩
    have e0 : (Str.empty : Str).length = 0 := rfl
    have er : ("piece " : Str).length = 6 := by decide +kernel
    have sm : ∀ n : Nat, n ≤ 1000000 → n ≤ sizeLine := fun n h => Nat.le_trans h (by decide)
    obtain ⟨g, c, hgc, hg, hc⟩ : ∃ g c, hd0 cs = (g, c) ∧ g ≤ 100000 ∧ c ≤ 100000 := ⟨_, _, rfl, (hd0_le ok).1, (hd0_le ok).2⟩
    have gl : (((toString ((g : Nat) : Int) : String) : Str)).length ≤ 6 := by
      rw [len_tl, tl_toS]
      exact numL6 hg
    refine ⟨_, rfl, A, cs, rfl, hA, ok, fun t H1 s1 et => ?_⟩
    have hA1 := s1 _ _ hA
    rw [hgc] at et
    have et : H1 t = some (.tup [.int (g : Int), .int (c : Int)]) := et
    refine ⟨t, _, rfl, SqT.of et, rfl, _, _, rfl, _, _, rfl, rfl, ?_⟩
    refine ⟨_, rfl, _, rfl, _, rfl, _, _, rfl, rfl, _, rfl, A, _, rfl, SqL.of hA1, fun P hP => ?_⟩
    have ec : cutV (cs.map Cl.v) (some 1) (some ((c : Int) + 1)) = ((cs.drop 1).take c).map Cl.v := by
      have e := cutV_mid (cs.map Cl.v) 1 (c + 1) (by omega)
      rw [Nat.add_sub_cancel] at e
      exact e.trans (by rw [List.map_take, List.map_drop])
    rw [ec]
    have t2 := same_new (o := .lst (((cs.drop 1).take c).map Cl.v)) hP
    have eP : upd H1 P (.lst (((cs.drop 1).take c).map Cl.v)) P = some (.lst (((cs.drop 1).take c).map Cl.v)) := upd_same
    have hA2 := t2 _ _ hA1
    have s2 := s1.trans t2
    generalize upd H1 P (.lst (((cs.drop 1).take c).map Cl.v)) = H2 at t2 eP hA2 s2 ⊢
    refine ⟨_, rfl, sm _ (by simp only [len_app, e0, er]; omega), _, rfl, .inr ⟨_, rfl, log_small (by omega) (by omega), _, rfl, sm _ (by simp only [len_app, e0, er]; omega), ?_⟩⟩
    rw [show (((Str.empty ++ "piece ") ++ toString ((g : Nat) : Int)) : Str) = pStart g from rfl]
    have psl : (pStart g).length ≤ 1000 := by
      unfold pStart
      simp only [len_app, e0, er]
      omega
    have okT : ∀ x ∈ (cs.drop 1).take c, x.Ok := fun x hx => ok x (List.mem_of_mem_drop (List.mem_of_mem_take hx))
    have tlen : ((cs.drop 1).take c).length ≤ 6000 := by
      rw [List.length_take, List.length_drop]
      omega
    have wsl : (((cs.drop 1).take c).map Cl.v).length ≤ 100000 := by rw [List.length_map]; omega
    obtain ⟨ps, hps⟩ : ∃ ps, ps = sfP g 0 ((cs.drop 1).take c) := ⟨_, rfl⟩
    have esf : sfG (pStart g) 0 (((cs.drop 1).take c).map Cl.v) = ps := by rw [sfG_piece, hps]
    generalize pStart g = stt at psl esf ⊢
    refine ⟨P, stt, _, rfl, eP, fun w hw => ?_, psl, wsl, fun L H3 s3 hL eL => ?_⟩
    · obtain ⟨x, hx, rfl⟩ := List.mem_map.mp hw
      exact Cl.vs (okT x hx)
    rw [esf] at eL
    have pl : ps.length ≤ 6000 := by
      have := sfP_len (g := g) ((cs.drop 1).take c) 0
      rw [hps]
      omega
    have pm : ∀ p ∈ ps, p.length ≤ 60 := by rw [hps]; exact sfP_mem okT
    have hA3 := s3 _ _ hA2
    have s03 := s2.trans s3
    clear eP hA2 s2 t2 hP
    have rdN : (g = 0 ∨ ps.length < c) → rdA cs = none := fun h => by
      unfold rdA
      rw [hgc]
      exact if_pos (by rw [← hps]; exact h)
    have rdS : ¬ (g = 0 ∨ ps.length < c) → rdA cs = some (g, (recsL "" (sfR g 0 (cs.drop (1 + c)))).foldl (fun t z => applyK t (rdCh z)) (rdCh (Txt.join "" ps))) := fun h => by
      unfold rdA
      rw [hgc]
      exact (if_neg (by rw [← hps]; exact h)).trans (by rw [hps])
    have roT : ¬ (g = 0 ∨ ps.length < c) → T9 (rdCh (Txt.join "" ps)) := fun h => by
      have z := ro.tab
      rw [hgc] at z
      rw [hps]
      exact z (by rw [← hps]; exact h)
    have roR : ¬ (g = 0 ∨ ps.length < c) → ∀ z ∈ recsL "" (sfR g 0 (cs.drop (1 + c))), T9 (rdCh z) := fun h => by
      have z := ro.recs
      rw [hgc] at z
      exact z (by rw [← hps]; exact h)
    have no : (g = 0 ∨ ps.length < c) → ∀ t, H3 t = none → Q (.ref t) (upd H3 t (.tup [.int 0, .non])) := fun h t ht => kn (rdN h) t _ (s03.trans (same_new ht)) upd_same
    refine ⟨_, rfl, rfl, _, rfl, ite_d (fun h => ?_) (fun h => ?_)⟩
    · have h : (g : Int) = 0 := V.int.inj h
      exact iteT ⟨(by show 2 ≤ sizeLine; decide), fun t ht => no (.inl (by omega)) t ht⟩
    have g0 : ¬ g = 0 := fun z => h (by rw [z]; rfl)
    refine ⟨_, rfl, L, _, rfl, .inl (SqL.of eL), _, rfl, _, _, rfl, rfl, _, rfl, ite_d (fun h => ?_) (fun h => ?_)⟩
    · rw [List.length_map] at h
      exact ⟨(by show 2 ≤ sizeLine; decide), fun t ht => no (.inr (by omega)) t ht⟩
    rw [List.length_map] at h
    have nn : ¬ (g = 0 ∨ ps.length < c) := fun z => z.elim g0 fun z => h (by omega)
    have kv0 := roT nn
    have kvr := roR nn
    have rs := rdS nn
    have js : (ps.map (·.length)).sum ≤ 360000 := by
      have := sum_bd (b := 60) (l := ps.map (·.length)) fun y hy => by
        obtain ⟨q, hq, rfl⟩ := List.mem_map.mp hy
        exact pm q hq
      rw [List.length_map] at this
      omega
    have z0 : ("" : Str).length = 0 := by decide +kernel
    have jl : (Txt.join "" ps).length ≤ 400000 := by rw [join_len]; omega
    clear no rdN rdS roT roR kn
    refine ⟨⟨"", rfl⟩, _, rfl, "", L, ps, rfl, rfl, .inl (SqL.of eL), (by rw [z0]; omega), ?_⟩
    generalize Txt.join "" ps = jz at jl kv0 rs ⊢
    refine ⟨jz, rfl, jl, fun D H4 s4 hD eD => ?_⟩
    have hA4 := s4 _ _ hA3
    have s04 := s03.trans s4
    have nD : H D = none := by
      cases q : H D with
      | none => rfl
      | some o => rw [s03 _ _ q] at hD; cases hD
    have okD : ∀ x ∈ cs.drop (1 + c), x.Ok := fun x hx => ok x (List.mem_of_mem_drop hx)
    refine ⟨_, rfl, _, rfl, _, _, rfl, rfl, _, rfl, A, _, rfl, SqL.of hA4, fun P2 hP2 => ?_⟩
    have ec2 : cutV (cs.map Cl.v) (some ((c : Int) + 1)) none = (cs.drop (1 + c)).map Cl.v := by
      have e := cutV_from (cs.map Cl.v) (c + 1)
      rw [Nat.add_comm 1 c]
      exact e.trans (by rw [List.map_drop])
    rw [ec2]
    have t5 := same_new (o := .lst ((cs.drop (1 + c)).map Cl.v)) hP2
    have eP2 : upd H4 P2 (.lst ((cs.drop (1 + c)).map Cl.v)) P2 = some (.lst ((cs.drop (1 + c)).map Cl.v)) := upd_same
    generalize upd H4 P2 (.lst ((cs.drop (1 + c)).map Cl.v)) = H5 at t5 eP2 ⊢
    refine ⟨_, rfl, P2, g, cs.drop (1 + c), rfl, eP2, okD, hg, by rw [List.length_drop]; omega, fun R H6 s6 hR eR => ?_⟩
    have eD6 := s6 _ _ (t5 _ _ eD)
    have RD : R ≠ D := fun z => by rw [z, t5 _ _ eD] at hR; cases hR
    have s06 := (s04.trans t5).trans s6
    have rz := recs_sz (sfR g 0 (cs.drop (1 + c))) "" (fun p hp => (sfR_mem okD p hp).2)
    have rlen := sfR_len (g := g) (cs.drop (1 + c)) 0
    have rl := recs_len (sfR g 0 (cs.drop (1 + c))) ""
    rw [List.length_drop] at rlen
    generalize recsL "" (sfR g 0 (cs.drop (1 + c))) = recs at eR kvr rs rz rl
    refine ⟨R, rfl, ⟨_, SqL.of eR⟩, ?_⟩
    refine for_list (K := K) (a := R) (xs := recs.map V.str) (fun i σ H' => ∃ v5 : Option V, σ = [some (.ref A), some (.int (g : Int)), some (.int (c : Int)), some (.ref L), some (.ref D), v5] ∧ KpF (· = D) H6 H' ∧ H' D = some (.dK ((recs.take i).foldl (fun t z => applyK t (rdCh z)) (rdCh jz)))) ?_ ?_ ?_ ?_
    · exact ⟨none, rfl, KpF.refl _ _, eD6⟩
    · exact (fun i σ H' _ ⟨_, _, q, _⟩ => SqL.of (q _ _ RD eR))
    · rintro i x σ H7 hi ⟨v5, rfl, k7, e7⟩
      rw [List.getElem?_map] at hi
      cases hu : recs[i]? with
      | none => rw [hu] at hi; cases hi
      | some z =>
        rw [hu] at hi
        obtain rfl : V.str z = x := Option.some.inj hi
        have zm := List.mem_of_getElem? hu
        have zl := rz z zm
        rw [z0] at zl
        have tk := fold_t9 (recs.take i) kv0 fun y hy => kvr y (List.mem_of_mem_take hy)
        have tz := kvr z zm
        have sc : (recs.take (i + 1)).foldl (fun t z => applyK t (rdCh z)) (rdCh jz) = applyK ((recs.take i).foldl (fun t z => applyK t (rdCh z)) (rdCh jz)) (rdCh z) := by
          rw [List.take_add_one, hu, List.foldl_append]
          rfl
        generalize (recs.take i).foldl (fun t z => applyK t (rdCh z)) (rdCh jz) = kv at e7 tk sc
        refine ⟨_, rfl, _, rfl, z, rfl, by omega, fun D2 H8 s8 hD2 eD2 => ?_⟩
        have e8 := s8 _ _ e7
        have DD : D ≠ D2 := fun q => by rw [← q, e7] at hD2; cases hD2
        refine ⟨D, D2, kv, rdCh z, rfl, e8, eD2, DD, by have := tk.len; omega, by have := tz.len; omega, fun H9 k9 e9 => ⟨_, rfl, (k7.trans (KpF.same s8)).trans k9, by rw [sc]; exact e9⟩⟩
    · rintro σ H7 ⟨v5, rfl, k7, e7⟩
      rw [List.length_map, List.take_length] at e7
      refine ⟨_, rfl, _, rfl, (by show 2 ≤ sizeLine; decide), fun t ht => ?_⟩
      refine ks g _ rs t D _ (fun b o e => ?_) nD (by rw [upd_ne (ne_of_none e7 ht)]; exact e7) upd_same
      have e6 := k7 _ _ (fun z => by rw [z, nD] at e; cases e) (s06 _ _ e)
      rw [upd_ne (ne_of_none e6 ht)]
      exact e6
end k15
namespace k15
open PySem L2 LC RM SM TL
def spread_areas : Sp := fun vs H Q _ => ∃ (AA A0 A1 : Addr) (c0 c1 : List Cl), vs = [.ref AA] ∧ H AA = some (.lst [.ref A0, .ref A1]) ∧ H A0 = some (.lst (c0.map Cl.v)) ∧ H A1 = some (.lst (c1.map Cl.v)) ∧ (∀ c ∈ c0, c.Ok) ∧ (∀ c ∈ c1, c.Ok) ∧ c0.length ≤ 6000 ∧ c1.length ≤ 6000 ∧ RdOk c0 ∧ RdOk c1 ∧
  (rdB c0 c1 = none → ∀ H', Same H H' → Q .non H') ∧ ∀ a g kv, rdB c0 c1 = some (a, g, kv) → ∀ (t D : Addr) H', Same H H' → H D = none → H' D = some (.dK kv) → H' t = some (.tup [.int (a : Int), .int (g : Int), .ref D]) → Q (.ref t) H'
theorem ok_read_areas {P : Program} {w : World} {K : PySem.W.Frag} {mg : Str → Option Value} {base : Heap} {f : Addr} {fd : FuncData} (D : Def K mg "read_areas" sread_areas Pread_areas f fd) (T : Txt K mg) {fread_area : Addr} {fdread_area : FuncData} (Dread_area : Def K mg "read_area" sread_area Pread_area fread_area fdread_area) (Gread_area : FnOk P w K mg base CX0 3 fread_area fdread_area Pread_area (spread_area)) :
    FnOk P w K mg base CX0 4 f fd Pread_areas (spread_areas) := by
  refine D.F.ok scread_areas (fun vs H Q E h => ?_) (fun cdv A outer s H vs Q E hr h => ?_)
  · obtain ⟨AA, A0, A1, c0, c1, rfl, hAA, h0, h1, ok0, ok1, l0, l1, r0, r1, kn, ks⟩ := h
    rfl
  · obtain ⟨AA, A0, A1, c0, c1, rfl, hAA, h0, h1, ok0, ok1, l0, l1, r0, r1, kn, ks⟩ := h
    have hrread_area : Room 3 _ := hr.mono (by decide)
    refine ⟨_, (pss_cons (ps_set (i := 1) scread_areas.nd rfl (Or.inl rfl) pe_non)
        (pss_cons (ps_for PassesOwn.never rfl (pi_enum (by rfl) T.n_enumerate (pa_cons (pv 0) pa_nil)) ((pg_tup rfl (pgs_cons (pg_name (i := 2) scread_areas.nd rfl (Or.inl rfl)) (pgs_cons (pg_name (i := 3) scread_areas.nd rfl (Or.inl rfl)) pgs_nil))))
          (pss_cons (ps_asg (pe_call Gread_area hrread_area rfl Dread_area.g Dread_area.F.kp Dread_area.b .nil pass0 (pa_cons (pv 3) pa_nil)) (pg_tup rfl (pgs_cons (pg_name (i := 4) scread_areas.nd rfl (Or.inl rfl)) (pgs_cons (pg_name (i := 5) scread_areas.nd rfl (Or.inr rfl)) pgs_nil))))
        (pss_one (ps_if (PW.pt (pw_and (pt_cmpR op_notN (pv 5) pe_non (nomark _)) (pw_and1 (PW.pt (pw_or (pt_cmpR op_isN (pv 1) pe_non (nomark _)) (pw_or1 (pt_cmpR op_gt (pv 4) (pe_ix ix_tup (pv 1) pe_int (fun _ _ => rfl)) (nomark _)))))))) (pss_one (ps_set (i := 1) scread_areas.nd rfl (Or.inl rfl) (pe_tup (pa_cons (pv 2) (pa_cons (pv 4) (pa_cons (pe_dc (own := [("key", 6)]) (g := gName 6) (tt := tYes) rfl scread_areas.nd (pi_list (pe_callB (call_sortedD rfl) (by rfl) T.n_sorted (by decide +kernel) (pa_cons (pv 5) pa_nil))) (blkOk_by (own := [("key", 6)]) (N := Nmread_areas) (sc := defScope sread_areas) (by decide +kernel)) (fun _ _ _ _ _ => pg_name (i := 6) scread_areas.nd rfl (Or.inl rfl)) (fun _ _ _ _ _ => pts_nil) (fun _ _ _ _ _ => (pv 6)) (fun _ _ _ _ _ => (pe_dget (hu_of hr) (pv 5) (pv 6) (fun _ _ => rfl)))) pa_nil)))))) pss_nil))))
        (pss_one (ps_ret (pv 1))))), ?_⟩
    obtain ⟨bs, hbs⟩ : ∃ bs : Nat → Option (Nat × Nat × List (Key × V)), bs = fun i => match i with | 0 => none | 1 => stepB none 0 (rdA c0) | _ => stepB (stepB none 0 (rdA c0)) 1 (rdA c1) := ⟨_, rfl⟩
    have b0 : bs 0 = none := by rw [hbs]; rfl
    have b2 : bs 2 = rdB c0 c1 := by rw [hbs, rdB_step]; rfl
    have nx : ∀ (i : Nat) (x : V), ([V.ref A0, V.ref A1])[i]? = some x → ∃ (C : Addr) (cs : List Cl), x = .ref C ∧ H C = some (.lst (cs.map Cl.v)) ∧ (∀ c ∈ cs, c.Ok) ∧ cs.length ≤ 6000 ∧ RdOk cs ∧ bs (i + 1) = stepB (bs i) i (rdA cs) := fun i x e => by
      match i, e with
      | 0, e => cases e; exact ⟨A0, c0, rfl, h0, ok0, l0, r0, by rw [hbs]; rfl⟩
      | 1, e => cases e; exact ⟨A1, c1, rfl, h1, ok1, l1, r1, by rw [hbs]; rfl⟩
    clear hbs
    refine ⟨_, rfl, AA, _, rfl, SqL.of hAA, ?_⟩
    refine for_it (walk_enum (K := K) (a := AA) (xs := [V.ref A0, V.ref A1])) (fun i σ H' => ∃ (v : V) (v2 v3 v4 v5 v6 : Option V), σ = [some (.ref AA), some v, v2, v3, v4, v5, v6] ∧ Same H H' ∧ BV H H' v (bs i)) ?_ ?_ ?_ ?_
    · exact ⟨.non, none, none, none, none, none, rfl, Same.refl _, by rw [b0]; rfl⟩
    · exact (fun i σ H' _ ⟨_, _, _, _, _, _, _, q, _⟩ => SqL.of (q _ _ hAA))
    · rintro i x σ H5 H6 hi ⟨v, v2, v3, v4, v5, v6, rfl, s5, bv⟩ ⟨T, x1, x2, rfl, hT, rfl, q1, q2⟩
      cases q1
      obtain ⟨C, cs, rfl, hC, okc, lc, ro, hb⟩ := nx i x2 q2
      have s6 := s5.trans (same_new (o := .tup [.int (i : Int), .ref C]) hT)
      have bv6 := bv.same (same_new (o := .tup [.int (i : Int), .ref C]) hT)
      have eT : upd H5 T (.tup [.int (i : Int), .ref C]) T = some (.tup [.int (i : Int), .ref C]) := upd_same
      generalize upd H5 T (.tup [.int (i : Int), .ref C]) = H6 at s6 bv6 eT ⊢
      refine ⟨T, _, rfl, SqT.of eT, rfl, _, _, rfl, _, _, rfl, rfl, ?_⟩
      refine ⟨_, rfl, C, cs, rfl, s6 _ _ hC, okc, lc, ro, fun hn t H7 s7 et => ?_, fun g kv hs t D H7 s7 nD eD et => ?_⟩
      · refine ⟨t, _, rfl, SqT.of et, rfl, _, _, rfl, _, _, rfl, rfl, ?_⟩
        refine ⟨_, rfl, rfl, _, rfl, iteF (iteF ⟨v, _, _, _, _, _, rfl, s6.trans s7, ?_⟩)⟩
        rw [hb, hn]
        exact bv6.same s7
      have s07 := s6.trans s7
      have bv7 := bv6.same s7
      have tk : T9 kv := ro.t9 hs
      have tb := tk.tab
      have fw := tb.few
      have kl := keysOf_len tb
      have nD0 : H D = none := by
        cases q : H D with
        | none => rfl
        | some o => rw [s6 _ _ q] at nD; cases nD
      refine ⟨t, _, rfl, SqT.of et, rfl, _, _, rfl, _, _, rfl, rfl, ?_⟩
      refine ⟨_, rfl, rfl, _, rfl, iteT ?_⟩
      have sl : (srt (keysOf kv)).length = kv.length := by rw [(srt_perm _).length_eq, kl]
      have go : ∀ (b : Option (Nat × Nat × List (Key × V))), bs i = b → BV H H7 v b → bs (i + 1) = some (i, g, srtK kv) ∨ (∃ y, b = some y ∧ ¬ y.2.1 < g ∧ bs (i + 1) = some y) := fun b e1 e2 => by
        rw [hb, hs, e1]
        cases b with
        | none => exact .inl rfl
        | some y =>
          by_cases c : y.2.1 < g
          · exact .inl (if_pos c)
          · exact .inr ⟨y, rfl, c, if_neg c⟩
      cases hbi : bs i with
      | none =>
        rw [hbi] at bv7
        obtain rfl : v = .non := bv7
        have fin : bs (i + 1) = some (i, g, srtK kv) := by rw [hb, hs, hbi]; rfl
        refine ⟨_, rfl, rfl, _, rfl, iteT (iteT ?_)⟩
        refine ⟨_, rfl, _, rfl, _, rfl, D, kv, keysOf kv, rfl, .inl eD, tb.keys, by omega, fun ys p hp hs' hn => ?_⟩
        obtain rfl : ys = srt (keysOf kv) := srt_of hp hs'
        have u1 := same_new (o := .lst ((srt (keysOf kv)).map V.str)) hn
        have e1 : upd H7 p (.lst ((srt (keysOf kv)).map V.str)) p = some (.lst ((srt (keysOf kv)).map V.str)) := upd_same
        generalize upd H7 p (.lst ((srt (keysOf kv)).map V.str)) = H8 at u1 e1 ⊢
        have s08 := s07.trans u1
        have eD8 := u1 _ _ eD
        refine ⟨p, rfl, ⟨_, SqL.of e1⟩, fun E1 hE1 => ?_⟩
        refine dc_it (walk_list (K := K) (a := p) (xs := (srt (keysOf kv)).map V.str)) (fun i H' => Same H8 H' ∧ H' E1 = some (.dK ((srtK kv).take i))) ⟨same_new hE1, upd_same⟩ (fun i H' _ ⟨s, _⟩ => s.seq (SqL.of e1)) ?_ ?_
        · rintro j x H9 H9' hj ⟨s9, d9⟩ ⟨rfl, hx⟩
          rw [List.length_map] at hj
          rw [List.getElem?_map, List.getElem?_eq_getElem hj] at hx
          cases hx
          have zm : (srt (keysOf kv))[j] ∈ keysOf kv := (srt_perm _).mem_iff.mp (List.getElem_mem hj)
          obtain ⟨w', hv, vv⟩ := tb.at_ zm
          refine ⟨rfl, _, rfl, _, rfl, _, rfl, D, w', rfl, .inl ⟨kv, .inr (srt (keysOf kv))[j], .inl (s9 _ _ eD8), rfl, hv.symm⟩, _, .inr (srt (keysOf kv))[j], rfl, d9, ?_, fun b u e => ?_, ?_⟩
          · rw [List.length_take]
            exact Nat.lt_of_le_of_lt (show _ ≤ 64 by omega) (by decide)
          · rw [upd_ne (ne_of_none e hE1)]
            exact s9 _ _ e
          · rw [upd_same, srtK_step tb hj hv]
        rintro H9 ⟨s9, d9⟩
        rw [List.length_map, List.take_of_length_le (by unfold srtK; rw [List.length_map]; exact Nat.le_refl _)] at d9
        have s09 := s08.trans s9
        have nE : H E1 = none := by
          cases q : H E1 with
          | none => rfl
          | some o => rw [s08 _ _ q] at hE1; cases hE1
        refine ⟨(by show 3 ≤ sizeLine; decide), fun t2 ht2 => ⟨V.ref t2, _, _, _, _, _, rfl, s09.trans (same_new ht2), ?_⟩⟩
        rw [fin]
        exact ⟨t2, E1, rfl, nE, by rw [upd_ne (ne_of_none d9 ht2)]; exact d9, upd_same⟩
      | some y =>
        rw [hbi] at bv7
        obtain ⟨t', D', rfl, e2, e3, e4⟩ := bv7
        refine ⟨_, rfl, rfl, _, rfl, iteF ?_⟩
        refine ⟨_, rfl, _, rfl, _, _, _, _, rfl, rfl, SqT.of e4, rfl, _, _, rfl, rfl, _, rfl, ite_d (fun c => ?_) (fun c => ?_)⟩
        · have fin : bs (i + 1) = some (i, g, srtK kv) := by rw [hb, hs, hbi]; exact if_pos (by omega)
          refine ⟨_, rfl, _, rfl, _, rfl, D, kv, keysOf kv, rfl, .inl eD, tb.keys, by omega, fun ys p hp hs' hn => ?_⟩
          obtain rfl : ys = srt (keysOf kv) := srt_of hp hs'
          have u1 := same_new (o := .lst ((srt (keysOf kv)).map V.str)) hn
          have e1 : upd H7 p (.lst ((srt (keysOf kv)).map V.str)) p = some (.lst ((srt (keysOf kv)).map V.str)) := upd_same
          generalize upd H7 p (.lst ((srt (keysOf kv)).map V.str)) = H8 at u1 e1 ⊢
          have s08 := s07.trans u1
          have eD8 := u1 _ _ eD
          refine ⟨p, rfl, ⟨_, SqL.of e1⟩, fun E1 hE1 => ?_⟩
          refine dc_it (walk_list (K := K) (a := p) (xs := (srt (keysOf kv)).map V.str)) (fun i H' => Same H8 H' ∧ H' E1 = some (.dK ((srtK kv).take i))) ⟨same_new hE1, upd_same⟩ (fun i H' _ ⟨s, _⟩ => s.seq (SqL.of e1)) ?_ ?_
          · rintro j x H9 H9' hj ⟨s9, d9⟩ ⟨rfl, hx⟩
            rw [List.length_map] at hj
            rw [List.getElem?_map, List.getElem?_eq_getElem hj] at hx
            cases hx
            have zm : (srt (keysOf kv))[j] ∈ keysOf kv := (srt_perm _).mem_iff.mp (List.getElem_mem hj)
            obtain ⟨w', hv, vv⟩ := tb.at_ zm
            refine ⟨rfl, _, rfl, _, rfl, _, rfl, D, w', rfl, .inl ⟨kv, .inr (srt (keysOf kv))[j], .inl (s9 _ _ eD8), rfl, hv.symm⟩, _, .inr (srt (keysOf kv))[j], rfl, d9, ?_, fun b u e => ?_, ?_⟩
            · rw [List.length_take]
              exact Nat.lt_of_le_of_lt (show _ ≤ 64 by omega) (by decide)
            · rw [upd_ne (ne_of_none e hE1)]
              exact s9 _ _ e
            · rw [upd_same, srtK_step tb hj hv]
          rintro H9 ⟨s9, d9⟩
          rw [List.length_map, List.take_of_length_le (by unfold srtK; rw [List.length_map]; exact Nat.le_refl _)] at d9
          have s09 := s08.trans s9
          have nE : H E1 = none := by
            cases q : H E1 with
            | none => rfl
            | some o => rw [s08 _ _ q] at hE1; cases hE1
          refine ⟨(by show 3 ≤ sizeLine; decide), fun t2 ht2 => ⟨V.ref t2, _, _, _, _, _, rfl, s09.trans (same_new ht2), ?_⟩⟩
          rw [fin]
          exact ⟨t2, E1, rfl, nE, by rw [upd_ne (ne_of_none d9 ht2)]; exact d9, upd_same⟩
        · have fin : bs (i + 1) = some y := by rw [hb, hs, hbi]; exact if_neg (by omega)
          exact ⟨_, _, _, _, _, _, rfl, s07, by rw [fin]; exact ⟨t', D', rfl, e2, e3, e4⟩⟩
    · rintro σ H5 ⟨v, v2, v3, v4, v5, v6, rfl, s5, bv⟩
      have bv : BV H H5 v (bs 2) := bv
      rw [b2] at bv
      cases q : rdB c0 c1 with
      | none =>
        rw [q] at bv
        obtain rfl : v = .non := bv
        exact ⟨_, rfl, kn q H5 s5⟩
      | some y =>
        rw [q] at bv
        obtain ⟨a, g, kv⟩ := y
        obtain ⟨t, D, rfl, e2, e3, e4⟩ := bv
        exact ⟨_, rfl, ks a g kv q t D H5 s5 e2 e3 e4⟩
end k15
namespace k15
open PySem L2 LC RM SM TL
def spcheck_cut (K : PySem.W.Frag) : Sp := fun vs H Q _ => ∃ (C : Addr) (ws : List Wd), vs = [.ref C] ∧ CutAt K H C ws ∧ ∀ H', Same H H' → Q .non H'
theorem ok_check_cut {P : Program} {w : World} {K : PySem.W.Frag} {mg : Str → Option Value} {base : Heap} {f : Addr} {fd : FuncData} (D : Def K mg "check_cut" scheck_cut Pcheck_cut f fd) (T : Txt K mg) {r : Ar} (KR : Kr K mg r) :
    FnOk P w K mg base CX0 1 f fd Pcheck_cut (spcheck_cut K) := by
  refine D.F.ok sccheck_cut (fun vs H Q E h => ?_) (fun cdv A outer s H vs Q E hr h => ?_)
  · obtain ⟨C, ws, rfl, hc, k⟩ := h
    rfl
  · obtain ⟨C, ws, rfl, hc, k⟩ := h
    refine ⟨_, (pss_cons (ps_if (pt_not (pt_val (pe_callB call_isiT (by rfl) T.n_isinstance (by decide +kernel) (pa_cons (pv 0) (pa_cons (pe_tup (pa_cons (pe_ty "list" (by rfl) T.n_list (by decide +kernel)) (pa_cons (pe_ty "tuple" (by rfl) T.n_tuple (by decide +kernel)) pa_nil))) pa_nil))))) (pss_one LC.ps_never) pss_nil)
        (pss_one (ps_for PassesOwn.never rfl (LO.pi_or (pi_enum (by rfl) T.n_enumerate (pa_cons (pv 0) pa_nil)) (LN.pi_enumT (by rfl) T.n_enumerate (pa_cons (pv 0) pa_nil))) ((pg_tup rfl (pgs_cons (pg_name (i := 1) sccheck_cut.nd rfl (Or.inl rfl)) (pgs_cons (pg_name (i := 2) sccheck_cut.nd rfl (Or.inl rfl)) pgs_nil))))
          (pss_one (ps_if (pt_cmpR op_notIn_seq (pv 2) (pe_glob rfl KR.gcw (show RelV (.ref r.cw) _ from rfl)) (by rfl)) (pss_one LC.ps_never) pss_nil))))), ?_⟩
    refine ⟨_, rfl, (by show 2 ≤ sizeLine; decide), fun t1 ht1 => ?_⟩
    have s1 := same_new (o := .tup [.ty "list", .ty "tuple"]) ht1
    obtain ⟨ty, tx, ka⟩ := (hc.same s1).ty
    refine ⟨_, t1, _, _, _, true, rfl, upd_same, .cons (.ty _) (.cons (.ty _) .nil), tx, ka, _, rfl, iteF ?_⟩
    have hc1 := hc.same s1
    generalize upd H t1 (.tup [.ty "list", .ty "tuple"]) = H1 at s1 hc1 ⊢
    clear ka tx
    rcases hc1.seq with sq | sq
    · refine .inl ⟨_, rfl, C, _, rfl, sq, ?_⟩
      refine for_it (walk_enum (K := K) (a := C) (xs := ws.map Wd.v)) (fun i σ H' => ∃ v1 v2 : Option V, σ = [some (.ref C), v1, v2] ∧ Same H1 H') ?_ ?_ ?_ ?_
      · exact ⟨none, none, rfl, Same.refl _⟩
      · exact (fun i σ H' _ ⟨_, _, _, q⟩ => q.seq sq)
      · rintro i x σ H2 H3 hi ⟨v1, v2, rfl, s2⟩ ⟨T, x1, x2, rfl, hT, rfl, q1, q2⟩
        cases q1
        have q2 : (ws.map Wd.v)[i]? = some x2 := q2
        rw [List.getElem?_map] at q2
        cases hu : ws[i]? with
        | none => rw [hu] at q2; cases q2
        | some wd =>
          rw [hu] at q2
          obtain rfl : wd.v = x2 := Option.some.inj q2
          refine ⟨T, _, rfl, SqT.of upd_same, rfl, _, _, rfl, _, _, rfl, rfl, ?_⟩
          refine ⟨_, rfl, r.cw, _, rfl, .inr (KR.cwt _), rfl, rfl, _, rfl, ?_⟩
          rw [wd_in wd]
          exact iteF ⟨_, _, rfl, s2.trans (same_new hT)⟩
      · rintro σ H2 ⟨v1, v2, rfl, s2⟩
        exact k H2 (s1.trans s2)
    · refine .inr ⟨_, rfl, C, _, rfl, sq, ?_⟩
      refine for_it (LN.walk_enumT (K := K) (a := C) (xs := ws.map Wd.v)) (fun i σ H' => ∃ v1 v2 : Option V, σ = [some (.ref C), v1, v2] ∧ Same H1 H') ?_ ?_ ?_ ?_
      · exact ⟨none, none, rfl, Same.refl _⟩
      · exact (fun i σ H' _ ⟨_, _, _, q⟩ => sameT q sq)
      · rintro i x σ H2 H3 hi ⟨v1, v2, rfl, s2⟩ ⟨T, x1, x2, rfl, hT, rfl, q1, q2⟩
        cases q1
        have q2 : (ws.map Wd.v)[i]? = some x2 := q2
        rw [List.getElem?_map] at q2
        cases hu : ws[i]? with
        | none => rw [hu] at q2; cases q2
        | some wd =>
          rw [hu] at q2
          obtain rfl : wd.v = x2 := Option.some.inj q2
          refine ⟨T, _, rfl, SqT.of upd_same, rfl, _, _, rfl, _, _, rfl, rfl, ?_⟩
          refine ⟨_, rfl, r.cw, _, rfl, .inr (KR.cwt _), rfl, rfl, _, rfl, ?_⟩
          rw [wd_in wd]
          exact iteF ⟨_, _, rfl, s2.trans (same_new hT)⟩
      · rintro σ H2 ⟨v1, v2, rfl, s2⟩
        exact k H2 (s1.trans s2)
end k15
namespace k15
open PySem L2 LC RM SM TL
def spDisk_check_awake (r : Ar) : Sp := fun vs H Q _ => ∃ (d dx T AA U : Addr) (S : DS), vs = [.ref d] ∧ H d = some (.ins r.c dx (dF S T AA U)) ∧ S.fal = false ∧ Q .non H
theorem ok_Disk_check_awake {P : Program} {w : World} {K : PySem.W.Frag} {mg : Str → Option Value} {base : Heap} {f : Addr} {fd : FuncData} (F0 : Fun K "check_awake" "Disk.check_awake" sDisk_check_awake f fd) (T : Txt K mg) {r : Ar} (KR : Kr K mg r) :
    FnOk P w K mg base CX0 1 f fd PDisk_check_awake (spDisk_check_awake r) := by
  refine F0.ok scDisk_check_awake (fun vs H Q E h => ?_) (fun cdv A outer s H vs Q E hr h => ?_)
  · obtain ⟨d, dx, T, AA, U, S, rfl, hd, hf, k⟩ := h
    rfl
  · obtain ⟨d, dx, T, AA, U, S, rfl, hd, hf, k⟩ := h
    refine ⟨_, (pss_one (ps_if (pt_val (pe_fld (pv 0) rfl)) (pss_one LC.ps_never) pss_nil)), ?_⟩
    exact ⟨_, rfl, d, r.c, dx, _, _, rfl, hd, KR.cl, KR.n_fallen, rfl, _, rfl, by rw [hf]; exact iteF k⟩
end k15
namespace k15
open PySem L2 LC RM SM TL
def spDisk_put (r : Ar) : Sp := fun vs H Q _ => ∃ (d : Addr) (F : Addr → Prop) (S : DS) (a : Int) (z : Str), vs = [.ref d, .int a, .str z] ∧ DiskAt r F H d S ∧ S.op.length ≤ 1000000 ∧ ∀ H', Chg r F H H' d (S.put a z) → Q .non H'
theorem ok_Disk_put {P : Program} {w : World} {K : PySem.W.Frag} {mg : Str → Option Value} {base : Heap} {f : Addr} {fd : FuncData} (F0 : Fun K "put" "Disk.put" sDisk_put f fd) (T : Txt K mg) {r : Ar} (KR : Kr K mg r) :
    FnOk P w K mg base CX0 1 f fd PDisk_put (spDisk_put r) := by
  refine F0.ok scDisk_put (fun vs H Q E h => ?_) (fun cdv A outer s H vs Q E hr h => ?_)
  · obtain ⟨d, F, S, a, z, rfl, ⟨dx, T, AA, A0, A1, U, ts, h⟩, hl, k⟩ := h
    rfl
  · obtain ⟨d, F, S, a, z, rfl, ⟨dx, T, AA, A0, A1, U, ts, h⟩, hl, k⟩ := h
    refine ⟨_, (pss_one (ps_if (pt_not (pt_val (pe_fld (pv 0) rfl))) (pss_one (ps_expr (pe_bm PySem.F.plainAttrs_list PySem.F.slot_list_append PySem.F.type_list_append mt_append (pe_fld (pv 0) rfl) (pa_cons (pe_tup (pa_cons (pe_fld (pv 0) rfl) (pa_cons (pv 1) (pa_cons (pv 2) pa_nil)))) pa_nil)))) pss_nil)), ?_⟩
    have ll := h.op.len
    refine ⟨_, rfl, d, r.c, dx, _, _, rfl, h.hd, KR.cl, KR.n_halted, rfl, _, rfl, iteT ?_⟩
    refine ⟨_, rfl, d, r.c, dx, _, _, rfl, h.hd, KR.cl, KR.n_unsynced, rfl, .inl ⟨rfl, _, SqL.of h.u⟩, _, rfl, d, r.c, dx, _, _, rfl, h.hd, KR.cl, KR.n_area, rfl, _, rfl, _, rfl, (by show 3 ≤ sizeLine; decide), fun t ht => ?_⟩
    have eU : upd H t (.tup [.int S.side, .int a, .str z]) U = some (.lst (ts.map V.ref)) := by rw [upd_ne (ne_of_none h.u ht)]; exact h.u
    refine ⟨U, _, _, rfl, rfl, eU, by rw [List.length_map, ll]; exact Nat.lt_of_le_of_lt hl (by decide), k _ (h.put ht)⟩
end k15
namespace k15
open PySem L2 LC RM SM TL
def spDisk_keep (r : Ar) : Sp := fun vs H Q _ => ∃ (d : Addr) (F : Addr → Prop) (S : DS) (q : Op) (dx T AA A0 A1 U : Addr) (ts : List Addr), vs = [.ref d, .int q.1, .int q.2.1, .str q.2.2] ∧ DiskX r F H d S dx T AA A0 A1 U ts ∧ (q.1 = 0 ∨ q.1 = 1) ∧ 0 ≤ q.2.1 ∧ q.2.1 ≤ 1000000 ∧ ∀ H', ChgK r F H H' d (S.keep q) dx T AA A0 A1 U ts → Q .non H'
theorem ok_Disk_keep {P : Program} {w : World} {K : PySem.W.Frag} {mg : Str → Option Value} {base : Heap} {f : Addr} {fd : FuncData} (F0 : Fun K "keep" "Disk.keep" sDisk_keep f fd) (T : Txt K mg) {r : Ar} (KR : Kr K mg r) :
    FnOk P w K mg base CX0 1 f fd PDisk_keep (spDisk_keep r) := by
  refine F0.ok scDisk_keep (fun vs H Q E h => ?_) (fun cdv A outer s H vs Q E hr h => ?_)
  · obtain ⟨d, F, S, ⟨a, i, z⟩, dx, Dt, AA, A0, A1, U, ts, rfl, h, ha, i0, i1, k⟩ := h
    rfl
  · obtain ⟨d, F, S, ⟨a, i, z⟩, dx, Dt, AA, A0, A1, U, ts, rfl, h, ha, i0, i1, k⟩ := h
    refine ⟨_, (pss_cons (ps_set (i := 4) scDisk_keep.nd rfl (Or.inl rfl) (pe_ix ix_list (pe_fld (pv 0) rfl) (pv 1) (fun _ _ => rfl)))
        (pss_cons (ps_while PassesOwn.never (pt_cmpR op_le (pe_callB call_len_seq (by rfl) T.n_len PySem.boot_len (pa_cons (pv 4) pa_nil)) (pv 2) (nomark _)) (pss_one (ps_expr (pe_bm PySem.F.plainAttrs_list PySem.F.slot_list_append PySem.F.type_list_append mt_append (pv 4) (pa_cons pe_non pa_nil)))))
        (pss_one (ps_asg (pv 3) (pg_sub (pv 4) (pv 2) set_list))))), ?_⟩
    obtain ⟨iN, rfl⟩ : ∃ iN : Nat, i = iN := ⟨i.toNat, by have : (0 : Int) ≤ i := i0; omega⟩
    have i1 : (iN : Int) ≤ 1000000 := i1
    obtain ⟨jn, C, M, ja, ej, eC, fin⟩ : ∃ (jn : Nat) (C : Addr) (M : List (Key × V)), a = jn ∧ ([V.ref A0, V.ref A1])[jn]? = some (.ref C) ∧ H C = some (.lst (cells M)) ∧ ∀ H', KpF (· = C) H H' → H' C = some (.lst (cells (putK M (.inl (iN : Int)) (.str z)))) → ChgK r F H H' d (S.keep (a, (iN : Int), z)) dx Dt AA A0 A1 U ts := by
      rcases ha with e | e
      · obtain rfl : a = 0 := e
        exact ⟨0, A0, S.m0, rfl, rfl, h.a0, fun H' kp e => h.keep0 kp e⟩
      · obtain rfl : a = 1 := e
        exact ⟨1, A1, S.m1, rfl, rfl, h.a1, fun H' kp e => h.keep1 kp e⟩
    subst ja
    refine ⟨_, rfl, d, r.c, dx, _, _, rfl, h.hd, KR.cl, KR.n_areas, rfl, _, rfl, _, _, _, _, rfl, rfl, SqL.of h.aa, atI_nat ej, ?_⟩
    have cl := cells_len M
    refine ⟨fun m σ H' => ∃ k : Nat, σ = [some (.ref d), some (.int (jn : Int)), some (.int (iN : Int)), some (.str z), some (.ref C)] ∧ KpF (· = C) H H' ∧ H' C = some (.lst (cells M ++ List.replicate k V.non)) ∧ k ≤ iN + 1 - bnd M ∧ m = (iN + 1 - bnd M) - k, ⟨_, 0, rfl, KpF.refl _ H, by rw [eC]; exact congrArg some (congrArg HO.lst (List.append_nil _).symm), Nat.zero_le _, rfl⟩, ?_⟩
    rintro m σ H1 ⟨n, rfl, k1, e1, n1, rfl⟩
    have ln : (cells M ++ List.replicate n V.non).length = bnd M + n := by rw [List.length_append, cl, List.length_replicate]
    refine ⟨_, rfl, C, _, rfl, .inl (SqL.of e1), _, rfl, _, _, rfl, rfl, _, rfl, ite_d (fun hc => ?_) (fun hc => ?_)⟩
    · rw [ln] at hc
      refine ⟨_, fun σ' H' z => z, _, rfl, .inl ⟨rfl, _, SqL.of e1⟩, C, _, _, rfl, rfl, e1, by rw [ln]; exact Nat.lt_of_le_of_lt (show _ ≤ 1000000 by omega) (by decide), ?_⟩
      refine ⟨(iN + 1 - bnd M) - (n + 1), by omega, n + 1, rfl, k1.upd rfl, by rw [upd_same, List.append_assoc, List.replicate_succ'], by omega, rfl⟩
    · rw [ln] at hc
      have en : n = iN + 1 - bnd M := by omega
      have ix : ixN (bnd M + n) (iN : Int) = some iN := by
        unfold ixN
        rw [if_pos (by omega), if_pos (by omega)]
        rfl
      refine ⟨_, rfl, _, rfl, _, rfl, C, _, _, iN, rfl, rfl, e1, by rw [ln]; exact ix, k _ (fin _ (k1.upd rfl) ?_)⟩
      rw [upd_same, cells_put, en]
end k15
namespace k15
open PySem L2 LC RM SM TL
def spDisk_sync (r : Ar) : Sp := fun vs H Q _ => ∃ (d : Addr) (F : Addr → Prop) (S : DS), vs = [.ref d] ∧ DiskAt r F H d S ∧ OpsOk S ∧ ∀ H', Chg r F H H' d S.sync → Q .non H'
theorem ok_Disk_sync {P : Program} {w : World} {K : PySem.W.Frag} {mg : Str → Option Value} {base : Heap} {f : Addr} {fd : FuncData} (F0 : Fun K "sync" "Disk.sync" sDisk_sync f fd) (T : Txt K mg) {r : Ar} (KR : Kr K mg r) {fdRcheck_awake : FuncData} (GDisk_check_awake : FnOk P w K mg base CX0 1 r.fawake fdRcheck_awake PDisk_check_awake (spDisk_check_awake r)) (BDisk_check_awake : Binds K fdRcheck_awake PDisk_check_awake []) {fdRkeep : FuncData} (GDisk_keep : FnOk P w K mg base CX0 1 r.fkeep fdRkeep PDisk_keep (spDisk_keep r)) (BDisk_keep : Binds K fdRkeep PDisk_keep []) :
    FnOk P w K mg base CX0 2 f fd PDisk_sync (spDisk_sync r) := by
  refine F0.ok scDisk_sync (fun vs H Q E h => ?_) (fun cdv A outer s H vs Q E hr h => ?_)
  · obtain ⟨d, F, S, rfl, ⟨dx, Dt, AA, A0, A1, U, ts, h⟩, ok, k⟩ := h
    rfl
  · obtain ⟨d, F, S, rfl, ⟨dx, Dt, AA, A0, A1, U, ts, h⟩, ok, k⟩ := h
    have hrDisk_check_awake : Room 1 _ := hr
    have hrDisk_keep : Room 1 _ := hr
    refine ⟨_, (pss_cons (ps_expr (pe_meth0 (pv 0) KR.cl KR.mcheck_awake GDisk_check_awake hrDisk_check_awake BDisk_check_awake .nil pass0))
        (pss_one (ps_if (pt_val (pe_fld (pv 0) rfl)) (pss_one (ps_fld (pv 0) pe_bl rfl)) (pss_one (ps_if (pt_cmpR op_gt (pe_callB call_len_seq (by rfl) T.n_len PySem.boot_len (pa_cons (pe_fld (pv 0) rfl) pa_nil)) pe_int (nomark _)) (pss_cons (ps_for PassesOwn.never rfl (pi_list (pe_fld (pv 0) rfl)) ((pg_tup rfl (pgs_cons (pg_name (i := 1) scDisk_sync.nd rfl (Or.inl rfl)) (pgs_cons (pg_name (i := 2) scDisk_sync.nd rfl (Or.inl rfl)) (pgs_cons (pg_name (i := 3) scDisk_sync.nd rfl (Or.inl rfl)) pgs_nil)))))
          (pss_one (ps_expr (pe_meth (pv 0) KR.cl KR.mkeep GDisk_keep hrDisk_keep BDisk_keep .nil pass0 (pa_cons (pv 1) (pa_cons (pv 2) (pa_cons (pv 3) pa_nil)))))))
        (pss_cons (ps_fld (pv 0) (pe_lst pa_nil) rfl)
        (pss_one (ps_fldaug (pv 0) pe_int ip_add)))) pss_nil))))), ?_⟩
    have ll := h.op.len
    have lo := ok.len
    refine ⟨_, rfl, d, dx, _, rfl, h.hd, rfl, d, dx, Dt, AA, U, S, rfl, h.hd, ok.fal, ?_⟩
    refine ⟨_, rfl, d, r.c, dx, _, _, rfl, h.hd, KR.cl, KR.n_halts, rfl, _, rfl, iteF ?_⟩
    refine ⟨_, rfl, d, r.c, dx, _, _, rfl, h.hd, KR.cl, KR.n_unsynced, rfl, U, _, rfl, .inl (SqL.of h.u), _, _, rfl, rfl, _, rfl, ite_d (fun hc => ?_) (fun hc => ?_)⟩
    rotate_left
    · rw [List.length_map, ll] at hc
      have e : S.op = [] := List.length_eq_zero_iff.mp (by omega)
      have es : S.sync = S := by unfold DS.sync; rw [if_pos e]
      refine k H ?_
      rw [es]
      exact Chg.refl ⟨dx, Dt, AA, A0, A1, U, ts, h⟩
    rw [List.length_map, ll] at hc
    have ne : S.op ≠ [] := fun z => by rw [z] at hc; exact absurd hc (by decide)
    refine ⟨_, rfl, d, r.c, dx, _, _, rfl, h.hd, KR.cl, KR.n_unsynced, rfl, U, rfl, ⟨_, SqL.of h.u⟩, for_list (K := K) (a := U) (xs := ts.map V.ref) (fun i σ H' => ∃ v1 v2 v3 : Option V, σ = [some (.ref d), v1, v2, v3] ∧ KpF F H H' ∧ DiskX r F H' d ((S.op.take i).foldl DS.keep S) dx Dt AA A0 A1 U ts)
      ⟨none, none, none, rfl, KpF.refl F H, h⟩ (fun i σ H' _ ⟨_, _, _, _, _, h'⟩ => SqL.of h'.u) ?_ ?_⟩
    · rintro i x σ H1 hi ⟨v1, v2, v3, rfl, k1, h1⟩
      rw [List.getElem?_map] at hi
      cases hu : ts[i]? with
      | none => rw [hu] at hi; cases hi
      | some t =>
        rw [hu] at hi
        cases hi
        have e2 := (fold_same (S.op.take i) S).2.1
        obtain ⟨q, hq, ft, et⟩ := h1.op.get hu
        rw [e2] at hq
        have qm := ok.ar q (List.mem_of_getElem? hq)
        refine ⟨t, _, rfl, SqT.of et, rfl, _, _, rfl, _, _, rfl, _, _, rfl, rfl, ?_⟩
        refine ⟨_, rfl, d, dx, _, rfl, h1.hd, rfl, _, rfl, _, rfl, _, rfl, d, F, _, q, dx, Dt, AA, A0, A1, U, ts, rfl, h1, qm.1, qm.2.1, qm.2.2, fun H2 ⟨k2, h2⟩ => ⟨_, _, _, rfl, k1.trans k2, ?_⟩⟩
        rw [List.take_add_one, hq, List.foldl_append]
        exact h2
    · rintro σ H1 ⟨v1, v2, v3, rfl, k1, h1⟩
      rw [List.length_map, ll, List.take_length] at h1
      obtain ⟨f1, f2, f3, f4, f5, f6, f7, f8⟩ := fold_same S.op S
      refine ⟨Nat.zero_le _, fun N hN => ?_⟩
      have dN : d ≠ N := ne_of_none h1.hd hN
      have hd1 : upd H1 N (.lst []) d = _ := (upd_ne dN).trans h1.hd
      refine ⟨_, rfl, d, r.c, dx, _, rfl, hd1, KR.cl, KR.n_unsynced, (by show 12 < 1000; decide), ?_⟩
      refine ⟨_, rfl, d, r.c, dx, _, _, rfl, upd_same, KR.cl, KR.n_syncs, rfl, _, _, rfl, rfl, dx, _, upd_same, (by show 12 < 1000; decide), k _ ?_⟩
      rw [upd_upd]
      have es : S.sync = { S.op.foldl DS.keep S with op := [], syn := S.syn + 1 } := by unfold DS.sync; rw [if_neg ne]
      rw [es]
      have hN0 : H N = none := by
        cases e : H N with
        | none => rfl
        | some o =>
          by_cases c : F N
          · obtain ⟨o', e'⟩ := h1.al N c
            rw [e'] at hN
            cases hN
          · rw [k1 _ _ c e] at hN
            cases hN
      have fin := h1.store (S' := { S.op.foldl DS.keep S with op := [], syn := S.syn + 1 }) hN rfl rfl rfl rfl
      refine ⟨fun b => F b ∨ b = N, fun b o n e => ?_, ⟨dx, Dt, AA, A0, A1, N, [], ?_⟩, fun b hb => hb.elim .inl fun z => .inr (z ▸ hN0)⟩
      · have nb : b ≠ d := fun z => n (by rw [z]; exact h1.fd)
        rw [upd_ne nb, upd_ne (ne_of_none e hN0)]
        exact k1 _ _ n e
      · have ed : putF "_syncs" (.int ((S.op.foldl DS.keep S).syn + 1)) (putF "_unsynced" (.ref N) (dF (S.op.foldl DS.keep S) Dt AA U)) = dF { S.op.foldl DS.keep S with op := [], syn := S.syn + 1 } Dt AA N := by
          rw [f8]
          rfl
        show DiskX r _ (upd (upd H1 N (.lst [])) d (.ins r.c dx (putF "_syncs" (.int ((S.op.foldl DS.keep S).syn + 1)) (putF "_unsynced" (.ref N) (dF (S.op.foldl DS.keep S) Dt AA U))))) _ _ _ _ _ _ _ _ _
        rw [ed]
        exact fin
end k15
namespace k15
open PySem L2 LC RM SM TL
def spDisk_check (r : Ar) : Sp := fun vs H Q _ => ∃ (d : Addr) (F : Addr → Prop) (S : DS) (hard : Bool), vs = [.ref d, .bl hard] ∧ DiskAt r F H d S ∧ DSok S ∧ ∀ H', Chg r F H H' d (S.check hard) → Q .non H'
theorem ok_Disk_check {P : Program} {w : World} {K : PySem.W.Frag} {mg : Str → Option Value} {base : Heap} {f : Addr} {fd : FuncData} (F0 : FunD K "check" "Disk.check" (defArgs sDisk_check) (defBody sDisk_check) (defScope sDisk_check) [] [("synced", V.bl true)] f fd) (T : Txt K mg) {r : Ar} (KR : Kr K mg r) {fdRcheck_awake : FuncData} (GDisk_check_awake : FnOk P w K mg base CX0 1 r.fawake fdRcheck_awake PDisk_check_awake (spDisk_check_awake r)) (BDisk_check_awake : Binds K fdRcheck_awake PDisk_check_awake []) {fdRsync : FuncData} (GDisk_sync : FnOk P w K mg base CX0 2 r.fsync fdRsync PDisk_sync (spDisk_sync r)) (BDisk_sync : Binds K fdRsync PDisk_sync []) {fdRput : FuncData} (GDisk_put : FnOk P w K mg base CX0 1 r.fput fdRput PDisk_put (spDisk_put r)) (BDisk_put : Binds K fdRput PDisk_put []) {fchanges_text : Addr} {fdchanges_text : FuncData} (Dchanges_text : Def K mg "changes_text" schanges_text Pchanges_text fchanges_text fdchanges_text) (Gchanges_text : FnOk P w K mg base CX0 1 fchanges_text fdchanges_text Pchanges_text (spchanges_text)) {fstretches : Addr} {fdstretches : FuncData} (Dstretches : Def K mg "stretches" sstretches Pstretches fstretches fdstretches) (Gstretches : FnOk P w K mg base CX0 1 fstretches fdstretches Pstretches (spstretches)) :
    FnOk P w K mg base CX0 3 f fd PDisk_check (spDisk_check r) := by
  refine okD F0 scDisk_check (fun vs H Q E h => ?_) (fun cdv A outer s H vs Q E hr h => ?_)
  · obtain ⟨d, F, S, hard, rfl, ⟨dx, Dt, AA, A0, A1, U, ts, h⟩, ok, k⟩ := h
    rfl
  · obtain ⟨d, F, S, hard, rfl, ⟨dx, Dt, AA, A0, A1, U, ts, h⟩, ok, k⟩ := h
    have hrchanges_text : Room 1 _ := hr.mono (by decide)
    have hrstretches : Room 1 _ := hr.mono (by decide)
    have hrDisk_check_awake : Room 1 _ := hr.mono (by decide)
    have hrDisk_sync : Room 2 _ := hr.mono (by decide)
    have hrDisk_put : Room 1 _ := hr.mono (by decide)
    refine ⟨_, (pss_cons (ps_expr (pe_meth0 (pv 0) KR.cl KR.mcheck_awake GDisk_check_awake hrDisk_check_awake BDisk_check_awake .nil pass0))
        (Evl.pss_cut (ps_if (pt_val (pe_callB (cr_any rfl) (by rfl) T.n_any (by decide +kernel) (pa_cons (pe_lc (own := [("area", 5), ("at", 2), ("_", 6)]) (g := gTup _ 3 (gCons (gName 5) (gCons (gName 2) (gCons (gName 6) gNil)))) (tt := tYes) rfl scDisk_check.nd (pi_list (pe_fld (pv 0) rfl)) (blkOk_by (own := [("area", 5), ("at", 2), ("_", 6)]) (N := NmDisk_check) (sc := defScope sDisk_check) (by decide +kernel)) (fun _ _ _ _ _ => by exact (pg_tup rfl (pgs_cons (pg_name (i := 5) scDisk_check.nd rfl (Or.inl rfl)) (pgs_cons (pg_name (i := 2) scDisk_check.nd rfl (Or.inl rfl)) (pgs_cons (pg_name (i := 6) scDisk_check.nd rfl (Or.inl rfl)) pgs_nil))))) (fun _ _ _ _ _ => pts_nil) (fun _ _ _ _ _ => (pe_and (pe_cmpR op_eq (pv 5) (show PE _ _ (tFld K _ "_area") from pe_fld (pv 0) rfl) (nomark _)) (pe_one (pe_cmpR op_eq (pv 2) pe_int (nomark _)))))) pa_nil))) (pss_one (ps_expr (pe_meth0 (pv 0) KR.cl KR.msync GDisk_sync hrDisk_sync BDisk_sync .nil pass0))) pss_nil)
        (pss_cons (ps_set (i := 3) scDisk_check.nd rfl (Or.inl rfl) (pe_call Gstretches hrstretches rfl Dstretches.g Dstretches.F.kp Dstretches.b .nil pass0 (pa_cons (pe_call Gchanges_text hrchanges_text rfl Dchanges_text.g Dchanges_text.F.kp Dchanges_text.b .nil pass0 (pa_cons (pe_fld (pv 0) rfl) pa_nil)) (pa_cons (pe_con (pv 0) rfl) pa_nil))))
        (pss_cons (ps_fld (pv 0) (pe_op op_sub pe_int (pe_fld (pv 0) rfl)) rfl)
        (pss_cons (ps_fldaug (pv 0) pe_int ip_add)
        (pss_cons (ps_fld (pv 0) (pe_callB call_len_seq (by rfl) T.n_len PySem.boot_len (pa_cons (pv 3) pa_nil)) rfl)
        (pss_cons (ps_fld (pv 0) pe_int rfl)
        (pss_cons (ps_for PassesOwn.never rfl (pi_enum (by rfl) T.n_enumerate (pa_cons (pv 3) pa_nil)) ((pg_tup rfl (pgs_cons (pg_name (i := 2) scDisk_check.nd rfl (Or.inl rfl)) (pgs_cons (pg_name (i := 4) scDisk_check.nd rfl (Or.inl rfl)) pgs_nil))))
          (pss_one (ps_expr (pe_meth (pv 0) KR.cl KR.mput GDisk_put hrDisk_put BDisk_put .nil pass0 (pa_cons (pe_op op_add (pv 2) pe_int) (pa_cons (pe_joined (.cons pe_str (.cons (pe_fmt (pe_fld (pv 0) rfl)) (.cons pe_str (.cons (pe_fmt (pe_op op_add (pv 2) pe_int)) (.cons pe_str (.cons (pe_fmt (pv 4)) .nil))))))) pa_nil))))))
        (pss_cons (ps_expr (pe_meth (pv 0) KR.cl KR.mput GDisk_put hrDisk_put BDisk_put .nil pass0 (pa_cons pe_int (pa_cons (pe_joined (.cons pe_str (.cons (pe_fmt (pe_fld (pv 0) rfl)) (.cons pe_str (.cons (pe_fmt (pe_fld (pv 0) rfl)) .nil))))) pa_nil))))
        (pss_one (ps_if (pt_truth (pv 1) (by intro _; rfl)) (pss_one (ps_expr (pe_meth0 (pv 0) KR.cl KR.msync GDisk_sync hrDisk_sync BDisk_sync .nil pass0))) pss_nil))))))))))), ?_⟩
    obtain ⟨S1, hS1⟩ : ∃ S1, S1 = if S.soft = true then S.sync else S := ⟨_, rfl⟩
    have ok1 : DSok S1 := by rw [hS1]; split; exact ok.sync; exact ok
    refine ⟨_, rfl, d, dx, _, rfl, h.hd, rfl, d, dx, Dt, AA, U, S, rfl, h.hd, ok.fal, ?_⟩
    have ll := h.op.len
    have lo := ok.ops
    refine ⟨fun σ H' => σ = [some (.ref d), some (.bl hard), none, none, none, none, none] ∧ Chg r F H H' d S1, ?_, ?_⟩
    · refine ⟨_, rfl, d, r.c, dx, _, _, rfl, h.hd, KR.cl, KR.n_unsynced, rfl, U, rfl, ⟨_, SqL.of h.u⟩, fun D hD => ?_⟩
      refine lc_it (walk_list (K := K) (a := U) (xs := ts.map V.ref)) (fun i H' => Same H H' ∧ H' D = some (.lst (((S.op.take i).map fun q => decide (q.1 = S.side) && decide (q.2.1 = 0)).map V.bl))) ⟨same_new hD, upd_same⟩ (fun i H' _ ⟨s, _⟩ => s.seq (SqL.of h.u)) ?_ ?_
      · rintro i x H1 H1' hi ⟨s1, d1⟩ ⟨rfl, hx⟩
        rw [List.getElem?_map] at hx
        cases hu : ts[i]? with
        | none => rw [hu] at hx; cases hx
        | some t =>
          rw [hu] at hx
          cases hx
          obtain ⟨q, hq, ft, et⟩ := h.op.get hu
          have fin : ∀ b, b = (decide (q.1 = S.side) && decide (q.2.1 = 0)) → ∃ acc, H1' D = some (.lst acc) ∧ acc.length < sizeLine ∧ (Same H (upd H1' D (.lst (acc ++ [.bl b]))) ∧ upd H1' D (.lst (acc ++ [.bl b])) D = some (.lst (((S.op.take (i + 1)).map fun q => decide (q.1 = S.side) && decide (q.2.1 = 0)).map V.bl))) := fun b hb => by
            refine ⟨_, d1, ?_, fun c u e => ?_, ?_⟩
            · rw [List.length_map, List.length_map, List.length_take]
              exact Nat.lt_of_le_of_lt (show _ ≤ 500000 by omega) (by decide)
            · rw [upd_ne (ne_of_none e hD)]
              exact s1 _ _ e
            · rw [upd_same, List.take_add_one, hq, List.map_append, List.map_append, hb]
              rfl
          refine ⟨t, _, rfl, SqT.of (s1 _ _ et), rfl, _, _, rfl, _, _, rfl, _, _, rfl, rfl, ?_⟩
          refine ⟨rfl, _, rfl, _, rfl, d, r.c, dx, _, _, rfl, s1 _ _ h.hd, KR.cl, KR.n_area, rfl, rfl, _, rfl, ite_eq (fun e1 => ⟨_, rfl, rfl, ?_⟩) (fun n1 => fin _ (by rw [decide_eq_false n1, Bool.false_and]))⟩
          exact fin _ (by rw [decide_eq_true e1, Bool.true_and, dec_int])
      · rintro H1 ⟨s1, d1⟩
        rw [List.length_map, ll, List.take_length] at d1
        have hany : ((S.op.map fun q => decide (q.1 = S.side) && decide (q.2.1 = 0)).any id) = S.soft := by
          rw [List.any_map]
          rfl
        refine ⟨D, _, rfl, SqL.of d1, _, rfl, ?_⟩
        rw [hany]
        have hA : DiskAt r F H1 d S := DiskAt.same ⟨dx, Dt, AA, A0, A1, U, ts, h⟩ s1
        cases hs : S.soft with
        | true =>
          rw [hs, if_pos rfl] at hS1
          refine iteT ⟨_, rfl, d, dx, _, rfl, s1 _ _ h.hd, rfl, d, F, S, rfl, hA, ok.op, fun H2 c2 => ⟨rfl, ?_⟩⟩
          rw [hS1]
          exact Chg.then (KpF.same s1) (fun b z => .inl z) c2
        | false =>
          rw [hs, if_neg (by decide)] at hS1
          rw [hS1]
          exact iteF ⟨rfl, F, KpF.same s1, hA, fun b z => .inl z⟩
    rintro σ H1 ⟨rfl, F1, k1, ⟨dx, Dt, AA, A0, A1, U, ts, h⟩, f1⟩
    have tl := text_len ok1.tab
    obtain ⟨u, st⟩ := KR.st
    refine ⟨_, rfl, d, r.c, dx, _, _, rfl, h.hd, KR.cl, KR.n_table, rfl, Dt, S1.kv, rfl, h.t, ok1.tab, fun H2 s2 => ?_⟩
    refine ⟨_, rfl, d, r.c, dx, _, _, u, rfl, s2 _ _ h.hd, KR.cl, st, rfl, textOf S1.kv, rfl, by omega, fun Pc H3 s3 n3 e3 => ?_⟩
    obtain ⟨ps, hps⟩ : ∃ ps, ps = cutT (textOf S1.kv) := ⟨_, rfl⟩
    rw [← hps] at e3
    have h3 := (h.same s2).same s3
    have s13 := s2.trans s3
    refine ⟨_, rfl, d, r.c, dx, _, _, rfl, h3.hd, KR.cl, KR.n_area, rfl, _, _, rfl, rfl, _, rfl, d, r.c, dx, _, rfl, h3.hd, KR.cl, KR.n_area, (by show 12 < 1000; decide), ?_⟩
    have dPc : Pc ≠ d := fun z => by
      have q := (h.same s2).hd
      rw [z, q] at n3
      cases n3
    have nPc : ¬ F1 Pc := fun z => by
      obtain ⟨o, e⟩ := h.al Pc z
      rw [s2 _ _ e] at n3
      cases n3
    refine ⟨_, rfl, d, r.c, dx, _, _, rfl, upd_same, KR.cl, KR.n_generation, rfl, _, _, rfl, rfl, dx, _, upd_same, (by show 12 < 1000; decide), ?_⟩
    refine ⟨_, rfl, Pc, _, rfl, .inl (SqL.of ((upd_ne dPc).trans ((upd_ne dPc).trans e3))), _, rfl, d, r.c, dx, _, rfl, upd_same, KR.cl, KR.n_pieces, (by show 12 < 1000; decide), ?_⟩
    refine ⟨_, rfl, d, r.c, dx, _, rfl, upd_same, KR.cl, KR.n_rows, (by show 12 < 1000; decide), ?_⟩
    generalize hH4 : upd (upd (upd (upd H3 d _) d _) d _) d _ = H4
    have eH4 : H4 = upd H3 d (.ins r.c dx (dF (S1.turn ps) Dt AA U)) := by
      rw [← hH4, upd_upd, upd_upd, upd_upd, List.length_map]
      rfl
    clear hH4
    have h4 : DiskX r F1 H4 d (S1.turn ps) dx Dt AA A0 A1 U ts := by rw [eH4]; exact h3.turn rfl rfl rfl rfl
    have e4 : H4 Pc = some (.lst (ps.map V.str)) := by rw [eH4, upd_ne dPc]; exact e3
    have k4 : KpF F1 H1 H4 := by
      rw [eH4]
      exact (KpF.same s13).upd h.fd
    clear eH4
    have pl : ps.length ≤ 71000 := by
      have := nCut_le (textOf S1.kv)
      rw [hps, cutT_len]
      omega
    have o1 := ok1.ops
    have g1 := ok1.gen
    have sd := ok1.side
    have sm : ∀ n : Nat, n ≤ 1000000 → n ≤ sizeLine := fun n h => Nat.le_trans h (by decide)
    have z0 : (Str.empty : Str).length = 0 := rfl
    have z1 : ("piece " : Str).length = 6 := by decide +kernel
    have z2 : (" " : Str).length = 1 := by decide +kernel
    have z3 : ("head " : Str).length = 5 := by decide +kernel
    have lg := int_len (i := S1.gen + 1) (by omega) (by omega)
    have wide : ∀ {H' : Hp} {S' : DS}, Chg r F1 H4 H' d S' → H' Pc = some (.lst (ps.map V.str)) → ∃ (Fi : Addr → Prop) (dx T AA A0 A1 U : Addr) (ts : List Addr), DiskX r Fi H' d S' dx T AA A0 A1 U ts ∧ ¬ Fi Pc ∧ ∀ {H2 H3 : Hp} {S2 : DS}, Same H' H2 → Chg r Fi H2 H3 d S2 → Chg r F1 H4 H3 d S2 ∧ H3 Pc = some (.lst (ps.map V.str)) := fun {H' S'} c e => by
      obtain ⟨Fi, ki, ⟨dx, T, AA, A0, A1, U, ts, hi⟩, fi⟩ := c
      have nF : ¬ Fi Pc := fun z => (fi _ z).elim nPc fun q => by rw [e4] at q; cases q
      refine ⟨Fi, dx, T, AA, A0, A1, U, ts, hi, nF, fun {H2 H3 S2} s2 c2 => ⟨Chg.then (ki.trans (KpF.same s2)) fi c2, ?_⟩⟩
      obtain ⟨_, k2, _, _⟩ := c2
      exact k2 _ _ nF (s2 _ _ e)
    refine ⟨_, rfl, Pc, _, rfl, SqL.of e4, for_it (walk_enum (K := K) (a := Pc) (xs := ps.map V.str)) (fun i σ H' => ∃ v2 v4 : Option V, σ = [some (.ref d), some (.bl hard), v2, some (.ref Pc), v4, none, none] ∧ Chg r F1 H4 H' d { S1.turn ps with op := S1.op ++ fresh (1 - S1.side) (S1.gen + 1) ps i } ∧ H' Pc = some (.lst (ps.map V.str)))
      ⟨none, none, rfl, Chg.refl ⟨dx, Dt, AA, A0, A1, U, ts, by rw [show S1.op ++ fresh (1 - S1.side) (S1.gen + 1) ps 0 = (S1.turn ps).op from List.append_nil _]; exact h4⟩, e4⟩ (fun i σ H' _ ⟨_, _, _, _, e⟩ => SqL.of e) ?_ ?_⟩
    · rintro i x σ H5 H6 hi ⟨v2, v4, rfl, c5, e5⟩ ⟨T, x1, x2, rfl, hT, rfl, q1, q2⟩
      rw [List.length_map] at hi
      cases q1
      have q2 : (ps.map V.str)[i]? = some x2 := q2
      rw [List.getElem?_map, List.getElem?_eq_getElem hi] at q2
      cases q2
      obtain ⟨Fi, dx', T', AA', A0', A1', U', ts', h5, nF, go⟩ := wide c5 e5
      have sT := same_new (o := .tup [.int (i : Int), .str ps[i]]) hT
      have h6 := h5.same sT
      have tm : ps[i].length ≤ 71000 := by
        have := cutT_mem (z := textOf S1.kv) (t := ps[i]) (by rw [← hps]; exact List.getElem_mem hi)
        omega
      have lk := int_len (i := (i : Int) + 1) (by omega) (by omega)
      refine ⟨T, _, rfl, SqT.of upd_same, rfl, _, _, rfl, _, _, rfl, rfl, ?_⟩
      refine ⟨_, rfl, d, dx', _, rfl, h6.hd, rfl, _, rfl, _, _, rfl, rfl, _, rfl, sm _ (by rw [len_app, z0, z1]; omega), ?_⟩
      refine ⟨_, rfl, d, r.c, dx', _, _, rfl, h6.hd, KR.cl, KR.n_generation, rfl, .inr ⟨S1.gen + 1, rfl, log_small (by omega) (by omega), _, rfl, sm _ (by simp only [len_app, z0, z1]; omega), _, rfl, sm _ (by simp only [len_app, z0, z1, z2]; omega), ?_⟩⟩
      refine ⟨_, rfl, _, _, rfl, rfl, .inr ⟨(i : Int) + 1, rfl, log_small (by omega) (by omega), _, rfl, sm _ (by simp only [len_app, z0, z1, z2]; omega), _, rfl, sm _ (by simp only [len_app, z0, z1, z2]; omega), ?_⟩⟩
      refine ⟨_, rfl, .inl ⟨ps[i], rfl, sm _ (by omega), _, rfl, sm _ (by simp only [len_app, z0, z1, z2]; omega), ?_⟩⟩
      refine ⟨d, Fi, _, (i : Int) + 1, pieceT (S1.gen + 1) ((i : Int) + 1) ps[i], rfl, ⟨dx', T', AA', A0', A1', U', ts', h6⟩, ?_, fun H7 c7 => ?_⟩
      · show (S1.op ++ fresh (1 - S1.side) (S1.gen + 1) ps i).length ≤ 1000000
        rw [List.length_append, fresh_len]
        omega
      · obtain ⟨cc, ee⟩ := go sT c7
        refine ⟨_, _, rfl, ?_, ee⟩
        rw [← fresh_succ hi]
        exact cc
    · rintro σ H5 ⟨v2, v4, rfl, c5, e5⟩
      rw [List.length_map] at c5
      obtain ⟨Fi, dx', T', AA', A0', A1', U', ts', h5, nF, go⟩ := wide c5 e5
      have lp := int_len (i := (ps.length : Int)) (by omega) (by omega)
      refine ⟨_, rfl, d, dx', _, rfl, h5.hd, rfl, _, rfl, sm _ (by rw [len_app, z0, z3]; omega), ?_⟩
      refine ⟨_, rfl, d, r.c, dx', _, _, rfl, h5.hd, KR.cl, KR.n_generation, rfl, .inr ⟨S1.gen + 1, rfl, log_small (by omega) (by omega), _, rfl, sm _ (by simp only [len_app, z0, z3]; omega), _, rfl, sm _ (by simp only [len_app, z0, z3, z2]; omega), ?_⟩⟩
      refine ⟨_, rfl, d, r.c, dx', _, _, rfl, h5.hd, KR.cl, KR.n_pieces, rfl, .inr ⟨(ps.length : Int), rfl, log_small (by omega) (by omega), _, rfl, sm _ (by simp only [len_app, z0, z3, z2]; omega), ?_⟩⟩
      refine ⟨d, Fi, _, 0, headT (S1.gen + 1) ps.length, rfl, ⟨dx', T', AA', A0', A1', U', ts', h5⟩, ?_, fun H6 c6 => ?_⟩
      · show (S1.op ++ fresh (1 - S1.side) (S1.gen + 1) ps ps.length).length ≤ 1000000
        rw [List.length_append, fresh_len]
        omega
      obtain ⟨c6, _⟩ := go (Same.refl _) c6
      obtain ⟨S4, hS4⟩ : ∃ S4, S4 = { S1.turn ps with op := S1.op ++ fresh (1 - S1.side) (S1.gen + 1) ps ps.length ++ [(1 - S1.side, 0, headT (S1.gen + 1) ps.length)] } := ⟨_, rfl⟩
      have c6 : Chg r F1 H4 H6 d S4 := by rw [hS4]; exact c6
      have c6 : Chg r F1 H1 H6 d S4 := Chg.then k4 (fun b z => .inl z) c6
      have eS : S.check hard = if hard = true then S4.sync else S4 := by
        unfold DS.check
        rw [← hS1, hS4, hps]
        rfl
      refine ⟨_, rfl, hard, rfl, ?_⟩
      cases hard with
      | false =>
        refine iteF (k _ ?_)
        rw [eS, if_neg (by decide)]
        exact Chg.then k1 f1 c6
      | true =>
        obtain ⟨F6, k6, ⟨dx6, T6, AA6, B6, C6, U6, ts6, h6⟩, f6⟩ := c6
        have o4 : OpsOk S4 := by
          rw [hS4]
          refine ⟨ok1.fal, ?_, fun q hq => ?_⟩
          · show S1.m0.length + S1.m1.length + (S1.op ++ fresh (1 - S1.side) (S1.gen + 1) ps ps.length ++ [(1 - S1.side, 0, headT (S1.gen + 1) ps.length)]).length ≤ 1000000
            have sz := ok1.sz
            rw [List.length_append, List.length_append, fresh_len]
            show S1.m0.length + S1.m1.length + (S1.op.length + ps.length + 1) ≤ 1000000
            omega
          · have hq : q ∈ S1.op ++ fresh (1 - S1.side) (S1.gen + 1) ps ps.length ++ [(1 - S1.side, 0, headT (S1.gen + 1) ps.length)] := hq
            rcases List.mem_append.mp hq with hq | hq
            · rcases List.mem_append.mp hq with hq | hq
              · exact ok1.op.ar q hq
              · obtain ⟨j, hj, rfl⟩ := List.mem_map.mp hq
                have hj := List.mem_range.mp hj
                exact ⟨by show 1 - S1.side = 0 ∨ 1 - S1.side = 1; omega, by show (0 : Int) ≤ (j : Int) + 1; omega, by show (j : Int) + 1 ≤ 1000000; omega⟩
            · rw [List.mem_singleton] at hq
              rw [hq]
              exact ⟨by show 1 - S1.side = 0 ∨ 1 - S1.side = 1; omega, Int.le_refl _, by show (0 : Int) ≤ 1000000; decide⟩
        refine iteT ⟨_, rfl, d, dx6, _, rfl, h6.hd, rfl, d, F6, S4, rfl, ⟨dx6, T6, AA6, B6, C6, U6, ts6, h6⟩, o4, fun H7 c7 => k _ ?_⟩
        rw [eS, if_pos rfl]
        exact Chg.then k1 f1 (Chg.then k6 f6 c7)
theorem check_binds {K : PySem.W.Frag} {f : Addr} {fd : FuncData} (F : FunD K "check" "Disk.check" (defArgs sDisk_check) (defBody sDisk_check) (defScope sDisk_check) [] [("synced", V.bl true)] f fd) :
    (∃ ds, Vals [V.bl true] ds ∧ Binds K fd PDisk_check ds) ∧ KBn K fd PDisk_check 1 ["synced"] kg1 kg1 := by
  refine ⟨?_, ?_⟩
  · exact F.binds0 (ps := PDisk_check) 1 (by simp) rfl (fun D doc pm an cdv ct us ks hl hk => match us, ks, hl, hk with | [_], [_], _, _ => ⟨_, _, _, _, _, _, rfl, rfl, rfl⟩)
  · obtain ⟨mv, h⟩ := F.kbinds0 (ps := PDisk_check) 1 ["synced"] [] (fun us _ ws => kg1 us ws) (by simp) (by simp)
      (fun r1 _ r2 => match r1, r2 with | .cons a .nil, .cons c .nil => .cons a (.cons c .nil) | .nil, _ => .nil | .cons _ (.cons _ _), _ => .nil | .cons _ .nil, .nil => .nil | .cons _ .nil, .cons _ (.cons _ _) => .nil)
      (fun D doc pm an cdv ct us mv ws hl hm hw => match us, mv, ws, hl, hm, hw with | [_], [], [_], _, _, _ => rfl)
    exact h
end k15
namespace k15
open PySem L2 LC RM SM TL
def spDisk_write (r : Ar) : Sp := fun vs H Q _ => ∃ (d D : Addr) (F : Addr → Prop) (S : DS) (ch : List (Key × V)), vs = [.ref d, .ref D] ∧ DiskAt r F H d S ∧ DSok S ∧ H D = some (.dK ch) ∧ ¬ F D ∧ Tab ch ∧ ∀ H', Chg r F H H' d (S.write ch) → Q .non H'
theorem ok_Disk_write {P : Program} {w : World} {K : PySem.W.Frag} {mg : Str → Option Value} {base : Heap} {f : Addr} {fd : FuncData} (F0 : Fun K "write" "Disk.write" sDisk_write f fd) (T : Txt K mg) {r : Ar} (KR : Kr K mg r) {fdRcheck_awake : FuncData} (GDisk_check_awake : FnOk P w K mg base CX0 1 r.fawake fdRcheck_awake PDisk_check_awake (spDisk_check_awake r)) (BDisk_check_awake : Binds K fdRcheck_awake PDisk_check_awake []) {fdRput : FuncData} (GDisk_put : FnOk P w K mg base CX0 1 r.fput fdRput PDisk_put (spDisk_put r)) (BDisk_put : Binds K fdRput PDisk_put []) {fdRcheck : FuncData} {uT : Value} (ruT : RelV (.bl true) uT) (GDisk_check : FnOk P w K mg base CX0 3 r.fcheck fdRcheck PDisk_check (spDisk_check r)) (BcheckT : Binds K fdRcheck PDisk_check [uT]) {fchanges_text : Addr} {fdchanges_text : FuncData} (Dchanges_text : Def K mg "changes_text" schanges_text Pchanges_text fchanges_text fdchanges_text) (Gchanges_text : FnOk P w K mg base CX0 1 fchanges_text fdchanges_text Pchanges_text (spchanges_text)) {fapply_changes : Addr} {fdapply_changes : FuncData} (Dapply_changes : Def K mg "apply_changes" sapply_changes Papply_changes fapply_changes fdapply_changes) (Gapply_changes : FnOk P w K mg base CX0 1 fapply_changes fdapply_changes Papply_changes (spapply_changes)) {fstretches : Addr} {fdstretches : FuncData} (Dstretches : Def K mg "stretches" sstretches Pstretches fstretches fdstretches) (Gstretches : FnOk P w K mg base CX0 1 fstretches fdstretches Pstretches (spstretches)) :
    FnOk P w K mg base CX0 4 f fd PDisk_write (spDisk_write r) := by
  refine F0.ok scDisk_write (fun vs H Q E h => ?_) (fun cdv A outer s H vs Q E hr h => ?_)
  · obtain ⟨d, D, F, S, ch, rfl, ⟨dx, Dt, AA, A0, A1, U, ts, h⟩, ok, hD, nD, tb, k⟩ := h
    rfl
  · obtain ⟨d, D, F, S, ch, rfl, ⟨dx, Dt, AA, A0, A1, U, ts, h⟩, ok, hD, nD, tb, k⟩ := h
    have hrchanges_text : Room 1 _ := hr.mono (by decide)
    have hrapply_changes : Room 1 _ := hr.mono (by decide)
    have hrstretches : Room 1 _ := hr.mono (by decide)
    have hrDisk_check_awake : Room 1 _ := hr.mono (by decide)
    have hrDisk_check : Room 3 _ := hr.mono (by decide)
    have hrDisk_put : Room 1 _ := hr.mono (by decide)
    refine ⟨_, (pss_cons (ps_expr (pe_meth0 (pv 0) KR.cl KR.mcheck_awake GDisk_check_awake hrDisk_check_awake BDisk_check_awake .nil pass0))
        (pss_cons (ps_if (pt_cmpR op_eq (pe_callB call_lenD (by rfl) T.n_len PySem.boot_len (pa_cons (pv 1) pa_nil)) pe_int (nomark _)) (pss_one ps_retN) pss_nil)
        (pss_cons (ps_set (i := 2) scDisk_write.nd rfl (Or.inl rfl) (pe_call Gstretches hrstretches rfl Dstretches.g Dstretches.F.kp Dstretches.b .nil pass0 (pa_cons (pe_call Gchanges_text hrchanges_text rfl Dchanges_text.g Dchanges_text.F.kp Dchanges_text.b .nil pass0 (pa_cons (pv 1) pa_nil)) (pa_cons (pe_con (pv 0) rfl) pa_nil))))
        (Evl.pss_cut (ps_if (PW.pt (pw_and (pt_cmpR op_gt (pe_fld (pv 0) rfl) pe_int (nomark _)) (pw_and1 (pt_cmpR op_gt (pe_op op_add (pe_fld (pv 0) rfl) (pe_callB call_len_seq (by rfl) T.n_len PySem.boot_len (pa_cons (pv 2) pa_nil))) (pe_fld (pv 0) rfl) (nomark _))))) (pss_one (ps_expr (pe_meth0 (pv 0) KR.cl KR.mcheck GDisk_check hrDisk_check BcheckT (.cons ruT .nil) pass0))) pss_nil)
        (pss_cons (ps_for PassesOwn.never rfl (pi_enum (by rfl) T.n_enumerate (pa_cons (pv 2) pa_nil)) ((pg_tup rfl (pgs_cons (pg_name (i := 3) scDisk_write.nd rfl (Or.inl rfl)) (pgs_cons (pg_name (i := 4) scDisk_write.nd rfl (Or.inl rfl)) pgs_nil))))
          (pss_cons (ps_fldaug (pv 0) pe_int ip_add)
        (pss_cons (ps_set (i := 5) scDisk_write.nd rfl (Or.inl rfl) (pe_op op_sub (pe_op op_sub (pe_callB call_len_seq (by rfl) T.n_len PySem.boot_len (pa_cons (pv 2) pa_nil)) (pv 3)) pe_int))
        (pss_one (ps_expr (pe_meth (pv 0) KR.cl KR.mput GDisk_put hrDisk_put BDisk_put .nil pass0 (pa_cons (pe_op op_add (pe_fld (pv 0) rfl) (pe_fld (pv 0) rfl)) (pa_cons (pe_joined (.cons pe_str (.cons (pe_fmt (pe_fld (pv 0) rfl)) (.cons pe_str (.cons (pe_fmt (pe_fld (pv 0) rfl)) (.cons pe_str (.cons (pe_fmt (pv 5)) (.cons pe_str (.cons (pe_fmt (pv 4)) .nil))))))))) pa_nil))))))))
        (pss_one (ps_expr (pe_call Gapply_changes hrapply_changes rfl Dapply_changes.g Dapply_changes.F.kp Dapply_changes.b .nil pass0 (pa_cons (pe_fld (pv 0) rfl) (pa_cons (pv 1) pa_nil)))))))))), ?_⟩
    refine ⟨_, rfl, d, dx, _, rfl, h.hd, rfl, d, dx, Dt, AA, U, S, rfl, h.hd, ok.fal, ?_⟩
    refine ⟨_, rfl, D, ch, rfl, hD, rfl, _, rfl, ite_eq (fun h0 => ?_) (fun h0 => ?_)⟩
    · have e : ch = [] := List.length_eq_zero_iff.mp (by omega)
      have ew : S.write ch = S := by unfold DS.write; rw [if_pos e]
      refine k H ?_
      rw [ew]
      exact Chg.refl ⟨dx, Dt, AA, A0, A1, U, ts, h⟩
    have ne : ch ≠ [] := fun z => h0 (by rw [z]; rfl)
    have tl := text_len tb
    obtain ⟨u, st⟩ := KR.st
    refine ⟨_, rfl, D, ch, rfl, hD, tb, fun H2 s2 => ?_⟩
    refine ⟨_, rfl, d, r.c, dx, _, _, u, rfl, s2 _ _ h.hd, KR.cl, st, rfl, textOf ch, rfl, by omega, fun Pc H3 s3 n3 e3 => ?_⟩
    obtain ⟨ps, hps⟩ : ∃ ps, ps = cutT (textOf ch) := ⟨_, rfl⟩
    rw [← hps] at e3
    have h3 := (h.same s2).same s3
    have s03 := s2.trans s3
    have nPc : ¬ F Pc := fun z => by
      obtain ⟨o, e⟩ := h.al Pc z
      rw [s2 _ _ e] at n3
      cases n3
    have pl : ps.length ≤ 71000 := by
      have := nCut_le (textOf ch)
      rw [hps, cutT_len]
      omega
    have eD3 := s03 _ _ hD
    clear s2 s3 n3
    obtain ⟨S1, hS1⟩ : ∃ S1, S1 = if S.cnt > 0 ∧ S.cnt + ps.length > S.most then S.check true else S := ⟨_, rfl⟩
    have ol := ok.ops
    have og := ok.gen
    have oc := ok.cnt
    have op := ok.pcs
    have tv := text_len ok.tab
    obtain ⟨b1, b2, b3, b4, b5⟩ : S1.kv = S.kv ∧ S1.op.length ≤ 500000 ∧ (0 ≤ S1.gen ∧ S1.gen ≤ 500001) ∧ (0 ≤ S1.cnt ∧ S1.cnt ≤ 100000) ∧ (0 ≤ S1.pcs ∧ S1.pcs ≤ 100000) := by
      rw [hS1]
      split
      · obtain ⟨a1, a2, a3, a4, a5, _⟩ := check_same S
        have cl := nCut_le (textOf S.kv)
        rw [cutT_len] at a5
        exact ⟨a1, by rw [a2]; exact Nat.zero_le _, by omega, by omega, by omega⟩
      · exact ⟨rfl, ol, by omega, oc, op⟩
    have lps : (ps.map V.str).length = ps.length := List.length_map ..
    have A3 : DiskAt r F H3 d S := ⟨dx, Dt, AA, A0, A1, U, ts, h3⟩
    refine ⟨fun σ H' => σ = [some (.ref d), some (.ref D), some (.ref Pc), none, none, none] ∧ Chg r F H3 H' d S1, ?_, ?_⟩
    · have no : ¬ (S.cnt > 0 ∧ S.cnt + ps.length > S.most) → Chg r F H3 H3 d S1 := fun z => by
        rw [hS1, if_neg z]
        exact Chg.refl A3
      refine ⟨_, rfl, d, r.c, dx, _, _, rfl, h3.hd, KR.cl, KR.n_rows, rfl, _, _, rfl, rfl, _, rfl, ite_d (fun c1 => ?_) (fun c1 => iteF ⟨rfl, no fun z => c1 z.1⟩)⟩
      refine ⟨_, rfl, d, r.c, dx, _, _, rfl, h3.hd, KR.cl, KR.n_rows, rfl, _, rfl, Pc, _, rfl, .inl (SqL.of e3), _, _, rfl, rfl, _, rfl, d, r.c, dx, _, _, rfl, h3.hd, KR.cl, KR.n_most, rfl, _, _, rfl, rfl, _, rfl, ite_d (fun c2 => ?_) (fun c2 => ⟨rfl, no fun z => c2 (by rw [lps]; exact z.2)⟩)⟩
      rw [lps] at c2
      refine ⟨_, rfl, d, dx, _, rfl, h3.hd, rfl, d, F, S, true, rfl, A3, ok, fun H4 c4 => ⟨rfl, ?_⟩⟩
      rw [hS1, if_pos ⟨c1, c2⟩]
      exact c4
    rintro σ H4 ⟨rfl, c4⟩
    have sm : ∀ n : Nat, n ≤ 1000000 → n ≤ sizeLine := fun n h => Nat.le_trans h (by decide)
    have z0 : (Str.empty : Str).length = 0 := rfl
    have z1 : ("row " : Str).length = 4 := by decide +kernel
    have z2 : (" " : Str).length = 1 := by decide +kernel
    have lg := int_len (i := S1.gen) (by omega) (by omega)
    have wide : ∀ {H' : Hp} {S' : DS}, Chg r F H3 H' d S' → ∃ (Fi : Addr → Prop) (dx T AA A0 A1 U : Addr) (ts : List Addr), DiskX r Fi H' d S' dx T AA A0 A1 U ts ∧ H' Pc = some (.lst (ps.map V.str)) ∧ H' D = some (.dK ch) ∧ ¬ Fi D ∧ KpF F H3 H' ∧ ∀ b, Fi b → F b ∨ H3 b = none := fun {H' S'} c => by
      obtain ⟨Fi, ki, ⟨dx, T, AA, A0, A1, U, ts, hi⟩, fi⟩ := c
      exact ⟨Fi, dx, T, AA, A0, A1, U, ts, hi, ki _ _ nPc e3, ki _ _ nD eD3, (fun z => (fi _ z).elim nD fun q => by rw [eD3] at q; cases q), ki, fi⟩
    obtain ⟨_, _, _, _, _, _, _, _, _, e4, _, _, _, _⟩ := wide c4
    refine ⟨_, rfl, Pc, _, rfl, SqL.of e4, for_it (walk_enum (K := K) (a := Pc) (xs := ps.map V.str)) (fun i σ H' => ∃ v3 v4 v5 : Option V, σ = [some (.ref d), some (.ref D), some (.ref Pc), v3, v4, v5] ∧ Chg r F H3 H' d { S1 with op := S1.op ++ rows S1.side S1.gen S1.pcs S1.cnt ps i, cnt := S1.cnt + (i : Int) })
      ⟨none, none, none, rfl, by
        rw [show S1.op ++ rows S1.side S1.gen S1.pcs S1.cnt ps 0 = S1.op from List.append_nil _, show S1.cnt + ((0 : Nat) : Int) = S1.cnt by omega]
        exact c4⟩ (fun i σ H' _ ⟨_, _, _, _, c⟩ => by
        obtain ⟨_, _, _, _, _, _, _, _, _, e, _⟩ := wide c
        exact SqL.of e) ?_ ?_⟩
    · rintro i x σ H5 H6 hi ⟨v3, v4, v5, rfl, c5⟩ ⟨T, x1, x2, rfl, hT, rfl, q1, q2⟩
      rw [List.length_map] at hi
      cases q1
      have q2 : (ps.map V.str)[i]? = some x2 := q2
      rw [List.getElem?_map, List.getElem?_eq_getElem hi] at q2
      cases q2
      obtain ⟨Fi, dx', T', AA', A0', A1', U', ts', h5, p5, _, _, k5, f5⟩ := wide c5
      have sT := same_new (o := .tup [.int (i : Int), .str ps[i]]) hT
      have h6 := h5.same sT
      have p6 := sT _ _ p5
      have tm : ps[i].length ≤ 71000 := by
        have := cutT_mem (z := textOf ch) (t := ps[i]) (by rw [← hps]; exact List.getElem_mem hi)
        omega
      have lk := int_len (i := S1.cnt + (i : Int) + 1) (by omega) (by omega)
      have lf := int_len (i := (ps.length : Int) - i - 1) (by omega) (by omega)
      refine ⟨T, _, rfl, SqT.of upd_same, rfl, _, _, rfl, _, _, rfl, rfl, ?_⟩
      have k6 := k5.trans (KpF.same sT)
      generalize upd H5 T (.tup [.int (i : Int), .str ps[i]]) = H6 at h6 p6 k6 ⊢
      refine ⟨_, rfl, d, r.c, dx', _, _, rfl, h6.hd, KR.cl, KR.n_rows, rfl, _, _, rfl, rfl, dx', _, h6.hd, (by show 12 < 1000; decide), ?_⟩
      generalize hH7 : upd H6 d _ = H7
      have eH7 : H7 = upd H6 d (.ins r.c dx' (dF { S1 with op := S1.op ++ rows S1.side S1.gen S1.pcs S1.cnt ps i, cnt := S1.cnt + (i : Int) + 1 } T' AA' U')) := by
        rw [← hH7]
        rfl
      clear hH7
      have h7 : DiskX r Fi H7 d { S1 with op := S1.op ++ rows S1.side S1.gen S1.pcs S1.cnt ps i, cnt := S1.cnt + (i : Int) + 1 } dx' T' AA' A0' A1' U' ts' := by rw [eH7]; exact h6.turn rfl rfl rfl rfl
      have p7 : H7 Pc = some (.lst (ps.map V.str)) := by
        rw [eH7, upd_ne (fun z => by rw [z, h6.hd] at p6; cases p6)]
        exact p6
      have k7 : KpF F H3 H7 := fun b o n e => by
        have q := k6 b o n e
        rw [eH7, upd_ne (fun z => ?_)]
        · exact q
        · exact (f5 d h6.fd).elim (fun w => n (by rw [z]; exact w)) fun w => by rw [z, w] at e; cases e
      clear eH7
      refine ⟨_, rfl, Pc, _, rfl, .inl (SqL.of p7), _, rfl, _, _, rfl, rfl, _, _, rfl, rfl, ?_⟩
      rw [lps]
      refine ⟨_, rfl, d, dx', _, rfl, h7.hd, rfl, _, rfl, d, r.c, dx', _, _, rfl, h7.hd, KR.cl, KR.n_pieces, rfl, _, rfl, d, r.c, dx', _, _, rfl, h7.hd, KR.cl, KR.n_rows, rfl, _, _, rfl, rfl, _, rfl, sm _ (by rw [len_app, z0, z1]; omega), ?_⟩
      refine ⟨_, rfl, d, r.c, dx', _, _, rfl, h7.hd, KR.cl, KR.n_generation, rfl, .inr ⟨S1.gen, rfl, log_small (by omega) (by omega), _, rfl, sm _ (by simp only [len_app, z0, z1]; omega), _, rfl, sm _ (by simp only [len_app, z0, z1, z2]; omega), ?_⟩⟩
      refine ⟨_, rfl, d, r.c, dx', _, _, rfl, h7.hd, KR.cl, KR.n_rows, rfl, .inr ⟨S1.cnt + (i : Int) + 1, rfl, log_small (by omega) (by omega), _, rfl, sm _ (by simp only [len_app, z0, z1, z2]; omega), _, rfl, sm _ (by simp only [len_app, z0, z1, z2]; omega), ?_⟩⟩
      refine ⟨_, rfl, .inr ⟨(ps.length : Int) - i - 1, rfl, log_small (by omega) (by omega), _, rfl, sm _ (by simp only [len_app, z0, z1, z2]; omega), _, rfl, sm _ (by simp only [len_app, z0, z1, z2]; omega), ?_⟩⟩
      refine ⟨_, rfl, .inl ⟨ps[i], rfl, sm _ (by omega), _, rfl, sm _ (by simp only [len_app, z0, z1, z2]; omega), ?_⟩⟩
      refine ⟨d, Fi, _, S1.pcs + (S1.cnt + (i : Int) + 1), rowT S1.gen (S1.cnt + (i : Int) + 1) ((ps.length : Int) - i - 1) ps[i], rfl, ⟨dx', T', AA', A0', A1', U', ts', h7⟩, ?_, fun H8 c8 => ?_⟩
      · show (S1.op ++ rows S1.side S1.gen S1.pcs S1.cnt ps i).length ≤ 1000000
        rw [List.length_append, rows_len]
        omega
      · refine ⟨_, _, _, rfl, ?_⟩
        have c8 := Chg.then k7 f5 c8
        rw [← rows_succ hi, show S1.cnt + ((i + 1 : Nat) : Int) = S1.cnt + (i : Int) + 1 by omega]
        exact c8
    · rintro σ H5 ⟨v3, v4, v5, rfl, c5⟩
      rw [List.length_map] at c5
      obtain ⟨Fi, dx', T', AA', A0', A1', U', ts', h5, p5, d5, nFD, k5, f5⟩ := wide c5
      have TD : T' ≠ D := fun z => nFD (by rw [← z]; exact h5.ft)
      have fw := ok.tab.few
      have fc := tb.few
      refine ⟨_, rfl, d, r.c, dx', _, _, rfl, h5.hd, KR.cl, KR.n_table, rfl, _, rfl, T', D, _, ch, rfl, h5.t, d5, TD, by show S1.kv.length ≤ 1000; rw [b1]; omega, by omega, fun H6 k6 e6 => k _ ?_⟩
      have h6 := h5.tabl k6 e6
      have ew : S.write ch = { S1 with op := S1.op ++ rows S1.side S1.gen S1.pcs S1.cnt ps ps.length, cnt := S1.cnt + (ps.length : Int), kv := applyK S1.kv ch } := by
        unfold DS.write
        rw [if_neg ne, hS1, hps]
      rw [ew]
      refine Chg.then (KpF.same s03) (fun b z => .inl z) (Chg.then k5 f5 ⟨Fi, k6.mono fun b z => by rw [z]; exact h5.ft, ⟨dx', T', AA', A0', A1', U', ts', h6⟩, fun b z => .inl z⟩)
theorem KB_write {K : PySem.W.Frag} {f : Addr} {fd : FuncData} (F : Fun K "write" "Disk.write" sDisk_write f fd) : KBn K fd PDisk_write 1 ["changes"] kg1 kg1 := by
  obtain ⟨oc, od, kV, doc, pm, an, cdv, ct, osl, rfl, lk, hcd⟩ := F.ex
  refine ⟨fun s us ws _ l1 l2 => ?_, fun r1 r2 => ?_⟩
  · match us, ws, l1, l2 with
    | [_], [_], _, _ => exact .of_eq rfl
  · match r1, r2 with
    | .cons a .nil, .cons c .nil => exact .cons a (.cons c .nil)
    | .nil, _ => exact .nil
    | .cons _ (.cons _ _), _ => exact .nil
    | .cons _ .nil, .nil => exact .nil
    | .cons _ .nil, .cons _ (.cons _ _) => exact .nil
end k15
namespace k15
open PySem L2 LC RM SM TL
def spDisk_table (r : Ar) : Sp := fun vs H Q _ => ∃ (d : Addr) (F : Addr → Prop) (S : DS), vs = [.ref d] ∧ DiskAt r F H d S ∧ Tab S.kv ∧ ∀ (D : Addr) H', Same H H' → H D = none → H' D = some (.dK (srtK S.kv)) → Q (.ref D) H'
theorem ok_Disk_table {P : Program} {w : World} {K : PySem.W.Frag} {mg : Str → Option Value} {base : Heap} {f : Addr} {fd : FuncData} (F0 : Fun K "table" "Disk.table" sDisk_table f fd) (T : Txt K mg) {r : Ar} (KR : Kr K mg r) :
    FnOk P w K mg base CX0 1 f fd PDisk_table (spDisk_table r) := by
  refine F0.ok scDisk_table (fun vs H Q E h => ?_) (fun cdv A outer s H vs Q E hr h => ?_)
  · obtain ⟨d, F, S, rfl, ⟨dx, Dt, AA, A0, A1, U, ts, h⟩, tb, k⟩ := h
    rfl
  · obtain ⟨d, F, S, rfl, ⟨dx, Dt, AA, A0, A1, U, ts, h⟩, tb, k⟩ := h
    refine ⟨_, (pss_one (ps_ret (pe_dc (own := [("key", 1)]) (g := gName 1) (tt := tYes) rfl scDisk_table.nd (pi_list (pe_callB (call_sortedD rfl) (by rfl) T.n_sorted (by decide +kernel) (pa_cons (pe_fld (pv 0) rfl) pa_nil))) (blkOk_by (own := [("key", 1)]) (N := NmDisk_table) (sc := defScope sDisk_table) (by decide +kernel)) (fun _ _ _ _ _ => pg_name (i := 1) scDisk_table.nd rfl (Or.inl rfl)) (fun _ _ _ _ _ => pts_nil) (fun _ _ _ _ _ => (pv 1)) (fun _ _ _ _ _ => (pe_dget (hu_of hr) (show PE _ _ (tFld K _ "_table") from pe_fld (pv 0) rfl) (pv 1) (fun _ _ => rfl)))))), ?_⟩
    have fw := tb.few
    have kl := keysOf_len tb
    refine ⟨_, rfl, d, r.c, dx, _, _, rfl, h.hd, KR.cl, KR.n_table, rfl, Dt, S.kv, keysOf S.kv, rfl, .inl h.t, tb.keys, by omega, fun ys p hp hs hn => ?_⟩
    obtain rfl : ys = srt (keysOf S.kv) := srt_of hp hs
    have s1 := same_new (o := .lst ((srt (keysOf S.kv)).map V.str)) hn
    have e1 : upd H p (.lst ((srt (keysOf S.kv)).map V.str)) p = some (.lst ((srt (keysOf S.kv)).map V.str)) := upd_same
    have sl : (srt (keysOf S.kv)).length = S.kv.length := by rw [(srt_perm _).length_eq, kl]
    generalize upd H p (.lst ((srt (keysOf S.kv)).map V.str)) = H1 at s1 e1 ⊢
    refine ⟨p, rfl, ⟨_, SqL.of e1⟩, fun D hD => ?_⟩
    refine dc_it (walk_list (K := K) (a := p) (xs := (srt (keysOf S.kv)).map V.str)) (fun i H' => Same H1 H' ∧ H' D = some (.dK ((srtK S.kv).take i))) ⟨same_new hD, upd_same⟩ (fun i H' _ ⟨s, _⟩ => s.seq (SqL.of e1)) ?_ ?_
    · rintro i x H2 H2' hi ⟨s2, d2⟩ ⟨rfl, hx⟩
      rw [List.length_map] at hi
      rw [List.getElem?_map, List.getElem?_eq_getElem hi] at hx
      cases hx
      have zm : (srt (keysOf S.kv))[i] ∈ keysOf S.kv := (srt_perm _).mem_iff.mp (List.getElem_mem hi)
      obtain ⟨v, hv, vv⟩ := tb.at_ zm
      have s02 := s1.trans s2
      refine ⟨rfl, _, rfl, _, rfl, d, r.c, dx, _, _, rfl, s02 _ _ h.hd, KR.cl, KR.n_table, rfl, _, rfl, Dt, v, rfl, .inl ⟨S.kv, .inr (srt (keysOf S.kv))[i], .inl (s02 _ _ h.t), rfl, hv.symm⟩, _, .inr (srt (keysOf S.kv))[i], rfl, d2, ?_, fun b u e => ?_, ?_⟩
      · rw [List.length_take]
        exact Nat.lt_of_le_of_lt (show _ ≤ 64 by omega) (by decide)
      · rw [upd_ne (ne_of_none e hD)]
        exact s2 _ _ e
      · rw [upd_same, srtK_step tb hi hv]
    · rintro H2 ⟨s2, d2⟩
      rw [List.length_map, List.take_of_length_le (by unfold srtK; rw [List.length_map]; exact Nat.le_refl _)] at d2
      exact k D H2 (s1.trans s2) (s1.free hD) d2
end k15
namespace k15
open PySem L2 LC RM SM TL
def spDisk_areas (r : Ar) : Sp := fun vs H Q _ => ∃ (d : Addr) (F : Addr → Prop) (S : DS), vs = [.ref d] ∧ DiskAt r F H d S ∧ ∀ (L B0 B1 : Addr) H', Same H H' → H L = none → H B0 = none → H B1 = none → L ≠ B0 → L ≠ B1 → B0 ≠ B1 → H' L = some (.lst [.ref B0, .ref B1]) → H' B0 = some (.lst (cells S.m0)) → H' B1 = some (.lst (cells S.m1)) → Q (.ref L) H'
theorem ok_Disk_areas {P : Program} {w : World} {K : PySem.W.Frag} {mg : Str → Option Value} {base : Heap} {f : Addr} {fd : FuncData} (F0 : Fun K "areas" "Disk.areas" sDisk_areas f fd) (T : Txt K mg) {r : Ar} (KR : Kr K mg r) :
    FnOk P w K mg base CX0 1 f fd PDisk_areas (spDisk_areas r) := by
  refine F0.ok scDisk_areas (fun vs H Q E h => ?_) (fun cdv A outer s H vs Q E hr h => ?_)
  · obtain ⟨d, F, S, rfl, ⟨dx, Dt, AA, A0, A1, U, ts, h⟩, k⟩ := h
    rfl
  · obtain ⟨d, F, S, rfl, ⟨dx, Dt, AA, A0, A1, U, ts, h⟩, k⟩ := h
    refine ⟨_, (pss_one (ps_ret (pe_lc (own := [("cells", 1)]) (g := gName 1) (tt := tYes) rfl scDisk_areas.nd (pi_list (pe_fld (pv 0) rfl)) (blkOk_by (own := [("cells", 1)]) (N := NmDisk_areas) (sc := defScope sDisk_areas) (by decide +kernel)) (fun _ _ _ _ _ => pg_name (i := 1) scDisk_areas.nd rfl (Or.inl rfl)) (fun _ _ _ _ _ => pts_nil) (fun _ _ _ _ _ => (pe_callTy (show CallR _ (.type "list") (rListK K) from call_list_of) (by rfl) T.n_list (by decide +kernel) (pa_cons (pv 1) pa_nil)))))), ?_⟩
    refine ⟨_, rfl, d, r.c, dx, _, _, rfl, h.hd, KR.cl, KR.n_areas, rfl, AA, rfl, ⟨_, SqL.of h.aa⟩, fun L hL => ?_⟩
    refine lc_it (walk_list (K := K) (a := AA) (xs := [V.ref A0, V.ref A1])) (fun i H' => Same H H' ∧ ((i = 0 ∧ H' L = some (.lst [])) ∨ (i = 1 ∧ ∃ B0, H B0 = none ∧ B0 ≠ L ∧ H' L = some (.lst [.ref B0]) ∧ H' B0 = some (.lst (cells S.m0))) ∨
      (i = 2 ∧ ∃ B0 B1, H B0 = none ∧ H B1 = none ∧ B0 ≠ L ∧ B1 ≠ L ∧ B0 ≠ B1 ∧ H' L = some (.lst [.ref B0, .ref B1]) ∧ H' B0 = some (.lst (cells S.m0)) ∧ H' B1 = some (.lst (cells S.m1))))) ⟨same_new hL, .inl ⟨rfl, upd_same⟩⟩ (fun i H' _ ⟨s, _⟩ => s.seq (SqL.of h.aa)) ?_ ?_
    · rintro i x H1 H1' hi ⟨s1, cs⟩ ⟨rfl, hx⟩
      have up : ∀ (H2 : Hp) (ys : List V), Same H H2 → Same H (upd H2 L (.lst ys)) := fun H2 ys s b o e => by
        rw [upd_ne (ne_of_none e hL)]
        exact s _ _ e
      rcases cs with ⟨rfl, eL⟩ | ⟨rfl, B0, n0, nL, eL, e0⟩ | ⟨rfl, _⟩
      · cases hx
        refine ⟨rfl, _, rfl, A0, _, rfl, .inl (SqL.of (s1 _ _ h.a0)), fun B hB => ⟨_, by rw [upd_ne (ne_of_none eL hB)]; exact eL, by decide, up _ _ (s1.trans (same_new hB)), .inr (.inl ⟨rfl, B, s1.free hB, Ne.symm (ne_of_none eL hB), upd_same, ?_⟩)⟩⟩
        rw [upd_ne (Ne.symm (ne_of_none eL hB))]
        exact upd_same
      · cases hx
        refine ⟨rfl, _, rfl, A1, _, rfl, .inl (SqL.of (s1 _ _ h.a1)), fun B hB => ⟨_, by rw [upd_ne (ne_of_none eL hB)]; exact eL, (by show 1 < sizeLine; decide), up _ _ (s1.trans (same_new hB)), .inr (.inr ⟨rfl, B0, B, n0, s1.free hB, nL, Ne.symm (ne_of_none eL hB), ne_of_none e0 hB, upd_same, ?_, ?_⟩)⟩⟩
        · rw [upd_ne nL, upd_ne (ne_of_none e0 hB)]
          exact e0
        · rw [upd_ne (Ne.symm (ne_of_none eL hB))]
          exact upd_same
      · exact absurd hi (by show ¬ 2 < 2; decide)
    · rintro H1 ⟨s1, cs⟩
      rcases cs with ⟨e, _⟩ | ⟨e, _⟩ | ⟨_, B0, B1, n0, n1, nL0, nL1, n01, eL, e0, e1⟩
      · cases e
      · cases e
      · exact k L B0 B1 H1 s1 hL n0 n1 (Ne.symm nL0) (Ne.symm nL1) n01 eL e0 e1
end k15
namespace k15
open PySem L2 LC RM SM TL
def spDisk_unsynced (r : Ar) : Sp := fun vs H Q _ => ∃ (d : Addr) (F : Addr → Prop) (S : DS), vs = [.ref d] ∧ DiskAt r F H d S ∧ ∀ (L : Addr) (ts : List Addr) H', Same H H' → H L = none → H' L = some (.lst (ts.map V.ref)) → Ops (fun b => ¬ F b) H ts S.op → Q (.ref L) H'
theorem ok_Disk_unsynced {P : Program} {w : World} {K : PySem.W.Frag} {mg : Str → Option Value} {base : Heap} {f : Addr} {fd : FuncData} (F0 : Fun K "unsynced" "Disk.unsynced" sDisk_unsynced f fd) (T : Txt K mg) {r : Ar} (KR : Kr K mg r) :
    FnOk P w K mg base CX0 1 f fd PDisk_unsynced (spDisk_unsynced r) := by
  refine F0.ok scDisk_unsynced (fun vs H Q E h => ?_) (fun cdv A outer s H vs Q E hr h => ?_)
  · obtain ⟨d, F, S, rfl, ⟨dx, Dt, AA, A0, A1, U, ts, h⟩, k⟩ := h
    rfl
  · obtain ⟨d, F, S, rfl, ⟨dx, Dt, AA, A0, A1, U, ts, h⟩, k⟩ := h
    refine ⟨_, (pss_one (ps_ret (pe_callTy call_list_of (by rfl) T.n_list (by decide +kernel) (pa_cons (pe_fld (pv 0) rfl) pa_nil)))), ?_⟩
    refine ⟨_, rfl, d, r.c, dx, _, _, rfl, h.hd, KR.cl, KR.n_unsynced, rfl, U, _, rfl, .inl (SqL.of h.u), fun L hL => ?_⟩
    exact k L ts _ (same_new hL) hL upd_same h.op
end k15
namespace k15
open PySem L2 LC RM SM TL
def spDisk_syncs (r : Ar) : Sp := fun vs H Q _ => ∃ (d : Addr) (F : Addr → Prop) (S : DS), vs = [.ref d] ∧ DiskAt r F H d S ∧ Q (.int S.syn) H
theorem ok_Disk_syncs {P : Program} {w : World} {K : PySem.W.Frag} {mg : Str → Option Value} {base : Heap} {f : Addr} {fd : FuncData} (F0 : Fun K "syncs" "Disk.syncs" sDisk_syncs f fd) (T : Txt K mg) {r : Ar} (KR : Kr K mg r) :
    FnOk P w K mg base CX0 1 f fd PDisk_syncs (spDisk_syncs r) := by
  refine F0.ok scDisk_syncs (fun vs H Q E h => ?_) (fun cdv A outer s H vs Q E hr h => ?_)
  · obtain ⟨d, F, S, rfl, ⟨dx, Dt, AA, A0, A1, U, ts, h⟩, k⟩ := h
    rfl
  · obtain ⟨d, F, S, rfl, ⟨dx, Dt, AA, A0, A1, U, ts, h⟩, k⟩ := h
    refine ⟨_, (pss_one (ps_ret (pe_fld (pv 0) rfl))), ?_⟩
    exact ⟨_, rfl, d, r.c, dx, _, _, rfl, h.hd, KR.cl, KR.n_syncs, rfl, k⟩
end k15
namespace k15
open PySem L2 LC RM SM TL
def spDisk_fallen (r : Ar) : Sp := fun vs H Q _ => ∃ (d : Addr) (F : Addr → Prop) (S : DS), vs = [.ref d] ∧ DiskAt r F H d S ∧ Q (.bl S.fal) H
theorem ok_Disk_fallen {P : Program} {w : World} {K : PySem.W.Frag} {mg : Str → Option Value} {base : Heap} {f : Addr} {fd : FuncData} (F0 : Fun K "fallen" "Disk.fallen" sDisk_fallen f fd) (T : Txt K mg) {r : Ar} (KR : Kr K mg r) :
    FnOk P w K mg base CX0 1 f fd PDisk_fallen (spDisk_fallen r) := by
  refine F0.ok scDisk_fallen (fun vs H Q E h => ?_) (fun cdv A outer s H vs Q E hr h => ?_)
  · obtain ⟨d, F, S, rfl, ⟨dx, Dt, AA, A0, A1, U, ts, h⟩, k⟩ := h
    rfl
  · obtain ⟨d, F, S, rfl, ⟨dx, Dt, AA, A0, A1, U, ts, h⟩, k⟩ := h
    refine ⟨_, (pss_one (ps_ret (pe_fld (pv 0) rfl))), ?_⟩
    exact ⟨_, rfl, d, r.c, dx, _, _, rfl, h.hd, KR.cl, KR.n_fallen, rfl, k⟩
end k15
namespace k15
open PySem L2 LC RM SM TL
def spDisk_wake (r : Ar) : Sp := fun vs H Q _ => ∃ (d : Addr) (F : Addr → Prop) (S : DS) (c0 c1 : List Cl) (a g : Nat) (kv : List (Key × V)), vs = [.ref d] ∧ DiskAt r F H d S ∧ S.fal = true ∧ cells S.m0 = c0.map Cl.v ∧ cells S.m1 = c1.map Cl.v ∧ (∀ c ∈ c0, c.Ok) ∧ (∀ c ∈ c1, c.Ok) ∧ c0.length ≤ 6000 ∧ c1.length ≤ 6000 ∧ RdOk c0 ∧ RdOk c1 ∧
  rdB c0 c1 = some (a, g, kv) ∧ c0 ++ c1 ≠ [] ∧ DSok (S.rise a kv (maxGen (c0 ++ c1))) ∧ ∀ H', Chg r F H H' d ((S.rise a kv (maxGen (c0 ++ c1))).check true) → Q .non H'
theorem ok_Disk_wake {P : Program} {w : World} {K : PySem.W.Frag} {mg : Str → Option Value} {base : Heap} {f : Addr} {fd : FuncData} (F0 : Fun K "wake" "Disk.wake" sDisk_wake f fd) (T : Txt K mg) {r : Ar} (KR : Kr K mg r) {fdRcheck : FuncData} {uT : Value} (ruT : RelV (.bl true) uT) (GDisk_check : FnOk P w K mg base CX0 3 r.fcheck fdRcheck PDisk_check (spDisk_check r)) (BcheckT : Binds K fdRcheck PDisk_check [uT]) {fgeneration_of : Addr} {fdgeneration_of : FuncData} (Dgeneration_of : Def K mg "generation_of" sgeneration_of Pgeneration_of fgeneration_of fdgeneration_of) (Ggeneration_of : FnOk P w K mg base CX0 1 fgeneration_of fdgeneration_of Pgeneration_of (spgeneration_of)) {fread_areas : Addr} {fdread_areas : FuncData} (Dread_areas : Def K mg "read_areas" sread_areas Pread_areas fread_areas fdread_areas) (Gread_areas : FnOk P w K mg base CX0 4 fread_areas fdread_areas Pread_areas (spread_areas)) :
    FnOk P w K mg base CX0 5 f fd PDisk_wake (spDisk_wake r) := by
  refine F0.ok scDisk_wake (fun vs H Q E h => ?_) (fun cdv A outer s H vs Q E hr h => ?_)
  · obtain ⟨d, F, S, c0, c1, a, g, kv, rfl, ⟨dx, Dt, AA, A0, A1, U, ts, h⟩, hf, z0, z1, ok0, ok1, l0, l1, r0, r1, hb, ne, dk, k⟩ := h
    rfl
  · obtain ⟨d, F, S, c0, c1, a, g, kv, rfl, ⟨dx, Dt, AA, A0, A1, U, ts, h⟩, hf, z0, z1, ok0, ok1, l0, l1, r0, r1, hb, ne, dk, k⟩ := h
    have hrgeneration_of : Room 1 _ := hr.mono (by decide)
    have hrread_areas : Room 4 _ := hr.mono (by decide)
    have hrDisk_check : Room 3 _ := hr.mono (by decide)
    refine ⟨_, (pss_cons (ps_if (pt_not (pt_val (pe_fld (pv 0) rfl))) (pss_one LC.ps_never) pss_nil)
        (pss_cons (ps_asg (pe_call Gread_areas hrread_areas rfl Dread_areas.g Dread_areas.F.kp Dread_areas.b .nil pass0 (pa_cons (pe_fld (pv 0) rfl) pa_nil)) (pg_tup rfl (pgs_cons (LF.pg_fld (pv 0)) (pgs_cons (pg_name (i := 1) scDisk_wake.nd rfl (Or.inl rfl)) (pgs_cons (LF.pg_fld (pv 0)) pgs_nil)))))
        (pss_cons (ps_fld (pv 0) (pe_callB (cr_max rfl) (by rfl) T.n_max (by decide +kernel) (pa_cons (pe_lc2 (own := [("cells", 2), ("cell", 3)]) (vs1 := [3]) (g := gName 2) (tt := tYes) (g1 := gName 3) (tt1 := tYes) rfl scDisk_wake.nd (pi_list (pe_fld (pv 0) rfl)) (blkOk_by (own := [("cells", 2), ("cell", 3)]) (N := NmDisk_wake) (sc := defScope sDisk_wake) (by decide +kernel)) (by simp) (fun _ _ _ _ _ => (pg_name (i := 2) scDisk_wake.nd rfl (Or.inl rfl))) (fun _ _ _ _ _ => pts_nil) (fun _ _ _ _ _ => (show PI _ _ _ (iList K (tVar 2)) from pi_list (pv 2))) (fun _ _ _ _ _ => (pg_name (i := 3) scDisk_wake.nd rfl (Or.inl rfl))) (fun _ _ _ _ _ => pts_nil) (fun _ _ _ _ _ => (pe_call Ggeneration_of hrgeneration_of rfl Dgeneration_of.g Dgeneration_of.F.kp Dgeneration_of.b .nil pass0 (pa_cons (pv 3) pa_nil)))) pa_nil)) rfl)
        (pss_cons (ps_fld (pv 0) pe_bl rfl)
        (pss_one (ps_expr (pe_meth0 (pv 0) KR.cl KR.mcheck GDisk_check hrDisk_check BcheckT (.cons ruT .nil) pass0))))))), ?_⟩
    refine ⟨_, rfl, d, r.c, dx, _, _, rfl, h.hd, KR.cl, KR.n_fallen, rfl, _, rfl, ?_⟩
    rw [hf]
    refine iteF ?_
    have a0 : H A0 = some (.lst (c0.map Cl.v)) := by rw [← z0]; exact h.a0
    have a1 : H A1 = some (.lst (c1.map Cl.v)) := by rw [← z1]; exact h.a1
    refine ⟨_, rfl, d, r.c, dx, _, _, rfl, h.hd, KR.cl, KR.n_areas, rfl, AA, A0, A1, c0, c1, rfl, h.aa, a0, a1, ok0, ok1, l0, l1, r0, r1, (fun q => absurd (q.symm.trans hb) (by simp)), fun a' g' kv' e t D H1 s1 nD eD et => ?_⟩
    rw [hb] at e
    cases e
    have h1 := h.same s1
    have Dd : D ≠ d := fun z => by rw [z, h.hd] at nD; cases nD
    refine ⟨t, _, rfl, SqT.of et, rfl, _, _, rfl, _, rfl, d, r.c, dx, _, rfl, h1.hd, KR.cl, KR.n_area, (by show 12 < 1000; decide), _, _, rfl, _, _, rfl, _, rfl, d, r.c, dx, _, rfl, upd_same, KR.cl, KR.n_table, (by show 12 < 1000; decide), rfl, ?_⟩
    rw [upd_upd]
    have x2 := h1.rise (S' := { S with side := (a : Int), kv := kv }) eD rfl rfl rfl
    have k2 : KpF F H (upd H1 d (.ins r.c dx (dF { S with side := (a : Int), kv := kv } D AA U))) := fun b o n e => by
      rw [upd_ne (fun z => n (by rw [z]; exact h.fd))]
      exact s1 _ _ e
    have f2 : ∀ b, (F b ∨ b = D) → F b ∨ H b = none := fun b z => z.elim .inl fun z => .inr (by rw [z]; exact nD)
    have hz : putF "_table" (.ref D) (putF "_area" (.int (a : Int)) (dF S Dt AA U)) = dF { S with side := (a : Int), kv := kv } D AA U := rfl
    rw [hz]
    have b0 : upd H1 d (.ins r.c dx (dF { S with side := (a : Int), kv := kv } D AA U)) A0 = some (.lst (c0.map Cl.v)) := by rw [← z0]; exact x2.a0
    have b1 : upd H1 d (.ins r.c dx (dF { S with side := (a : Int), kv := kv } D AA U)) A1 = some (.lst (c1.map Cl.v)) := by rw [← z1]; exact x2.a1
    generalize upd H1 d (.ins r.c dx (dF { S with side := (a : Int), kv := kv } D AA U)) = H2 at x2 k2 b0 b1 ⊢
    clear h1 s1 et eD a0 a1 z0 z1 hz
    refine ⟨_, rfl, d, r.c, dx, _, _, rfl, x2.hd, KR.cl, KR.n_areas, rfl, AA, rfl, ⟨_, SqL.of x2.aa⟩, fun M hM => ?_⟩
    obtain ⟨gs, g0, g2, stp⟩ : ∃ gs : Nat → List Cl, gs 0 = [] ∧ gs 2 = c0 ++ c1 ∧ ∀ (i : Nat) (x : V), ([V.ref A0, V.ref A1])[i]? = some x → ∃ (C : Addr) (cs : List Cl), x = .ref C ∧ H2 C = some (.lst (cs.map Cl.v)) ∧ (∀ c ∈ cs, c.Ok) ∧ cs.length ≤ 6000 ∧ gs (i + 1) = gs i ++ cs := by
      refine ⟨fun i => match i with | 0 => [] | 1 => c0 | _ => c0 ++ c1, rfl, rfl, fun i x e => ?_⟩
      match i, e with
      | 0, e => cases e; exact ⟨A0, c0, rfl, b0, ok0, l0, rfl⟩
      | 1, e => cases e; exact ⟨A1, c1, rfl, b1, ok1, l1, rfl⟩
    refine LF.lp_it (walk_list (K := K) (a := AA) (xs := [.ref A0, .ref A1])) (fun i H' => Same H2 H' ∧ H' M = some (.lst ((gs i).map fun c => V.int (c.gen : Int))) ∧ (gs i).length ≤ 6000 * i) ?_ ?_ ?_ ?_
    · exact ⟨same_new hM, by rw [g0]; exact upd_same, by rw [g0]; exact Nat.zero_le _⟩
    · exact (fun i H' _ ⟨s, _⟩ => s.seq (SqL.of x2.aa))
    · rintro i x H3 H3' hi ⟨s3, m3, l3⟩ ⟨rfl, hx⟩
      have hi2 : i < 2 := hi
      obtain ⟨C, cs, rfl, hC, okc, lc, hg⟩ := stp i x hx
      refine ⟨rfl, _, rfl, C, rfl, ⟨_, SqL.of (s3 _ _ hC)⟩, ?_⟩
      refine LF.lp_it (walk_list (K := K) (a := C) (xs := cs.map Cl.v)) (fun j H' => Same H2 H' ∧ H' M = some (.lst ((gs i ++ cs.take j).map fun c => V.int (c.gen : Int)))) ?_ ?_ ?_ ?_
      · exact ⟨s3, by rw [List.take_zero, List.append_nil]; exact m3⟩
      · exact (fun j H' _ ⟨s, _⟩ => s.seq (SqL.of hC))
      · rintro j x H4 H4' hj ⟨s4, m4⟩ ⟨rfl, hx⟩
        rw [List.length_map] at hj
        rw [List.getElem?_map, List.getElem?_eq_getElem hj] at hx
        obtain rfl := Option.some.inj hx
        refine ⟨rfl, _, rfl, cs[j], rfl, okc _ (List.getElem_mem hj), fun H5 s5 => ⟨_, s5 _ _ m4, ?_, fun b u e => ?_, ?_⟩⟩
        · rw [List.length_map, List.length_append, List.length_take]
          exact Nat.lt_of_le_of_lt (show _ ≤ 20000 by omega) (by decide)
        · rw [upd_ne (ne_of_none e hM)]
          exact s5 _ _ (s4 _ _ e)
        · rw [upd_same, List.take_add_one, List.getElem?_eq_getElem hj, ← List.append_assoc]
          simp only [List.map_append, List.append_assoc]
          rfl
      · rintro H4 ⟨s4, m4⟩
        rw [List.length_map, List.take_length, ← hg] at m4
        exact ⟨s4, m4, by rw [hg, List.length_append]; omega⟩
    rintro H3 ⟨s3, m3, l3⟩
    have m3 : H3 M = some (.lst ((gs 2).map fun c => V.int (c.gen : Int))) := m3
    rw [g2] at m3
    refine ⟨M, (c0 ++ c1).map fun c => (c.gen : Int), rfl, SqL.of (by rw [m3, List.map_map]; rfl), by rw [List.length_map]; exact List.length_pos_iff.mpr ne, fun m hm hy => ?_⟩
    obtain rfl := max_gen ne hm hy
    have x3 := x2.same s3
    generalize maxGen (c0 ++ c1) = G at dk k ⊢
    refine ⟨_, rfl, d, r.c, dx, _, rfl, x3.hd, KR.cl, KR.n_generation, (by show 12 < 1000; decide), ?_⟩
    refine ⟨_, rfl, d, r.c, dx, _, rfl, upd_same, KR.cl, KR.n_fallen, (by show 12 < 1000; decide), ?_⟩
    rw [upd_upd]
    have hz : putF "_fallen" (.bl false) (putF "_generation" (.int (G : Int)) (dF { S with side := (a : Int), kv := kv } D AA U)) = dF (S.rise a kv G) D AA U := rfl
    rw [hz]
    have x4 := x3.turn (S' := S.rise a kv G) rfl rfl rfl rfl
    have k4 : KpF F H (upd H3 d (.ins r.c dx (dF (S.rise a kv G) D AA U))) := fun b o n e => by
      have Fd := h.fd
      rw [upd_ne (fun z => n (by rw [z]; exact Fd))]
      exact s3 _ _ (k2 _ _ n e)
    generalize upd H3 d (.ins r.c dx (dF (S.rise a kv G) D AA U)) = H4 at x4 k4 ⊢
    exact ⟨_, rfl, d, dx, _, rfl, x4.hd, rfl, d, _, S.rise a kv G, true, rfl, ⟨dx, D, AA, A0, A1, U, ts, x4⟩, dk, fun H5 c5 => k _ (Chg.then k4 f2 c5)⟩
end k15
namespace k15
open PySem L2 LC RM SM TL
/-- a cut that a disk's own things do not hold, or the program's default -/
def CutF (K : PySem.W.Frag) (H : Hp) (F : Addr → Prop) (C : Addr) (ws : List Wd) : Prop := (H C = some (.lst (ws.map Wd.v)) ∧ ¬ F C) ∨ (H C = some (.tup (ws.map Wd.v)) ∧ ¬ F C) ∨ ∃ (o : Obj) (its : Array Value) (n : Nat), K.lookup C = some o ∧ o.cls = .type "tuple" ∧ o.data = .seq its n ∧ its.size ≤ sizeLine ∧ Vals (ws.map Wd.v) its.toList
theorem CutF.at {K : PySem.W.Frag} {H : Hp} {F : Addr → Prop} {C : Addr} {ws : List Wd} (h : CutF K H F C ws) : CutAt K H C ws := h.elim (fun h => .inl h.1) fun h => h.elim (fun h => .inr (.inl h.1)) fun h => .inr (.inr h)
def spDisk_fall (K : PySem.W.Frag) (r : Ar) : Sp := fun vs H Q _ => ∃ (d C : Addr) (F : Addr → Prop) (S : DS) (ws : List Wd), vs = [.ref d, .ref C] ∧ DiskAt r F H d S ∧ CutF K H F C ws ∧ OpsOk S ∧ ∀ H', Chg r F H H' d (S.fall ws) → Q .non H'
theorem ok_Disk_fall {P : Program} {w : World} {K : PySem.W.Frag} {mg : Str → Option Value} {base : Heap} {f : Addr} {fd : FuncData} {ed0 : Addr} (F0 : FunD K "fall" "Disk.fall" (defArgs sDisk_fall) (defBody sDisk_fall) (defScope sDisk_fall) [V.ref ed0] [] f fd) (T : Txt K mg) {r : Ar} (KR : Kr K mg r) {fdRcheck_awake : FuncData} (GDisk_check_awake : FnOk P w K mg base CX0 1 r.fawake fdRcheck_awake PDisk_check_awake (spDisk_check_awake r)) (BDisk_check_awake : Binds K fdRcheck_awake PDisk_check_awake []) {fdRkeep : FuncData} (GDisk_keep : FnOk P w K mg base CX0 1 r.fkeep fdRkeep PDisk_keep (spDisk_keep r)) (BDisk_keep : Binds K fdRkeep PDisk_keep []) {fcheck_cut : Addr} {fdcheck_cut : FuncData} (Dcheck_cut : Def K mg "check_cut" scheck_cut Pcheck_cut fcheck_cut fdcheck_cut) (Gcheck_cut : FnOk P w K mg base CX0 1 fcheck_cut fdcheck_cut Pcheck_cut (spcheck_cut K)) :
    FnOk P w K mg base CX0 2 f fd PDisk_fall (spDisk_fall K r) := by
  refine okD F0 scDisk_fall (fun vs H Q E h => ?_) (fun cdv A outer s H vs Q E hr h => ?_)
  · obtain ⟨d, C, F, S, ws, rfl, ⟨dx, Dt, AA, A0, A1, U, ts, h⟩, hc, ok, k⟩ := h
    rfl
  · obtain ⟨d, C, F, S, ws, rfl, ⟨dx, Dt, AA, A0, A1, U, ts, h⟩, hc, ok, k⟩ := h
    have hrcheck_cut : Room 1 _ := hr.mono (by decide)
    have hrDisk_check_awake : Room 1 _ := hr.mono (by decide)
    have hrDisk_keep : Room 1 _ := hr.mono (by decide)
    refine ⟨_, (pss_cons (ps_expr (pe_meth0 (pv 0) KR.cl KR.mcheck_awake GDisk_check_awake hrDisk_check_awake BDisk_check_awake .nil pass0))
        (pss_cons (ps_expr (pe_call Gcheck_cut hrcheck_cut rfl Dcheck_cut.g Dcheck_cut.F.kp Dcheck_cut.b .nil pass0 (pa_cons (pv 1) pa_nil)))
        (pss_cons (ps_for PassesOwn.never rfl (LO.pi_or (pi_zip (by rfl) T.n_zip (pa_cons (pe_fld (pv 0) rfl) (pa_cons (pv 1) pa_nil))) (LZ.pi_zipM (by rfl) T.n_zip (pa_cons (pe_fld (pv 0) rfl) (pa_cons (pv 1) pa_nil)))) ((pg_tup rfl (pgs_cons (pg_tup rfl (pgs_cons (pg_name (i := 2) scDisk_fall.nd rfl (Or.inl rfl)) (pgs_cons (pg_name (i := 3) scDisk_fall.nd rfl (Or.inl rfl)) (pgs_cons (pg_name (i := 4) scDisk_fall.nd rfl (Or.inl rfl)) pgs_nil)))) (pgs_cons (pg_name (i := 5) scDisk_fall.nd rfl (Or.inl rfl)) pgs_nil))))
          (pss_one (ps_if (pt_cmpR op_ne (pv 5) pe_str (nomark _)) (pss_one (ps_expr (pe_meth (pv 0) KR.cl KR.mkeep GDisk_keep hrDisk_keep BDisk_keep .nil pass0 (pa_cons (pv 2) (pa_cons (pv 3) (pa_cons (pe_ifExp (pt_cmpR op_eq (pv 5) pe_str (nomark _)) (pv 4) pe_str) pa_nil)))))) pss_nil)))
        (pss_cons (ps_fld (pv 0) (pe_lst pa_nil) rfl)
        (pss_cons (ps_fld (pv 0) pe_dnewK rfl)
        (pss_one (ps_fld (pv 0) pe_bl rfl))))))), ?_⟩
    have ll := h.op.len
    refine ⟨_, rfl, d, dx, _, rfl, h.hd, rfl, d, dx, Dt, AA, U, S, rfl, h.hd, ok.fal, ?_⟩
    refine ⟨_, rfl, C, ws, rfl, hc.at, fun H1 s1 => ?_⟩
    have h1 := h.same s1
    rcases hc with ⟨hL0, nC⟩ | ⟨hT0, nC⟩ | hK
    · have sqk : ∀ H', KpF F H1 H' → SqL K H' C (ws.map Wd.v) := fun H' q => SqL.of (q _ _ nC (s1 _ _ hL0))
      refine .inl ⟨_, rfl, d, r.c, dx, _, _, rfl, h1.hd, KR.cl, KR.n_unsynced, rfl, _, rfl, U, C, _, _, rfl, SqL.of h1.u, sqk H1 (KpF.refl _ _), ?_⟩
      refine for_it (walk_zip (K := K) (a := U) (b := C) (xs := ts.map V.ref) (ys := ws.map Wd.v) rfl) (fun i σ H' => ∃ v2 v3 v4 v5 : Option V, σ = [some (.ref d), some (.ref C), v2, v3, v4, v5] ∧ KpF F H1 H' ∧ DiskX r F H' d (((S.op.zip ws).take i).foldl DS.cut1 S) dx Dt AA A0 A1 U ts) ?_ ?_ ?_ ?_
      · exact ⟨none, none, none, none, rfl, KpF.refl _ _, h1⟩
      · exact (fun i σ H' _ ⟨_, _, _, _, _, q, h'⟩ => ⟨SqL.of h'.u, sqk H' q⟩)
      · rintro i x σ H2 H3 hi ⟨v2, v3, v4, v5, rfl, k2, h2⟩ ⟨T, x1, x2, rfl, hT', rfl, q1, q2⟩
        have q1 : (ts.map V.ref)[i]? = some x1 := q1
        have q2 : (ws.map Wd.v)[i]? = some x2 := q2
        rw [List.getElem?_map] at q1 q2
        cases hu : ts[i]? with
        | none => rw [hu] at q1; cases q1
        | some t =>
        rw [hu] at q1
        obtain rfl : V.ref t = x1 := Option.some.inj q1
        cases hw : ws[i]? with
        | none => rw [hw] at q2; cases q2
        | some wd =>
        rw [hw] at q2
        obtain rfl : wd.v = x2 := Option.some.inj q2
        have t3 := same_new (o := .tup [.ref t, wd.v]) hT'
        have h3 := h2.same t3
        have k3 : KpF F H1 (upd H2 T (.tup [.ref t, wd.v])) := k2.trans (KpF.same t3)
        have eT : upd H2 T (.tup [.ref t, wd.v]) T = some (.tup [.ref t, wd.v]) := upd_same
        obtain ⟨q, hq, ft, et⟩ := h3.op.get hu
        rw [(cut_same _ S).1] at hq
        have qm := ok.ar q (List.mem_of_getElem? hq)
        have hz : (S.op.zip ws)[i]? = some (q, wd) := by
          rw [List.getElem?_zip_eq_some]
          exact ⟨hq, hw⟩
        have sc : ((S.op.zip ws).take (i + 1)).foldl DS.cut1 S = DS.cut1 (((S.op.zip ws).take i).foldl DS.cut1 S) (q, wd) := by
          rw [List.take_add_one, hz, List.foldl_append]
          rfl
        generalize ((S.op.zip ws).take i).foldl DS.cut1 S = Si at h3 sc
        generalize upd H2 T (.tup [.ref t, wd.v]) = H3 at k3 h3 eT et
        refine ⟨T, _, rfl, SqT.of eT, rfl, _, _, rfl, t, _, rfl, SqT.of et, rfl, _, _, rfl, _, _, rfl, _, _, rfl, rfl, _, _, rfl, rfl, ?_⟩
        refine ⟨_, rfl, rfl, _, rfl, ?_⟩
        rw [wd_lost]
        cases wd with
        | lost => exact iteF ⟨_, _, _, _, rfl, k3, by rw [sc]; exact h3⟩
        | kept =>
          refine iteT ⟨_, rfl, d, dx, _, rfl, h3.hd, rfl, _, rfl, _, rfl, _, rfl, rfl, _, rfl, ?_⟩
          rw [wd_kept]
          refine iteT ⟨_, rfl, d, F, Si, q, dx, Dt, AA, A0, A1, U, ts, rfl, h3, qm.1, qm.2.1, qm.2.2, fun H4 ⟨k4, h4⟩ => ⟨_, _, _, _, rfl, k3.trans k4, ?_⟩⟩
          rw [sc]
          exact h4
        | torn =>
          refine iteT ⟨_, rfl, d, dx, _, rfl, h3.hd, rfl, _, rfl, _, rfl, _, rfl, rfl, _, rfl, ?_⟩
          rw [wd_kept]
          refine iteF ⟨d, F, Si, (q.1, q.2.1, ""), dx, Dt, AA, A0, A1, U, ts, rfl, h3, qm.1, qm.2.1, qm.2.2, fun H4 ⟨k4, h4⟩ => ⟨_, _, _, _, rfl, k3.trans k4, ?_⟩⟩
          rw [sc]
          exact h4
      · rintro σ H2 ⟨v2, v3, v4, v5, rfl, k2, h2⟩
        rw [List.take_of_length_le (by rw [List.length_zip, List.length_map, List.length_map, ll]; exact Nat.le_refl _)] at h2
        refine ⟨(by show 0 ≤ sizeLine; decide), fun N hN => ?_⟩
        have dN : d ≠ N := ne_of_none h2.hd hN
        have hd1 : upd H2 N (.lst []) d = _ := (upd_ne dN).trans h2.hd
        refine ⟨_, rfl, d, r.c, dx, _, rfl, hd1, KR.cl, KR.n_unsynced, (by show 12 < 1000; decide), ?_⟩
        generalize hSl : (S.op.zip ws).foldl DS.cut1 S = Sl at h2
        have x3 := h2.store (S' := { Sl with op := [] }) hN rfl rfl rfl rfl
        have eF : S.fall ws = { Sl with op := [], kv := [], fal := true } := by
          unfold DS.fall
          rw [hSl]
        have fd := h.fd
        have nw : ∀ b, H2 b = none → F b ∨ H b = none := fun b hb => by
          by_cases c : F b
          · exact .inl c
          · cases q : H b with
            | none => exact .inr rfl
            | some o => rw [k2 _ _ c (s1 _ _ q)] at hb; cases hb
        have hz1 : putF "_unsynced" (.ref N) (dF Sl Dt AA U) = dF { Sl with op := [] } Dt AA N := rfl
        rw [hz1]
        have k3 : KpF F H1 (upd (upd H2 N (.lst [])) d (.ins r.c dx (dF { Sl with op := [] } Dt AA N))) := (k2.new hN).upd fd
        have bk : ∀ b, upd (upd H2 N (.lst [])) d (.ins r.c dx (dF { Sl with op := [] } Dt AA N)) b = none → H2 b = none := fun b hb => by
          cases q : H2 b with
          | none => rfl
          | some o =>
            by_cases c : b = d
            · rw [c, upd_same] at hb; cases hb
            · rw [upd_ne c, upd_ne (ne_of_none q hN), q] at hb; cases hb
        generalize upd (upd H2 N (.lst [])) d (.ins r.c dx (dF { Sl with op := [] } Dt AA N)) = H3 at x3 k3 bk ⊢
        refine fun T' hT' => ?_
        have x4 := x3.same (same_new (o := .dK []) hT')
        have eT : upd H3 T' (.dK []) T' = some (.dK []) := upd_same
        have k4 : KpF F H1 (upd H3 T' (.dK [])) := k3.new hT'
        generalize upd H3 T' (.dK []) = H4 at x4 eT k4 ⊢
        refine ⟨_, rfl, d, r.c, dx, _, rfl, x4.hd, KR.cl, KR.n_table, (by show 12 < 1000; decide), ?_⟩
        have hz2 : putF "_table" (.ref T') (dF { Sl with op := [] } Dt AA N) = dF { Sl with op := [], kv := [] } T' AA N := rfl
        rw [hz2]
        have x5 := x4.rise (S' := { Sl with op := [], kv := [] }) eT rfl rfl rfl
        have k5 : KpF F H1 (upd H4 d (.ins r.c dx (dF { Sl with op := [], kv := [] } T' AA N))) := k4.upd fd
        generalize upd H4 d (.ins r.c dx (dF { Sl with op := [], kv := [] } T' AA N)) = H5 at x5 k5 ⊢
        refine ⟨_, rfl, d, r.c, dx, _, rfl, x5.hd, KR.cl, KR.n_fallen, (by show 12 < 1000; decide), k _ ?_⟩
        have hz3 : putF "_fallen" (.bl true) (dF { Sl with op := [], kv := [] } T' AA N) = dF { Sl with op := [], kv := [], fal := true } T' AA N := rfl
        rw [hz3, eF]
        have x6 := x5.turn (S' := { Sl with op := [], kv := [], fal := true }) rfl rfl rfl rfl
        refine ⟨_, fun b o n e => k5.upd fd b o n (s1 _ _ e), ⟨dx, T', AA, A0, A1, N, [], x6⟩, fun b z => ?_⟩
        rcases z with (z | rfl) | rfl
        · exact .inl z
        · exact nw _ hN
        · exact nw _ (bk _ hT')
    · have sqk : ∀ H', KpF F H1 H' → SqT K H' C (ws.map Wd.v) := fun H' q => SqT.of (q _ _ nC (s1 _ _ hT0))
      refine .inr ⟨_, rfl, d, r.c, dx, _, _, rfl, h1.hd, KR.cl, KR.n_unsynced, rfl, _, rfl, U, C, _, _, rfl, SqL.of h1.u, sqk H1 (KpF.refl _ _), ?_⟩
      refine for_it (LZ.walk_zipM (K := K) (a := U) (b := C) (xs := ts.map V.ref) (ys := ws.map Wd.v) rfl) (fun i σ H' => ∃ v2 v3 v4 v5 : Option V, σ = [some (.ref d), some (.ref C), v2, v3, v4, v5] ∧ KpF F H1 H' ∧ DiskX r F H' d (((S.op.zip ws).take i).foldl DS.cut1 S) dx Dt AA A0 A1 U ts) ?_ ?_ ?_ ?_
      · exact ⟨none, none, none, none, rfl, KpF.refl _ _, h1⟩
      · exact (fun i σ H' _ ⟨_, _, _, _, _, q, h'⟩ => ⟨SqL.of h'.u, sqk H' q⟩)
      · rintro i x σ H2 H3 hi ⟨v2, v3, v4, v5, rfl, k2, h2⟩ ⟨T, x1, x2, rfl, hT', rfl, q1, q2⟩
        have q1 : (ts.map V.ref)[i]? = some x1 := q1
        have q2 : (ws.map Wd.v)[i]? = some x2 := q2
        rw [List.getElem?_map] at q1 q2
        cases hu : ts[i]? with
        | none => rw [hu] at q1; cases q1
        | some t =>
        rw [hu] at q1
        obtain rfl : V.ref t = x1 := Option.some.inj q1
        cases hw : ws[i]? with
        | none => rw [hw] at q2; cases q2
        | some wd =>
        rw [hw] at q2
        obtain rfl : wd.v = x2 := Option.some.inj q2
        have t3 := same_new (o := .tup [.ref t, wd.v]) hT'
        have h3 := h2.same t3
        have k3 : KpF F H1 (upd H2 T (.tup [.ref t, wd.v])) := k2.trans (KpF.same t3)
        have eT : upd H2 T (.tup [.ref t, wd.v]) T = some (.tup [.ref t, wd.v]) := upd_same
        obtain ⟨q, hq, ft, et⟩ := h3.op.get hu
        rw [(cut_same _ S).1] at hq
        have qm := ok.ar q (List.mem_of_getElem? hq)
        have hz : (S.op.zip ws)[i]? = some (q, wd) := by
          rw [List.getElem?_zip_eq_some]
          exact ⟨hq, hw⟩
        have sc : ((S.op.zip ws).take (i + 1)).foldl DS.cut1 S = DS.cut1 (((S.op.zip ws).take i).foldl DS.cut1 S) (q, wd) := by
          rw [List.take_add_one, hz, List.foldl_append]
          rfl
        generalize ((S.op.zip ws).take i).foldl DS.cut1 S = Si at h3 sc
        generalize upd H2 T (.tup [.ref t, wd.v]) = H3 at k3 h3 eT et
        refine ⟨T, _, rfl, SqT.of eT, rfl, _, _, rfl, t, _, rfl, SqT.of et, rfl, _, _, rfl, _, _, rfl, _, _, rfl, rfl, _, _, rfl, rfl, ?_⟩
        refine ⟨_, rfl, rfl, _, rfl, ?_⟩
        rw [wd_lost]
        cases wd with
        | lost => exact iteF ⟨_, _, _, _, rfl, k3, by rw [sc]; exact h3⟩
        | kept =>
          refine iteT ⟨_, rfl, d, dx, _, rfl, h3.hd, rfl, _, rfl, _, rfl, _, rfl, rfl, _, rfl, ?_⟩
          rw [wd_kept]
          refine iteT ⟨_, rfl, d, F, Si, q, dx, Dt, AA, A0, A1, U, ts, rfl, h3, qm.1, qm.2.1, qm.2.2, fun H4 ⟨k4, h4⟩ => ⟨_, _, _, _, rfl, k3.trans k4, ?_⟩⟩
          rw [sc]
          exact h4
        | torn =>
          refine iteT ⟨_, rfl, d, dx, _, rfl, h3.hd, rfl, _, rfl, _, rfl, _, rfl, rfl, _, rfl, ?_⟩
          rw [wd_kept]
          refine iteF ⟨d, F, Si, (q.1, q.2.1, ""), dx, Dt, AA, A0, A1, U, ts, rfl, h3, qm.1, qm.2.1, qm.2.2, fun H4 ⟨k4, h4⟩ => ⟨_, _, _, _, rfl, k3.trans k4, ?_⟩⟩
          rw [sc]
          exact h4
      · rintro σ H2 ⟨v2, v3, v4, v5, rfl, k2, h2⟩
        rw [List.take_of_length_le (by rw [List.length_zip, List.length_map, List.length_map, ll]; exact Nat.le_refl _)] at h2
        refine ⟨(by show 0 ≤ sizeLine; decide), fun N hN => ?_⟩
        have dN : d ≠ N := ne_of_none h2.hd hN
        have hd1 : upd H2 N (.lst []) d = _ := (upd_ne dN).trans h2.hd
        refine ⟨_, rfl, d, r.c, dx, _, rfl, hd1, KR.cl, KR.n_unsynced, (by show 12 < 1000; decide), ?_⟩
        generalize hSl : (S.op.zip ws).foldl DS.cut1 S = Sl at h2
        have x3 := h2.store (S' := { Sl with op := [] }) hN rfl rfl rfl rfl
        have eF : S.fall ws = { Sl with op := [], kv := [], fal := true } := by
          unfold DS.fall
          rw [hSl]
        have fd := h.fd
        have nw : ∀ b, H2 b = none → F b ∨ H b = none := fun b hb => by
          by_cases c : F b
          · exact .inl c
          · cases q : H b with
            | none => exact .inr rfl
            | some o => rw [k2 _ _ c (s1 _ _ q)] at hb; cases hb
        have hz1 : putF "_unsynced" (.ref N) (dF Sl Dt AA U) = dF { Sl with op := [] } Dt AA N := rfl
        rw [hz1]
        have k3 : KpF F H1 (upd (upd H2 N (.lst [])) d (.ins r.c dx (dF { Sl with op := [] } Dt AA N))) := (k2.new hN).upd fd
        have bk : ∀ b, upd (upd H2 N (.lst [])) d (.ins r.c dx (dF { Sl with op := [] } Dt AA N)) b = none → H2 b = none := fun b hb => by
          cases q : H2 b with
          | none => rfl
          | some o =>
            by_cases c : b = d
            · rw [c, upd_same] at hb; cases hb
            · rw [upd_ne c, upd_ne (ne_of_none q hN), q] at hb; cases hb
        generalize upd (upd H2 N (.lst [])) d (.ins r.c dx (dF { Sl with op := [] } Dt AA N)) = H3 at x3 k3 bk ⊢
        refine fun T' hT' => ?_
        have x4 := x3.same (same_new (o := .dK []) hT')
        have eT : upd H3 T' (.dK []) T' = some (.dK []) := upd_same
        have k4 : KpF F H1 (upd H3 T' (.dK [])) := k3.new hT'
        generalize upd H3 T' (.dK []) = H4 at x4 eT k4 ⊢
        refine ⟨_, rfl, d, r.c, dx, _, rfl, x4.hd, KR.cl, KR.n_table, (by show 12 < 1000; decide), ?_⟩
        have hz2 : putF "_table" (.ref T') (dF { Sl with op := [] } Dt AA N) = dF { Sl with op := [], kv := [] } T' AA N := rfl
        rw [hz2]
        have x5 := x4.rise (S' := { Sl with op := [], kv := [] }) eT rfl rfl rfl
        have k5 : KpF F H1 (upd H4 d (.ins r.c dx (dF { Sl with op := [], kv := [] } T' AA N))) := k4.upd fd
        generalize upd H4 d (.ins r.c dx (dF { Sl with op := [], kv := [] } T' AA N)) = H5 at x5 k5 ⊢
        refine ⟨_, rfl, d, r.c, dx, _, rfl, x5.hd, KR.cl, KR.n_fallen, (by show 12 < 1000; decide), k _ ?_⟩
        have hz3 : putF "_fallen" (.bl true) (dF { Sl with op := [], kv := [] } T' AA N) = dF { Sl with op := [], kv := [], fal := true } T' AA N := rfl
        rw [hz3, eF]
        have x6 := x5.turn (S' := { Sl with op := [], kv := [], fal := true }) rfl rfl rfl rfl
        refine ⟨_, fun b o n e => k5.upd fd b o n (s1 _ _ e), ⟨dx, T', AA, A0, A1, N, [], x6⟩, fun b z => ?_⟩
        rcases z with (z | rfl) | rfl
        · exact .inl z
        · exact nw _ hN
        · exact nw _ (bk _ hT')
    · have sqk : ∀ H', KpF F H1 H' → SqT K H' C (ws.map Wd.v) := fun H' q => .inr hK
      refine .inr ⟨_, rfl, d, r.c, dx, _, _, rfl, h1.hd, KR.cl, KR.n_unsynced, rfl, _, rfl, U, C, _, _, rfl, SqL.of h1.u, sqk H1 (KpF.refl _ _), ?_⟩
      refine for_it (LZ.walk_zipM (K := K) (a := U) (b := C) (xs := ts.map V.ref) (ys := ws.map Wd.v) rfl) (fun i σ H' => ∃ v2 v3 v4 v5 : Option V, σ = [some (.ref d), some (.ref C), v2, v3, v4, v5] ∧ KpF F H1 H' ∧ DiskX r F H' d (((S.op.zip ws).take i).foldl DS.cut1 S) dx Dt AA A0 A1 U ts) ?_ ?_ ?_ ?_
      · exact ⟨none, none, none, none, rfl, KpF.refl _ _, h1⟩
      · exact (fun i σ H' _ ⟨_, _, _, _, _, q, h'⟩ => ⟨SqL.of h'.u, sqk H' q⟩)
      · rintro i x σ H2 H3 hi ⟨v2, v3, v4, v5, rfl, k2, h2⟩ ⟨T, x1, x2, rfl, hT', rfl, q1, q2⟩
        have q1 : (ts.map V.ref)[i]? = some x1 := q1
        have q2 : (ws.map Wd.v)[i]? = some x2 := q2
        rw [List.getElem?_map] at q1 q2
        cases hu : ts[i]? with
        | none => rw [hu] at q1; cases q1
        | some t =>
        rw [hu] at q1
        obtain rfl : V.ref t = x1 := Option.some.inj q1
        cases hw : ws[i]? with
        | none => rw [hw] at q2; cases q2
        | some wd =>
        rw [hw] at q2
        obtain rfl : wd.v = x2 := Option.some.inj q2
        have t3 := same_new (o := .tup [.ref t, wd.v]) hT'
        have h3 := h2.same t3
        have k3 : KpF F H1 (upd H2 T (.tup [.ref t, wd.v])) := k2.trans (KpF.same t3)
        have eT : upd H2 T (.tup [.ref t, wd.v]) T = some (.tup [.ref t, wd.v]) := upd_same
        obtain ⟨q, hq, ft, et⟩ := h3.op.get hu
        rw [(cut_same _ S).1] at hq
        have qm := ok.ar q (List.mem_of_getElem? hq)
        have hz : (S.op.zip ws)[i]? = some (q, wd) := by
          rw [List.getElem?_zip_eq_some]
          exact ⟨hq, hw⟩
        have sc : ((S.op.zip ws).take (i + 1)).foldl DS.cut1 S = DS.cut1 (((S.op.zip ws).take i).foldl DS.cut1 S) (q, wd) := by
          rw [List.take_add_one, hz, List.foldl_append]
          rfl
        generalize ((S.op.zip ws).take i).foldl DS.cut1 S = Si at h3 sc
        generalize upd H2 T (.tup [.ref t, wd.v]) = H3 at k3 h3 eT et
        refine ⟨T, _, rfl, SqT.of eT, rfl, _, _, rfl, t, _, rfl, SqT.of et, rfl, _, _, rfl, _, _, rfl, _, _, rfl, rfl, _, _, rfl, rfl, ?_⟩
        refine ⟨_, rfl, rfl, _, rfl, ?_⟩
        rw [wd_lost]
        cases wd with
        | lost => exact iteF ⟨_, _, _, _, rfl, k3, by rw [sc]; exact h3⟩
        | kept =>
          refine iteT ⟨_, rfl, d, dx, _, rfl, h3.hd, rfl, _, rfl, _, rfl, _, rfl, rfl, _, rfl, ?_⟩
          rw [wd_kept]
          refine iteT ⟨_, rfl, d, F, Si, q, dx, Dt, AA, A0, A1, U, ts, rfl, h3, qm.1, qm.2.1, qm.2.2, fun H4 ⟨k4, h4⟩ => ⟨_, _, _, _, rfl, k3.trans k4, ?_⟩⟩
          rw [sc]
          exact h4
        | torn =>
          refine iteT ⟨_, rfl, d, dx, _, rfl, h3.hd, rfl, _, rfl, _, rfl, _, rfl, rfl, _, rfl, ?_⟩
          rw [wd_kept]
          refine iteF ⟨d, F, Si, (q.1, q.2.1, ""), dx, Dt, AA, A0, A1, U, ts, rfl, h3, qm.1, qm.2.1, qm.2.2, fun H4 ⟨k4, h4⟩ => ⟨_, _, _, _, rfl, k3.trans k4, ?_⟩⟩
          rw [sc]
          exact h4
      · rintro σ H2 ⟨v2, v3, v4, v5, rfl, k2, h2⟩
        rw [List.take_of_length_le (by rw [List.length_zip, List.length_map, List.length_map, ll]; exact Nat.le_refl _)] at h2
        refine ⟨(by show 0 ≤ sizeLine; decide), fun N hN => ?_⟩
        have dN : d ≠ N := ne_of_none h2.hd hN
        have hd1 : upd H2 N (.lst []) d = _ := (upd_ne dN).trans h2.hd
        refine ⟨_, rfl, d, r.c, dx, _, rfl, hd1, KR.cl, KR.n_unsynced, (by show 12 < 1000; decide), ?_⟩
        generalize hSl : (S.op.zip ws).foldl DS.cut1 S = Sl at h2
        have x3 := h2.store (S' := { Sl with op := [] }) hN rfl rfl rfl rfl
        have eF : S.fall ws = { Sl with op := [], kv := [], fal := true } := by
          unfold DS.fall
          rw [hSl]
        have fd := h.fd
        have nw : ∀ b, H2 b = none → F b ∨ H b = none := fun b hb => by
          by_cases c : F b
          · exact .inl c
          · cases q : H b with
            | none => exact .inr rfl
            | some o => rw [k2 _ _ c (s1 _ _ q)] at hb; cases hb
        have hz1 : putF "_unsynced" (.ref N) (dF Sl Dt AA U) = dF { Sl with op := [] } Dt AA N := rfl
        rw [hz1]
        have k3 : KpF F H1 (upd (upd H2 N (.lst [])) d (.ins r.c dx (dF { Sl with op := [] } Dt AA N))) := (k2.new hN).upd fd
        have bk : ∀ b, upd (upd H2 N (.lst [])) d (.ins r.c dx (dF { Sl with op := [] } Dt AA N)) b = none → H2 b = none := fun b hb => by
          cases q : H2 b with
          | none => rfl
          | some o =>
            by_cases c : b = d
            · rw [c, upd_same] at hb; cases hb
            · rw [upd_ne c, upd_ne (ne_of_none q hN), q] at hb; cases hb
        generalize upd (upd H2 N (.lst [])) d (.ins r.c dx (dF { Sl with op := [] } Dt AA N)) = H3 at x3 k3 bk ⊢
        refine fun T' hT' => ?_
        have x4 := x3.same (same_new (o := .dK []) hT')
        have eT : upd H3 T' (.dK []) T' = some (.dK []) := upd_same
        have k4 : KpF F H1 (upd H3 T' (.dK [])) := k3.new hT'
        generalize upd H3 T' (.dK []) = H4 at x4 eT k4 ⊢
        refine ⟨_, rfl, d, r.c, dx, _, rfl, x4.hd, KR.cl, KR.n_table, (by show 12 < 1000; decide), ?_⟩
        have hz2 : putF "_table" (.ref T') (dF { Sl with op := [] } Dt AA N) = dF { Sl with op := [], kv := [] } T' AA N := rfl
        rw [hz2]
        have x5 := x4.rise (S' := { Sl with op := [], kv := [] }) eT rfl rfl rfl
        have k5 : KpF F H1 (upd H4 d (.ins r.c dx (dF { Sl with op := [], kv := [] } T' AA N))) := k4.upd fd
        generalize upd H4 d (.ins r.c dx (dF { Sl with op := [], kv := [] } T' AA N)) = H5 at x5 k5 ⊢
        refine ⟨_, rfl, d, r.c, dx, _, rfl, x5.hd, KR.cl, KR.n_fallen, (by show 12 < 1000; decide), k _ ?_⟩
        have hz3 : putF "_fallen" (.bl true) (dF { Sl with op := [], kv := [] } T' AA N) = dF { Sl with op := [], kv := [], fal := true } T' AA N := rfl
        rw [hz3, eF]
        have x6 := x5.turn (S' := { Sl with op := [], kv := [], fal := true }) rfl rfl rfl rfl
        refine ⟨_, fun b o n e => k5.upd fd b o n (s1 _ _ e), ⟨dx, T', AA, A0, A1, N, [], x6⟩, fun b z => ?_⟩
        rcases z with (z | rfl) | rfl
        · exact .inl z
        · exact nw _ hN
        · exact nw _ (bk _ hT')
theorem fall_binds {K : PySem.W.Frag} {f ed : Addr} {fd : FuncData} (F : FunD K "fall" "Disk.fall" (defArgs sDisk_fall) (defBody sDisk_fall) (defScope sDisk_fall) [V.ref ed] [] f fd) :
    Binds K fd PDisk_fall [.ref ed] ∧ Binds K fd PDisk_fall [] ∧ KBn K fd PDisk_fall 1 ["cut"] kg1 kg1 := by
  refine ⟨?_, ?_, ?_⟩
  · obtain ⟨ds, hv, b⟩ := F.binds1 (ps := PDisk_fall) 1 0 (by simp) rfl (fun T kV doc pm an cdv ct us its hl hi => match us, its, hl, hi with | [_], [_], _, _ => ⟨_, rfl, rfl⟩)
    obtain ⟨u, rfl, ru⟩ := hv.one
    obtain rfl : u = .ref ed := ru
    exact b
  · obtain ⟨ds, hv, b⟩ := F.binds1 (ps := PDisk_fall) 2 1 (by simp) rfl (fun T kV doc pm an cdv ct us its hl hi => match us, its, hl, hi with | [_, _], [_], _, _ => ⟨_, rfl, rfl⟩)
    cases hv
    exact b
  · obtain ⟨its, h⟩ := F.kbindsD (ps := PDisk_fall) 1 ["cut"] (fun us _ ws => kg1 us ws) (by simp)
      (fun r1 _ r2 => match r1, r2 with | .cons a .nil, .cons c .nil => .cons a (.cons c .nil) | .nil, _ => .nil | .cons _ (.cons _ _), _ => .nil | .cons _ .nil, .nil => .nil | .cons _ .nil, .cons _ (.cons _ _) => .nil)
      (fun T kV doc pm an cdv ct us its ws hl hi hw => match us, its, ws, hl, hi, hw with | [_], [_], [_], _, _, _ => ⟨_, rfl, rfl⟩)
    exact h
end k15
namespace k15
open PySem L2 LC RM SM TL
def spbag (K : PySem.W.Frag) : Sp := fun vs H Q _ => ∃ (a : Addr) (ns : List Int), vs = [.ref a] ∧ SqL K H a (ns.map V.int) ∧ ns.length ≤ 63 ∧ ∀ g H', H g = none → Same H H' → (∃ l, Bag l H' g) → Q (.ref g) H'
theorem ok_bag {P : Program} {w : World} {K : PySem.W.Frag} {mg : Str → Option Value} {base : Heap} {f : Addr} {fd : FuncData} (D : Def K mg "_law_bag" sbag Pbag f fd) (T : Txt K mg) :
    FnOk P w K mg base CX0 1 f fd Pbag (spbag K) := by
  refine D.F.ok scbag (fun vs H Q E h => ?_) (fun cdv A outer s H vs Q E hr h => ?_)
  · obtain ⟨a, ns, rfl, hS, hl, k⟩ := h
    rfl
  · obtain ⟨a, ns, rfl, hS, hl, k⟩ := h
    refine ⟨_, (pss_cons (ps_set (i := 1) scbag.nd rfl (Or.inl rfl) pe_int)
        (pss_cons (ps_for PassesOwn.never rfl (pi_list (pe_slice sl_list (pv 0) po_none (po_some pe_int))) (pg_name (i := 2) scbag.nd rfl (Or.inl rfl))
          (pss_one (ps_set (i := 1) scbag.nd rfl (Or.inl rfl) (pe_op op_mod (pe_callTy call_int1 (by rfl) T.n_int (by decide +kernel) (pa_cons (pe_op op_add (pe_op op_add (pe_op op_mul (pv 1) pe_int) (pe_op op_mod (pe_callTy call_int1 (by rfl) T.n_int (by decide +kernel) (pa_cons (pv 2) pa_nil)) pe_int)) pe_int) pa_nil)) pe_int))))
        (pss_one (ps_ret (pe_lst (pa_cons (pe_callTy call_list_of (by rfl) T.n_list (by decide +kernel) (pa_cons (pe_slice sl_list (pv 0) po_none (po_some pe_int)) pa_nil)) (pa_cons pe_int (pa_cons pe_int (pa_cons (pv 1) (pa_cons pe_int pa_nil)))))))))), ?_⟩
    obtain ⟨ms, hms, hml⟩ := cut_ints ns none (some 63)
    refine ⟨_, rfl, _, rfl, a, _, rfl, hS, fun p hp => ?_⟩
    rw [hms]
    have s1 : Same H (upd H p (.lst (ms.map V.int))) := same_new hp
    refine ⟨p, rfl, ⟨_, SqL.of upd_same⟩, for_list (K := K) (a := p) (xs := ms.map V.int) (fun i σ H' => ∃ (s : Int) (v : Option V), σ = [some (.ref a), some (.int s), v] ∧ 0 ≤ s ∧ s < 2147483399 ∧ Same (upd H p (.lst (ms.map V.int))) H')
      ⟨13962, none, rfl, by decide, by decide, Same.refl _⟩ (fun i σ H' _ ⟨_, _, _, _, _, R⟩ => R.seq (SqL.of upd_same)) ?_ ?_⟩
    · rintro i y σ H' hi ⟨s, v, rfl, h1, h2, R⟩
      obtain ⟨u, rfl⟩ := int_of hi
      refine ⟨_, rfl, _, _, rfl, rfl, .inr ⟨by decide, by decide⟩, _, rfl, .inl ⟨_, rfl, _, _, rfl, rfl, (by show (0 : Int) < 2147483563; decide), _, _, rfl, rfl, _, _, rfl, rfl, .inl ⟨_, rfl, _, _, rfl, rfl, (by show (0 : Int) < 2147483399; decide), ?_⟩⟩⟩
      refine ⟨_, _, rfl, Int.emod_nonneg _ (by decide), Int.emod_lt_of_pos _ (by decide), R⟩
    · rintro σ H' ⟨s, v, rfl, h1, h2, R⟩
      refine ⟨_, rfl, _, rfl, a, _, rfl, (s1.trans R).seq hS, fun q hq => ?_⟩
      rw [hms]
      refine ⟨q, _, rfl, .inl (SqL.of upd_same), fun l hl' => ?_⟩
      refine ⟨_, rfl, (by show 5 ≤ sizeLine; decide), fun g hg => ?_⟩
      have r1 : Same H' (upd H' q (.lst (ms.map V.int))) := same_new hq
      have r2 := same_new (o := .lst (ms.map V.int)) hl'
      have r3 := same_new (o := .lst [V.ref l, V.int 0, V.int 0, V.int s, V.int 0]) hg
      refine k g _ (s1.free (R.free (r1.free (r2.free hg)))) (s1.trans (R.trans (r1.trans (r2.trans r3)))) ?_
      have ne : l ≠ g := fun e => by
        rw [← e, upd_same] at hg
        cases hg
      exact ⟨l, ms, 0, 0, s, 0, upd_same, ne, by rw [upd_ne ne]; exact upd_same, Int.le_refl _, Int.natCast_nonneg _, Int.le_refl _, h1, h2⟩
end k15
namespace k15
open PySem L2 LC RM SM TL
def spdraw : Sp := fun vs H Q _ => ∃ (g l : Addr) (n : Int), vs = [.ref g, .int n] ∧ Bag l H g ∧ 0 < n ∧ n < 1073741824 ∧ ∀ (d : Int) (H' : Hp), 0 ≤ d → d < n → Ok g l H H' → Q (.int d) H'
theorem ok_draw {P : Program} {w : World} {K : PySem.W.Frag} {mg : Str → Option Value} {base : Heap} {f : Addr} {fd : FuncData} (D : Def K mg "_law_draw" sdraw Pdraw f fd) (T : Txt K mg) :
    FnOk P w K mg base CX0 1 f fd Pdraw (spdraw) := by
  refine D.F.ok scdraw (fun vs H Q E h => ?_) (fun cdv A outer s H vs Q E hr h => ?_)
  · obtain ⟨g, l, n, rfl, B, n0, n1, k⟩ := h
    rfl
  · obtain ⟨g, l, n, rfl, B, n0, n1, k⟩ := h
    refine ⟨_, (pss_cons (ps_asg (pe_op op_add (pe_ix ix_list (pv 0) pe_int (fun _ _ => rfl)) pe_int) (pg_sub (pv 0) pe_int set_list))
        (Evl.pss_cut (ps_if (PW.pt (pw_and (pt_cmpR op_eq (pe_ix ix_list (pv 0) pe_int (fun _ _ => rfl)) pe_int (nomark _)) (pw_and1 (pt_cmpR op_lt (pe_ix ix_list (pv 0) pe_int (fun _ _ => rfl)) (pe_callB call_len (by rfl) T.n_len PySem.boot_len (pa_cons (pe_ix ix_list (pv 0) pe_int (fun _ _ => rfl)) pa_nil)) (nomark _))))) (pss_cons (ps_set (i := 2) scdraw.nd rfl (Or.inl rfl) (pe_ix ix_list (pe_ix ix_list (pv 0) pe_int (fun _ _ => rfl)) (pe_ix ix_list (pv 0) pe_int (fun _ _ => rfl)) (fun _ _ => rfl)))
        (pss_cons (ps_asg (pe_op op_add (pe_ix ix_list (pv 0) pe_int (fun _ _ => rfl)) pe_int) (pg_sub (pv 0) pe_int set_list))
        (pss_one (ps_if (pt_cmpR op_ge (pv 2) (pe_op op_pow pe_int pe_int) (nomark _)) (pss_one (ps_asg (pv 2) (pg_sub (pv 0) pe_int set_list))) (pss_one (ps_asg (pe_op op_mod (pe_callTy call_int1 (by rfl) T.n_int (by decide +kernel) (pa_cons (pe_op op_add (pe_op op_add (pe_op op_mul (pe_ix ix_list (pv 0) pe_int (fun _ _ => rfl)) pe_int) (pe_op op_mul (pe_op op_mod (pe_callTy call_int1 (by rfl) T.n_int (by decide +kernel) (pa_cons (pv 2) pa_nil)) pe_int) pe_int)) pe_int) pa_nil)) pe_int) (pg_sub (pv 0) pe_int set_list))))))) pss_nil)
        (pss_cons (ps_if (pt_cmpR op_gt (pe_ix ix_list (pv 0) pe_int (fun _ _ => rfl)) pe_int (nomark _)) (pss_cons (ps_set (i := 3) scdraw.nd rfl (Or.inl rfl) (pe_op op_modN (pe_callTy call_int1 (by rfl) T.n_int (by decide +kernel) (pa_cons (pe_ix ix_list (pv 0) pe_int (fun _ _ => rfl)) pa_nil)) (pv 1)))
        (pss_cons (ps_asg (pe_op op_fdivN (pe_ix ix_list (pv 0) pe_int (fun _ _ => rfl)) (pv 1)) (pg_sub (pv 0) pe_int set_list))
        (pss_one (ps_ret (pv 3))))) pss_nil)
        (pss_cons (ps_asg (pe_op op_mod (pe_callTy call_int1 (by rfl) T.n_int (by decide +kernel) (pa_cons (pe_op op_add (pe_op op_add (pe_op op_pow (pe_ix ix_list (pv 0) pe_int (fun _ _ => rfl)) pe_int) (pe_op op_mul (pe_ix ix_list (pv 0) pe_int (fun _ _ => rfl)) pe_int)) pe_int) pa_nil)) pe_int) (pg_sub (pv 0) pe_int set_list))
        (pss_one (ps_ret (pe_op op_modN (pe_callTy call_int1 (by rfl) T.n_int (by decide +kernel) (pa_cons (pe_op op_add (pe_op op_fdiv (pe_ix ix_list (pv 0) pe_int (fun _ _ => rfl)) pe_int) (pe_op op_mul (pe_op op_mod (pe_callTy call_int1 (by rfl) T.n_int (by decide +kernel) (pa_cons (pe_ix ix_list (pv 0) pe_int (fun _ _ => rfl)) pa_nil)) pe_int) pe_int)) pa_nil)) (pv 1)))))))), ?_⟩
    obtain ⟨ns, i, d, s, c, hg, lg, hl, i0, i1, d0, s0, s1⟩ := id B
    have up : ∀ (i' d' s' c' : Int) (H1 : Hp), Kp g H H1 → H1 l = some (.lst (ns.map V.int)) → Kp g H (upd H1 g (.lst [.ref l, .int i', .int d', .int s', .int c'])) ∧ upd H1 g (.lst [.ref l, .int i', .int d', .int s', .int c']) l = some (.lst (ns.map V.int)) :=
      fun i' d' s' c' H1 r q => ⟨r.bag, by rw [upd_ne lg]; exact q⟩
    -- b[4] = b[4] + 1
    refine ⟨_, rfl, _, _, _, _, rfl, rfl, SqL.of hg, rfl, _, _, rfl, rfl, _, rfl, g, _, _, 4, rfl, rfl, hg, rfl, ?_⟩
    obtain ⟨K1, L1⟩ := up i d s (c + 1) H (Kp.refl g H) hl
    -- the joined ways
    refine ⟨fun σ H' => ∃ (i' d' s' : Int) (v w : Option V), σ = [some (.ref g), some (.int n), v, w] ∧ H' g = some (.lst [.ref l, .int i', .int d', .int s', .int (c + 1)]) ∧ Kp g H H' ∧ H' l = some (.lst (ns.map V.int)) ∧ 0 ≤ i' ∧ i' ≤ ns.length ∧ 0 ≤ d' ∧ 0 ≤ s' ∧ s' < 2147483399, ?_, ?_⟩
    · refine ⟨_, rfl, _, _, _, _, rfl, rfl, SqL.of upd_same, rfl, rfl, _, rfl, ?_⟩
      refine ite_eq (fun e1 => ?_) (fun e1 => ?_)
      · refine ⟨_, rfl, _, _, _, _, rfl, rfl, SqL.of upd_same, rfl, _, rfl, _, _, _, _, rfl, rfl, SqL.of upd_same, rfl, _, _, rfl, .inl ⟨_, SqL.of L1, rfl⟩, _, _, rfl, rfl, _, rfl, ?_⟩
        refine ite_d (fun e2 => ?_) (fun e2 => ?_)
        · rw [List.length_map] at e2
          obtain ⟨j, rfl⟩ : ∃ j : Nat, i = (j : Int) := ⟨i.toNat, by omega⟩
          have hj : j < ns.length := by omega
          have hx : (ns.map V.int)[j]? = some (V.int ns[j]) := by rw [List.getElem?_map, List.getElem?_eq_getElem hj]; rfl
          -- item = b[0][b[1]]; b[1] = b[1] + 1
          refine ⟨_, rfl, _, _, _, _, rfl, rfl, SqL.of upd_same, rfl, _, rfl, _, _, _, _, rfl, rfl, SqL.of upd_same, rfl, _, _, _, _, rfl, rfl, SqL.of L1, atI_nat hx, ?_⟩
          refine ⟨_, rfl, _, _, _, _, rfl, rfl, SqL.of upd_same, rfl, _, _, rfl, rfl, _, rfl, g, _, _, 1, rfl, rfl, upd_same, rfl, ?_⟩
          obtain ⟨K2, L2⟩ := up ((j : Int) + 1) d s (c + 1) _ K1 L1
          refine ⟨_, rfl, _, _, rfl, rfl, ⟨by decide, by decide, by decide⟩, _, _, rfl, rfl, _, rfl, ?_⟩
          refine ite_d (fun e3 => ?_) (fun e3 => ?_)
          · refine ⟨_, rfl, _, rfl, g, _, _, 2, rfl, rfl, upd_same, rfl, ?_⟩
            obtain ⟨K3, L3⟩ := up ((j : Int) + 1) ns[j] s (c + 1) _ K2 L2
            exact ⟨_, _, _, _, _, rfl, upd_same, K3, L3, by omega, by omega, Int.le_trans (by decide) e3, s0, s1⟩
          · refine ⟨_, rfl, _, _, _, _, rfl, rfl, SqL.of upd_same, rfl, _, _, rfl, rfl, .inr ⟨by decide, by decide⟩, _, rfl, .inl ⟨_, rfl, _, _, rfl, rfl, (by show (0 : Int) < 2147483549; decide), _, _, rfl, rfl, .inr ⟨by decide, by decide⟩, _, _, rfl, rfl, _, _, rfl, rfl, .inl ⟨_, rfl, _, _, rfl, rfl, (by show (0 : Int) < 2147483399; decide), ?_⟩⟩⟩
            refine ⟨_, rfl, g, _, _, 3, rfl, rfl, upd_same, rfl, ?_⟩
            obtain ⟨K3, L3⟩ := up ((j : Int) + 1) d ((s * 69621 + ns[j] % 2147483549 * 30103 + 89) % 2147483399) (c + 1) _ K2 L2
            exact ⟨_, _, _, _, _, rfl, upd_same, K3, L3, by omega, by omega, d0, Int.emod_nonneg _ (by decide), Int.emod_lt_of_pos _ (by decide)⟩
        · exact ⟨_, _, _, _, _, rfl, upd_same, K1, L1, i0, i1, d0, s0, s1⟩
      · refine iteF ?_
        exact ⟨_, _, _, _, _, rfl, upd_same, K1, L1, i0, i1, d0, s0, s1⟩
    · rintro σ H' ⟨i', d', s', v, w, rfl, hg', K1, L1, i0, i1, d0, s0, s1⟩
      have bag : ∀ (d'' s'' : Int), 0 ≤ d'' → 0 ≤ s'' → s'' < 2147483399 → Bag l (upd H' g (.lst [.ref l, .int i', .int d'', .int s'', .int (c + 1)])) g := fun d'' s'' h1 h2 h3 =>
        ⟨ns, i', d'', s'', c + 1, upd_same, lg, by rw [upd_ne lg]; exact L1, i0, i1, h1, h2, h3⟩
      refine ⟨_, rfl, _, _, _, _, rfl, rfl, SqL.of hg', rfl, _, _, rfl, rfl, _, rfl, ?_⟩
      refine ite_d (fun e1 => ?_) (fun e1 => ?_)
      · refine ⟨_, rfl, _, _, _, _, rfl, rfl, SqL.of hg', rfl, .inl ⟨_, rfl, _, rfl, _, _, rfl, rfl, (by omega), ?_⟩⟩
        refine ⟨_, rfl, _, _, _, _, rfl, rfl, SqL.of hg', rfl, _, rfl, _, _, rfl, rfl, ⟨by omega, by omega⟩, _, rfl, g, _, _, 2, rfl, rfl, hg', rfl, _, rfl, ?_⟩
        refine k _ _ (fmod_nn _ n0) (fmod_lt _ n0) ⟨B, K1.bag, bag _ s' ?_ s0 s1⟩
        rw [Int.fdiv_eq_ediv_of_nonneg _ (Int.le_of_lt n0)]
        exact Int.ediv_nonneg d0 (Int.le_of_lt n0)
      · refine ⟨_, rfl, _, _, _, _, rfl, rfl, SqL.of hg', rfl, _, _, rfl, rfl, ⟨by decide, by decide, by omega⟩, _, rfl, _, _, _, _, rfl, rfl, SqL.of hg', rfl, _, _, rfl, rfl, .inr ⟨by decide, by decide⟩, _, _, rfl, rfl, _, _, rfl, rfl, .inl ⟨_, rfl, _, _, rfl, rfl, (by show (0 : Int) < 2147483399; decide), ?_⟩⟩
        refine ⟨_, rfl, g, _, _, 3, rfl, rfl, hg', rfl, ?_⟩
        refine ⟨_, rfl, _, _, _, _, rfl, rfl, SqL.of upd_same, rfl, _, _, rfl, rfl, ⟨by decide, by decide⟩, _, rfl, _, _, _, _, rfl, rfl, SqL.of upd_same, rfl, .inl ⟨_, rfl, _, _, rfl, rfl, (by show (0 : Int) < 7901; decide), _, _, rfl, rfl, .inr ⟨by decide, by decide⟩, _, _, rfl, rfl, .inl ⟨_, rfl, _, rfl, _, _, rfl, rfl, (by omega), ?_⟩⟩⟩
        exact k _ _ (fmod_nn _ n0) (fmod_lt _ n0) ⟨B, K1.bag, bag d' _ d0 (Int.emod_nonneg _ (by decide)) (Int.emod_lt_of_pos _ (by decide))⟩
end k15
namespace k15
open PySem L2 LC RM SM TL
inductive Src (K : PySem.W.Frag) (g : Addr) (H : Hp) : V → (V → Prop) → Prop where
  | lst {a : Addr} {xs : List V} (h : SqL K H a xs) (n : a ≠ g) (h0 : 0 < xs.length) (h1 : xs.length ≤ 1000000) : Src K g H (.ref a) fun x => x ∈ xs
  | tup {a : Addr} {xs : List V} (h : SqT K H a xs) (n : a ≠ g) (h0 : 0 < xs.length) (h1 : xs.length ≤ 1000000) : Src K g H (.ref a) fun x => x ∈ xs
  | str {z : Str} (h0 : 0 < z.length) (h1 : z.length ≤ 1000000) : Src K g H (.str z) fun x => ∃ c ∈ z.cps.toList, x = .str ⟨#[c]⟩
def spof (K : PySem.W.Frag) : Sp := fun vs H Q _ => ∃ (g l : Addr) (t : V) (F : V → Prop), vs = [.ref g, t] ∧ Bag l H g ∧ Src K g H t F ∧ ∀ x H', F x → Ok g l H H' → Q x H'
theorem ok_of {P : Program} {w : World} {K : PySem.W.Frag} {mg : Str → Option Value} {base : Heap} {f : Addr} {fd : FuncData} (D : Def K mg "_law_of" sof Pof f fd) (T : Txt K mg) {fdraw : Addr} {fddraw : FuncData} (Ddraw : Def K mg "_law_draw" sdraw Pdraw fdraw fddraw) (Gdraw : FnOk P w K mg base CX0 1 fdraw fddraw Pdraw (spdraw)) :
    FnOk P w K mg base CX0 2 f fd Pof (spof K) := by
  refine D.F.ok scof (fun vs H Q E h => ?_) (fun cdv A outer s H vs Q E hr h => ?_)
  · obtain ⟨g, l, t, F, rfl, B, S, k⟩ := h
    rfl
  · obtain ⟨g, l, t, F, rfl, B, S, k⟩ := h
    have hrdraw : Room 1 _ := hr.mono (by decide)
    refine ⟨_, (pss_one (ps_ret (pe_ix ix_seq (pv 1) (pe_call Gdraw hrdraw rfl Ddraw.g Ddraw.F.kp Ddraw.b .nil pass0 (pa_cons (pv 0) (pa_cons (pe_callB call_len (by rfl) T.n_len PySem.boot_len (pa_cons (pv 1) pa_nil)) pa_nil))) (fun _ _ => rfl)))), ?_⟩
    cases S with
    | @lst a xs h n h0 h1 =>
      refine ⟨_, rfl, _, rfl, _, rfl, _, _, rfl, .inl ⟨xs, h, rfl⟩, g, l, _, rfl, B, by omega, by omega, fun d H' d0 d1 r => ?_⟩
      obtain ⟨j, rfl⟩ : ∃ j : Nat, d = (j : Int) := ⟨d.toNat, by omega⟩
      have hj : j < xs.length := by omega
      exact .inl ⟨_, _, _, _, rfl, rfl, SqL.kp r.kp n h, atI_nat (List.getElem?_eq_getElem hj), k _ _ (List.getElem_mem hj) r⟩
    | @tup a xs h n h0 h1 =>
      refine ⟨_, rfl, _, rfl, _, rfl, _, _, rfl, .inr ⟨xs, h, rfl⟩, g, l, _, rfl, B, by omega, by omega, fun d H' d0 d1 r => ?_⟩
      obtain ⟨j, rfl⟩ : ∃ j : Nat, d = (j : Int) := ⟨d.toNat, by omega⟩
      have hj : j < xs.length := by omega
      exact .inr (.inl ⟨_, _, _, _, rfl, rfl, SqT.kp r.kp n h, atI_nat (List.getElem?_eq_getElem hj), k _ _ (List.getElem_mem hj) r⟩)
    | @str z h0 h1 =>
      have hz : z.length ≤ sizeLine := Nat.le_trans h1 (by decide)
      refine ⟨_, rfl, _, rfl, _, rfl, _, _, rfl, ⟨hz, rfl⟩, g, l, _, rfl, B, by omega, by omega, fun d H' d0 d1 r => ?_⟩
      obtain ⟨j, rfl⟩ : ∃ j : Nat, d = (j : Int) := ⟨d.toNat, by omega⟩
      have hj : j < z.cps.toList.length := by
        have e : z.cps.toList.length = z.length := rfl
        omega
      exact .inr (.inr ⟨_, _, _, rfl, rfl, hz, atI_nat (List.getElem?_eq_getElem hj), k _ _ ⟨_, List.getElem_mem hj, rfl⟩ r⟩)
/-- one of the things of a new list -/
theorem of_disp {K : PySem.W.Frag} {g l p : Addr} {H0 H : Hp} {xs : List V} {Q : VK} {E : XK} (R : Ok g l H0 H) (hp : H p = none) (h0 : 0 < xs.length) (h1 : xs.length ≤ 1000000) (k : ∀ x H', x ∈ xs → Kp g H H' → Ok g l H0 H' → Q x H') :
    spof K [.ref g, .ref p] (upd H p (.lst xs)) Q E := by
  refine ⟨g, l, .ref p, _, rfl, (R.new hp).bag, .lst (SqL.of upd_same) (R.bag.ne hp).1 h0 h1, fun x H' hx r => ?_⟩
  exact k x H' hx ((Ok.new (Ok.refl R.bag) hp).kp.trans r.kp) ((R.new hp).trans r)
end k15
namespace k15
open PySem L2 LC RM SM TL
def splike (n : Nat) : Sp := fun vs H Q _ => ∃ (u v : V) (m : Nat), vs = [u, v] ∧ m < n ∧ Lq H m u v ∧ ∀ H', Same H H' → Q (.bl true) H'
theorem no_like {vs : List V} {H : Hp} {Q : VK} {E : XK} (h : splike 0 vs H Q E) : False := by
  obtain ⟨_, _, _, _, h, _⟩ := h
  exact Nat.not_lt_zero _ h

theorem step_like {P : Program} {w : World} {K : PySem.W.Frag} {mg : Str → Option Value} {base : Heap} {f : Addr} {fd : FuncData} (D : Def K mg "_law_like" slike Plike f fd) (T : Txt K mg) {n : Nat} (Glike : FnOk P w K mg base CX0 (n + 0) f fd Plike (splike n)) :
    FnOk P w K mg base CX0 (n + 1) f fd Plike (splike (n + 1)) := by
  refine D.F.ok sclike (fun vs H Q E h => ?_) (fun cdv A outer s H vs Q E hr h => ?_)
  · obtain ⟨u, v, m, rfl, hm, hl, k⟩ := h
    rfl
  · obtain ⟨u, v, m, rfl, hm, hl, k⟩ := h
    have Dlike := D
    have hrlike : Room (n + 0) _ := hr
    refine ⟨_, (pss_cons (ps_if (pt_val (pe_callB call_isiT (by rfl) T.n_isinstance (by decide +kernel) (pa_cons (pv 1) (pa_cons (pe_tup (pa_cons (pe_ty "list" (by rfl) T.n_list (by decide +kernel)) (pa_cons (pe_ty "tuple" (by rfl) T.n_tuple (by decide +kernel)) pa_nil))) pa_nil)))) (pss_cons (ps_if (PW.pt (pw_or (pt_cmpR op_ne (pe_callB call_isi (by rfl) T.n_isinstance (by decide +kernel) (pa_cons (pv 0) (pa_cons (pe_ty "list" (by rfl) T.n_list (by decide +kernel)) pa_nil))) (pe_callB call_isi (by rfl) T.n_isinstance (by decide +kernel) (pa_cons (pv 1) (pa_cons (pe_ty "list" (by rfl) T.n_list (by decide +kernel)) pa_nil))) (nomark _)) (pw_or1 (pt_cmpR op_ne (pe_callB call_isi (by rfl) T.n_isinstance (by decide +kernel) (pa_cons (pv 0) (pa_cons (pe_ty "tuple" (by rfl) T.n_tuple (by decide +kernel)) pa_nil))) (pe_callB call_isi (by rfl) T.n_isinstance (by decide +kernel) (pa_cons (pv 1) (pa_cons (pe_ty "tuple" (by rfl) T.n_tuple (by decide +kernel)) pa_nil))) (nomark _))))) (pss_one (ps_ret pe_bl)) pss_nil)
        (pss_one (ps_ret (pe_and (pe_cmpR op_eq (pe_callB call_len (by rfl) T.n_len PySem.boot_len (pa_cons (pv 0) pa_nil)) (pe_callB call_len (by rfl) T.n_len PySem.boot_len (pa_cons (pv 1) pa_nil)) (nomark _)) (pe_one (pe_callB (cr_all rfl) (by rfl) T.n_all (by decide +kernel) (pa_cons (pe_lc (own := [("_law_a", 2), ("_law_b", 3)]) (g := gTup _ 2 (gCons (gName 2) (gCons (gName 3) gNil))) (tt := tYes) rfl sclike.nd (RZ.pi_zipA (by rfl) T.n_zip (pa_cons (pv 0) (pa_cons (pv 1) pa_nil))) (blkOk_by (own := [("_law_a", 2), ("_law_b", 3)]) (N := Nmlike) (sc := defScope slike) (by decide +kernel)) (fun _ _ _ _ _ => by exact (pg_tup rfl (pgs_cons (pg_name (i := 2) sclike.nd rfl (Or.inl rfl)) (pgs_cons (pg_name (i := 3) sclike.nd rfl (Or.inl rfl)) pgs_nil)))) (fun _ _ _ _ _ => pts_nil) (fun _ _ _ _ _ => (pe_call Glike hrlike rfl Dlike.g Dlike.F.kp Dlike.b .nil pass0 (pa_cons (pv 2) (pa_cons (pv 3) pa_nil))))) pa_nil))))))) pss_nil)
        (pss_cons (ps_if (PW.pt (pw_or (pt_cmpR op_isN (pv 1) pe_non (nomark _)) (pw_or1 (pt_cmpR op_isN (pv 0) pe_non (nomark _))))) (pss_one (ps_ret (pe_and (pe_cmpR op_isN (pv 1) pe_non (nomark _)) (pe_one (pe_cmpR op_isN (pv 0) pe_non (nomark _)))))) pss_nil)
        (pss_cons (ps_if (PW.pt (pw_or (pt_val (pe_callB call_isiT (by rfl) T.n_isinstance (by decide +kernel) (pa_cons (pv 0) (pa_cons (pe_tup (pa_cons (pe_ty "list" (by rfl) T.n_list (by decide +kernel)) (pa_cons (pe_ty "tuple" (by rfl) T.n_tuple (by decide +kernel)) pa_nil))) pa_nil)))) (pw_or1 (pt_cmpR op_ne (pe_callB call_isi (by rfl) T.n_isinstance (by decide +kernel) (pa_cons (pv 0) (pa_cons (pe_ty "bool" (by rfl) T.n_bool (by decide +kernel)) pa_nil))) (pe_callB call_isi (by rfl) T.n_isinstance (by decide +kernel) (pa_cons (pv 1) (pa_cons (pe_ty "bool" (by rfl) T.n_bool (by decide +kernel)) pa_nil))) (nomark _))))) (pss_one (ps_ret pe_bl)) pss_nil)
        (pss_cons (ps_if (PW.pt (pw_or (pt_cmpR op_ne (pe_callB call_isi (by rfl) T.n_isinstance (by decide +kernel) (pa_cons (pv 0) (pa_cons (pe_ty "str" (by rfl) T.n_str (by decide +kernel)) pa_nil))) (pe_callB call_isi (by rfl) T.n_isinstance (by decide +kernel) (pa_cons (pv 1) (pa_cons (pe_ty "str" (by rfl) T.n_str (by decide +kernel)) pa_nil))) (nomark _)) (pw_or1 (pt_cmpR op_ne (pe_callB call_isi (by rfl) T.n_isinstance (by decide +kernel) (pa_cons (pv 0) (pa_cons (pe_ty "int" (by rfl) T.n_int (by decide +kernel)) pa_nil))) (pe_callB call_isi (by rfl) T.n_isinstance (by decide +kernel) (pa_cons (pv 1) (pa_cons (pe_ty "int" (by rfl) T.n_int (by decide +kernel)) pa_nil))) (nomark _))))) (pss_one (ps_ret pe_bl)) pss_nil)
        (pss_cons (ps_if (pt_cmpR op_ne (pe_callB call_isi (by rfl) T.n_isinstance (by decide +kernel) (pa_cons (pv 0) (pa_cons (pe_ty "dict" (by rfl) T.n_dict (by decide +kernel)) pa_nil))) (pe_callB call_isi (by rfl) T.n_isinstance (by decide +kernel) (pa_cons (pv 1) (pa_cons (pe_ty "dict" (by rfl) T.n_dict (by decide +kernel)) pa_nil))) (nomark _)) (pss_one (ps_ret pe_bl)) pss_nil)
        (pss_one (ps_ret (pe_callTy call_bool1 (by rfl) T.n_bool (by decide +kernel) (pa_cons (pe_cmpR (op_eqS hr.units) (pv 0) (pv 1) (nomark _)) pa_nil))))))))), ?_⟩
    rcases hl.cases with ⟨rfl, hs⟩ | ⟨p, q, ks, rfl, rfl, hp, hq, hok⟩ | ⟨j, rfl, bb, p, q, xs, ys, rfl, rfl, hp, hq, hn, hz, hi⟩
    · cases u with
      | int c =>
        refine ⟨_, rfl, (by show 2 ≤ sizeLine; decide), fun t1 ht1 => ?_⟩
        have s1 := same_new (o := .tup [.ty "list", .ty "tuple"]) ht1
        refine ⟨_, t1, _, _, _, false, rfl, upd_same, .cons (.ty _) (.cons (.ty _) .nil), .base (.int c), kLT_int, _, rfl, iteF ?_⟩
        generalize upd H t1 (.tup [.ty "list", .ty "tuple"]) = H1 at s1 ⊢
        refine ⟨_, rfl, rfl, _, rfl, ite_d (fun h => by cases h) (fun _ => ⟨_, rfl, rfl, _, rfl, ite_d (fun h => by cases h) (fun _ => ?_)⟩)⟩
        refine ⟨_, rfl, (by show 2 ≤ sizeLine; decide), fun t2 ht2 => ?_⟩
        have s2 := s1.trans (same_new (o := .tup [.ty "list", .ty "tuple"]) ht2)
        refine ⟨_, t2, _, _, _, false, rfl, upd_same, .cons (.ty _) (.cons (.ty _) .nil), .base (.int c), kLT_int, _, rfl, iteF ?_⟩
        generalize upd H1 t2 (.tup [.ty "list", .ty "tuple"]) = H2 at s2 ⊢
        refine ⟨_, rfl, _, _, _, _, _, rfl, .ty _, .base (.int c), kit_ty (show kitB "int" "bool" = some false by decide +kernel), _, rfl, _, _, _, _, _, rfl, .ty _, .base (.int c), kit_ty (show kitB "int" "bool" = some false by decide +kernel), rfl, _, rfl, iteF ?_⟩
        refine ⟨_, rfl, _, _, _, _, _, rfl, .ty _, .base (.int c), kit_ty (show kitB "int" "str" = some false by decide +kernel), _, rfl, _, _, _, _, _, rfl, .ty _, .base (.int c), kit_ty (show kitB "int" "str" = some false by decide +kernel), rfl, _, rfl, iteF ?_⟩
        refine ⟨_, rfl, _, _, _, _, _, rfl, .ty _, .base (.int c), kit_ty (show kitB "int" "int" = some true by decide +kernel), _, rfl, _, _, _, _, _, rfl, .ty _, .base (.int c), kit_ty (show kitB "int" "int" = some true by decide +kernel), rfl, _, rfl, iteF ?_⟩
        refine ⟨_, rfl, _, _, _, _, _, rfl, .ty _, .base (.int c), kit_ty (show kitB "int" "dict" = some false by decide +kernel), _, rfl, _, _, _, _, _, rfl, .ty _, .base (.int c), kit_ty (show kitB "int" "dict" = some false by decide +kernel), rfl, _, rfl, iteF ?_⟩
        refine ⟨_, rfl, _, rfl, .inl ⟨rfl, .inr ⟨_, rfl, ?_⟩⟩⟩
        rw [decide_eq_true rfl]
        exact k H2 s2
      | bl c =>
        refine ⟨_, rfl, (by show 2 ≤ sizeLine; decide), fun t1 ht1 => ?_⟩
        have s1 := same_new (o := .tup [.ty "list", .ty "tuple"]) ht1
        refine ⟨_, t1, _, _, _, false, rfl, upd_same, .cons (.ty _) (.cons (.ty _) .nil), .base (.bl c), kLT_bool, _, rfl, iteF ?_⟩
        generalize upd H t1 (.tup [.ty "list", .ty "tuple"]) = H1 at s1 ⊢
        refine ⟨_, rfl, rfl, _, rfl, ite_d (fun h => by cases h) (fun _ => ⟨_, rfl, rfl, _, rfl, ite_d (fun h => by cases h) (fun _ => ?_)⟩)⟩
        refine ⟨_, rfl, (by show 2 ≤ sizeLine; decide), fun t2 ht2 => ?_⟩
        have s2 := s1.trans (same_new (o := .tup [.ty "list", .ty "tuple"]) ht2)
        refine ⟨_, t2, _, _, _, false, rfl, upd_same, .cons (.ty _) (.cons (.ty _) .nil), .base (.bl c), kLT_bool, _, rfl, iteF ?_⟩
        generalize upd H1 t2 (.tup [.ty "list", .ty "tuple"]) = H2 at s2 ⊢
        refine ⟨_, rfl, _, _, _, _, _, rfl, .ty _, .base (.bl c), kit_ty (show kitB "bool" "bool" = some true by decide +kernel), _, rfl, _, _, _, _, _, rfl, .ty _, .base (.bl c), kit_ty (show kitB "bool" "bool" = some true by decide +kernel), rfl, _, rfl, iteF ?_⟩
        refine ⟨_, rfl, _, _, _, _, _, rfl, .ty _, .base (.bl c), kit_ty (show kitB "bool" "str" = some false by decide +kernel), _, rfl, _, _, _, _, _, rfl, .ty _, .base (.bl c), kit_ty (show kitB "bool" "str" = some false by decide +kernel), rfl, _, rfl, iteF ?_⟩
        refine ⟨_, rfl, _, _, _, _, _, rfl, .ty _, .base (.bl c), kit_ty (show kitB "bool" "int" = some true by decide +kernel), _, rfl, _, _, _, _, _, rfl, .ty _, .base (.bl c), kit_ty (show kitB "bool" "int" = some true by decide +kernel), rfl, _, rfl, iteF ?_⟩
        refine ⟨_, rfl, _, _, _, _, _, rfl, .ty _, .base (.bl c), kit_ty (show kitB "bool" "dict" = some false by decide +kernel), _, rfl, _, _, _, _, _, rfl, .ty _, .base (.bl c), kit_ty (show kitB "bool" "dict" = some false by decide +kernel), rfl, _, rfl, iteF ?_⟩
        refine ⟨_, rfl, _, rfl, .inl ⟨rfl, .inr ⟨_, rfl, ?_⟩⟩⟩
        rw [decide_eq_true rfl]
        exact k H2 s2
      | str c =>
        refine ⟨_, rfl, (by show 2 ≤ sizeLine; decide), fun t1 ht1 => ?_⟩
        have s1 := same_new (o := .tup [.ty "list", .ty "tuple"]) ht1
        refine ⟨_, t1, _, _, _, false, rfl, upd_same, .cons (.ty _) (.cons (.ty _) .nil), .base (.str c), kLT_str, _, rfl, iteF ?_⟩
        generalize upd H t1 (.tup [.ty "list", .ty "tuple"]) = H1 at s1 ⊢
        refine ⟨_, rfl, rfl, _, rfl, ite_d (fun h => by cases h) (fun _ => ⟨_, rfl, rfl, _, rfl, ite_d (fun h => by cases h) (fun _ => ?_)⟩)⟩
        refine ⟨_, rfl, (by show 2 ≤ sizeLine; decide), fun t2 ht2 => ?_⟩
        have s2 := s1.trans (same_new (o := .tup [.ty "list", .ty "tuple"]) ht2)
        refine ⟨_, t2, _, _, _, false, rfl, upd_same, .cons (.ty _) (.cons (.ty _) .nil), .base (.str c), kLT_str, _, rfl, iteF ?_⟩
        generalize upd H1 t2 (.tup [.ty "list", .ty "tuple"]) = H2 at s2 ⊢
        refine ⟨_, rfl, _, _, _, _, _, rfl, .ty _, .base (.str c), kit_ty (show kitB "str" "bool" = some false by decide +kernel), _, rfl, _, _, _, _, _, rfl, .ty _, .base (.str c), kit_ty (show kitB "str" "bool" = some false by decide +kernel), rfl, _, rfl, iteF ?_⟩
        refine ⟨_, rfl, _, _, _, _, _, rfl, .ty _, .base (.str c), kit_ty (show kitB "str" "str" = some true by decide +kernel), _, rfl, _, _, _, _, _, rfl, .ty _, .base (.str c), kit_ty (show kitB "str" "str" = some true by decide +kernel), rfl, _, rfl, iteF ?_⟩
        refine ⟨_, rfl, _, _, _, _, _, rfl, .ty _, .base (.str c), kit_ty (show kitB "str" "int" = some false by decide +kernel), _, rfl, _, _, _, _, _, rfl, .ty _, .base (.str c), kit_ty (show kitB "str" "int" = some false by decide +kernel), rfl, _, rfl, iteF ?_⟩
        refine ⟨_, rfl, _, _, _, _, _, rfl, .ty _, .base (.str c), kit_ty (show kitB "str" "dict" = some false by decide +kernel), _, rfl, _, _, _, _, _, rfl, .ty _, .base (.str c), kit_ty (show kitB "str" "dict" = some false by decide +kernel), rfl, _, rfl, iteF ?_⟩
        refine ⟨_, rfl, _, rfl, .inl ⟨rfl, .inr ⟨_, rfl, ?_⟩⟩⟩
        rw [decide_eq_true rfl]
        exact k H2 s2
      | non =>
        refine ⟨_, rfl, (by show 2 ≤ sizeLine; decide), fun t1 ht1 => ?_⟩
        have s1 := same_new (o := .tup [.ty "list", .ty "tuple"]) ht1
        refine ⟨_, t1, _, _, _, false, rfl, upd_same, .cons (.ty _) (.cons (.ty _) .nil), .base .non, kLT_non, _, rfl, iteF ?_⟩
        generalize upd H t1 (.tup [.ty "list", .ty "tuple"]) = H1 at s1 ⊢
        refine ⟨_, rfl, rfl, _, rfl, ite_d (fun _ => ⟨_, rfl, rfl, _, rfl, ite_d (fun _ => ⟨_, rfl, rfl, ?_⟩) (fun h => absurd rfl h)⟩) (fun h => absurd rfl h)⟩
        rw [decide_eq_true rfl]
        exact k H1 s1
      | _ => exact hs.elim
    · refine ⟨_, rfl, (by show 2 ≤ sizeLine; decide), fun t1 ht1 => ?_⟩
      have s1 := same_new (o := .tup [.ty "list", .ty "tuple"]) ht1
      refine ⟨_, t1, _, _, _, false, rfl, upd_same, .cons (.ty _) (.cons (.ty _) .nil), .base (.dK (by first | exact s1 _ _ hp | exact s1 _ _ hq)), kLT_dK, _, rfl, iteF ?_⟩
      have hp1 := s1 _ _ hp
      generalize upd H t1 (.tup [.ty "list", .ty "tuple"]) = H1 at s1 hp1 ⊢
      refine ⟨_, rfl, rfl, _, rfl, ite_d (fun h => by cases h) (fun _ => ⟨_, rfl, rfl, _, rfl, ite_d (fun h => by cases h) (fun _ => ?_)⟩)⟩
      refine ⟨_, rfl, (by show 2 ≤ sizeLine; decide), fun t2 ht2 => ?_⟩
      have s2 := s1.trans (same_new (o := .tup [.ty "list", .ty "tuple"]) ht2)
      refine ⟨_, t2, _, _, _, false, rfl, upd_same, .cons (.ty _) (.cons (.ty _) .nil), .base (.dK (by first | exact s2 _ _ hp | exact s2 _ _ hq)), kLT_dK, _, rfl, iteF ?_⟩
      have hp2 := s2 _ _ hp
      have hq2 := s2 _ _ hq
      generalize upd H1 t2 (.tup [.ty "list", .ty "tuple"]) = H2 at s2 hp2 hq2 ⊢
      refine ⟨_, rfl, _, _, _, _, _, rfl, .ty _, .base (.dK (by first | exact hp2 | exact hq2)), kit_ty (show kitB "dict" "bool" = some false by decide +kernel), _, rfl, _, _, _, _, _, rfl, .ty _, .base (.dK (by first | exact hp2 | exact hq2)), kit_ty (show kitB "dict" "bool" = some false by decide +kernel), rfl, _, rfl, iteF ?_⟩
      refine ⟨_, rfl, _, _, _, _, _, rfl, .ty _, .base (.dK (by first | exact hp2 | exact hq2)), kit_ty (show kitB "dict" "str" = some false by decide +kernel), _, rfl, _, _, _, _, _, rfl, .ty _, .base (.dK (by first | exact hp2 | exact hq2)), kit_ty (show kitB "dict" "str" = some false by decide +kernel), rfl, _, rfl, iteF ?_⟩
      refine ⟨_, rfl, _, _, _, _, _, rfl, .ty _, .base (.dK (by first | exact hp2 | exact hq2)), kit_ty (show kitB "dict" "int" = some false by decide +kernel), _, rfl, _, _, _, _, _, rfl, .ty _, .base (.dK (by first | exact hp2 | exact hq2)), kit_ty (show kitB "dict" "int" = some false by decide +kernel), rfl, _, rfl, iteF ?_⟩
      refine ⟨_, rfl, _, _, _, _, _, rfl, .ty _, .base (.dK (by first | exact hp2 | exact hq2)), kit_ty (show kitB "dict" "dict" = some true by decide +kernel), _, rfl, _, _, _, _, _, rfl, .ty _, .base (.dK (by first | exact hp2 | exact hq2)), kit_ty (show kitB "dict" "dict" = some true by decide +kernel), rfl, _, rfl, iteF ?_⟩
      exact ⟨_, rfl, _, rfl, .inr ⟨p, q, ks, rfl, rfl, hp2, hq2, hok, .inr ⟨_, rfl, k H2 s2⟩⟩⟩
    · cases bb with
      | true =>
        have hp : H p = some (.lst xs) := hp
        have hq : H q = some (.lst ys) := hq
        refine ⟨_, rfl, (by show 2 ≤ sizeLine; decide), fun t1 ht1 => ?_⟩
        have s1 := same_new (o := .tup [.ty "list", .ty "tuple"]) ht1
        have hp1 := s1 _ _ hp
        have hq1 := s1 _ _ hq
        refine ⟨_, t1, _, _, _, true, rfl, upd_same, .cons (.ty _) (.cons (.ty _) .nil), .base (.lst hq1), kLT_lst, _, rfl, iteT ?_⟩
        generalize upd H t1 (.tup [.ty "list", .ty "tuple"]) = H1 at s1 hp1 hq1 ⊢
        refine ⟨_, rfl, _, _, _, _, _, rfl, .ty _, .base (.lst hp1), kit_ty (show kitB "list" "list" = some true by decide +kernel), _, rfl, _, _, _, _, _, rfl, .ty _, .base (.lst hq1), kit_ty (show kitB "list" "list" = some true by decide +kernel), rfl, _, rfl, iteF ?_⟩
        refine ⟨_, rfl, _, _, _, _, _, rfl, .ty _, .base (.lst hp1), kit_ty (show kitB "list" "tuple" = some false by decide +kernel), _, rfl, _, _, _, _, _, rfl, .ty _, .base (.lst hq1), kit_ty (show kitB "list" "tuple" = some false by decide +kernel), rfl, _, rfl, iteF ?_⟩
        refine ⟨_, rfl, _, _, rfl, .inl ⟨_, SqL.of hp1, rfl⟩, _, rfl, _, _, rfl, .inl ⟨_, SqL.of hq1, rfl⟩, rfl, _, rfl, ite_d (fun _ => ?_) (fun h => absurd (by rw [hn]) h)⟩
        refine ⟨_, rfl, _, rfl, p, q, _, _, rfl, .inl ⟨SqL.of hp1, SqL.of hq1, fun D hD => ?_⟩⟩
        refine lc_it (walk_zip (K := K) (a := p) (b := q) (xs := xs) (ys := ys) (n := xs.length) (by rw [← hn, Nat.min_self])) (fun i H' => i ≤ xs.length ∧ Same H1 H' ∧ H' D = some (.lst ((List.replicate i true).map V.bl)))
          ⟨Nat.zero_le _, same_new hD, upd_same⟩ (fun i H' _ ⟨_, s, _⟩ => ⟨s.seq (SqL.of hp1), s.seq (SqL.of hq1)⟩) ?_ ?_
        · rintro i x H2 H3 hlt ⟨_, s2, h2⟩ ⟨T, x1, x2, rfl, hT, rfl, e1, e2⟩
          have nT : D ≠ T := ne_of_none h2 hT
          refine ⟨T, _, rfl, SqT.of upd_same, rfl, _, _, rfl, _, _, rfl, rfl, rfl, ?_⟩
          have s3 := same_new (o := .tup [x1, x2]) hT
          refine ⟨_, rfl, _, rfl, x1, x2, j, rfl, by omega, ((hi i x1 x2 e1 e2).same s1).same (s2.trans s3), fun H4 s4 => ⟨_, s4 _ _ (s3 _ _ h2), ?_, hlt, fun b o e => ?_, ?_⟩⟩
          · rw [List.length_map, List.length_replicate]
            exact Nat.lt_of_le_of_lt (Nat.le_trans (Nat.le_of_lt hlt) hz) (by decide)
          · rw [upd_ne (ne_of_none e hD)]
            exact s4 _ _ (s3 _ _ (s2 _ _ e))
          · rw [upd_same, List.replicate_succ', List.map_append]
            rfl
        · rintro H2 ⟨_, s2, h2⟩
          refine ⟨D, List.replicate xs.length true, rfl, SqL.of h2, ?_⟩
          have e : (List.replicate xs.length true).all id = true := by simp
          rw [e]
          exact k H2 (s1.trans s2)
      | false =>
        have hp : H p = some (.tup xs) := hp
        have hq : H q = some (.tup ys) := hq
        refine ⟨_, rfl, (by show 2 ≤ sizeLine; decide), fun t1 ht1 => ?_⟩
        have s1 := same_new (o := .tup [.ty "list", .ty "tuple"]) ht1
        have hp1 := s1 _ _ hp
        have hq1 := s1 _ _ hq
        refine ⟨_, t1, _, _, _, true, rfl, upd_same, .cons (.ty _) (.cons (.ty _) .nil), .base (.tup hq1), kLT_tup, _, rfl, iteT ?_⟩
        generalize upd H t1 (.tup [.ty "list", .ty "tuple"]) = H1 at s1 hp1 hq1 ⊢
        refine ⟨_, rfl, _, _, _, _, _, rfl, .ty _, .base (.tup hp1), kit_ty (show kitB "tuple" "list" = some false by decide +kernel), _, rfl, _, _, _, _, _, rfl, .ty _, .base (.tup hq1), kit_ty (show kitB "tuple" "list" = some false by decide +kernel), rfl, _, rfl, iteF ?_⟩
        refine ⟨_, rfl, _, _, _, _, _, rfl, .ty _, .base (.tup hp1), kit_ty (show kitB "tuple" "tuple" = some true by decide +kernel), _, rfl, _, _, _, _, _, rfl, .ty _, .base (.tup hq1), kit_ty (show kitB "tuple" "tuple" = some true by decide +kernel), rfl, _, rfl, iteF ?_⟩
        refine ⟨_, rfl, _, _, rfl, .inr ⟨_, SqT.of hp1, rfl⟩, _, rfl, _, _, rfl, .inr ⟨_, SqT.of hq1, rfl⟩, rfl, _, rfl, ite_d (fun _ => ?_) (fun h => absurd (by rw [hn]) h)⟩
        refine ⟨_, rfl, _, rfl, p, q, _, _, rfl, .inr ⟨SqT.of hp1, SqT.of hq1, fun D hD => ?_⟩⟩
        refine lc_it (walk_zipT (K := K) (a := p) (b := q) (xs := xs) (ys := ys) (n := xs.length) (by rw [← hn, Nat.min_self])) (fun i H' => i ≤ xs.length ∧ Same H1 H' ∧ H' D = some (.lst ((List.replicate i true).map V.bl)))
          ⟨Nat.zero_le _, same_new hD, upd_same⟩ (fun i H' _ ⟨_, s, _⟩ => ⟨sameT s (SqT.of hp1), sameT s (SqT.of hq1)⟩) ?_ ?_
        · rintro i x H2 H3 hlt ⟨_, s2, h2⟩ ⟨T, x1, x2, rfl, hT, rfl, e1, e2⟩
          have nT : D ≠ T := ne_of_none h2 hT
          refine ⟨T, _, rfl, SqT.of upd_same, rfl, _, _, rfl, _, _, rfl, rfl, rfl, ?_⟩
          have s3 := same_new (o := .tup [x1, x2]) hT
          refine ⟨_, rfl, _, rfl, x1, x2, j, rfl, by omega, ((hi i x1 x2 e1 e2).same s1).same (s2.trans s3), fun H4 s4 => ⟨_, s4 _ _ (s3 _ _ h2), ?_, hlt, fun b o e => ?_, ?_⟩⟩
          · rw [List.length_map, List.length_replicate]
            exact Nat.lt_of_le_of_lt (Nat.le_trans (Nat.le_of_lt hlt) hz) (by decide)
          · rw [upd_ne (ne_of_none e hD)]
            exact s4 _ _ (s3 _ _ (s2 _ _ e))
          · rw [upd_same, List.replicate_succ', List.map_append]
            rfl
        · rintro H2 ⟨_, s2, h2⟩
          refine ⟨D, List.replicate xs.length true, rfl, SqL.of h2, ?_⟩
          have e : (List.replicate xs.length true).all id = true := by simp
          rw [e]
          exact k H2 (s1.trans s2)
theorem ok_like {P : Program} {w : World} {K : PySem.W.Frag} {mg : Str → Option Value} {base : Heap} {f : Addr} {fd : FuncData} (D : Def K mg "_law_like" slike Plike f fd) (T : Txt K mg) :
    FnOk P w K mg base CX0 4 f fd Plike (splike 4) := by
  have go : ∀ n : Nat, FnOk P w K mg base CX0 (n + 0) f fd Plike (splike n) := fun n => by
    induction n with
    | zero => exact LC.fn_none fun vs H Q E h => no_like h
    | succ n ih => exact step_like D T ih
  exact go 4
end k15
namespace k15
open PySem L2 LC RM SM TL
def spcut : Sp := fun vs H Q _ => ∃ (z : Str), vs = [.str z] ∧ z.length ≤ 1000000 ∧ ∀ (A : Addr) H', Same H H' → H A = none → H' A = some (.lst ((cutT z).map V.str)) → Q (.ref A) H'
theorem ok_cut {P : Program} {w : World} {K : PySem.W.Frag} {mg : Str → Option Value} {base : Heap} {f : Addr} {fd : FuncData} (D : Def K mg "_law_cut" scut Pcut f fd) (T : Txt K mg) :
    FnOk P w K mg base CX0 1 f fd Pcut (spcut) := by
  refine D.F.ok sccut (fun vs H Q E h => ?_) (fun cdv A outer s H vs Q E hr h => ?_)
  · obtain ⟨z, rfl, hz, k⟩ := h
    rfl
  · obtain ⟨z, rfl, hz, k⟩ := h
    refine ⟨_, (pss_one (ps_ret (pe_lc (own := [("_law_k", 1)]) (g := gName 1) (tt := tYes) rfl sccut.nd (pi_range3 rfl T.n_range (pa_cons pe_int (pa_cons (pe_callB call_len_str (by rfl) T.n_len PySem.boot_len (pa_cons (pv 0) pa_nil)) (pa_cons pe_int pa_nil)))) (blkOk_by (own := [("_law_k", 1)]) (N := Nmcut) (sc := defScope scut) (by decide +kernel)) (fun _ _ _ _ _ => pg_name (i := 1) sccut.nd rfl (Or.inl rfl)) (fun _ _ _ _ _ => pts_nil) (fun _ _ _ _ _ => (pe_slice sl_str (pv 0) (po_some (pv 1)) (po_some (pe_op op_add (pv 1) pe_int))))))), ?_⟩
    have nl := nCut_le z
    have zs : z.length ≤ sizeLine := Nat.le_trans hz (by decide)
    refine ⟨_, rfl, z, rfl, zs, 0, (z.length : Int), 60, nCut z, rfl, rgc60 hz, fun D hD => ?_⟩
    refine lc_it (walk_rangeC (lo := 0) (c := 60) (n := nCut z)) (fun i H' => Same H H' ∧ H' D = some (.lst (((cutT z).take i).map V.str))) ⟨same_new hD, upd_same⟩ (fun _ _ _ _ => True.intro) ?_ ?_
    · rintro i x H1 H1' hi ⟨s1, d1⟩ ⟨rfl, rfl⟩
      have hc : (cutT z)[i]? = some (cutS z (some (0 + (i : Int) * 60)) (some (0 + (i : Int) * 60 + 60))) := by
        unfold cutT
        rw [List.getElem?_map, List.getElem?_range hi]
        rfl
      refine ⟨rfl, _, rfl, _, rfl, _, rfl, _, rfl, _, _, rfl, rfl, _, rfl, z, rfl, zs, _, d1, ?_, fun b u e => ?_, ?_⟩
      · rw [List.length_map, List.length_take]
        exact Nat.lt_of_le_of_lt (show _ ≤ 1000000 by omega) (by decide)
      · rw [upd_ne (ne_of_none e hD)]
        exact s1 _ _ e
      · rw [upd_same, List.take_add_one, hc, List.map_append]
        rfl
    · rintro H1 ⟨s1, d1⟩
      rw [List.take_of_length_le (by unfold cutT; rw [List.length_map, List.length_range]; exact Nat.le_refl _)] at d1
      exact k D H1 s1 hD d1
end k15
namespace k15
open PySem L2 LC RM SM TL
def spwritten : Sp := fun vs H Q _ => ∃ (D : Addr) (kv : List (Key × V)), vs = [.ref D] ∧ H D = some (.dK kv) ∧ Tab kv ∧ (∀ p ∈ kv, p.2 ≠ .non) ∧ ∀ H', Same H H' → Q (.str (textOf kv)) H'
theorem ok_written {P : Program} {w : World} {K : PySem.W.Frag} {mg : Str → Option Value} {base : Heap} {f : Addr} {fd : FuncData} (D : Def K mg "_law_written" swritten Pwritten f fd) (T : Txt K mg) :
    FnOk P w K mg base CX0 1 f fd Pwritten (spwritten) := by
  refine D.F.ok scwritten (fun vs H Q E h => ?_) (fun cdv A outer s H vs Q E hr h => ?_)
  · obtain ⟨D, kv, rfl, hD, tb, full, k⟩ := h
    rfl
  · obtain ⟨D, kv, rfl, hD, tb, full, k⟩ := h
    refine ⟨_, (pss_one (ps_ret (pe_join pe_str (pe_lc (own := [("_law_key_here", 1)]) (g := gName 1) (tt := tYes) rfl scwritten.nd (pi_list (pe_callB (call_sortedD rfl) (by rfl) T.n_sorted (by decide +kernel) (pa_cons (pv 0) pa_nil))) (blkOk_by (own := [("_law_key_here", 1)]) (N := Nmwritten) (sc := defScope swritten) (by decide +kernel)) (fun _ _ _ _ _ => pg_name (i := 1) scwritten.nd rfl (Or.inl rfl)) (fun _ _ _ _ _ => pts_nil) (fun _ _ _ _ _ => (pe_joined (.cons (pe_fmt (pv 1)) (.cons pe_str (.cons (pe_fmt (pe_dget (hu_of hr) (pv 0) (pv 1) (fun _ _ => rfl))) (.cons pe_str .nil)))))))))), ?_⟩
    have fw := tb.few
    have kl := keysOf_len tb
    refine ⟨⟨"", rfl⟩, _, rfl, D, kv, keysOf kv, rfl, .inl hD, tb.keys, by omega, fun ys p hp hs hn => ?_⟩
    obtain rfl : ys = srt (keysOf kv) := srt_of hp hs
    have s1 := same_new (o := .lst ((srt (keysOf kv)).map V.str)) hn
    have e1 : upd H p (.lst ((srt (keysOf kv)).map V.str)) p = some (.lst ((srt (keysOf kv)).map V.str)) := upd_same
    have sl : (srt (keysOf kv)).length = kv.length := by rw [(srt_perm _).length_eq, kl]
    generalize upd H p (.lst ((srt (keysOf kv)).map V.str)) = H1 at s1 e1 ⊢
    have hD1 := s1 _ _ hD
    refine ⟨p, rfl, ⟨_, SqL.of e1⟩, fun C hC => lc_it (te := fun σ H Q => tJs [tFmt (tVar 1), tC (V.str "="), tFmt (tDGet (tVar 0) (tVar 1)), tC (V.str ";")] Str.empty σ H fun out H1 => Q (V.str out) H1) (walk_list (K := K) (a := p) (xs := (srt (keysOf kv)).map V.str)) (fun i H' => Same H1 H' ∧ H' C = some (.lst (((partsOf kv).take i).map V.str))) ⟨same_new hC, upd_same⟩ (fun i H' _ ⟨s, _⟩ => s.seq (SqL.of e1)) ?_ ?_⟩
    · rintro i x H2 H2' hi ⟨s2, c2⟩ ⟨rfl, hx⟩
      rw [List.length_map] at hi
      rw [List.getElem?_map, List.getElem?_eq_getElem hi] at hx
      cases hx
      have zm : (srt (keysOf kv))[i] ∈ keysOf kv := (srt_perm _).mem_iff.mp (List.getElem_mem hi)
      have zl := tb.ks _ zm
      obtain ⟨v, hv, vv⟩ := tb.at_ zm
      have hp : (partsOf kv)[i]? = some (pieceOf (srt (keysOf kv))[i] v) := by
        unfold partsOf
        rw [List.getElem?_map, List.getElem?_eq_getElem hi, Option.map_some, hv]
        rfl
      have fin : ∀ q, pieceOf (srt (keysOf kv))[i] v = q → ∃ acc, H2' C = some (.lst acc) ∧ acc.length < sizeLine ∧ (Same H1 (upd H2' C (.lst (acc ++ [.str q]))) ∧ upd H2' C (.lst (acc ++ [.str q])) C = some (.lst (((partsOf kv).take (i + 1)).map V.str))) := fun q hq => by
        refine ⟨_, c2, ?_, fun b u e => ?_, ?_⟩
        · rw [List.length_map, List.length_take]
          exact Nat.lt_of_le_of_lt (show _ ≤ 64 by omega) (by decide)
        · rw [upd_ne (ne_of_none e hC)]
          exact s2 _ _ e
        · rw [upd_same, List.take_add_one, hp, List.map_append, hq]
          rfl
      generalize (srt (keysOf kv))[i] = z at zl hv hp fin ⊢
      have e0 : (Str.empty : Str).length = 0 := rfl
      have ea : ("=" : Str).length = 1 := by decide +kernel
      have eb : (";" : Str).length = 1 := by decide +kernel
      have ec : ("!;" : Str).length = 2 := by decide +kernel
      have sm : ∀ n : Nat, n ≤ 2000 → n ≤ sizeLine := fun n h => Nat.le_trans h (by decide)
      have hD2 := s2 _ _ hD1
      have vn : v ≠ .non := by
        obtain ⟨p, hp, _, e⟩ := valV_mem hv
        rw [← e]
        exact full p hp
      rcases vv with rfl | ⟨w, rfl, hw⟩
      · exact absurd rfl vn
      · refine ⟨rfl, _, rfl, .inl ⟨z, rfl, sm _ (by omega), z, rfl, sm _ (by rw [len_app, e0]; omega), _, rfl, sm _ (by rw [len_app, len_app, e0, ea]; omega), ?_⟩⟩
        refine ⟨_, rfl, _, rfl, D, _, rfl, .inl ⟨kv, .inr z, .inl hD2, rfl, hv.symm⟩, .inl ⟨w, rfl, sm _ (by omega), w, rfl, sm _ (by rw [len_app, len_app, len_app, e0, ea]; omega), _, rfl, sm _ (by rw [len_app, len_app, len_app, len_app, e0, ea, eb]; omega), ?_⟩⟩
        exact fin _ rfl
    · rintro H2 ⟨s2, c2⟩
      rw [List.length_map, List.take_of_length_le (by unfold partsOf; rw [List.length_map]; exact Nat.le_refl _)] at c2
      refine ⟨"", C, partsOf kv, rfl, rfl, .inl (SqL.of c2), ?_, k H2 (s1.trans s2)⟩
      have bd : ∀ y ∈ (partsOf kv).map (·.length), y ≤ 1102 := fun y hy => by
        obtain ⟨q, hq, rfl⟩ := List.mem_map.mp hy
        unfold partsOf at hq
        obtain ⟨z, hz, rfl⟩ := List.mem_map.mp hq
        have zm := (srt_perm _).mem_iff.mp hz
        obtain ⟨v, hv, vv⟩ := tb.at_ zm
        rw [hv]
        exact piece_len (tb.ks z zm) vv
      have sb := sum_bd bd
      have pl : (partsOf kv).length = kv.length := by unfold partsOf; rw [List.length_map, sl]
      rw [List.length_map] at sb
      have : ("" : Str).length = 0 := rfl
      rw [this]
      omega
end k15
namespace k15
open PySem L2 LC RM SM TL
def sprecorded : Sp := fun vs H Q _ => ∃ (D : Addr) (kv : List (Key × V)), vs = [.ref D] ∧ H D = some (.dK kv) ∧ Tab kv ∧ ∀ H', Same H H' → Q (.str (textOf kv)) H'
theorem ok_recorded {P : Program} {w : World} {K : PySem.W.Frag} {mg : Str → Option Value} {base : Heap} {f : Addr} {fd : FuncData} (D : Def K mg "_law_recorded" srecorded Precorded f fd) (T : Txt K mg) :
    FnOk P w K mg base CX0 1 f fd Precorded (sprecorded) := by
  refine D.F.ok screcorded (fun vs H Q E h => ?_) (fun cdv A outer s H vs Q E hr h => ?_)
  · obtain ⟨D, kv, rfl, hD, tb, k⟩ := h
    rfl
  · obtain ⟨D, kv, rfl, hD, tb, k⟩ := h
    refine ⟨_, (pss_one (ps_ret (pe_join pe_str (pe_lc (own := [("_law_key_here", 1)]) (g := gName 1) (tt := tYes) rfl screcorded.nd (pi_list (pe_callB (call_sortedD rfl) (by rfl) T.n_sorted (by decide +kernel) (pa_cons (pv 0) pa_nil))) (blkOk_by (own := [("_law_key_here", 1)]) (N := Nmrecorded) (sc := defScope srecorded) (by decide +kernel)) (fun _ _ _ _ _ => pg_name (i := 1) screcorded.nd rfl (Or.inl rfl)) (fun _ _ _ _ _ => pts_nil) (fun _ _ _ _ _ => (pe_ifExp (pt_cmpR op_isN (pe_dget (hu_of hr) (pv 0) (pv 1) (fun _ _ => rfl)) pe_non (nomark _)) (pe_joined (.cons (pe_fmt (pv 1)) (.cons pe_str .nil))) (pe_joined (.cons (pe_fmt (pv 1)) (.cons pe_str (.cons (pe_fmt (pe_dget (hu_of hr) (pv 0) (pv 1) (fun _ _ => rfl))) (.cons pe_str .nil))))))))))), ?_⟩
    have fw := tb.few
    have kl := keysOf_len tb
    refine ⟨⟨"", rfl⟩, _, rfl, D, kv, keysOf kv, rfl, .inl hD, tb.keys, by omega, fun ys p hp hs hn => ?_⟩
    obtain rfl : ys = srt (keysOf kv) := srt_of hp hs
    have s1 := same_new (o := .lst ((srt (keysOf kv)).map V.str)) hn
    have e1 : upd H p (.lst ((srt (keysOf kv)).map V.str)) p = some (.lst ((srt (keysOf kv)).map V.str)) := upd_same
    have sl : (srt (keysOf kv)).length = kv.length := by rw [(srt_perm _).length_eq, kl]
    generalize upd H p (.lst ((srt (keysOf kv)).map V.str)) = H1 at s1 e1 ⊢
    have hD1 := s1 _ _ hD
    refine ⟨p, rfl, ⟨_, SqL.of e1⟩, fun C hC => lc_it (walk_list (K := K) (a := p) (xs := (srt (keysOf kv)).map V.str)) (fun i H' => Same H1 H' ∧ H' C = some (.lst (((partsOf kv).take i).map V.str))) ⟨same_new hC, upd_same⟩ (fun i H' _ ⟨s, _⟩ => s.seq (SqL.of e1)) ?_ ?_⟩
    · rintro i x H2 H2' hi ⟨s2, c2⟩ ⟨rfl, hx⟩
      rw [List.length_map] at hi
      rw [List.getElem?_map, List.getElem?_eq_getElem hi] at hx
      cases hx
      have zm : (srt (keysOf kv))[i] ∈ keysOf kv := (srt_perm _).mem_iff.mp (List.getElem_mem hi)
      have zl := tb.ks _ zm
      obtain ⟨v, hv, vv⟩ := tb.at_ zm
      have hp : (partsOf kv)[i]? = some (pieceOf (srt (keysOf kv))[i] v) := by
        unfold partsOf
        rw [List.getElem?_map, List.getElem?_eq_getElem hi, Option.map_some, hv]
        rfl
      have fin : ∀ q, pieceOf (srt (keysOf kv))[i] v = q → ∃ acc, H2' C = some (.lst acc) ∧ acc.length < sizeLine ∧ (Same H1 (upd H2' C (.lst (acc ++ [.str q]))) ∧ upd H2' C (.lst (acc ++ [.str q])) C = some (.lst (((partsOf kv).take (i + 1)).map V.str))) := fun q hq => by
        refine ⟨_, c2, ?_, fun b u e => ?_, ?_⟩
        · rw [List.length_map, List.length_take]
          exact Nat.lt_of_le_of_lt (show _ ≤ 64 by omega) (by decide)
        · rw [upd_ne (ne_of_none e hC)]
          exact s2 _ _ e
        · rw [upd_same, List.take_add_one, hp, List.map_append, hq]
          rfl
      generalize (srt (keysOf kv))[i] = z at zl hv hp fin ⊢
      have e0 : (Str.empty : Str).length = 0 := rfl
      have ea : ("=" : Str).length = 1 := by decide +kernel
      have eb : (";" : Str).length = 1 := by decide +kernel
      have ec : ("!;" : Str).length = 2 := by decide +kernel
      have sm : ∀ n : Nat, n ≤ 2000 → n ≤ sizeLine := fun n h => Nat.le_trans h (by decide)
      have hD2 := s2 _ _ hD1
      refine ⟨rfl, _, rfl, _, rfl, D, v, rfl, .inl ⟨kv, .inr z, .inl hD2, rfl, hv.symm⟩, rfl, _, rfl, ?_⟩
      rcases vv with rfl | ⟨w, rfl, hw⟩
      · refine ite_d (fun _ => ?_) (fun h => absurd rfl h)
        refine ⟨_, rfl, .inl ⟨z, rfl, sm _ (by omega), z, rfl, sm _ (by rw [len_app, e0]; omega), _, rfl, sm _ (by rw [len_app, len_app, e0, ec]; omega), ?_⟩⟩
        exact fin _ rfl
      · refine ite_d (fun h => by cases h) (fun _ => ?_)
        refine ⟨_, rfl, .inl ⟨z, rfl, sm _ (by omega), z, rfl, sm _ (by rw [len_app, e0]; omega), _, rfl, sm _ (by rw [len_app, len_app, e0, ea]; omega), ?_⟩⟩
        refine ⟨_, rfl, _, rfl, D, _, rfl, .inl ⟨kv, .inr z, .inl hD2, rfl, hv.symm⟩, .inl ⟨w, rfl, sm _ (by omega), w, rfl, sm _ (by rw [len_app, len_app, len_app, e0, ea]; omega), _, rfl, sm _ (by rw [len_app, len_app, len_app, len_app, e0, ea, eb]; omega), ?_⟩⟩
        exact fin _ rfl
    · rintro H2 ⟨s2, c2⟩
      rw [List.length_map, List.take_of_length_le (by unfold partsOf; rw [List.length_map]; exact Nat.le_refl _)] at c2
      refine ⟨"", C, partsOf kv, rfl, rfl, .inl (SqL.of c2), ?_, k H2 (s1.trans s2)⟩
      have bd : ∀ y ∈ (partsOf kv).map (·.length), y ≤ 1102 := fun y hy => by
        obtain ⟨q, hq, rfl⟩ := List.mem_map.mp hy
        unfold partsOf at hq
        obtain ⟨z, hz, rfl⟩ := List.mem_map.mp hq
        have zm := (srt_perm _).mem_iff.mp hz
        obtain ⟨v, hv, vv⟩ := tb.at_ zm
        rw [hv]
        exact piece_len (tb.ks z zm) vv
      have sb := sum_bd bd
      have pl : (partsOf kv).length = kv.length := by unfold partsOf; rw [List.length_map, sl]
      rw [List.length_map] at sb
      have : ("" : Str).length = 0 := rfl
      rw [this]
      omega
end k15
namespace k15
open PySem L2 LC RM SM TL
def spcopy : Sp := fun vs H Q _ => ∃ (D : Addr) (kv : List (Key × V)), vs = [.ref D] ∧ H D = some (.dK kv) ∧ (kv.map (·.1)).Nodup ∧ kv.length ≤ 1000000 ∧ ∀ (C : Addr) H', Same H H' → H C = none → H' C = some (.dK kv) → Q (.ref C) H'
theorem ok_copy {P : Program} {w : World} {K : PySem.W.Frag} {mg : Str → Option Value} {base : Heap} {f : Addr} {fd : FuncData} (D : Def K mg "_law_copy" scopy Pcopy f fd) (T : Txt K mg) :
    FnOk P w K mg base CX0 1 f fd Pcopy (spcopy) := by
  refine D.F.ok sccopy (fun vs H Q E h => ?_) (fun cdv A outer s H vs Q E hr h => ?_)
  · obtain ⟨D, kv, rfl, hD, nd, hl, k⟩ := h
    rfl
  · obtain ⟨D, kv, rfl, hD, nd, hl, k⟩ := h
    refine ⟨_, (pss_cons (ps_set (i := 1) sccopy.nd rfl (Or.inl rfl) pe_dnewK)
        (pss_cons (ps_lock (ps_for PassesOwn.never rfl (pi_keys (pv 0)) (pg_name (i := 2) sccopy.nd rfl (Or.inl rfl))
          (pss_one (ps_dput (hu_of hr) (pv 1) (pv 2) (pe_dget (hu_of hr) (pv 0) (pv 2) (fun _ _ => rfl)) (by rfl)))))
        (pss_one (ps_ret (pv 1))))), ?_⟩
    have g : ∀ {i : Nat} (hi : i < kv.length), valV kv kv[i].1 = some kv[i].2 := fun {i} hi => valV_nd nd hi
    refine fun C hC => ⟨D, _, by rw [upd_ne (ne_of_none hD hC)]; exact hD, (by exact True.intro), fun od => ?_⟩
    have CD : C ≠ D := Ne.symm (ne_of_none hD hC)
    have e0 : upd (upd H C (.dK [])) D (.frz od (.dK kv)) C = some (.dK []) := by rw [upd_ne CD]; exact upd_same
    have eD : upd (upd H C (.dK [])) D (.frz od (.dK kv)) D = some (.frz od (.dK kv)) := upd_same
    have oth : ∀ b o, b ≠ D → H b = some o → upd (upd H C (.dK [])) D (.frz od (.dK kv)) b = some o := fun b o n e => by
      rw [upd_ne n, upd_ne (ne_of_none e hC)]
      exact e
    generalize upd (upd H C (.dK [])) D (.frz od (.dK kv)) = H1 at e0 eD oth ⊢
    refine ⟨_, rfl, D, od, rfl, .inl ⟨kv, eD, for_it (walk_keys (d := D) (o := od) (kvs := kv)) (fun i σ H' => ∃ v2 : Option V, σ = [some (.ref D), some (.ref C), v2] ∧ KpF (· = C) H1 H' ∧ H' C = some (.dK (kv.take i))) ⟨none, rfl, KpF.refl _ _, e0⟩ (fun i σ H' _ ⟨_, _, k1, _⟩ => k1 _ _ (Ne.symm CD) eD) ?_ ?_⟩⟩
    · rintro i x σ H2 H3 hi ⟨v2, rfl, k2, e2⟩ ⟨rfl, kk, v, hk, rfl⟩
      obtain ⟨il, ek⟩ := List.getElem?_eq_some_iff.mp hk
      have gv := g hi
      have tp := take_put nd hi
      rw [ek] at gv tp
      refine ⟨_, rfl, _, rfl, D, v, rfl, .inl ⟨kv, kk, .inr ⟨od, k2 _ _ (Ne.symm CD) eD⟩, rfl, gv.symm⟩, _, rfl, _, rfl, C, _, rfl, DPut.k e2 (by rw [List.length_take]; exact Nat.lt_of_le_of_lt (show _ ≤ 1000000 by omega) (by decide)), _, rfl, k2.upd rfl, ?_⟩
      rw [upd_same, tp]
    · rintro σ H2 ⟨v2, rfl, k2, e2⟩
      rw [List.take_length] at e2
      refine ⟨k2 _ _ (Ne.symm CD) eD, _, rfl, k C _ (fun b o e => ?_) hC (by rw [upd_ne CD]; exact e2)⟩
      by_cases c : b = D
      · rw [c, hD] at e
        rw [c, upd_same]
        exact e
      · rw [upd_ne c]
        exact k2 _ _ (ne_of_none e hC) (oth _ _ c e)
end k15
namespace k15
open PySem L2 LC RM SM TL
def spsync : Sp := fun vs H Q _ => ∃ (o : Addr) (F N : Addr → Prop) (S : DS), vs = [.ref o] ∧ OwnAt F N H o S ∧ OpsOk S ∧ ∀ H', ChgO F N H H' o S.sync → Q .non H'
theorem ok_sync {P : Program} {w : World} {K : PySem.W.Frag} {mg : Str → Option Value} {base : Heap} {f : Addr} {fd : FuncData} (D : Def K mg "_law_sync" ssync Psync f fd) (T : Txt K mg) :
    FnOk P w K mg base CX0 1 f fd Psync (spsync) := by
  refine D.F.ok scsync (fun vs H Q E h => ?_) (fun cdv A outer s H vs Q E hr h => ?_)
  · obtain ⟨o, F, N, S, rfl, ⟨sh, hd, C0, C1, op, ts, h⟩, ok, k⟩ := h
    rfl
  · obtain ⟨o, F, N, S, rfl, ⟨sh, hd, C0, C1, op, ts, h⟩, ok, k⟩ := h
    refine ⟨_, (Evl.pss_cut (ps_if (pt_truth (pe_dget (hu_of hr) (pv 0) pe_str (fun _ _ => rfl)) (by intro _; rfl)) (pss_one (ps_dput (hu_of hr) (pv 0) pe_str (pe_op op_add (pe_dget (hu_of hr) (pv 0) pe_str (fun _ _ => rfl)) pe_int) (by rfl))) pss_nil)
        (pss_cons (ps_for PassesOwn.never rfl (pi_list (pe_dget (hu_of hr) (pv 0) pe_str (fun _ _ => rfl))) ((pg_tup rfl (pgs_cons (pg_name (i := 1) scsync.nd rfl (Or.inl rfl)) (pgs_cons (pg_name (i := 2) scsync.nd rfl (Or.inl rfl)) (pgs_cons (pg_name (i := 3) scsync.nd rfl (Or.inl rfl)) pgs_nil)))))
          (pss_cons (ps_set (i := 4) scsync.nd rfl (Or.inl rfl) (pe_ix ix_list (pe_dget (hu_of hr) (pv 0) pe_str (fun _ _ => rfl)) (pv 1) (fun _ _ => rfl)))
        (pss_one (ps_dput (hu_of hr) (pv 4) (pv 2) (pv 3) (by rfl)))))
        (pss_cons (ps_dput (hu_of hr) (pv 0) pe_str (pe_lst pa_nil) (by rfl))
        (pss_one (ps_dput (hu_of hr) (pv 0) pe_str pe_bl (by rfl)))))), ?_⟩
    have ll := h.ops.len
    have sz := ok.sz
    obtain ⟨sy, hsy⟩ : ∃ sy, sy = if S.op = [] then S.syn else S.syn + 1 := ⟨_, rfl⟩
    refine ⟨fun σ H' => σ = [some (.ref o), none, none, none, none] ∧ KpF (· = o) H H' ∧ H' o = some (.dK (oF { S with syn := sy } S.soft sh hd op)), ?_, ?_⟩
    · refine ⟨_, rfl, o, .ref op, rfl, .inl ⟨_, kS "open", .inl h.eo, rfl, rfl⟩, !(ts.map V.ref).isEmpty, .inl ⟨_, SqL.of h.ep, rfl⟩, ?_⟩
      by_cases e : S.op = []
      · have et : ts = [] := List.length_eq_zero_iff.mp (by rw [ll, e]; rfl)
        rw [et]
        refine iteF ⟨rfl, KpF.refl _ _, ?_⟩
        rw [hsy, if_pos e]
        exact h.eo
      · have et : (!(ts.map V.ref).isEmpty) = true := by
          cases ts with
          | nil => exact absurd (List.length_eq_zero_iff.mp ll.symm) e
          | cons _ _ => rfl
        rw [et]
        refine iteT ⟨_, rfl, o, .int S.syn, rfl, .inl ⟨_, kS "syncs", .inl h.eo, rfl, rfl⟩, _, _, rfl, rfl, _, rfl, o, _, rfl, DPut.k (k := kS "syncs") h.eo (by show 10 < sizeLine; decide), rfl, (KpF.refl _ _).upd rfl, ?_⟩
        rw [upd_same, hsy, if_neg e]
        rfl
    rintro σ H1 ⟨rfl, k1, e1⟩
    have h1 : OwnX F N H1 o { S with syn := sy } sh hd C0 C1 op ts := h.head k1 e1 rfl rfl rfl rfl
    have o01 : ¬ (o = C0 ∨ o = C1) := fun q => q.elim h.o0 h.o1
    have nc : ∀ b, N b → ¬ (b = C0 ∨ b = C1) := fun b z q => q.elim (fun w => h.di C0 h.f0 (w ▸ z)) fun w => h.di C1 h.f1 (w ▸ z)
    refine ⟨_, rfl, o, .ref op, rfl, .inl ⟨_, kS "open", .inl h1.eo, rfl, rfl⟩, op, rfl, ⟨_, SqL.of h1.ep⟩, for_list (K := K) (a := op) (xs := ts.map V.ref) (fun i σ H' => ∃ v1 v2 v3 v4 : Option V, σ = [some (.ref o), v1, v2, v3, v4] ∧ KpF (fun b => b = C0 ∨ b = C1) H1 H' ∧ H' C0 = some (.dK ((S.op.take i).foldl DS.keep S).m0) ∧ H' C1 = some (.dK ((S.op.take i).foldl DS.keep S).m1))
      ⟨none, none, none, none, rfl, KpF.refl _ _, h1.e0, h1.e1⟩ (fun i σ H' _ ⟨_, _, _, _, _, k2, _⟩ => SqL.of (k2 _ _ (nc _ h.np) h1.ep)) ?_ ?_⟩
    · rintro i x σ H2 hi ⟨v1, v2, v3, v4, rfl, k2, c0, c1⟩
      rw [List.getElem?_map] at hi
      cases hu : ts[i]? with
      | none => rw [hu] at hi; cases hi
      | some t =>
        rw [hu] at hi
        cases hi
        obtain ⟨q, hq, nt, et⟩ := h1.ops.get hu
        have hq : S.op[i]? = some q := hq
        have qm := ok.ar q (List.mem_of_getElem? hq)
        have fs := fold_sz (S.op.take i) S
        rw [List.length_take] at fs
        have tk : (S.op.take (i + 1)).foldl DS.keep S = ((S.op.take i).foldl DS.keep S).keep q := by
          rw [List.take_add_one, hq, List.foldl_append]
          rfl
        refine ⟨t, _, rfl, SqT.of (k2 _ _ (nc _ nt) et), rfl, _, _, rfl, _, _, rfl, _, _, rfl, rfl, ?_⟩
        have eh2 := k2 _ _ (nc _ h.nh) h1.eh
        have eo2 := k2 _ _ o01 h1.eo
        rcases qm.1 with qa | qa
        · refine ⟨_, rfl, o, .ref hd, rfl, .inl ⟨_, kS "hard", .inl eo2, rfl, rfl⟩, _, rfl, _, _, _, _, rfl, rfl, SqL.of eh2, (by rw [qa]; exact atI_nat (j := 0) rfl), ?_⟩
          refine ⟨_, rfl, _, rfl, _, rfl, C0, _, rfl, DPut.k (k := .inl q.2.1) c0 (Nat.lt_of_le_of_lt (show _ ≤ 1000000 by omega) (by decide)), _, _, _, _, rfl, k2.upd (.inl rfl), ?_, ?_⟩
          · rw [upd_same, tk, keep_0 qa]
          · rw [upd_ne (Ne.symm h.c01), c1, tk, keep_0 qa]
        · have qn : ¬ q.1 = 0 := by omega
          refine ⟨_, rfl, o, .ref hd, rfl, .inl ⟨_, kS "hard", .inl eo2, rfl, rfl⟩, _, rfl, _, _, _, _, rfl, rfl, SqL.of eh2, (by rw [qa]; exact atI_nat (j := 1) rfl), ?_⟩
          refine ⟨_, rfl, _, rfl, _, rfl, C1, _, rfl, DPut.k (k := .inl q.2.1) c1 (Nat.lt_of_le_of_lt (show _ ≤ 1000000 by omega) (by decide)), _, _, _, _, rfl, k2.upd (.inr rfl), ?_, ?_⟩
          · rw [upd_ne h.c01, c0, tk, keep_1 qn]
          · rw [upd_same, tk, keep_1 qn]
    · rintro σ H2 ⟨v1, v2, v3, v4, rfl, k2, c0, c1⟩
      rw [List.length_map, ll, List.take_length] at c0 c1
      refine ⟨Nat.zero_le _, fun L hL => ?_⟩
      have eo2 := k2 _ _ o01 h1.eo
      have oL : o ≠ L := ne_of_none eo2 hL
      refine ⟨_, rfl, o, _, rfl, DPut.k (k := kS "open") ((upd_ne oL).trans eo2) (by show 10 < sizeLine; decide), ?_⟩
      refine ⟨_, rfl, o, _, rfl, DPut.k (k := kS "soft") upd_same (by show 10 < sizeLine; decide), k _ ?_⟩
      rw [upd_upd]
      have hs := sync_eq S hsy
      have fx := h1.fin (S' := S.sync) (ns := []) (os := []) k2 (by rw [hs]; exact c0) (by rw [hs]; exact c1) hL (by rw [hs]; exact (fold_same S.op S).1) rfl (by rw [hs]; exact .nil)
      have hN : H L = none := by
        cases e : H L with
        | none => rfl
        | some u =>
          by_cases co : L = o
          · exact absurd co.symm oL
          · have e1' := k1 _ _ co e
            by_cases cc : L = C0 ∨ L = C1
            · rcases cc with cc | cc
              · rw [cc, c0] at hL; cases hL
              · rw [cc, c1] at hL; cases hL
            · rw [k2 _ _ cc e1'] at hL
              cases hL
      refine ⟨fun b => N b ∨ b = L, fun b u n e => ?_, ⟨sh, hd, C0, C1, L, [], ?_⟩, fun b hb => hb.elim .inl fun z => .inr (z ▸ hN)⟩
      · have bo : b ≠ o := fun z => n (by rw [z]; exact h.fo)
        have bc : ¬ (b = C0 ∨ b = C1) := fun q => q.elim (fun z => n (by rw [z]; exact h.f0)) fun z => n (by rw [z]; exact h.f1)
        rw [upd_ne bo, upd_ne (ne_of_none e hN)]
        exact k2 _ _ bc (k1 _ _ bo e)
      · have ed : putK (putK (oF { S with syn := sy } ({ S with syn := sy } : DS).soft sh hd op) (kS "open") (.ref L)) (kS "soft") (.bl false) = oF S.sync S.sync.soft sh hd L := by
          rw [hs]
          obtain ⟨f1, f2, f3, f4, f5, f6, f7, f8⟩ := fold_same S.op S
          show oF { S with syn := sy } false sh hd L = oF { S.op.foldl DS.keep S with op := [], syn := sy } false sh hd L
          unfold oF
          rw [f3, f4, f5, f6, f7]
        rw [ed]
        exact fx
end k15
namespace k15
open PySem L2 LC RM SM TL
def spcheck : Sp := fun vs H Q _ => ∃ (o : Addr) (F N : Addr → Prop) (S : DS) (hard : Bool), vs = [.ref o, .bl hard] ∧ OwnAt F N H o S ∧ DSok S ∧ (∀ p ∈ S.kv, p.2 ≠ .non) ∧ ∀ H', ChgO F N H H' o (S.check hard) → Q .non H'
theorem ok_check {P : Program} {w : World} {K : PySem.W.Frag} {mg : Str → Option Value} {base : Heap} {f : Addr} {fd : FuncData} (D : Def K mg "_law_check" scheck Pcheck f fd) (T : Txt K mg) {fcut : Addr} {fdcut : FuncData} (Dcut : Def K mg "_law_cut" scut Pcut fcut fdcut) (Gcut : FnOk P w K mg base CX0 1 fcut fdcut Pcut (spcut)) {fwritten : Addr} {fdwritten : FuncData} (Dwritten : Def K mg "_law_written" swritten Pwritten fwritten fdwritten) (Gwritten : FnOk P w K mg base CX0 1 fwritten fdwritten Pwritten (spwritten)) {fsync : Addr} {fdsync : FuncData} (Dsync : Def K mg "_law_sync" ssync Psync fsync fdsync) (Gsync : FnOk P w K mg base CX0 1 fsync fdsync Psync (spsync)) :
    FnOk P w K mg base CX0 2 f fd Pcheck (spcheck) := by
  refine D.F.ok sccheck (fun vs H Q E h => ?_) (fun cdv A outer s H vs Q E hr h => ?_)
  · obtain ⟨o, F, N, S, hard, rfl, hO, ok, full, k⟩ := h
    rfl
  · obtain ⟨o, F, N, S, hard, rfl, hO, ok, full, k⟩ := h
    have hrcut : Room 1 _ := hr.mono (by decide)
    have hrwritten : Room 1 _ := hr.mono (by decide)
    have hrsync : Room 1 _ := hr.mono (by decide)
    refine ⟨_, (Evl.pss_cut (ps_if (pt_val (pe_dget (hu_of hr) (pv 0) pe_str (fun _ _ => rfl))) (pss_one (ps_expr (pe_call Gsync hrsync rfl Dsync.g Dsync.F.kp Dsync.b .nil pass0 (pa_cons (pv 0) pa_nil)))) pss_nil)
        (pss_cons (ps_set (i := 2) sccheck.nd rfl (Or.inr rfl) (pe_call Gcut hrcut rfl Dcut.g Dcut.F.kp Dcut.b .nil pass0 (pa_cons (pe_call Gwritten hrwritten rfl Dwritten.g Dwritten.F.kp Dwritten.b .nil pass0 (pa_cons (pe_dget (hu_of hr) (pv 0) pe_str (fun _ _ => rfl)) pa_nil)) pa_nil)))
        (pss_cons (ps_asg (pe_tup (pa_cons (pe_op op_sub pe_int (pe_dget (hu_of hr) (pv 0) pe_str (fun _ _ => rfl))) (pa_cons (pe_op op_add (pe_dget (hu_of hr) (pv 0) pe_str (fun _ _ => rfl)) pe_int) pa_nil))) (pg_tup rfl (pgs_cons (pg_name (i := 3) sccheck.nd rfl (Or.inr rfl)) (pgs_cons (pg_name (i := 4) sccheck.nd rfl (Or.inr rfl)) pgs_nil))))
        (pss_cons (ps_setLc (i := 5) (own := [("_law_k", 6)]) (g := gName 6) (tt := tYes) rfl sccheck.nd rfl rfl (sw_true rfl rfl rfl (by decide +kernel)) (pi_range1 rfl T.n_range (pa_cons (pe_callB call_len_seq (by rfl) T.n_len PySem.boot_len (pa_cons (pv 2) pa_nil)) pa_nil)) (blkOk_by (own := [("_law_k", 6)]) (N := Nmcheck) (sc := defScope scheck) (by decide +kernel)) (fun _ _ _ _ _ => pg_name (i := 6) sccheck.nd rfl (Or.inl rfl)) (fun _ _ _ _ _ => pts_nil) (fun _ _ _ _ _ => (pe_tup (pa_cons (pv 3) (pa_cons (pe_op op_add (pv 6) pe_int) (pa_cons (pe_joined (.cons pe_str (.cons (pe_fmt (pv 4)) (.cons pe_str (.cons (pe_fmt (pe_op op_add (pv 6) pe_int)) (.cons pe_str (.cons (pe_fmt (pe_ix (show IxR _ (rIxL K) from ix_list) (pv 2) (pv 6) (fun _ _ => rfl))) .nil))))))) pa_nil))))))
        (pss_cons (ps_dput (hu_of hr) (pv 0) pe_str (pe_op op_cat (pe_op op_cat (pe_dget (hu_of hr) (pv 0) pe_str (fun _ _ => rfl)) (pv 5)) (pe_lst (pa_cons (pe_tup (pa_cons (pv 3) (pa_cons pe_int (pa_cons (pe_joined (.cons pe_str (.cons (pe_fmt (pv 4)) (.cons pe_str (.cons (pe_fmt (pe_callB call_len_seq (by rfl) T.n_len PySem.boot_len (pa_cons (pv 2) pa_nil))) .nil))))) pa_nil)))) pa_nil))) (by rfl))
        (pss_cons (ps_dput (hu_of hr) (pv 0) pe_str (pv 3) (by rfl))
        (pss_cons (ps_dput (hu_of hr) (pv 0) pe_str (pv 4) (by rfl))
        (pss_cons (ps_dput (hu_of hr) (pv 0) pe_str (pe_callB call_len_seq (by rfl) T.n_len PySem.boot_len (pa_cons (pv 2) pa_nil)) (by rfl))
        (pss_cons (ps_dput (hu_of hr) (pv 0) pe_str pe_int (by rfl))
        (pss_cons (ps_dput (hu_of hr) (pv 0) pe_str pe_bl (by rfl))
        (pss_one (ps_if (pt_truth (pv 1) (by intro _; rfl)) (pss_one (ps_expr (pe_call Gsync hrsync rfl Dsync.g Dsync.F.kp Dsync.b .nil pass0 (pa_cons (pv 0) pa_nil)))) pss_nil)))))))))))), ?_⟩
    obtain ⟨S1, hS1⟩ : ∃ S1, S1 = if S.soft = true then S.sync else S := ⟨_, rfl⟩
    have ok1 : DSok S1 := by rw [hS1]; split; exact ok.sync; exact ok
    have kv1 : S1.kv = S.kv := by rw [hS1]; split; exact (sync_same S).1; rfl
    refine ⟨fun σ H' => σ = [some (.ref o), some (.bl hard), none, none, none, none, none] ∧ ChgO F N H H' o S1, ?_, ?_⟩
    · obtain ⟨sh, hd, C0, C1, op, ts, h⟩ := hO
      refine ⟨_, rfl, o, .bl S.soft, rfl, .inl ⟨_, kS "soft", .inl h.eo, rfl, rfl⟩, _, rfl, ?_⟩
      cases hs : S.soft with
      | true =>
        rw [hs, if_pos rfl] at hS1
        refine iteT ⟨_, rfl, o, F, N, S, rfl, ⟨sh, hd, C0, C1, op, ts, h⟩, ok.op, fun H2 c2 => ⟨rfl, ?_⟩⟩
        rw [hS1]
        exact c2
      | false =>
        rw [hs, if_neg (by decide)] at hS1
        rw [hS1]
        exact iteF ⟨rfl, N, KpF.refl F H, ⟨sh, hd, C0, C1, op, ts, h⟩, fun b z => .inl z⟩
    rintro σ H1 ⟨rfl, N1, k1, ⟨sh, hd, C0, C1, op, ts, h⟩, f1⟩
    have al0 : ∀ b, F b → ∃ u, H b = some u := by
      obtain ⟨_, _, _, _, _, _, h0⟩ := hO
      exact fun b z => h0.al b (.inl z)
    have tl := text_len ok1.tab
    refine ⟨_, rfl, o, .ref sh, rfl, .inl ⟨_, kS "shelf", .inl h.eo, rfl, rfl⟩, sh, S1.kv, rfl, h.es, ok1.tab, by rw [kv1]; exact full, fun H2 s2 => ?_⟩
    refine ⟨textOf S1.kv, rfl, by omega, fun Pc H3 s3 n3 e3 => ?_⟩
    obtain ⟨ps, hps⟩ : ∃ ps, ps = cutT (textOf S1.kv) := ⟨_, rfl⟩
    rw [← hps] at e3
    have pl : ps.length ≤ 71000 := by
      have := nCut_le (textOf S1.kv)
      rw [hps, cutT_len]
      omega
    have lps : (ps.map V.str).length = ps.length := List.length_map ..
    have s13 := s2.trans s3
    have h3 := h.same s13
    refine ⟨_, rfl, o, .int S1.side, rfl, .inl ⟨_, kS "side", .inl h3.eo, rfl, rfl⟩, _, _, rfl, rfl, _, rfl, o, .int S1.gen, rfl, .inl ⟨_, kS "gen", .inl h3.eo, rfl, rfl⟩, _, _, rfl, rfl, (by show 2 ≤ sizeLine; decide), fun tg htg => ⟨tg, _, rfl, SqT.of upd_same, rfl, _, _, rfl, _, _, rfl, rfl, ?_⟩⟩
    have s14 := s13.trans (same_new (o := .tup [.int (1 - S1.side), .int (S1.gen + 1)]) htg)
    have e4 := same_new (o := .tup [.int (1 - S1.side), .int (S1.gen + 1)]) htg _ _ e3
    generalize upd H3 tg (.tup [.int (1 - S1.side), .int (S1.gen + 1)]) = H4 at s14 e4 ⊢
    have o1 := ok1.ops
    have g1 := ok1.gen
    have sm : ∀ n : Nat, n ≤ 1000000 → n ≤ sizeLine := fun n h => Nat.le_trans h (by decide)
    have z0 : (Str.empty : Str).length = 0 := rfl
    have z1 : ("piece " : Str).length = 6 := by decide +kernel
    have z2 : (" " : Str).length = 1 := by decide +kernel
    have z3 : ("head " : Str).length = 5 := by decide +kernel
    have lg := int_len (i := S1.gen + 1) (by omega) (by omega)
    have lp := int_len (i := (ps.length : Int)) (by omega) (by omega)
    refine ⟨_, rfl, Pc, _, rfl, .inl (SqL.of e4), _, rfl, by omega, by omega, fun D hD => ?_⟩
    rw [lps]
    refine lc_it (walk_range (lo := 0) (n := ps.length)) (fun i H' => ∃ us : List Addr, Same H4 H' ∧ H' D = some (.lst (us.map V.ref)) ∧ Ops (fun b => H4 b = none) H' us (fresh (1 - S1.side) (S1.gen + 1) ps i)) ⟨[], same_new hD, upd_same, .nil⟩ (fun _ _ _ _ => True.intro) ?_ ?_
    · rintro i x H5 H5' hi ⟨us, s5, d5, o5⟩ ⟨rfl, rfl⟩
      have ei : (fun i : Nat => V.int ((0 : Int) + (i : Int))) i = V.int (i : Int) := by
        show V.int _ = _
        rw [show (0 : Int) + (i : Int) = i by omega]
      rw [ei]
      have e5 := s5 _ _ e4
      have tm : ps[i].length ≤ 71000 := by
        have := cutT_mem (z := textOf S1.kv) (t := ps[i]) (by rw [← hps]; exact List.getElem_mem hi)
        omega
      have lk := int_len (i := (i : Int) + 1) (by omega) (by omega)
      have ul := o5.len
      rw [fresh_len] at ul
      refine ⟨rfl, _, rfl, _, rfl, _, _, rfl, rfl, _, rfl, sm _ (by rw [len_app, z0, z1]; omega), ?_⟩
      refine ⟨_, rfl, .inr ⟨S1.gen + 1, rfl, log_small (by omega) (by omega), _, rfl, sm _ (by simp only [len_app, z0, z1]; omega), _, rfl, sm _ (by simp only [len_app, z0, z1, z2]; omega), ?_⟩⟩
      refine ⟨_, rfl, _, _, rfl, rfl, .inr ⟨(i : Int) + 1, rfl, log_small (by omega) (by omega), _, rfl, sm _ (by simp only [len_app, z0, z1, z2]; omega), _, rfl, sm _ (by simp only [len_app, z0, z1, z2]; omega), ?_⟩⟩
      refine ⟨_, rfl, _, rfl, _, _, _, _, rfl, rfl, SqL.of e5, atI_nat (j := i) (v := V.str ps[i]) (by rw [List.getElem?_map, List.getElem?_eq_getElem hi]; rfl), .inl ⟨ps[i], rfl, sm _ (by omega), _, rfl, sm _ (by simp only [len_app, z0, z1, z2]; omega), (by show 3 ≤ sizeLine; decide), fun T hT => ?_⟩⟩
      have dT : upd H5' T (.tup [.int (1 - S1.side), .int ((i : Int) + 1), .str (pieceT (S1.gen + 1) ((i : Int) + 1) ps[i])]) D = some (.lst (us.map V.ref)) := by rw [upd_ne (ne_of_none d5 hT)]; exact d5
      have TD : T ≠ D := fun z => by rw [z, d5] at hT; cases hT
      refine ⟨_, dT, by rw [List.length_map, ul]; exact Nat.lt_of_le_of_lt (show _ ≤ 71000 by omega) (by decide), us ++ [T], fun b u e => ?_, by rw [upd_same, List.map_append]; rfl, ?_⟩
      · rw [upd_ne (ne_of_none e hD), upd_ne (ne_of_none (s5 _ _ e) hT)]
        exact s5 _ _ e
      · have fs := fresh_succ (sd := 1 - S1.side) (g := S1.gen + 1) (l := []) hi
        rw [List.nil_append, List.nil_append] at fs
        rw [← fs]
        refine Paired.snoc (o5.mono' fun t q z => ⟨z.1, ?_⟩) ⟨s5.free hT, by rw [upd_ne TD]; exact upd_same⟩
        have tD : t ≠ D := fun w => by
          have y := z.2
          rw [w, d5] at y
          cases y
        rw [upd_ne tD, upd_ne (ne_of_none z.2 hT)]
        exact z.2
    · rintro H5 ⟨us, s5, d5, o5⟩
      have e5 := s5 _ _ e4
      have s15 := s14.trans s5
      have h5 := h.same s15
      have ul := o5.len
      have tl' := h.ops.len
      rw [fresh_len] at ul
      refine ⟨_, rfl, o, .ref op, rfl, .inl ⟨_, kS "open", .inl h5.eo, rfl, rfl⟩, _, rfl, op, D, _, _, rfl, rfl, h5.ep, d5, by rw [List.length_map, List.length_map]; exact Nat.le_trans (show _ ≤ 1000000 by omega) (by decide), fun L1 hL1 => ?_⟩
      have s6 := s15.trans (same_new (o := .lst (ts.map V.ref ++ us.map V.ref)) hL1)
      have sx := s5.trans (same_new (o := .lst (ts.map V.ref ++ us.map V.ref)) hL1)
      have eL1 : upd H5 L1 (.lst (ts.map V.ref ++ us.map V.ref)) L1 = some (.lst (ts.map V.ref ++ us.map V.ref)) := upd_same
      have e6 := same_new (o := .lst (ts.map V.ref ++ us.map V.ref)) hL1 _ _ e5
      have o6 := o5.mono' (F' := fun b => H4 b = none) (H' := upd H5 L1 (.lst (ts.map V.ref ++ us.map V.ref))) fun t q z => ⟨z.1, same_new hL1 _ _ z.2⟩
      generalize upd H5 L1 (.lst (ts.map V.ref ++ us.map V.ref)) = H6 at s6 sx eL1 e6 o6 ⊢
      refine ⟨_, rfl, _, rfl, sm _ (by rw [len_app, z0, z3]; omega), ?_⟩
      refine ⟨_, rfl, .inr ⟨S1.gen + 1, rfl, log_small (by omega) (by omega), _, rfl, sm _ (by simp only [len_app, z0, z3]; omega), _, rfl, sm _ (by simp only [len_app, z0, z3, z2]; omega), ?_⟩⟩
      refine ⟨_, rfl, Pc, _, rfl, .inl (SqL.of e6), ?_⟩
      rw [lps]
      refine .inr ⟨(ps.length : Int), rfl, log_small (by omega) (by omega), _, rfl, sm _ (by simp only [len_app, z0, z3, z2]; omega), (by show 3 ≤ sizeLine; decide), fun th hth => ?_⟩
      refine ⟨(by show 1 ≤ sizeLine; decide), ?_⟩
      have nth : H4 th = none := sx.free hth
      generalize hH7 : upd H6 th _ = H7
      have eH7 : H7 = upd H6 th (.tup [.int (1 - S1.side), .int 0, .str (headT (S1.gen + 1) ps.length)]) := by
        rw [← hH7]
        rfl
      clear hH7
      have eth : H7 th = some (.tup [.int (1 - S1.side), .int 0, .str (headT (S1.gen + 1) ps.length)]) := by rw [eH7]; exact upd_same
      have st7 : Same H6 H7 := by rw [eH7]; exact same_new hth
      have s7 := s6.trans st7
      have e7 := st7 _ _ e6
      have eL17 := st7 _ _ eL1
      have o7 := (o6.mono' (F' := fun b => H4 b = none) (H' := H7) fun t q z => ⟨z.1, st7 _ _ z.2⟩).snoc (b := ((1 - S1.side, 0, headT (S1.gen + 1) ps.length) : Op)) ⟨nth, eth⟩
      intro L2 hL2
      have st8 := same_new (o := .lst [.ref th]) hL2
      have s8 := s7.trans st8
      have e8 := st8 _ _ e7
      have eL18 := st8 _ _ eL17
      have eL28 : upd H7 L2 (.lst [.ref th]) L2 = some (.lst [.ref th]) := upd_same
      have o8 := Ops.mono' (F' := fun b => H4 b = none) (H' := upd H7 L2 (.lst [.ref th])) o7 fun t q z => ⟨z.1, st8 _ _ z.2⟩
      generalize upd H7 L2 (.lst [.ref th]) = H8 at s8 e8 eL18 eL28 o8 ⊢
      refine ⟨L1, L2, _, _, rfl, rfl, eL18, eL28, by rw [List.length_append, List.length_map, List.length_map]; exact Nat.le_trans (show _ ≤ 1000000 by show ts.length + us.length + 1 ≤ 1000000; omega) (by decide), fun L3 hL3 => ?_⟩
      have h8 := h.same s8
      have oL : o ≠ L3 := ne_of_none h8.eo hL3
      have oP : Pc ≠ o := fun z => by rw [z, h8.eo] at e8; cases e8
      have PL : Pc ≠ L3 := ne_of_none e8 hL3
      refine ⟨_, rfl, o, _, rfl, DPut.k (k := kS "open") ((upd_ne oL).trans h8.eo) (by show 10 < sizeLine; decide), ?_⟩
      refine ⟨_, rfl, _, rfl, o, _, rfl, DPut.k (k := kS "side") upd_same (by show 10 < sizeLine; decide), ?_⟩
      refine ⟨_, rfl, _, rfl, o, _, rfl, DPut.k (k := kS "gen") upd_same (by show 10 < sizeLine; decide), ?_⟩
      refine ⟨_, rfl, Pc, _, rfl, .inl (SqL.of ((upd_ne oP).trans ((upd_ne oP).trans ((upd_ne oP).trans ((upd_ne PL).trans e8))))), _, rfl, o, _, rfl, DPut.k (k := kS "pieces") upd_same (by show 10 < sizeLine; decide), ?_⟩
      refine ⟨_, rfl, o, _, rfl, DPut.k (k := kS "count") upd_same (by show 10 < sizeLine; decide), ?_⟩
      refine ⟨_, rfl, o, _, rfl, DPut.k (k := kS "soft") upd_same (by show 10 < sizeLine; decide), ?_⟩
      rw [lps]
      obtain ⟨S4, hS4⟩ : ∃ S4, S4 = { S1.turn ps with op := S1.op ++ fresh (1 - S1.side) (S1.gen + 1) ps ps.length ++ [(1 - S1.side, 0, headT (S1.gen + 1) ps.length)] } := ⟨_, rfl⟩
      have soft4 : S4.soft = true := by
        rw [hS4]
        show (S1.op ++ fresh (1 - S1.side) (S1.gen + 1) ps ps.length ++ [(1 - S1.side, 0, headT (S1.gen + 1) ps.length)]).any (fun q => decide (q.1 = 1 - S1.side) && decide (q.2.1 = 0)) = true
        rw [List.any_append]
        simp
      generalize hH9 : upd (upd (upd (upd (upd (upd (upd H8 L3 _) o _) o _) o _) o _) o _) o _ = H9
      have eH9 : H9 = upd (upd H8 L3 (.lst (ts.map V.ref ++ us.map V.ref ++ [.ref th]))) o (.dK (oF S4 S4.soft sh hd L3)) := by
        rw [← hH9, upd_upd, upd_upd, upd_upd, upd_upd, upd_upd, soft4, hS4]
        rfl
      clear hH9
      have s18 := s8
      have h4 := h.same s14
      have hw := h8.wide (Z := fun b => H4 b = none ∧ ∃ u, H8 b = some u) (fun b z => z.2) fun b hb z => by
        obtain ⟨u, e⟩ := h4.al b (.inl hb)
        rw [z.1] at e
        cases e
      have fx := hw.fin (S' := S4) (L := L3) (ns := ts ++ (us ++ [th])) (os := ts.map V.ref ++ us.map V.ref ++ [.ref th]) (KpF.refl _ H8) (by rw [hS4]; exact h8.e0) (by rw [hS4]; exact h8.e1) hL3 (by rw [hS4]; rfl) (by rw [List.map_append, List.map_append, ← List.append_assoc]; rfl) (by
        have e : S4.op = S1.op ++ (fresh (1 - S1.side) (S1.gen + 1) ps ps.length ++ [(1 - S1.side, 0, headT (S1.gen + 1) ps.length)]) := by
          rw [hS4]
          exact List.append_assoc ..
        rw [e]
        exact hw.ops.app (Ops.mono' o8 fun t q z => ⟨.inr ⟨z.1, _, z.2⟩, z.2⟩))
      rw [← eH9] at fx
      have nL3 : H1 L3 = none := s8.free hL3
      have k9 : KpF F H1 H9 := by
        rw [eH9]
        exact ((KpF.same s8).new hL3).upd h.fo
      have f9 : ∀ b, ((N1 b ∨ (H4 b = none ∧ ∃ u, H8 b = some u)) ∨ b = L3) → N1 b ∨ H1 b = none := fun b z => by
        rcases z with (z | z) | z
        · exact .inl z
        · exact .inr (s14.free z.1)
        · exact .inr (z ▸ nL3)
      have al1 : ∀ b, F b → ∃ u, H1 b = some u := fun b z => h.al b (.inl z)
      have sd := ok1.side
      have eS : S.check hard = if hard = true then S4.sync else S4 := by
        unfold DS.check
        rw [← hS1, hS4, hps]
        rfl
      refine ⟨_, rfl, hard, rfl, ?_⟩
      cases hard with
      | false =>
        refine iteF (k _ ?_)
        rw [eS, if_neg (by decide)]
        exact ChgO.then k1 al0 f1 ⟨_, k9, ⟨sh, hd, C0, C1, L3, _, fx⟩, f9⟩
      | true =>
        have o4 : OpsOk S4 := by
          rw [hS4]
          refine ⟨ok1.fal, ?_, fun q hq => ?_⟩
          · show S1.m0.length + S1.m1.length + (S1.op ++ fresh (1 - S1.side) (S1.gen + 1) ps ps.length ++ [(1 - S1.side, 0, headT (S1.gen + 1) ps.length)]).length ≤ 1000000
            have sz := ok1.sz
            rw [List.length_append, List.length_append, fresh_len]
            show S1.m0.length + S1.m1.length + (S1.op.length + ps.length + 1) ≤ 1000000
            omega
          · have hq : q ∈ S1.op ++ fresh (1 - S1.side) (S1.gen + 1) ps ps.length ++ [(1 - S1.side, 0, headT (S1.gen + 1) ps.length)] := hq
            rcases List.mem_append.mp hq with hq | hq
            · rcases List.mem_append.mp hq with hq | hq
              · exact ok1.op.ar q hq
              · obtain ⟨j, hj, rfl⟩ := List.mem_map.mp hq
                have hj := List.mem_range.mp hj
                exact ⟨by show 1 - S1.side = 0 ∨ 1 - S1.side = 1; omega, by show (0 : Int) ≤ (j : Int) + 1; omega, by show (j : Int) + 1 ≤ 1000000; omega⟩
            · rw [List.mem_singleton] at hq
              rw [hq]
              exact ⟨by show 1 - S1.side = 0 ∨ 1 - S1.side = 1; omega, Int.le_refl _, by show (0 : Int) ≤ 1000000; decide⟩
        refine iteT ⟨_, rfl, o, F, _, S4, rfl, ⟨sh, hd, C0, C1, L3, _, fx⟩, o4, fun H10 c10 => k _ ?_⟩
        rw [eS, if_pos rfl]
        exact ChgO.then k1 al0 f1 (ChgO.then k9 al1 f9 c10)
end k15
namespace k15
open PySem L2 LC RM SM TL
def spwrite : Sp := fun vs H Q _ => ∃ (o D : Addr) (F N : Addr → Prop) (S : DS) (ch : List (Key × V)), vs = [.ref o, .ref D] ∧ OwnAt F N H o S ∧ DSok S ∧ (∀ p ∈ S.kv, p.2 ≠ .non) ∧ H D = some (.dK ch) ∧ ¬ F D ∧ Tab ch ∧ ∀ H', ChgO F N H H' o (S.write ch) → Q (.int ((nR ch : Nat) : Int)) H'
theorem ok_write {P : Program} {w : World} {K : PySem.W.Frag} {mg : Str → Option Value} {base : Heap} {f : Addr} {fd : FuncData} (D : Def K mg "_law_write" swrite Pwrite f fd) (T : Txt K mg) {fcut : Addr} {fdcut : FuncData} (Dcut : Def K mg "_law_cut" scut Pcut fcut fdcut) (Gcut : FnOk P w K mg base CX0 1 fcut fdcut Pcut (spcut)) {frecorded : Addr} {fdrecorded : FuncData} (Drecorded : Def K mg "_law_recorded" srecorded Precorded frecorded fdrecorded) (Grecorded : FnOk P w K mg base CX0 1 frecorded fdrecorded Precorded (sprecorded)) {fcheck : Addr} {fdcheck : FuncData} (Dcheck : Def K mg "_law_check" scheck Pcheck fcheck fdcheck) (Gcheck : FnOk P w K mg base CX0 2 fcheck fdcheck Pcheck (spcheck)) :
    FnOk P w K mg base CX0 3 f fd Pwrite (spwrite) := by
  refine D.F.ok scwrite (fun vs H Q E h => ?_) (fun cdv A outer s H vs Q E hr h => ?_)
  · obtain ⟨o, D, F, N, S, ch, rfl, hO, ok, full, hD, nD, tb, k⟩ := h
    rfl
  · obtain ⟨o, D, F, N, S, ch, rfl, hO, ok, full, hD, nD, tb, k⟩ := h
    have hrcut : Room 1 _ := hr.mono (by decide)
    have hrrecorded : Room 1 _ := hr.mono (by decide)
    have hrcheck : Room 2 _ := hr.mono (by decide)
    refine ⟨_, (pss_cons (ps_set (i := 2) scwrite.nd rfl (Or.inl rfl) (pe_call Gcut hrcut rfl Dcut.g Dcut.F.kp Dcut.b .nil pass0 (pa_cons (pe_call Grecorded hrrecorded rfl Drecorded.g Drecorded.F.kp Drecorded.b .nil pass0 (pa_cons (pv 1) pa_nil)) pa_nil)))
        (Evl.pss_cut (ps_if (PW.pt (pw_and (pt_cmpR op_gt (pe_dget (hu_of hr) (pv 0) pe_str (fun _ _ => rfl)) pe_int (nomark _)) (pw_and (pt_truth (pv 2) (by intro _; rfl)) (pw_and1 (pt_cmpR op_gt (pe_op op_add (pe_dget (hu_of hr) (pv 0) pe_str (fun _ _ => rfl)) (pe_callB call_len_seq (by rfl) T.n_len PySem.boot_len (pa_cons (pv 2) pa_nil))) (pe_dget (hu_of hr) (pv 0) pe_str (fun _ _ => rfl)) (nomark _)))))) (pss_one (ps_expr (pe_call Gcheck hrcheck rfl Dcheck.g Dcheck.F.kp Dcheck.b .nil pass0 (pa_cons (pv 0) (pa_cons pe_bl pa_nil))))) pss_nil)
        (pss_cons (ps_for PassesOwn.never rfl (pi_range1 rfl T.n_range (pa_cons (pe_callB call_len_seq (by rfl) T.n_len PySem.boot_len (pa_cons (pv 2) pa_nil)) pa_nil)) (pg_name (i := 3) scwrite.nd rfl (Or.inl rfl))
          (pss_cons (ps_set (i := 4) scwrite.nd rfl (Or.inl rfl) (pe_op op_add (pe_op op_add (pe_dget (hu_of hr) (pv 0) pe_str (fun _ _ => rfl)) (pv 3)) pe_int))
        (pss_cons (ps_set (i := 5) scwrite.nd rfl (Or.inl rfl) (pe_join pe_str (pe_lst (pa_cons pe_str (pa_cons (pe_callTy call_str_int (by rfl) T.n_str (by decide +kernel) (pa_cons (pe_dget (hu_of hr) (pv 0) pe_str (fun _ _ => rfl)) pa_nil)) (pa_cons (pe_callTy call_str_int (by rfl) T.n_str (by decide +kernel) (pa_cons (pv 4) pa_nil)) (pa_cons (pe_callTy call_str_int (by rfl) T.n_str (by decide +kernel) (pa_cons (pe_op op_sub (pe_op op_sub (pe_callB call_len_seq (by rfl) T.n_len PySem.boot_len (pa_cons (pv 2) pa_nil)) (pv 3)) pe_int) pa_nil)) (pa_cons (pe_ix ix_list (pv 2) (pv 3) (fun _ _ => rfl)) pa_nil))))))))
        (pss_one (ps_dput (hu_of hr) (pv 0) pe_str (pe_op op_cat (pe_dget (hu_of hr) (pv 0) pe_str (fun _ _ => rfl)) (pe_lst (pa_cons (pe_tup (pa_cons (pe_dget (hu_of hr) (pv 0) pe_str (fun _ _ => rfl)) (pa_cons (pe_op op_add (pe_dget (hu_of hr) (pv 0) pe_str (fun _ _ => rfl)) (pv 4)) (pa_cons (pv 5) pa_nil)))) pa_nil))) (by rfl))))))
        (pss_cons (ps_dput (hu_of hr) (pv 0) pe_str (pe_op op_add (pe_dget (hu_of hr) (pv 0) pe_str (fun _ _ => rfl)) (pe_callB call_len_seq (by rfl) T.n_len PySem.boot_len (pa_cons (pv 2) pa_nil))) (by rfl))
        (pss_cons (ps_set (i := 6) scwrite.nd rfl (Or.inl rfl) (pe_dget (hu_of hr) (pv 0) pe_str (fun _ _ => rfl)))
        (pss_cons (ps_lock (ps_for PassesOwn.never rfl (pi_keys (pv 1)) (pg_name (i := 7) scwrite.nd rfl (Or.inl rfl))
          (pss_one (ps_if (pt_cmpR op_isN (pe_dget (hu_of hr) (pv 1) (pv 7) (fun _ _ => rfl)) pe_non (nomark _)) (pss_one (ps_expr (pe_dpop2 (pv 6) (pv 7) pe_non ⟨rfl, rfl, rfl, rfl⟩))) (pss_one (ps_dput (hu_of hr) (pv 6) (pv 7) (pe_dget (hu_of hr) (pv 1) (pv 7) (fun _ _ => rfl)) (by rfl)))))))
        (pss_one (ps_ret (pe_callB call_len_seq (by rfl) T.n_len PySem.boot_len (pa_cons (pv 2) pa_nil)))))))))), ?_⟩
    have al0 : ∀ b, F b → ∃ u, H b = some u := by
      obtain ⟨_, _, _, _, _, _, h0⟩ := hO
      exact fun b z => h0.al b (.inl z)
    have tl := text_len tb
    refine ⟨_, rfl, D, ch, rfl, hD, tb, fun H2 s2 => ?_⟩
    refine ⟨textOf ch, rfl, by omega, fun Pc H3 s3 n3 e3 => ?_⟩
    obtain ⟨ps, hps⟩ : ∃ ps, ps = cutT (textOf ch) := ⟨_, rfl⟩
    have kk : ∀ H', ChgO F N H H' o (S.write ch) → Q (.int (((ps.map V.str).length : Nat) : Int)) H' := fun H' q => by
      rw [List.length_map, hps]
      exact k H' q
    rw [← hps] at e3
    have s03 := s2.trans s3
    have nPc : ¬ F Pc := fun z => by
      obtain ⟨u, e⟩ := al0 Pc z
      rw [s2 _ _ e] at n3
      cases n3
    have eD3 := s03 _ _ hD
    clear s2 s3 n3
    have pl : ps.length ≤ 71000 := by
      have := nCut_le (textOf ch)
      rw [hps, cutT_len]
      omega
    have lps : (ps.map V.str).length = ps.length := List.length_map ..
    obtain ⟨S1, hS1⟩ : ∃ S1, S1 = if S.cnt > 0 ∧ ps ≠ [] ∧ S.cnt + ps.length > S.most then S.check true else S := ⟨_, rfl⟩
    have ol := ok.ops
    have og := ok.gen
    have oc := ok.cnt
    have op_ := ok.pcs
    have tv := text_len ok.tab
    obtain ⟨b1, b2, b3, b4, b5⟩ : S1.kv = S.kv ∧ S1.op.length ≤ 500000 ∧ (0 ≤ S1.gen ∧ S1.gen ≤ 500001) ∧ (0 ≤ S1.cnt ∧ S1.cnt ≤ 100000) ∧ (0 ≤ S1.pcs ∧ S1.pcs ≤ 100000) := by
      rw [hS1]
      split
      · obtain ⟨a1, a2, a3, a4, a5, _⟩ := check_same S
        have cl := nCut_le (textOf S.kv)
        rw [cutT_len] at a5
        exact ⟨a1, by rw [a2]; exact Nat.zero_le _, by omega, by omega, by omega⟩
      · exact ⟨rfl, ol, by omega, oc, op_⟩
    have O3 : OwnAt F N H3 o S := by
      obtain ⟨sh, hd, C0, C1, op, ts, h⟩ := hO
      exact ⟨sh, hd, C0, C1, op, ts, h.same s03⟩
    have al3 : ∀ b, F b → ∃ u, H3 b = some u := fun b z => by
      obtain ⟨u, e⟩ := al0 b z
      exact ⟨u, s03 _ _ e⟩
    refine ⟨fun σ H' => σ = [some (.ref o), some (.ref D), some (.ref Pc), none, none, none, none, none] ∧ ChgO F N H3 H' o S1, ?_, ?_⟩
    · have no : ¬ (S.cnt > 0 ∧ ps ≠ [] ∧ S.cnt + ps.length > S.most) → ChgO F N H3 H3 o S1 := fun z => by
        rw [hS1, if_neg z]
        exact ⟨N, KpF.refl _ _, O3, fun b z => .inl z⟩
      obtain ⟨sh, hd, C0, C1, op, ts, h3⟩ := id O3
      refine ⟨_, rfl, o, .int S.cnt, rfl, .inl ⟨_, kS "count", .inl h3.eo, rfl, rfl⟩, _, _, rfl, rfl, _, rfl, ite_d (fun c1 => ?_) (fun c1 => iteF ⟨rfl, no fun z => c1 z.1⟩)⟩
      refine ⟨_, rfl, !(ps.map V.str).isEmpty, .inl ⟨_, SqL.of e3, rfl⟩, ?_⟩
      by_cases ep : ps = []
      · rw [ep]
        exact iteF (iteF ⟨rfl, no fun z => z.2.1 ep⟩)
      · have et : (!(ps.map V.str).isEmpty) = true := by
          cases ps with
          | nil => exact absurd rfl ep
          | cons _ _ => rfl
        rw [et]
        refine iteT ⟨_, rfl, o, .int S.cnt, rfl, .inl ⟨_, kS "count", .inl h3.eo, rfl, rfl⟩, _, rfl, Pc, _, rfl, .inl (SqL.of e3), _, _, rfl, rfl, _, rfl, o, .int S.most, rfl, .inl ⟨_, kS "most", .inl h3.eo, rfl, rfl⟩, _, _, rfl, rfl, _, rfl, ite_d (fun c2 => ?_) (fun c2 => ⟨rfl, no fun z => c2 (by rw [lps]; exact z.2.2)⟩)⟩
        rw [lps] at c2
        refine ⟨_, rfl, o, F, N, S, true, rfl, O3, ok, full, fun H4 c4 => ⟨rfl, ?_⟩⟩
        rw [hS1, if_pos ⟨c1, ep, c2⟩]
        exact c4
    rintro σ H4 ⟨rfl, c4⟩
    have z0 : (Str.empty : Str).length = 0 := rfl
    have z1 : ("row" : Str).length = 3 := by decide +kernel
    have z2 : (" " : Str).length = 1 := by decide +kernel
    have lg := int_len (i := S1.gen) (by omega) (by omega)
    have wide : ∀ {H' : Hp} {S' : DS}, ChgO F N H3 H' o S' → ∃ (Ni : Addr → Prop) (sh hd C0 C1 op : Addr) (ts : List Addr), OwnX F Ni H' o S' sh hd C0 C1 op ts ∧ H' Pc = some (.lst (ps.map V.str)) ∧ H' D = some (.dK ch) ∧ KpF F H3 H' ∧ ∀ b, Ni b → N b ∨ H3 b = none := fun {H' S'} c => by
      obtain ⟨Ni, ki, ⟨sh, hd, C0, C1, op, ts, hi⟩, fi⟩ := c
      exact ⟨Ni, sh, hd, C0, C1, op, ts, hi, ki _ _ nPc e3, ki _ _ nD eD3, ki, fi⟩
    obtain ⟨_, _, _, _, _, _, _, _, e4, _⟩ := wide c4
    refine ⟨_, rfl, Pc, _, rfl, .inl (SqL.of e4), _, rfl, by omega, by omega, ?_⟩
    rw [lps]
    refine for_range (lo := 0) (n := ps.length) (fun i σ H' => ∃ v3 v4 v5 : Option V, σ = [some (.ref o), some (.ref D), some (.ref Pc), v3, v4, v5, none, none] ∧ ChgO F N H3 H' o { S1 with op := S1.op ++ rows S1.side S1.gen S1.pcs S1.cnt ps i })
      ⟨none, none, none, rfl, by
        rw [show S1.op ++ rows S1.side S1.gen S1.pcs S1.cnt ps 0 = S1.op from List.append_nil _]
        exact c4⟩ ?_ ?_
    · rintro i σ H5 hi ⟨v3, v4, v5, rfl, c5⟩
      obtain ⟨Ni, sh, hd, C0, C1, op, ts, h5, p5, _, k5, f5⟩ := wide c5
      rw [show (0 : Int) + (i : Int) = i by omega]
      have tm : ps[i].length ≤ 71000 := by
        have := cutT_mem (z := textOf ch) (t := ps[i]) (by rw [← hps]; exact List.getElem_mem hi)
        omega
      have lk := int_len (i := S1.cnt + (i : Int) + 1) (by omega) (by omega)
      have lf := int_len (i := (ps.length : Int) - i - 1) (by omega) (by omega)
      refine ⟨_, rfl, o, .int S1.cnt, rfl, .inl ⟨_, kS "count", .inl h5.eo, rfl, rfl⟩, _, rfl, _, _, rfl, rfl, _, _, rfl, rfl, ?_⟩
      refine ⟨⟨" ", rfl⟩, _, rfl, o, .int S1.gen, rfl, .inl ⟨_, kS "gen", .inl h5.eo, rfl, rfl⟩, S1.gen, rfl, log_small (by omega) (by omega), _, rfl, S1.cnt + (i : Int) + 1, rfl, log_small (by omega) (by omega), _, rfl, Pc, _, rfl, .inl (SqL.of p5), _, rfl, _, _, rfl, rfl, _, _, rfl, rfl, ?_⟩
      rw [lps]
      refine ⟨(ps.length : Int) - i - 1, rfl, log_small (by omega) (by omega), _, rfl, _, rfl, _, _, _, _, rfl, rfl, SqL.of p5, atI_nat (j := i) (v := V.str ps[i]) (by rw [List.getElem?_map, List.getElem?_eq_getElem hi]; rfl), (by show 5 ≤ sizeLine; decide), fun Lj hLj => ?_⟩
      refine ⟨" ", Lj, ["row", Str.ofString (toString S1.gen), Str.ofString (toString (S1.cnt + (i : Int) + 1)), Str.ofString (toString ((ps.length : Int) - i - 1)), ps[i]], rfl, rfl, .inl (SqL.of upd_same), ?_, ?_⟩
      · simp only [List.map_cons, List.map_nil, List.sum_cons, List.sum_nil, List.length_cons, List.length_nil]
        omega
      rw [row_eq]
      generalize hH6 : upd H5 Lj _ = H6
      have s56 : Same H5 H6 := by rw [← hH6]; exact same_new hLj
      clear hH6
      have h6 := h5.same s56
      refine ⟨_, rfl, o, .ref op, rfl, .inl ⟨_, kS "open", .inl h6.eo, rfl, rfl⟩, _, rfl, o, .int S1.side, rfl, .inl ⟨_, kS "side", .inl h6.eo, rfl, rfl⟩, _, rfl, o, .int S1.pcs, rfl, .inl ⟨_, kS "pieces", .inl h6.eo, rfl, rfl⟩, _, rfl, _, _, rfl, rfl, _, rfl, (by show 3 ≤ sizeLine; decide), fun T hT => ⟨(by show 1 ≤ sizeLine; decide), ?_⟩⟩
      generalize hH7 : upd H6 T _ = H7
      have eH7 : H7 = upd H6 T (.tup [.int S1.side, .int (S1.pcs + (S1.cnt + (i : Int) + 1)), .str (rowT S1.gen (S1.cnt + (i : Int) + 1) ((ps.length : Int) - i - 1) ps[i])]) := by
        rw [← hH7]
      clear hH7
      have eT : H7 T = some (.tup [.int S1.side, .int (S1.pcs + (S1.cnt + (i : Int) + 1)), .str (rowT S1.gen (S1.cnt + (i : Int) + 1) ((ps.length : Int) - i - 1) ps[i])]) := by rw [eH7]; exact upd_same
      have s57 : Same H5 H7 := by rw [eH7]; exact s56.trans (same_new hT)
      have nT : H5 T = none := s56.free hT
      clear eH7
      intro L2 hL2
      have st8 := same_new (o := .lst [.ref T]) hL2
      have s58 := s57.trans st8
      have eT8 := st8 _ _ eT
      have eL2 : upd H7 L2 (.lst [.ref T]) L2 = some (.lst [.ref T]) := upd_same
      generalize upd H7 L2 (.lst [.ref T]) = H8 at s58 eT8 eL2 ⊢
      have h8 := h5.same s58
      have tsl : ts.length = S1.op.length + i := by
        have := h5.ops.len
        rw [this]
        show (S1.op ++ rows S1.side S1.gen S1.pcs S1.cnt ps i).length = _
        rw [List.length_append, rows_len]
      refine ⟨op, L2, _, _, rfl, rfl, h8.ep, eL2, by rw [List.length_map]; exact Nat.le_trans (show _ ≤ 1000000 by show ts.length + 1 ≤ 1000000; omega) (by decide), fun L3 hL3 => ?_⟩
      have oL : o ≠ L3 := ne_of_none h8.eo hL3
      refine ⟨_, rfl, o, _, rfl, DPut.k (k := kS "open") ((upd_ne oL).trans h8.eo) (by show 10 < sizeLine; decide), _, _, _, rfl, ?_⟩
      have rs := rows_succ (sd := S1.side) (g := S1.gen) (pc := S1.pcs) (n0 := S1.cnt) (l := S1.op) hi
      have soft_ : ({ S1 with op := S1.op ++ rows S1.side S1.gen S1.pcs S1.cnt ps (i + 1) } : DS).soft = ({ S1 with op := S1.op ++ rows S1.side S1.gen S1.pcs S1.cnt ps i } : DS).soft := by
        show (S1.op ++ rows S1.side S1.gen S1.pcs S1.cnt ps (i + 1)).any (fun q => decide (q.1 = S1.side) && decide (q.2.1 = 0)) = (S1.op ++ rows S1.side S1.gen S1.pcs S1.cnt ps i).any (fun q => decide (q.1 = S1.side) && decide (q.2.1 = 0))
        rw [← rs, List.any_append]
        have z : ¬ (S1.pcs + (S1.cnt + (i : Int) + 1) = 0) := by omega
        simp [z]
      have hw := h8.wide (Z := fun b => H5 b = none ∧ ∃ u, H8 b = some u) (fun b z => z.2) fun b hb z => by
        obtain ⟨u, e⟩ := h5.al b (.inl hb)
        rw [z.1] at e
        cases e
      have fx := hw.fin (S' := { S1 with op := S1.op ++ rows S1.side S1.gen S1.pcs S1.cnt ps (i + 1) }) (L := L3) (ns := ts ++ [T]) (os := ts.map V.ref ++ [.ref T]) (KpF.refl _ H8) h8.e0 h8.e1 hL3 rfl (by rw [List.map_append]; rfl) (by
        show Ops _ H8 (ts ++ [T]) (S1.op ++ rows S1.side S1.gen S1.pcs S1.cnt ps (i + 1))
        rw [← rs]
        exact Paired.snoc hw.ops ⟨.inr ⟨nT, _, eT8⟩, eT8⟩)
      rw [soft_] at fx
      refine ChgO.then k5 al3 f5 ⟨_, ((KpF.same s58).new hL3).upd h5.fo, ⟨sh, hd, C0, C1, L3, _, fx⟩, fun b z => ?_⟩
      rcases z with (z | z) | z
      · exact .inl z
      · exact .inr z.1
      · exact .inr (z ▸ s58.free hL3)
    · rintro σ H5 ⟨v3, v4, v5, rfl, c5⟩
      obtain ⟨Ni, sh, hd, C0, C1, op, ts, h5, p5, d5, k5, f5⟩ := wide c5
      have oP : Pc ≠ o := fun z => by rw [z, h5.eo] at p5; cases p5
      have Do : D ≠ o := fun z => nD (by rw [z]; exact h5.fo)
      have Ds : D ≠ sh := fun z => nD (by rw [z]; exact h5.fs)
      refine ⟨_, rfl, o, .int S1.cnt, rfl, .inl ⟨_, kS "count", .inl h5.eo, rfl, rfl⟩, _, rfl, Pc, _, rfl, .inl (SqL.of p5), _, _, rfl, rfl, _, rfl, o, _, rfl, DPut.k (k := kS "count") h5.eo (by show 10 < sizeLine; decide), ?_⟩
      rw [lps]
      obtain ⟨S6, hS6⟩ : ∃ S6, S6 = { S1 with op := S1.op ++ rows S1.side S1.gen S1.pcs S1.cnt ps ps.length, cnt := S1.cnt + ps.length } := ⟨_, rfl⟩
      generalize hH6 : upd H5 o _ = H6
      have eH6 : H6 = upd H5 o (.dK (oF S6 S6.soft sh hd op)) := by
        rw [← hH6, hS6]
        rfl
      clear hH6
      have k6 : KpF (· = o) H5 H6 := by rw [eH6]; exact (KpF.refl _ _).upd rfl
      have h6 : OwnX F Ni H6 o S6 sh hd C0 C1 op ts := h5.head k6 (by rw [eH6]; exact upd_same) (by rw [hS6]) (by rw [hS6]) (by rw [hS6]) (by rw [hS6])
      have p6 := k6 _ _ oP p5
      have d6 := k6 _ _ Do d5
      clear eH6
      refine ⟨_, rfl, o, .ref sh, rfl, .inl ⟨_, kS "shelf", .inl h6.eo, rfl, rfl⟩, ?_⟩
      refine ⟨D, _, d6, (by exact True.intro), fun od => ?_⟩
      have fS : upd H6 D (.frz od (.dK ch)) sh = some (.dK S6.kv) := by rw [upd_ne (Ne.symm Ds)]; exact h6.es
      have fD : upd H6 D (.frz od (.dK ch)) D = some (.frz od (.dK ch)) := upd_same
      have fo : ∀ b u, b ≠ D → H6 b = some u → upd H6 D (.frz od (.dK ch)) b = some u := fun b u n e => by rw [upd_ne n]; exact e
      generalize upd H6 D (.frz od (.dK ch)) = H7 at fS fD fo ⊢
      have fw := ok.tab.few
      have fc := tb.few
      have k1 : S6.kv = S.kv := by rw [hS6]; exact b1
      refine ⟨_, rfl, D, od, rfl, .inl ⟨ch, fD, for_it (walk_keys (d := D) (o := od) (kvs := ch)) (fun i σ H' => ∃ v7 : Option V, σ = [some (.ref o), some (.ref D), some (.ref Pc), v3, v4, v5, some (.ref sh), v7] ∧ KpF (· = sh) H7 H' ∧ H' sh = some (.dK (applyK S6.kv (ch.take i)))) ⟨none, rfl, KpF.refl _ _, fS⟩ (fun i σ H' _ ⟨_, _, k8, _⟩ => k8 _ _ Ds fD) ?_ ?_⟩⟩
      · rintro i x σ H8 H9 hi ⟨v7, rfl, k8, e8⟩ ⟨rfl, kk, v, hk, rfl⟩
        obtain ⟨il, ek⟩ := List.getElem?_eq_some_iff.mp hk
        have gv := valV_nd tb.nd hi
        rw [ek] at gv
        have sc := applyK_succ (kv := S6.kv) hk
        have ln := applyK_le (ch.take i) S6.kv
        rw [List.length_take, k1] at ln
        have gD : DGet H9 D (kV kk) (some v) := .inl ⟨ch, kk, .inr ⟨od, k8 _ _ Ds fD⟩, rfl, gv.symm⟩
        refine ⟨_, rfl, _, rfl, D, v, rfl, gD, rfl, _, rfl, ite_d (fun hn => ?_) (fun hn => ?_)⟩
        · refine ⟨_, rfl, sh, rfl, .inl ⟨_, .inl e8⟩, _, rfl, _, kk, e8, rfl, fun v' hv => ?_, fun hv => ?_⟩
          · refine ⟨_, rfl, k8.upd rfl, ?_⟩
            rw [upd_same, sc]
            unfold stepK
            rw [if_pos hn]
          · refine ⟨_, rfl, k8, ?_⟩
            rw [e8, sc]
            unfold stepK
            rw [if_pos hn, dropK_none hv]
        · refine ⟨_, rfl, _, rfl, D, v, rfl, gD, _, rfl, _, rfl, sh, _, rfl, DPut.k e8 (Nat.lt_of_le_of_lt (show _ ≤ 2000 by rw [k1]; omega) (by decide)), _, rfl, k8.upd rfl, ?_⟩
          rw [upd_same, sc]
          unfold stepK
          rw [if_neg hn]
      · rintro σ H8 ⟨v7, rfl, k8, e8⟩
        rw [List.take_length] at e8
        have PD : Pc ≠ D := fun z => by rw [z, d6] at p6; cases p6
        have Ps : Pc ≠ sh := fun z => by rw [z, h6.es] at p6; cases p6
        have k9 : KpF (· = sh) H6 (upd H8 D (.dK ch)) := fun b u n e => by
          by_cases c : b = D
          · rw [c, d6] at e
            rw [c, upd_same]
            exact e
          · rw [upd_ne c]
            exact k8 _ _ n (fo _ _ c e)
        have h9 := h6.shelf k9 (kv := applyK S6.kv ch) (by rw [upd_ne (Ne.symm Ds)]; exact e8)
        refine ⟨k8 _ _ Ds fD, _, rfl, Pc, _, rfl, .inl (SqL.of (k9 _ _ Ps p6)), kk _ ?_⟩
        rw [write_eq S tb hps hS1]
        have eS : ({ S6 with kv := applyK S6.kv ch } : DS) = { S1 with op := S1.op ++ rows S1.side S1.gen S1.pcs S1.cnt ps ps.length, cnt := S1.cnt + ps.length, kv := applyK S1.kv ch } := by rw [hS6]
        rw [eS] at h9
        refine ChgO.then (KpF.same s03) al0 (fun b z => .inl z) (ChgO.then k5 al3 f5 ⟨Ni, fun b u n e => ?_, ⟨sh, hd, C0, C1, op, ts, h9⟩, fun b z => .inl z⟩)
        exact k9 _ _ (fun z => n (by rw [z]; exact h6.fs)) (k6 _ _ (fun z => n (by rw [z]; exact h6.fo)) e)
end k15
namespace k15
open PySem L2 LC RM SM TL
def spkey (K : PySem.W.Frag) : Sp := fun vs H Q _ => ∃ (g l : Addr), vs = [.ref g] ∧ Bag l H g ∧ ∀ (z : Str) H', z ∈ K9 → Ok g l H H' → Q (.str z) H'
theorem ok_key {P : Program} {w : World} {K : PySem.W.Frag} {mg : Str → Option Value} {base : Heap} {f : Addr} {fd : FuncData} (D : Def K mg "_law_key" skey Pkey f fd) (T : Txt K mg) {fof : Addr} {fdof : FuncData} (Dof : Def K mg "_law_of" sof Pof fof fdof) (Gof : FnOk P w K mg base CX0 2 fof fdof Pof (spof K)) :
    FnOk P w K mg base CX0 3 f fd Pkey (spkey K) := by
  refine D.F.ok sckey (fun vs H Q E h => ?_) (fun cdv A outer s H vs Q E hr h => ?_)
  · obtain ⟨g, l, rfl, bag, k⟩ := h
    rfl
  · obtain ⟨g, l, rfl, bag, k⟩ := h
    have hrof : Room 2 _ := hr.mono (by decide)
    refine ⟨_, (pss_one (ps_ret (pe_call Gof hrof rfl Dof.g Dof.F.kp Dof.b .nil pass0 (pa_cons (pv 0) (pa_cons (pe_lst (pa_cons pe_str (pa_cons pe_str (pa_cons pe_str (pa_cons pe_str (pa_cons pe_str (pa_cons pe_str (pa_cons pe_str (pa_cons pe_str (pa_cons pe_str pa_nil)))))))))) pa_nil))))), ?_⟩
    refine ⟨_, rfl, (by show 9 ≤ sizeLine; decide), fun p hp => of_disp (E := E0) (Ok.refl bag) hp (by show 0 < 9; decide) (by show 9 ≤ 1000000; decide) fun x H1 hx kk r1 => ?_⟩
    have hx : x ∈ K9.map V.str := hx
    obtain ⟨z, hz, rfl⟩ := List.mem_map.mp hx
    exact k z H1 hz r1
end k15
namespace k15
open PySem L2 LC RM SM TL
def spmost (K : PySem.W.Frag) : Sp := fun vs H Q _ => ∃ (g l : Addr), vs = [.ref g] ∧ Bag l H g ∧ ∀ (m : Int) H', 1 ≤ m → m ≤ 64 → Ok g l H H' → Q (.int m) H'
theorem ok_most {P : Program} {w : World} {K : PySem.W.Frag} {mg : Str → Option Value} {base : Heap} {f : Addr} {fd : FuncData} (D : Def K mg "_law_most" smost Pmost f fd) (T : Txt K mg) {fof : Addr} {fdof : FuncData} (Dof : Def K mg "_law_of" sof Pof fof fdof) (Gof : FnOk P w K mg base CX0 2 fof fdof Pof (spof K)) :
    FnOk P w K mg base CX0 3 f fd Pmost (spmost K) := by
  refine D.F.ok scmost (fun vs H Q E h => ?_) (fun cdv A outer s H vs Q E hr h => ?_)
  · obtain ⟨g, l, rfl, bag, k⟩ := h
    rfl
  · obtain ⟨g, l, rfl, bag, k⟩ := h
    have hrof : Room 2 _ := hr.mono (by decide)
    refine ⟨_, (pss_one (ps_ret (pe_call Gof hrof rfl Dof.g Dof.F.kp Dof.b .nil pass0 (pa_cons (pv 0) (pa_cons (pe_lst (pa_cons pe_int (pa_cons pe_int (pa_cons pe_int (pa_cons pe_int (pa_cons pe_int (pa_cons pe_int (pa_cons pe_int (pa_cons pe_int pa_nil))))))))) pa_nil))))), ?_⟩
    refine ⟨_, rfl, (by show 8 ≤ sizeLine; decide), fun p hp => of_disp (E := E0) (Ok.refl bag) hp (by show 0 < 8; decide) (by show 8 ≤ 1000000; decide) fun x H1 hx kk r1 => ?_⟩
    obtain ⟨m, rfl, m0, m1⟩ : ∃ m : Int, x = .int m ∧ 1 ≤ m ∧ m ≤ 64 := by
      simp only [List.mem_cons, List.not_mem_nil, or_false] at hx
      rcases hx with rfl | rfl | rfl | rfl | rfl | rfl | rfl | rfl
      all_goals exact ⟨_, rfl, by decide, by decide⟩
    exact k m H1 m0 m1 r1
end k15
namespace k15
open PySem L2 LC RM SM TL
def sppairs : Sp := fun vs H Q _ => ∃ (D : Addr) (kv : List (Key × V)), vs = [.ref D] ∧ H D = some (.dK kv) ∧ Tab kv ∧ ∀ (A : Addr) (ts : List Addr) H', Same H H' → H A = none → H' A = some (.lst (ts.map V.ref)) → Paired (TupAt H') ts (srtK kv) → Q (.ref A) H'
theorem ok_pairs {P : Program} {w : World} {K : PySem.W.Frag} {mg : Str → Option Value} {base : Heap} {f : Addr} {fd : FuncData} (D : Def K mg "_law_pairs" spairs Ppairs f fd) (T : Txt K mg) :
    FnOk P w K mg base CX0 1 f fd Ppairs (sppairs) := by
  refine D.F.ok scpairs (fun vs H Q E h => ?_) (fun cdv A outer s H vs Q E hr h => ?_)
  · obtain ⟨D, kv, rfl, hD, tb, k⟩ := h
    rfl
  · obtain ⟨D, kv, rfl, hD, tb, k⟩ := h
    refine ⟨_, (pss_one (ps_ret (pe_lc (own := [("_law_key_here", 1)]) (g := gName 1) (tt := tYes) rfl scpairs.nd (pi_list (pe_callB (call_sortedD rfl) (by rfl) T.n_sorted (by decide +kernel) (pa_cons (pv 0) pa_nil))) (blkOk_by (own := [("_law_key_here", 1)]) (N := Nmpairs) (sc := defScope spairs) (by decide +kernel)) (fun _ _ _ _ _ => pg_name (i := 1) scpairs.nd rfl (Or.inl rfl)) (fun _ _ _ _ _ => pts_nil) (fun _ _ _ _ _ => (pe_tup (pa_cons (pv 1) (pa_cons (pe_dget (hu_of hr) (pv 0) (pv 1) (fun _ _ => rfl)) pa_nil))))))), ?_⟩
    have fw := tb.few
    have kl := keysOf_len tb
    refine ⟨_, rfl, D, kv, keysOf kv, rfl, .inl hD, tb.keys, by omega, fun ys p hp hs hn => ?_⟩
    obtain rfl : ys = srt (keysOf kv) := srt_of hp hs
    have s1 := same_new (o := .lst ((srt (keysOf kv)).map V.str)) hn
    have e1 : upd H p (.lst ((srt (keysOf kv)).map V.str)) p = some (.lst ((srt (keysOf kv)).map V.str)) := upd_same
    have sl : (srt (keysOf kv)).length = kv.length := by rw [(srt_perm _).length_eq, kl]
    generalize upd H p (.lst ((srt (keysOf kv)).map V.str)) = H1 at s1 e1 ⊢
    refine ⟨p, rfl, ⟨_, SqL.of e1⟩, fun C hC => ?_⟩
    refine lc_it (walk_list (K := K) (a := p) (xs := (srt (keysOf kv)).map V.str)) (fun i H' => ∃ ts : List Addr, Same H1 H' ∧ H' C = some (.lst (ts.map V.ref)) ∧ Paired (TupAt H') ts ((srtK kv).take i)) ⟨[], same_new hC, upd_same, .nil⟩ (fun i H' _ ⟨_, s, _⟩ => s.seq (SqL.of e1)) ?_ ?_
    · rintro i x H2 H2' hi ⟨ts, s2, c2, pr⟩ ⟨rfl, hx⟩
      rw [List.length_map] at hi
      rw [List.getElem?_map, List.getElem?_eq_getElem hi] at hx
      cases hx
      have zm : (srt (keysOf kv))[i] ∈ keysOf kv := (srt_perm _).mem_iff.mp (List.getElem_mem hi)
      obtain ⟨v, hv, vv⟩ := tb.at_ zm
      have es : (srtK kv)[i]? = some (.inr (srt (keysOf kv))[i], v) := by
        unfold srtK
        rw [List.getElem?_map, List.getElem?_eq_getElem hi, Option.map_some, hv]
        rfl
      have tl := pr.length
      rw [List.length_take] at tl
      refine ⟨rfl, _, rfl, _, rfl, _, rfl, D, v, rfl, .inl ⟨kv, .inr (srt (keysOf kv))[i], .inl (s2 _ _ (s1 _ _ hD)), rfl, hv.symm⟩, (by show 2 ≤ sizeLine; decide), fun T hT => ?_⟩
      have cT : upd H2' T (.tup [.str (srt (keysOf kv))[i], v]) C = some (.lst (ts.map V.ref)) := by rw [upd_ne (ne_of_none c2 hT)]; exact c2
      have TC : T ≠ C := fun z => by rw [z, c2] at hT; cases hT
      refine ⟨_, cT, by rw [List.length_map, tl]; exact Nat.lt_of_le_of_lt (show _ ≤ 64 by omega) (by decide), ts ++ [T], fun b u e => ?_, by rw [upd_same, List.map_append]; rfl, ?_⟩
      · rw [upd_ne (ne_of_none e hC), upd_ne (ne_of_none (s2 _ _ e) hT)]
        exact s2 _ _ e
      · rw [List.take_add_one, es]
        refine Paired.snoc (pr.mono fun t q z => ?_) ?_
        · have z : H2' t = _ := z
          have tC : t ≠ C := fun w => by rw [w, c2] at z; cases z
          show upd (upd H2' T _) C _ t = _
          rw [upd_ne tC, upd_ne (ne_of_none z hT)]
          exact z
        · show upd (upd H2' T _) C _ T = _
          rw [upd_ne TC]
          exact upd_same
    · rintro H2 ⟨ts, s2, c2, pr⟩
      rw [List.length_map, List.take_of_length_le (by unfold srtK; rw [List.length_map]; exact Nat.le_refl _)] at pr
      exact k C ts H2 (s1.trans s2) (s1.free hC) c2 pr
end k15
namespace k15
open PySem L2 LC RM SM TL
def spareas : Sp := fun vs H Q _ => ∃ (o : Addr) (F N : Addr → Prop) (S : DS), vs = [.ref o] ∧ OwnAt F N H o S ∧ KInt S.m0 ∧ KInt S.m1 ∧ ∀ (L B0 B1 : Addr) H', Same H H' → H L = none → H B0 = none → H B1 = none → H' L = some (.lst [.ref B0, .ref B1]) → H' B0 = some (.lst (cells S.m0)) → H' B1 = some (.lst (cells S.m1)) → Q (.ref L) H'
theorem ok_areas {P : Program} {w : World} {K : PySem.W.Frag} {mg : Str → Option Value} {base : Heap} {f : Addr} {fd : FuncData} (D : Def K mg "_law_areas" sareas Pareas f fd) (T : Txt K mg) :
    FnOk P w K mg base CX0 1 f fd Pareas (spareas) := by
  refine D.F.ok scareas (fun vs H Q E h => ?_) (fun cdv A outer s H vs Q E hr h => ?_)
  · obtain ⟨o, F, N, S, rfl, ⟨sh, hd, C0, C1, op, ts, h⟩, k0, k1, k⟩ := h
    rfl
  · obtain ⟨o, F, N, S, rfl, ⟨sh, hd, C0, C1, op, ts, h⟩, k0, k1, k⟩ := h
    refine ⟨_, (pss_cons (ps_set (i := 1) scareas.nd rfl (Or.inl rfl) (pe_lst pa_nil))
        (pss_cons (ps_for PassesOwn.never rfl (pi_list (pe_dget (hu_of hr) (pv 0) pe_str (fun _ _ => rfl))) (pg_name (i := 2) scareas.nd rfl (Or.inr rfl))
          (pss_one (ps_expr (pe_bm PySem.F.plainAttrs_list PySem.F.slot_list_append PySem.F.type_list_append mt_append (pv 1) (pa_cons (pe_lc (own := [("_law_k", 3)]) (g := gName 3) (tt := tYes) rfl scareas.nd (pi_range1 rfl T.n_range (pa_cons (pe_op op_add (pe_callB (cr_max rfl) (by rfl) T.n_max (by decide +kernel) (pa_cons (pe_op op_cat (pe_lst (pa_cons (pe_un un_neg pe_int) pa_nil)) (pe_callTy (call_listD rfl) (by rfl) T.n_list (by decide +kernel) (pa_cons (pv 2) pa_nil))) pa_nil)) pe_int) pa_nil)) (blkOk_by (own := [("_law_k", 3)]) (N := Nmareas) (sc := defScope sareas) (by decide +kernel)) (fun _ _ _ _ _ => pg_name (i := 3) scareas.nd rfl (Or.inl rfl)) (fun _ _ _ _ _ => pts_nil) (fun _ _ _ _ _ => (pe_dget1 (hu_of hr) (pv 2) (pv 3) ⟨rfl, rfl, rfl, rfl⟩))) pa_nil)))))
        (pss_one (ps_ret (pv 1))))), ?_⟩
    refine ⟨Nat.zero_le _, fun L hL => ?_⟩
    have sL := same_new (o := .lst []) hL
    have eL : upd H L (.lst []) L = some (.lst []) := upd_same
    generalize upd H L (.lst []) = H1 at sL eL ⊢
    have h1 := h.same sL
    refine ⟨_, rfl, o, .ref hd, rfl, .inl ⟨_, kS "hard", .inl h1.eo, rfl, rfl⟩, hd, rfl, ⟨_, SqL.of h1.eh⟩, for_list (K := K) (a := hd) (xs := [V.ref C0, V.ref C1]) (fun i σ H' => ∃ v2 v3 : Option V, σ = [some (.ref o), some (.ref L), v2, v3] ∧ Same H H' ∧ ((i = 0 ∧ H' L = some (.lst [])) ∨ (i = 1 ∧ ∃ B0, B0 ≠ L ∧ H B0 = none ∧ H' L = some (.lst [.ref B0]) ∧ H' B0 = some (.lst (cells S.m0))) ∨
      (i = 2 ∧ ∃ B0 B1, H B0 = none ∧ H B1 = none ∧ H' L = some (.lst [.ref B0, .ref B1]) ∧ H' B0 = some (.lst (cells S.m0)) ∧ H' B1 = some (.lst (cells S.m1))))) ⟨none, none, rfl, sL, .inl ⟨rfl, eL⟩⟩ (fun i σ H' _ ⟨_, _, _, s, _⟩ => s.seq (SqL.of h.eh)) ?_ ?_⟩
    · rintro i x σ H2 hi ⟨v2, v3, rfl, s2, cs⟩
      obtain ⟨C, M, rfl, eC, kM⟩ : ∃ (C : Addr) (M : List (Key × V)), x = .ref C ∧ H C = some (.dK M) ∧ KInt M := by
        match i, hi with
        | 0, hi => cases hi; exact ⟨C0, S.m0, rfl, h.e0, k0⟩
        | 1, hi => cases hi; exact ⟨C1, S.m1, rfl, h.e1, k1⟩
      obtain ⟨acc, eA⟩ : ∃ acc, H2 L = some (.lst acc) := by
        rcases cs with ⟨_, e⟩ | ⟨_, _, _, _, e, _⟩ | ⟨_, _, _, _, _, e, _⟩
        · exact ⟨_, e⟩
        · exact ⟨_, e⟩
        · exact ⟨_, e⟩
      have bl : bnd M ≤ 1000001 := bnd_le fun p hp => by
        obtain ⟨n, e, hn⟩ := kM.2 p hp
        have k : kN p = n + 1 := by unfold kN; rw [e]; show (n : Int).toNat + 1 = n + 1; omega
        omega
      have ml := kM.1
      have eC2 := s2 _ _ eC
      refine ⟨_, rfl, .inl ⟨rfl, _, SqL.of eA⟩, _, rfl, (by show 1 ≤ sizeLine; decide), fun P1 hP1 => ?_⟩
      have t1 := same_new (o := .lst [.int (-1)]) hP1
      have e1 : upd H2 P1 (.lst [.int (-1)]) P1 = some (.lst [.int (-1)]) := upd_same
      generalize hH3 : upd H2 P1 _ = H3
      have t1 : Same H2 H3 := by rw [← hH3]; exact same_new hP1
      have e1 : H3 P1 = some (.lst [.int (-1)]) := by rw [← hH3]; exact upd_same
      clear hH3
      refine ⟨_, rfl, C, M, rfl, .inl (t1 _ _ eC2), fun P2 hP2 => ?_⟩
      rw [intsOf_eq kM]
      have t2 := same_new (o := .lst ((intsOf M).map V.int)) hP2
      have e2 : upd H3 P2 (.lst ((intsOf M).map V.int)) P2 = some (.lst ((intsOf M).map V.int)) := upd_same
      have e12 := t2 _ _ e1
      generalize upd H3 P2 (.lst ((intsOf M).map V.int)) = H4 at t2 e2 e12 ⊢
      have il : (intsOf M).length = M.length := by unfold intsOf; rw [List.length_map]
      refine ⟨P1, P2, _, _, rfl, rfl, e12, e2, by rw [List.length_map, il]; exact Nat.le_trans (show _ ≤ 1000001 by show 1 + M.length ≤ 1000001; omega) (by decide), fun P3 hP3 => ?_⟩
      generalize hH5 : upd H4 P3 _ = H5
      have t3 : Same H4 H5 := by rw [← hH5]; exact same_new hP3
      have e3 : H5 P3 = some (.lst ((-1 :: intsOf M).map V.int)) := by rw [← hH5]; exact upd_same
      clear hH5
      have t25 := (t1.trans t2).trans t3
      refine ⟨P3, _, rfl, SqL.of e3, Nat.succ_pos _, fun m hm hy => ?_⟩
      have mb := max_bnd kM hm hy
      refine ⟨_, _, rfl, rfl, _, rfl, by omega, by omega, fun D hD => ?_⟩
      rw [mb]
      have eC5 := t25 _ _ eC2
      have eA5 := t25 _ _ eA
      have cl := cells_len M
      refine lc_it (walk_range (lo := 0) (n := bnd M)) (fun i H' => Same H5 H' ∧ H' D = some (.lst ((cells M).take i))) ⟨same_new hD, upd_same⟩ (fun _ _ _ _ => True.intro) ?_ ?_
      · rintro j x H6 H6' hj ⟨s6, d6⟩ ⟨rfl, rfl⟩
        have ej : (fun i : Nat => V.int ((0 : Int) + (i : Int))) j = V.int (j : Int) := by
          show V.int _ = _
          rw [show (0 : Int) + (j : Int) = j by omega]
        rw [ej]
        have hc : (cells M)[j]? = some (cellV M j) := by
          unfold cells
          rw [List.getElem?_map, List.getElem?_range hj]
          rfl
        refine ⟨rfl, _, rfl, C, rfl, .inl ⟨M, .inl (s6 _ _ eC5)⟩, _, rfl, valV M (.inl (j : Int)), .inl ⟨M, .inl (j : Int), .inl (s6 _ _ eC5), rfl, rfl⟩, _, d6, ?_, fun b u e => ?_, ?_⟩
        · rw [List.length_take]
          exact Nat.lt_of_le_of_lt (show _ ≤ 1000001 by omega) (by decide)
        · rw [upd_ne (ne_of_none e hD)]
          exact s6 _ _ e
        · rw [upd_same, List.take_add_one, hc]
          rfl
      · rintro H6 ⟨s6, d6⟩
        rw [← cl, List.take_length] at d6
        have s26 := t25.trans s6
        have eA6 := s26 _ _ eA
        have DL : D ≠ L := fun z => by rw [z, eA5] at hD; cases hD
        have nD : H D = none := s2.free (t25.free hD)
        have up : ∀ ys : List V, Same H (upd H6 L (.lst ys)) := fun ys b u e => by
          rw [upd_ne (ne_of_none e hL)]
          exact s26 _ _ (s2 _ _ e)
        rcases cs with ⟨rfl, e⟩ | ⟨rfl, B0, BL, n0, e, e0⟩ | ⟨rfl, _⟩
        · cases hi
          have em : M = S.m0 := by
            have q := eC
            rw [h.e0] at q
            cases q
            rfl
          have ea : acc = [] := by
            rw [e] at eA
            cases eA
            rfl
          subst ea
          rw [em] at d6
          refine ⟨L, _, _, rfl, rfl, eA6, (by show 0 < sizeLine; decide), _, _, rfl, up _, .inr (.inl ⟨rfl, D, DL, nD, upd_same, ?_⟩)⟩
          rw [upd_ne DL]
          exact d6
        · cases hi
          have em : M = S.m1 := by
            have q := eC
            rw [h.e1] at q
            cases q
            rfl
          have ea : acc = [.ref B0] := by
            rw [e] at eA
            cases eA
            rfl
          subst ea
          rw [em] at d6
          have e06 := s26 _ _ e0
          refine ⟨L, _, _, rfl, rfl, eA6, (by show 1 < sizeLine; decide), _, _, rfl, up _, .inr (.inr ⟨rfl, B0, D, n0, nD, upd_same, ?_, ?_⟩)⟩
          · rw [upd_ne BL]
            exact e06
          · rw [upd_ne DL]
            exact d6
        · cases hi
    · rintro σ H2 ⟨v2, v3, rfl, s2, cs⟩
      rcases cs with ⟨e, _⟩ | ⟨e, _⟩ | ⟨_, B0, B1, n0, n1, eL, e0, e1⟩
      · cases e
      · cases e
      · exact ⟨_, rfl, k L B0 B1 H2 s2 hL n0 n1 eL e0 e1⟩
end k15
namespace k15
open PySem L2 LC RM SM TL
def spdisk_so (r : Ar) : Sp := fun vs H Q _ => ∃ (d o : Addr) (F G N : Addr → Prop) (S : DS), vs = [.ref d, .ref o] ∧ DiskAt r F H d S ∧ OwnAt G N H o S ∧ S.fal = false ∧ Tab S.kv ∧ KCell S.m0 ∧ KCell S.m1 ∧ S.op.length ≤ 500000 ∧ ∀ H', Same H H' → Q (.bl true) H'
theorem ok_disk_so {P : Program} {w : World} {K : PySem.W.Frag} {mg : Str → Option Value} {base : Heap} {f : Addr} {fd : FuncData} (D : Def K mg "_law_disk_so" sdisk_so Pdisk_so f fd) (T : Txt K mg) {r : Ar} (KR : Kr K mg r) {fdRtable : FuncData} (GDisk_table : FnOk P w K mg base CX0 1 r.ftable fdRtable PDisk_table (spDisk_table r)) (BDisk_table : Binds K fdRtable PDisk_table []) {fdRareas : FuncData} (GDisk_areas : FnOk P w K mg base CX0 1 r.fareas fdRareas PDisk_areas (spDisk_areas r)) (BDisk_areas : Binds K fdRareas PDisk_areas []) {fdRunsynced : FuncData} (GDisk_unsynced : FnOk P w K mg base CX0 1 r.funsynced fdRunsynced PDisk_unsynced (spDisk_unsynced r)) (BDisk_unsynced : Binds K fdRunsynced PDisk_unsynced []) {fdRsyncs : FuncData} (GDisk_syncs : FnOk P w K mg base CX0 1 r.fsyncs fdRsyncs PDisk_syncs (spDisk_syncs r)) (BDisk_syncs : Binds K fdRsyncs PDisk_syncs []) {fdRfallen : FuncData} (GDisk_fallen : FnOk P w K mg base CX0 1 r.ffallen fdRfallen PDisk_fallen (spDisk_fallen r)) (BDisk_fallen : Binds K fdRfallen PDisk_fallen []) {flike : Addr} {fdlike : FuncData} (Dlike : Def K mg "_law_like" slike Plike flike fdlike) (Glike : FnOk P w K mg base CX0 4 flike fdlike Plike (splike 4)) {fpairs : Addr} {fdpairs : FuncData} (Dpairs : Def K mg "_law_pairs" spairs Ppairs fpairs fdpairs) (Gpairs : FnOk P w K mg base CX0 1 fpairs fdpairs Ppairs (sppairs)) {fareas : Addr} {fdareas : FuncData} (Dareas : Def K mg "_law_areas" sareas Pareas fareas fdareas) (Gareas : FnOk P w K mg base CX0 1 fareas fdareas Pareas (spareas)) :
    FnOk P w K mg base CX0 5 f fd Pdisk_so (spdisk_so r) := by
  refine D.F.ok scdisk_so (fun vs H Q E h => ?_) (fun cdv A outer s H vs Q E hr h => ?_)
  · obtain ⟨d, o, F, G, N, S, rfl, hD, hO, hf, tb, k0, k1, lo, k⟩ := h
    rfl
  · obtain ⟨d, o, F, G, N, S, rfl, hD, hO, hf, tb, k0, k1, lo, k⟩ := h
    have hrlike : Room 4 _ := hr.mono (by decide)
    have hrpairs : Room 1 _ := hr.mono (by decide)
    have hrareas : Room 1 _ := hr.mono (by decide)
    have hrDisk_table : Room 1 _ := hr.mono (by decide)
    have hrDisk_areas : Room 1 _ := hr.mono (by decide)
    have hrDisk_unsynced : Room 1 _ := hr.mono (by decide)
    have hrP : Room 2 _ := hr.mono (by decide)
    refine ⟨_, (pss_cons (ps_set (i := 2) scdisk_so.nd rfl (Or.inr rfl) (pe_meth0 (pv 0) KR.cl KR.mtable GDisk_table hrDisk_table BDisk_table .nil pass0))
        (pss_cons (ps_if (PW.pt (pw_or (pt_not (pt_val (pe_callB call_isi (by rfl) T.n_isinstance (by decide +kernel) (pa_cons (pv 2) (pa_cons (pe_ty "dict" (by rfl) T.n_dict (by decide +kernel)) pa_nil))))) (pw_or1 (pt_not (pt_val (pe_call Glike hrlike rfl Dlike.g Dlike.F.kp Dlike.b .nil pass0 (pa_cons (pe_lc (own := [("_law_key_here", 3)]) (g := gName 3) (tt := tYes) rfl scdisk_so.nd (pi_list (pe_callTy (call_listD rfl) (by rfl) T.n_list (by decide +kernel) (pa_cons (pv 2) pa_nil))) (blkOk_by (own := [("_law_key_here", 3)]) (N := Nmdisk_so) (sc := defScope sdisk_so) (by decide +kernel)) (fun _ _ _ _ _ => pg_name (i := 3) scdisk_so.nd rfl (Or.inl rfl)) (fun _ _ _ _ _ => pts_nil) (fun _ _ _ _ _ => (pe_tup (pa_cons (pv 3) (pa_cons (pe_dget (hu_of hr) (pv 2) (pv 3) (fun _ _ => rfl)) pa_nil))))) (pa_cons (pe_call Gpairs hrpairs rfl Dpairs.g Dpairs.F.kp Dpairs.b .nil pass0 (pa_cons (pe_dget (hu_of hr) (pv 1) pe_str (fun _ _ => rfl)) pa_nil)) pa_nil)))))))) (pss_one (ps_ret pe_bl)) pss_nil)
        (pss_cons (ps_if (pt_not (pt_val (pe_call Glike hrlike rfl Dlike.g Dlike.F.kp Dlike.b .nil pass0 (pa_cons (pe_lst (pa_cons (pe_prop (pv 0) KR.cl KR.psyncs GDisk_syncs hrP BDisk_syncs .nil pass0 (by rfl)) (pa_cons (pe_prop (pv 0) KR.cl KR.pfallen GDisk_fallen hrP BDisk_fallen .nil pass0 (by rfl)) pa_nil))) (pa_cons (pe_lst (pa_cons (pe_dget (hu_of hr) (pv 1) pe_str (fun _ _ => rfl)) (pa_cons pe_bl pa_nil))) pa_nil))))) (pss_one (ps_ret pe_bl)) pss_nil)
        (pss_one (ps_ret (pe_and (pe_call Glike hrlike rfl Dlike.g Dlike.F.kp Dlike.b .nil pass0 (pa_cons (pe_meth0 (pv 0) KR.cl KR.mareas GDisk_areas hrDisk_areas BDisk_areas .nil pass0) (pa_cons (pe_call Gareas hrareas rfl Dareas.g Dareas.F.kp Dareas.b .nil pass0 (pa_cons (pv 1) pa_nil)) pa_nil))) (pe_one (pe_call Glike hrlike rfl Dlike.g Dlike.F.kp Dlike.b .nil pass0 (pa_cons (pe_meth0 (pv 0) KR.cl KR.munsynced GDisk_unsynced hrDisk_unsynced BDisk_unsynced .nil pass0) (pa_cons (pe_dget (hu_of hr) (pv 1) pe_str (fun _ _ => rfl)) pa_nil)))))))))), ?_⟩
    obtain ⟨dx, Dt, AA, A0, A1, U, ts, h⟩ := hD
    obtain ⟨sh, hd, C0, C1, op, us, g⟩ := hO
    have ndk : ((srtK S.kv).map (·.1)).Nodup := by
      unfold srtK
      rw [List.map_map]
      exact List.pairwise_map.mpr (tb.ndk.imp fun {a b} z e => z (Sum.inr.inj e))
    have sl : (srtK S.kv).length ≤ 64 := by
      have fw := tb.few
      unfold srtK
      rw [List.length_map, (srt_perm _).length_eq, keysOf_len tb]
      omega
    refine ⟨_, rfl, d, dx, _, rfl, h.hd, rfl, d, F, S, rfl, ⟨dx, Dt, AA, A0, A1, U, ts, h⟩, tb, fun Dn H1 s1 n1 e1 => ?_⟩
    refine ⟨_, rfl, _, _, _, _, _, rfl, .ty _, .base (.dK e1), kit_ty (show kitB "dict" "dict" = some true by decide +kernel), _, rfl, iteF ?_⟩
    refine ⟨_, rfl, Dn, srtK S.kv, rfl, .inl e1, fun P hP => ?_⟩
    have t1 := same_new (o := .lst ((srtK S.kv).map fun kv => kV kv.1)) hP
    have eP : upd H1 P (.lst ((srtK S.kv).map fun kv => kV kv.1)) P = some (.lst ((srtK S.kv).map fun kv => kV kv.1)) := upd_same
    have eD2 := t1 _ _ e1
    generalize upd H1 P (.lst ((srtK S.kv).map fun kv => kV kv.1)) = H2 at t1 eP eD2 ⊢
    have s2 := s1.trans t1
    refine ⟨P, rfl, ⟨_, SqL.of eP⟩, fun C hC => ?_⟩
    refine lc_it (walk_list (K := K) (a := P) (xs := (srtK S.kv).map fun kv => kV kv.1)) (fun i H' => ∃ vs : List Addr, Same H2 H' ∧ H' C = some (.lst (vs.map V.ref)) ∧ Paired (TupAt H') vs ((srtK S.kv).take i)) ⟨[], same_new hC, upd_same, .nil⟩ (fun i H' _ ⟨_, s, _⟩ => s.seq (SqL.of eP)) ?_ ?_
    · rintro i x H3 H3' hi ⟨vs, s3, c3, pr⟩ ⟨rfl, hx⟩
      rw [List.length_map] at hi
      rw [List.getElem?_map, List.getElem?_eq_getElem hi] at hx
      cases hx
      have gv := valV_nd ndk hi
      have tl := pr.length
      rw [List.length_take] at tl
      refine ⟨rfl, _, rfl, _, rfl, _, rfl, Dn, (srtK S.kv)[i].2, rfl, .inl ⟨srtK S.kv, (srtK S.kv)[i].1, .inl (s3 _ _ eD2), rfl, gv.symm⟩, (by show 2 ≤ sizeLine; decide), fun T hT => ?_⟩
      have cT : upd H3' T (.tup [kV (srtK S.kv)[i].1, (srtK S.kv)[i].2]) C = some (.lst (vs.map V.ref)) := by rw [upd_ne (ne_of_none c3 hT)]; exact c3
      have TC : T ≠ C := fun z => by rw [z, c3] at hT; cases hT
      refine ⟨_, cT, by rw [List.length_map, tl]; exact Nat.lt_of_le_of_lt (show _ ≤ 64 by omega) (by decide), vs ++ [T], fun b u e => ?_, by rw [upd_same, List.map_append]; rfl, ?_⟩
      · rw [upd_ne (ne_of_none e hC), upd_ne (ne_of_none (s3 _ _ e) hT)]
        exact s3 _ _ e
      · rw [List.take_add_one, List.getElem?_eq_getElem hi]
        refine Paired.snoc (pr.mono fun t q z => ?_) ?_
        · have z : H3' t = _ := z
          have tC : t ≠ C := fun w => by rw [w, c3] at z; cases z
          show upd (upd H3' T _) C _ t = _
          rw [upd_ne tC, upd_ne (ne_of_none z hT)]
          exact z
        · show upd (upd H3' T _) C _ T = _
          rw [upd_ne TC]
          exact upd_same
    rintro H3 ⟨vs, s3, c3, pr⟩
    rw [List.length_map, List.take_length] at pr
    have s13 := s2.trans s3
    refine ⟨_, rfl, o, .ref sh, rfl, .inl ⟨_, kS "shelf", .inl (s13 _ _ g.eo), rfl, rfl⟩, sh, S.kv, rfl, s13 _ _ g.es, tb, fun A2 ws H5 s5 n5 e5 pr5 => ?_⟩
    have scK : ∀ q ∈ srtK S.kv, (∀ u ∈ [kV q.1, q.2], Sc u) ∧ [kV q.1, q.2].length ≤ 1000000 := fun q hq => by
      unfold srtK at hq
      obtain ⟨z, hz, rfl⟩ := List.mem_map.mp hq
      have zm := (srt_perm _).mem_iff.mp hz
      obtain ⟨v, hv, vv⟩ := tb.at_ zm
      refine ⟨fun u hu => ?_, (by show 2 ≤ 1000000; decide)⟩
      rcases List.mem_cons.mp hu with rfl | hu
      · exact True.intro
      · rw [List.mem_singleton] at hu
        rw [hu, hv]
        rcases vv with rfl | ⟨w, rfl, _⟩
        · exact True.intro
        · exact True.intro
    refine ⟨_, _, 2, rfl, by decide, Lk.many (f := fun q : Key × V => [kV q.1, q.2]) (R := TupAt H5) (R' := TupAt H5) (fun t q z => z) (fun t q z => z) (pr.mono fun t q z => s5 _ _ z) pr5 scK (s5 _ _ c3) e5 (by omega), fun H6 s6 => ⟨_, rfl, iteF ?_⟩⟩
    have s16 := s13.trans (s5.trans s6)
    have D6 : DiskAt r F H6 d S := ⟨dx, Dt, AA, A0, A1, U, ts, h.same s16⟩
    refine ⟨_, rfl, d, dx, _, rfl, s16 _ _ h.hd, d, F, S, rfl, D6, _, rfl, d, dx, _, rfl, s16 _ _ h.hd, d, F, S, rfl, D6, (by show 2 ≤ sizeLine; decide), fun X1 hX1 => ?_⟩
    have t7 := same_new (o := .lst [.int S.syn, .bl S.fal]) hX1
    have eX1 : upd H6 X1 (.lst [.int S.syn, .bl S.fal]) X1 = some (.lst [.int S.syn, .bl S.fal]) := upd_same
    generalize upd H6 X1 (.lst [.int S.syn, .bl S.fal]) = H7 at t7 eX1 ⊢
    rw [hf] at eX1
    have s17 := s16.trans t7
    refine ⟨_, rfl, o, .int S.syn, rfl, .inl ⟨_, kS "syncs", .inl (s17 _ _ g.eo), rfl, rfl⟩, (by show 2 ≤ sizeLine; decide), fun X2 hX2 => ?_⟩
    have t8 := same_new (o := .lst [.int S.syn, .bl false]) hX2
    refine ⟨_, _, 1, rfl, by decide, Lk.flat (t8 _ _ eX1) upd_same (fun u hu => ?_) (by show 2 ≤ 1000000; decide) 0, fun H9 s9 => ⟨_, rfl, iteF ?_⟩⟩
    · simp only [List.mem_cons, List.not_mem_nil, or_false] at hu
      rcases hu with rfl | rfl
      · exact True.intro
      · exact True.intro
    have s19 := (s17.trans t8).trans s9
    have D9 : DiskAt r F H9 d S := ⟨dx, Dt, AA, A0, A1, U, ts, h.same s19⟩
    have b0 := k0.i
    have b1 := k1.i
    have bl : ∀ {M : List (Key × V)}, KInt M → (cells M).length ≤ 1000001 := fun {M} q => by
      rw [cells_len]
      exact bnd_le fun p hp => by
        obtain ⟨n, e, hn⟩ := q.2 p hp
        have k : kN p = n + 1 := by unfold kN; rw [e]; show (n : Int).toNat + 1 = n + 1; omega
        omega
    refine ⟨_, rfl, d, dx, _, rfl, s19 _ _ h.hd, rfl, d, F, S, rfl, D9, fun L B0 B1 H10 s10 nL n0 n1 _ _ _ eL e0 e1 => ?_⟩
    have g10 := g.same (s19.trans s10)
    refine ⟨_, rfl, o, G, N, S, rfl, ⟨sh, hd, C0, C1, op, us, g10⟩, b0, b1, fun L' E0 E1 H11 s11 _ _ _ eL' e0' e1' => ?_⟩
    refine ⟨_, _, 2, rfl, by decide, .inr (.inr ⟨true, L, L', _, _, rfl, rfl, s11 _ _ eL, eL', rfl, (by show 2 ≤ 1000000; decide), fun i u v h1 h2 => ?_⟩), fun H12 s12 => ⟨_, rfl, iteT ?_⟩⟩
    · match i, h1, h2 with
      | 0, h1, h2 => cases h1; cases h2; exact Lk.flat (s11 _ _ e0) e0' (cells_sc k0) (k0.few) 0
      | 1, h1, h2 => cases h1; cases h2; exact Lk.flat (s11 _ _ e1) e1' (cells_sc k1) (k1.few) 0
    have s112 := (s19.trans s10).trans (s11.trans s12)
    have D12 : DiskAt r F H12 d S := ⟨dx, Dt, AA, A0, A1, U, ts, h.same s112⟩
    refine ⟨_, rfl, d, dx, _, rfl, s112 _ _ h.hd, rfl, d, F, S, rfl, D12, fun L3 ts3 H13 s13 n13 e13 op13 => ?_⟩
    have s113 := s112.trans s13
    have g13 := g.same s113
    refine ⟨_, rfl, o, .ref op, rfl, .inl ⟨_, kS "open", .inl g13.eo, rfl, rfl⟩, _, _, 2, rfl, by decide, Lk.many (f := opV) (R := OpAt (fun b => ¬ F b) H13) (R' := OpAt N H13) (fun t q z => z.2) (fun t q z => z.2) (op13.mono' fun t q z => ⟨z.1, s13 _ _ z.2⟩) g13.ops (fun q hq => ⟨fun u hu => ?_, (by show 3 ≤ 1000000; decide)⟩) e13 g13.ep (by omega), fun H14 s14 => k H14 (s113.trans s14)⟩
    unfold opV at hu
    simp only [List.mem_cons, List.not_mem_nil, or_false] at hu
    rcases hu with rfl | rfl | rfl
    all_goals exact True.intro
end k15
namespace k15
open PySem L2 LC RM SM TL
theorem join_mem {s : Nat} {S : List Nat} : ∀ {ps : List (List Nat)}, s ∉ S → (∀ p ∈ ps, s ∉ p) → s ∉ TL.joinL S ps
  | [], _, _, h => by cases h
  | [p], _, hp, h => hp p (List.mem_cons_self ..) h
  | p :: q :: r, hS, hp, h => by
    have h : s ∈ p ++ (S ++ TL.joinL S (q :: r)) := by simpa [TL.joinL] using h
    rcases List.mem_append.mp h with h | h
    · exact hp p (List.mem_cons_self ..) h
    · rcases List.mem_append.mp h with h | h
      · exact hS h
      · exact join_mem hS (fun x hx => hp x (List.mem_cons_of_mem _ hx)) h
theorem fold_mem {s : Nat} {x : Array Nat} (hx : s ∉ x.toList) : ∀ (n : Nat) (acc : Array Nat), s ∉ acc.toList → s ∉ ((List.replicate n x).foldl (· ++ ·) acc).toList
  | 0, acc, h => h
  | n + 1, acc, h => by
    rw [List.replicate_succ, List.foldl_cons]
    refine fold_mem hx n _ fun z => ?_
    rw [Array.toList_append] at z
    rcases List.mem_append.mp z with z | z
    · exact h z
    · exact hx z
theorem mul_free {s : Nat} {z : Str} {n : Int} (h : s ∉ z.cps.toList) : s ∉ (Txt.mul z n).cps.toList := by
  unfold Txt.mul
  split
  · intro q; cases q
  · split
    · exact h
    · exact fold_mem h _ _ (fun q => by cases q)
theorem cut_free {s : Nat} {z : Str} {a b : Option Int} (h : s ∉ z.cps.toList) : s ∉ (cutS z a b).cps.toList := fun q => h (List.mem_of_mem_drop (List.mem_of_mem_take q))
theorem strs2 : ∀ {xs : List V}, (∀ x ∈ xs, ∃ c : Nat, c ≠ 59 ∧ x = V.str ⟨#[c]⟩) → ∃ ys : List Str, xs = ys.map V.str ∧ (∀ y ∈ ys, y.length ≤ 1) ∧ ∀ y ∈ ys, 59 ∉ y.cps.toList
  | [], _ => ⟨[], rfl, (fun y hy => by cases hy), (fun y hy => by cases hy)⟩
  | x :: xs, h => by
    obtain ⟨c, hc, rfl⟩ := h x (List.mem_cons_self ..)
    obtain ⟨ys, rfl, hy, hz⟩ := strs2 (xs := xs) fun y q => h y (List.mem_cons_of_mem _ q)
    refine ⟨⟨#[c]⟩ :: ys, rfl, fun y q => ?_, fun y q => ?_⟩
    · rcases List.mem_cons.mp q with rfl | q
      · exact Nat.le_refl 1
      · exact hy y q
    · rcases List.mem_cons.mp q with rfl | q
      · intro w
        have w : 59 ∈ [c] := w
        exact hc (List.mem_singleton.mp w).symm
      · exact hz y q
theorem joined_free {ys : List Str} (h : ∀ y ∈ ys, 59 ∉ y.cps.toList) : 59 ∉ (Txt.join "" ys).cps.toList := by
  rw [TL.join_eq]
  show 59 ∉ TL.tl (Str.join "" ys)
  rw [TL.tl_join]
  refine join_mem (by decide +kernel) fun p hp => ?_
  obtain ⟨y, hy, rfl⟩ := List.mem_map.mp hp
  exact h y hy
def splong : Sp := fun vs H Q _ => ∃ (g l : Addr) (n : Int), vs = [.ref g, .int n] ∧ Bag l H g ∧ 0 ≤ n ∧ n ≤ 400 ∧ ∀ (z : Str) H', z.length ≤ 1000 → 59 ∉ z.cps.toList → Ok g l H H' → Q (.str z) H'
theorem ok_long {P : Program} {w : World} {K : PySem.W.Frag} {mg : Str → Option Value} {base : Heap} {f : Addr} {fd : FuncData} (D : Def K mg "_law_long" slong Plong f fd) (T : Txt K mg) {fof : Addr} {fdof : FuncData} (Dof : Def K mg "_law_of" sof Pof fof fdof) (Gof : FnOk P w K mg base CX0 2 fof fdof Pof (spof K)) :
    FnOk P w K mg base CX0 3 f fd Plong (splong) := by
  refine D.F.ok sclong (fun vs H Q E h => ?_) (fun cdv A outer s H vs Q E hr h => ?_)
  · obtain ⟨g, l, n, rfl, bag, n0, n1, k⟩ := h
    rfl
  · obtain ⟨g, l, n, rfl, bag, n0, n1, k⟩ := h
    have hrof : Room 2 _ := hr.mono (by decide)
    refine ⟨_, (pss_cons (ps_set (i := 2) sclong.nd rfl (Or.inl rfl) (pe_join pe_str (pe_lc (own := [("_law_k", 3)]) (g := gName 3) (tt := tYes) rfl sclong.nd (pi_range1 rfl T.n_range (pa_cons pe_int pa_nil)) (blkOk_by (own := [("_law_k", 3)]) (N := Nmlong) (sc := defScope slong) (by decide +kernel)) (fun _ _ _ _ _ => pg_name (i := 3) sclong.nd rfl (Or.inl rfl)) (fun _ _ _ _ _ => pts_nil) (fun _ _ _ _ _ => (pe_call Gof hrof rfl Dof.g Dof.F.kp Dof.b .nil pass0 (pa_cons (pv 0) (pa_cons pe_str pa_nil)))))))
        (pss_one (ps_ret (pe_slice sl_str (pe_op LT.op_mulS (pv 2) (pe_op op_add (pe_op op_fdiv (pv 1) pe_int) pe_int)) po_none (po_some (pv 1)))))), ?_⟩
    refine ⟨⟨"", rfl⟩, _, rfl, by decide, by decide, fun D hD => ?_⟩
    refine lc_draws (n := 8) (fun _ x => ∃ c : Nat, c ≠ 59 ∧ x = V.str ⟨#[c]⟩) (Ok.refl bag) hD (by decide) (fun _ => rfl) (fun x H H' t r => t) (fun x H xs ys h t => t) (fun i H3 Q3 _ r q => ?_) ?_
    · refine ⟨_, rfl, g, l, _, _, rfl, r.bag, .str (by decide +kernel) (by decide +kernel), fun x H' hx r' => q x H' ?_ r'⟩
      obtain ⟨d, hd, rfl⟩ := hx
      exact ⟨d, (fun e => by rw [e] at hd; revert hd; decide +kernel), rfl⟩
    intro H3 xs r3 _ h3 hl3 hx3
    obtain ⟨ys, rfl, hys, hfr⟩ := strs2 hx3
    rw [List.length_map] at hl3
    have sy : ((ys.map (·.length)).sum : Nat) ≤ 8 := by
      have := sum_bd (b := 1) (l := ys.map (·.length)) fun y hy => by
        obtain ⟨z, hz, rfl⟩ := List.mem_map.mp hy
        exact hys z hz
      rw [List.length_map, hl3] at this
      omega
    have jl : (Txt.join "" ys).length ≤ 8 := by rw [join_len]; exact sy
    refine ⟨"", D, ys, rfl, rfl, .inl (SqL.of h3), ?_, ?_⟩
    · have e0 : ("" : Str).length = 0 := rfl
      rw [e0]
      omega
    have ml : (Txt.mul (Txt.join "" ys) (n / 8 + 1)).length ≤ 8 * 51 := PyProof.Rows.len_mul_leN jl (by omega)
    have zl := cutS_len (Txt.mul (Txt.join "" ys) (n / 8 + 1)) none (some n)
    exact ⟨_, rfl, _, rfl, _, _, rfl, rfl, ⟨by omega, by omega⟩, _, _, rfl, rfl, _, _, rfl, rfl, mul_ok jl (by omega) (by omega), _, rfl, _, rfl, _, rfl, Nat.le_trans ml (by decide), k _ H3 (by omega) (cut_free (mul_free (joined_free hfr))) r3⟩
end k15
namespace k15
open PySem L2 LC RM SM TL
def spvalue : Sp := fun vs H Q _ => ∃ (g l : Addr) (z : Str), vs = [.ref g, .str z] ∧ Bag l H g ∧ z.length ≤ 9 ∧ ∀ (w : Str) H', w.length ≤ 1000 → 59 ∉ w.cps.toList → Ok g l H H' → Q (.str w) H'
theorem ok_value {P : Program} {w : World} {K : PySem.W.Frag} {mg : Str → Option Value} {base : Heap} {f : Addr} {fd : FuncData} (D : Def K mg "_law_value" svalue Pvalue f fd) (T : Txt K mg) {fdraw : Addr} {fddraw : FuncData} (Ddraw : Def K mg "_law_draw" sdraw Pdraw fdraw fddraw) (Gdraw : FnOk P w K mg base CX0 1 fdraw fddraw Pdraw (spdraw)) {fof : Addr} {fdof : FuncData} (Dof : Def K mg "_law_of" sof Pof fof fdof) (Gof : FnOk P w K mg base CX0 2 fof fdof Pof (spof K)) {flong : Addr} {fdlong : FuncData} (Dlong : Def K mg "_law_long" slong Plong flong fdlong) (Glong : FnOk P w K mg base CX0 3 flong fdlong Plong (splong)) :
    FnOk P w K mg base CX0 4 f fd Pvalue (spvalue) := by
  refine D.F.ok scvalue (fun vs H Q E h => ?_) (fun cdv A outer s H vs Q E hr h => ?_)
  · obtain ⟨g, l, z, rfl, bag, hz, k⟩ := h
    rfl
  · obtain ⟨g, l, z, rfl, bag, hz, k⟩ := h
    have hrdraw : Room 1 _ := hr.mono (by decide)
    have hrof : Room 2 _ := hr.mono (by decide)
    have hrlong : Room 3 _ := hr.mono (by decide)
    refine ⟨_, (pss_cons (ps_set (i := 2) scvalue.nd rfl (Or.inl rfl) (pe_call Gdraw hrdraw rfl Ddraw.g Ddraw.F.kp Ddraw.b .nil pass0 (pa_cons (pv 0) (pa_cons pe_int pa_nil))))
        (pss_cons (ps_if (pt_cmpR op_eq (pv 2) pe_int (nomark _)) (pss_one (ps_ret (pe_call Glong hrlong rfl Dlong.g Dlong.F.kp Dlong.b .nil pass0 (pa_cons (pv 0) (pa_cons (pe_op op_add (pe_op op_sub (pe_op op_sub (pe_op op_mul pe_int (pe_call Gof hrof rfl Dof.g Dof.F.kp Dof.b .nil pass0 (pa_cons (pv 0) (pa_cons (pe_lst (pa_cons pe_int (pa_cons pe_int (pa_cons pe_int pa_nil)))) pa_nil)))) (pe_callB call_len_str (by rfl) T.n_len PySem.boot_len (pa_cons (pv 1) pa_nil))) pe_int) (pe_call Gdraw hrdraw rfl Ddraw.g Ddraw.F.kp Ddraw.b .nil pass0 (pa_cons (pv 0) (pa_cons pe_int pa_nil)))) pa_nil))))) pss_nil)
        (pss_cons (ps_if (pt_cmpR op_eq (pv 2) pe_int (nomark _)) (pss_one (ps_ret (pe_call Glong hrlong rfl Dlong.g Dlong.F.kp Dlong.b .nil pass0 (pa_cons (pv 0) (pa_cons (pe_call Gof hrof rfl Dof.g Dof.F.kp Dof.b .nil pass0 (pa_cons (pv 0) (pa_cons (pe_lst (pa_cons pe_int (pa_cons pe_int (pa_cons pe_int (pa_cons pe_int (pa_cons pe_int pa_nil)))))) pa_nil))) pa_nil))))) pss_nil)
        (pss_one (ps_ret (pe_call Glong hrlong rfl Dlong.g Dlong.F.kp Dlong.b .nil pass0 (pa_cons (pv 0) (pa_cons (pe_call Gof hrof rfl Dof.g Dof.F.kp Dof.b .nil pass0 (pa_cons (pv 0) (pa_cons (pe_lst (pa_cons pe_int (pa_cons pe_int (pa_cons pe_int (pa_cons pe_int (pa_cons pe_int (pa_cons pe_int (pa_cons pe_int pa_nil)))))))) pa_nil))) pa_nil)))))))), ?_⟩
    have zs : z.length ≤ sizeLine := Nat.le_trans hz (by decide)
    refine ⟨_, rfl, g, l, 6, rfl, bag, by decide, by decide, fun d H1 d0 d1 r1 => ?_⟩
    refine ⟨_, rfl, rfl, _, rfl, ite_eq (fun _ => ?_) (fun _ => ?_)⟩
    · refine ⟨_, rfl, _, rfl, (by show 3 ≤ sizeLine; decide), fun p hp => of_disp (E := E0) r1 hp (by show 0 < 3; decide) (by show 3 ≤ 1000000; decide) fun x H2 hx kk r2 => ?_⟩
      obtain ⟨m, rfl, m0, m1⟩ : ∃ m : Int, x = .int m ∧ 1 ≤ m ∧ m ≤ 3 := by
        simp only [List.mem_cons, List.not_mem_nil, or_false] at hx
        rcases hx with rfl | rfl | rfl
        all_goals exact ⟨_, rfl, by decide, by decide⟩
      refine ⟨_, _, rfl, rfl, .inr ⟨by omega, by omega⟩, _, rfl, z, rfl, zs, _, _, rfl, rfl, _, _, rfl, rfl, _, rfl, g, l, 3, rfl, r2.bag, by decide, by decide, fun e H3 e0 e1 r3 => ⟨_, _, rfl, rfl, ?_⟩⟩
      exact ⟨g, l, _, rfl, r3.bag, by omega, by omega, fun w H4 lw fw r4 => k w H4 lw fw ((r2.trans r3).trans r4)⟩
    refine ⟨_, rfl, rfl, _, rfl, ite_eq (fun _ => ?_) (fun _ => ?_)⟩
    · refine ⟨_, rfl, _, rfl, (by show 5 ≤ sizeLine; decide), fun p hp => of_disp (E := E0) r1 hp (by show 0 < 5; decide) (by show 5 ≤ 1000000; decide) fun x H2 hx kk r2 => ?_⟩
      obtain ⟨m, rfl, m0, m1⟩ : ∃ m : Int, x = .int m ∧ 0 ≤ m ∧ m ≤ 400 := by
        simp only [List.mem_cons, List.not_mem_nil, or_false] at hx
        rcases hx with rfl | rfl | rfl | rfl | rfl
        all_goals exact ⟨_, rfl, by decide, by decide⟩
      exact ⟨g, l, m, rfl, r2.bag, m0, m1, fun w H4 lw fw r4 => k w H4 lw fw (r2.trans r4)⟩
    refine ⟨_, rfl, _, rfl, (by show 7 ≤ sizeLine; decide), fun p hp => of_disp (E := E0) r1 hp (by show 0 < 7; decide) (by show 7 ≤ 1000000; decide) fun x H2 hx kk r2 => ?_⟩
    obtain ⟨m, rfl, m0, m1⟩ : ∃ m : Int, x = .int m ∧ 0 ≤ m ∧ m ≤ 400 := by
      simp only [List.mem_cons, List.not_mem_nil, or_false] at hx
      rcases hx with rfl | rfl | rfl | rfl | rfl | rfl | rfl
      all_goals exact ⟨_, rfl, by decide, by decide⟩
    exact ⟨g, l, m, rfl, r2.bag, m0, m1, fun w H4 lw fw r4 => k w H4 lw fw (r2.trans r4)⟩
end k15
namespace k15
open PySem L2 LC RM SM TL
def spchanges : Sp := fun vs H Q _ => ∃ (g l D : Addr) (kv : List (Key × V)), vs = [.ref g, .ref D] ∧ Bag l H g ∧ D ≠ g ∧ H D = some (.dK kv) ∧ T9 kv ∧ ∀ (C : Addr) (ch : List (Key × V)) H', Ok g l H H' → H C = none → H' C = some (.dK ch) → T9 ch → Q (.ref C) H'
theorem ok_changes {P : Program} {w : World} {K : PySem.W.Frag} {mg : Str → Option Value} {base : Heap} {f : Addr} {fd : FuncData} (D : Def K mg "_law_changes" schanges Pchanges f fd) (T : Txt K mg) {fdraw : Addr} {fddraw : FuncData} (Ddraw : Def K mg "_law_draw" sdraw Pdraw fdraw fddraw) (Gdraw : FnOk P w K mg base CX0 1 fdraw fddraw Pdraw (spdraw)) {fof : Addr} {fdof : FuncData} (Dof : Def K mg "_law_of" sof Pof fof fdof) (Gof : FnOk P w K mg base CX0 2 fof fdof Pof (spof K)) {fkey : Addr} {fdkey : FuncData} (Dkey : Def K mg "_law_key" skey Pkey fkey fdkey) (Gkey : FnOk P w K mg base CX0 3 fkey fdkey Pkey (spkey K)) {fvalue : Addr} {fdvalue : FuncData} (Dvalue : Def K mg "_law_value" svalue Pvalue fvalue fdvalue) (Gvalue : FnOk P w K mg base CX0 4 fvalue fdvalue Pvalue (spvalue)) :
    FnOk P w K mg base CX0 5 f fd Pchanges (spchanges) := by
  refine D.F.ok scchanges (fun vs H Q E h => ?_) (fun cdv A outer s H vs Q E hr h => ?_)
  · obtain ⟨g, l, D, kv, rfl, bag, nD, hD, t9, k⟩ := h
    rfl
  · obtain ⟨g, l, D, kv, rfl, bag, nD, hD, t9, k⟩ := h
    have hrdraw : Room 1 _ := hr.mono (by decide)
    have hrof : Room 2 _ := hr.mono (by decide)
    have hrkey : Room 3 _ := hr.mono (by decide)
    have hrvalue : Room 4 _ := hr.mono (by decide)
    refine ⟨_, (pss_cons (ps_set (i := 2) scchanges.nd rfl (Or.inl rfl) pe_dnewK)
        (pss_cons (ps_for PassesOwn.never rfl (pi_range1 rfl T.n_range (pa_cons (pe_call Gof hrof rfl Dof.g Dof.F.kp Dof.b .nil pass0 (pa_cons (pv 0) (pa_cons (pe_lst (pa_cons pe_int (pa_cons pe_int (pa_cons pe_int (pa_cons pe_int (pa_cons pe_int (pa_cons pe_int (pa_cons pe_int pa_nil)))))))) pa_nil))) pa_nil)) (pg_name (i := 3) scchanges.nd rfl (Or.inl rfl))
          (pss_cons (ps_set (i := 4) scchanges.nd rfl (Or.inl rfl) (pe_call Gkey hrkey rfl Dkey.g Dkey.F.kp Dkey.b .nil pass0 (pa_cons (pv 0) pa_nil)))
        (pss_cons (ps_set (i := 5) scchanges.nd rfl (Or.inl rfl) (pe_call Gdraw hrdraw rfl Ddraw.g Ddraw.F.kp Ddraw.b .nil pass0 (pa_cons (pv 0) (pa_cons pe_int pa_nil))))
        (Evl.pss_cut (ps_dput (hu_of hr) (pv 2) (pv 4) (pe_ifExp (pt_cmpR op_lt (pv 5) pe_int (nomark _)) pe_non (pe_call Gvalue hrvalue rfl Dvalue.g Dvalue.F.kp Dvalue.b .nil pass0 (pa_cons (pv 0) (pa_cons (pv 4) pa_nil)))) (by rfl))
        (pss_one (ps_if (PW.pt (pw_and (pt_cmpR op_eq (pv 5) pe_int (nomark _)) (pw_and1 (pt_cmp (pc_din (hu_of hr) (pv 4) (pv 1)))))) (pss_one (ps_dput (hu_of hr) (pv 2) (pv 4) (pe_dget (hu_of hr) (pv 1) (pv 4) (fun _ _ => rfl)) (by rfl))) pss_nil))))))
        (pss_one (ps_ret (pv 2))))), ?_⟩
    refine fun C hC => ?_
    have r0 := (Ok.refl bag).new (o := .dK []) hC
    have CD : C ≠ D := Ne.symm (ne_of_none hD hC)
    have Cg := (bag.ne hC).1
    have C0 : upd H C (.dK []) C = some (.dK []) := upd_same
    generalize upd H C (.dK []) = H0 at r0 C0 ⊢
    refine ⟨_, rfl, (by show 7 ≤ sizeLine; decide), fun p hp => of_disp (E := E0) r0 hp (by show 0 < 7; decide) (by show 7 ≤ 1000000; decide) fun x H1 hx kk r1 => ?_⟩
    obtain ⟨m, rfl, m0⟩ : ∃ m : Nat, x = .int m ∧ m ≤ 3 := by
      simp only [List.mem_cons, List.not_mem_nil, or_false] at hx
      rcases hx with rfl | rfl | rfl | rfl | rfl | rfl | rfl
      all_goals first | exact ⟨1, rfl, by decide⟩ | exact ⟨2, rfl, by decide⟩ | exact ⟨3, rfl, by decide⟩ | exact ⟨0, rfl, by decide⟩
    refine ⟨_, rfl, by omega, by omega, ?_⟩
    have C1 : H1 C = some (.dK []) := kk _ _ Cg C0
    refine for_range (lo := 0) (n := (m : Int).toNat) (fun i σ H' => ∃ (v3 v4 v5 : Option V) (ch : List (Key × V)), σ = [some (.ref g), some (.ref D), some (.ref C), v3, v4, v5] ∧ Ok g l H H' ∧ H' C = some (.dK ch) ∧ T9 ch) ⟨none, none, none, [], rfl, r1, C1, T9.nil⟩ ?_ ?_
    · rintro i σ H2 hi ⟨v3, v4, v5, ch, rfl, r2, C2, t2⟩
      refine ⟨_, rfl, g, l, rfl, r2.bag, fun z H3 hz r3 => ?_⟩
      refine ⟨_, rfl, g, l, 6, rfl, r3.bag, by decide, by decide, fun d H4 d0 d1 r4 => ?_⟩
      have C4 := r4.at_ (r3.at_ C2 Cg) Cg
      have R4 := (r2.trans r3).trans r4
      have D4 := R4.at_ hD nD
      have zl := k9_len z hz
      have put : ∀ {H5 : Hp} {ch : List (Key × V)} {v : V}, Ok g l H H5 → H5 C = some (.dK ch) → T9 ch → Vf v → ∃ ch', Ok g l H (upd H5 C (.dK (putK ch (.inr z) v))) ∧ upd H5 C (.dK (putK ch (.inr z) v)) C = some (.dK ch') ∧ T9 ch' := fun {H5 ch v} R e t hv =>
        ⟨_, R.mut hC, upd_same, t.put hz hv⟩
      have sz : ∀ {ch : List (Key × V)}, T9 ch → ch.length < sizeLine := fun {ch} t => Nat.lt_of_le_of_lt t.len (by decide)
      refine ⟨fun σ H' => ∃ ch', σ = [some (.ref g), some (.ref D), some (.ref C), some (.int (0 + (i : Int))), some (.str z), some (.int d)] ∧ Ok g l H H' ∧ H' C = some (.dK ch') ∧ T9 ch', ?_, ?_⟩
      · refine ⟨_, rfl, _, _, rfl, rfl, _, rfl, ite_d (fun _ => ?_) (fun _ => ?_)⟩
        · refine ⟨_, rfl, _, rfl, C, _, rfl, DPut.k (k := .inr z) C4 (sz t2), ?_⟩
          obtain ⟨ch', a, b, c⟩ := put (v := .non) R4 C4 t2 Vf.non
          exact ⟨ch', rfl, a, b, c⟩
        · refine ⟨_, rfl, _, rfl, g, l, z, rfl, R4.bag, zl, fun w H5 wl wf r5 => ?_⟩
          have R5 := R4.trans r5
          have C5 := r5.at_ C4 Cg
          refine ⟨_, rfl, _, rfl, C, _, rfl, DPut.k (k := .inr z) C5 (sz t2), ?_⟩
          obtain ⟨ch', a, b, c⟩ := put (v := .str w) R5 C5 t2 (Vf.str wl wf)
          exact ⟨ch', rfl, a, b, c⟩
      rintro σ H5 ⟨ch5, rfl, R5, C5, t5⟩
      have D5 := R5.at_ hD nD
      refine ⟨_, rfl, rfl, _, rfl, ite_eq (fun _ => ?_) (fun _ => iteF ⟨_, _, _, ch5, rfl, R5, C5, t5⟩)⟩
      refine ⟨_, rfl, _, rfl, D, _, rfl, DGet.k (k := .inr z) D5, _, rfl, ?_⟩
      cases hv : valV kv (.inr z) with
      | none => exact iteF ⟨_, _, _, ch5, rfl, R5, C5, t5⟩
      | some v =>
        have vv := t9.vf hv
        have gD : DGet H5 D (.str z) (some v) := by rw [← hv]; exact DGet.k (k := .inr z) D5
        refine iteT ⟨_, rfl, _, rfl, D, v, rfl, gD, _, rfl, _, rfl, C, _, rfl, DPut.k (k := .inr z) C5 (sz t5), ?_⟩
        obtain ⟨ch', a, b, c⟩ := put (v := v) R5 C5 t5 vv
        exact ⟨_, _, _, ch', rfl, a, b, c⟩
    · rintro σ H2 ⟨v3, v4, v5, ch, rfl, r2, C2, t2⟩
      exact ⟨_, rfl, k C ch H2 r2 hC C2 t2⟩
end k15
namespace k15
open PySem L2 LC RM SM TL
def spshelf : Sp := fun vs H Q _ => ∃ (g l : Addr), vs = [.ref g] ∧ Bag l H g ∧ ∀ (C : Addr) (ch : List (Key × V)) H', Ok g l H H' → H C = none → H' C = some (.dK ch) → T9 ch → Full ch → Q (.ref C) H'
theorem ok_shelf {P : Program} {w : World} {K : PySem.W.Frag} {mg : Str → Option Value} {base : Heap} {f : Addr} {fd : FuncData} (D : Def K mg "_law_shelf" sshelf Pshelf f fd) (T : Txt K mg) {fof : Addr} {fdof : FuncData} (Dof : Def K mg "_law_of" sof Pof fof fdof) (Gof : FnOk P w K mg base CX0 2 fof fdof Pof (spof K)) {fkey : Addr} {fdkey : FuncData} (Dkey : Def K mg "_law_key" skey Pkey fkey fdkey) (Gkey : FnOk P w K mg base CX0 3 fkey fdkey Pkey (spkey K)) {fvalue : Addr} {fdvalue : FuncData} (Dvalue : Def K mg "_law_value" svalue Pvalue fvalue fdvalue) (Gvalue : FnOk P w K mg base CX0 4 fvalue fdvalue Pvalue (spvalue)) :
    FnOk P w K mg base CX0 5 f fd Pshelf (spshelf) := by
  refine D.F.ok scshelf (fun vs H Q E h => ?_) (fun cdv A outer s H vs Q E hr h => ?_)
  · obtain ⟨g, l, rfl, bag, k⟩ := h
    rfl
  · obtain ⟨g, l, rfl, bag, k⟩ := h
    have hrof : Room 2 _ := hr.mono (by decide)
    have hrkey : Room 3 _ := hr.mono (by decide)
    have hrvalue : Room 4 _ := hr.mono (by decide)
    refine ⟨_, (pss_cons (ps_set (i := 1) scshelf.nd rfl (Or.inl rfl) pe_dnewK)
        (pss_cons (ps_for PassesOwn.never rfl (pi_range1 rfl T.n_range (pa_cons (pe_call Gof hrof rfl Dof.g Dof.F.kp Dof.b .nil pass0 (pa_cons (pv 0) (pa_cons (pe_lst (pa_cons pe_int (pa_cons pe_int (pa_cons pe_int (pa_cons pe_int (pa_cons pe_int pa_nil)))))) pa_nil))) pa_nil)) (pg_name (i := 2) scshelf.nd rfl (Or.inl rfl))
          (pss_cons (ps_set (i := 3) scshelf.nd rfl (Or.inl rfl) (pe_call Gkey hrkey rfl Dkey.g Dkey.F.kp Dkey.b .nil pass0 (pa_cons (pv 0) pa_nil)))
        (pss_one (ps_dput (hu_of hr) (pv 1) (pv 3) (pe_call Gvalue hrvalue rfl Dvalue.g Dvalue.F.kp Dvalue.b .nil pass0 (pa_cons (pv 0) (pa_cons (pv 3) pa_nil))) (by rfl)))))
        (pss_one (ps_ret (pv 1))))), ?_⟩
    refine fun C hC => ?_
    have r0 := (Ok.refl bag).new (o := .dK []) hC
    have Cg := (bag.ne hC).1
    have C0 : upd H C (.dK []) C = some (.dK []) := upd_same
    generalize upd H C (.dK []) = H0 at r0 C0 ⊢
    refine ⟨_, rfl, (by show 5 ≤ sizeLine; decide), fun p hp => of_disp (E := E0) r0 hp (by show 0 < 5; decide) (by show 5 ≤ 1000000; decide) fun x H1 hx kk r1 => ?_⟩
    obtain ⟨m, rfl, m0⟩ : ∃ m : Nat, x = .int m ∧ m ≤ 4 := by
      simp only [List.mem_cons, List.not_mem_nil, or_false] at hx
      rcases hx with rfl | rfl | rfl | rfl | rfl
      all_goals first | exact ⟨1, rfl, by decide⟩ | exact ⟨2, rfl, by decide⟩ | exact ⟨3, rfl, by decide⟩ | exact ⟨0, rfl, by decide⟩ | exact ⟨4, rfl, by decide⟩
    refine ⟨_, rfl, by omega, by omega, ?_⟩
    have C1 : H1 C = some (.dK []) := kk _ _ Cg C0
    refine for_range (lo := 0) (n := (m : Int).toNat) (fun i σ H' => ∃ (v3 v4 : Option V) (ch : List (Key × V)), σ = [some (.ref g), some (.ref C), v3, v4] ∧ Ok g l H H' ∧ H' C = some (.dK ch) ∧ T9 ch ∧ Full ch) ⟨none, none, [], rfl, r1, C1, T9.nil, (fun p hp => by cases hp)⟩ ?_ ?_
    · rintro i σ H2 hi ⟨v3, v4, ch, rfl, r2, C2, t2, f2⟩
      refine ⟨_, rfl, g, l, rfl, r2.bag, fun z H3 hz r3 => ?_⟩
      refine ⟨_, rfl, _, rfl, g, l, z, rfl, r3.bag, k9_len z hz, fun w H4 wl wf r4 => ?_⟩
      have C4 := r4.at_ (r3.at_ C2 Cg) Cg
      have R4 := (r2.trans r3).trans r4
      refine ⟨_, rfl, _, rfl, C, _, rfl, DPut.k (k := .inr z) C4 (Nat.lt_of_le_of_lt t2.len (by decide)), ?_⟩
      exact ⟨_, _, _, rfl, R4.mut hC, upd_same, t2.put hz (Vf.str wl wf), f2.put (fun e => by cases e)⟩
    · rintro σ H2 ⟨v3, v4, ch, rfl, r2, C2, t2, f2⟩
      exact ⟨_, rfl, k C ch H2 r2 hC C2 t2 f2⟩
end k15
namespace k15
open PySem L2 LC RM SM TL
def spDisk_init (r : Ar) (ce : Ce) : Sp := fun vs H Q E => ∃ (x dx D : Addr) (v : V) (kv : List (Key × V)) (G : Addr → Prop) (Hb : Hp), vs = [.ref x, .ref D, v] ∧ H x = some (.ins r.c dx []) ∧ Hb x = none ∧ Same Hb H ∧ H D = some (.dK kv) ∧ Tab kv ∧ Ov G H 2 v ∧
  (isNum v 1 64 = false → ∀ H', Same Hb H' → Out ce H' E ("InvalidNumber", [v])) ∧ ∀ (m : Int) (F : Addr → Prop) H', v = .int m → 1 ≤ m → m ≤ 64 → Same Hb H' → DiskAt r F H' x (newS kv m) → (∀ b, F b → Hb b = none) → Q .non H'
theorem ok_Disk_init {P : Program} {w : World} {K : PySem.W.Frag} {mg : Str → Option Value} {base : Heap} {f : Addr} {fd : FuncData} (F0 : FunD K "__init__" "Disk.__init__" (defArgs sDisk_init) (defBody sDisk_init) (defScope sDisk_init) [] [("rows", V.int 16)] f fd) (T : Txt K mg) {r : Ar} (KR : Kr K mg r) {ce : Ce} {fdInvalidNumber : FuncData} {fInvalidNumber : Addr} (RInvalidNumber : RE P w K mg base "InvalidNumber" "value" (ivF "InvalidNumber") ce.nu fInvalidNumber fdInvalidNumber) {fdRcheck : FuncData} {uT : Value} (ruT : RelV (.bl true) uT) (GDisk_check : FnOk P w K mg base CX0 3 r.fcheck fdRcheck PDisk_check (spDisk_check r)) (BcheckT : Binds K fdRcheck PDisk_check [uT]) {fis_number : Addr} {fdis_number : FuncData} (Dis_number : Def K mg "is_number" sis_number Pis_number fis_number fdis_number) (Gis_number : FnOk P w K mg base CX0 2 fis_number fdis_number Pis_number (spis_number)) :
    FnOk P w K mg base (L2.CX P w) 4 f fd PDisk_init (spDisk_init r ce) := by
  refine FunD.ok (CX := L2.CX P w) F0 scDisk_init (fun vs H Q E h => ?_) (fun cdv A outer s H vs Q E hr h => ?_)
  · obtain ⟨x, dx, D, v, kv, G, Hb, rfl, hx, hb, sb, hD, tb, ov, ke, k⟩ := h
    rfl
  · obtain ⟨x, dx, D, v, kv, G, Hb, rfl, hx, hb, sb, hD, tb, ov, ke, k⟩ := h
    have hris_number : Room 2 _ := hr.mono (by decide)
    obtain ⟨tc_MOST_ROWS, hc_MOST_ROWS⟩ := T.c_MOST_ROWS
    have hrE : Room 2 _ := hr.mono (by decide)
    have hrDisk_check : Room 3 _ := hr
    refine ⟨_, (pss_cons (ps_if (pt_not (pt_val (pe_call Gis_number hris_number rfl Dis_number.g Dis_number.F.kp Dis_number.b .nil pass0 (pa_cons (pv 2) (pa_cons pe_int (pa_cons (pe_gint rfl hc_MOST_ROWS) pa_nil)))))) (pss_one (ps_raise rfl (takes_of rfl rfl rfl rfl) (pmk_oex RInvalidNumber.er.ox RInvalidNumber.er.iC RInvalidNumber.er.tI RInvalidNumber.G hrE RInvalidNumber.b .nil pass0 rfl RInvalidNumber.er.gC (pa_cons (pv 2) pa_nil)))) pss_nil)
        (pss_cons (ps_fld (pv 0) (pv 2) rfl)
        (pss_cons (ps_fld (pv 0) (pe_callTy call_dictD (by rfl) T.n_dict (by decide +kernel) (pa_cons (pv 1) pa_nil)) rfl)
        (pss_cons (ps_fld (pv 0) (pe_lst (pa_cons (pe_lst pa_nil) (pa_cons (pe_lst pa_nil) pa_nil))) rfl)
        (pss_cons (ps_fld (pv 0) (pe_lst pa_nil) rfl)
        (pss_cons (ps_fld (pv 0) pe_int rfl)
        (pss_cons (ps_fld (pv 0) pe_bl rfl)
        (pss_cons (ps_fld (pv 0) pe_bl rfl)
        (pss_cons (ps_fld (pv 0) pe_bl rfl)
        (pss_cons (ps_fld (pv 0) pe_int rfl)
        (pss_cons (ps_fld (pv 0) pe_int rfl)
        (pss_cons (ps_fld (pv 0) pe_int rfl)
        (pss_cons (ps_fld (pv 0) pe_int rfl)
        (pss_cons (ps_expr (pe_meth0 (pv 0) KR.cl KR.mcheck GDisk_check hrDisk_check BcheckT (.cons ruT .nil) pass0))
        (pss_one (ps_fld (pv 0) pe_int rfl)))))))))))))))), ?_⟩
    refine ⟨_, rfl, G, 2, v, 1, 64, rfl, ov, _, rfl, ite_nb (fun hn => ?_) (fun hn => ?_)⟩
    · exact ⟨_, rfl, (by show 1 ≤ 1000; decide), LX.err_out (n := 1) (ws := [_]) rfl (ke hn H sb).nu⟩
    obtain ⟨m, rfl, h0, h1⟩ := num_int hn
    have Dx : D ≠ x := fun z => by rw [z, hx] at hD; cases hD
    refine ⟨_, rfl, _, rfl, x, r.c, dx, _, rfl, hx, KR.cl, KR.n_most, (by show 0 < 1000; decide), ?_⟩
    have s1 := same_mut (o := .ins r.c dx (putF "_most" (.int m) [])) sb hb
    have x1 : upd H x (.ins r.c dx (putF "_most" (.int m) [])) x = some (.ins r.c dx (putF "_most" (.int m) [])) := upd_same
    have D1 : upd H x (.ins r.c dx (putF "_most" (.int m) [])) D = some (.dK kv) := by rw [upd_ne Dx]; exact hD
    show tSeq _ _ _ _ (upd H x (.ins r.c dx (putF "_most" (.int m) [])))
    generalize upd H x (.ins r.c dx (putF "_most" (.int m) [])) = H1 at s1 x1 D1 ⊢
    refine ⟨_, rfl, D, kv, rfl, .inl D1, fun T hT => ?_⟩
    have nT := s1.free hT
    have xT : x ≠ T := ne_of_none x1 hT
    refine ⟨_, rfl, x, r.c, dx, _, rfl, by rw [upd_ne xT]; exact x1, KR.cl, KR.n_table, (by show 1 < 1000; decide), ?_⟩
    have s2 := same_mut (o := .ins r.c dx (putF "_table" (.ref T) (putF "_most" (.int m) []))) (s1.trans (same_new (o := .dK kv) hT)) hb
    have x2 : upd (upd H1 T (.dK kv)) x (.ins r.c dx (putF "_table" (.ref T) (putF "_most" (.int m) []))) x = some (.ins r.c dx (putF "_table" (.ref T) (putF "_most" (.int m) []))) := upd_same
    have T2 : upd (upd H1 T (.dK kv)) x (.ins r.c dx (putF "_table" (.ref T) (putF "_most" (.int m) []))) T = some (.dK kv) := by rw [upd_ne (Ne.symm xT)]; exact upd_same
    show tSeq _ _ _ _ (upd (upd H1 T (.dK kv)) x (.ins r.c dx (putF "_table" (.ref T) (putF "_most" (.int m) []))))
    generalize upd (upd H1 T (.dK kv)) x (.ins r.c dx (putF "_table" (.ref T) (putF "_most" (.int m) []))) = H2 at s2 x2 T2 ⊢
    refine ⟨(by show 0 ≤ sizeLine; decide), fun A0 hA0 => ⟨(by show 0 ≤ sizeLine; decide), fun A1 hA1 => ⟨(by show 2 ≤ sizeLine; decide), fun AA hAA => ?_⟩⟩⟩
    have nA0 := s2.free hA0
    have t1 := same_new (o := .lst []) hA0
    have t2 := same_new (o := .lst []) hA1
    have t3 := same_new (o := .lst [.ref A0, .ref A1]) hAA
    have nA1 := (s2.trans t1).free hA1
    have nAA := ((s2.trans t1).trans t2).free hAA
    have a0 := t3 _ _ (t2 _ _ (upd_same (H := H2) (a := A0) (o := .lst [])))
    have a1 := t3 _ _ (upd_same (H := upd H2 A0 (.lst [])) (a := A1) (o := .lst []))
    have aa := upd_same (H := upd (upd H2 A0 (.lst [])) A1 (.lst [])) (a := AA) (o := .lst [.ref A0, .ref A1])
    have n01 : A0 ≠ A1 := ne_of_none upd_same hA1
    have na0 : AA ≠ A0 := fun z => by rw [z, t2 _ _ upd_same] at hAA; cases hAA
    have na1 : AA ≠ A1 := fun z => by rw [z, upd_same] at hAA; cases hAA
    have s3 := ((s2.trans t1).trans t2).trans t3
    have x3 := t3 _ _ (t2 _ _ (t1 _ _ x2))
    have T3 := t3 _ _ (t2 _ _ (t1 _ _ T2))
    generalize upd (upd (upd H2 A0 (.lst [])) A1 (.lst [])) AA (.lst [.ref A0, .ref A1]) = H3 at s3 x3 T3 a0 a1 aa ⊢
    clear t1 t2 t3
    refine ⟨_, rfl, x, r.c, dx, _, rfl, x3, KR.cl, KR.n_areas, (by show 2 < 1000; decide), ?_⟩
    have dif : ∀ {b : Addr} {o o' : HO} {H' : Hp}, H' x = some (.ins r.c dx (putF "_table" (.ref T) (putF "_most" (.int m) []))) → H' b = some o → (∀ C dx fs, o ≠ .ins C dx fs) → upd H' x o' b = some o := fun {b o o' H'} ex e n => by
      rw [upd_ne (fun z => by rw [z, ex] at e; cases e; exact n _ _ _ rfl)]
      exact e
    have s4 := same_mut (o := .ins r.c dx (putF "_areas" (.ref AA) (putF "_table" (.ref T) (putF "_most" (.int m) [])))) s3 hb
    have x4 : upd H3 x (.ins r.c dx (putF "_areas" (.ref AA) (putF "_table" (.ref T) (putF "_most" (.int m) [])))) x = some (.ins r.c dx (putF "_areas" (.ref AA) (putF "_table" (.ref T) (putF "_most" (.int m) [])))) := upd_same
    have T4 := dif (o' := .ins r.c dx (putF "_areas" (.ref AA) (putF "_table" (.ref T) (putF "_most" (.int m) [])))) x3 T3 (fun _ _ _ z => by cases z)
    have a04 := dif (o' := .ins r.c dx (putF "_areas" (.ref AA) (putF "_table" (.ref T) (putF "_most" (.int m) [])))) x3 a0 (fun _ _ _ z => by cases z)
    have a14 := dif (o' := .ins r.c dx (putF "_areas" (.ref AA) (putF "_table" (.ref T) (putF "_most" (.int m) [])))) x3 a1 (fun _ _ _ z => by cases z)
    have aa4 := dif (o' := .ins r.c dx (putF "_areas" (.ref AA) (putF "_table" (.ref T) (putF "_most" (.int m) [])))) x3 aa (fun _ _ _ z => by cases z)
    show tSeq _ _ _ _ (upd H3 x (.ins r.c dx (putF "_areas" (.ref AA) (putF "_table" (.ref T) (putF "_most" (.int m) [])))))
    generalize upd H3 x (.ins r.c dx (putF "_areas" (.ref AA) (putF "_table" (.ref T) (putF "_most" (.int m) [])))) = H4 at s4 x4 T4 a04 a14 aa4 ⊢
    refine ⟨(by show 0 ≤ sizeLine; decide), fun U hU => ?_⟩
    have nU := s4.free hU
    have sU := same_new (o := .lst []) hU
    have U4 := upd_same (H := H4) (a := U) (o := .lst [])
    have n0u := ne_of_none a04 hU
    have n1u := ne_of_none a14 hU
    have nau := ne_of_none aa4 hU
    have x4 := sU _ _ x4
    have T4 := sU _ _ T4
    have a04 := sU _ _ a04
    have a14 := sU _ _ a14
    have aa4 := sU _ _ aa4
    have s5 := s4.trans sU
    generalize upd H4 U (.lst []) = H5 at s5 x4 T4 a04 a14 aa4 U4 ⊢
    refine ⟨_, rfl, x, r.c, dx, _, rfl, x4, KR.cl, KR.n_unsynced, (by show 3 < 1000; decide), ?_⟩
    refine ⟨_, rfl, x, r.c, dx, _, rfl, upd_same, KR.cl, KR.n_syncs, (by show 4 < 1000; decide), ?_⟩
    refine ⟨_, rfl, x, r.c, dx, _, rfl, upd_same, KR.cl, KR.n_fallen, (by show 5 < 1000; decide), ?_⟩
    refine ⟨_, rfl, x, r.c, dx, _, rfl, upd_same, KR.cl, KR.n_halts, (by show 6 < 1000; decide), ?_⟩
    refine ⟨_, rfl, x, r.c, dx, _, rfl, upd_same, KR.cl, KR.n_halted, (by show 7 < 1000; decide), ?_⟩
    refine ⟨_, rfl, x, r.c, dx, _, rfl, upd_same, KR.cl, KR.n_area, (by show 8 < 1000; decide), ?_⟩
    refine ⟨_, rfl, x, r.c, dx, _, rfl, upd_same, KR.cl, KR.n_generation, (by show 9 < 1000; decide), ?_⟩
    refine ⟨_, rfl, x, r.c, dx, _, rfl, upd_same, KR.cl, KR.n_pieces, (by show 10 < 1000; decide), ?_⟩
    refine ⟨_, rfl, x, r.c, dx, _, rfl, upd_same, KR.cl, KR.n_rows, (by show 11 < 1000; decide), ?_⟩
    generalize hH6 : upd (upd (upd (upd (upd (upd (upd (upd (upd H5 x _) x _) x _) x _) x _) x _) x _) x _) x _ = H6
    have eH6 : H6 = upd H5 x (.ins r.c dx (dF (bornS kv m) T AA U)) := by
      rw [← hH6]
      simp only [upd_upd]
      rfl
    clear hH6
    have dif5 : ∀ {b : Addr} {o : HO}, H5 b = some o → (∀ C dx fs, o ≠ .ins C dx fs) → H6 b = some o := fun {b o} e n => by
      rw [eH6, upd_ne (fun z => by rw [z, x4] at e; cases e; exact n _ _ _ rfl)]
      exact e
    have X6 : DiskX r (fun b => b = x ∨ b = T ∨ b = AA ∨ b = A0 ∨ b = A1 ∨ b = U) H6 x (bornS kv m) dx T AA A0 A1 U [] := by
      have T6 := dif5 T4 (fun _ _ _ z => by cases z)
      have a06 := dif5 a04 (fun _ _ _ z => by cases z)
      have a16 := dif5 a14 (fun _ _ _ z => by cases z)
      have aa6 := dif5 aa4 (fun _ _ _ z => by cases z)
      have U6 := dif5 U4 (fun _ _ _ z => by cases z)
      have x6 : H6 x = some (.ins r.c dx (dF (bornS kv m) T AA U)) := by rw [eH6]; exact upd_same
      refine ⟨x6, T6, aa6, a06, a16, U6, .nil, .inl rfl, .inr (.inl rfl), .inr (.inr (.inl rfl)), .inr (.inr (.inr (.inl rfl))), .inr (.inr (.inr (.inr (.inl rfl)))), .inr (.inr (.inr (.inr (.inr rfl)))), n01, n0u, n1u, na0, na1, nau, fun b z => ?_⟩
      rcases z with rfl | rfl | rfl | rfl | rfl | rfl
      · exact ⟨_, x6⟩
      · exact ⟨_, T6⟩
      · exact ⟨_, aa6⟩
      · exact ⟨_, a06⟩
      · exact ⟨_, a16⟩
      · exact ⟨_, U6⟩
    have s6 : Same Hb H6 := by rw [eH6]; exact same_mut s5 hb
    have fn : ∀ b, (b = x ∨ b = T ∨ b = AA ∨ b = A0 ∨ b = A1 ∨ b = U) → Hb b = none := fun b z => by
      rcases z with rfl | rfl | rfl | rfl | rfl | rfl
      · exact hb
      · exact nT
      · exact nAA
      · exact nA0
      · exact nA1
      · exact nU
    clear eH6 dif5
    have ok : DSok (bornS kv m) := ⟨rfl, tb, (by show 0 + 0 + 0 ≤ 500000; decide), (fun q hq => by cases hq), .inr rfl, ⟨by show (0 : Int) ≤ 0; decide, by show (0 : Int) ≤ 500000; decide⟩, ⟨by show (0 : Int) ≤ 0; decide, by show (0 : Int) ≤ 100000; decide⟩, ⟨by show (0 : Int) ≤ 0; decide, by show (0 : Int) ≤ 100000; decide⟩⟩
    refine ⟨_, rfl, x, dx, _, rfl, X6.hd, rfl, x, _, bornS kv m, true, rfl, ⟨dx, T, AA, A0, A1, U, [], X6⟩, ok, fun H8 c8 => ?_⟩
    obtain ⟨F8, k8, ⟨dx', T', AA', B0, B1, U', ts', X8⟩, f8⟩ := c8
    refine ⟨_, rfl, x, r.c, dx', _, rfl, X8.hd, KR.cl, KR.n_syncs, (by show 12 < 1000; decide), ?_⟩
    obtain ⟨bc, be⟩ := born_check kv m
    have X9 := X8.turn (S' := { (bornS kv m).check true with syn := 0 }) rfl rfl rfl rfl
    have X9 := X9.alike (M := (newS kv m).m0) bc
    have X9 : DiskX r F8 (upd H8 x (.ins r.c dx' (dF { (bornS kv m).check true with syn := 0 } T' AA' U'))) x (newS kv m) dx' T' AA' B0 B1 U' ts' := by
      rw [← be]
      exact X9
    refine k m F8 _ rfl h0 h1 (same_mut (fun b o e => k8 b o (fun z => by rw [fn b z] at e; cases e) (s6 b o e)) hb) ⟨dx', T', AA', B0, B1, U', ts', X9⟩ fun b z => (f8 b z).elim (fn b) fun q => s6.free q
theorem init_binds {K : PySem.W.Frag} {f : Addr} {fd : FuncData} (F : FunD K "__init__" "Disk.__init__" (defArgs sDisk_init) (defBody sDisk_init) (defScope sDisk_init) [] [("rows", V.int 16)] f fd) :
    (∃ ds, Vals [V.int 16] ds ∧ Binds K fd PDisk_init ds) ∧ KBn K fd PDisk_init 2 ["rows"] kgR kgR ∧ KBn K fd PDisk_init 1 ["rows", "table"] kgT kgT := by
  refine ⟨?_, ?_, ?_⟩
  · exact F.binds0 (ps := PDisk_init) 2 (by simp) rfl (fun D doc pm an cdv ct us ks hl hk => match us, ks, hl, hk with | [_, _], [_], _, _ => ⟨_, _, _, _, _, _, rfl, rfl, rfl⟩)
  · obtain ⟨mv, h⟩ := F.kbinds0 (ps := PDisk_init) 2 ["rows"] [] (fun us _ ws => kgR us ws) (by simp) (by simp)
      (fun r1 _ r2 => match r1, r2 with | .cons a (.cons b .nil), .cons c .nil => .cons a (.cons b (.cons c .nil)) | .nil, _ => .nil | .cons _ .nil, _ => .nil | .cons _ (.cons _ (.cons _ _)), _ => .nil | .cons _ (.cons _ .nil), .nil => .nil | .cons _ (.cons _ .nil), .cons _ (.cons _ _) => .nil)
      (fun D doc pm an cdv ct us mv ws hl hm hw => match us, mv, ws, hl, hm, hw with | [_, _], [], [_], _, _, _ => rfl)
    exact h
  · obtain ⟨mv, h⟩ := F.kbinds0 (ps := PDisk_init) 1 ["rows", "table"] [] (fun us _ ws => kgT us ws) (by simp) (by simp)
      (fun r1 _ r2 => match r1, r2 with | .cons a .nil, .cons c (.cons b .nil) => .cons a (.cons b (.cons c .nil)) | .nil, _ => .nil | .cons _ (.cons _ _), _ => .nil | .cons _ .nil, .nil => .nil | .cons _ .nil, .cons _ .nil => .nil | .cons _ .nil, .cons _ (.cons _ (.cons _ _)) => .nil)
      (fun D doc pm an cdv ct us mv ws hl hm hw => match us, mv, ws, hl, hm, hw with | [_], [], [_, _], _, _, _ => rfl)
    exact h
end k15
namespace k15
open PySem L2 LC RM SM TL
def spDisk_copy (r : Ar) : Sp := fun vs H Q _ => ∃ (d : Addr) (F : Addr → Prop) (S : DS), vs = [.ref d] ∧ DiskAt r F H d S ∧ 1 ≤ S.most ∧ S.most ≤ 64 ∧ ∀ (y : Addr) (F' : Addr → Prop) H', Same H H' → DiskAt r F' H' y S → (∀ b, F' b → H b = none) → Q (.ref y) H'
theorem ok_Disk_copy {P : Program} {w : World} {K : PySem.W.Frag} {mg : Str → Option Value} {base : Heap} {f : Addr} {fd : FuncData} (F0 : Fun K "copy" "Disk.copy" sDisk_copy f fd) (T : Txt K mg) {r : Ar} (KR : Kr K mg r) {ce : Ce} {fdDI : FuncData} (GDisk_init : FnOk P w K mg base (L2.CX P w) 4 r.i fdDI PDisk_init (spDisk_init r ce)) (KBR : KBn K fdDI PDisk_init 2 ["rows"] kgR kgR) {fdRareas : FuncData} (GDisk_areas : FnOk P w K mg base CX0 1 r.fareas fdRareas PDisk_areas (spDisk_areas r)) (BDisk_areas : Binds K fdRareas PDisk_areas []) {fdRunsynced : FuncData} (GDisk_unsynced : FnOk P w K mg base CX0 1 r.funsynced fdRunsynced PDisk_unsynced (spDisk_unsynced r)) (BDisk_unsynced : Binds K fdRunsynced PDisk_unsynced []) :
    FnOk P w K mg base CX0 6 f fd PDisk_copy (spDisk_copy r) := by
  refine F0.ok scDisk_copy (fun vs H Q E h => ?_) (fun cdv A outer s H vs Q E hr h => ?_)
  · obtain ⟨d, F, S, rfl, ⟨dx, Dt, AA, A0, A1, U, ts, h⟩, m0, m1, k⟩ := h
    rfl
  · obtain ⟨d, F, S, rfl, ⟨dx, Dt, AA, A0, A1, U, ts, h⟩, m0, m1, k⟩ := h
    have hrI : Room 5 _ := hr.mono (by decide)
    have hrDisk_areas : Room 1 _ := hr.mono (by decide)
    have hrDisk_unsynced : Room 1 _ := hr.mono (by decide)
    refine ⟨_, (pss_cons (ps_set (i := 1) scDisk_copy.nd rfl (Or.inl rfl) (pe_makeK KR.m GDisk_init hrI rfl KR.g KBR passL (pa_cons pe_dnewK pa_nil) (pk_cons (pe_fld (pv 0) rfl) pk_nil)))
        (pss_cons (ps_fld (pv 1) (pe_callTy call_dictD (by rfl) T.n_dict (by decide +kernel) (pa_cons (pe_fld (pv 0) rfl) pa_nil)) rfl)
        (pss_cons (ps_fld (pv 1) (pe_meth0 (pv 0) KR.cl KR.mareas GDisk_areas hrDisk_areas BDisk_areas .nil pass0) rfl)
        (pss_cons (ps_fld (pv 1) (pe_meth0 (pv 0) KR.cl KR.munsynced GDisk_unsynced hrDisk_unsynced BDisk_unsynced .nil pass0) rfl)
        (pss_cons (ps_fld (pv 1) (pe_fld (pv 0) rfl) rfl)
        (pss_cons (ps_fld (pv 1) (pe_fld (pv 0) rfl) rfl)
        (pss_cons (ps_fld (pv 1) (pe_fld (pv 0) rfl) rfl)
        (pss_cons (ps_fld (pv 1) (pe_fld (pv 0) rfl) rfl)
        (pss_cons (ps_fld (pv 1) (pe_fld (pv 0) rfl) rfl)
        (pss_cons (ps_fld (pv 1) (pe_fld (pv 0) rfl) rfl)
        (pss_one (ps_ret (pv 1))))))))))))), ?_⟩
    refine fun D hD => ?_
    have sD := same_new (o := .dK []) hD
    have eD : upd H D (.dK []) D = some (.dK []) := upd_same
    generalize upd H D (.dK []) = H1 at sD eD ⊢
    refine ⟨_, rfl, d, r.c, dx, _, _, rfl, sD _ _ h.hd, KR.cl, KR.n_most, rfl, rfl, rfl, fun y dy hy hdy ny => ?_⟩
    have s2 := same_mut (o := .ins r.c dy []) (same_new (o := .own y) hdy) hy
    have y2 : upd (upd H1 dy (.own y)) y (.ins r.c dy []) y = some (.ins r.c dy []) := upd_same
    generalize upd (upd H1 dy (.own y)) y (.ins r.c dy []) = H2 at s2 y2 ⊢
    refine ⟨y, dy, D, .int S.most, [], fun _ => False, H1, rfl, y2, hy, s2, s2 _ _ eD, T9.nil.tab, (show Ov (fun _ => False) H2 2 (V.int S.most) from .inl True.intro), (fun (hn : isNum (V.int S.most) 1 64 = false) => (by rw [num_true m0 m1] at hn; cases hn)), fun m F3 H3 em _ _ s3 D3 f3 => ⟨rfl, ?_⟩⟩
    cases em
    have sH3 := sD.trans s3
    have hy0 : H y = none := sD.free hy
    obtain ⟨dy', T, BB, B0, B1, W, us, x⟩ := D3
    have nF3 : ∀ b, F3 b → H b = none := fun b z => sD.free (f3 b z)
    refine ⟨_, rfl, d, r.c, dx, _, _, rfl, sH3 _ _ h.hd, KR.cl, KR.n_table, rfl, Dt, S.kv, rfl, .inl (sH3 _ _ h.t), fun T2 hT2 => ?_⟩
    have nT2 := sH3.free hT2
    have yT2 : y ≠ T2 := ne_of_none x.hd hT2
    refine ⟨_, rfl, y, r.c, dy', _, rfl, (upd_ne yT2).trans x.hd, KR.cl, KR.n_table, (by show 12 < 1000; decide), ?_⟩
    generalize hH4 : upd (upd H3 T2 _) y _ = H4
    have eH4 : H4 = upd (upd H3 T2 (.dK S.kv)) y (.ins r.c dy' (dF (newS [] S.most) T2 BB W)) := by
      rw [← hH4]
      rfl
    clear hH4
    have s4 : Same H H4 := by rw [eH4]; exact same_mut (sH3.trans (same_new hT2)) hy0
    have y4 : H4 y = some (.ins r.c dy' (dF (newS [] S.most) T2 BB W)) := by rw [eH4]; exact upd_same
    have e4 : H4 T2 = some (.dK S.kv) := by rw [eH4, upd_ne (Ne.symm yT2)]; exact upd_same
    clear eH4
    refine ⟨_, rfl, d, dx, _, rfl, s4 _ _ h.hd, rfl, d, F, S, rfl, ⟨dx, Dt, AA, A0, A1, U, ts, h.same s4⟩, fun L C0 C1 H5 s5 nL nC0 nC1 L0 L1 C01 eL e0 e1 => ?_⟩
    have y5 := s5 _ _ y4
    have e5 := s5 _ _ e4
    have ne5 : ∀ {b : Addr}, H4 b = none → b ≠ y ∧ b ≠ T2 := fun {b} e => ⟨(fun z => (by rw [z, y4] at e; cases e)), (fun z => (by rw [z, e4] at e; cases e))⟩
    have s05 := s4.trans s5
    refine ⟨_, rfl, y, r.c, dy', _, rfl, y5, KR.cl, KR.n_areas, (by show 12 < 1000; decide), ?_⟩
    generalize hH6 : upd H5 y _ = H6
    have eH6 : H6 = upd H5 y (.ins r.c dy' (dF (newS [] S.most) T2 L W)) := by
      rw [← hH6]
      rfl
    clear hH6
    have s6 : Same H H6 := by rw [eH6]; exact same_mut s05 hy0
    have y6 : H6 y = some (.ins r.c dy' (dF (newS [] S.most) T2 L W)) := by rw [eH6]; exact upd_same
    have e6 : H6 T2 = some (.dK S.kv) := by rw [eH6, upd_ne (Ne.symm yT2)]; exact e5
    have eL6 : H6 L = some (.lst [.ref C0, .ref C1]) := by rw [eH6, upd_ne (ne5 nL).1]; exact eL
    have e06 : H6 C0 = some (.lst (cells S.m0)) := by rw [eH6, upd_ne (ne5 nC0).1]; exact e0
    have e16 : H6 C1 = some (.lst (cells S.m1)) := by rw [eH6, upd_ne (ne5 nC1).1]; exact e1
    clear eH6
    refine ⟨_, rfl, d, dx, _, rfl, s6 _ _ h.hd, rfl, d, F, S, rfl, ⟨dx, Dt, AA, A0, A1, U, ts, h.same s6⟩, fun U2 ts2 H7 s7 nU eU op => ?_⟩
    have y7 := s7 _ _ y6
    have e7 := s7 _ _ e6
    have eL7 := s7 _ _ eL6
    have e07 := s7 _ _ e06
    have e17 := s7 _ _ e16
    have s07 := s6.trans s7
    refine ⟨_, rfl, y, r.c, dy', _, rfl, y7, KR.cl, KR.n_unsynced, (by show 12 < 1000; decide), ?_⟩
    have dY : d ≠ y := ne_of_none h.hd hy0
    have hdn : ∀ {H' : Hp} {o o' : HO}, H' d = some o → upd H' y o' d = some o := fun e => (upd_ne dY).trans e
    have hd7 := hdn (o' := .ins r.c dy' (putF "_unsynced" (.ref U2) (dF (newS [] S.most) T2 L W))) (s07 _ _ h.hd)
    have y7' : upd H7 y (.ins r.c dy' (putF "_unsynced" (.ref U2) (dF (newS [] S.most) T2 L W))) y = some (.ins r.c dy' (putF "_unsynced" (.ref U2) (dF (newS [] S.most) T2 L W))) := upd_same
    refine ⟨_, rfl, d, r.c, dx, _, _, rfl, hd7, KR.cl, KR.n_syncs, rfl, _, rfl, y, r.c, dy', _, rfl, y7', KR.cl, KR.n_syncs, (by show 12 < 1000; decide), ?_⟩
    refine ⟨_, rfl, d, r.c, dx, _, _, rfl, (hdn hd7), KR.cl, KR.n_fallen, rfl, _, rfl, y, r.c, dy', _, rfl, upd_same, KR.cl, KR.n_fallen, (by show 12 < 1000; decide), ?_⟩
    refine ⟨_, rfl, d, r.c, dx, _, _, rfl, (hdn (hdn hd7)), KR.cl, KR.n_area, rfl, _, rfl, y, r.c, dy', _, rfl, upd_same, KR.cl, KR.n_area, (by show 12 < 1000; decide), ?_⟩
    refine ⟨_, rfl, d, r.c, dx, _, _, rfl, (hdn (hdn (hdn hd7))), KR.cl, KR.n_generation, rfl, _, rfl, y, r.c, dy', _, rfl, upd_same, KR.cl, KR.n_generation, (by show 12 < 1000; decide), ?_⟩
    refine ⟨_, rfl, d, r.c, dx, _, _, rfl, (hdn (hdn (hdn (hdn hd7)))), KR.cl, KR.n_pieces, rfl, _, rfl, y, r.c, dy', _, rfl, upd_same, KR.cl, KR.n_pieces, (by show 12 < 1000; decide), ?_⟩
    refine ⟨_, rfl, d, r.c, dx, _, _, rfl, (hdn (hdn (hdn (hdn (hdn hd7))))), KR.cl, KR.n_rows, rfl, _, rfl, y, r.c, dy', _, rfl, upd_same, KR.cl, KR.n_rows, (by show 12 < 1000; decide), ?_⟩
    generalize hH8 : upd (upd (upd (upd (upd (upd (upd H7 y _) y _) y _) y _) y _) y _) y _ = H8
    have eH8 : H8 = upd H7 y (.ins r.c dy' (dF S T2 L U2)) := by
      rw [← hH8]
      simp only [upd_upd]
      rfl
    clear hH8
    have nd : ∀ {b : Addr} {o : HO}, H7 b = some o → (∀ C dx fs, o ≠ .ins C dx fs) → H8 b = some o := fun {b o} e n => by
      rw [eH8, upd_ne (fun z => by rw [z, y7] at e; cases e; exact n _ _ _ rfl)]
      exact e
    have s8 : Same H H8 := by rw [eH8]; exact same_mut s07 hy0
    have y8 : H8 y = some (.ins r.c dy' (dF S T2 L U2)) := by rw [eH8]; exact upd_same
    have T8 := nd e7 (fun _ _ _ z => by cases z)
    have L8 := nd eL7 (fun _ _ _ z => by cases z)
    have c0 := nd e07 (fun _ _ _ z => by cases z)
    have c1 := nd e17 (fun _ _ _ z => by cases z)
    have u8 := nd eU (fun _ _ _ z => by cases z)
    have fn : ∀ b, (b = y ∨ b = T2 ∨ b = L ∨ b = C0 ∨ b = C1 ∨ b = U2) → H b = none := fun b z => by
      rcases z with rfl | rfl | rfl | rfl | rfl | rfl
      · exact hy0
      · exact nT2
      · exact s4.free nL
      · exact s4.free nC0
      · exact s4.free nC1
      · exact s6.free nU
    have nu : ∀ {b : Addr} {o : HO}, H6 b = some o → b ≠ U2 := fun {b o} e z => by rw [z, nU] at e; cases e
    have op8 : Ops (fun b => ¬ (b = y ∨ b = T2 ∨ b = L ∨ b = C0 ∨ b = C1 ∨ b = U2)) H8 ts2 S.op := op.mono' fun t q z => by
      have zt := z.2
      refine ⟨fun w => ?_, nd (s7 _ _ zt) (fun _ _ _ z => by cases z)⟩
      rcases w with rfl | rfl | rfl | rfl | rfl | rfl
      · rw [y6] at zt; cases zt
      · rw [e6] at zt; cases zt
      · rw [eL6] at zt; cases zt
      · rw [e06] at zt; cases zt
      · rw [e16] at zt; cases zt
      · rw [nU] at zt; cases zt
    refine ⟨_, rfl, k y (fun b => b = y ∨ b = T2 ∨ b = L ∨ b = C0 ∨ b = C1 ∨ b = U2) H8 s8 ⟨dy', T2, L, C0, C1, U2, ts2, y8, T8, L8, c0, c1, u8, op8,
      .inl rfl, .inr (.inl rfl), .inr (.inr (.inl rfl)), .inr (.inr (.inr (.inl rfl))), .inr (.inr (.inr (.inr (.inl rfl)))), .inr (.inr (.inr (.inr (.inr rfl)))), C01, nu e06, nu e16, L0, L1, nu eL6, fun b z => ?_⟩ fn⟩
    rcases z with rfl | rfl | rfl | rfl | rfl | rfl
    · exact ⟨_, y8⟩
    · exact ⟨_, T8⟩
    · exact ⟨_, L8⟩
    · exact ⟨_, c0⟩
    · exact ⟨_, c1⟩
    · exact ⟨_, u8⟩
end k15
namespace k15
open PySem L2 LC RM SM TL
def spnew : Sp := fun vs H Q _ => ∃ (D : Addr) (kv : List (Key × V)) (m : Int), vs = [.ref D, .int m] ∧ H D = some (.dK kv) ∧ T9 kv ∧ Full kv ∧ ∀ (o : Addr) (O N : Addr → Prop) H', Same H H' → OwnAt O N H' o (newS kv m) → (∀ b, O b → H b = none) → (∀ b, N b → H b = none) → Q (.ref o) H'
theorem ok_new {P : Program} {w : World} {K : PySem.W.Frag} {mg : Str → Option Value} {base : Heap} {f : Addr} {fd : FuncData} (D : Def K mg "_law_new" snew Pnew f fd) (T : Txt K mg) {fcut : Addr} {fdcut : FuncData} (Dcut : Def K mg "_law_cut" scut Pcut fcut fdcut) (Gcut : FnOk P w K mg base CX0 1 fcut fdcut Pcut (spcut)) {fwritten : Addr} {fdwritten : FuncData} (Dwritten : Def K mg "_law_written" swritten Pwritten fwritten fdwritten) (Gwritten : FnOk P w K mg base CX0 1 fwritten fdwritten Pwritten (spwritten)) {fcopy : Addr} {fdcopy : FuncData} (Dcopy : Def K mg "_law_copy" scopy Pcopy fcopy fdcopy) (Gcopy : FnOk P w K mg base CX0 1 fcopy fdcopy Pcopy (spcopy)) :
    FnOk P w K mg base CX0 2 f fd Pnew (spnew) := by
  refine D.F.ok scnew (fun vs H Q E h => ?_) (fun cdv A outer s H vs Q E hr h => ?_)
  · obtain ⟨D, kv, m, rfl, hD, t9, full, k⟩ := h
    rfl
  · obtain ⟨D, kv, m, rfl, hD, t9, full, k⟩ := h
    have hrcut : Room 1 _ := hr.mono (by decide)
    have hrwritten : Room 1 _ := hr.mono (by decide)
    have hrcopy : Room 1 _ := hr.mono (by decide)
    refine ⟨_, (pss_cons (ps_set (i := 2) scnew.nd rfl (Or.inl rfl) (pe_call Gcut hrcut rfl Dcut.g Dcut.F.kp Dcut.b .nil pass0 (pa_cons (pe_call Gwritten hrwritten rfl Dwritten.g Dwritten.F.kp Dwritten.b .nil pass0 (pa_cons (pv 0) pa_nil)) pa_nil)))
        (pss_cons (ps_set (i := 3) scnew.nd rfl (Or.inl rfl) (pe_disp (pps_cons pe_int (pe_joined (.cons pe_str (.cons (pe_fmt (pe_callB call_len_seq (by rfl) T.n_len PySem.boot_len (pa_cons (pv 2) pa_nil))) .nil))) pps_nil) (by rfl) (by rfl) (fun z => by cases z) (by decide)))
        (pss_cons (ps_for PassesOwn.never rfl (pi_range1 rfl T.n_range (pa_cons (pe_callB call_len_seq (by rfl) T.n_len PySem.boot_len (pa_cons (pv 2) pa_nil)) pa_nil)) (pg_name (i := 4) scnew.nd rfl (Or.inl rfl))
          (pss_one (ps_dput (hu_of hr) (pv 3) (pe_op op_add (pv 4) pe_int) (pe_joined (.cons pe_str (.cons (pe_fmt (pe_op op_add (pv 4) pe_int)) (.cons pe_str (.cons (pe_fmt (pe_ix ix_list (pv 2) (pv 4) (fun _ _ => rfl))) .nil))))) (by rfl))))
        (pss_cons (ps_set (i := 5) scnew.nd rfl (Or.inl rfl) (pe_disp (pps_cons pe_str (pe_call Gcopy hrcopy rfl Dcopy.g Dcopy.F.kp Dcopy.b .nil pass0 (pa_cons (pv 0) pa_nil)) (pps_cons pe_str (pv 1) (pps_cons pe_str pe_int (pps_cons pe_str pe_int (pps_cons pe_str (pe_callB call_len_seq (by rfl) T.n_len PySem.boot_len (pa_cons (pv 2) pa_nil)) (pps_cons pe_str pe_int pps_nil)))))) (by rfl) (by rfl) (fun z => by cases z) (by decide)))
        (pss_cons (ps_dput (hu_of hr) (pv 5) pe_str pe_bl (by rfl))
        (pss_cons (ps_dput (hu_of hr) (pv 5) pe_str (pe_lst (pa_cons (pv 3) (pa_cons pe_dnewK pa_nil))) (by rfl))
        (pss_cons (ps_dput (hu_of hr) (pv 5) pe_str (pe_lst pa_nil) (by rfl))
        (pss_cons (ps_dput (hu_of hr) (pv 5) pe_str pe_int (by rfl))
        (pss_one (ps_ret (pv 5))))))))))), ?_⟩
    have tl := text_len t9.tab
    refine ⟨_, rfl, D, kv, rfl, hD, t9.tab, full, fun H1 s1 => ⟨textOf kv, rfl, by omega, fun Pc H2 s2 n2 e2 => ?_⟩⟩
    obtain ⟨ps, hps⟩ : ∃ ps, ps = cutT (textOf kv) := ⟨_, rfl⟩
    rw [← hps] at e2
    have pl : ps.length ≤ 1190 := by rw [hps]; exact cut_few t9.tab
    have lps : (ps.map V.str).length = ps.length := List.length_map ..
    have s12 := s1.trans s2
    have sm : ∀ n : Nat, n ≤ 1000000 → n ≤ sizeLine := fun n h => Nat.le_trans h (by decide)
    have z0 : (Str.empty : Str).length = 0 := rfl
    have z1 : ("piece 1 " : Str).length = 8 := by decide +kernel
    have z2 : (" " : Str).length = 1 := by decide +kernel
    have z3 : ("head 1 " : Str).length = 7 := by decide +kernel
    have lp := int_len (i := (ps.length : Int)) (by omega) (by omega)
    have eH : ∀ n : Int, (Str.empty ++ "head 1 ") ++ (PySem.Str.ofString (toString n)) = headT 1 n := fun n => by
      have e : (Str.empty ++ "head 1 " : Str) = ((Str.empty ++ "head ") ++ toString (1 : Int)) ++ " " := by decide +kernel
      rw [e]
      rfl
    have eP : ∀ (n : Int) (z : Str), (((Str.empty ++ "piece 1 ") ++ (PySem.Str.ofString (toString n))) ++ " ") ++ z = pieceT 1 n z := fun n z => by
      have e : (Str.empty ++ "piece 1 " : Str) = ((Str.empty ++ "piece ") ++ toString (1 : Int)) ++ " " := by decide +kernel
      rw [e]
      rfl
    refine fun C hC => ?_
    have eC : upd H2 C (.dK []) C = some (.dK []) := upd_same
    have s3 := same_new (o := .dK []) hC
    have e3 := s3 _ _ e2
    generalize upd H2 C (.dK []) = H3 at eC s3 e3 ⊢
    refine ⟨_, rfl, sm _ (by rw [len_app, z0, z3]; omega), _, rfl, Pc, _, rfl, .inl (SqL.of e3), ?_⟩
    rw [lps]
    refine .inr ⟨(ps.length : Int), rfl, log_small (by omega) (by omega), _, rfl, sm _ (by simp only [len_app, z0, z3]; omega), ?_⟩
    rw [eH]
    refine ⟨eC, [(.inl 0, .str (headT 1 ps.length))], rfl, (by show 1 ≤ 15; decide), ?_⟩
    have eC4 : upd H3 C (.dK (mergeK [] [(.inl 0, .str (headT 1 ps.length))])) C = some (.dK ((Sum.inl 0, V.str (headT 1 ps.length)) :: pcs0 ps 0)) := upd_same
    have CP : Pc ≠ C := ne_of_none e2 hC
    have e4 : upd H3 C (.dK (mergeK [] [(.inl 0, .str (headT 1 ps.length))])) Pc = some (.lst (ps.map V.str)) := by rw [upd_ne CP]; exact e3
    have hC0 : H C = none := s12.free hC
    have s4 : Same H (upd H3 C (.dK (mergeK [] [(.inl 0, .str (headT 1 ps.length))]))) := same_mut (s12.trans s3) hC0
    generalize upd H3 C (.dK (mergeK [] [(.inl 0, .str (headT 1 ps.length))])) = H4 at eC4 e4 s4 ⊢
    refine ⟨_, rfl, Pc, _, rfl, .inl (SqL.of e4), _, rfl, by omega, by omega, ?_⟩
    rw [lps]
    refine for_range (lo := 0) (n := ps.length) (fun i σ H' => ∃ v4 v5 : Option V, σ = [some (.ref D), some (.int m), some (.ref Pc), some (.ref C), v4, v5] ∧ KpF (· = C) H4 H' ∧ H' C = some (.dK ((Sum.inl 0, V.str (headT 1 ps.length)) :: pcs0 ps i)))
      ⟨none, none, rfl, KpF.refl _ _, eC4⟩ ?_ ?_
    · rintro i σ H5 hi ⟨v4, v5, rfl, k5, eC5⟩
      rw [show (0 : Int) + (i : Int) = i by omega]
      have e5 := k5 _ _ CP e4
      have tm : ps[i].length ≤ 71000 := by
        have := cutT_mem (z := textOf kv) (t := ps[i]) (by rw [← hps]; exact List.getElem_mem hi)
        omega
      have lk := int_len (i := (i : Int) + 1) (by omega) (by omega)
      refine ⟨_, rfl, sm _ (by rw [len_app, z0, z1]; omega), _, rfl, _, _, rfl, rfl, .inr ⟨(i : Int) + 1, rfl, log_small (by omega) (by omega), _, rfl, sm _ (by simp only [len_app, z0, z1]; omega), _, rfl, sm _ (by simp only [len_app, z0, z1, z2]; omega), ?_⟩⟩
      refine ⟨_, rfl, _, rfl, _, _, _, _, rfl, rfl, SqL.of e5, atI_nat (j := i) (v := V.str ps[i]) (by rw [List.getElem?_map, List.getElem?_eq_getElem hi]; rfl), .inl ⟨ps[i], rfl, sm _ (by omega), _, rfl, sm _ (by simp only [len_app, z0, z1, z2]; omega), ?_⟩⟩
      rw [eP]
      refine ⟨_, rfl, _, rfl, _, _, rfl, rfl, C, _, rfl, DPut.k (k := .inl ((i : Int) + 1)) eC5 ?_, _, _, rfl, k5.upd rfl, ?_⟩
      · show (pcs0 ps i).length + 1 < sizeLine
        rw [pcs0_len]
        exact Nat.lt_of_le_of_lt (show _ ≤ 1190 by omega) (by decide)
      · rw [upd_same]
        have e0 : putK ((Sum.inl 0, V.str (headT 1 ps.length)) :: pcs0 ps i) (Sum.inl ((i : Int) + 1)) (V.str (pieceT 1 ((i : Int) + 1) ps[i])) = (Sum.inl 0, V.str (headT 1 ps.length)) :: pcs0 ps (i + 1) := by
          have g : ps.getD i "" = ps[i] := by rw [List.getD_eq_getElem?_getD, List.getElem?_eq_getElem hi]; rfl
          rw [putK_new _ (by
            rw [valV_neg (show ¬ (Sum.inl 0 : Key) = Sum.inl ((i : Int) + 1) from fun z => by have := Sum.inl.inj z; omega)]
            exact pcs0_none (.inr (by omega)))]
          unfold pcs0
          rw [List.range_succ, List.map_append, ← g]
          rfl
        rw [e0]
    rintro σ H5 ⟨v4, v5, rfl, k5, eC5⟩
    have e5 := k5 _ _ CP e4
    have s5 : Same H H5 := fun b u e => k5 _ _ (ne_of_none e hC0) (s4 _ _ e)
    clear k5 e4 eC4 s4
    refine fun o ho => ?_
    have so := same_new (o := .dK []) ho
    have eo : upd H5 o (.dK []) o = some (.dK []) := upd_same
    have e6 := so _ _ e5
    have eC6 := so _ _ eC5
    have s6 := s5.trans so
    have ho0 := s5.free ho
    have oC : o ≠ C := fun z => by rw [z, eC5] at ho; cases ho
    generalize upd H5 o (.dK []) = H6 at so eo e6 eC6 s6 ⊢
    refine ⟨_, rfl, D, kv, rfl, s6 _ _ hD, t9.nd, (by have := t9.len; omega), fun sh H7 s7 nsh esh => ?_⟩
    have e7 := s7 _ _ e6
    have eC7 := s7 _ _ eC6
    have eo7 := s7 _ _ eo
    have s07 := s6.trans s7
    have nsh0 := s6.free nsh
    have osh : o ≠ sh := ne_of_none eo nsh
    have Csh : C ≠ sh := ne_of_none eC6 nsh
    refine ⟨_, rfl, _, rfl, Pc, _, rfl, .inl (SqL.of e7), eo7, [(kS "shelf", .ref sh), (kS "most", .int m), (kS "side", .int 0), (kS "gen", .int 1), (kS "pieces", .int ps.length), (kS "count", .int 0)], by rw [lps]; rfl, (by show 6 ≤ 15; decide), ?_⟩
    refine ⟨_, rfl, o, _, rfl, DPut.k (k := kS "soft") upd_same (by show 6 < sizeLine; decide), ?_⟩
    generalize hH8 : upd (upd H7 o _) o _ = H8
    have eH8 : H8 = upd H7 o (.dK [(kS "shelf", .ref sh), (kS "most", .int m), (kS "side", .int 0), (kS "gen", .int 1), (kS "pieces", .int ps.length), (kS "count", .int 0), (kS "soft", .bl false)]) := by
      rw [← hH8, upd_upd]
      rfl
    clear hH8
    have s8 : Same H H8 := by rw [eH8]; exact same_mut s07 ho0
    have eo8 : H8 o = some (.dK [(kS "shelf", .ref sh), (kS "most", .int m), (kS "side", .int 0), (kS "gen", .int 1), (kS "pieces", .int ps.length), (kS "count", .int 0), (kS "soft", .bl false)]) := by rw [eH8]; exact upd_same
    have esh8 : H8 sh = some (.dK kv) := by rw [eH8, upd_ne (Ne.symm osh)]; exact esh
    have eC8 : H8 C = some (.dK (m0L ps)) := by rw [eH8, upd_ne (Ne.symm oC)]; exact eC7
    clear eH8 esh eC7 eo7
    refine ⟨_, rfl, fun C1 hC1 => ⟨(by show 2 ≤ sizeLine; decide), fun hd hhd => ?_⟩⟩
    have t1 := same_new (o := .dK []) hC1
    have t2 := same_new (o := .lst [.ref C, .ref C1]) hhd
    have t12 := t1.trans t2
    have nC1 := s8.free hC1
    have nhd := (s8.trans t1).free hhd
    have o9 := t12 _ _ eo8
    have sh9 := t12 _ _ esh8
    have C9 := t12 _ _ eC8
    have C19 := t2 _ _ (upd_same (H := H8) (a := C1) (o := .dK []))
    have hd9 := upd_same (H := upd H8 C1 (.dK [])) (a := hd) (o := .lst [.ref C, .ref C1])
    have oC1 : o ≠ C1 := ne_of_none eo8 hC1
    have shC1 : sh ≠ C1 := ne_of_none esh8 hC1
    have CC1 : C ≠ C1 := ne_of_none eC8 hC1
    have ohd : o ≠ hd := ne_of_none (t1 _ _ eo8) hhd
    have s9 := s8.trans t12
    generalize upd (upd H8 C1 (.dK [])) hd (.lst [.ref C, .ref C1]) = H9 at o9 sh9 C9 C19 hd9 s9 t12 ⊢
    refine ⟨_, rfl, o, _, rfl, DPut.k (k := kS "hard") o9 (by show 7 < sizeLine; decide), ?_⟩
    refine ⟨(by show 0 ≤ sizeLine; decide), fun op hop => ?_⟩
    have oop : o ≠ op := fun z => by rw [← z, upd_same] at hop; cases hop
    have hop9 : H9 op = none := by rw [upd_ne (Ne.symm oop)] at hop; exact hop
    have nop := s9.free hop9
    refine ⟨_, rfl, o, _, rfl, DPut.k (k := kS "open") ((upd_ne oop).trans upd_same) (by show 8 < sizeLine; decide), ?_⟩
    refine ⟨_, rfl, o, _, rfl, DPut.k (k := kS "syncs") upd_same (by show 9 < sizeLine; decide), _, rfl, ?_⟩
    generalize hHa : upd (upd (upd (upd H9 o _) op _) o _) o _ = Ha
    have oa : Ha o = some (.dK (oF (newS kv m) (newS kv m).soft sh hd op)) := by
      rw [← hHa, upd_same]
      unfold newS
      rw [← hps]
      rfl
    have opa : Ha op = some (.lst []) := by
      rw [← hHa, upd_ne (Ne.symm oop), upd_ne (Ne.symm oop)]
      exact upd_same
    have st : ∀ {b : Addr} {u : HO}, b ≠ o → H9 b = some u → Ha b = some u := fun {b u} n e => by
      rw [← hHa, upd_ne n, upd_ne n, upd_ne (ne_of_none e hop9), upd_ne n]
      exact e
    have sa : Same H Ha := fun b u e => st (ne_of_none e ho0) (s9 _ _ e)
    clear hHa
    have fr : ∀ b, (b = o ∨ b = sh ∨ b = C ∨ b = C1) → H b = none := fun b z => by
      rcases z with rfl | rfl | rfl | rfl
      · exact ho0
      · exact nsh0
      · exact hC0
      · exact nC1
    have fr2 : ∀ b, (b = hd ∨ b = op) → H b = none := fun b z => by
      rcases z with rfl | rfl
      · exact nhd
      · exact nop
    have sha := st (Ne.symm osh) sh9
    have Ca := st (Ne.symm oC) C9
    have C1a := st (Ne.symm oC1) C19
    have hda := st (Ne.symm ohd) hd9
    refine k o (fun b => b = o ∨ b = sh ∨ b = C ∨ b = C1) (fun b => b = hd ∨ b = op) Ha sa ⟨sh, hd, C, C1, op, [], oa, sha, hda, ?_, C1a, opa, .nil, .inl rfl, .inr (.inl rfl), .inr (.inr (.inl rfl)), .inr (.inr (.inr rfl)), .inl rfl, .inr rfl, osh, oC, oC1, Ne.symm Csh, shC1, CC1, fun b z => ?_, fun b z w => ?_⟩ fr fr2
    · show Ha C = some (.dK (m0L (cutT (textOf kv))))
      rw [← hps]
      exact Ca
    · rcases z with (rfl | rfl | rfl | rfl) | rfl | rfl
      · exact ⟨_, oa⟩
      · exact ⟨_, sha⟩
      · exact ⟨_, Ca⟩
      · exact ⟨_, C1a⟩
      · exact ⟨_, hda⟩
      · exact ⟨_, opa⟩
    · rcases w with rfl | rfl
      · rcases z with rfl | rfl | rfl | rfl
        · exact ohd rfl
        · rw [sha] at hda; cases hda
        · rw [Ca] at hda; cases hda
        · rw [C1a] at hda; cases hda
      · rcases z with rfl | rfl | rfl | rfl
        · exact oop rfl
        · rw [sha] at opa; cases opa
        · rw [Ca] at opa; cases opa
        · rw [C1a] at opa; cases opa
end k15
namespace k15
open PySem L2 LC RM SM TL
def sppower : Sp := fun vs H Q _ => ∃ (n : Int), vs = [.int n] ∧ 0 ≤ n ∧ n ≤ 1000000 ∧ ∀ p : Int, 0 ≤ p → Q (.int p) H
theorem ok_power {P : Program} {w : World} {K : PySem.W.Frag} {mg : Str → Option Value} {base : Heap} {f : Addr} {fd : FuncData} (D : Def K mg "_law_power" spower Ppower f fd) (T : Txt K mg) :
    FnOk P w K mg base CX0 1 f fd Ppower (sppower) := by
  refine D.F.ok scpower (fun vs H Q E h => ?_) (fun cdv A outer s H vs Q E hr h => ?_)
  · obtain ⟨n, rfl, n0, n1, k⟩ := h
    rfl
  · obtain ⟨n, rfl, n0, n1, k⟩ := h
    refine ⟨_, (pss_cons (ps_set (i := 1) scpower.nd rfl (Or.inl rfl) pe_int)
        (pss_cons (ps_for PassesOwn.never rfl (pi_range1 rfl T.n_range (pa_cons (pv 0) pa_nil)) (pg_name (i := 2) scpower.nd rfl (Or.inl rfl))
          (pss_one (ps_set (i := 1) scpower.nd rfl (Or.inl rfl) (pe_op op_mul (pv 1) pe_int))))
        (pss_one (ps_ret (pv 1))))), ?_⟩
    refine ⟨_, rfl, _, rfl, by omega, by omega, ?_⟩
    refine for_range (lo := 0) (n := n.toNat) (fun i σ H' => ∃ (p : Int) (v2 : Option V), σ = [some (.int n), some (.int p), v2] ∧ 0 ≤ p ∧ H' = H) ⟨1, none, rfl, by decide, rfl⟩ ?_ ?_
    · rintro i σ H' hi ⟨p, v2, rfl, p0, rfl⟩
      exact ⟨_, rfl, _, _, rfl, rfl, .inr ⟨by decide, by decide⟩, p * 3, _, rfl, by omega, rfl⟩
    · rintro σ H' ⟨p, v2, rfl, p0, rfl⟩
      exact ⟨_, rfl, k p p0⟩
end k15
namespace k15
open PySem L2 LC RM SM TL
def spwords : Sp := fun vs H Q _ => ∃ (g l : Addr) (m t : Int), vs = [.ref g, .int m, .int t] ∧ Bag l H g ∧ 0 ≤ m ∧ m ≤ 900000 ∧ ∀ (C : Addr) (ws : List Wd) H', Ok g l H H' → H C = none → (H' C = some (.lst (ws.map Wd.v)) ∨ H' C = some (.tup (ws.map Wd.v))) → (ws.length : Int) ≤ m + 1 → Q (.ref C) H'
theorem ok_words {P : Program} {w : World} {K : PySem.W.Frag} {mg : Str → Option Value} {base : Heap} {f : Addr} {fd : FuncData} (D : Def K mg "_law_words" swords Pwords f fd) (T : Txt K mg) {fdraw : Addr} {fddraw : FuncData} (Ddraw : Def K mg "_law_draw" sdraw Pdraw fdraw fddraw) (Gdraw : FnOk P w K mg base CX0 1 fdraw fddraw Pdraw (spdraw)) {fof : Addr} {fdof : FuncData} (Dof : Def K mg "_law_of" sof Pof fof fdof) (Gof : FnOk P w K mg base CX0 2 fof fdof Pof (spof K)) :
    FnOk P w K mg base CX0 3 f fd Pwords (spwords) := by
  refine D.F.ok scwords (fun vs H Q E h => ?_) (fun cdv A outer s H vs Q E hr h => ?_)
  · obtain ⟨g, l, m, t, rfl, B, m0, m1, k⟩ := h
    rfl
  · obtain ⟨g, l, m, t, rfl, B, m0, m1, k⟩ := h
    have hrdraw : Room 1 _ := hr.mono (by decide)
    have hrof : Room 2 _ := hr.mono (by decide)
    refine ⟨_, (pss_cons (ps_par (i := 3) (j := 4) (by rfl) scwords.nd rfl rfl (by decide) rfl rfl (pa_cons (pe_lst pa_nil) (pa_cons (pv 2) pa_nil)) (by rfl))
        (pss_cons (ps_for PassesOwn.never rfl (pi_range1 rfl T.n_range (pa_cons (pv 1) pa_nil)) (pg_name (i := 5) scwords.nd rfl (Or.inl rfl))
          (pss_cons (ps_expr (pe_bm PySem.F.plainAttrs_list PySem.F.slot_list_append PySem.F.type_list_append mt_append (pv 3) (pa_cons (pe_ix ix_tup (pe_tup (pa_cons pe_str (pa_cons pe_str (pa_cons pe_str pa_nil)))) (pe_op op_mod (pe_callTy call_int1 (by rfl) T.n_int (by decide +kernel) (pa_cons (pv 4) pa_nil)) pe_int) (fun _ _ => rfl)) pa_nil)))
        (pss_one (ps_set (i := 4) scwords.nd rfl (Or.inl rfl) (pe_op op_fdiv (pv 4) pe_int)))))
        (pss_cons (ps_set (i := 6) scwords.nd rfl (Or.inl rfl) (pe_call Gdraw hrdraw rfl Ddraw.g Ddraw.F.kp Ddraw.b .nil pass0 (pa_cons (pv 0) (pa_cons pe_int pa_nil))))
        (Evl.pss_cut (ps_if (pt_cmpR op_eq (pv 6) pe_int (nomark _)) (pss_one (ps_expr (pe_bm PySem.F.plainAttrs_list PySem.F.slot_list_append PySem.F.type_list_append mt_append (pv 3) (pa_cons (pe_call Gof hrof rfl Dof.g Dof.F.kp Dof.b .nil pass0 (pa_cons (pv 0) (pa_cons (pe_lst (pa_cons pe_str (pa_cons pe_str (pa_cons pe_str pa_nil)))) pa_nil))) pa_nil)))) pss_nil)
        (Evl.pss_cut (ps_if (pt_cmpR op_eq (pv 6) pe_int (nomark _)) (pss_one (ps_set (i := 3) scwords.nd rfl (Or.inl rfl) (pe_slice sl_list (pv 3) po_none (po_some (pe_call Gdraw hrdraw rfl Ddraw.g Ddraw.F.kp Ddraw.b .nil pass0 (pa_cons (pv 0) (pa_cons (pe_op op_add (pv 1) pe_int) pa_nil))))))) pss_nil)
        (pss_one (ps_ret (pe_ifExp (pt_cmpR op_lt (pv 6) pe_int (nomark _)) (pe_callTy call_tuple_of (by rfl) T.n_tuple (by decide +kernel) (pa_cons (pv 3) pa_nil)) (pv 3))))))))), ?_⟩
    refine ⟨(by show 0 ≤ sizeLine; decide), fun L hL => ⟨_, rfl, _, _, rfl, ?_⟩⟩
    have R1 := (Ok.refl B).new (o := .lst []) hL
    have eL : upd H L (.lst []) L = some (.lst []) := upd_same
    have Lg : L ≠ g := (B.ne hL).1
    generalize upd H L (.lst []) = H1 at R1 eL ⊢
    refine ⟨_, rfl, _, rfl, by omega, by omega, ?_⟩
    refine for_range (lo := 0) (n := m.toNat) (fun i σ H' => ∃ (z : Int) (v5 : Option V) (ws : List Wd), σ = [some (.ref g), some (.int m), some (.int t), some (.ref L), some (.int z), v5, none] ∧ Ok g l H H' ∧ H' L = some (.lst (ws.map Wd.v)) ∧ ws.length = i) ⟨t, none, [], rfl, R1, eL, rfl⟩ ?_ ?_
    · rintro i σ H2 hi ⟨z, v5, ws, rfl, R, e, wl⟩
      obtain ⟨wd, hat⟩ := wd_at z
      refine ⟨_, rfl, .inl ⟨rfl, _, SqL.of e⟩, (by show 3 ≤ sizeLine; decide), fun T hT => ?_⟩
      have R3 := R.new (o := .tup [.str "kept", .str "lost", .str "torn"]) hT
      have e3 : upd H2 T (.tup [.str "kept", .str "lost", .str "torn"]) L = some (.lst (ws.map Wd.v)) := by rw [upd_ne (ne_of_none e hT)]; exact e
      refine ⟨_, rfl, .inl ⟨_, rfl, _, _, rfl, rfl, (by show (0 : Int) < 3; decide), _, _, _, _, rfl, rfl, SqT.of upd_same, hat, L, _, _, rfl, rfl, e3, ?_, _, rfl, _, _, rfl, rfl, ⟨by decide, by decide⟩, z / 3, _, ws ++ [wd], rfl, R3.mut hL, ?_, ?_⟩⟩
      · rw [List.length_map, wl]
        exact Nat.lt_of_le_of_lt (show _ ≤ 900000 by omega) (by decide)
      · rw [upd_same, List.map_append]
        rfl
      · rw [List.length_append, wl]
        rfl
    · rintro σ H2 ⟨z, v5, ws, rfl, R, e, wl⟩
      refine ⟨_, rfl, g, l, 8, rfl, R.bag, by decide, by decide, fun p H3 p0 p1 r3 => ?_⟩
      have R3 := R.trans r3
      have e3 := r3.at_ e Lg
      refine ⟨fun σ H' => ∃ ws' : List Wd, σ = [some (.ref g), some (.int m), some (.int t), some (.ref L), some (.int z), v5, some (.int p)] ∧ Ok g l H H' ∧ H' L = some (.lst (ws'.map Wd.v)) ∧ ws'.length ≤ m.toNat + 1, ?_, ?_⟩
      · refine ⟨_, rfl, rfl, _, rfl, ite_eq (fun _ => ?_) (fun _ => ⟨ws, rfl, R3, e3, by omega⟩)⟩
        refine ⟨_, rfl, .inl ⟨rfl, _, SqL.of e3⟩, _, rfl, (by show 3 ≤ sizeLine; decide), fun P hP => of_disp (E := E0) R3 hP (by show 0 < 3; decide) (by show 3 ≤ 1000000; decide) fun x H4 hx kk r4 => ?_⟩
        obtain ⟨wd, rfl⟩ : ∃ wd : Wd, x = wd.v := by
          simp only [List.mem_cons, List.not_mem_nil, or_false] at hx
          rcases hx with rfl | rfl | rfl
          · exact ⟨.kept, rfl⟩
          · exact ⟨.torn, rfl⟩
          · exact ⟨.lost, rfl⟩
        have e4 := kk _ _ Lg e3
        refine ⟨L, _, _, rfl, rfl, e4, ?_, ws ++ [wd], rfl, r4.mut hL, ?_, ?_⟩
        · rw [List.length_map, wl]
          exact Nat.lt_of_le_of_lt (show _ ≤ 900000 by omega) (by decide)
        · rw [upd_same, List.map_append]
          rfl
        · rw [List.length_append, wl]
          exact Nat.le_refl _
      rintro σ H4 ⟨ws', rfl, R4, e4, l4⟩
      refine ⟨fun σ H' => ∃ (L' : Addr) (ws' : List Wd), σ = [some (.ref g), some (.int m), some (.int t), some (.ref L'), some (.int z), v5, some (.int p)] ∧ Ok g l H H' ∧ H L' = none ∧ H' L' = some (.lst (ws'.map Wd.v)) ∧ ws'.length ≤ m.toNat + 1, ?_, ?_⟩
      · refine ⟨_, rfl, rfl, _, rfl, ite_eq (fun _ => ?_) (fun _ => ⟨L, ws', rfl, R4, hL, e4, l4⟩)⟩
        refine ⟨_, rfl, _, rfl, _, rfl, _, _, rfl, rfl, g, l, m + 1, rfl, R4.bag, by omega, by omega, fun q H5 q0 q1 r5 => ?_⟩
        have e5 := r5.at_ e4 Lg
        refine ⟨_, rfl, L, _, rfl, SqL.of e5, fun P hP => ?_⟩
        obtain ⟨qn, rfl⟩ : ∃ qn : Nat, q = qn := ⟨q.toNat, by omega⟩
        rw [cutV_to, ← List.map_take]
        have R5 := R4.trans r5
        exact ⟨P, ws'.take qn, rfl, R5.new hP, R5.free hP, upd_same, by rw [List.length_take]; omega⟩
      rintro σ H5 ⟨L', ws5, rfl, R5, f5, e5, l5⟩
      refine ⟨_, rfl, _, _, rfl, rfl, _, rfl, ite_d (fun _ => ?_) (fun _ => ?_)⟩
      · exact ⟨_, rfl, L', _, rfl, .inl ⟨SqL.of e5, fun T hT => k T ws5 _ (R5.new hT) (R5.free hT) (.inr upd_same) (by omega)⟩⟩
      · exact ⟨_, rfl, k L' ws5 _ R5 f5 (.inl e5) (by omega)⟩
end k15
namespace k15
open PySem L2 LC RM SM TL
def spstart (r : Ar) : Sp := fun vs H Q _ => ∃ (g l d o : Addr) (F O N : Addr → Prop) (S : DS), vs = [.ref g, .ref d, .ref o] ∧ Sit r [] F O N g l H d o S S ∧ Gd S 1 ∧ LogOk S ∧ ∀ (F' O' N' : Addr → Prop) (S' : DS) H', Sit r [] F' O' N' g l H' d o S' S' → Gd S' 11 → Lu S' S'.kv [] → Ev g F O N F' O' N' H H' → Q .non H'
theorem ok_start {P : Program} {w : World} {K : PySem.W.Frag} {mg : Str → Option Value} {base : Heap} {f : Addr} {fd : FuncData} (D : Def K mg "_law_start" sstart Pstart f fd) (T : Txt K mg) {r : Ar} (KR : Kr K mg r) {fdRwrite : FuncData} (GDisk_write : FnOk P w K mg base CX0 4 r.fwrite fdRwrite PDisk_write (spDisk_write r)) (BDisk_write : Binds K fdRwrite PDisk_write []) {fdRsync : FuncData} (GDisk_sync : FnOk P w K mg base CX0 2 r.fsync fdRsync PDisk_sync (spDisk_sync r)) (BDisk_sync : Binds K fdRsync PDisk_sync []) {fdRcheck : FuncData} {uT : Value} (ruT : RelV (.bl true) uT) (GDisk_check : FnOk P w K mg base CX0 3 r.fcheck fdRcheck PDisk_check (spDisk_check r)) (BcheckT : Binds K fdRcheck PDisk_check [uT]) {fdraw : Addr} {fddraw : FuncData} (Ddraw : Def K mg "_law_draw" sdraw Pdraw fdraw fddraw) (Gdraw : FnOk P w K mg base CX0 1 fdraw fddraw Pdraw (spdraw)) {fcopy : Addr} {fdcopy : FuncData} (Dcopy : Def K mg "_law_copy" scopy Pcopy fcopy fdcopy) (Gcopy : FnOk P w K mg base CX0 1 fcopy fdcopy Pcopy (spcopy)) {fsync : Addr} {fdsync : FuncData} (Dsync : Def K mg "_law_sync" ssync Psync fsync fdsync) (Gsync : FnOk P w K mg base CX0 1 fsync fdsync Psync (spsync)) {fcheck : Addr} {fdcheck : FuncData} (Dcheck : Def K mg "_law_check" scheck Pcheck fcheck fdcheck) (Gcheck : FnOk P w K mg base CX0 2 fcheck fdcheck Pcheck (spcheck)) {fwrite : Addr} {fdwrite : FuncData} (Dwrite : Def K mg "_law_write" swrite Pwrite fwrite fdwrite) (Gwrite : FnOk P w K mg base CX0 3 fwrite fdwrite Pwrite (spwrite)) {fchanges : Addr} {fdchanges : FuncData} (Dchanges : Def K mg "_law_changes" schanges Pchanges fchanges fdchanges) (Gchanges : FnOk P w K mg base CX0 5 fchanges fdchanges Pchanges (spchanges)) :
    FnOk P w K mg base CX0 6 f fd Pstart (spstart r) := by
  refine D.F.ok scstart (fun vs H Q E h => ?_) (fun cdv A outer s H vs Q E hr h => ?_)
  · obtain ⟨g, l, d, o, F, O, N, S, rfl, st, gd, lo, k⟩ := h
    rfl
  · obtain ⟨g, l, d, o, F, O, N, S, rfl, st, gd, lo, k⟩ := h
    have hrdraw : Room 1 _ := hr.mono (by decide)
    have hrcopy : Room 1 _ := hr.mono (by decide)
    have hrsync : Room 1 _ := hr.mono (by decide)
    have hrcheck : Room 2 _ := hr.mono (by decide)
    have hrwrite : Room 3 _ := hr.mono (by decide)
    have hrchanges : Room 5 _ := hr.mono (by decide)
    have hrDisk_write : Room 4 _ := hr.mono (by decide)
    have hrDisk_check : Room 3 _ := hr.mono (by decide)
    have hrDisk_sync : Room 2 _ := hr.mono (by decide)
    refine ⟨_, (pss_cons (ps_for PassesOwn.never rfl (pi_range1 rfl T.n_range (pa_cons (pe_call Gdraw hrdraw rfl Ddraw.g Ddraw.F.kp Ddraw.b .nil pass0 (pa_cons (pv 0) (pa_cons pe_int pa_nil))) pa_nil)) (pg_name (i := 3) scstart.nd rfl (Or.inl rfl))
          (pss_one (ps_if (pt_cmpR op_eq (pe_call Gdraw hrdraw rfl Ddraw.g Ddraw.F.kp Ddraw.b .nil pass0 (pa_cons (pv 0) (pa_cons pe_int pa_nil))) pe_int (nomark _)) (pss_cons (ps_expr (pe_meth0 (pv 1) KR.cl KR.mcheck GDisk_check hrDisk_check BcheckT (.cons ruT .nil) pass0))
        (pss_one (ps_expr (pe_call Gcheck hrcheck rfl Dcheck.g Dcheck.F.kp Dcheck.b .nil pass0 (pa_cons (pv 2) (pa_cons pe_bl pa_nil)))))) (pss_cons (ps_set (i := 4) scstart.nd rfl (Or.inl rfl) (pe_call Gchanges hrchanges rfl Dchanges.g Dchanges.F.kp Dchanges.b .nil pass0 (pa_cons (pv 0) (pa_cons (pe_dget (hu_of hr) (pv 2) pe_str (fun _ _ => rfl)) pa_nil))))
        (pss_cons (ps_expr (pe_meth (pv 1) KR.cl KR.mwrite GDisk_write hrDisk_write BDisk_write .nil pass0 (pa_cons (pe_call Gcopy hrcopy rfl Dcopy.g Dcopy.F.kp Dcopy.b .nil pass0 (pa_cons (pv 4) pa_nil)) pa_nil)))
        (pss_one (ps_expr (pe_call Gwrite hrwrite rfl Dwrite.g Dwrite.F.kp Dwrite.b .nil pass0 (pa_cons (pv 2) (pa_cons (pv 4) pa_nil))))))))))
        (pss_cons (ps_expr (pe_meth0 (pv 1) KR.cl KR.msync GDisk_sync hrDisk_sync BDisk_sync .nil pass0))
        (pss_one (ps_expr (pe_call Gsync hrsync rfl Dsync.g Dsync.F.kp Dsync.b .nil pass0 (pa_cons (pv 2) pa_nil)))))), ?_⟩
    refine ⟨_, rfl, g, l, 9, rfl, st.b, by decide, by decide, fun n H1 n0 n1 r1 => ?_⟩
    obtain ⟨st1, ev1⟩ := st.ok r1
    refine ⟨_, rfl, by omega, by omega, ?_⟩
    refine for_range (lo := 0) (n := n.toNat) (fun i σ H' => ∃ (F' O' N' : Addr → Prop) (S' : DS) (v3 v4 : Option V), σ = [some (.ref g), some (.ref d), some (.ref o), v3, v4] ∧ Sit r [] F' O' N' g l H' d o S' S' ∧ Gd S' (i + 1) ∧ LogOk S' ∧ Ev g F O N F' O' N' H H') ⟨F, O, N, S, none, none, rfl, st1, gd, lo, ev1⟩ ?_ ?_
    · rintro i σ H2 hi ⟨F2, O2, N2, S2, v3, v4, rfl, st2, gd2, lo2, ev2⟩
      refine ⟨_, rfl, g, l, 5, rfl, st2.b, by decide, by decide, fun p H3 p0 p1 r3 => ?_⟩
      obtain ⟨st3, ev3⟩ := st2.ok r3
      have ok := gd2.ok (by omega)
      refine ⟨rfl, _, rfl, ite_eq (fun _ => ?_) (fun _ => ?_)⟩
      · obtain ⟨dx, T, AA, A0, A1, U, us, x⟩ := id st3.t.D
        refine ⟨_, rfl, d, dx, _, rfl, x.hd, rfl, d, F2, S2, true, rfl, st3.t.D, ok, fun H4 c4 => ?_⟩
        obtain ⟨F4, st4, ev4⟩ := st3.disk c4
        refine ⟨_, rfl, o, O2, N2, S2, true, rfl, st4.t.W, ok, gd2.full, fun H5 c5 => ?_⟩
        obtain ⟨O5, N5, st5, ev5⟩ := st4.own c5
        exact ⟨F4, O5, N5, _, _, _, rfl, st5, (gd2.check true).gd (by decide) (by decide), lo2.check, (((ev2.trans ev3).trans ev4).trans ev5)⟩
      · obtain ⟨sh, hd, C0, C1, op, ts, w⟩ := id st3.t.W
        refine ⟨_, rfl, _, rfl, o, .ref sh, rfl, .inl ⟨_, kS "shelf", .inl w.eo, rfl, rfl⟩, g, l, sh, S2.kv, rfl, st3.b, (fun z => st3.og (by rw [← z]; exact w.fs)), w.es, gd2.t, fun C ch H4 r4 hC eC tc => ?_⟩
        obtain ⟨nF, nO, nN, nG⟩ := st3.fresh hC
        obtain ⟨st4, ev4⟩ := st3.ok r4
        obtain ⟨dx, T, AA, A0, A1, U, us, x⟩ := id st4.t.D
        have lc := tc.len
        refine ⟨_, rfl, d, dx, _, rfl, x.hd, rfl, _, rfl, C, ch, rfl, eC, tc.nd, (by omega), fun D H5 s5 hD eD => ?_⟩
        obtain ⟨mF, mO, mN, mG⟩ := st4.fresh hD
        obtain ⟨st5, ev5⟩ := st4.same s5
        have eC5 := s5 _ _ eC
        refine ⟨d, D, F2, S2, ch, rfl, st5.t.D, ok, eD, mF, tc.tab, fun H6 c6 => ?_⟩
        obtain ⟨F6, st6, ev6⟩ := st5.disk c6
        obtain ⟨eC6, nF6, nO6, nN6⟩ := ev6.out eC5 (fun z => z.elim nF fun z => z.elim nO nG)
        refine ⟨_, rfl, _, rfl, o, C, O2, N2, S2, ch, rfl, st6.t.W, ok, gd2.full, eC6, nO6, tc.tab, fun H7 c7 => ?_⟩
        obtain ⟨O7, N7, st7, ev7⟩ := st6.own c7
        exact ⟨F6, O7, N7, _, _, _, rfl, st7, gd2.write tc, lo2.write gd2 tc, (((((ev2.trans ev3).trans ev4).trans ev5).trans ev6).trans ev7)⟩
    · rintro σ H2 ⟨F2, O2, N2, S2, v3, v4, rfl, st2, gd2, lo2, ev2⟩
      have ok := (gd2.ok (by omega)).op
      obtain ⟨dx, T, AA, A0, A1, U, us, x⟩ := id st2.t.D
      refine ⟨_, rfl, d, dx, _, rfl, x.hd, rfl, d, F2, S2, rfl, st2.t.D, ok, fun H3 c3 => ?_⟩
      obtain ⟨F3, st3, ev3⟩ := st2.disk c3
      refine ⟨_, rfl, o, O2, N2, S2, rfl, st3.t.W, ok, fun H4 c4 => ?_⟩
      obtain ⟨O4, N4, st4, ev4⟩ := st3.own c4
      exact k _ _ _ _ _ st4 (gd2.sync.up (by omega)) (by have := lo2.sync; rw [← (sync_same S2).1] at this; exact this) ((ev2.trans ev3).trans ev4)
end k15
namespace k15
open PySem L2 LC RM SM TL
theorem stp_get {H : Hp} : ∀ {ts : List Addr} {ss : List Stp}, Paired (StpAt H) ts ss → ∀ {i : Nat} {t : Addr}, ts[i]? = some t → ∃ s, ss[i]? = some s ∧ StpAt H t s
  | _, _, .nil, i, t, e => by simp at e
  | _, _, .cons h p, 0, t, e => by
    simp at e
    subst e
    exact ⟨_, rfl, h⟩
  | _, _, .cons h p, i + 1, t, e => by
    obtain ⟨q, e1, e2⟩ := stp_get p (i := i) (t := t) (by simpa using e)
    exact ⟨q, by simpa using e1, e2⟩
def spdue : Sp := fun vs H Q _ => ∃ (b L C : Addr) (ts : List Addr) (ss : List Stp) (ws : List Wd), vs = [.ref b, .ref L, .ref C] ∧ H L = some (.lst (ts.map V.ref)) ∧ Paired (StpAt H) ts ss ∧ (H C = some (.lst (ws.map Wd.v)) ∨ H C = some (.tup (ws.map Wd.v))) ∧ ss.length ≤ 100 ∧ (∀ s ∈ ss, s.many ≤ 5000) ∧ ∀ H', Same H H' → Q (.ref (due ws b true 0 ss)) H'
theorem ok_due {P : Program} {w : World} {K : PySem.W.Frag} {mg : Str → Option Value} {base : Heap} {f : Addr} {fd : FuncData} (D : Def K mg "_law_due" sdue Pdue f fd) (T : Txt K mg) :
    FnOk P w K mg base CX0 1 f fd Pdue (spdue) := by
  refine D.F.ok scdue (fun vs H Q E h => ?_) (fun cdv A outer s H vs Q E hr h => ?_)
  · obtain ⟨b, L, C, ts, ss, ws, rfl, hL, pr, hC, l1, l2, k⟩ := h
    rfl
  · obtain ⟨b, L, C, ts, ss, ws, rfl, hL, pr, hC, l1, l2, k⟩ := h
    refine ⟨_, (pss_cons (ps_par3 (i := 3) (j := 4) (l := 5) (by rfl) scdue.nd rfl rfl rfl (by decide) (by decide) (by decide) rfl rfl rfl (pa_cons (pv 0) (pa_cons pe_bl (pa_cons pe_int pa_nil))) (by rfl))
        (pss_cons (ps_for PassesOwn.never rfl (pi_list (pv 1)) ((pg_tup rfl (pgs_cons (pg_name (i := 6) scdue.nd rfl (Or.inl rfl)) (pgs_cons (pg_name (i := 7) scdue.nd rfl (Or.inl rfl)) (pgs_cons (pg_name (i := 8) scdue.nd rfl (Or.inl rfl)) pgs_nil)))))
          (pss_cons (ps_set (i := 9) scdue.nd rfl (Or.inl rfl) (pe_callB (cr_all rfl) (by rfl) T.n_all (by decide +kernel) (pa_cons (pe_lc (own := [("_law_k", 10)]) (g := gName 10) (tt := tYes) rfl scdue.nd (pi_range2 rfl T.n_range (pa_cons (pv 5) (pa_cons (pe_op op_add (pv 5) (pv 7)) pa_nil))) (blkOk_by (own := [("_law_k", 10)]) (N := Nmdue) (sc := defScope sdue) (by decide +kernel)) (fun _ _ _ _ _ => pg_name (i := 10) scdue.nd rfl (Or.inl rfl)) (fun _ _ _ _ _ => pts_nil) (fun _ _ _ _ _ => (pe_ifExp (pt_cmpR op_lt (pv 10) (pe_callB (show CallR _ (.builtin "len") (fun xs H Q => ∃ x n, xs = [x] ∧ LenV K x H n ∧ Q (.int n) H) from call_len) (by rfl) T.n_len PySem.boot_len (pa_cons (pv 2) pa_nil)) (nomark _)) (pe_cmpR op_eq (pe_ix (show IxR _ (rIx K) from ix_seq) (pv 2) (pv 10) (fun _ _ => rfl)) pe_str (nomark _)) pe_bl))) pa_nil)))
        (pss_cons (ps_set (i := 5) scdue.nd rfl (Or.inl rfl) (pe_op op_add (pv 5) (pv 7)))
        (pss_one (ps_if (pt_cmpR op_eq (pv 6) pe_str (nomark _)) (pss_cons (ps_if (pt_not (pt_val (pv 9))) (pss_one (ps_ret (pv 3))) pss_nil)
        (pss_one (ps_par (i := 3) (j := 4) (by rfl) scdue.nd rfl rfl (by decide) rfl rfl (pa_cons (pv 8) (pa_cons pe_bl pa_nil)) (by rfl)))) (pss_one (ps_if (pt_not (pt_val (pv 9))) (pss_one (ps_set (i := 4) scdue.nd rfl (Or.inl rfl) pe_bl)) (pss_one (ps_if (pt_val (pv 4)) (pss_one (ps_set (i := 3) scdue.nd rfl (Or.inl rfl) (pv 8))) pss_nil)))))))))
        (pss_one (ps_ret (pv 3))))), ?_⟩
    have cseq : ∀ {H' : Hp}, Same H H' → SqL K H' C (ws.map Wd.v) ∨ SqT K H' C (ws.map Wd.v) := fun {H'} s => hC.elim (fun e => .inl (SqL.of (s _ _ e))) fun e => .inr (SqT.of (s _ _ e))
    have ll := pr.length
    refine ⟨_, rfl, _, _, _, rfl, ?_⟩
    refine ⟨_, rfl, L, rfl, ⟨_, SqL.of hL⟩, ?_⟩
    refine for_list (K := K) (a := L) (xs := ts.map V.ref) (fun i σ H' => ∃ (h : Addr) (wh : Bool) (a : Nat) (v6 v7 v8 v9 : Option V), σ = [some (.ref b), some (.ref L), some (.ref C), some (.ref h), some (.bl wh), some (.int (a : Int)), v6, v7, v8, v9, none] ∧ Same H H' ∧ a ≤ 5000 * i ∧ i ≤ 100 ∧ due ws b true 0 ss = due ws h wh a (ss.drop i)) ?_ ?_ ?_ ?_
    · exact ⟨b, true, 0, none, none, none, none, rfl, Same.refl _, Nat.zero_le _, Nat.zero_le _, by rw [List.drop_zero]⟩
    · exact (fun i σ H' _ ⟨_, _, _, _, _, _, _, _, q, _⟩ => SqL.of (q _ _ hL))
    · rintro i x σ H1 hi ⟨h, wh, a, v6, v7, v8, v9, rfl, s1, al, il, du⟩
      rw [List.getElem?_map] at hi
      cases hu : ts[i]? with
      | none => rw [hu] at hi; cases hi
      | some t =>
      rw [hu] at hi
      obtain rfl : V.ref t = x := Option.some.inj hi
      obtain ⟨s', hs, et⟩ := stp_get pr hu
      have il2 := (List.getElem?_eq_some_iff.mp hs).1
      have dr : ss.drop i = s' :: ss.drop (i + 1) := by
        rw [List.drop_eq_getElem_cons il2]
        congr 1
        exact Option.some.inj ((List.getElem?_eq_getElem il2).symm.trans hs)
      have mb := l2 s' (List.mem_of_getElem? hs)
      have et1 : H1 t = some (.tup (stepV s')) := s1 _ _ et
      rw [dr] at du
      have du : due ws b true 0 ss = (if s'.chk = true then (if keptB ws a s'.many = true then due ws s'.sh true (a + s'.many) (ss.drop (i + 1)) else h)
        else if keptB ws a s'.many = true then (if wh = true then due ws s'.sh true (a + s'.many) (ss.drop (i + 1)) else due ws h false (a + s'.many) (ss.drop (i + 1)))
        else due ws h false (a + s'.many) (ss.drop (i + 1))) := du
      refine ⟨t, _, rfl, SqT.of et1, rfl, _, _, rfl, _, _, rfl, _, _, rfl, rfl, ?_⟩
      refine ⟨_, rfl, _, rfl, _, rfl, _, _, rfl, rfl, _, _, rfl, ⟨by omega, by omega, by omega, by omega⟩, fun D hD => ?_⟩
      have nn : ((a : Int) + (s'.many : Int) - (a : Int)).toNat = s'.many := by omega
      rw [nn]
      refine lc_it (walk_range (lo := (a : Int)) (n := s'.many)) (fun j H' => Same H1 H' ∧ H' D = some (.lst (((List.range j).map fun k => isKept ws[a + k]?).map V.bl))) ⟨same_new hD, upd_same⟩ (fun _ _ _ _ => True.intro) ?_ ?_
      · rintro j x H2 H2' hj ⟨s2, d2⟩ ⟨rfl, rfl⟩
        have fin : ∀ c, c = isKept ws[a + j]? → ∃ acc, H2' D = some (.lst acc) ∧ acc.length < sizeLine ∧ (Same H1 (upd H2' D (.lst (acc ++ [.bl c]))) ∧ upd H2' D (.lst (acc ++ [.bl c])) D = some (.lst (((List.range (j + 1)).map fun k => isKept ws[a + k]?).map V.bl))) := fun c hc => by
          refine ⟨_, d2, ?_, fun e u q => ?_, ?_⟩
          · rw [List.length_map, List.length_map, List.length_range]
            exact Nat.lt_of_le_of_lt (show _ ≤ 5000 by omega) (by decide)
          · rw [upd_ne (ne_of_none q hD)]
            exact s2 _ _ q
          · rw [upd_same, List.range_succ, List.map_append, List.map_append, hc]
            rfl
        have sqq := cseq (s1.trans s2)
        have lenV : LenV K (.ref C) H2' ws.length := sqq.elim (fun q => .inl ⟨_, q, (List.length_map ..).symm⟩) fun q => .inr ⟨_, q, (List.length_map ..).symm⟩
        refine ⟨rfl, _, rfl, _, rfl, _, _, rfl, lenV, _, _, rfl, rfl, _, rfl, ite_d (fun hc => ?_) (fun hc => ?_)⟩
        · have hlt : a + j < ws.length := by omega
          have hw : ws[a + j]? = some ws[a + j] := List.getElem?_eq_getElem hlt
          have hat : atI (ws.map Wd.v) ((a + j : Nat) : Int) = some ws[a + j].v := atI_nat (by rw [List.getElem?_map, hw]; rfl)
          have hk : ∀ w : Wd, decide (w.v = V.str "kept") = isKept (some w) := fun w => by rw [wd_kept]; cases w <;> rfl
          have fk := fin (decide (ws[a + j].v = V.str "kept")) (by rw [hw]; exact hk ws[a + j])
          rcases sqq with q | q
          · exact ⟨_, rfl, _, rfl, .inl ⟨_, _, _, _, rfl, rfl, q, hat, rfl, fk⟩⟩
          · exact ⟨_, rfl, _, rfl, .inr (.inl ⟨_, _, _, _, rfl, rfl, q, hat, rfl, fk⟩)⟩
        · have hw : ws[a + j]? = none := List.getElem?_eq_none (by omega)
          exact fin false (by rw [hw]; rfl)
      rintro H2 ⟨s2, d2⟩
      refine ⟨D, _, rfl, SqL.of d2, ?_⟩
      have eK : (((List.range s'.many).map fun k => isKept ws[a + k]?).all id) = keptB ws a s'.many := by
        unfold keptB
        rw [List.all_map]
        rfl
      rw [eK]
      refine ⟨_, rfl, _, rfl, _, _, rfl, rfl, ?_⟩
      have s12 := s1.trans s2
      have ek : decide (V.str (if s'.chk = true then ("check" : Str) else "record") = V.str "check") = s'.chk := by
        cases s'.chk <;> decide +kernel
      refine ⟨_, rfl, rfl, _, rfl, ?_⟩
      rw [ek]
      cases hk : s'.chk with
      | true =>
        rw [if_pos hk] at du
        refine iteT ⟨_, rfl, _, rfl, ?_⟩
        cases hb : keptB ws a s'.many with
        | false =>
          rw [hb, if_neg Bool.false_ne_true] at du
          exact iteT ⟨_, rfl, by rw [← du]; exact k H2 s12⟩
        | true =>
          rw [hb, if_pos rfl] at du
          exact iteF ⟨_, rfl, _, _, rfl, s'.sh, true, a + s'.many, _, _, _, _, rfl, s12, by omega, by omega, du⟩
      | false =>
        rw [if_neg (by rw [hk]; exact Bool.false_ne_true)] at du
        refine iteF ⟨_, rfl, _, rfl, ?_⟩
        cases hb : keptB ws a s'.many with
        | false =>
          rw [hb, if_neg Bool.false_ne_true] at du
          exact iteT ⟨h, false, a + s'.many, _, _, _, _, rfl, s12, by omega, by omega, du⟩
        | true =>
          rw [hb, if_pos rfl] at du
          refine iteF ⟨_, rfl, _, rfl, ?_⟩
          cases wh with
          | true => exact iteT ⟨_, rfl, s'.sh, true, a + s'.many, _, _, _, _, rfl, s12, by omega, by omega, by rw [if_pos rfl] at du; exact du⟩
          | false => exact iteF ⟨h, false, a + s'.many, _, _, _, _, rfl, s12, by omega, by omega, by rw [if_neg Bool.false_ne_true] at du; exact du⟩
    · rintro σ H1 ⟨h, wh, a, v6, v7, v8, v9, rfl, s1, al, il, du⟩
      have e : ss.drop (ts.map V.ref).length = [] := List.drop_of_length_le (by rw [List.length_map, ll]; exact Nat.le_refl _)
      rw [e] at du
      have du : due ws b true 0 ss = h := du
      exact ⟨_, rfl, by rw [← du]; exact k H1 s1⟩
end k15
namespace k15
open PySem L2 LC RM SM TL
/-- the law's base and steps beside the disk and its own one -/
structure UZ (g l : Addr) (F O N Z : Addr → Prop) (H : Hp) (A L : Addr) (tb : Tbl) (st : List StT) : Prop where
  un : Un Z H A L tb st
  z : ∀ b, Z b → ¬ (F b ∨ O b ∨ b = g)
  lo : ¬ (F L ∨ O L ∨ L = g)
  ln : ¬ N L
  ll : L ≠ l
theorem Sit.od {r : Ar} {Tb : List (Addr × Str)} {F O N : Addr → Prop} {g l : Addr} {H : Hp} {d o : Addr} {S W : DS} (s : Sit r Tb F O N g l H d o S W) : OD (fun b => F b ∨ O b ∨ b = g) H := s.t.df.or (s.t.dO.or (bag_od s.b))
theorem UZ.ev {g l : Addr} {F O N F' O' N' Z : Addr → Prop} {H H' : Hp} {A L : Addr} {tb : Tbl} {st : List StT} (u : UZ g l F O N Z H A L tb st) (a : Ev g F O N F' O' N' H H') (od : OD (fun b => F b ∨ O b ∨ b = g) H) : UZ g l F' O' N' Z H' A L tb st := by
  obtain ⟨ts, eL, _⟩ := u.un.l
  have oL := a.out eL u.lo
  refine ⟨u.un.kp a.k u.z u.lo od.nt, fun b hb => ?_, fun z => ?_, oL.2.2.2 u.ln, u.ll⟩
  · obtain ⟨v, e⟩ := u.un.al b hb
    have ob := a.out e (u.z b hb)
    exact fun z => z.elim ob.2.1 fun z => z.elim ob.2.2.1 fun z => u.z b hb (.inr (.inr z))
  · exact z.elim oL.2.1 fun z => z.elim oL.2.2.1 fun z => u.lo (.inr (.inr z))
theorem PAt.ev {g : Addr} {F O N F' O' N' : Addr → Prop} {H H' : Hp} {A : Addr} {kv : Tbl} (h : PAt H A kv) (a : Ev g F O N F' O' N' H H') (od : OD (fun b => F b ∨ O b ∨ b = g) H) (n : ¬ (F A ∨ O A ∨ A = g)) : PAt H' A kv := h.kp a.k n od.nt
theorem PAt.same {H H' : Hp} {A : Addr} {kv : Tbl} (h : PAt H A kv) (s : Same H H') : PAt H' A kv := h.kp (G := fun _ => False) (KpF.same s) (fun z => z) fun _ _ z => z.elim
theorem UZ.same {g l : Addr} {F O N Z : Addr → Prop} {H H' : Hp} {A L : Addr} {tb : Tbl} {st : List StT} (u : UZ g l F O N Z H A L tb st) (s : Same H H') : UZ g l F O N Z H' A L tb st := ⟨u.un.same s, u.z, u.lo, u.ln, u.ll⟩
theorem UZ.more {g l : Addr} {F O N Z : Addr → Prop} {H : Hp} {A L B : Addr} {tb : Tbl} {st : List StT} (u : UZ g l F O N Z H A L tb st) (n : B ≠ L) {v : HO} (e : H B = some v) (nB : ¬ (F B ∨ O B ∨ B = g)) : UZ g l F O N (fun b => Z b ∨ b = B) H A L tb st :=
  ⟨u.un.more n e, fun b hb => hb.elim (u.z b) fun q => by rw [q]; exact nB, u.lo, u.ln, u.ll⟩
theorem UZ.alL {g l : Addr} {F O N Z : Addr → Prop} {H : Hp} {A L : Addr} {tb : Tbl} {st : List StT} (u : UZ g l F O N Z H A L tb st) {B : Addr} (h : H B = none) : B ≠ L ∧ ¬ Z B := by
  obtain ⟨ts, eL, _⟩ := u.un.l
  refine ⟨(fun z => by rw [z, eL] at h; cases h), fun z => ?_⟩
  obtain ⟨v, e⟩ := u.un.al B z
  rw [e] at h
  cases h
theorem check_pcs (S : DS) : (S.check false).pcs = ((pcsT S.kv).length : Int) := by
  have e : ∀ S1 : DS, S1.kv = S.kv → (S1.turn (cutT (textOf S1.kv))).pcs = ((pcsT S.kv).length : Int) := fun S1 h => by
    show ((cutT (textOf S1.kv)).length : Int) = _
    rw [h]
    rfl
  unfold DS.check
  by_cases c : S.soft = true
  · rw [if_pos c, if_neg Bool.false_ne_true]
    exact e S.sync (sync_same S).1
  · rw [if_neg c, if_neg Bool.false_ne_true]
    exact e S rfl
theorem Lu.soft' {S : DS} {tb : Tbl} {st : List StT} (L : Lu S tb st) : Lu (S.check false) (if (pcsT S.kv).length + 1 > 0 ∧ (S.check false).op.length ≠ S.op.length + ((pcsT S.kv).length + 1) then S.kv else tb) ((if (pcsT S.kv).length + 1 > 0 ∧ (S.check false).op.length ≠ S.op.length + ((pcsT S.kv).length + 1) then [] else st) ++ [(true, (pcsT S.kv).length + 1, S.kv)]) := by
  have := L.soft
  by_cases c : (S.check false).op.length ≠ S.op.length + ((pcsT S.kv).length + 1)
  · rw [if_pos c, if_pos c] at this
    rw [if_pos ⟨Nat.succ_pos _, c⟩, if_pos ⟨Nat.succ_pos _, c⟩]
    exact this
  · rw [if_neg c, if_neg c] at this
    rw [if_neg (fun q => c q.2), if_neg (fun q => c q.2)]
    exact this
theorem OwnX.opl {F N : Addr → Prop} {H : Hp} {o : Addr} {S : DS} {sh hd C0 C1 op : Addr} {ts : List Addr} (h : OwnX F N H o S sh hd C0 C1 op ts) : (ts.map V.ref).length = S.op.length := by
  rw [List.length_map]
  exact h.ops.len
def spunsynced (r : Ar) : Sp := fun vs H Q _ => ∃ (g l d o : Addr) (F O N : Addr → Prop) (S : DS), vs = [.ref g, .ref d, .ref o] ∧ Sit r [] F O N g l H d o S S ∧ Gd S 11 ∧ Lu S S.kv [] ∧ ∀ (F' O' N' Z : Addr → Prop) (S' : DS) (A L t : Addr) (tb : Tbl) (st : List StT) H', Sit r [] F' O' N' g l H' d o S' S' → Gd S' 16 → Lu S' tb st → Un Z H' A L tb st → (∀ b, Z b → ¬ (F' b ∨ O' b ∨ b = g)) → ¬ (F' L ∨ O' L ∨ L = g) → st.length ≤ 5 → (∀ s ∈ st, s.2.1 ≤ 1200) → H' t = some (.tup [.ref A, .ref L]) → Q (.ref t) H'
theorem ok_unsynced {P : Program} {w : World} {K : PySem.W.Frag} {mg : Str → Option Value} {base : Heap} {f : Addr} {fd : FuncData} (D : Def K mg "_law_unsynced" sunsynced Punsynced f fd) (T : Txt K mg) {r : Ar} (KR : Kr K mg r) {fdRwrite : FuncData} (GDisk_write : FnOk P w K mg base CX0 4 r.fwrite fdRwrite PDisk_write (spDisk_write r)) (BDisk_write : Binds K fdRwrite PDisk_write []) {fdRcheck : FuncData} {uT : Value} (ruT : RelV (.bl true) uT) (GDisk_check : FnOk P w K mg base CX0 3 r.fcheck fdRcheck PDisk_check (spDisk_check r)) (BcheckT : Binds K fdRcheck PDisk_check [uT]) (KBDisk_check_synced : KBn K fdRcheck PDisk_check 1 ["synced"] kg1 kg1) {fdraw : Addr} {fddraw : FuncData} (Ddraw : Def K mg "_law_draw" sdraw Pdraw fdraw fddraw) (Gdraw : FnOk P w K mg base CX0 1 fdraw fddraw Pdraw (spdraw)) {fcheck : Addr} {fdcheck : FuncData} (Dcheck : Def K mg "_law_check" scheck Pcheck fcheck fdcheck) (Gcheck : FnOk P w K mg base CX0 2 fcheck fdcheck Pcheck (spcheck)) {fwrite : Addr} {fdwrite : FuncData} (Dwrite : Def K mg "_law_write" swrite Pwrite fwrite fdwrite) (Gwrite : FnOk P w K mg base CX0 3 fwrite fdwrite Pwrite (spwrite)) {fpairs : Addr} {fdpairs : FuncData} (Dpairs : Def K mg "_law_pairs" spairs Ppairs fpairs fdpairs) (Gpairs : FnOk P w K mg base CX0 1 fpairs fdpairs Ppairs (sppairs)) {fchanges : Addr} {fdchanges : FuncData} (Dchanges : Def K mg "_law_changes" schanges Pchanges fchanges fdchanges) (Gchanges : FnOk P w K mg base CX0 5 fchanges fdchanges Pchanges (spchanges)) :
    FnOk P w K mg base CX0 6 f fd Punsynced (spunsynced r) := by
  refine D.F.ok scunsynced (fun vs H Q E h => ?_) (fun cdv A outer s H vs Q E hr h => ?_)
  · obtain ⟨g, l, d, o, F, O, N, S, rfl, st0, gd, lu, k⟩ := h
    rfl
  · obtain ⟨g, l, d, o, F, O, N, S, rfl, st0, gd, lu, k⟩ := h
    have hrdraw : Room 1 _ := hr.mono (by decide)
    have hrcheck : Room 2 _ := hr.mono (by decide)
    have hrwrite : Room 3 _ := hr.mono (by decide)
    have hrpairs : Room 1 _ := hr.mono (by decide)
    have hrchanges : Room 5 _ := hr.mono (by decide)
    have hrDisk_write : Room 4 _ := hr.mono (by decide)
    have hrDisk_check : Room 3 _ := hr.mono (by decide)
    refine ⟨_, (pss_cons (ps_par (i := 3) (j := 4) (by rfl) scunsynced.nd rfl rfl (by decide) rfl rfl (pa_cons (pe_call Gpairs hrpairs rfl Dpairs.g Dpairs.F.kp Dpairs.b .nil pass0 (pa_cons (pe_dget (hu_of hr) (pv 2) pe_str (fun _ _ => rfl)) pa_nil)) (pa_cons (pe_lst pa_nil) pa_nil)) (by rfl))
        (pss_cons (ps_for PassesOwn.never rfl (pi_range1 rfl T.n_range (pa_cons (pe_op op_add pe_int (pe_call Gdraw hrdraw rfl Ddraw.g Ddraw.F.kp Ddraw.b .nil pass0 (pa_cons (pv 0) (pa_cons pe_int pa_nil)))) pa_nil)) (pg_name (i := 5) scunsynced.nd rfl (Or.inl rfl))
          (pss_cons (ps_par (i := 6) (j := 7) (by rfl) scunsynced.nd rfl rfl (by decide) rfl rfl (pa_cons (pe_callB call_len_seq (by rfl) T.n_len PySem.boot_len (pa_cons (pe_dget (hu_of hr) (pv 2) pe_str (fun _ _ => rfl)) pa_nil)) (pa_cons (pe_call Gpairs hrpairs rfl Dpairs.g Dpairs.F.kp Dpairs.b .nil pass0 (pa_cons (pe_dget (hu_of hr) (pv 2) pe_str (fun _ _ => rfl)) pa_nil)) pa_nil)) (by rfl))
        (Evl.pss_cut (ps_if (pt_cmpR op_eq (pe_call Gdraw hrdraw rfl Ddraw.g Ddraw.F.kp Ddraw.b .nil pass0 (pa_cons (pv 0) (pa_cons pe_int pa_nil))) pe_int (nomark _)) (pss_cons (ps_expr (LT.pe_methKw (pv 1) KR.cl KR.mcheck GDisk_check hrDisk_check KBDisk_check_synced pass0 (pk_cons pe_bl pk_nil)))
        (pss_cons (ps_expr (pe_call Gcheck hrcheck rfl Dcheck.g Dcheck.F.kp Dcheck.b .nil pass0 (pa_cons (pv 2) (pa_cons pe_bl pa_nil))))
        (pss_cons (ps_set (i := 8) scunsynced.nd rfl (Or.inl rfl) (pe_op op_add (pe_dget (hu_of hr) (pv 2) pe_str (fun _ _ => rfl)) pe_int))
        (pss_one (ps_set (i := 9) scunsynced.nd rfl (Or.inl rfl) (pe_tup (pa_cons pe_str (pa_cons (pv 8) (pa_cons (pv 7) pa_nil))))))))) (pss_cons (ps_set (i := 10) scunsynced.nd rfl (Or.inl rfl) (pe_call Gchanges hrchanges rfl Dchanges.g Dchanges.F.kp Dchanges.b .nil pass0 (pa_cons (pv 0) (pa_cons (pe_dget (hu_of hr) (pv 2) pe_str (fun _ _ => rfl)) pa_nil))))
        (pss_cons (ps_expr (pe_meth (pv 1) KR.cl KR.mwrite GDisk_write hrDisk_write BDisk_write .nil pass0 (pa_cons (pv 10) pa_nil)))
        (pss_cons (ps_set (i := 8) scunsynced.nd rfl (Or.inl rfl) (pe_call Gwrite hrwrite rfl Dwrite.g Dwrite.F.kp Dwrite.b .nil pass0 (pa_cons (pv 2) (pa_cons (pv 10) pa_nil))))
        (pss_one (ps_set (i := 9) scunsynced.nd rfl (Or.inl rfl) (pe_tup (pa_cons pe_str (pa_cons (pv 8) (pa_cons (pe_call Gpairs hrpairs rfl Dpairs.g Dpairs.F.kp Dpairs.b .nil pass0 (pa_cons (pe_dget (hu_of hr) (pv 2) pe_str (fun _ _ => rfl)) pa_nil)) pa_nil))))))))))
        (Evl.pss_cut (ps_if (PW.pt (pw_and (pt_cmpR op_gt (pv 8) pe_int (nomark _)) (pw_and1 (pt_cmpR op_ne (pe_callB call_len_seq (by rfl) T.n_len PySem.boot_len (pa_cons (pe_dget (hu_of hr) (pv 2) pe_str (fun _ _ => rfl)) pa_nil)) (pe_op op_add (pv 6) (pv 8)) (nomark _))))) (pss_one (ps_par (i := 3) (j := 4) (by rfl) scunsynced.nd rfl rfl (by decide) rfl rfl (pa_cons (pv 7) (pa_cons (pe_lst pa_nil) pa_nil)) (by rfl))) pss_nil)
        (pss_one (ps_expr (pe_bm PySem.F.plainAttrs_list PySem.F.slot_list_append PySem.F.type_list_append mt_append (pv 4) (pa_cons (pv 9) pa_nil))))))))
        (pss_one (ps_ret (pe_tup (pa_cons (pv 3) (pa_cons (pv 4) pa_nil))))))), ?_⟩
    obtain ⟨sh, hd, C0, C1, op, tsO, w⟩ := id st0.t.W
    refine ⟨_, rfl, o, .ref sh, rfl, .inl ⟨_, kS "shelf", .inl w.eo, rfl, rfl⟩, sh, S.kv, rfl, w.es, gd.t.tab, fun A0 ts0 H1 s1 nA eA pA => ⟨(by show 0 ≤ sizeLine; decide), fun L0 hL => ?_⟩⟩
    obtain ⟨a1, a2, a3, a4⟩ := st0.fresh nA
    have st1 := (st0.same s1).1
    obtain ⟨b1, b2, b3, b4⟩ := st1.fresh hL
    have bl := (st1.b.ne hL).2
    have t1 := same_new (o := .lst []) hL
    have u1 : UZ g l F O N (· = A0) (upd H1 L0 (.lst [])) A0 L0 S.kv [] := ⟨⟨rfl, (PAt.same ⟨ts0, eA, pA⟩ t1), ⟨[], upd_same, .nil⟩, (fun z => ne_of_none eA hL (show L0 = A0 from z).symm), fun b hb => by
        have hb : b = A0 := hb
        exact ⟨_, by rw [hb]; exact t1 _ _ eA⟩⟩, fun b hb => by
        have hb : b = A0 := hb
        rw [hb]
        exact fun z => z.elim a1 fun z => z.elim a2 a4, fun z => z.elim b1 fun z => z.elim b2 b4, b3, bl⟩
    have st2 := (st1.same t1).1
    generalize upd H1 L0 (.lst []) = H2 at st2 u1 ⊢
    clear w st1 s1 t1 pA eA nA a1 a2 a3 a4 b1 b2 b3 b4 bl hL st0
    refine ⟨_, _, rfl, _, rfl, g, l, 4, rfl, st2.b, by decide, by decide, fun n H3 n0 n1 r1 => ⟨_, _, rfl, rfl, _, rfl, by omega, by omega, ?_⟩⟩
    obtain ⟨st3, ev3⟩ := st2.ok r1
    have u3 := u1.ev ev3 st2.od
    clear st2 u1 ev3 r1
    refine for_range (lo := 0) (n := (1 + n).toNat) (fun i σ H' => ∃ (F' O' N' Z : Addr → Prop) (S' : DS) (A L : Addr) (tb : Tbl) (st : List StT) (v5 v6 v7 v8 v9 v10 : Option V), σ = [some (.ref g), some (.ref d), some (.ref o), some (.ref A), some (.ref L), v5, v6, v7, v8, v9, v10] ∧ Sit r [] F' O' N' g l H' d o S' S' ∧ Gd S' (11 + i) ∧ Lu S' tb st ∧ UZ g l F' O' N' Z H' A L tb st ∧ st.length ≤ i ∧ ∀ s ∈ st, s.2.1 ≤ 1200)
      ⟨F, O, N, _, S, A0, L0, _, [], none, none, none, none, none, none, rfl, st3, gd, lu, u3, Nat.le_refl _, fun s hs => by cases hs⟩ ?_ ?_
    · rintro i σ H4 hi ⟨F4, O4, N4, Z, S4, A, L, tb, st, v5, v6, v7, v8, v9, v10, rfl, st4, gd4, lu4, u4, sl, sm⟩
      clear st3 gd lu u3
      obtain ⟨sh, hd, C0, C1, op, tsO, w⟩ := id st4.t.W
      have wl := w.opl
      have ok := gd4.ok (by omega)
      refine ⟨_, rfl, o, .ref op, rfl, .inl ⟨_, kS "open", .inl w.eo, rfl, rfl⟩, op, _, rfl, .inl (SqL.of w.ep), _, rfl, o, .ref sh, rfl, .inl ⟨_, kS "shelf", .inl w.eo, rfl, rfl⟩, sh, S4.kv, rfl, w.es, gd4.t.tab, fun B tsB H5 s5 nB eB pB => ⟨_, _, rfl, ?_⟩⟩
      rw [wl]
      obtain ⟨b1, b2, b3, b4⟩ := st4.fresh nB
      have nZ := u4.alL nB
      have oB : ¬ (F4 B ∨ O4 B ∨ B = g) := fun z => z.elim b1 fun z => z.elim b2 b4
      have st5 := (st4.same s5).1
      have u5 := (u4.same s5).more nZ.1 eB oB
      have pB5 : PAt H5 B S4.kv := ⟨tsB, eB, pB⟩
      clear w wl u4 st4 s5 nB eB pB b1 b2 b3 b4 nZ
      refine ⟨fun σ H' => ∃ (F' O' N' Z' : Addr → Prop) (S' : DS) (x : StT) (t sx : Addr) (v10 : Option V), σ = [some (.ref g), some (.ref d), some (.ref o), some (.ref A), some (.ref L), some (.int ((0 : Int) + (i : Int))), some (.int (S4.op.length : Int)), some (.ref B), some (.int (x.2.1 : Int)), some (.ref t), v10] ∧ Sit r [] F' O' N' g l H' d o S' S' ∧ Gd S' (11 + i + 1) ∧ UZ g l F' O' N' Z' H' A L tb st ∧ Z' B ∧ PAt H' B S4.kv ∧
        H' t = some (.tup (stepV ⟨x.1, x.2.1, sx⟩)) ∧ Z' sx ∧ PAt H' sx x.2.2 ∧ x.2.1 ≤ 1200 ∧ Lu S' (if x.2.1 > 0 ∧ S'.op.length ≠ S4.op.length + x.2.1 then S4.kv else tb) ((if x.2.1 > 0 ∧ S'.op.length ≠ S4.op.length + x.2.1 then [] else st) ++ [x]), ?_, ?_⟩
      · refine ⟨_, rfl, g, l, 4, rfl, st5.b, by decide, by decide, fun p H6 p0 p1 r6 => ⟨rfl, _, rfl, ite_eq (fun _ => ?_) (fun _ => ?_)⟩⟩
        · obtain ⟨st6, ev6⟩ := st5.ok r6
          have u6 := u5.ev ev6 st5.od
          have pB6 := pB5.ev ev6 st5.od oB
          obtain ⟨dx, T, AA, A0, A1, U, us, x⟩ := id st6.t.D
          refine ⟨_, rfl, d, dx, _, rfl, x.hd, rfl, rfl, d, F4, S4, false, rfl, st6.t.D, ok, fun H7 c7 => ?_⟩
          obtain ⟨F7, st7, ev7⟩ := st6.disk c7
          have u7 := u6.ev ev7 st6.od
          have pB7 := pB6.ev ev7 st6.od oB
          have oB7 := u7.z B (.inr rfl)
          refine ⟨_, rfl, o, O4, N4, S4, false, rfl, st7.t.W, ok, gd4.full, fun H8 c8 => ?_⟩
          obtain ⟨O8, N8, st8, ev8⟩ := st7.own c8
          have u8 := u7.ev ev8 st7.od
          have pB8 := pB7.ev ev8 st7.od oB7
          obtain ⟨sh, hd, C0, C1, op, tsO, w⟩ := id st8.t.W
          have ep := check_pcs S4
          refine ⟨_, rfl, o, .int (S4.check false).pcs, rfl, .inl ⟨_, kS "pieces", .inl w.eo, rfl, rfl⟩, _, _, rfl, rfl, ?_⟩
          refine ⟨_, rfl, _, rfl, (by show 3 ≤ sizeLine; decide), fun t ht => ?_⟩
          have st9 := same_new (o := .tup [.str "check", .int ((S4.check false).pcs + 1), .ref B]) ht
          have pl : (pcsT S4.kv).length ≤ 1190 := cut_few gd4.t.tab
          refine ⟨_, _, _, _, S4.check false, (true, (pcsT S4.kv).length + 1, S4.kv), t, B, v10, ?_, (st8.same st9).1, ((gd4.check false).gd (by decide) (by decide)), u8.same st9, .inr rfl, pB8.same st9, ?_, .inr rfl, pB8.same st9, by show _ + 1 ≤ 1200; omega, lu4.soft'⟩
          · rw [ep]
            rfl
          · rw [upd_same, ep]
            rfl
        · obtain ⟨st6, ev6⟩ := st5.ok r6
          have u6 := u5.ev ev6 st5.od
          have pB6 := pB5.ev ev6 st5.od oB
          obtain ⟨sh, hd, C0, C1, op, tsO, w⟩ := id st6.t.W
          refine ⟨_, rfl, _, rfl, o, .ref sh, rfl, .inl ⟨_, kS "shelf", .inl w.eo, rfl, rfl⟩, g, l, sh, S4.kv, rfl, st6.b, (fun z => st6.og (by rw [← z]; exact w.fs)), w.es, gd4.t, fun C ch H7 r7 hC eC tc => ?_⟩
          obtain ⟨nF, nO, nN, nG⟩ := st6.fresh hC
          obtain ⟨st7, ev7⟩ := st6.ok r7
          have u7 := u6.ev ev7 st6.od
          have pB7 := pB6.ev ev7 st6.od oB
          obtain ⟨dx, T, AA, A0, A1, U, us, x⟩ := id st7.t.D
          refine ⟨_, rfl, d, dx, _, rfl, x.hd, rfl, _, rfl, d, C, F4, S4, ch, rfl, st7.t.D, ok, eC, nF, tc.tab, fun H8 c8 => ?_⟩
          obtain ⟨F8, st8, ev8⟩ := st7.disk c8
          have u8 := u7.ev ev8 st7.od
          have pB8 := pB7.ev ev8 st7.od oB
          have oB8 := u8.z B (.inr rfl)
          obtain ⟨eC8, nF8, nO8, nN8⟩ := ev8.out eC (fun z => z.elim nF fun z => z.elim nO nG)
          refine ⟨_, rfl, _, rfl, o, C, O4, N4, S4, ch, rfl, st8.t.W, ok, gd4.full, eC8, nO8, tc.tab, fun H9 c9 => ?_⟩
          obtain ⟨O9, N9, st9, ev9⟩ := st8.own c9
          have u9 := u8.ev ev9 st8.od
          have pB9 := pB8.ev ev9 st8.od oB8
          have gd9 := gd4.write tc
          obtain ⟨sh, hd, C0, C1, op, tsO, w⟩ := id st9.t.W
          refine ⟨_, rfl, _, rfl, o, .ref sh, rfl, .inl ⟨_, kS "shelf", .inl w.eo, rfl, rfl⟩, sh, _, rfl, w.es, gd9.t.tab, fun D tsD H10 s10 nD eD pD => ⟨(by show 3 ≤ sizeLine; decide), fun t ht => ?_⟩⟩
          obtain ⟨c1, c2, c3, c4⟩ := st9.fresh nD
          have nZ := u9.alL nD
          have u10 := (u9.same s10).more nZ.1 eD (fun z => z.elim c1 fun z => z.elim c2 c4)
          have s11 := same_new (o := .tup [.str "record", .int ((nR ch : Nat) : Int), .ref D]) ht
          have pl : nR ch ≤ 1190 := cut_few tc.tab
          refine ⟨_, _, _, _, S4.write ch, (false, nR ch, (S4.write ch).kv), t, D, some (.ref C), rfl, ((st9.same s10).1.same s11).1, gd9, u10.same s11, .inl (.inr rfl), (pB9.same s10).same s11, ?_, .inr rfl, PAt.same ⟨tsD, eD, pD⟩ s11, by show nR ch ≤ 1200; omega, lu4.write gd4 tc⟩
          rw [upd_same]
          rfl
      rintro σ H6 ⟨F6, O6, N6, Z6, S6, x, t, sx, v10, rfl, st6, gd6, u6, zB, pB6, et, zx, px, xm, lu6⟩
      clear st5 u5 pB5 lu4 gd4 ok oB
      refine ⟨fun σ H' => ∃ (A' L' : Addr) (tb' : Tbl) (st' : List StT), σ = [some (.ref g), some (.ref d), some (.ref o), some (.ref A'), some (.ref L'), some (.int ((0 : Int) + (i : Int))), some (.int (S4.op.length : Int)), some (.ref B), some (.int (x.2.1 : Int)), some (.ref t), v10] ∧ Sit r [] F6 O6 N6 g l H' d o S6 S6 ∧ UZ g l F6 O6 N6 Z6 H' A' L' tb' st' ∧ Lu S6 tb' (st' ++ [x]) ∧ st'.length ≤ i ∧ (∀ s ∈ st', s.2.1 ≤ 1200) ∧ H' t = some (.tup (stepV ⟨x.1, x.2.1, sx⟩)) ∧ PAt H' sx x.2.2, ?_, ?_⟩
      · have no : ¬ (x.2.1 > 0 ∧ S6.op.length ≠ S4.op.length + x.2.1) → ∃ (A' L' : Addr) (tb' : Tbl) (st' : List StT), [some (V.ref g), some (.ref d), some (.ref o), some (.ref A), some (.ref L), some (.int ((0 : Int) + (i : Int))), some (.int (S4.op.length : Int)), some (.ref B), some (.int (x.2.1 : Int)), some (.ref t), v10] = [some (.ref g), some (.ref d), some (.ref o), some (.ref A'), some (.ref L'), some (.int ((0 : Int) + (i : Int))), some (.int (S4.op.length : Int)), some (.ref B), some (.int (x.2.1 : Int)), some (.ref t), v10] ∧ Sit r [] F6 O6 N6 g l H6 d o S6 S6 ∧ UZ g l F6 O6 N6 Z6 H6 A' L' tb' st' ∧ Lu S6 tb' (st' ++ [x]) ∧ st'.length ≤ i ∧ (∀ s ∈ st', s.2.1 ≤ 1200) ∧ H6 t = some (.tup (stepV ⟨x.1, x.2.1, sx⟩)) ∧ PAt H6 sx x.2.2 := fun q => by
          rw [if_neg q, if_neg q] at lu6
          exact ⟨A, L, tb, st, rfl, st6, u6, lu6, sl, sm, et, px⟩
        obtain ⟨sh, hd, C0, C1, op, tsO, w⟩ := id st6.t.W
        have wl := w.opl
        refine ⟨_, rfl, _, _, rfl, rfl, _, rfl, ite_d (fun c1 => ?_) (fun c1 => no fun q => c1 (by omega))⟩
        refine ⟨_, rfl, o, .ref op, rfl, .inl ⟨_, kS "open", .inl w.eo, rfl, rfl⟩, op, _, rfl, .inl (SqL.of w.ep), _, rfl, _, rfl, _, _, rfl, rfl, rfl, _, rfl, ite_nd (fun c2 => ?_) (fun c2 => no fun q => q.2 (by have := V.int.inj c2; omega))⟩
        have yes : x.2.1 > 0 ∧ S6.op.length ≠ S4.op.length + x.2.1 := ⟨by omega, fun z => c2 (by rw [wl, z]; exact congrArg V.int (by omega))⟩
        rw [if_pos yes, if_pos yes] at lu6
        refine ⟨_, rfl, (by show 0 ≤ sizeLine; decide), fun L' hL' => ⟨_, _, rfl, B, L', S4.kv, [], rfl, ?_⟩⟩
        have s7 := same_new (o := .lst []) hL'
        obtain ⟨b1, b2, b3, b4⟩ := st6.fresh hL'
        refine ⟨(st6.same s7).1, ⟨⟨zB, pB6.same s7, ⟨[], upd_same, .nil⟩, (u6.alL hL').2, fun b hb => ?_⟩, u6.z, fun z => z.elim b1 fun z => z.elim b2 b4, b3, (st6.b.ne hL').2⟩, lu6, Nat.zero_le _, (fun s hs => by cases hs), s7 _ _ et, px.same s7⟩
        obtain ⟨v, e⟩ := u6.un.al b hb
        exact ⟨v, s7 _ _ e⟩
      rintro σ H7 ⟨A', L', tb', st', rfl, st7, u7, lu7, sl', sm', et', px'⟩
      obtain ⟨ts, eL, pr⟩ := u7.un.l
      have tl := pr.length
      refine ⟨_, rfl, .inl ⟨rfl, _, SqL.of eL⟩, _, rfl, L', _, _, rfl, rfl, eL, ?_, ?_⟩
      · rw [List.length_map, tl]
        exact Nat.lt_of_le_of_lt (show _ ≤ 100 by omega) (by decide)
      have nL : ¬ (F6 L' ∨ O6 L' ∨ L' = g) := u7.lo
      have m8 := st7.mutG (u' := .lst (ts.map V.ref ++ [.ref t])) eL True.intro (fun z => nL (.inl z)) (fun z => nL (.inr (.inl z))) u7.ln (fun z => nL (.inr (.inr z))) u7.ll
      have k8 : KpF (· = L') H7 (upd H7 L' (.lst (ts.map V.ref ++ [.ref t]))) := (KpF.refl _ _).upd rfl
      have nt8 : NT (· = L') H7 := fun b xs hb e => by
        have hb : b = L' := hb
        rw [hb, eL] at e
        cases e
      have nz : ∀ b, Z6 b → ¬ b = L' := fun b hb z => u7.un.nl (z ▸ hb)
      have un8 := u7.un
      refine ⟨F6, O6, N6, Z6, S6, A', L', tb', st' ++ [x], _, _, _, _, _, _, rfl, m8, gd6, lu7, ⟨⟨un8.za, un8.pa.kp k8 (nz _ un8.za) nt8, ⟨ts ++ [t], by rw [upd_same, List.map_append]; rfl, ?_⟩, un8.nl, fun b hb => ?_⟩, u7.z, nL, u7.ln, u7.ll⟩, by rw [List.length_append]; show st'.length + 1 ≤ i + 1; omega, fun s hs => ?_⟩
      · refine Paired.snoc (pr.mono fun t s ⟨sh, e1, z, e2⟩ => ⟨sh, k8 _ _ (nt8.of e1) e1, z, e2.kp k8 (nz _ z) nt8⟩) ?_
        exact ⟨sx, k8 _ _ (nt8.of et') et', zx, px'.kp k8 (nz _ zx) nt8⟩
      · obtain ⟨v, e⟩ := un8.al b hb
        exact ⟨v, k8 _ _ (nz b hb) e⟩
      · rcases List.mem_append.mp hs with hs | hs
        · exact sm' s hs
        · rw [List.mem_singleton.mp hs]
          exact xm
    · rintro σ H4 ⟨F4, O4, N4, Z, S4, A, L, tb, st, v5, v6, v7, v8, v9, v10, rfl, st4, gd4, lu4, u4, sl, sm⟩
      refine ⟨_, rfl, _, rfl, (by show 2 ≤ sizeLine; decide), fun t ht => ?_⟩
      have s5 := same_new (o := .tup [.ref A, .ref L]) ht
      exact k F4 O4 N4 Z S4 A L t tb st _ (st4.same s5).1 (gd4.up (by omega)) lu4 (u4.un.same s5) u4.z u4.lo (by omega) sm upd_same
end k15
namespace k15
open PySem L2 LC RM SM TL
theorem check_fal (S : DS) (hard : Bool) : (S.check hard).fal = S.fal := by
  have e : ∀ S1 : DS, S1.fal = S.fal → ∀ S4 : DS, S4.fal = S1.fal → (if hard = true then S4.sync else S4).fal = S.fal := fun S1 h S4 h4 => by
    cases hard with
    | true => rw [if_pos rfl, sync_fal, h4, h]
    | false => rw [if_neg Bool.false_ne_true, h4, h]
  unfold DS.check
  by_cases c : S.soft = true
  · rw [if_pos c]
    exact e S.sync (sync_fal S) _ rfl
  · rw [if_neg c]
    exact e S rfl _ rfl
def spcut_so (r : Ar) : Sp := fun vs H Q _ => ∃ (d C B : Addr) (way : Int) (F : Addr → Prop) (S : DS) (n : Nat) (ws : List Wd) (tb : Tbl) (st : List StT), vs = [.ref d, .ref C, .ref B, .int way] ∧ DiskAt r F H d S ∧ Gd S n ∧ n ≤ 100 ∧ Lu S tb st ∧ (H C = some (.lst (ws.map Wd.v)) ∨ H C = some (.tup (ws.map Wd.v))) ∧ PAt H B (dueG ws tb st).1 ∧ ∀ H', Same H H' → Q (.bl true) H'
theorem ok_cut_so {P : Program} {w : World} {K : PySem.W.Frag} {mg : Str → Option Value} {base : Heap} {f : Addr} {fd : FuncData} (D : Def K mg "_law_cut_so" scut_so Pcut_so f fd) (T : Txt K mg) {r : Ar} (KR : Kr K mg r) {fdRcopy : FuncData} (GDisk_copy : FnOk P w K mg base CX0 6 r.fcopy fdRcopy PDisk_copy (spDisk_copy r)) (BDisk_copy : Binds K fdRcopy PDisk_copy []) {fdRtable : FuncData} (GDisk_table : FnOk P w K mg base CX0 1 r.ftable fdRtable PDisk_table (spDisk_table r)) (BDisk_table : Binds K fdRtable PDisk_table []) {fdRfallen : FuncData} (GDisk_fallen : FnOk P w K mg base CX0 1 r.ffallen fdRfallen PDisk_fallen (spDisk_fallen r)) (BDisk_fallen : Binds K fdRfallen PDisk_fallen []) {fdRwake : FuncData} (GDisk_wake : FnOk P w K mg base CX0 5 r.fwake fdRwake PDisk_wake (spDisk_wake r)) (BDisk_wake : Binds K fdRwake PDisk_wake []) {fdRfall : FuncData} (GDisk_fall : FnOk P w K mg base CX0 2 r.ffall fdRfall PDisk_fall (spDisk_fall K r)) (BDisk_fall : Binds K fdRfall PDisk_fall []) (BfallE : Binds K fdRfall PDisk_fall [.ref r.ed]) (KBDisk_fall_cut : KBn K fdRfall PDisk_fall 1 ["cut"] kg1 kg1) {flike : Addr} {fdlike : FuncData} (Dlike : Def K mg "_law_like" slike Plike flike fdlike) (Glike : FnOk P w K mg base CX0 4 flike fdlike Plike (splike 4)) :
    FnOk P w K mg base CX0 8 f fd Pcut_so (spcut_so r) := by
  refine D.F.ok sccut_so (fun vs H Q E h => ?_) (fun cdv A outer s H vs Q E hr h => ?_)
  · obtain ⟨d, C, B, way, F, S, n, ws, tb, st, rfl, D0, gd, hn, lu, hC, pB, k⟩ := h
    rfl
  · obtain ⟨d, C, B, way, F, S, n, ws, tb, st, rfl, D0, gd, hn, lu, hC, pB, k⟩ := h
    have hrlike : Room 4 _ := hr.mono (by decide)
    have hrDisk_copy : Room 6 _ := hr.mono (by decide)
    have hrDisk_table : Room 1 _ := hr.mono (by decide)
    have hrDisk_wake : Room 5 _ := hr.mono (by decide)
    have hrDisk_fall : Room 2 _ := hr.mono (by decide)
    have hrP : Room 2 _ := hr.mono (by decide)
    refine ⟨_, (pss_cons (ps_set (i := 4) sccut_so.nd rfl (Or.inl rfl) (pe_meth0 (pv 0) KR.cl KR.mcopy GDisk_copy hrDisk_copy BDisk_copy .nil pass0))
        (Evl.pss_cut (ps_if (PW.pt (pw_and (pt_cmpR op_eq (pv 3) pe_int (nomark _)) (pw_and1 (pt_not (pt_truth (pv 1) (by intro _; rfl)))))) (pss_one (ps_expr (pe_meth0 (pv 4) KR.cl KR.mfall GDisk_fall hrDisk_fall BfallE (.cons (show RelV (V.ref r.ed) (.ref r.ed) from rfl) .nil) pass0))) (pss_one (ps_if (pt_cmpR op_eq (pv 3) pe_int (nomark _)) (pss_one (ps_expr (LT.pe_methKw (pv 4) KR.cl KR.mfall GDisk_fall hrDisk_fall KBDisk_fall_cut pass0 (pk_cons (pv 1) pk_nil)))) (pss_one (ps_expr (pe_meth (pv 4) KR.cl KR.mfall GDisk_fall hrDisk_fall BDisk_fall .nil pass0 (pa_cons (pv 1) pa_nil)))))))
        (pss_cons (ps_if (PW.pt (pw_or (pt_not (pt_val (pe_call Glike hrlike rfl Dlike.g Dlike.F.kp Dlike.b .nil pass0 (pa_cons (pe_lst (pa_cons (pe_prop (pv 4) KR.cl KR.pfallen GDisk_fallen hrP BDisk_fallen .nil pass0 (by rfl)) (pa_cons (pe_meth0 (pv 4) KR.cl KR.mtable GDisk_table hrDisk_table BDisk_table .nil pass0) pa_nil))) (pa_cons (pe_lst (pa_cons pe_bl (pa_cons pe_dnewK pa_nil))) pa_nil))))) (pw_or1 (pt_cmpR op_notN (pe_meth0 (pv 4) KR.cl KR.mwake GDisk_wake hrDisk_wake BDisk_wake .nil pass0) pe_non (nomark _))))) (pss_one (ps_ret pe_bl)) pss_nil)
        (pss_cons (ps_set (i := 5) sccut_so.nd rfl (Or.inr rfl) (pe_meth0 (pv 4) KR.cl KR.mtable GDisk_table hrDisk_table BDisk_table .nil pass0))
        (pss_one (ps_ret (pe_call Glike hrlike rfl Dlike.g Dlike.F.kp Dlike.b .nil pass0 (pa_cons (pe_lst (pa_cons (pe_prop (pv 4) KR.cl KR.pfallen GDisk_fallen hrP BDisk_fallen .nil pass0 (by rfl)) (pa_cons (pe_lc (own := [("_law_key_here", 6)]) (g := gName 6) (tt := tYes) rfl sccut_so.nd (pi_list (pe_callTy (call_listD rfl) (by rfl) T.n_list (by decide +kernel) (pa_cons (pv 5) pa_nil))) (blkOk_by (own := [("_law_key_here", 6)]) (N := Nmcut_so) (sc := defScope scut_so) (by decide +kernel)) (fun _ _ _ _ _ => pg_name (i := 6) sccut_so.nd rfl (Or.inl rfl)) (fun _ _ _ _ _ => pts_nil) (fun _ _ _ _ _ => (pe_tup (pa_cons (pv 6) (pa_cons (pe_dget (hu_of hr) (pv 5) (pv 6) (fun _ _ => rfl)) pa_nil))))) pa_nil))) (pa_cons (pe_lst (pa_cons pe_bl (pa_cons (pv 2) pa_nil))) pa_nil))))))))), ?_⟩
    obtain ⟨dx0, T0, AA0, A00, A10, U0, ts0, x0⟩ := id D0
    refine ⟨_, rfl, d, dx0, _, rfl, x0.hd, rfl, d, F, S, rfl, D0, gd.most.1, gd.most.2, fun y F1 H1 s1 D1 f1 => ?_⟩
    obtain ⟨tT, c0, c1, a, g0, kv, z0, z1, ok0, ok1, l0, l1, r0, r1, eB, ne, dk, ekv⟩ := lu.fall gd hn ws
    obtain ⟨dx1, T1, AA1, A01, A11, U1, ts1, x1⟩ := id D1
    have opk := (gd.ok (by omega)).op
    have nF1 : ∀ {b : Addr} {u : HO}, H b = some u → ¬ F1 b := fun e z => by
      rw [f1 _ z] at e
      cases e
    have hC1 : H1 C = some (.lst (ws.map Wd.v)) ∨ H1 C = some (.tup (ws.map Wd.v)) := hC.imp (s1 _ _) (s1 _ _)
    have nC : ¬ F1 C := hC.elim nF1 nF1
    have cut : CutF K H1 F1 C ws := hC1.elim (fun e => .inl ⟨e, nC⟩) fun e => .inr (.inl ⟨e, nC⟩)
    have behind : ∀ H2, Chg r F1 H1 H2 y (S.fall ws) → ∃ F2, Same H H2 ∧ DiskAt r F2 H2 y (S.fall ws) ∧ ∀ b, F2 b → H b = none := fun H2 ⟨F2, k2, D2, f2⟩ => ⟨F2, fun b u e => k2 _ _ (nF1 e) (s1 _ _ e), D2, fun b z => (f2 b z).elim (f1 b) fun q => s1.free q⟩
    have tru : TruV K (.ref C) H1 (!(ws.map Wd.v).isEmpty) := hC1.elim (fun e => .inl ⟨_, SqL.of e, rfl⟩) fun e => .inr (.inl ⟨_, SqT.of e, rfl⟩)
    refine ⟨fun σ H' => ∃ F2, σ = [some (.ref d), some (.ref C), some (.ref B), some (.int way), some (.ref y), none, none] ∧ Same H H' ∧ DiskAt r F2 H' y (S.fall ws) ∧ ∀ b, F2 b → H b = none, ?_, ?_⟩
    · refine ⟨_, rfl, rfl, _, rfl, ite_eq (fun _ => ⟨_, rfl, _, tru, ?_⟩) (fun _ => ⟨_, rfl, rfl, _, rfl, ite_eq (fun _ => ⟨_, rfl, y, dx1, _, rfl, x1.hd, rfl, _, rfl, rfl, y, C, F1, S, ws, rfl, D1, cut, opk, fun H2 c2 => (behind H2 c2).elim fun F2 p => ⟨F2, rfl, p⟩⟩) (fun _ => ⟨_, rfl, y, dx1, _, rfl, x1.hd, rfl, _, rfl, y, C, F1, S, ws, rfl, D1, cut, opk, fun H2 c2 => (behind H2 c2).elim fun F2 p => ⟨F2, rfl, p⟩⟩)⟩)⟩
      cases ws with
      | nil => exact ⟨_, rfl, y, dx1, _, rfl, x1.hd, rfl, y, r.ed, F1, S, [], rfl, D1, .inr (.inr KR.ced), opk, fun H2 c2 => (behind H2 c2).elim fun F2 p => ⟨F2, rfl, p⟩⟩
      | cons w0 wr => exact ⟨_, rfl, rfl, _, rfl, ite_eq (fun _ => ⟨_, rfl, y, dx1, _, rfl, x1.hd, rfl, _, rfl, rfl, y, C, F1, S, w0 :: wr, rfl, D1, cut, opk, fun H2 c2 => (behind H2 c2).elim fun F2 p => ⟨F2, rfl, p⟩⟩) (fun _ => ⟨_, rfl, y, dx1, _, rfl, x1.hd, rfl, _, rfl, y, C, F1, S, w0 :: wr, rfl, D1, cut, opk, fun H2 c2 => (behind H2 c2).elim fun F2 p => ⟨F2, rfl, p⟩⟩)⟩
    rintro σ H2 ⟨F2, rfl, s2, D2, f2⟩
    obtain ⟨dx2, T2, AA2, A02, A12, U2, ts2, x2⟩ := id D2
    refine ⟨_, rfl, y, dx2, _, rfl, x2.hd, y, F2, S.fall ws, rfl, D2, _, rfl, y, dx2, _, rfl, x2.hd, rfl, y, F2, S.fall ws, rfl, D2, T9.nil.tab, fun Dn H3 s3 n3 e3 => ⟨(by show 2 ≤ sizeLine; decide), fun X1 hX1 => ?_⟩⟩
    have e3 : H3 Dn = some (.dK []) := e3
    have t4 := same_new (o := .lst [.bl true, .ref Dn]) hX1
    have eX1 : upd H3 X1 (.lst [.bl true, .ref Dn]) X1 = some (.lst [.bl true, .ref Dn]) := upd_same
    have e4 := t4 _ _ e3
    refine fun D4 hD4 => ⟨(by show 2 ≤ sizeLine; decide), fun X2 hX2 => ?_⟩
    have hD4 : upd H3 X1 (.lst [.bl true, .ref Dn]) D4 = none := hD4
    have t5 := same_new (o := .dK []) hD4
    have hX2 : upd (upd H3 X1 (.lst [.bl true, .ref Dn])) D4 (.dK []) X2 = none := hX2
    have t6 := same_new (o := .lst [.bl true, .ref D4]) hX2
    have eX16 := t6 _ _ (t5 _ _ eX1)
    have e46 := t6 _ _ (t5 _ _ e4)
    have eD46 : upd (upd (upd H3 X1 (.lst [.bl true, .ref Dn])) D4 (.dK [])) X2 (.lst [.bl true, .ref D4]) D4 = some (.dK []) := t6 _ _ upd_same
    have s36 := (t4.trans t5).trans t6
    refine ⟨_, _, 2, rfl, by decide, .inr (.inr ⟨true, X1, X2, _, _, rfl, rfl, eX16, upd_same, rfl, (by show 2 ≤ 1000000; decide), fun i u v h1 h2 => ?_⟩), fun H6 s6 => ⟨_, rfl, iteF ?_⟩⟩
    · match i, h1, h2 with
      | 0, h1, h2 => cases h1; cases h2; exact .inl ⟨rfl, True.intro⟩
      | 1, h1, h2 => cases h1; cases h2; exact .inr (.inl ⟨Dn, D4, [], rfl, rfl, e46, eD46, dk0⟩)
    have s26 := (s3.trans s36).trans s6
    have s06 := s2.trans s26
    have D6 := D2.same s26
    have x6 := x2.same s26
    clear t4 t5 t6 eX16 e46 eD46 s36 s6 eX1 e4 e3 hX1 hX2 hD4 n3 s3
    refine ⟨_, rfl, y, dx2, _, rfl, x6.hd, rfl, y, F2, S.fall ws, c0, c1, a, g0, kv, rfl, D6, rfl, z0, z1, ok0, ok1, l0, l1, r0, r1, eB, ne, dk, fun H7 c7 => ⟨rfl, _, rfl, iteF ?_⟩⟩
    obtain ⟨S7, hS7⟩ : ∃ S7, S7 = ((S.fall ws).rise a kv (maxGen (c0 ++ c1))).check true := ⟨_, rfl⟩
    rw [← hS7] at c7
    have kv7 : S7.kv = kv := by rw [hS7]; exact (check_same _).1
    have fal7 : S7.fal = false := by rw [hS7]; exact check_fal _ _
    obtain ⟨F7, k7, D7, f7⟩ := c7
    have s07 : Same H H7 := fun b u e => k7 _ _ (fun z => by rw [f2 _ z] at e; cases e) (s06 _ _ e)
    have tK : T9 kv := by rw [ekv]; exact tT.srt
    have tb7 : Tab S7.kv := by rw [kv7]; exact tK.tab
    have es : srtK S7.kv = srtK (dueG ws tb st).1 := by rw [kv7, ekv]; exact srtK_congr tT.srt tT (valV_srt tT)
    obtain ⟨dx7, T7, AA7, A07, A17, U7, ts7, x7⟩ := id D7
    refine ⟨_, rfl, y, dx7, _, rfl, x7.hd, rfl, y, F7, S7, rfl, D7, tb7, fun D8 H8 s8 n8 e8 => ?_⟩
    rw [es] at e8
    have x8 := x7.same s8
    have D8' := D7.same s8
    have s08 := s07.trans s8
    have ndk : ((srtK (dueG ws tb st).1).map (·.1)).Nodup := tT.srt.nd
    have sl := srtK_len tT.tab
    have sc := srtK_sc tT.tab
    obtain ⟨tsB, eB', prB⟩ := pB
    generalize srtK (dueG ws tb st).1 = KV at e8 ndk sl sc prB
    refine ⟨_, rfl, y, dx7, _, rfl, x8.hd, y, F7, S7, rfl, D8', _, rfl, D8, KV, rfl, .inl e8, fun P hP => ?_⟩
    have t1 := same_new (o := .lst (KV.map fun kv => kV kv.1)) hP
    have eP : upd H8 P (.lst (KV.map fun kv => kV kv.1)) P = some (.lst (KV.map fun kv => kV kv.1)) := upd_same
    have eD9 := t1 _ _ e8
    generalize upd H8 P (.lst (KV.map fun kv => kV kv.1)) = H9 at t1 eP eD9 ⊢
    have s09 := s08.trans t1
    refine ⟨P, rfl, ⟨_, SqL.of eP⟩, fun M hM => ?_⟩
    refine lc_it (walk_list (K := K) (a := P) (xs := KV.map fun kv => kV kv.1)) (fun i H' => ∃ vs : List Addr, Same H9 H' ∧ H' M = some (.lst (vs.map V.ref)) ∧ Paired (TupAt H') vs (KV.take i)) ⟨[], same_new hM, upd_same, .nil⟩ (fun i H' _ ⟨_, s, _⟩ => s.seq (SqL.of eP)) ?_ ?_
    · rintro i x H3 H3' hi ⟨vs, s3, c3, pr⟩ ⟨rfl, hx⟩
      rw [List.length_map] at hi
      rw [List.getElem?_map, List.getElem?_eq_getElem hi] at hx
      cases hx
      have gv := valV_nd ndk hi
      have tl := pr.length
      rw [List.length_take] at tl
      refine ⟨rfl, _, rfl, _, rfl, _, rfl, D8, KV[i].2, rfl, .inl ⟨KV, KV[i].1, .inl (s3 _ _ eD9), rfl, gv.symm⟩, (by show 2 ≤ sizeLine; decide), fun T hT => ?_⟩
      have cT : upd H3' T (.tup [kV KV[i].1, KV[i].2]) M = some (.lst (vs.map V.ref)) := by rw [upd_ne (ne_of_none c3 hT)]; exact c3
      have TC : T ≠ M := fun z => by rw [z, c3] at hT; cases hT
      refine ⟨_, cT, by rw [List.length_map, tl]; exact Nat.lt_of_le_of_lt (show _ ≤ 64 by omega) (by decide), vs ++ [T], fun b u e => ?_, by rw [upd_same, List.map_append]; rfl, ?_⟩
      · rw [upd_ne (ne_of_none e hM), upd_ne (ne_of_none (s3 _ _ e) hT)]
        exact s3 _ _ e
      · rw [List.take_add_one, List.getElem?_eq_getElem hi]
        refine Paired.snoc (pr.mono fun t q z => ?_) ?_
        · have z : H3' t = _ := z
          have tC : t ≠ M := fun w => by rw [w, c3] at z; cases z
          show upd (upd H3' T _) M _ t = _
          rw [upd_ne tC, upd_ne (ne_of_none z hT)]
          exact z
        · show upd (upd H3' T _) M _ T = _
          rw [upd_ne TC]
          exact upd_same
    rintro H10 ⟨vs, s10, c10, pr⟩
    rw [List.length_map, List.take_length] at pr
    have s010 := s09.trans s10
    refine ⟨(by show 2 ≤ sizeLine; decide), fun Y1 hY1 => ?_⟩
    have t11 := same_new (o := .lst [.bl S7.fal, .ref M]) hY1
    have eY1 : upd H10 Y1 (.lst [.bl S7.fal, .ref M]) Y1 = some (.lst [.bl S7.fal, .ref M]) := upd_same
    generalize upd H10 Y1 (.lst [.bl S7.fal, .ref M]) = H11 at t11 eY1 ⊢
    rw [fal7] at eY1
    refine ⟨_, rfl, (by show 2 ≤ sizeLine; decide), fun Y2 hY2 => ?_⟩
    have t12 := same_new (o := .lst [.bl false, .ref B]) hY2
    have s10' := t11.trans t12
    have s012 := s010.trans s10'
    refine ⟨_, _, 3, rfl, by decide, .inr (.inr ⟨true, Y1, Y2, _, _, rfl, rfl, t12 _ _ eY1, upd_same, rfl, (by show 2 ≤ 1000000; decide), fun i u v h1 h2 => ?_⟩), fun H13 s13 => k H13 (s012.trans s13)⟩
    match i, h1, h2 with
    | 0, h1, h2 => cases h1; cases h2; exact .inl ⟨rfl, True.intro⟩
    | 1, h1, h2 =>
      cases h1
      cases h2
      exact Lk.many (f := fun q : Key × V => [kV q.1, q.2]) (R := TupAt _) (R' := TupAt _) (fun t q z => z) (fun t q z => z) (pr.mono fun t q z => s10' _ _ z) (prB.mono fun t q z => s012 _ _ z) sc (s10' _ _ c10) (s012 _ _ eB') (by omega)
end k15
namespace k15
open PySem L2 LC RM SM TL
theorem due_rel {R : Addr → Tbl → Prop} (ws : List Wd) : ∀ {ss : List Stp} {st : List StT}, Paired (fun (s : Stp) (x : StT) => s.chk = x.1 ∧ s.many = x.2.1 ∧ R s.sh x.2.2) ss st → ∀ (b : Addr) (wh : Bool) (a : Nat) (tb : Tbl), R b tb → R (due ws b wh a ss) (st.foldl (stepD ws) (tb, wh, a, false)).1
  | [], [], .nil, b, wh, a, tb, h => h
  | s :: ss, x :: st, .cons ⟨e1, e2, e3⟩ p, b, wh, a, tb, h => by
    have ih := fun b wh a tb h => due_rel ws p b wh a tb h
    show R (if s.chk = true then (if keptB ws a s.many = true then due ws s.sh true (a + s.many) ss else b) else if keptB ws a s.many = true then (if wh = true then due ws s.sh true (a + s.many) ss else due ws b false (a + s.many) ss) else due ws b false (a + s.many) ss) (st.foldl (stepD ws) (stepD ws (tb, wh, a, false) x)).1
    unfold stepD
    rw [if_neg Bool.false_ne_true, e1, e2]
    show R _ (st.foldl (stepD ws) (if x.1 = true then (if keptB ws a x.2.1 = true then (x.2.2, true, a + x.2.1, false) else (tb, wh, a, true)) else if keptB ws a x.2.1 = true then (if wh = true then (x.2.2, true, a + x.2.1, false) else (tb, false, a + x.2.1, false)) else (tb, false, a + x.2.1, false))).1
    by_cases c : x.1 = true
    · rw [if_pos c, if_pos c]
      by_cases k : keptB ws a x.2.1 = true
      · rw [if_pos k, if_pos k]
        exact ih _ _ _ _ e3
      · rw [if_neg k, if_neg k, due_stop ws st _ rfl]
        exact h
    · rw [if_neg c, if_neg c]
      by_cases k : keptB ws a x.2.1 = true
      · rw [if_pos k, if_pos k]
        by_cases w : wh = true
        · rw [if_pos w, if_pos w]
          exact ih _ _ _ _ e3
        · rw [if_neg w, if_neg w]
          exact ih _ _ _ _ h
      · rw [if_neg k, if_neg k]
        exact ih _ _ _ _ h
theorem steps_rel {Z : Addr → Prop} {H : Hp} : ∀ {ts : List Addr} {st : List StT}, Paired (SAt Z H) ts st → ∃ ss : List Stp, Paired (StpAt H) ts ss ∧ Paired (fun (s : Stp) (x : StT) => s.chk = x.1 ∧ s.many = x.2.1 ∧ Z s.sh ∧ PAt H s.sh x.2.2) ss st
  | [], [], .nil => ⟨[], .nil, .nil⟩
  | t :: ts, x :: st, .cons ⟨sh, e1, z, e2⟩ p => by
    obtain ⟨ss, p1, p2⟩ := steps_rel p
    exact ⟨⟨x.1, x.2.1, sh⟩ :: ss, .cons e1 p1, .cons ⟨rfl, rfl, z, e2⟩ p2⟩
theorem many_of {R : Addr → Tbl → Prop} {b : Nat} : ∀ {ss : List Stp} {st : List StT}, Paired (fun (s : Stp) (x : StT) => s.chk = x.1 ∧ s.many = x.2.1 ∧ R s.sh x.2.2) ss st → (∀ x ∈ st, x.2.1 ≤ b) → ∀ s ∈ ss, s.many ≤ b
  | [], [], .nil, _, s, hs => by cases hs
  | s0 :: ss, x :: st, .cons ⟨_, e2, _⟩ p, h, s, hs => by
    rcases List.mem_cons.mp hs with rfl | hs
    · rw [e2]
      exact h x (List.mem_cons_self ..)
    · exact many_of p (fun y hy => h y (List.mem_cons_of_mem _ hy)) s hs
theorem sum_int : ∀ st : List StT, (st.map fun s => (s.2.1 : Int)).sum = (((st.map (·.2.1)).sum : Nat) : Int)
  | [] => rfl
  | s :: r => by
    rw [List.map_cons, List.sum_cons, List.map_cons, List.sum_cons, sum_int r]
    omega
theorem Un.get {Z : Addr → Prop} {H : Hp} {st : List StT} {ts : List Addr} (p : Paired (SAt Z H) ts st) {i : Nat} {t : Addr} (h : ts[i]? = some t) : ∃ x sh, st[i]? = some x ∧ H t = some (.tup (stepV ⟨x.1, x.2.1, sh⟩)) := by
  induction p generalizing i with
  | nil => simp at h
  | cons a b ih =>
    cases i with
    | zero =>
      simp at h
      subst h
      obtain ⟨sh, e, _⟩ := a
      exact ⟨_, sh, rfl, e⟩
    | succ i =>
      obtain ⟨x, sh, e1, e2⟩ := ih (i := i) (by simpa using h)
      exact ⟨x, sh, by simpa using e1, e2⟩
def splaw (K : PySem.W.Frag) : Sp := fun vs H Q _ => ∃ (a : Addr) (ns : List Int), vs = [.ref a] ∧ SqL K H a (ns.map V.int) ∧ ns.length ≤ 63 ∧ ∀ H', Q (.bl true) H'
theorem ok_law {P : Program} {w : World} {K : PySem.W.Frag} {mg : Str → Option Value} {base : Heap} {f : Addr} {fd : FuncData} (D : Def K mg "law" slaw Plaw f fd) (T : Txt K mg) {r : Ar} (KR : Kr K mg r) {ce : Ce} {fdDI : FuncData} (GDisk_init : FnOk P w K mg base (L2.CX P w) 4 r.i fdDI PDisk_init (spDisk_init r ce)) (KBR : KBn K fdDI PDisk_init 2 ["rows"] kgR kgR) {fdRunsynced : FuncData} (GDisk_unsynced : FnOk P w K mg base CX0 1 r.funsynced fdRunsynced PDisk_unsynced (spDisk_unsynced r)) (BDisk_unsynced : Binds K fdRunsynced PDisk_unsynced []) {fbag : Addr} {fdbag : FuncData} (Dbag : Def K mg "_law_bag" sbag Pbag fbag fdbag) (Gbag : FnOk P w K mg base CX0 1 fbag fdbag Pbag (spbag K)) {fdraw : Addr} {fddraw : FuncData} (Ddraw : Def K mg "_law_draw" sdraw Pdraw fdraw fddraw) (Gdraw : FnOk P w K mg base CX0 1 fdraw fddraw Pdraw (spdraw)) {fof : Addr} {fdof : FuncData} (Dof : Def K mg "_law_of" sof Pof fof fdof) (Gof : FnOk P w K mg base CX0 2 fof fdof Pof (spof K)) {flike : Addr} {fdlike : FuncData} (Dlike : Def K mg "_law_like" slike Plike flike fdlike) (Glike : FnOk P w K mg base CX0 4 flike fdlike Plike (splike 4)) {fcopy : Addr} {fdcopy : FuncData} (Dcopy : Def K mg "_law_copy" scopy Pcopy fcopy fdcopy) (Gcopy : FnOk P w K mg base CX0 1 fcopy fdcopy Pcopy (spcopy)) {fmost : Addr} {fdmost : FuncData} (Dmost : Def K mg "_law_most" smost Pmost fmost fdmost) (Gmost : FnOk P w K mg base CX0 3 fmost fdmost Pmost (spmost K)) {fdisk_so : Addr} {fddisk_so : FuncData} (Ddisk_so : Def K mg "_law_disk_so" sdisk_so Pdisk_so fdisk_so fddisk_so) (Gdisk_so : FnOk P w K mg base CX0 5 fdisk_so fddisk_so Pdisk_so (spdisk_so r)) {fshelf : Addr} {fdshelf : FuncData} (Dshelf : Def K mg "_law_shelf" sshelf Pshelf fshelf fdshelf) (Gshelf : FnOk P w K mg base CX0 5 fshelf fdshelf Pshelf (spshelf)) {fnew : Addr} {fdnew : FuncData} (Dnew : Def K mg "_law_new" snew Pnew fnew fdnew) (Gnew : FnOk P w K mg base CX0 2 fnew fdnew Pnew (spnew)) {fpower : Addr} {fdpower : FuncData} (Dpower : Def K mg "_law_power" spower Ppower fpower fdpower) (Gpower : FnOk P w K mg base CX0 1 fpower fdpower Ppower (sppower)) {fwords : Addr} {fdwords : FuncData} (Dwords : Def K mg "_law_words" swords Pwords fwords fdwords) (Gwords : FnOk P w K mg base CX0 3 fwords fdwords Pwords (spwords)) {fstart : Addr} {fdstart : FuncData} (Dstart : Def K mg "_law_start" sstart Pstart fstart fdstart) (Gstart : FnOk P w K mg base CX0 6 fstart fdstart Pstart (spstart r)) {fdue : Addr} {fddue : FuncData} (Ddue : Def K mg "_law_due" sdue Pdue fdue fddue) (Gdue : FnOk P w K mg base CX0 1 fdue fddue Pdue (spdue)) {funsynced : Addr} {fdunsynced : FuncData} (Dunsynced : Def K mg "_law_unsynced" sunsynced Punsynced funsynced fdunsynced) (Gunsynced : FnOk P w K mg base CX0 6 funsynced fdunsynced Punsynced (spunsynced r)) {fcut_so : Addr} {fdcut_so : FuncData} (Dcut_so : Def K mg "_law_cut_so" scut_so Pcut_so fcut_so fdcut_so) (Gcut_so : FnOk P w K mg base CX0 8 fcut_so fdcut_so Pcut_so (spcut_so r)) :
    FnOk P w K mg base CX0 9 f fd Plaw (splaw K) := by
  refine D.F.ok sclaw (fun vs H Q E h => ?_) (fun cdv A outer s H vs Q E hr h => ?_)
  · obtain ⟨ax, ns, rfl, hS, hl, k⟩ := h
    rfl
  · obtain ⟨ax, ns, rfl, hS, hl, k⟩ := h
    have hrbag : Room 1 _ := hr.mono (by decide)
    have hrdraw : Room 1 _ := hr.mono (by decide)
    have hrof : Room 2 _ := hr.mono (by decide)
    have hrlike : Room 4 _ := hr.mono (by decide)
    have hrcopy : Room 1 _ := hr.mono (by decide)
    have hrmost : Room 3 _ := hr.mono (by decide)
    have hrdisk_so : Room 5 _ := hr.mono (by decide)
    have hrshelf : Room 5 _ := hr.mono (by decide)
    have hrnew : Room 2 _ := hr.mono (by decide)
    have hrpower : Room 1 _ := hr.mono (by decide)
    have hrwords : Room 3 _ := hr.mono (by decide)
    have hrstart : Room 6 _ := hr.mono (by decide)
    have hrdue : Room 1 _ := hr.mono (by decide)
    have hrunsynced : Room 6 _ := hr.mono (by decide)
    have hrcut_so : Room 8 _ := hr.mono (by decide)
    have hrI : Room 5 _ := hr.mono (by decide)
    have hrDisk_unsynced : Room 1 _ := hr.mono (by decide)
    refine ⟨_, (pss_cons (ps_set (i := 1) sclaw.nd rfl (Or.inl rfl) (pe_call Gbag hrbag rfl Dbag.g Dbag.F.kp Dbag.b .nil pass0 (pa_cons (pv 0) pa_nil)))
        (pss_cons (ps_par (i := 2) (j := 3) (by rfl) sclaw.nd rfl rfl (by decide) rfl rfl (pa_cons (pe_call Gshelf hrshelf rfl Dshelf.g Dshelf.F.kp Dshelf.b .nil pass0 (pa_cons (pv 1) pa_nil)) (pa_cons (pe_call Gmost hrmost rfl Dmost.g Dmost.F.kp Dmost.b .nil pass0 (pa_cons (pv 1) pa_nil)) pa_nil)) (by rfl))
        (pss_cons (ps_par (i := 4) (j := 5) (by rfl) sclaw.nd rfl rfl (by decide) rfl rfl (pa_cons (pe_makeK KR.m GDisk_init hrI rfl KR.g KBR passL (pa_cons (pe_call Gcopy hrcopy rfl Dcopy.g Dcopy.F.kp Dcopy.b .nil pass0 (pa_cons (pv 2) pa_nil)) pa_nil) (pk_cons (pv 3) pk_nil)) (pa_cons (pe_call Gnew hrnew rfl Dnew.g Dnew.F.kp Dnew.b .nil pass0 (pa_cons (pv 2) (pa_cons (pv 3) pa_nil))) pa_nil)) (by rfl))
        (pss_cons (ps_expr (pe_call Gstart hrstart rfl Dstart.g Dstart.F.kp Dstart.b .nil pass0 (pa_cons (pv 1) (pa_cons (pv 4) (pa_cons (pv 5) pa_nil)))))
        (pss_cons (ps_asg (pe_call Gunsynced hrunsynced rfl Dunsynced.g Dunsynced.F.kp Dunsynced.b .nil pass0 (pa_cons (pv 1) (pa_cons (pv 4) (pa_cons (pv 5) pa_nil)))) (pg_tup rfl (pgs_cons (pg_name (i := 6) sclaw.nd rfl (Or.inl rfl)) (pgs_cons (pg_name (i := 7) sclaw.nd rfl (Or.inl rfl)) pgs_nil))))
        (pss_cons (ps_set (i := 8) sclaw.nd rfl (Or.inl rfl) (pe_callB (cr_sum rfl) (by rfl) T.n_sum (by decide +kernel) (pa_cons (pe_lc (own := [("_law_step", 14)]) (g := gName 14) (tt := tYes) rfl sclaw.nd (pi_list (pv 7)) (blkOk_by (own := [("_law_step", 14)]) (N := Nmlaw) (sc := defScope slaw) (by decide +kernel)) (fun _ _ _ _ _ => pg_name (i := 14) sclaw.nd rfl (Or.inl rfl)) (fun _ _ _ _ _ => pts_nil) (fun _ _ _ _ _ => (pe_ix (show IxR _ (rIxT K) from ix_tup) (pv 14) pe_int (fun _ _ => rfl)))) pa_nil)))
        (pss_cons (ps_if (PW.pt (pw_or (pt_cmpR op_ne (pv 8) (pe_callB call_len_seq (by rfl) T.n_len PySem.boot_len (pa_cons (pe_dget (hu_of hr) (pv 5) pe_str (fun _ _ => rfl)) pa_nil)) (nomark _)) (pw_or1 (pt_not (pt_val (pe_call Glike hrlike rfl Dlike.g Dlike.F.kp Dlike.b .nil pass0 (pa_cons (pe_meth0 (pv 4) KR.cl KR.munsynced GDisk_unsynced hrDisk_unsynced BDisk_unsynced .nil pass0) (pa_cons (pe_dget (hu_of hr) (pv 5) pe_str (fun _ _ => rfl)) pa_nil)))))))) (pss_one (ps_ret pe_bl)) pss_nil)
        (Evl.pss_cut (ps_set (i := 9) sclaw.nd rfl (Or.inl rfl) (pe_ifExp (pt_cmpR op_eq (pv 8) pe_int (nomark _)) (pe_listRg rfl rfl T.n_list (prg_1 rfl T.n_range (pe_op op_pow pe_int pe_int))) (pe_ifExp (pt_cmpR op_lt (pv 8) pe_int (nomark _)) (pe_listRg rfl rfl T.n_list (prg_1 rfl T.n_range (pe_ix ix_list (pe_lst (pa_cons pe_int (pa_cons pe_int (pa_cons pe_int pa_nil)))) (pv 8) (fun _ _ => rfl)))) (pe_lst pa_nil))))
        (Evl.pss_cut (ps_if (pt_cmpR op_gt (pv 8) pe_int (nomark _)) (pss_one (ps_for PassesOwn.never rfl (pi_range1 rfl T.n_range (pa_cons pe_int pa_nil)) (pg_name (i := 10) sclaw.nd rfl (Or.inl rfl))
          (pss_cons (ps_set (i := 11) sclaw.nd rfl (Or.inl rfl) (pe_call Gof hrof rfl Dof.g Dof.F.kp Dof.b .nil pass0 (pa_cons (pv 1) (pa_cons (pe_lst (pa_cons pe_int (pa_cons pe_int (pa_cons pe_int (pa_cons pe_int (pa_cons pe_int (pa_cons pe_int pa_nil))))))) pa_nil))))
        (pss_cons (ps_for PassesOwn.never rfl (pi_range1 rfl T.n_range (pa_cons (pe_call Gdraw hrdraw rfl Ddraw.g Ddraw.F.kp Ddraw.b .nil pass0 (pa_cons (pv 1) (pa_cons pe_int pa_nil))) pa_nil)) (pg_name (i := 12) sclaw.nd rfl (Or.inl rfl))
          (pss_one (ps_set (i := 11) sclaw.nd rfl (Or.inl rfl) (pe_op op_add (pv 11) (pe_op op_mul (pe_op op_add pe_int (pe_call Gdraw hrdraw rfl Ddraw.g Ddraw.F.kp Ddraw.b .nil pass0 (pa_cons (pv 1) (pa_cons pe_int pa_nil)))) (pe_call Gpower hrpower rfl Dpower.g Dpower.F.kp Dpower.b .nil pass0 (pa_cons (pe_call Gdraw hrdraw rfl Ddraw.g Ddraw.F.kp Ddraw.b .nil pass0 (pa_cons (pv 1) (pa_cons (pv 8) pa_nil))) pa_nil)))))))
        (pss_one (ps_expr (pe_bm PySem.F.plainAttrs_list PySem.F.slot_list_append PySem.F.type_list_append mt_append (pv 9) (pa_cons (pv 11) pa_nil)))))))) pss_nil)
        (pss_cons (ps_for PassesOwn.never rfl (pi_list (pv 9)) (pg_name (i := 11) sclaw.nd rfl (Or.inl rfl))
          (pss_cons (ps_set (i := 13) sclaw.nd rfl (Or.inl rfl) (pe_call Gwords hrwords rfl Dwords.g Dwords.F.kp Dwords.b .nil pass0 (pa_cons (pv 1) (pa_cons (pv 8) (pa_cons (pv 11) pa_nil)))))
        (pss_one (ps_if (pt_not (pt_val (pe_call Gcut_so hrcut_so rfl Dcut_so.g Dcut_so.F.kp Dcut_so.b .nil pass0 (pa_cons (pv 4) (pa_cons (pv 13) (pa_cons (pe_call Gdue hrdue rfl Ddue.g Ddue.F.kp Ddue.b .nil pass0 (pa_cons (pv 6) (pa_cons (pv 7) (pa_cons (pv 13) pa_nil)))) (pa_cons (pe_call Gdraw hrdraw rfl Ddraw.g Ddraw.F.kp Ddraw.b .nil pass0 (pa_cons (pv 1) (pa_cons pe_int pa_nil))) pa_nil))))))) (pss_one (ps_ret pe_bl)) pss_nil))))
        (pss_one (ps_ret (pe_call Gdisk_so hrdisk_so rfl Ddisk_so.g Ddisk_so.F.kp Ddisk_so.b .nil pass0 (pa_cons (pv 4) (pa_cons (pv 5) pa_nil))))))))))))))), ?_⟩
    refine ⟨_, rfl, ax, ns, rfl, hS, hl, fun g H1 hg s1 ⟨l, B1⟩ => ?_⟩
    refine ⟨_, rfl, g, l, rfl, B1, fun C sh H2 r2 hC eC tC fC => ?_⟩
    have Cg := (B1.ne hC).1
    refine ⟨_, rfl, g, l, rfl, r2.bag, fun m H3 m0 m1 r3 => ⟨_, _, rfl, ?_⟩⟩
    have eC3 := r3.at_ eC Cg
    have B3 := r3.bag
    clear r3 r2 B1 s1 hS eC hC
    refine ⟨_, rfl, C, sh, rfl, eC3, tC.nd, (by have := tC.len; omega), fun D H5 s5 hD eD => ⟨_, rfl, rfl, rfl, fun x dx hx hdx nx => ?_⟩⟩
    have sx := same_mut (o := .ins r.c dx []) (same_new (o := .own x) hdx) hx
    refine ⟨x, dx, D, .int m, sh, fun _ => False, H5, rfl, upd_same, hx, sx, sx _ _ eD, tC.tab, .inl True.intro, (fun hn => (by rw [num_true (v := m) m0 m1] at hn; cases hn)), fun m' F0 H6 em _ _ s6 DD f6 => ⟨rfl, ?_⟩⟩
    have em := V.int.inj em
    subst em
    clear sx nx hdx hD
    have s36 := s5.trans s6
    have f36 : ∀ b, F0 b → H3 b = none := fun b z => s5.free (f6 b z)
    refine ⟨_, rfl, _, rfl, C, sh, m, rfl, s36 _ _ eC3, tC, fC, fun o O0 N0 H8 s8 W nO nN => ⟨_, _, rfl, ?_⟩⟩
    obtain ⟨F, O, st0, nF', nO', nN'⟩ := Sit.make (Tb := []) B3 (fun p hp => by cases hp) s36 DD f36 s8 W nO nN
    have gd0 : Gd (newS sh m) 1 := newS_gd tC fC m0 m1
    clear W nO nN DD f6 f36 s36 s6 s8 s5 eD hx
    refine ⟨_, rfl, _, rfl, _, rfl, g, l, x, o, F, O, N0, newS sh m, rfl, st0, gd0, ⟨_, _, newS_lu tC⟩, fun F1 O1 N1 S1 H9 st1 gd1 lu1 ev1 => ?_⟩
    clear st0 gd0 ev1 nF' nO' nN' eC3 B3
    refine ⟨_, rfl, _, rfl, _, rfl, g, l, x, o, F1, O1, N1, S1, rfl, st1, gd1, lu1, fun F2 O2 N2 Z S2 A L t tb st H10 st2 gd2 lu2 un uz ul sl sm et => ⟨t, _, rfl, SqT.of et, rfl, _, _, rfl, _, _, rfl, rfl, ?_⟩⟩
    clear st1 gd1 lu1 et
    obtain ⟨ts, eL, pr⟩ := id un.l
    have tl := pr.length
    refine ⟨_, rfl, L, rfl, ⟨_, SqL.of eL⟩, fun M hM => ?_⟩
    refine lc_it (walk_list (K := K) (a := L) (xs := ts.map V.ref)) (fun i H' => Same H10 H' ∧ H' M = some (.lst ((st.take i).map fun s => V.int (s.2.1 : Int)))) ⟨same_new hM, upd_same⟩ (fun i H' _ ⟨s, _⟩ => s.seq (SqL.of eL)) ?_ ?_
    · rintro i y H11 H11' hi ⟨s11, m11⟩ ⟨rfl, hx⟩
      rw [List.getElem?_map] at hx
      cases hu : ts[i]? with
      | none => rw [hu] at hx; cases hx
      | some t =>
      rw [hu] at hx
      obtain rfl : V.ref t = y := Option.some.inj hx
      obtain ⟨z, sz, ez, et⟩ := Un.get pr hu
      refine ⟨rfl, _, rfl, _, _, _, _, rfl, rfl, SqT.of (s11 _ _ et), rfl, _, m11, ?_, fun b u e => ?_, ?_⟩
      · rw [List.length_map, List.length_take]
        exact Nat.lt_of_le_of_lt (show _ ≤ 100 by omega) (by decide)
      · rw [upd_ne (ne_of_none e hM)]
        exact s11 _ _ e
      · rw [upd_same, List.take_add_one, ez, List.map_append]
        rfl
    rintro H11 ⟨s11, m11⟩
    rw [List.length_map, tl, List.take_length] at m11
    have sum : ((st.map fun s => (s.2.1 : Int))).sum = (S2.op.length : Int) := by rw [sum_int, lu2.sum]
    refine ⟨M, st.map fun s => (s.2.1 : Int), rfl, SqL.of (by rw [m11, List.map_map]; rfl), ?_⟩
    rw [sum]
    have st3 := (st2.same s11).1
    have un3 := un.same s11
    clear m11 sum st2 un eL pr hM s11
    obtain ⟨sh2, hd, C0, C1, op, tsO, w⟩ := id st3.t.W
    have wl := w.opl
    obtain ⟨dx3, T3, AA3, A03, A13, U3, us3, x3⟩ := id st3.t.D
    refine ⟨_, rfl, _, rfl, o, .ref op, rfl, .inl ⟨_, kS "open", .inl w.eo, rfl, rfl⟩, op, _, rfl, .inl (SqL.of w.ep), rfl, _, rfl, ite_nd (fun h => absurd (by rw [wl]) h) (fun _ => ?_)⟩
    refine ⟨_, rfl, x, dx3, _, rfl, x3.hd, rfl, x, F2, S2, rfl, st3.t.D, fun L3 ts3 H13 s13 n13 e13 op13 => ?_⟩
    have g13 := w.same s13
    have sz := gd2.sz
    refine ⟨_, rfl, o, .ref op, rfl, .inl ⟨_, kS "open", .inl g13.eo, rfl, rfl⟩, _, _, 2, rfl, by decide, Lk.many (f := opV) (R := OpAt (fun b => ¬ F2 b) H13) (R' := OpAt N2 H13) (fun t q z => z.2) (fun t q z => z.2) (op13.mono' fun t q z => ⟨z.1, s13 _ _ z.2⟩) g13.ops (fun q hq => ⟨fun u hu => ?_, (by show 3 ≤ 1000000; decide)⟩) e13 g13.ep (by omega), fun H14 s14 => ⟨_, rfl, iteF ?_⟩⟩
    · unfold opV at hu
      simp only [List.mem_cons, List.not_mem_nil, or_false] at hu
      rcases hu with rfl | rfl | rfl
      all_goals exact True.intro
    have s34 := s13.trans s14
    have st4 := (st3.same s34).1
    have un4 := un3.same s34
    clear st3 un3 s34 s13 s14 g13 op13 e13 n13 w wl x3
    have ml : S2.op.length ≤ 64000 := by omega
    refine ⟨fun σ H' => ∃ (TL : Addr) (ks : List Int), σ = [some (.ref ax), some (.ref g), some (.ref C), some (.int m), some (.ref x), some (.ref o), some (.ref A), some (.ref L), some (.int (S2.op.length : Int)), some (.ref TL), none, none, none, none, none] ∧ Same H14 H' ∧ H14 TL = none ∧ H' TL = some (.lst (ks.map V.int)) ∧ ks.length ≤ 27, ?_, ?_⟩
    · refine ⟨_, rfl, rfl, _, rfl, ite_eq (fun e3 => ?_) (fun n3 => ⟨_, rfl, _, _, rfl, rfl, _, rfl, ite_d (fun c3 => ?_) (fun c3 => ?_)⟩)⟩
      · refine ⟨_, _, rfl, rfl, ⟨by decide, by decide, by decide⟩, _, rfl, RgOk.of_le (by decide) (by decide) (by decide) (by decide), fun q hq => ?_⟩
        exact ⟨q, (List.range ((3 : Int) ^ (3 : Int).toNat - 0).toNat).map fun i => (0 : Int) + (i : Nat), rfl, same_new hq, hq, by rw [upd_same, List.map_map]; rfl, by rw [List.length_map, List.length_range]; decide⟩
      · obtain ⟨v, hv, v0, v9⟩ : ∃ v : Int, atI [V.int 1, V.int 3, V.int 9] (S2.op.length : Int) = some (V.int v) ∧ 0 ≤ v ∧ v ≤ 9 := by
          have h : S2.op.length = 0 ∨ S2.op.length = 1 ∨ S2.op.length = 2 := by omega
          rcases h with h | h | h
          · exact ⟨1, by rw [h]; exact atI_nat rfl, by decide, by decide⟩
          · exact ⟨3, by rw [h]; exact atI_nat rfl, by decide, by decide⟩
          · exact ⟨9, by rw [h]; exact atI_nat rfl, by decide, by decide⟩
        refine ⟨(by show 3 ≤ sizeLine; decide), fun p hp => ⟨_, rfl, _, _, _, _, rfl, rfl, SqL.of upd_same, hv, v, rfl, RgOk.of_le (by decide) (by omega) (by decide) (by omega), fun q hq => ?_⟩⟩
        have sp := same_new (o := .lst [V.int 1, V.int 3, V.int 9]) hp
        exact ⟨q, (List.range (v - 0).toNat).map fun i => (0 : Int) + (i : Nat), rfl, sp.trans (same_new hq), sp.free hq, by rw [upd_same, List.map_map]; rfl, by rw [List.length_map, List.length_range]; omega⟩
      · exact ⟨(by show 0 ≤ sizeLine; decide), fun q hq => ⟨q, [], rfl, same_new hq, hq, upd_same, Nat.zero_le _⟩⟩
    rintro σ H15 ⟨TL, ks, rfl, s15, nT, eT, kl⟩
    obtain ⟨a1, a2, a3, a4⟩ := st4.fresh nT
    have TLl := (st4.b.ne nT).2
    have nZ : ¬ Z TL := fun z => by
      obtain ⟨u, e⟩ := un4.al TL z
      rw [e] at nT
      cases nT
    have nL : TL ≠ L := fun z => by
      obtain ⟨_, e, _⟩ := un4.l
      rw [z, e] at nT
      cases nT
    have st5 := (st4.same s15).1
    have un5 := un4.same s15
    clear st4 un4 s15 nT
    have okk : ∀ {H1 H2 : Hp} {ks : List Int}, Ok g l H1 H2 → Sit r [] F2 O2 N2 g l H1 x o S2 S2 → Un Z H1 A L tb st → H1 TL = some (.lst (ks.map V.int)) → Sit r [] F2 O2 N2 g l H2 x o S2 S2 ∧ Un Z H2 A L tb st ∧ H2 TL = some (.lst (ks.map V.int)) := fun {H1 H2 ks} r1 s u e => by
      obtain ⟨s', ev⟩ := s.ok r1
      exact ⟨s', u.kp ev.k uz ul s.od.nt, r1.kp _ _ a4 e⟩
    refine ⟨fun σ H' => ∃ (ks : List Int) (v10 v11 v12 : Option V), σ = [some (.ref ax), some (.ref g), some (.ref C), some (.int m), some (.ref x), some (.ref o), some (.ref A), some (.ref L), some (.int (S2.op.length : Int)), some (.ref TL), v10, v11, v12, none, none] ∧ Sit r [] F2 O2 N2 g l H' x o S2 S2 ∧ Un Z H' A L tb st ∧ H' TL = some (.lst (ks.map V.int)) ∧ ks.length ≤ 100, ?_, ?_⟩
    · refine ⟨_, rfl, _, _, rfl, rfl, _, rfl, ite_d (fun c3 => ?_) (fun _ => ⟨ks, none, none, none, rfl, st5, un5, eT, by omega⟩)⟩
      refine ⟨_, rfl, by decide, by decide, ?_⟩
      refine for_range (lo := 0) (n := (40 : Int).toNat) (fun i σ H' => ∃ (ks : List Int) (v10 v11 v12 : Option V), σ = [some (.ref ax), some (.ref g), some (.ref C), some (.int m), some (.ref x), some (.ref o), some (.ref A), some (.ref L), some (.int (S2.op.length : Int)), some (.ref TL), v10, v11, v12, none, none] ∧ Sit r [] F2 O2 N2 g l H' x o S2 S2 ∧ Un Z H' A L tb st ∧ H' TL = some (.lst (ks.map V.int)) ∧ ks.length ≤ 27 + i)
        ⟨ks, none, none, none, rfl, st5, un5, eT, by omega⟩ ?_ ?_
      · rintro i σ H16 hi ⟨ks6, v10, v11, v12, rfl, st6, un6, eT6, kl6⟩
        refine ⟨_, rfl, (by show 6 ≤ sizeLine; decide), fun p hp => of_disp (E := E0) (Ok.refl st6.b) hp (by show 0 < 6; decide) (by show 6 ≤ 1000000; decide) fun y H17 hy _ r17 => ?_⟩
        obtain ⟨t0, rfl⟩ : ∃ t0 : Int, y = .int t0 := by
          simp only [List.mem_cons, List.not_mem_nil, or_false] at hy
          rcases hy with rfl | rfl | rfl | rfl | rfl | rfl <;> exact ⟨_, rfl⟩
        obtain ⟨st7, un7, eT7⟩ := okk r17 st6 un6 eT6
        clear hy r17 hp st6 un6 eT6
        refine ⟨_, rfl, g, l, 3, rfl, st7.b, by decide, by decide, fun q H18 q0 q1 r18 => ⟨_, rfl, by omega, by omega, ?_⟩⟩
        obtain ⟨st8, un8, eT8⟩ := okk r18 st7 un7 eT7
        clear r18 st7 un7 eT7
        refine for_range (lo := 0) (n := q.toNat) (fun j σ H' => ∃ (tv : Int) (v12 : Option V), σ = [some (.ref ax), some (.ref g), some (.ref C), some (.int m), some (.ref x), some (.ref o), some (.ref A), some (.ref L), some (.int (S2.op.length : Int)), some (.ref TL), some (.int ((0 : Int) + (i : Int))), some (.int tv), v12, none, none] ∧ Sit r [] F2 O2 N2 g l H' x o S2 S2 ∧ Un Z H' A L tb st ∧ H' TL = some (.lst (ks6.map V.int)))
          ⟨t0, _, rfl, st8, un8, eT8⟩ ?_ ?_
        · rintro j σ H19 hj ⟨tv, v12', rfl, st9, un9, eT9⟩
          refine ⟨_, rfl, _, rfl, g, l, 2, rfl, st9.b, by decide, by decide, fun b1 H20 b10 b11 r20 => ⟨_, _, rfl, rfl, ?_⟩⟩
          obtain ⟨st10, un10, eT10⟩ := okk r20 st9 un9 eT9
          refine ⟨_, rfl, _, rfl, g, l, _, rfl, st10.b, by omega, by omega, fun b2 H21 b20 b21 r21 => ⟨b2, rfl, b20, by omega, fun pw pw0 => ?_⟩⟩
          obtain ⟨st11, un11, eT11⟩ := okk r21 st10 un10 eT10
          refine ⟨_, _, rfl, rfl, .inl ⟨by omega, by omega⟩, _, _, rfl, rfl, ?_⟩
          exact ⟨_, _, rfl, st11, un11, eT11⟩
        · rintro σ H19 ⟨tv, v12', rfl, st9, un9, eT9⟩
          refine ⟨_, rfl, .inl ⟨rfl, _, SqL.of eT9⟩, _, rfl, TL, _, _, rfl, rfl, eT9, ?_, ?_⟩
          · rw [List.length_map]
            exact Nat.lt_of_le_of_lt (show _ ≤ 100 by have : i < 40 := hi; omega) (by decide)
          have m8 := st9.mutG (u' := .lst (ks6.map V.int ++ [.int tv])) eT9 True.intro a1 a2 a3 a4 TLl
          have k8 : KpF (· = TL) H19 (upd H19 TL (.lst (ks6.map V.int ++ [.int tv]))) := (KpF.refl _ _).upd rfl
          have nt8 : NT (· = TL) H19 := fun b xs hb e => by
            have hb : b = TL := hb
            rw [hb, eT9] at e
            cases e
          exact ⟨ks6 ++ [tv], _, _, _, rfl, m8, un9.kp k8 (fun b hb z => nZ (z ▸ hb)) (fun z => nL z.symm) nt8, by rw [upd_same, List.map_append]; rfl, by rw [List.length_append]; show ks6.length + 1 ≤ _; omega⟩
      · rintro σ H16 ⟨ks6, v10, v11, v12, rfl, st6, un6, eT6, kl6⟩
        exact ⟨ks6, _, _, _, rfl, st6, un6, eT6, by have : (40 : Int).toNat = 40 := rfl; omega⟩
    rintro σ H16 ⟨ks6, v10, v11, v12, rfl, st6, un6, eT6, kl6⟩
    clear st5 un5 eT kl
    refine ⟨_, rfl, TL, rfl, ⟨_, SqL.of eT6⟩, ?_⟩
    refine for_list (K := K) (a := TL) (xs := ks6.map V.int) (fun i σ H' => ∃ (v10 v11 v12 v13 : Option V), σ = [some (.ref ax), some (.ref g), some (.ref C), some (.int m), some (.ref x), some (.ref o), some (.ref A), some (.ref L), some (.int (S2.op.length : Int)), some (.ref TL), v10, v11, v12, v13, none] ∧ Sit r [] F2 O2 N2 g l H' x o S2 S2 ∧ Un Z H' A L tb st ∧ H' TL = some (.lst (ks6.map V.int))) ?_ ?_ ?_ ?_
    · exact ⟨_, _, _, _, rfl, st6, un6, eT6⟩
    · exact (fun i σ H' _ ⟨_, _, _, _, _, _, _, e⟩ => SqL.of e)
    · rintro i y σ H17 hi ⟨v10, v11, v12, v13, rfl, st7, un7, eT7⟩
      rw [List.getElem?_map] at hi
      cases hu : ks6[i]? with
      | none => rw [hu] at hi; cases hi
      | some t =>
      rw [hu] at hi
      obtain rfl : V.int t = y := Option.some.inj hi
      refine ⟨_, rfl, _, rfl, _, rfl, g, l, _, t, rfl, st7.b, by omega, by omega, fun W ws H18 r18 hW eW lW => ?_⟩
      obtain ⟨st8, un8, eT8⟩ := okk r18 st7 un7 eT7
      have Wg := (st7.b.ne hW).1
      clear st7 un7 eT7 hW
      obtain ⟨ts8, eL8, pr8⟩ := un8.l
      obtain ⟨ss, pt, ps⟩ := steps_rel pr8
      have sl8 := ps.length
      refine ⟨_, rfl, _, rfl, _, rfl, _, rfl, _, rfl, A, L, W, ts8, ss, ws, rfl, eL8, pt, eW, by omega, fun s hs => Nat.le_trans (many_of (R := fun b kv => Z b ∧ PAt H18 b kv) ps sm s hs) (by decide), fun H19 s19 => ?_⟩
      have dr := due_rel (R := fun b kv => Z b ∧ PAt H18 b kv) ws ps A true 0 tb ⟨un8.za, un8.pa⟩
      have st9 := (st8.same s19).1
      have un9 := un8.same s19
      have eT9 := s19 _ _ eT8
      have pd9 := dr.2.same s19
      have eW9 := eW.imp (s19 _ _) (s19 _ _)
      have zd := dr.1
      refine ⟨_, rfl, g, l, 3, rfl, st9.b, by decide, by decide, fun p H20 p0 p1 r20 => ?_⟩
      obtain ⟨st10, un10, eT10⟩ := okk r20 st9 un9 eT9
      have pd10 := pd9.kp (st9.ok r20).2.k (uz _ zd) st9.od.nt
      have eW10 := eW9.imp (r20.kp _ _ Wg) (r20.kp _ _ Wg)
      exact ⟨x, W, _, p, F2, S2, 16, ws, tb, st, rfl, st10.t.D, gd2, by decide, lu2, eW10, pd10, fun H21 s21 => ⟨_, rfl, iteF ⟨_, _, _, _, rfl, (st10.same s21).1, un10.same s21, s21 _ _ eT10⟩⟩⟩
    · rintro σ H17 ⟨v10, v11, v12, v13, rfl, st7, un7, eT7⟩
      have cl := gd2.cell (by decide)
      exact ⟨_, rfl, _, rfl, x, o, F2, O2, N2, S2, rfl, st7.t.D, st7.t.W, gd2.fal, gd2.t.tab, cl.1, cl.2, by omega, fun H18 _ => k H18⟩
end k15
namespace k15
open PySem L2 LC RM SM TL
theorem all_mk {l : PySem.W.OpenLaw} {w : World} {K : PySem.W.Frag} {h : Heap} {mg : Str → Option Value} {fa : Addr} (X : K.In h) (G : h.Ns mainGlobals mg) (hfa : mg "law" = some (.ref fa))
    {fis_whole : Addr} {odis_whole anis_whole : Option Addr} {slis_whole : Array (Option Value)} {ocis_whole kVis_whole dcis_whole pmis_whole cdis_whole ctis_whole : Value}
    (ais_whole : PySem.W.nsIn K mainGlobals "is_whole" = some (some (.ref fis_whole)))
    (lis_whole : K.lookup fis_whole = some ⟨ocis_whole, odis_whole, .func (PySem.W.fnOf "is_whole" "is_whole" (defArgs sis_whole) (defBody sis_whole) (defScope sis_whole) .none kVis_whole dcis_whole pmis_whole anis_whole cdis_whole ctis_whole), slis_whole⟩)
    (cis_whole : PySem.W.codeIn K cdis_whole "is_whole" = true)
    (kis_whole : PySem.W.keepIn K (.ref fis_whole) = true)
    {fis_number : Addr} {odis_number anis_number : Option Addr} {slis_number : Array (Option Value)} {ocis_number kVis_number dcis_number pmis_number cdis_number ctis_number : Value}
    (ais_number : PySem.W.nsIn K mainGlobals "is_number" = some (some (.ref fis_number)))
    (lis_number : K.lookup fis_number = some ⟨ocis_number, odis_number, .func (PySem.W.fnOf "is_number" "is_number" (defArgs sis_number) (defBody sis_number) (defScope sis_number) .none kVis_number dcis_number pmis_number anis_number cdis_number ctis_number), slis_number⟩)
    (cis_number : PySem.W.codeIn K cdis_number "is_number" = true)
    (kis_number : PySem.W.keepIn K (.ref fis_number) = true)
    {fchanges_text : Addr} {odchanges_text anchanges_text : Option Addr} {slchanges_text : Array (Option Value)} {occhanges_text kVchanges_text dcchanges_text pmchanges_text cdchanges_text ctchanges_text : Value}
    (achanges_text : PySem.W.nsIn K mainGlobals "changes_text" = some (some (.ref fchanges_text)))
    (lchanges_text : K.lookup fchanges_text = some ⟨occhanges_text, odchanges_text, .func (PySem.W.fnOf "changes_text" "changes_text" (defArgs schanges_text) (defBody schanges_text) (defScope schanges_text) .none kVchanges_text dcchanges_text pmchanges_text anchanges_text cdchanges_text ctchanges_text), slchanges_text⟩)
    (cchanges_text : PySem.W.codeIn K cdchanges_text "changes_text" = true)
    (kchanges_text : PySem.W.keepIn K (.ref fchanges_text) = true)
    {fapply_changes : Addr} {odapply_changes anapply_changes : Option Addr} {slapply_changes : Array (Option Value)} {ocapply_changes kVapply_changes dcapply_changes pmapply_changes cdapply_changes ctapply_changes : Value}
    (aapply_changes : PySem.W.nsIn K mainGlobals "apply_changes" = some (some (.ref fapply_changes)))
    (lapply_changes : K.lookup fapply_changes = some ⟨ocapply_changes, odapply_changes, .func (PySem.W.fnOf "apply_changes" "apply_changes" (defArgs sapply_changes) (defBody sapply_changes) (defScope sapply_changes) .none kVapply_changes dcapply_changes pmapply_changes anapply_changes cdapply_changes ctapply_changes), slapply_changes⟩)
    (capply_changes : PySem.W.codeIn K cdapply_changes "apply_changes" = true)
    (kapply_changes : PySem.W.keepIn K (.ref fapply_changes) = true)
    {fstretches : Addr} {odstretches anstretches : Option Addr} {slstretches : Array (Option Value)} {ocstretches kVstretches dcstretches pmstretches cdstretches ctstretches : Value}
    (astretches : PySem.W.nsIn K mainGlobals "stretches" = some (some (.ref fstretches)))
    (lstretches : K.lookup fstretches = some ⟨ocstretches, odstretches, .func (PySem.W.fnOf "stretches" "stretches" (defArgs sstretches) (defBody sstretches) (defScope sstretches) .none kVstretches dcstretches pmstretches anstretches cdstretches ctstretches), slstretches⟩)
    (cstretches : PySem.W.codeIn K cdstretches "stretches" = true)
    (kstretches : PySem.W.keepIn K (.ref fstretches) = true)
    {fread_changes : Addr} {odread_changes anread_changes : Option Addr} {slread_changes : Array (Option Value)} {ocread_changes kVread_changes dcread_changes pmread_changes cdread_changes ctread_changes : Value}
    (aread_changes : PySem.W.nsIn K mainGlobals "read_changes" = some (some (.ref fread_changes)))
    (lread_changes : K.lookup fread_changes = some ⟨ocread_changes, odread_changes, .func (PySem.W.fnOf "read_changes" "read_changes" (defArgs sread_changes) (defBody sread_changes) (defScope sread_changes) .none kVread_changes dcread_changes pmread_changes anread_changes cdread_changes ctread_changes), slread_changes⟩)
    (cread_changes : PySem.W.codeIn K cdread_changes "read_changes" = true)
    (kread_changes : PySem.W.keepIn K (.ref fread_changes) = true)
    {fgeneration_of : Addr} {odgeneration_of angeneration_of : Option Addr} {slgeneration_of : Array (Option Value)} {ocgeneration_of kVgeneration_of dcgeneration_of pmgeneration_of cdgeneration_of ctgeneration_of : Value}
    (ageneration_of : PySem.W.nsIn K mainGlobals "generation_of" = some (some (.ref fgeneration_of)))
    (lgeneration_of : K.lookup fgeneration_of = some ⟨ocgeneration_of, odgeneration_of, .func (PySem.W.fnOf "generation_of" "generation_of" (defArgs sgeneration_of) (defBody sgeneration_of) (defScope sgeneration_of) .none kVgeneration_of dcgeneration_of pmgeneration_of angeneration_of cdgeneration_of ctgeneration_of), slgeneration_of⟩)
    (cgeneration_of : PySem.W.codeIn K cdgeneration_of "generation_of" = true)
    (kgeneration_of : PySem.W.keepIn K (.ref fgeneration_of) = true)
    {fhead_of : Addr} {odhead_of anhead_of : Option Addr} {slhead_of : Array (Option Value)} {ochead_of kVhead_of dchead_of pmhead_of cdhead_of cthead_of : Value}
    (ahead_of : PySem.W.nsIn K mainGlobals "head_of" = some (some (.ref fhead_of)))
    (lhead_of : K.lookup fhead_of = some ⟨ochead_of, odhead_of, .func (PySem.W.fnOf "head_of" "head_of" (defArgs shead_of) (defBody shead_of) (defScope shead_of) .none kVhead_of dchead_of pmhead_of anhead_of cdhead_of cthead_of), slhead_of⟩)
    (chead_of : PySem.W.codeIn K cdhead_of "head_of" = true)
    (khead_of : PySem.W.keepIn K (.ref fhead_of) = true)
    {fstretches_from : Addr} {odstretches_from anstretches_from : Option Addr} {slstretches_from : Array (Option Value)} {ocstretches_from kVstretches_from dcstretches_from pmstretches_from cdstretches_from ctstretches_from : Value}
    (astretches_from : PySem.W.nsIn K mainGlobals "stretches_from" = some (some (.ref fstretches_from)))
    (lstretches_from : K.lookup fstretches_from = some ⟨ocstretches_from, odstretches_from, .func (PySem.W.fnOf "stretches_from" "stretches_from" (defArgs sstretches_from) (defBody sstretches_from) (defScope sstretches_from) .none kVstretches_from dcstretches_from pmstretches_from anstretches_from cdstretches_from ctstretches_from), slstretches_from⟩)
    (cstretches_from : PySem.W.codeIn K cdstretches_from "stretches_from" = true)
    (kstretches_from : PySem.W.keepIn K (.ref fstretches_from) = true)
    {frecords_from : Addr} {odrecords_from anrecords_from : Option Addr} {slrecords_from : Array (Option Value)} {ocrecords_from kVrecords_from dcrecords_from pmrecords_from cdrecords_from ctrecords_from : Value}
    (arecords_from : PySem.W.nsIn K mainGlobals "records_from" = some (some (.ref frecords_from)))
    (lrecords_from : K.lookup frecords_from = some ⟨ocrecords_from, odrecords_from, .func (PySem.W.fnOf "records_from" "records_from" (defArgs srecords_from) (defBody srecords_from) (defScope srecords_from) .none kVrecords_from dcrecords_from pmrecords_from anrecords_from cdrecords_from ctrecords_from), slrecords_from⟩)
    (crecords_from : PySem.W.codeIn K cdrecords_from "records_from" = true)
    (krecords_from : PySem.W.keepIn K (.ref frecords_from) = true)
    {fread_area : Addr} {odread_area anread_area : Option Addr} {slread_area : Array (Option Value)} {ocread_area kVread_area dcread_area pmread_area cdread_area ctread_area : Value}
    (aread_area : PySem.W.nsIn K mainGlobals "read_area" = some (some (.ref fread_area)))
    (lread_area : K.lookup fread_area = some ⟨ocread_area, odread_area, .func (PySem.W.fnOf "read_area" "read_area" (defArgs sread_area) (defBody sread_area) (defScope sread_area) .none kVread_area dcread_area pmread_area anread_area cdread_area ctread_area), slread_area⟩)
    (cread_area : PySem.W.codeIn K cdread_area "read_area" = true)
    (kread_area : PySem.W.keepIn K (.ref fread_area) = true)
    {fread_areas : Addr} {odread_areas anread_areas : Option Addr} {slread_areas : Array (Option Value)} {ocread_areas kVread_areas dcread_areas pmread_areas cdread_areas ctread_areas : Value}
    (aread_areas : PySem.W.nsIn K mainGlobals "read_areas" = some (some (.ref fread_areas)))
    (lread_areas : K.lookup fread_areas = some ⟨ocread_areas, odread_areas, .func (PySem.W.fnOf "read_areas" "read_areas" (defArgs sread_areas) (defBody sread_areas) (defScope sread_areas) .none kVread_areas dcread_areas pmread_areas anread_areas cdread_areas ctread_areas), slread_areas⟩)
    (cread_areas : PySem.W.codeIn K cdread_areas "read_areas" = true)
    (kread_areas : PySem.W.keepIn K (.ref fread_areas) = true)
    {fcheck_cut : Addr} {odcheck_cut ancheck_cut : Option Addr} {slcheck_cut : Array (Option Value)} {occheck_cut kVcheck_cut dccheck_cut pmcheck_cut cdcheck_cut ctcheck_cut : Value}
    (acheck_cut : PySem.W.nsIn K mainGlobals "check_cut" = some (some (.ref fcheck_cut)))
    (lcheck_cut : K.lookup fcheck_cut = some ⟨occheck_cut, odcheck_cut, .func (PySem.W.fnOf "check_cut" "check_cut" (defArgs scheck_cut) (defBody scheck_cut) (defScope scheck_cut) .none kVcheck_cut dccheck_cut pmcheck_cut ancheck_cut cdcheck_cut ctcheck_cut), slcheck_cut⟩)
    (ccheck_cut : PySem.W.codeIn K cdcheck_cut "check_cut" = true)
    (kcheck_cut : PySem.W.keepIn K (.ref fcheck_cut) = true)
    {fbag : Addr} {odbag anbag : Option Addr} {slbag : Array (Option Value)} {ocbag kVbag dcbag pmbag cdbag ctbag : Value}
    (abag : PySem.W.nsIn K mainGlobals "_law_bag" = some (some (.ref fbag)))
    (lbag : K.lookup fbag = some ⟨ocbag, odbag, .func (PySem.W.fnOf "_law_bag" "_law_bag" (defArgs sbag) (defBody sbag) (defScope sbag) .none kVbag dcbag pmbag anbag cdbag ctbag), slbag⟩)
    (cbag : PySem.W.codeIn K cdbag "_law_bag" = true)
    (kbag : PySem.W.keepIn K (.ref fbag) = true)
    {fdraw : Addr} {oddraw andraw : Option Addr} {sldraw : Array (Option Value)} {ocdraw kVdraw dcdraw pmdraw cddraw ctdraw : Value}
    (adraw : PySem.W.nsIn K mainGlobals "_law_draw" = some (some (.ref fdraw)))
    (ldraw : K.lookup fdraw = some ⟨ocdraw, oddraw, .func (PySem.W.fnOf "_law_draw" "_law_draw" (defArgs sdraw) (defBody sdraw) (defScope sdraw) .none kVdraw dcdraw pmdraw andraw cddraw ctdraw), sldraw⟩)
    (cdraw : PySem.W.codeIn K cddraw "_law_draw" = true)
    (kdraw : PySem.W.keepIn K (.ref fdraw) = true)
    {fof : Addr} {odof anof : Option Addr} {slof : Array (Option Value)} {ocof kVof dcof pmof cdof ctof : Value}
    (aof : PySem.W.nsIn K mainGlobals "_law_of" = some (some (.ref fof)))
    (lof : K.lookup fof = some ⟨ocof, odof, .func (PySem.W.fnOf "_law_of" "_law_of" (defArgs sof) (defBody sof) (defScope sof) .none kVof dcof pmof anof cdof ctof), slof⟩)
    (cof : PySem.W.codeIn K cdof "_law_of" = true)
    (kof : PySem.W.keepIn K (.ref fof) = true)
    {flike : Addr} {odlike anlike : Option Addr} {sllike : Array (Option Value)} {oclike kVlike dclike pmlike cdlike ctlike : Value}
    (alike : PySem.W.nsIn K mainGlobals "_law_like" = some (some (.ref flike)))
    (llike : K.lookup flike = some ⟨oclike, odlike, .func (PySem.W.fnOf "_law_like" "_law_like" (defArgs slike) (defBody slike) (defScope slike) .none kVlike dclike pmlike anlike cdlike ctlike), sllike⟩)
    (clike : PySem.W.codeIn K cdlike "_law_like" = true)
    (klike : PySem.W.keepIn K (.ref flike) = true)
    {fcut : Addr} {odcut ancut : Option Addr} {slcut : Array (Option Value)} {occut kVcut dccut pmcut cdcut ctcut : Value}
    (acut : PySem.W.nsIn K mainGlobals "_law_cut" = some (some (.ref fcut)))
    (lcut : K.lookup fcut = some ⟨occut, odcut, .func (PySem.W.fnOf "_law_cut" "_law_cut" (defArgs scut) (defBody scut) (defScope scut) .none kVcut dccut pmcut ancut cdcut ctcut), slcut⟩)
    (ccut : PySem.W.codeIn K cdcut "_law_cut" = true)
    (kcut : PySem.W.keepIn K (.ref fcut) = true)
    {fwritten : Addr} {odwritten anwritten : Option Addr} {slwritten : Array (Option Value)} {ocwritten kVwritten dcwritten pmwritten cdwritten ctwritten : Value}
    (awritten : PySem.W.nsIn K mainGlobals "_law_written" = some (some (.ref fwritten)))
    (lwritten : K.lookup fwritten = some ⟨ocwritten, odwritten, .func (PySem.W.fnOf "_law_written" "_law_written" (defArgs swritten) (defBody swritten) (defScope swritten) .none kVwritten dcwritten pmwritten anwritten cdwritten ctwritten), slwritten⟩)
    (cwritten : PySem.W.codeIn K cdwritten "_law_written" = true)
    (kwritten : PySem.W.keepIn K (.ref fwritten) = true)
    {frecorded : Addr} {odrecorded anrecorded : Option Addr} {slrecorded : Array (Option Value)} {ocrecorded kVrecorded dcrecorded pmrecorded cdrecorded ctrecorded : Value}
    (arecorded : PySem.W.nsIn K mainGlobals "_law_recorded" = some (some (.ref frecorded)))
    (lrecorded : K.lookup frecorded = some ⟨ocrecorded, odrecorded, .func (PySem.W.fnOf "_law_recorded" "_law_recorded" (defArgs srecorded) (defBody srecorded) (defScope srecorded) .none kVrecorded dcrecorded pmrecorded anrecorded cdrecorded ctrecorded), slrecorded⟩)
    (crecorded : PySem.W.codeIn K cdrecorded "_law_recorded" = true)
    (krecorded : PySem.W.keepIn K (.ref frecorded) = true)
    {fcopy : Addr} {odcopy ancopy : Option Addr} {slcopy : Array (Option Value)} {occopy kVcopy dccopy pmcopy cdcopy ctcopy : Value}
    (acopy : PySem.W.nsIn K mainGlobals "_law_copy" = some (some (.ref fcopy)))
    (lcopy : K.lookup fcopy = some ⟨occopy, odcopy, .func (PySem.W.fnOf "_law_copy" "_law_copy" (defArgs scopy) (defBody scopy) (defScope scopy) .none kVcopy dccopy pmcopy ancopy cdcopy ctcopy), slcopy⟩)
    (ccopy : PySem.W.codeIn K cdcopy "_law_copy" = true)
    (kcopy : PySem.W.keepIn K (.ref fcopy) = true)
    {fsync : Addr} {odsync ansync : Option Addr} {slsync : Array (Option Value)} {ocsync kVsync dcsync pmsync cdsync ctsync : Value}
    (async : PySem.W.nsIn K mainGlobals "_law_sync" = some (some (.ref fsync)))
    (lsync : K.lookup fsync = some ⟨ocsync, odsync, .func (PySem.W.fnOf "_law_sync" "_law_sync" (defArgs ssync) (defBody ssync) (defScope ssync) .none kVsync dcsync pmsync ansync cdsync ctsync), slsync⟩)
    (csync : PySem.W.codeIn K cdsync "_law_sync" = true)
    (ksync : PySem.W.keepIn K (.ref fsync) = true)
    {fcheck : Addr} {odcheck ancheck : Option Addr} {slcheck : Array (Option Value)} {occheck kVcheck dccheck pmcheck cdcheck ctcheck : Value}
    (acheck : PySem.W.nsIn K mainGlobals "_law_check" = some (some (.ref fcheck)))
    (lcheck : K.lookup fcheck = some ⟨occheck, odcheck, .func (PySem.W.fnOf "_law_check" "_law_check" (defArgs scheck) (defBody scheck) (defScope scheck) .none kVcheck dccheck pmcheck ancheck cdcheck ctcheck), slcheck⟩)
    (ccheck : PySem.W.codeIn K cdcheck "_law_check" = true)
    (kcheck : PySem.W.keepIn K (.ref fcheck) = true)
    {fwrite : Addr} {odwrite anwrite : Option Addr} {slwrite : Array (Option Value)} {ocwrite kVwrite dcwrite pmwrite cdwrite ctwrite : Value}
    (awrite : PySem.W.nsIn K mainGlobals "_law_write" = some (some (.ref fwrite)))
    (lwrite : K.lookup fwrite = some ⟨ocwrite, odwrite, .func (PySem.W.fnOf "_law_write" "_law_write" (defArgs swrite) (defBody swrite) (defScope swrite) .none kVwrite dcwrite pmwrite anwrite cdwrite ctwrite), slwrite⟩)
    (cwrite : PySem.W.codeIn K cdwrite "_law_write" = true)
    (kwrite : PySem.W.keepIn K (.ref fwrite) = true)
    {fkey : Addr} {odkey ankey : Option Addr} {slkey : Array (Option Value)} {ockey kVkey dckey pmkey cdkey ctkey : Value}
    (akey : PySem.W.nsIn K mainGlobals "_law_key" = some (some (.ref fkey)))
    (lkey : K.lookup fkey = some ⟨ockey, odkey, .func (PySem.W.fnOf "_law_key" "_law_key" (defArgs skey) (defBody skey) (defScope skey) .none kVkey dckey pmkey ankey cdkey ctkey), slkey⟩)
    (ckey : PySem.W.codeIn K cdkey "_law_key" = true)
    (kkey : PySem.W.keepIn K (.ref fkey) = true)
    {fmost : Addr} {odmost anmost : Option Addr} {slmost : Array (Option Value)} {ocmost kVmost dcmost pmmost cdmost ctmost : Value}
    (amost : PySem.W.nsIn K mainGlobals "_law_most" = some (some (.ref fmost)))
    (lmost : K.lookup fmost = some ⟨ocmost, odmost, .func (PySem.W.fnOf "_law_most" "_law_most" (defArgs smost) (defBody smost) (defScope smost) .none kVmost dcmost pmmost anmost cdmost ctmost), slmost⟩)
    (cmost : PySem.W.codeIn K cdmost "_law_most" = true)
    (kmost : PySem.W.keepIn K (.ref fmost) = true)
    {fpairs : Addr} {odpairs anpairs : Option Addr} {slpairs : Array (Option Value)} {ocpairs kVpairs dcpairs pmpairs cdpairs ctpairs : Value}
    (apairs : PySem.W.nsIn K mainGlobals "_law_pairs" = some (some (.ref fpairs)))
    (lpairs : K.lookup fpairs = some ⟨ocpairs, odpairs, .func (PySem.W.fnOf "_law_pairs" "_law_pairs" (defArgs spairs) (defBody spairs) (defScope spairs) .none kVpairs dcpairs pmpairs anpairs cdpairs ctpairs), slpairs⟩)
    (cpairs : PySem.W.codeIn K cdpairs "_law_pairs" = true)
    (kpairs : PySem.W.keepIn K (.ref fpairs) = true)
    {fareas : Addr} {odareas anareas : Option Addr} {slareas : Array (Option Value)} {ocareas kVareas dcareas pmareas cdareas ctareas : Value}
    (aareas : PySem.W.nsIn K mainGlobals "_law_areas" = some (some (.ref fareas)))
    (lareas : K.lookup fareas = some ⟨ocareas, odareas, .func (PySem.W.fnOf "_law_areas" "_law_areas" (defArgs sareas) (defBody sareas) (defScope sareas) .none kVareas dcareas pmareas anareas cdareas ctareas), slareas⟩)
    (careas : PySem.W.codeIn K cdareas "_law_areas" = true)
    (kareas : PySem.W.keepIn K (.ref fareas) = true)
    {fdisk_so : Addr} {oddisk_so andisk_so : Option Addr} {sldisk_so : Array (Option Value)} {ocdisk_so kVdisk_so dcdisk_so pmdisk_so cddisk_so ctdisk_so : Value}
    (adisk_so : PySem.W.nsIn K mainGlobals "_law_disk_so" = some (some (.ref fdisk_so)))
    (ldisk_so : K.lookup fdisk_so = some ⟨ocdisk_so, oddisk_so, .func (PySem.W.fnOf "_law_disk_so" "_law_disk_so" (defArgs sdisk_so) (defBody sdisk_so) (defScope sdisk_so) .none kVdisk_so dcdisk_so pmdisk_so andisk_so cddisk_so ctdisk_so), sldisk_so⟩)
    (cdisk_so : PySem.W.codeIn K cddisk_so "_law_disk_so" = true)
    (kdisk_so : PySem.W.keepIn K (.ref fdisk_so) = true)
    {flong : Addr} {odlong anlong : Option Addr} {sllong : Array (Option Value)} {oclong kVlong dclong pmlong cdlong ctlong : Value}
    (along : PySem.W.nsIn K mainGlobals "_law_long" = some (some (.ref flong)))
    (llong : K.lookup flong = some ⟨oclong, odlong, .func (PySem.W.fnOf "_law_long" "_law_long" (defArgs slong) (defBody slong) (defScope slong) .none kVlong dclong pmlong anlong cdlong ctlong), sllong⟩)
    (clong : PySem.W.codeIn K cdlong "_law_long" = true)
    (klong : PySem.W.keepIn K (.ref flong) = true)
    {fvalue : Addr} {odvalue anvalue : Option Addr} {slvalue : Array (Option Value)} {ocvalue kVvalue dcvalue pmvalue cdvalue ctvalue : Value}
    (avalue : PySem.W.nsIn K mainGlobals "_law_value" = some (some (.ref fvalue)))
    (lvalue : K.lookup fvalue = some ⟨ocvalue, odvalue, .func (PySem.W.fnOf "_law_value" "_law_value" (defArgs svalue) (defBody svalue) (defScope svalue) .none kVvalue dcvalue pmvalue anvalue cdvalue ctvalue), slvalue⟩)
    (cvalue : PySem.W.codeIn K cdvalue "_law_value" = true)
    (kvalue : PySem.W.keepIn K (.ref fvalue) = true)
    {fchanges : Addr} {odchanges anchanges : Option Addr} {slchanges : Array (Option Value)} {occhanges kVchanges dcchanges pmchanges cdchanges ctchanges : Value}
    (achanges : PySem.W.nsIn K mainGlobals "_law_changes" = some (some (.ref fchanges)))
    (lchanges : K.lookup fchanges = some ⟨occhanges, odchanges, .func (PySem.W.fnOf "_law_changes" "_law_changes" (defArgs schanges) (defBody schanges) (defScope schanges) .none kVchanges dcchanges pmchanges anchanges cdchanges ctchanges), slchanges⟩)
    (cchanges : PySem.W.codeIn K cdchanges "_law_changes" = true)
    (kchanges : PySem.W.keepIn K (.ref fchanges) = true)
    {fshelf : Addr} {odshelf anshelf : Option Addr} {slshelf : Array (Option Value)} {ocshelf kVshelf dcshelf pmshelf cdshelf ctshelf : Value}
    (ashelf : PySem.W.nsIn K mainGlobals "_law_shelf" = some (some (.ref fshelf)))
    (lshelf : K.lookup fshelf = some ⟨ocshelf, odshelf, .func (PySem.W.fnOf "_law_shelf" "_law_shelf" (defArgs sshelf) (defBody sshelf) (defScope sshelf) .none kVshelf dcshelf pmshelf anshelf cdshelf ctshelf), slshelf⟩)
    (cshelf : PySem.W.codeIn K cdshelf "_law_shelf" = true)
    (kshelf : PySem.W.keepIn K (.ref fshelf) = true)
    {fnew : Addr} {odnew annew : Option Addr} {slnew : Array (Option Value)} {ocnew kVnew dcnew pmnew cdnew ctnew : Value}
    (anew : PySem.W.nsIn K mainGlobals "_law_new" = some (some (.ref fnew)))
    (lnew : K.lookup fnew = some ⟨ocnew, odnew, .func (PySem.W.fnOf "_law_new" "_law_new" (defArgs snew) (defBody snew) (defScope snew) .none kVnew dcnew pmnew annew cdnew ctnew), slnew⟩)
    (cnew : PySem.W.codeIn K cdnew "_law_new" = true)
    (knew : PySem.W.keepIn K (.ref fnew) = true)
    {fpower : Addr} {odpower anpower : Option Addr} {slpower : Array (Option Value)} {ocpower kVpower dcpower pmpower cdpower ctpower : Value}
    (apower : PySem.W.nsIn K mainGlobals "_law_power" = some (some (.ref fpower)))
    (lpower : K.lookup fpower = some ⟨ocpower, odpower, .func (PySem.W.fnOf "_law_power" "_law_power" (defArgs spower) (defBody spower) (defScope spower) .none kVpower dcpower pmpower anpower cdpower ctpower), slpower⟩)
    (cpower : PySem.W.codeIn K cdpower "_law_power" = true)
    (kpower : PySem.W.keepIn K (.ref fpower) = true)
    {fwords : Addr} {odwords anwords : Option Addr} {slwords : Array (Option Value)} {ocwords kVwords dcwords pmwords cdwords ctwords : Value}
    (awords : PySem.W.nsIn K mainGlobals "_law_words" = some (some (.ref fwords)))
    (lwords : K.lookup fwords = some ⟨ocwords, odwords, .func (PySem.W.fnOf "_law_words" "_law_words" (defArgs swords) (defBody swords) (defScope swords) .none kVwords dcwords pmwords anwords cdwords ctwords), slwords⟩)
    (cwords : PySem.W.codeIn K cdwords "_law_words" = true)
    (kwords : PySem.W.keepIn K (.ref fwords) = true)
    {fstart : Addr} {odstart anstart : Option Addr} {slstart : Array (Option Value)} {ocstart kVstart dcstart pmstart cdstart ctstart : Value}
    (astart : PySem.W.nsIn K mainGlobals "_law_start" = some (some (.ref fstart)))
    (lstart : K.lookup fstart = some ⟨ocstart, odstart, .func (PySem.W.fnOf "_law_start" "_law_start" (defArgs sstart) (defBody sstart) (defScope sstart) .none kVstart dcstart pmstart anstart cdstart ctstart), slstart⟩)
    (cstart : PySem.W.codeIn K cdstart "_law_start" = true)
    (kstart : PySem.W.keepIn K (.ref fstart) = true)
    {fdue : Addr} {oddue andue : Option Addr} {sldue : Array (Option Value)} {ocdue kVdue dcdue pmdue cddue ctdue : Value}
    (adue : PySem.W.nsIn K mainGlobals "_law_due" = some (some (.ref fdue)))
    (ldue : K.lookup fdue = some ⟨ocdue, oddue, .func (PySem.W.fnOf "_law_due" "_law_due" (defArgs sdue) (defBody sdue) (defScope sdue) .none kVdue dcdue pmdue andue cddue ctdue), sldue⟩)
    (cdue : PySem.W.codeIn K cddue "_law_due" = true)
    (kdue : PySem.W.keepIn K (.ref fdue) = true)
    {funsynced : Addr} {odunsynced anunsynced : Option Addr} {slunsynced : Array (Option Value)} {ocunsynced kVunsynced dcunsynced pmunsynced cdunsynced ctunsynced : Value}
    (aunsynced : PySem.W.nsIn K mainGlobals "_law_unsynced" = some (some (.ref funsynced)))
    (lunsynced : K.lookup funsynced = some ⟨ocunsynced, odunsynced, .func (PySem.W.fnOf "_law_unsynced" "_law_unsynced" (defArgs sunsynced) (defBody sunsynced) (defScope sunsynced) .none kVunsynced dcunsynced pmunsynced anunsynced cdunsynced ctunsynced), slunsynced⟩)
    (cunsynced : PySem.W.codeIn K cdunsynced "_law_unsynced" = true)
    (kunsynced : PySem.W.keepIn K (.ref funsynced) = true)
    {fcut_so : Addr} {odcut_so ancut_so : Option Addr} {slcut_so : Array (Option Value)} {occut_so kVcut_so dccut_so pmcut_so cdcut_so ctcut_so : Value}
    (acut_so : PySem.W.nsIn K mainGlobals "_law_cut_so" = some (some (.ref fcut_so)))
    (lcut_so : K.lookup fcut_so = some ⟨occut_so, odcut_so, .func (PySem.W.fnOf "_law_cut_so" "_law_cut_so" (defArgs scut_so) (defBody scut_so) (defScope scut_so) .none kVcut_so dccut_so pmcut_so ancut_so cdcut_so ctcut_so), slcut_so⟩)
    (ccut_so : PySem.W.codeIn K cdcut_so "_law_cut_so" = true)
    (kcut_so : PySem.W.keepIn K (.ref fcut_so) = true)
    {flaw : Addr} {odlaw anlaw : Option Addr} {sllaw : Array (Option Value)} {oclaw kVlaw dclaw pmlaw cdlaw ctlaw : Value}
    (alaw : PySem.W.nsIn K mainGlobals "law" = some (some (.ref flaw)))
    (llaw : K.lookup flaw = some ⟨oclaw, odlaw, .func (PySem.W.fnOf "law" "law" (defArgs slaw) (defBody slaw) (defScope slaw) .none kVlaw dclaw pmlaw anlaw cdlaw ctlaw), sllaw⟩)
    (claw : PySem.W.codeIn K cdlaw "law" = true)
    (klaw : PySem.W.keepIn K (.ref flaw) = true)
    (zall : PySem.W.nsIn K mainGlobals "all" = some none)
    (zany : PySem.W.nsIn K mainGlobals "any" = some none)
    (zbool : PySem.W.nsIn K mainGlobals "bool" = some none)
    (zdict : PySem.W.nsIn K mainGlobals "dict" = some none)
    (zenumerate : PySem.W.nsIn K mainGlobals "enumerate" = some none)
    (zint : PySem.W.nsIn K mainGlobals "int" = some none)
    (zisinstance : PySem.W.nsIn K mainGlobals "isinstance" = some none)
    (zlen : PySem.W.nsIn K mainGlobals "len" = some none)
    (zlist : PySem.W.nsIn K mainGlobals "list" = some none)
    (zmax : PySem.W.nsIn K mainGlobals "max" = some none)
    (zrange : PySem.W.nsIn K mainGlobals "range" = some none)
    (zsorted : PySem.W.nsIn K mainGlobals "sorted" = some none)
    (zstr : PySem.W.nsIn K mainGlobals "str" = some none)
    (zsum : PySem.W.nsIn K mainGlobals "sum" = some none)
    (ztuple : PySem.W.nsIn K mainGlobals "tuple" = some none)
    (zzip : PySem.W.nsIn K mainGlobals "zip" = some none)
    {tkMOST_ROWS : Tok} (yMOST_ROWS : PySem.W.nsIn K mainGlobals "MOST_ROWS" = some (some (.int 64 tkMOST_ROWS)))
        {aDisk Dk_init Dk_check fDisk_init fDisk_write fDisk_check fDisk_sync fDisk_put fDisk_keep fDisk_check_awake fDisk_table fDisk_areas fDisk_unsynced fDisk_syncs fDisk_fallen fDisk_copy fDisk_wake fDisk_fall : Addr}
    (aDiskG : PySem.W.nsIn K mainGlobals "Disk" = some (some (.ref aDisk)))
    (pgDisk : PySem.W.plainGet K aDisk Str.empty = true)
    (hdDisk : PySem.W.hasDictIn K aDisk = true)
    (poDisk : PySem.W.plainOver K aDisk = true)
    (saDisk : PySem.W.findIn K (.ref aDisk) "__setattr__" = some (some (.builtin "object.__setattr__")))
    (mkDisk : PySem.W.makesIn K aDisk = true)
    (kpDisk : PySem.W.keepIn K (.ref aDisk) = true)
    (nDisk_most : PySem.W.findIn K (.ref aDisk) "_most" = some none)
    (nDisk_table : PySem.W.findIn K (.ref aDisk) "_table" = some none)
    (nDisk_areas : PySem.W.findIn K (.ref aDisk) "_areas" = some none)
    (nDisk_unsynced : PySem.W.findIn K (.ref aDisk) "_unsynced" = some none)
    (nDisk_syncs : PySem.W.findIn K (.ref aDisk) "_syncs" = some none)
    (nDisk_fallen : PySem.W.findIn K (.ref aDisk) "_fallen" = some none)
    (nDisk_halts : PySem.W.findIn K (.ref aDisk) "_halts" = some none)
    (nDisk_halted : PySem.W.findIn K (.ref aDisk) "_halted" = some none)
    (nDisk_area : PySem.W.findIn K (.ref aDisk) "_area" = some none)
    (nDisk_generation : PySem.W.findIn K (.ref aDisk) "_generation" = some none)
    (nDisk_pieces : PySem.W.findIn K (.ref aDisk) "_pieces" = some none)
    (nDisk_rows : PySem.W.findIn K (.ref aDisk) "_rows" = some none)
    {tkST tkSV : Tok}
    (stDisk : PySem.W.findIn K (.ref aDisk) "STRETCH" = some (some (.int 60 tkST)))
    (gtDisk : PySem.W.specialIn K (.int 60 tkST) "__get__" = some none)
    (rdDisk : PySem.W.readsIn K aDisk (.type "type") = true)
    (gaDisk : PySem.W.specialIn K (.ref aDisk) "__getattribute__" = some (some (.builtin "type.__getattribute__")))
    (cvDisk : PySem.W.findCls K (.ref aDisk) (.type "type") "STRETCH" = some (.val (.int 60 tkSV)))
    (atDisk_init : PySem.W.findIn K (.ref aDisk) "__init__" = some (some (.ref fDisk_init)))
    {odDisk_init anDisk_init : Option Addr} {slDisk_init : Array (Option Value)} {ocDisk_init dcDisk_init pmDisk_init cdDisk_init ctDisk_init : Value}
    (lDisk_init : K.lookup fDisk_init = some ⟨ocDisk_init, odDisk_init, .func (PySem.W.fnOf "__init__" "Disk.__init__" (defArgs sDisk_init) (defBody sDisk_init) (defScope sDisk_init) .none (.ref Dk_init) dcDisk_init pmDisk_init anDisk_init cdDisk_init ctDisk_init), slDisk_init⟩)
    (cDisk_init : PySem.W.codeIn K cdDisk_init "Disk.__init__" = true)
    (kDisk_init : PySem.W.keepIn K (.ref fDisk_init) = true)
    (iDisk_init : PySem.W.isFn K (.ref fDisk_init) = true)
    (atDisk_write : PySem.W.findIn K (.ref aDisk) "write" = some (some (.ref fDisk_write)))
    {odDisk_write anDisk_write : Option Addr} {slDisk_write : Array (Option Value)} {ocDisk_write kVDisk_write dcDisk_write pmDisk_write cdDisk_write ctDisk_write : Value}
    (lDisk_write : K.lookup fDisk_write = some ⟨ocDisk_write, odDisk_write, .func (PySem.W.fnOf "write" "Disk.write" (defArgs sDisk_write) (defBody sDisk_write) (defScope sDisk_write) .none kVDisk_write dcDisk_write pmDisk_write anDisk_write cdDisk_write ctDisk_write), slDisk_write⟩)
    (cDisk_write : PySem.W.codeIn K cdDisk_write "Disk.write" = true)
    (kDisk_write : PySem.W.keepIn K (.ref fDisk_write) = true)
    (iDisk_write : PySem.W.isFn K (.ref fDisk_write) = true)
    (atDisk_check : PySem.W.findIn K (.ref aDisk) "check" = some (some (.ref fDisk_check)))
    {odDisk_check anDisk_check : Option Addr} {slDisk_check : Array (Option Value)} {ocDisk_check dcDisk_check pmDisk_check cdDisk_check ctDisk_check : Value}
    (lDisk_check : K.lookup fDisk_check = some ⟨ocDisk_check, odDisk_check, .func (PySem.W.fnOf "check" "Disk.check" (defArgs sDisk_check) (defBody sDisk_check) (defScope sDisk_check) .none (.ref Dk_check) dcDisk_check pmDisk_check anDisk_check cdDisk_check ctDisk_check), slDisk_check⟩)
    (cDisk_check : PySem.W.codeIn K cdDisk_check "Disk.check" = true)
    (kDisk_check : PySem.W.keepIn K (.ref fDisk_check) = true)
    (iDisk_check : PySem.W.isFn K (.ref fDisk_check) = true)
    (atDisk_sync : PySem.W.findIn K (.ref aDisk) "sync" = some (some (.ref fDisk_sync)))
    {odDisk_sync anDisk_sync : Option Addr} {slDisk_sync : Array (Option Value)} {ocDisk_sync kVDisk_sync dcDisk_sync pmDisk_sync cdDisk_sync ctDisk_sync : Value}
    (lDisk_sync : K.lookup fDisk_sync = some ⟨ocDisk_sync, odDisk_sync, .func (PySem.W.fnOf "sync" "Disk.sync" (defArgs sDisk_sync) (defBody sDisk_sync) (defScope sDisk_sync) .none kVDisk_sync dcDisk_sync pmDisk_sync anDisk_sync cdDisk_sync ctDisk_sync), slDisk_sync⟩)
    (cDisk_sync : PySem.W.codeIn K cdDisk_sync "Disk.sync" = true)
    (kDisk_sync : PySem.W.keepIn K (.ref fDisk_sync) = true)
    (iDisk_sync : PySem.W.isFn K (.ref fDisk_sync) = true)
    (atDisk_put : PySem.W.findIn K (.ref aDisk) "put" = some (some (.ref fDisk_put)))
    {odDisk_put anDisk_put : Option Addr} {slDisk_put : Array (Option Value)} {ocDisk_put kVDisk_put dcDisk_put pmDisk_put cdDisk_put ctDisk_put : Value}
    (lDisk_put : K.lookup fDisk_put = some ⟨ocDisk_put, odDisk_put, .func (PySem.W.fnOf "put" "Disk.put" (defArgs sDisk_put) (defBody sDisk_put) (defScope sDisk_put) .none kVDisk_put dcDisk_put pmDisk_put anDisk_put cdDisk_put ctDisk_put), slDisk_put⟩)
    (cDisk_put : PySem.W.codeIn K cdDisk_put "Disk.put" = true)
    (kDisk_put : PySem.W.keepIn K (.ref fDisk_put) = true)
    (iDisk_put : PySem.W.isFn K (.ref fDisk_put) = true)
    (atDisk_keep : PySem.W.findIn K (.ref aDisk) "keep" = some (some (.ref fDisk_keep)))
    {odDisk_keep anDisk_keep : Option Addr} {slDisk_keep : Array (Option Value)} {ocDisk_keep kVDisk_keep dcDisk_keep pmDisk_keep cdDisk_keep ctDisk_keep : Value}
    (lDisk_keep : K.lookup fDisk_keep = some ⟨ocDisk_keep, odDisk_keep, .func (PySem.W.fnOf "keep" "Disk.keep" (defArgs sDisk_keep) (defBody sDisk_keep) (defScope sDisk_keep) .none kVDisk_keep dcDisk_keep pmDisk_keep anDisk_keep cdDisk_keep ctDisk_keep), slDisk_keep⟩)
    (cDisk_keep : PySem.W.codeIn K cdDisk_keep "Disk.keep" = true)
    (kDisk_keep : PySem.W.keepIn K (.ref fDisk_keep) = true)
    (iDisk_keep : PySem.W.isFn K (.ref fDisk_keep) = true)
    (atDisk_check_awake : PySem.W.findIn K (.ref aDisk) "check_awake" = some (some (.ref fDisk_check_awake)))
    {odDisk_check_awake anDisk_check_awake : Option Addr} {slDisk_check_awake : Array (Option Value)} {ocDisk_check_awake kVDisk_check_awake dcDisk_check_awake pmDisk_check_awake cdDisk_check_awake ctDisk_check_awake : Value}
    (lDisk_check_awake : K.lookup fDisk_check_awake = some ⟨ocDisk_check_awake, odDisk_check_awake, .func (PySem.W.fnOf "check_awake" "Disk.check_awake" (defArgs sDisk_check_awake) (defBody sDisk_check_awake) (defScope sDisk_check_awake) .none kVDisk_check_awake dcDisk_check_awake pmDisk_check_awake anDisk_check_awake cdDisk_check_awake ctDisk_check_awake), slDisk_check_awake⟩)
    (cDisk_check_awake : PySem.W.codeIn K cdDisk_check_awake "Disk.check_awake" = true)
    (kDisk_check_awake : PySem.W.keepIn K (.ref fDisk_check_awake) = true)
    (iDisk_check_awake : PySem.W.isFn K (.ref fDisk_check_awake) = true)
    (atDisk_table : PySem.W.findIn K (.ref aDisk) "table" = some (some (.ref fDisk_table)))
    {odDisk_table anDisk_table : Option Addr} {slDisk_table : Array (Option Value)} {ocDisk_table kVDisk_table dcDisk_table pmDisk_table cdDisk_table ctDisk_table : Value}
    (lDisk_table : K.lookup fDisk_table = some ⟨ocDisk_table, odDisk_table, .func (PySem.W.fnOf "table" "Disk.table" (defArgs sDisk_table) (defBody sDisk_table) (defScope sDisk_table) .none kVDisk_table dcDisk_table pmDisk_table anDisk_table cdDisk_table ctDisk_table), slDisk_table⟩)
    (cDisk_table : PySem.W.codeIn K cdDisk_table "Disk.table" = true)
    (kDisk_table : PySem.W.keepIn K (.ref fDisk_table) = true)
    (iDisk_table : PySem.W.isFn K (.ref fDisk_table) = true)
    (atDisk_areas : PySem.W.findIn K (.ref aDisk) "areas" = some (some (.ref fDisk_areas)))
    {odDisk_areas anDisk_areas : Option Addr} {slDisk_areas : Array (Option Value)} {ocDisk_areas kVDisk_areas dcDisk_areas pmDisk_areas cdDisk_areas ctDisk_areas : Value}
    (lDisk_areas : K.lookup fDisk_areas = some ⟨ocDisk_areas, odDisk_areas, .func (PySem.W.fnOf "areas" "Disk.areas" (defArgs sDisk_areas) (defBody sDisk_areas) (defScope sDisk_areas) .none kVDisk_areas dcDisk_areas pmDisk_areas anDisk_areas cdDisk_areas ctDisk_areas), slDisk_areas⟩)
    (cDisk_areas : PySem.W.codeIn K cdDisk_areas "Disk.areas" = true)
    (kDisk_areas : PySem.W.keepIn K (.ref fDisk_areas) = true)
    (iDisk_areas : PySem.W.isFn K (.ref fDisk_areas) = true)
    (atDisk_unsynced : PySem.W.findIn K (.ref aDisk) "unsynced" = some (some (.ref fDisk_unsynced)))
    {odDisk_unsynced anDisk_unsynced : Option Addr} {slDisk_unsynced : Array (Option Value)} {ocDisk_unsynced kVDisk_unsynced dcDisk_unsynced pmDisk_unsynced cdDisk_unsynced ctDisk_unsynced : Value}
    (lDisk_unsynced : K.lookup fDisk_unsynced = some ⟨ocDisk_unsynced, odDisk_unsynced, .func (PySem.W.fnOf "unsynced" "Disk.unsynced" (defArgs sDisk_unsynced) (defBody sDisk_unsynced) (defScope sDisk_unsynced) .none kVDisk_unsynced dcDisk_unsynced pmDisk_unsynced anDisk_unsynced cdDisk_unsynced ctDisk_unsynced), slDisk_unsynced⟩)
    (cDisk_unsynced : PySem.W.codeIn K cdDisk_unsynced "Disk.unsynced" = true)
    (kDisk_unsynced : PySem.W.keepIn K (.ref fDisk_unsynced) = true)
    (iDisk_unsynced : PySem.W.isFn K (.ref fDisk_unsynced) = true)
    {pDisk_syncs : Addr} {reDisk_syncs : List Value}
    (atDisk_syncs : PySem.W.findIn K (.ref aDisk) "syncs" = some (some (.ref pDisk_syncs)))
    (geDisk_syncs : PySem.W.specialIn K (.ref pDisk_syncs) "__get__" = some (some (.builtin "property.__get__")))
    (taDisk_syncs : PySem.W.takesIn K (.ref pDisk_syncs) = some true)
    (rcDisk_syncs : PySem.W.recIn K pDisk_syncs "property" = some (.ref fDisk_syncs :: reDisk_syncs))
    {odDisk_syncs anDisk_syncs : Option Addr} {slDisk_syncs : Array (Option Value)} {ocDisk_syncs kVDisk_syncs dcDisk_syncs pmDisk_syncs cdDisk_syncs ctDisk_syncs : Value}
    (lDisk_syncs : K.lookup fDisk_syncs = some ⟨ocDisk_syncs, odDisk_syncs, .func (PySem.W.fnOf "syncs" "Disk.syncs" (defArgs sDisk_syncs) (defBody sDisk_syncs) (defScope sDisk_syncs) .none kVDisk_syncs dcDisk_syncs pmDisk_syncs anDisk_syncs cdDisk_syncs ctDisk_syncs), slDisk_syncs⟩)
    (cDisk_syncs : PySem.W.codeIn K cdDisk_syncs "Disk.syncs" = true)
    (kDisk_syncs : PySem.W.keepIn K (.ref fDisk_syncs) = true)
    (iDisk_syncs : PySem.W.isFn K (.ref fDisk_syncs) = true)
    {pDisk_fallen : Addr} {reDisk_fallen : List Value}
    (atDisk_fallen : PySem.W.findIn K (.ref aDisk) "fallen" = some (some (.ref pDisk_fallen)))
    (geDisk_fallen : PySem.W.specialIn K (.ref pDisk_fallen) "__get__" = some (some (.builtin "property.__get__")))
    (taDisk_fallen : PySem.W.takesIn K (.ref pDisk_fallen) = some true)
    (rcDisk_fallen : PySem.W.recIn K pDisk_fallen "property" = some (.ref fDisk_fallen :: reDisk_fallen))
    {odDisk_fallen anDisk_fallen : Option Addr} {slDisk_fallen : Array (Option Value)} {ocDisk_fallen kVDisk_fallen dcDisk_fallen pmDisk_fallen cdDisk_fallen ctDisk_fallen : Value}
    (lDisk_fallen : K.lookup fDisk_fallen = some ⟨ocDisk_fallen, odDisk_fallen, .func (PySem.W.fnOf "fallen" "Disk.fallen" (defArgs sDisk_fallen) (defBody sDisk_fallen) (defScope sDisk_fallen) .none kVDisk_fallen dcDisk_fallen pmDisk_fallen anDisk_fallen cdDisk_fallen ctDisk_fallen), slDisk_fallen⟩)
    (cDisk_fallen : PySem.W.codeIn K cdDisk_fallen "Disk.fallen" = true)
    (kDisk_fallen : PySem.W.keepIn K (.ref fDisk_fallen) = true)
    (iDisk_fallen : PySem.W.isFn K (.ref fDisk_fallen) = true)
    (atDisk_copy : PySem.W.findIn K (.ref aDisk) "copy" = some (some (.ref fDisk_copy)))
    {odDisk_copy anDisk_copy : Option Addr} {slDisk_copy : Array (Option Value)} {ocDisk_copy kVDisk_copy dcDisk_copy pmDisk_copy cdDisk_copy ctDisk_copy : Value}
    (lDisk_copy : K.lookup fDisk_copy = some ⟨ocDisk_copy, odDisk_copy, .func (PySem.W.fnOf "copy" "Disk.copy" (defArgs sDisk_copy) (defBody sDisk_copy) (defScope sDisk_copy) .none kVDisk_copy dcDisk_copy pmDisk_copy anDisk_copy cdDisk_copy ctDisk_copy), slDisk_copy⟩)
    (cDisk_copy : PySem.W.codeIn K cdDisk_copy "Disk.copy" = true)
    (kDisk_copy : PySem.W.keepIn K (.ref fDisk_copy) = true)
    (iDisk_copy : PySem.W.isFn K (.ref fDisk_copy) = true)
    (atDisk_wake : PySem.W.findIn K (.ref aDisk) "wake" = some (some (.ref fDisk_wake)))
    {odDisk_wake anDisk_wake : Option Addr} {slDisk_wake : Array (Option Value)} {ocDisk_wake kVDisk_wake dcDisk_wake pmDisk_wake cdDisk_wake ctDisk_wake : Value}
    (lDisk_wake : K.lookup fDisk_wake = some ⟨ocDisk_wake, odDisk_wake, .func (PySem.W.fnOf "wake" "Disk.wake" (defArgs sDisk_wake) (defBody sDisk_wake) (defScope sDisk_wake) .none kVDisk_wake dcDisk_wake pmDisk_wake anDisk_wake cdDisk_wake ctDisk_wake), slDisk_wake⟩)
    (cDisk_wake : PySem.W.codeIn K cdDisk_wake "Disk.wake" = true)
    (kDisk_wake : PySem.W.keepIn K (.ref fDisk_wake) = true)
    (iDisk_wake : PySem.W.isFn K (.ref fDisk_wake) = true)
    (atDisk_fall : PySem.W.findIn K (.ref aDisk) "fall" = some (some (.ref fDisk_fall)))
    {Tj aED : Addr} {ocTj ocED : Value} {odTj odED : Option Addr} {itTj itED : Array Value} {nTj nED : Nat} {slTj slED : Array (Option Value)}
    {odDisk_fall anDisk_fall : Option Addr} {slDisk_fall : Array (Option Value)} {ocDisk_fall kVDisk_fall dcDisk_fall pmDisk_fall cdDisk_fall ctDisk_fall : Value}
    (lDisk_fall : K.lookup fDisk_fall = some ⟨ocDisk_fall, odDisk_fall, .func (PySem.W.fnOf "fall" "Disk.fall" (defArgs sDisk_fall) (defBody sDisk_fall) (defScope sDisk_fall) (.ref Tj) kVDisk_fall dcDisk_fall pmDisk_fall anDisk_fall cdDisk_fall ctDisk_fall), slDisk_fall⟩)
    (cDisk_fall : PySem.W.codeIn K cdDisk_fall "Disk.fall" = true)
    (kDisk_fall : PySem.W.keepIn K (.ref fDisk_fall) = true)
    (iDisk_fall : PySem.W.isFn K (.ref fDisk_fall) = true)
    (lTj : K.lookup Tj = some ⟨ocTj, odTj, .seq itTj nTj, slTj⟩)
    (vTj : itTj = #[.ref aED])
    (lED : K.lookup aED = some ⟨ocED, odED, .seq itED nED, slED⟩)
    (vED : itED = #[])
    (tED : ocED = .type "tuple")
    {tkDi tkK1 tkK2 tkK3 : Tok} {aCW : Addr} {ocCW : Value} {odCW : Option Addr} {itCW : Array Value} {nCW : Nat} {slCW : Array (Option Value)}
    (aCWG : PySem.W.nsIn K mainGlobals "CUT_WORDS" = some (some (.ref aCW)))
    (lCW : K.lookup aCW = some ⟨ocCW, odCW, .seq itCW nCW, slCW⟩)
    (vCW : itCW = #[.str "kept" tkK1, .str "lost" tkK2, .str "torn" tkK3])
    (tCW : ocCW = .type "tuple")
    (drows : PySem.W.nsIn K Dk_init "rows" = some (some (.int 16 tkDi)))
    (dsyn : PySem.W.nsIn K Dk_check "synced" = some (some (.bool true)))
    {aInvalidNumber : Addr}
    (a_InvalidNumber : PySem.W.nsIn K mainGlobals "InvalidNumber" = some (some (.ref aInvalidNumber)))
    {nmInvalidNumber qInvalidNumber : Str} {NEInvalidNumber SEInvalidNumber : Addr} {bsInvalidNumber : List Value} {snInvalidNumber : List Str} {subInvalidNumber : List Value} {abInvalidNumber : Bool} {colInvalidNumber : Option Bool} {ddInvalidNumber : Option Addr} {m0InvalidNumber m1InvalidNumber m2InvalidNumber m3InvalidNumber m5InvalidNumber : Option Value} {fInvalidNumber_init : Addr}
    (xInvalidNumber : K.lookup aInvalidNumber = some (excClassObj nmInvalidNumber qInvalidNumber aInvalidNumber NEInvalidNumber bsInvalidNumber [.ref SEInvalidNumber, .type "ValueError", .type "Exception", .type "BaseException", .type "object"] true snInvalidNumber subInvalidNumber abInvalidNumber colInvalidNumber ddInvalidNumber m0InvalidNumber m1InvalidNumber m2InvalidNumber m3InvalidNumber m5InvalidNumber "ValueError.__new__"))
    (saInvalidNumber : PySem.W.findIn K (.ref aInvalidNumber) "__setattr__" = some (some (.builtin "object.__setattr__")))
    (exInvalidNumber : PySem.W.subIn K (.ref aInvalidNumber) (.type "BaseException") = some true)
    (tyInvalidNumber : PySem.W.typeIn K (.ref aInvalidNumber) = some (.type "type"))
    (kpInvalidNumber : PySem.W.keepIn K (.ref aInvalidNumber) = true)
    (inInvalidNumber : PySem.W.findIn K (.ref aInvalidNumber) "__init__" = some (some (.ref fInvalidNumber_init)))
    (tiInvalidNumber : PySem.W.typeIn K (.ref fInvalidNumber_init) = some (.type "function"))
    (gaInvalidNumber : PySem.W.findIn K (.ref aInvalidNumber) "__getattribute__" = some (some (.builtin "BaseException.__getattribute__")))
    (ggInvalidNumber : PySem.W.findIn K (.ref aInvalidNumber) "__getattr__" = some none)
    (hdInvalidNumber : PySem.W.hasDictIn K aInvalidNumber = true)
    (clInvalidNumber : PySem.W.isClsIn K aInvalidNumber = true)
    (ssInvalidNumber : PySem.W.subIn K (.ref aInvalidNumber) (.ref aInvalidNumber) = some true)
    (nvalueInvalidNumber : PySem.W.findIn K (.ref aInvalidNumber) "value" = some none)
    (ncodeInvalidNumber : PySem.W.findIn K (.ref aInvalidNumber) "code" = some none)
    {odInvalidNumber_init anInvalidNumber_init : Option Addr} {slInvalidNumber_init : Array (Option Value)} {ocInvalidNumber_init kVInvalidNumber_init dcInvalidNumber_init pmInvalidNumber_init cdInvalidNumber_init ctInvalidNumber_init : Value}
    (lInvalidNumber_init : K.lookup fInvalidNumber_init = some ⟨ocInvalidNumber_init, odInvalidNumber_init, .func (PySem.W.fnOf "__init__" "InvalidNumber.__init__" (defArgs sInvalidNumber_init) (defBody sInvalidNumber_init) (defScope sInvalidNumber_init) .none kVInvalidNumber_init dcInvalidNumber_init pmInvalidNumber_init anInvalidNumber_init cdInvalidNumber_init ctInvalidNumber_init), slInvalidNumber_init⟩)
    (cInvalidNumber_init : PySem.W.codeIn K cdInvalidNumber_init "InvalidNumber.__init__" = true)
    (kInvalidNumber_init : PySem.W.keepIn K (.ref fInvalidNumber_init) = true)
    (iInvalidNumber_init : PySem.W.isFn K (.ref fInvalidNumber_init) = true)
    {aSE : Addr}
    (aSure : PySem.W.nsIn K mainGlobals "SureletError" = some (some (.ref aSE))) :
    ∃ fd : FuncData, (∀ (s : Shared) (v : Value), BindsTo s fd ⟨[v], []⟩ [("_law_script", v)]) ∧ ∀ base : Heap, K.In base → base.Ns mainGlobals mg → FnOk l.prog w K mg base CX0 9 fa fd ["_law_script"] (splaw K) := by
  have e := hfa.symm.trans (PySem.W.mg_of X G alaw)
  cases e
  have T : Txt K mg := ⟨PySem.W.mg_none_of X G zall, PySem.W.mg_none_of X G zany, PySem.W.mg_none_of X G zbool, PySem.W.mg_none_of X G zdict, PySem.W.mg_none_of X G zenumerate, PySem.W.mg_none_of X G zint, PySem.W.mg_none_of X G zisinstance, PySem.W.mg_none_of X G zlen, PySem.W.mg_none_of X G zlist, PySem.W.mg_none_of X G zmax, PySem.W.mg_none_of X G zrange, PySem.W.mg_none_of X G zsorted, PySem.W.mg_none_of X G zstr, PySem.W.mg_none_of X G zsum, PySem.W.mg_none_of X G ztuple, PySem.W.mg_none_of X G zzip, ⟨_, PySem.W.mg_of X G yMOST_ROWS⟩⟩
  have Fis_whole := fun_mk (st := sis_whole) lis_whole cis_whole kis_whole
  have Dis_whole : Def K mg "is_whole" sis_whole Pis_whole _ _ := ⟨Fis_whole, PySem.W.mg_of X G ais_whole, Fis_whole.binds (ps := Pis_whole) fun _ _ _ _ _ _ us hl => match us, hl with | [_], _ => rfl⟩
  have Fis_number := fun_mk (st := sis_number) lis_number cis_number kis_number
  have Dis_number : Def K mg "is_number" sis_number Pis_number _ _ := ⟨Fis_number, PySem.W.mg_of X G ais_number, Fis_number.binds (ps := Pis_number) fun _ _ _ _ _ _ us hl => match us, hl with | [_, _, _], _ => rfl⟩
  have Fchanges_text := fun_mk (st := schanges_text) lchanges_text cchanges_text kchanges_text
  have Dchanges_text : Def K mg "changes_text" schanges_text Pchanges_text _ _ := ⟨Fchanges_text, PySem.W.mg_of X G achanges_text, Fchanges_text.binds (ps := Pchanges_text) fun _ _ _ _ _ _ us hl => match us, hl with | [_], _ => rfl⟩
  have Fapply_changes := fun_mk (st := sapply_changes) lapply_changes capply_changes kapply_changes
  have Dapply_changes : Def K mg "apply_changes" sapply_changes Papply_changes _ _ := ⟨Fapply_changes, PySem.W.mg_of X G aapply_changes, Fapply_changes.binds (ps := Papply_changes) fun _ _ _ _ _ _ us hl => match us, hl with | [_, _], _ => rfl⟩
  have Fstretches := fun_mk (st := sstretches) lstretches cstretches kstretches
  have Dstretches : Def K mg "stretches" sstretches Pstretches _ _ := ⟨Fstretches, PySem.W.mg_of X G astretches, Fstretches.binds (ps := Pstretches) fun _ _ _ _ _ _ us hl => match us, hl with | [_, _], _ => rfl⟩
  have Fread_changes := fun_mk (st := sread_changes) lread_changes cread_changes kread_changes
  have Dread_changes : Def K mg "read_changes" sread_changes Pread_changes _ _ := ⟨Fread_changes, PySem.W.mg_of X G aread_changes, Fread_changes.binds (ps := Pread_changes) fun _ _ _ _ _ _ us hl => match us, hl with | [_], _ => rfl⟩
  have Fgeneration_of := fun_mk (st := sgeneration_of) lgeneration_of cgeneration_of kgeneration_of
  have Dgeneration_of : Def K mg "generation_of" sgeneration_of Pgeneration_of _ _ := ⟨Fgeneration_of, PySem.W.mg_of X G ageneration_of, Fgeneration_of.binds (ps := Pgeneration_of) fun _ _ _ _ _ _ us hl => match us, hl with | [_], _ => rfl⟩
  have Fhead_of := fun_mk (st := shead_of) lhead_of chead_of khead_of
  have Dhead_of : Def K mg "head_of" shead_of Phead_of _ _ := ⟨Fhead_of, PySem.W.mg_of X G ahead_of, Fhead_of.binds (ps := Phead_of) fun _ _ _ _ _ _ us hl => match us, hl with | [_], _ => rfl⟩
  have Fstretches_from := fun_mk (st := sstretches_from) lstretches_from cstretches_from kstretches_from
  have Dstretches_from : Def K mg "stretches_from" sstretches_from Pstretches_from _ _ := ⟨Fstretches_from, PySem.W.mg_of X G astretches_from, Fstretches_from.binds (ps := Pstretches_from) fun _ _ _ _ _ _ us hl => match us, hl with | [_, _], _ => rfl⟩
  have Frecords_from := fun_mk (st := srecords_from) lrecords_from crecords_from krecords_from
  have Drecords_from : Def K mg "records_from" srecords_from Precords_from _ _ := ⟨Frecords_from, PySem.W.mg_of X G arecords_from, Frecords_from.binds (ps := Precords_from) fun _ _ _ _ _ _ us hl => match us, hl with | [_, _], _ => rfl⟩
  have Fread_area := fun_mk (st := sread_area) lread_area cread_area kread_area
  have Dread_area : Def K mg "read_area" sread_area Pread_area _ _ := ⟨Fread_area, PySem.W.mg_of X G aread_area, Fread_area.binds (ps := Pread_area) fun _ _ _ _ _ _ us hl => match us, hl with | [_], _ => rfl⟩
  have Fread_areas := fun_mk (st := sread_areas) lread_areas cread_areas kread_areas
  have Dread_areas : Def K mg "read_areas" sread_areas Pread_areas _ _ := ⟨Fread_areas, PySem.W.mg_of X G aread_areas, Fread_areas.binds (ps := Pread_areas) fun _ _ _ _ _ _ us hl => match us, hl with | [_], _ => rfl⟩
  have Fcheck_cut := fun_mk (st := scheck_cut) lcheck_cut ccheck_cut kcheck_cut
  have Dcheck_cut : Def K mg "check_cut" scheck_cut Pcheck_cut _ _ := ⟨Fcheck_cut, PySem.W.mg_of X G acheck_cut, Fcheck_cut.binds (ps := Pcheck_cut) fun _ _ _ _ _ _ us hl => match us, hl with | [_], _ => rfl⟩
  have Fbag := fun_mk (st := sbag) lbag cbag kbag
  have Dbag : Def K mg "_law_bag" sbag Pbag _ _ := ⟨Fbag, PySem.W.mg_of X G abag, Fbag.binds (ps := Pbag) fun _ _ _ _ _ _ us hl => match us, hl with | [_], _ => rfl⟩
  have Fdraw := fun_mk (st := sdraw) ldraw cdraw kdraw
  have Ddraw : Def K mg "_law_draw" sdraw Pdraw _ _ := ⟨Fdraw, PySem.W.mg_of X G adraw, Fdraw.binds (ps := Pdraw) fun _ _ _ _ _ _ us hl => match us, hl with | [_, _], _ => rfl⟩
  have Fof := fun_mk (st := sof) lof cof kof
  have Dof : Def K mg "_law_of" sof Pof _ _ := ⟨Fof, PySem.W.mg_of X G aof, Fof.binds (ps := Pof) fun _ _ _ _ _ _ us hl => match us, hl with | [_, _], _ => rfl⟩
  have Flike := fun_mk (st := slike) llike clike klike
  have Dlike : Def K mg "_law_like" slike Plike _ _ := ⟨Flike, PySem.W.mg_of X G alike, Flike.binds (ps := Plike) fun _ _ _ _ _ _ us hl => match us, hl with | [_, _], _ => rfl⟩
  have Fcut := fun_mk (st := scut) lcut ccut kcut
  have Dcut : Def K mg "_law_cut" scut Pcut _ _ := ⟨Fcut, PySem.W.mg_of X G acut, Fcut.binds (ps := Pcut) fun _ _ _ _ _ _ us hl => match us, hl with | [_], _ => rfl⟩
  have Fwritten := fun_mk (st := swritten) lwritten cwritten kwritten
  have Dwritten : Def K mg "_law_written" swritten Pwritten _ _ := ⟨Fwritten, PySem.W.mg_of X G awritten, Fwritten.binds (ps := Pwritten) fun _ _ _ _ _ _ us hl => match us, hl with | [_], _ => rfl⟩
  have Frecorded := fun_mk (st := srecorded) lrecorded crecorded krecorded
  have Drecorded : Def K mg "_law_recorded" srecorded Precorded _ _ := ⟨Frecorded, PySem.W.mg_of X G arecorded, Frecorded.binds (ps := Precorded) fun _ _ _ _ _ _ us hl => match us, hl with | [_], _ => rfl⟩
  have Fcopy := fun_mk (st := scopy) lcopy ccopy kcopy
  have Dcopy : Def K mg "_law_copy" scopy Pcopy _ _ := ⟨Fcopy, PySem.W.mg_of X G acopy, Fcopy.binds (ps := Pcopy) fun _ _ _ _ _ _ us hl => match us, hl with | [_], _ => rfl⟩
  have Fsync := fun_mk (st := ssync) lsync csync ksync
  have Dsync : Def K mg "_law_sync" ssync Psync _ _ := ⟨Fsync, PySem.W.mg_of X G async, Fsync.binds (ps := Psync) fun _ _ _ _ _ _ us hl => match us, hl with | [_], _ => rfl⟩
  have Fcheck := fun_mk (st := scheck) lcheck ccheck kcheck
  have Dcheck : Def K mg "_law_check" scheck Pcheck _ _ := ⟨Fcheck, PySem.W.mg_of X G acheck, Fcheck.binds (ps := Pcheck) fun _ _ _ _ _ _ us hl => match us, hl with | [_, _], _ => rfl⟩
  have Fwrite := fun_mk (st := swrite) lwrite cwrite kwrite
  have Dwrite : Def K mg "_law_write" swrite Pwrite _ _ := ⟨Fwrite, PySem.W.mg_of X G awrite, Fwrite.binds (ps := Pwrite) fun _ _ _ _ _ _ us hl => match us, hl with | [_, _], _ => rfl⟩
  have Fkey := fun_mk (st := skey) lkey ckey kkey
  have Dkey : Def K mg "_law_key" skey Pkey _ _ := ⟨Fkey, PySem.W.mg_of X G akey, Fkey.binds (ps := Pkey) fun _ _ _ _ _ _ us hl => match us, hl with | [_], _ => rfl⟩
  have Fmost := fun_mk (st := smost) lmost cmost kmost
  have Dmost : Def K mg "_law_most" smost Pmost _ _ := ⟨Fmost, PySem.W.mg_of X G amost, Fmost.binds (ps := Pmost) fun _ _ _ _ _ _ us hl => match us, hl with | [_], _ => rfl⟩
  have Fpairs := fun_mk (st := spairs) lpairs cpairs kpairs
  have Dpairs : Def K mg "_law_pairs" spairs Ppairs _ _ := ⟨Fpairs, PySem.W.mg_of X G apairs, Fpairs.binds (ps := Ppairs) fun _ _ _ _ _ _ us hl => match us, hl with | [_], _ => rfl⟩
  have Fareas := fun_mk (st := sareas) lareas careas kareas
  have Dareas : Def K mg "_law_areas" sareas Pareas _ _ := ⟨Fareas, PySem.W.mg_of X G aareas, Fareas.binds (ps := Pareas) fun _ _ _ _ _ _ us hl => match us, hl with | [_], _ => rfl⟩
  have Fdisk_so := fun_mk (st := sdisk_so) ldisk_so cdisk_so kdisk_so
  have Ddisk_so : Def K mg "_law_disk_so" sdisk_so Pdisk_so _ _ := ⟨Fdisk_so, PySem.W.mg_of X G adisk_so, Fdisk_so.binds (ps := Pdisk_so) fun _ _ _ _ _ _ us hl => match us, hl with | [_, _], _ => rfl⟩
  have Flong := fun_mk (st := slong) llong clong klong
  have Dlong : Def K mg "_law_long" slong Plong _ _ := ⟨Flong, PySem.W.mg_of X G along, Flong.binds (ps := Plong) fun _ _ _ _ _ _ us hl => match us, hl with | [_, _], _ => rfl⟩
  have Fvalue := fun_mk (st := svalue) lvalue cvalue kvalue
  have Dvalue : Def K mg "_law_value" svalue Pvalue _ _ := ⟨Fvalue, PySem.W.mg_of X G avalue, Fvalue.binds (ps := Pvalue) fun _ _ _ _ _ _ us hl => match us, hl with | [_, _], _ => rfl⟩
  have Fchanges := fun_mk (st := schanges) lchanges cchanges kchanges
  have Dchanges : Def K mg "_law_changes" schanges Pchanges _ _ := ⟨Fchanges, PySem.W.mg_of X G achanges, Fchanges.binds (ps := Pchanges) fun _ _ _ _ _ _ us hl => match us, hl with | [_, _], _ => rfl⟩
  have Fshelf := fun_mk (st := sshelf) lshelf cshelf kshelf
  have Dshelf : Def K mg "_law_shelf" sshelf Pshelf _ _ := ⟨Fshelf, PySem.W.mg_of X G ashelf, Fshelf.binds (ps := Pshelf) fun _ _ _ _ _ _ us hl => match us, hl with | [_], _ => rfl⟩
  have Fnew := fun_mk (st := snew) lnew cnew knew
  have Dnew : Def K mg "_law_new" snew Pnew _ _ := ⟨Fnew, PySem.W.mg_of X G anew, Fnew.binds (ps := Pnew) fun _ _ _ _ _ _ us hl => match us, hl with | [_, _], _ => rfl⟩
  have Fpower := fun_mk (st := spower) lpower cpower kpower
  have Dpower : Def K mg "_law_power" spower Ppower _ _ := ⟨Fpower, PySem.W.mg_of X G apower, Fpower.binds (ps := Ppower) fun _ _ _ _ _ _ us hl => match us, hl with | [_], _ => rfl⟩
  have Fwords := fun_mk (st := swords) lwords cwords kwords
  have Dwords : Def K mg "_law_words" swords Pwords _ _ := ⟨Fwords, PySem.W.mg_of X G awords, Fwords.binds (ps := Pwords) fun _ _ _ _ _ _ us hl => match us, hl with | [_, _, _], _ => rfl⟩
  have Fstart := fun_mk (st := sstart) lstart cstart kstart
  have Dstart : Def K mg "_law_start" sstart Pstart _ _ := ⟨Fstart, PySem.W.mg_of X G astart, Fstart.binds (ps := Pstart) fun _ _ _ _ _ _ us hl => match us, hl with | [_, _, _], _ => rfl⟩
  have Fdue := fun_mk (st := sdue) ldue cdue kdue
  have Ddue : Def K mg "_law_due" sdue Pdue _ _ := ⟨Fdue, PySem.W.mg_of X G adue, Fdue.binds (ps := Pdue) fun _ _ _ _ _ _ us hl => match us, hl with | [_, _, _], _ => rfl⟩
  have Funsynced := fun_mk (st := sunsynced) lunsynced cunsynced kunsynced
  have Dunsynced : Def K mg "_law_unsynced" sunsynced Punsynced _ _ := ⟨Funsynced, PySem.W.mg_of X G aunsynced, Funsynced.binds (ps := Punsynced) fun _ _ _ _ _ _ us hl => match us, hl with | [_, _, _], _ => rfl⟩
  have Fcut_so := fun_mk (st := scut_so) lcut_so ccut_so kcut_so
  have Dcut_so : Def K mg "_law_cut_so" scut_so Pcut_so _ _ := ⟨Fcut_so, PySem.W.mg_of X G acut_so, Fcut_so.binds (ps := Pcut_so) fun _ _ _ _ _ _ us hl => match us, hl with | [_, _, _, _], _ => rfl⟩
  have Flaw := fun_mk (st := slaw) llaw claw klaw
  have Dlaw : Def K mg "law" slaw Plaw _ _ := ⟨Flaw, PySem.W.mg_of X G alaw, Flaw.binds (ps := Plaw) fun _ _ _ _ _ _ us hl => match us, hl with | [_], _ => rfl⟩
  let r : Ar := ⟨aDisk, fDisk_init, fDisk_write, fDisk_check, fDisk_sync, fDisk_put, fDisk_keep, fDisk_check_awake, fDisk_table, fDisk_areas, fDisk_unsynced, fDisk_syncs, fDisk_fallen, fDisk_copy, pDisk_syncs, pDisk_fallen, fDisk_fall, fDisk_wake, aCW, aED⟩
  let ce : Ce := ⟨aInvalidNumber⟩
  have KR : Kr K mg r := ⟨⟨pgDisk, hdDisk, poDisk, saDisk⟩, nDisk_most, nDisk_table, nDisk_areas, nDisk_unsynced, nDisk_syncs, nDisk_fallen, nDisk_halts, nDisk_halted, nDisk_area, nDisk_generation, nDisk_pieces, nDisk_rows, ⟨_, stDisk, ⟨_, rfl⟩, gtDisk, by decide⟩, ⟨atDisk_write, iDisk_write, kDisk_write⟩, ⟨atDisk_check, iDisk_check, kDisk_check⟩, ⟨atDisk_sync, iDisk_sync, kDisk_sync⟩, ⟨atDisk_put, iDisk_put, kDisk_put⟩, ⟨atDisk_keep, iDisk_keep, kDisk_keep⟩, ⟨atDisk_check_awake, iDisk_check_awake, kDisk_check_awake⟩, ⟨atDisk_table, iDisk_table, kDisk_table⟩, ⟨atDisk_areas, iDisk_areas, kDisk_areas⟩, ⟨atDisk_unsynced, iDisk_unsynced, kDisk_unsynced⟩, ⟨atDisk_copy, iDisk_copy, kDisk_copy⟩, ⟨atDisk_syncs, geDisk_syncs, taDisk_syncs, ⟨_, rcDisk_syncs⟩⟩, ⟨atDisk_fallen, geDisk_fallen, taDisk_fallen, ⟨_, rcDisk_fallen⟩⟩, ⟨mkDisk, atDisk_init, iDisk_init, kpDisk⟩, PySem.W.mg_of X G aDiskG, ⟨atDisk_fall, iDisk_fall, kDisk_fall⟩, ⟨atDisk_wake, iDisk_wake, kDisk_wake⟩, PySem.W.mg_of X G aCWG, ⟨_, itED, nED, lED, tED, rfl, by rw [vED]; decide, by rw [vED]; exact .nil⟩, fun H => .inr ⟨_, itCW, nCW, lCW, tCW, rfl, by rw [vCW]; show 3 ≤ sizeLine; decide, by rw [vCW]; exact .cons ⟨_, rfl⟩ (.cons ⟨_, rfl⟩ (.cons ⟨_, rfl⟩ .nil))⟩, ⟨_, _, ⟨rdDisk, gaDisk⟩, ⟨cvDisk, ⟨_, rfl⟩⟩⟩⟩
  have gSE : mg "SureletError" = some (.ref aSE) := PySem.W.mg_of X G aSure
  refine ⟨PySem.W.fnOf "law" "law" (defArgs slaw) (defBody slaw) (defScope slaw) .none kVlaw dclaw pmlaw anlaw cdlaw ctlaw, fun s v => .of_eq rfl, fun base _ _ => ?_⟩
  have FInvalidNumber_init := fun_mk (st := sInvalidNumber_init) lInvalidNumber_init cInvalidNumber_init kInvalidNumber_init
  have oxInvalidNumber : OexC K aInvalidNumber := ⟨⟨_, _, _, _, _, _, _, _, _, _, _, _, _, _, _, xInvalidNumber, refs_ve _⟩, saInvalidNumber, exInvalidNumber, tyInvalidNumber, kpInvalidNumber⟩
  have RInvalidNumber : RE l.prog w K mg base "InvalidNumber" "value" (ivF "InvalidNumber") ce.nu fInvalidNumber_init _ := ⟨⟨oxInvalidNumber, inInvalidNumber, tiInvalidNumber, PySem.W.mg_of X G a_InvalidNumber, ⟨gaInvalidNumber, ggInvalidNumber, exInvalidNumber, hdInvalidNumber⟩, LX.exm_self exInvalidNumber clInvalidNumber tyInvalidNumber ssInvalidNumber, LX.no_cons nvalueInvalidNumber (LX.no_cons ncodeInvalidNumber LX.no_nil)⟩, ok_InvalidNumber_init FInvalidNumber_init T oxInvalidNumber nvalueInvalidNumber ncodeInvalidNumber, FInvalidNumber_init.binds (ps := PInvalidNumber_init) fun _ _ _ _ _ _ us hl => match us, hl with | [_, _], _ => rfl⟩
  have Gis_whole := ok_is_whole (P := l.prog) (w := w) (base := base) Dis_whole T
  have Gis_number := ok_is_number (P := l.prog) (w := w) (base := base) Dis_number T Dis_whole Gis_whole
  have Gchanges_text := ok_changes_text (P := l.prog) (w := w) (base := base) Dchanges_text T
  have Gapply_changes := ok_apply_changes (P := l.prog) (w := w) (base := base) Dapply_changes T
  have Gstretches := ok_stretches (P := l.prog) (w := w) (base := base) Dstretches T
  have Gread_changes := ok_read_changes (P := l.prog) (w := w) (base := base) Dread_changes T
  have Ggeneration_of := ok_generation_of (P := l.prog) (w := w) (base := base) Dgeneration_of T
  have Ghead_of := ok_head_of (P := l.prog) (w := w) (base := base) Dhead_of T
  have Gstretches_from := ok_stretches_from (P := l.prog) (w := w) (base := base) Dstretches_from T
  have Grecords_from := ok_records_from (P := l.prog) (w := w) (base := base) Drecords_from T Dstretches_from Gstretches_from
  have Gread_area := ok_read_area (P := l.prog) (w := w) (base := base) Dread_area T Dapply_changes Gapply_changes Dread_changes Gread_changes Dhead_of Ghead_of Dstretches_from Gstretches_from Drecords_from Grecords_from
  have Gread_areas := ok_read_areas (P := l.prog) (w := w) (base := base) Dread_areas T Dread_area Gread_area
  have Gcheck_cut := ok_check_cut (P := l.prog) (w := w) (base := base) Dcheck_cut T KR
  have FDisk_check_awake := fun_mk (st := sDisk_check_awake) lDisk_check_awake cDisk_check_awake kDisk_check_awake
  have BDisk_check_awake := FDisk_check_awake.binds (ps := PDisk_check_awake) fun _ _ _ _ _ _ us hl => match us, hl with | [_], _ => rfl
  have GDisk_check_awake := ok_Disk_check_awake (P := l.prog) (w := w) (base := base) FDisk_check_awake T KR
  have FDisk_put := fun_mk (st := sDisk_put) lDisk_put cDisk_put kDisk_put
  have BDisk_put := FDisk_put.binds (ps := PDisk_put) fun _ _ _ _ _ _ us hl => match us, hl with | [_, _, _], _ => rfl
  have GDisk_put := ok_Disk_put (P := l.prog) (w := w) (base := base) FDisk_put T KR
  have FDisk_keep := fun_mk (st := sDisk_keep) lDisk_keep cDisk_keep kDisk_keep
  have BDisk_keep := FDisk_keep.binds (ps := PDisk_keep) fun _ _ _ _ _ _ us hl => match us, hl with | [_, _, _, _], _ => rfl
  have GDisk_keep := ok_Disk_keep (P := l.prog) (w := w) (base := base) FDisk_keep T KR
  have FDisk_sync := fun_mk (st := sDisk_sync) lDisk_sync cDisk_sync kDisk_sync
  have BDisk_sync := FDisk_sync.binds (ps := PDisk_sync) fun _ _ _ _ _ _ us hl => match us, hl with | [_], _ => rfl
  have GDisk_sync := ok_Disk_sync (P := l.prog) (w := w) (base := base) FDisk_sync T KR GDisk_check_awake BDisk_check_awake GDisk_keep BDisk_keep
  have FDisk_check : FunD K "check" "Disk.check" (defArgs sDisk_check) (defBody sDisk_check) (defScope sDisk_check) [] [("synced", V.bl true)] fDisk_check _ := ⟨⟨_, _, _, _, _, _, _, _, _, _, rfl, lDisk_check, cDisk_check, .inl ⟨rfl, rfl⟩, .inr ⟨Dk_check, rfl, fun q hq => by
      rw [List.mem_singleton] at hq
      subst hq
      exact ⟨_, dsyn, rfl⟩⟩⟩, kDisk_check⟩
  have GDisk_check := ok_Disk_check (P := l.prog) (w := w) (base := base) FDisk_check T KR GDisk_check_awake BDisk_check_awake GDisk_sync BDisk_sync GDisk_put BDisk_put Dchanges_text Gchanges_text Dstretches Gstretches
  obtain ⟨⟨dsC, hvC, BcheckT0⟩, KBDisk_check_synced⟩ := check_binds FDisk_check
  obtain ⟨uT, rfl, ruT⟩ := hvC.one
  have BcheckT := BcheckT0
  have FDisk_write := fun_mk (st := sDisk_write) lDisk_write cDisk_write kDisk_write
  have BDisk_write := FDisk_write.binds (ps := PDisk_write) fun _ _ _ _ _ _ us hl => match us, hl with | [_, _], _ => rfl
  have GDisk_write := ok_Disk_write (P := l.prog) (w := w) (base := base) FDisk_write T KR GDisk_check_awake BDisk_check_awake GDisk_put BDisk_put ruT GDisk_check BcheckT Dchanges_text Gchanges_text Dapply_changes Gapply_changes Dstretches Gstretches
  have KBDisk_write_changes := KB_write FDisk_write
  have FDisk_table := fun_mk (st := sDisk_table) lDisk_table cDisk_table kDisk_table
  have BDisk_table := FDisk_table.binds (ps := PDisk_table) fun _ _ _ _ _ _ us hl => match us, hl with | [_], _ => rfl
  have GDisk_table := ok_Disk_table (P := l.prog) (w := w) (base := base) FDisk_table T KR
  have FDisk_areas := fun_mk (st := sDisk_areas) lDisk_areas cDisk_areas kDisk_areas
  have BDisk_areas := FDisk_areas.binds (ps := PDisk_areas) fun _ _ _ _ _ _ us hl => match us, hl with | [_], _ => rfl
  have GDisk_areas := ok_Disk_areas (P := l.prog) (w := w) (base := base) FDisk_areas T KR
  have FDisk_unsynced := fun_mk (st := sDisk_unsynced) lDisk_unsynced cDisk_unsynced kDisk_unsynced
  have BDisk_unsynced := FDisk_unsynced.binds (ps := PDisk_unsynced) fun _ _ _ _ _ _ us hl => match us, hl with | [_], _ => rfl
  have GDisk_unsynced := ok_Disk_unsynced (P := l.prog) (w := w) (base := base) FDisk_unsynced T KR
  have FDisk_syncs := fun_mk (st := sDisk_syncs) lDisk_syncs cDisk_syncs kDisk_syncs
  have BDisk_syncs := FDisk_syncs.binds (ps := PDisk_syncs) fun _ _ _ _ _ _ us hl => match us, hl with | [_], _ => rfl
  have GDisk_syncs := ok_Disk_syncs (P := l.prog) (w := w) (base := base) FDisk_syncs T KR
  have FDisk_fallen := fun_mk (st := sDisk_fallen) lDisk_fallen cDisk_fallen kDisk_fallen
  have BDisk_fallen := FDisk_fallen.binds (ps := PDisk_fallen) fun _ _ _ _ _ _ us hl => match us, hl with | [_], _ => rfl
  have GDisk_fallen := ok_Disk_fallen (P := l.prog) (w := w) (base := base) FDisk_fallen T KR
  have FDisk_wake := fun_mk (st := sDisk_wake) lDisk_wake cDisk_wake kDisk_wake
  have BDisk_wake := FDisk_wake.binds (ps := PDisk_wake) fun _ _ _ _ _ _ us hl => match us, hl with | [_], _ => rfl
  have GDisk_wake := ok_Disk_wake (P := l.prog) (w := w) (base := base) FDisk_wake T KR ruT GDisk_check BcheckT Dgeneration_of Ggeneration_of Dread_areas Gread_areas
  have FDisk_fall : FunD K "fall" "Disk.fall" (defArgs sDisk_fall) (defBody sDisk_fall) (defScope sDisk_fall) [V.ref aED] [] fDisk_fall _ := ⟨⟨_, _, _, _, _, _, _, _, _, _, rfl, lDisk_fall, cDisk_fall, .inr ⟨List.cons_ne_nil _ _, Tj, _, [.ref aED], nTj, rfl, lTj, by rw [vTj], .cons rfl .nil⟩, .inl rfl⟩, kDisk_fall⟩
  obtain ⟨BfallE, BDisk_fall, KBDisk_fall_cut⟩ := fall_binds FDisk_fall
  have GDisk_fall := ok_Disk_fall (P := l.prog) (w := w) (base := base) FDisk_fall T KR GDisk_check_awake BDisk_check_awake GDisk_keep BDisk_keep Dcheck_cut Gcheck_cut
  have Gbag := ok_bag (P := l.prog) (w := w) (base := base) Dbag T
  have Gdraw := ok_draw (P := l.prog) (w := w) (base := base) Ddraw T
  have Gof := ok_of (P := l.prog) (w := w) (base := base) Dof T Ddraw Gdraw
  have Glike := ok_like (P := l.prog) (w := w) (base := base) Dlike T
  have Gcut := ok_cut (P := l.prog) (w := w) (base := base) Dcut T
  have Gwritten := ok_written (P := l.prog) (w := w) (base := base) Dwritten T
  have Grecorded := ok_recorded (P := l.prog) (w := w) (base := base) Drecorded T
  have Gcopy := ok_copy (P := l.prog) (w := w) (base := base) Dcopy T
  have Gsync := ok_sync (P := l.prog) (w := w) (base := base) Dsync T
  have Gcheck := ok_check (P := l.prog) (w := w) (base := base) Dcheck T Dcut Gcut Dwritten Gwritten Dsync Gsync
  have Gwrite := ok_write (P := l.prog) (w := w) (base := base) Dwrite T Dcut Gcut Drecorded Grecorded Dcheck Gcheck
  have Gkey := ok_key (P := l.prog) (w := w) (base := base) Dkey T Dof Gof
  have Gmost := ok_most (P := l.prog) (w := w) (base := base) Dmost T Dof Gof
  have Gpairs := ok_pairs (P := l.prog) (w := w) (base := base) Dpairs T
  have Gareas := ok_areas (P := l.prog) (w := w) (base := base) Dareas T
  have Gdisk_so := ok_disk_so (P := l.prog) (w := w) (base := base) Ddisk_so T KR GDisk_table BDisk_table GDisk_areas BDisk_areas GDisk_unsynced BDisk_unsynced GDisk_syncs BDisk_syncs GDisk_fallen BDisk_fallen Dlike Glike Dpairs Gpairs Dareas Gareas
  have Glong := ok_long (P := l.prog) (w := w) (base := base) Dlong T Dof Gof
  have Gvalue := ok_value (P := l.prog) (w := w) (base := base) Dvalue T Ddraw Gdraw Dof Gof Dlong Glong
  have Gchanges := ok_changes (P := l.prog) (w := w) (base := base) Dchanges T Ddraw Gdraw Dof Gof Dkey Gkey Dvalue Gvalue
  have Gshelf := ok_shelf (P := l.prog) (w := w) (base := base) Dshelf T Dof Gof Dkey Gkey Dvalue Gvalue
  have FDisk_init : FunD K "__init__" "Disk.__init__" (defArgs sDisk_init) (defBody sDisk_init) (defScope sDisk_init) [] [("rows", V.int 16)] fDisk_init _ := ⟨⟨_, _, _, _, _, _, _, _, _, _, rfl, lDisk_init, cDisk_init, .inl ⟨rfl, rfl⟩, .inr ⟨Dk_init, rfl, fun q hq => by
      rw [List.mem_singleton] at hq
      subst hq
      exact ⟨_, drows, ⟨_, rfl⟩⟩⟩⟩, kDisk_init⟩
  have GDisk_init := ok_Disk_init (P := l.prog) (w := w) (base := base) FDisk_init T KR RInvalidNumber ruT GDisk_check BcheckT Dis_number Gis_number
  obtain ⟨⟨dsI, hvI, bI⟩, KBR, KBT⟩ := init_binds FDisk_init
  have IDisk := GDisk_init.raw bI hvI
  obtain ⟨uR, eR, ruR⟩ := hvI.one
  have FDisk_copy := fun_mk (st := sDisk_copy) lDisk_copy cDisk_copy kDisk_copy
  have BDisk_copy := FDisk_copy.binds (ps := PDisk_copy) fun _ _ _ _ _ _ us hl => match us, hl with | [_], _ => rfl
  have GDisk_copy := ok_Disk_copy (P := l.prog) (w := w) (base := base) FDisk_copy T KR GDisk_init KBR GDisk_areas BDisk_areas GDisk_unsynced BDisk_unsynced
  have Gnew := ok_new (P := l.prog) (w := w) (base := base) Dnew T Dcut Gcut Dwritten Gwritten Dcopy Gcopy
  have Gpower := ok_power (P := l.prog) (w := w) (base := base) Dpower T
  have Gwords := ok_words (P := l.prog) (w := w) (base := base) Dwords T Ddraw Gdraw Dof Gof
  have Gstart := ok_start (P := l.prog) (w := w) (base := base) Dstart T KR GDisk_write BDisk_write GDisk_sync BDisk_sync ruT GDisk_check BcheckT Ddraw Gdraw Dcopy Gcopy Dsync Gsync Dcheck Gcheck Dwrite Gwrite Dchanges Gchanges
  have Gdue := ok_due (P := l.prog) (w := w) (base := base) Ddue T
  have Gunsynced := ok_unsynced (P := l.prog) (w := w) (base := base) Dunsynced T KR GDisk_write BDisk_write ruT GDisk_check BcheckT KBDisk_check_synced Ddraw Gdraw Dcheck Gcheck Dwrite Gwrite Dpairs Gpairs Dchanges Gchanges
  have Gcut_so := ok_cut_so (P := l.prog) (w := w) (base := base) Dcut_so T KR GDisk_copy BDisk_copy GDisk_table BDisk_table GDisk_fallen BDisk_fallen GDisk_wake BDisk_wake GDisk_fall BDisk_fall BfallE KBDisk_fall_cut Dlike Glike
  have Glaw := ok_law (P := l.prog) (w := w) (base := base) Dlaw T KR GDisk_init KBR GDisk_unsynced BDisk_unsynced Dbag Gbag Ddraw Gdraw Dof Gof Dlike Glike Dcopy Gcopy Dmost Gmost Ddisk_so Gdisk_so Dshelf Gshelf Dnew Gnew Dpower Gpower Dwords Gwords Dstart Gstart Ddue Gdue Dunsynced Gunsynced Dcut_so Gcut_so
  exact Glaw
theorem walk {l : PySem.W.OpenLaw} {q : Program} {loose : List Str} {XP : (Str → Option Value) → Heap → Prop} {YP : World → Heap → Prop} {d : DefRec} {K : Params → PySem.W.Frag} (hn : l.most = some 63) (hdf : d.params.defaults = [])
    (hY : ∀ (w : World) (h : Heap), YP w h → (K w.params).In h)
    (F : ∀ (w : World) (mg : Str → Option Value) (fa : Addr) (h : Heap), (K w.params).In h → h.Ns mainGlobals mg → mg d.name = some (.ref fa) →
      ∃ fd : FuncData, (∀ (s : Shared) (u : Value), BindsTo s fd ⟨[u], []⟩ [("_law_script", u)]) ∧ ∀ base : Heap, (K w.params).In base → base.Ns mainGlobals mg → FnOk l.prog w (K w.params) mg base CX0 9 fa fd ["_law_script"] (splaw (K w.params))) :
    PySem.W.WalkO q loose XP YP l.row.toRowW d [] (fun f vs => PySem.call f vs) :=
  L2.walk_of (n := 63) (k := 9) (x := "_law_script") (CX := fun _ => CX0) (sp := fun w => splaw (K w.params)) hn (by decide) hdf ⟨rfl, by decide, by decide⟩ hY F (fun _ _ a ns hl _ hS => ⟨a, ns, rfl, hS, hl, fun _ => rfl⟩) fun _ _ _ _ _ z => z
end k15
open PySem PySem.W PyProof.Rows
set_option maxRecDepth 100000 in
set_option maxHeartbeats 0 in
theorem PySem.Challenge.cw_surelet_k15_whole_cuts_of_a_disk_holds : PySem.Challenge.rw_surelet_k15_whole_cuts_of_a_disk.Holds := by
  w_on; o_law; k_head; (case hw => w_witness2)
  k_fill
  refine k15.walk (l := PySem.Challenge.rw_surelet_k15_whole_cuts_of_a_disk) rfl rfl (fun w h Y => PySem.W.kIn_of Y) ?F
  case F =>
    intro w mg fa h KX G hmg
    refine' k15.all_mk KX G hmg ?ais_whole ?lis_whole ?cis_whole ?kis_whole ?ais_number ?lis_number ?cis_number ?kis_number ?achanges_text ?lchanges_text ?cchanges_text ?kchanges_text ?aapply_changes ?lapply_changes ?capply_changes ?kapply_changes ?astretches ?lstretches ?cstretches ?kstretches ?aread_changes ?lread_changes ?cread_changes ?kread_changes ?ageneration_of ?lgeneration_of ?cgeneration_of ?kgeneration_of ?ahead_of ?lhead_of ?chead_of ?khead_of ?astretches_from ?lstretches_from ?cstretches_from ?kstretches_from ?arecords_from ?lrecords_from ?crecords_from ?krecords_from ?aread_area ?lread_area ?cread_area ?kread_area ?aread_areas ?lread_areas ?cread_areas ?kread_areas ?acheck_cut ?lcheck_cut ?ccheck_cut ?kcheck_cut ?abag ?lbag ?cbag ?kbag ?adraw ?ldraw ?cdraw ?kdraw ?aof ?lof ?cof ?kof ?alike ?llike ?clike ?klike ?acut ?lcut ?ccut ?kcut ?awritten ?lwritten ?cwritten ?kwritten ?arecorded ?lrecorded ?crecorded ?krecorded ?acopy ?lcopy ?ccopy ?kcopy ?async ?lsync ?csync ?ksync ?acheck ?lcheck ?ccheck ?kcheck ?awrite ?lwrite ?cwrite ?kwrite ?akey ?lkey ?ckey ?kkey ?amost ?lmost ?cmost ?kmost ?apairs ?lpairs ?cpairs ?kpairs ?aareas ?lareas ?careas ?kareas ?adisk_so ?ldisk_so ?cdisk_so ?kdisk_so ?along ?llong ?clong ?klong ?avalue ?lvalue ?cvalue ?kvalue ?achanges ?lchanges ?cchanges ?kchanges ?ashelf ?lshelf ?cshelf ?kshelf ?anew ?lnew ?cnew ?knew ?apower ?lpower ?cpower ?kpower ?awords ?lwords ?cwords ?kwords ?astart ?lstart ?cstart ?kstart ?adue ?ldue ?cdue ?kdue ?aunsynced ?lunsynced ?cunsynced ?kunsynced ?acut_so ?lcut_so ?ccut_so ?kcut_so ?alaw ?llaw ?claw ?klaw ?zall ?zany ?zbool ?zdict ?zenumerate ?zint ?zisinstance ?zlen ?zlist ?zmax ?zrange ?zsorted ?zstr ?zsum ?ztuple ?zzip ?yMOST_ROWS ?aDiskG ?pgDisk ?hdDisk ?poDisk ?saDisk ?mkDisk ?kpDisk ?nDisk_most ?nDisk_table ?nDisk_areas ?nDisk_unsynced ?nDisk_syncs ?nDisk_fallen ?nDisk_halts ?nDisk_halted ?nDisk_area ?nDisk_generation ?nDisk_pieces ?nDisk_rows ?stDisk ?gtDisk ?rdDisk ?gaDisk ?cvDisk ?atDisk_init ?lDisk_init ?cDisk_init ?kDisk_init ?iDisk_init ?atDisk_write ?lDisk_write ?cDisk_write ?kDisk_write ?iDisk_write ?atDisk_check ?lDisk_check ?cDisk_check ?kDisk_check ?iDisk_check ?atDisk_sync ?lDisk_sync ?cDisk_sync ?kDisk_sync ?iDisk_sync ?atDisk_put ?lDisk_put ?cDisk_put ?kDisk_put ?iDisk_put ?atDisk_keep ?lDisk_keep ?cDisk_keep ?kDisk_keep ?iDisk_keep ?atDisk_check_awake ?lDisk_check_awake ?cDisk_check_awake ?kDisk_check_awake ?iDisk_check_awake ?atDisk_table ?lDisk_table ?cDisk_table ?kDisk_table ?iDisk_table ?atDisk_areas ?lDisk_areas ?cDisk_areas ?kDisk_areas ?iDisk_areas ?atDisk_unsynced ?lDisk_unsynced ?cDisk_unsynced ?kDisk_unsynced ?iDisk_unsynced ?atDisk_syncs ?geDisk_syncs ?taDisk_syncs ?rcDisk_syncs ?lDisk_syncs ?cDisk_syncs ?kDisk_syncs ?iDisk_syncs ?atDisk_fallen ?geDisk_fallen ?taDisk_fallen ?rcDisk_fallen ?lDisk_fallen ?cDisk_fallen ?kDisk_fallen ?iDisk_fallen ?atDisk_copy ?lDisk_copy ?cDisk_copy ?kDisk_copy ?iDisk_copy ?atDisk_wake ?lDisk_wake ?cDisk_wake ?kDisk_wake ?iDisk_wake ?atDisk_fall ?lDisk_fall ?cDisk_fall ?kDisk_fall ?iDisk_fall ?lTj ?vTj ?lED ?vED ?tED ?aCWG ?lCW ?vCW ?tCW ?drows ?dsyn ?a_InvalidNumber ?xInvalidNumber ?saInvalidNumber ?exInvalidNumber ?tyInvalidNumber ?kpInvalidNumber ?inInvalidNumber ?tiInvalidNumber ?gaInvalidNumber ?ggInvalidNumber ?hdInvalidNumber ?clInvalidNumber ?ssInvalidNumber ?nvalueInvalidNumber ?ncodeInvalidNumber ?lInvalidNumber_init ?cInvalidNumber_init ?kInvalidNumber_init ?iInvalidNumber_init ?aSure
    (case ais_whole => k_is)
    (case lis_whole => k_is)
    (case cis_whole => k_is)
    (case kis_whole => k_is)
    (case ais_number => k_is)
    (case lis_number => k_is)
    (case cis_number => k_is)
    (case kis_number => k_is)
    (case achanges_text => k_is)
    (case lchanges_text => k_is)
    (case cchanges_text => k_is)
    (case kchanges_text => k_is)
    (case aapply_changes => k_is)
    (case lapply_changes => k_is)
    (case capply_changes => k_is)
    (case kapply_changes => k_is)
    (case astretches => k_is)
    (case lstretches => k_is)
    (case cstretches => k_is)
    (case kstretches => k_is)
    (case aread_changes => k_is)
    (case lread_changes => k_is)
    (case cread_changes => k_is)
    (case kread_changes => k_is)
    (case ageneration_of => k_is)
    (case lgeneration_of => k_is)
    (case cgeneration_of => k_is)
    (case kgeneration_of => k_is)
    (case ahead_of => k_is)
    (case lhead_of => k_is)
    (case chead_of => k_is)
    (case khead_of => k_is)
    (case astretches_from => k_is)
    (case lstretches_from => k_is)
    (case cstretches_from => k_is)
    (case kstretches_from => k_is)
    (case arecords_from => k_is)
    (case lrecords_from => k_is)
    (case crecords_from => k_is)
    (case krecords_from => k_is)
    (case aread_area => k_is)
    (case lread_area => k_is)
    (case cread_area => k_is)
    (case kread_area => k_is)
    (case aread_areas => k_is)
    (case lread_areas => k_is)
    (case cread_areas => k_is)
    (case kread_areas => k_is)
    (case acheck_cut => k_is)
    (case lcheck_cut => k_is)
    (case ccheck_cut => k_is)
    (case kcheck_cut => k_is)
    (case abag => k_is)
    (case lbag => k_is)
    (case cbag => k_is)
    (case kbag => k_is)
    (case adraw => k_is)
    (case ldraw => k_is)
    (case cdraw => k_is)
    (case kdraw => k_is)
    (case aof => k_is)
    (case lof => k_is)
    (case cof => k_is)
    (case kof => k_is)
    (case alike => k_is)
    (case llike => k_is)
    (case clike => k_is)
    (case klike => k_is)
    (case acut => k_is)
    (case lcut => k_is)
    (case ccut => k_is)
    (case kcut => k_is)
    (case awritten => k_is)
    (case lwritten => k_is)
    (case cwritten => k_is)
    (case kwritten => k_is)
    (case arecorded => k_is)
    (case lrecorded => k_is)
    (case crecorded => k_is)
    (case krecorded => k_is)
    (case acopy => k_is)
    (case lcopy => k_is)
    (case ccopy => k_is)
    (case kcopy => k_is)
    (case async => k_is)
    (case lsync => k_is)
    (case csync => k_is)
    (case ksync => k_is)
    (case acheck => k_is)
    (case lcheck => k_is)
    (case ccheck => k_is)
    (case kcheck => k_is)
    (case awrite => k_is)
    (case lwrite => k_is)
    (case cwrite => k_is)
    (case kwrite => k_is)
    (case akey => k_is)
    (case lkey => k_is)
    (case ckey => k_is)
    (case kkey => k_is)
    (case amost => k_is)
    (case lmost => k_is)
    (case cmost => k_is)
    (case kmost => k_is)
    (case apairs => k_is)
    (case lpairs => k_is)
    (case cpairs => k_is)
    (case kpairs => k_is)
    (case aareas => k_is)
    (case lareas => k_is)
    (case careas => k_is)
    (case kareas => k_is)
    (case adisk_so => k_is)
    (case ldisk_so => k_is)
    (case cdisk_so => k_is)
    (case kdisk_so => k_is)
    (case along => k_is)
    (case llong => k_is)
    (case clong => k_is)
    (case klong => k_is)
    (case avalue => k_is)
    (case lvalue => k_is)
    (case cvalue => k_is)
    (case kvalue => k_is)
    (case achanges => k_is)
    (case lchanges => k_is)
    (case cchanges => k_is)
    (case kchanges => k_is)
    (case ashelf => k_is)
    (case lshelf => k_is)
    (case cshelf => k_is)
    (case kshelf => k_is)
    (case anew => k_is)
    (case lnew => k_is)
    (case cnew => k_is)
    (case knew => k_is)
    (case apower => k_is)
    (case lpower => k_is)
    (case cpower => k_is)
    (case kpower => k_is)
    (case awords => k_is)
    (case lwords => k_is)
    (case cwords => k_is)
    (case kwords => k_is)
    (case astart => k_is)
    (case lstart => k_is)
    (case cstart => k_is)
    (case kstart => k_is)
    (case adue => k_is)
    (case ldue => k_is)
    (case cdue => k_is)
    (case kdue => k_is)
    (case aunsynced => k_is)
    (case lunsynced => k_is)
    (case cunsynced => k_is)
    (case kunsynced => k_is)
    (case acut_so => k_is)
    (case lcut_so => k_is)
    (case ccut_so => k_is)
    (case kcut_so => k_is)
    (case alaw => k_is)
    (case llaw => k_is)
    (case claw => k_is)
    (case klaw => k_is)
    (case zall => k_is)
    (case zany => k_is)
    (case zbool => k_is)
    (case zdict => k_is)
    (case zenumerate => k_is)
    (case zint => k_is)
    (case zisinstance => k_is)
    (case zlen => k_is)
    (case zlist => k_is)
    (case zmax => k_is)
    (case zrange => k_is)
    (case zsorted => k_is)
    (case zstr => k_is)
    (case zsum => k_is)
    (case ztuple => k_is)
    (case zzip => k_is)
    (case yMOST_ROWS => k_is)
    (case aDiskG => k_is)
    (case pgDisk => k_is)
    (case hdDisk => k_is)
    (case poDisk => k_is)
    (case saDisk => k_is)
    (case mkDisk => k_is)
    (case kpDisk => k_is)
    (case nDisk_most => k_is)
    (case nDisk_table => k_is)
    (case nDisk_areas => k_is)
    (case nDisk_unsynced => k_is)
    (case nDisk_syncs => k_is)
    (case nDisk_fallen => k_is)
    (case nDisk_halts => k_is)
    (case nDisk_halted => k_is)
    (case nDisk_area => k_is)
    (case nDisk_generation => k_is)
    (case nDisk_pieces => k_is)
    (case nDisk_rows => k_is)
    (case stDisk => k_is)
    (case gtDisk => k_is)
    (case rdDisk => k_is)
    (case gaDisk => k_is)
    (case cvDisk => k_is)
    (case atDisk_init => k_is)
    (case lDisk_init => k_is)
    (case cDisk_init => k_is)
    (case kDisk_init => k_is)
    (case iDisk_init => k_is)
    (case atDisk_write => k_is)
    (case lDisk_write => k_is)
    (case cDisk_write => k_is)
    (case kDisk_write => k_is)
    (case iDisk_write => k_is)
    (case atDisk_check => k_is)
    (case lDisk_check => k_is)
    (case cDisk_check => k_is)
    (case kDisk_check => k_is)
    (case iDisk_check => k_is)
    (case atDisk_sync => k_is)
    (case lDisk_sync => k_is)
    (case cDisk_sync => k_is)
    (case kDisk_sync => k_is)
    (case iDisk_sync => k_is)
    (case atDisk_put => k_is)
    (case lDisk_put => k_is)
    (case cDisk_put => k_is)
    (case kDisk_put => k_is)
    (case iDisk_put => k_is)
    (case atDisk_keep => k_is)
    (case lDisk_keep => k_is)
    (case cDisk_keep => k_is)
    (case kDisk_keep => k_is)
    (case iDisk_keep => k_is)
    (case atDisk_check_awake => k_is)
    (case lDisk_check_awake => k_is)
    (case cDisk_check_awake => k_is)
    (case kDisk_check_awake => k_is)
    (case iDisk_check_awake => k_is)
    (case atDisk_table => k_is)
    (case lDisk_table => k_is)
    (case cDisk_table => k_is)
    (case kDisk_table => k_is)
    (case iDisk_table => k_is)
    (case atDisk_areas => k_is)
    (case lDisk_areas => k_is)
    (case cDisk_areas => k_is)
    (case kDisk_areas => k_is)
    (case iDisk_areas => k_is)
    (case atDisk_unsynced => k_is)
    (case lDisk_unsynced => k_is)
    (case cDisk_unsynced => k_is)
    (case kDisk_unsynced => k_is)
    (case iDisk_unsynced => k_is)
    (case atDisk_syncs => k_is)
    (case geDisk_syncs => k_is)
    (case taDisk_syncs => k_is)
    (case rcDisk_syncs => k_is)
    (case lDisk_syncs => k_is)
    (case cDisk_syncs => k_is)
    (case kDisk_syncs => k_is)
    (case iDisk_syncs => k_is)
    (case atDisk_fallen => k_is)
    (case geDisk_fallen => k_is)
    (case taDisk_fallen => k_is)
    (case rcDisk_fallen => k_is)
    (case lDisk_fallen => k_is)
    (case cDisk_fallen => k_is)
    (case kDisk_fallen => k_is)
    (case iDisk_fallen => k_is)
    (case atDisk_copy => k_is)
    (case lDisk_copy => k_is)
    (case cDisk_copy => k_is)
    (case kDisk_copy => k_is)
    (case iDisk_copy => k_is)
    (case atDisk_wake => k_is)
    (case lDisk_wake => k_is)
    (case cDisk_wake => k_is)
    (case kDisk_wake => k_is)
    (case iDisk_wake => k_is)
    (case atDisk_fall => k_is)
    (case lDisk_fall => k_is)
    (case cDisk_fall => k_is)
    (case kDisk_fall => k_is)
    (case iDisk_fall => k_is)
    (case lTj => k_is)
    (case vTj => rfl)
    (case lED => k_is)
    (case vED => rfl)
    (case tED => rfl)
    (case aCWG => k_is)
    (case lCW => k_is)
    (case vCW => rfl)
    (case tCW => rfl)
    (case drows => k_is)
    (case dsyn => k_is)
    (case a_InvalidNumber => k_is)
    (case xInvalidNumber => k_is)
    (case saInvalidNumber => k_is)
    (case exInvalidNumber => k_is)
    (case tyInvalidNumber => k_is)
    (case kpInvalidNumber => k_is)
    (case inInvalidNumber => k_is)
    (case tiInvalidNumber => k_is)
    (case gaInvalidNumber => k_is)
    (case ggInvalidNumber => k_is)
    (case hdInvalidNumber => k_is)
    (case clInvalidNumber => k_is)
    (case ssInvalidNumber => k_is)
    (case nvalueInvalidNumber => k_is)
    (case ncodeInvalidNumber => k_is)
    (case lInvalidNumber_init => k_is)
    (case cInvalidNumber_init => k_is)
    (case kInvalidNumber_init => k_is)
    (case iInvalidNumber_init => k_is)
    (case aSure => k_is)