import PyProof.Rows.All
import Wide.All
import OpenK.AllK
import Wide.FinOn
import HandS.ForMost
import HandS.IsInst
import HandS.Evl
import HandS.Zip
import HandS.ExcInit
import HandS.ExcIs
import HandS.Walk
import KE.KExcIs
import KE.KxText
import PySem.Challenge.RW_surelet_k01_words_judged
set_option Elab.async false
set_option linter.all false
set_option maxRecDepth 100000
set_option maxHeartbeats 4000000
namespace LC
open PySem L2
/-- a def as it stands behind the top: its text, its name, how its arguments bind -/
structure Def (K : PySem.W.Frag) (mg : Str → Option Value) (x : Str) (st : Stmt) (ps : List Str) (f : Addr) (fd : FuncData) : Prop where
  F : Fun K x x st f fd
  g : mg x = some (.ref f)
  b : Binds K fd ps []
/-- all but the bag at g is as it was -/
def Kp (g : Addr) (H H' : Hp) : Prop := ∀ b o, b ≠ g → H b = some o → H' b = some o
theorem Kp.refl (g : Addr) (H : Hp) : Kp g H H := fun _ _ _ h => h
theorem Kp.trans {g : Addr} {H H1 H2 : Hp} (a : Kp g H H1) (b : Kp g H1 H2) : Kp g H H2 := fun c o n h => b c o n (a c o n h)
theorem Kp.upd {g : Addr} {H H1 : Hp} {p : Addr} {o : HO} (a : Kp g H H1) (h : H1 p = none) : Kp g H (upd H1 p o) := fun c u n e => by
  have q := a c u n e
  rw [upd_ne (ne_of_none q h)]
  exact q
theorem Kp.bag {g : Addr} {H H1 : Hp} {o : HO} (a : Kp g H H1) : Kp g H (L2.upd H1 g o) := fun c u n e => by
  rw [upd_ne n]
  exact a c u n e
theorem Kp.free {g : Addr} {H H' : Hp} (e : Kp g H H') {l : Addr} (hl : l ≠ g) (h : H' l = Option.none) : H l = Option.none := by
  cases q : H l with
  | none => rfl
  | some o =>
    rw [e l o hl q] at h
    cases h
/-- the bag of draws at g, the script's copy at l -/
def Bag (l : Addr) (H : Hp) (g : Addr) : Prop := ∃ (ns : List Int) (i d s c : Int), H g = some (.lst [.ref l, .int i, .int d, .int s, .int c]) ∧ l ≠ g ∧ H l = some (.lst (ns.map V.int)) ∧
  0 ≤ i ∧ i ≤ ns.length ∧ 0 ≤ d ∧ 0 ≤ s ∧ s < 2147483399
theorem Bag.there {l : Addr} {H : Hp} {g : Addr} (B : Bag l H g) : (∃ xs, H g = some (.lst xs)) ∧ ∃ xs, H l = some (.lst xs) := by
  obtain ⟨ns, i, d, s, c, h, _, h2, _⟩ := B
  exact ⟨⟨_, h⟩, ⟨_, h2⟩⟩
theorem Bag.ne {l : Addr} {H : Hp} {g p : Addr} (B : Bag l H g) (h : H p = none) : p ≠ g ∧ p ≠ l := by
  obtain ⟨⟨xs, q⟩, ⟨ys, r⟩⟩ := B.there
  refine ⟨fun e => ?_, fun e => ?_⟩
  · rw [e, q] at h
    cases h
  · rw [e, r] at h
    cases h
theorem Bag.mut {l : Addr} {H : Hp} {g p : Addr} {o : HO} (B : Bag l H g) (h : p ≠ g) (h' : p ≠ l) : Bag l (L2.upd H p o) g := by
  obtain ⟨ns, i, d, s, c, h1, h2, h3, r⟩ := B
  exact ⟨ns, i, d, s, c, by rw [upd_ne (Ne.symm h)]; exact h1, h2, by rw [upd_ne (Ne.symm h')]; exact h3, r⟩
/-- from H0 to H: all but the bag stands, things came beside it, the bag is one -/
structure Ok (g l : Addr) (H0 H : Hp) : Prop where
  b0 : Bag l H0 g
  kp : Kp g H0 H
  bag : Bag l H g
theorem Ok.refl {g l : Addr} {H : Hp} (B : Bag l H g) : Ok g l H H := ⟨B, Kp.refl g H, B⟩
theorem Ok.trans {g l : Addr} {H H1 H2 : Hp} (a : Ok g l H H1) (b : Ok g l H1 H2) : Ok g l H H2 := ⟨a.b0, a.kp.trans b.kp, b.bag⟩
theorem Ok.new {g l p : Addr} {H H1 : Hp} {o : HO} (a : Ok g l H H1) (h : H1 p = none) : Ok g l H (L2.upd H1 p o) := ⟨a.b0, a.kp.upd h, a.bag.mut (a.bag.ne h).1 (a.bag.ne h).2⟩
theorem Ok.free {g l p : Addr} {H H1 : Hp} (a : Ok g l H H1) (h : H1 p = none) : H p = none := a.kp.free (a.bag.ne h).1 h
theorem Ok.mut {g l p : Addr} {H H1 : Hp} {o : HO} (a : Ok g l H H1) (h : H p = none) : Ok g l H (L2.upd H1 p o) :=
  ⟨a.b0, fun b u n e => by rw [upd_ne (ne_of_none e h)]; exact a.kp b u n e, a.bag.mut (a.b0.ne h).1 (a.b0.ne h).2⟩
theorem Ok.at_ {g l p : Addr} {H H1 : Hp} {o : HO} (a : Ok g l H H1) (h : H p = some o) (n : p ≠ g) : H1 p = some o := a.kp p o n h
theorem SqL.kp {K : PySem.W.Frag} {g : Addr} {H H' : Hp} {a : Addr} {xs : List V} (e : Kp g H H') (n : a ≠ g) (h : SqL K H a xs) : SqL K H' a xs := by
  rcases h with (h | ⟨o, h⟩) | h
  · exact .inl (.inl (e _ _ n h))
  · exact .inl (.inr ⟨o, e _ _ n h⟩)
  · exact .inr h
theorem SqT.kp {K : PySem.W.Frag} {g : Addr} {H H' : Hp} {a : Addr} {xs : List V} (e : Kp g H H') (n : a ≠ g) (h : SqT K H a xs) : SqT K H' a xs := by
  rcases h with (h | ⟨o, h⟩) | h
  · exact .inl (.inl (e _ _ n h))
  · exact .inl (.inr ⟨o, e _ _ n h⟩)
  · exact .inr h
theorem ite_b {c : Bool} {A B : Prop} (h1 : c = true → A) (h2 : c = false → B) : if c = true then A else B := by
  cases c with
  | true => exact iteT (h1 rfl)
  | false => exact iteF (h2 rfl)
/-- a test of two ints -/
theorem ite_d {p : Prop} [Decidable p] {A B : Prop} (h1 : p → A) (h2 : ¬ p → B) : if decide p = true then A else B := by
  by_cases h : p
  · rw [decide_eq_true h]
    exact iteT (h1 h)
  · rw [decide_eq_false h]
    exact iteF (h2 h)
theorem ite_eq {i j : Int} {A B : Prop} (h1 : i = j → A) (h2 : i ≠ j → B) : if decide (V.int i = V.int j) = true then A else B :=
  ite_d (fun h => h1 (V.int.inj h)) fun h => h2 fun e => h (by rw [e])
section
variable {X : Cx} {CX : CXT} {k : Nat} {f : Addr} {fd : FuncData} {ps ks : List Str} {sp : Sp} {E : XK} {x : Str} {p pos : Pos} {kws : List Keyword} {tk : TA} {g : List Value → List Value → List Value} {gV : List V → List V → List V}
theorem pe_callK0 (F : FnOk X.prog X.w X.K X.mg X.base CX k f fd ps sp) (hr : Room k X.A) (hg : Gl X x) (hm : X.mg x = some (.ref f)) (hk : PySem.W.keepIn X.K (.ref f) = true) (hb : KBinds X.K fd ps ks g gV) (hx : Passes CX X E)
    (hkw : PK X kws tk) (hall : (backToKw pos (keywordEach kws X.env)).all (·.1.isSome) = true := by rfl) (hks : (backToKw pos (keywordEach kws X.env)).filterMap (·.1) = ks := by rfl)
    (hdb : (x == ("__debug__" : Str)) = false := by decide) (hpl : ((backTo pos (starEach [] X.env)).any (·.1) || (backToKw pos (keywordEach kws X.env)).any (·.1.isNone)) = false := by rfl) :
    PE X (.Call (.Name x p) [] kws pos) (tCallK sp gV E tNil tk) := by
  refine ⟨fun pins s σ H Q I h => ?_⟩
  refine wpAny_Call_Name_kw (ld_glob I hg hm ?_ hdb)
  refine PySem.W.callWith_KW0 (h₀ := X.base) I.ok.mod.kin hk hall ?_ hpl
  refine thn (hkw.run pos pins s σ H _ I h) fun ws s2 ⟨zs, H2, I2, rz, q2⟩ => ⟨I2.kIn, ?_⟩
  rw [hks]
  exact run_fnk (us := []) F hr hb hx I2 .nil rz q2
end
end LC
namespace LC
open PySem L2
theorem cut_ints (ns : List Int) (lo hi : Option Int) : ∃ ms : List Int, cutV (ns.map V.int) lo hi = ms.map V.int ∧ ms.length ≤ ns.length := by
  refine ⟨(ns.drop (HT.sIx ns.length 0 lo)).take (HT.sIx ns.length ns.length hi - HT.sIx ns.length 0 lo), ?_, ?_⟩
  · unfold cutV
    rw [List.length_map, ← List.map_drop, ← List.map_take]
  · rw [List.length_take, List.length_drop]
    omega
theorem same_new {H : Hp} {p : Addr} {o : HO} (h : H p = none) : Same H (upd H p o) := fun b u e => by
  rw [upd_ne (ne_of_none e h)]
  exact e
theorem int_of {ns : List Int} {i : Nat} {y : V} (h : (ns.map V.int)[i]? = some y) : ∃ u, y = V.int u := by
  rw [List.getElem?_map] at h
  cases e : ns[i]? with
  | none =>
    rw [e] at h
    cases h
  | some u =>
    rw [e] at h
    exact ⟨u, (Option.some.inj h).symm⟩
end LC

namespace LC
theorem fmod_nn (a : Int) {n : Int} (h : 0 < n) : 0 ≤ a.fmod n := by
  rw [Int.fmod_eq_emod_of_nonneg _ (Int.le_of_lt h)]
  exact Int.emod_nonneg _ (by omega)
theorem fmod_lt (a : Int) {n : Int} (h : 0 < n) : a.fmod n < n := by
  rw [Int.fmod_eq_emod_of_nonneg _ (Int.le_of_lt h)]
  exact Int.emod_lt_of_pos _ h
end LC

namespace LC
open PySem L2
/-- a value of any of the drawn kinds; C: the error's class -/
inductive Th (C g : Addr) (H : Hp) : V → Prop where
  | non : Th C g H .non
  | bl (b : Bool) : Th C g H (.bl b)
  | int (i : Int) : Th C g H (.int i)
  | str (z : Str) (h : z.length ≤ 1000000) : Th C g H (.str z)
  | lst {a : Addr} {xs : List V} (h : H a = some (.lst xs)) (n : a ≠ g) : Th C g H (.ref a)
  | tup {a : Addr} {xs : List V} (h : H a = some (.tup xs)) (n : a ≠ g) : Th C g H (.ref a)
  | dK {a : Addr} {kvs : List (Key × V)} (h : H a = some (.dK kvs)) (n : a ≠ g) : Th C g H (.ref a)
  | exo {a d : Addr} {fs : List (Str × V)} (h : H a = some (exo a C (some d))) (n : a ≠ g) (hd : H d = some (exd d fs)) (nd : d ≠ g) : Th C g H (.ref a)
theorem Th.kp {C g : Addr} {H H' : Hp} {v : V} (r : Kp g H H') (t : Th C g H v) : Th C g H' v := by
  cases t with
  | non => exact .non
  | bl b => exact .bl b
  | int i => exact .int i
  | str z h => exact .str z h
  | lst h n => exact .lst (r _ _ n h) n
  | tup h n => exact .tup (r _ _ n h) n
  | dK h n => exact .dK (r _ _ n h) n
  | exo h n hd nd => exact .exo (r _ _ n h) n (r _ _ nd hd) nd
theorem Th.list {C g l : Addr} {H0 H : Hp} {p : Addr} {xs : List V} (a : Ok g l H0 H) (h : H p = none) : Th C g (upd H p (.lst xs)) (.ref p) := .lst upd_same (a.bag.ne h).1
theorem Th.tupl {C g l : Addr} {H0 H : Hp} {p : Addr} {xs : List V} (a : Ok g l H0 H) (h : H p = none) : Th C g (upd H p (.tup xs)) (.ref p) := .tup upd_same (a.bag.ne h).1
theorem upd_kp {g l : Addr} {H0 H : Hp} {p : Addr} {o : HO} (a : Ok g l H0 H) (h : H p = none) : Kp g H (upd H p o) := (Ok.new (Ok.refl a.bag) h).kp
/-- a comprehension over a text whose element leaves the heap -/
theorem lc_text {z : Str} {j : Nat} {te : TE} {vs : List Nat} {σ : L2.St} {H1 : Hp} {D : Addr} {Qd : Hp → Prop} (f : Nat → V) (hD : H1 D = none) (hz : z.length ≤ 1000000) (hw : ∀ x, wipe ((wipe σ vs).set j (some x)) vs = wipe σ vs)
    (he : ∀ (c : Nat) (H : Hp) (Q : VK), c ∈ z.cps.toList → Q (f c) H → te ((wipe σ vs).set j (some (.str ⟨#[c]⟩))) H Q) (hd : Qd (upd H1 D (.lst (z.cps.toList.map f)))) :
    ∃ W : Nat → Nat → Hp → Prop, (∃ m, W 0 m (upd H1 D (.lst []))) ∧ ∀ i m H, W i m H →
      ((Its z).stop i H ∧ Qd H) ∨ ((Its z).go i H ∧ ∃ Nx : Hp → Prop, (∀ H', Nx H' → ∃ m', m' < m ∧ W (i + 1) m' H') ∧ ∀ x H', (Its z).yld i H x H' → gName j x (wipe σ vs) H' fun σ2 H2 => wipe σ2 vs = wipe σ vs ∧ tYes σ2 H2 fun b H3 =>
        if b = true then te σ2 H3 fun y H4 => ∃ acc, H4 D = some (.lst acc) ∧ acc.length < sizeLine ∧ Nx (upd H4 D (.lst (acc ++ [y]))) else Nx H3) := by
  have hn : z.cps.toList.length = z.cps.size := Array.length_toList
  refine lc_it (walk_str (z := z)) (fun i H => i ≤ z.cps.size ∧ H = upd H1 D (.lst ((z.cps.toList.take i).map f))) ⟨Nat.zero_le _, rfl⟩ (fun _ _ _ _ => trivial) ?_ ?_
  · rintro i x H H' hi ⟨_, rfl⟩ ⟨rfl, c, hc, rfl⟩
    refine ⟨hw _, ?_⟩
    have hc' : z.cps.toList[i]? = some c := by rw [Array.getElem?_toList]; exact hc
    refine he c _ _ (List.mem_of_getElem? hc') ?_
    refine ⟨_, upd_same, ?_, hi, ?_⟩
    · rw [List.length_map, List.length_take]
      have e1 : z.cps.size = z.length := rfl
      exact Nat.lt_of_le_of_lt (Nat.min_le_right _ _) (Nat.lt_of_le_of_lt (by rw [hn, e1]; exact hz) (by decide : 1000000 < sizeLine))
    · rw [upd_upd, List.take_add_one, hc', List.map_append]
      rfl
  · rintro H ⟨_, rfl⟩
    rw [← hn, List.take_length]
    exact hd
end LC
namespace LC
open PySem L2 PySem.Spec PyProof.Rows
/-- C(e, ..) as a value, C an own error class over ValueError with its own __init__, which keeps sp -/
def tMkV (C : Addr) (sp : Sp) (ta : TA) : TE := fun σ H Q => ta σ H fun vs H1 => vs.length ≤ 1000 ∧ ∀ a, H1 a = none → sp (.ref a :: vs) (upd H1 a (exo a C none)) (fun v H2 => v = .non ∧ Q (.ref a) H2) (fun _ _ _ => False)
section
variable {X : Cx} {e : Expr} {es : List Expr} {ta : TA} {p pos : Pos}
theorem pe_oexV {CX : CXT} {x : Str} {C fI : Addr} {k : Nat} {fd : FuncData} {ps : List Str} {sp : Sp} (T : OexC X.K C) (iC : PySem.W.findIn X.K (.ref C) "__init__" = some (some (.ref fI))) (tI : PySem.W.typeIn X.K (.ref fI) = some (.type "function"))
    (F1 : FnOk X.prog X.w X.K X.mg X.base CX k fI fd ps sp) (hr : Room (k + 1) X.A) (hb : Binds X.K fd ps []) (hx : Passes CX X (fun _ _ _ => False)) (hg : Gl X x) (hm : X.mg x = some (.ref C)) (ha : PA X (e :: es) ta)
    (hdb : (x == ("__debug__" : Str)) = false := by decide) (he : starEach (e :: es) X.env = (false, eval e X.env) :: starEach es X.env := by rfl) (hpl : (backTo pos (starEach es X.env)).any (·.1) = false := by rfl) :
    PE X (.Call (.Name x p) (e :: es) [] pos) (tMkV C sp ta) := by
  refine ⟨fun pins s σ H Q I h => ?_⟩
  obtain ⟨nm, q, N, bs, bm, sn, sub, ab, col, dd, k0, k1, k2, k3, k5, hC, hbm⟩ := T.cls
  refine wpAny_Call_Name_kw (ld_glob I hg hm ?_ hdb)
  refine PySem.W.callWith_K (h₀ := X.base) I.ok.mod.kin T.kC (thn (ha.run pos pins s σ H _ I h) fun us s1 ⟨vs, H1, I1, r1, hz, q1⟩ => ⟨I1.kIn, ?_⟩) he hpl
  show wpAny _ _ (call (.ref C) us) _ _ _
  obtain ⟨hp, g, dr, tk, os⟩ := s1
  have hsz : hp.objs.size ≤ hp.objs.size + 1 := Nat.le_succ _
  have hn : H1 (hp.objs.size + 1) = none := I1.hok.fresh hsz
  have hq := q1 (hp.objs.size + 1) hn
  have kk : ∀ b o, hp.get? b = some o → ((hp.push (PySem.W.kdv_tup us)).push (PySem.HandSPX.excO C hp.objs.size)).get? b = some o := fun b o e => Heap.get?_push_of_some _ (Heap.get?_push_of_some _ e)
  have hget : ((hp.push (PySem.W.kdv_tup us)).push (PySem.HandSPX.excO C hp.objs.size)).get? (hp.objs.size + 1) = some (PySem.HandSPX.excO C hp.objs.size) := by heap_get
  have I2 : L2.Inv X pins σ (upd H1 (hp.objs.size + 1) (exo (hp.objs.size + 1) C none)) ⟨(hp.push (PySem.W.kdv_tup us)).push (PySem.HandSPX.excO C hp.objs.size), g, dr, tk, os⟩ :=
    I1.laid (t' := tk) (a := hp.objs.size + 1) (o := exo (hp.objs.size + 1) C none) (h' := (hp.push (PySem.W.kdv_tup us)).push (PySem.HandSPX.excO C hp.objs.size)) kk hsz (exo_ok hget)
  have r2 : Vals (V.ref (hp.objs.size + 1) :: vs) (Value.ref (hp.objs.size + 1) :: us) := .cons rfl r1
  have hl : (Value.ref (hp.objs.size + 1) :: us ++ []).length = ps.length := by
    have e := r2.length
    rw [F1.len _ _ _ _ hq] at e
    rw [List.append_nil]
    exact e.symm
  have hus : us.length ≤ sizeLine := by
    rw [← Paired.length r1, sizeLine_eq]
    omega
  have hbb := hb _ (Value.ref (hp.objs.size + 1) :: us) I2.kIn hl
  rw [List.append_nil] at hbb
  refine wpAny_call (PySem.HandSPX.call_own F.excBase_ValueError (fun Y => PySem.HandSPX.refsVE_contains Y bm hbm) (I1.kIn _ _ hC) (PySem.W.looks_findIn I1.kIn iC) (fun self => PySem.W.bind_fn I1.kIn self tI) hus
    (codeAny_mono (F1.run _ X.stack _ _ ⟨Value.ref (hp.objs.size + 1) :: us, []⟩ (Value.ref (hp.objs.size + 1) :: us) _ _ (fun _ _ _ => False) (hr.make C us []) (I2.env0.make C us []) hbb r2 hq) fun r s' hq' => ?_))
  cases r with
  | error er => exact hx pins σ _ _ er s' I2 hq'
  | ok fl =>
    cases fl with
    | ret u =>
      obtain ⟨v, H2, os2, bare2, un2, hok2, rv, ev, q2⟩ := hq'
      subst ev
      exact ⟨rv, .ref (hp.objs.size + 1), H2, I2.call' (ch := []) os2 un2 hok2 bare2 (fun b hb => by cases hb), rfl, q2⟩
    | next => exact False.elim hq'
    | brk => exact False.elim hq'
    | cont => exact False.elim hq'
end
/-- what the written part says of an own error class, for isinstance -/
structure IsC (K : PySem.W.Frag) (C : Addr) : Prop where
  hcl : (PySem.W.clsIn K C).isSome = true
  hga : PySem.W.findIn K (.ref C) "__getattribute__" = some (some (.builtin "BaseException.__getattribute__"))
  hgt : PySem.W.findIn K (.ref C) "__getattr__" = some none
  hsub : PySem.W.subIn K (.ref C) (.type "BaseException") = some true
  ha : PySem.W.findIn K (.ref C) "__class__" = some (some (.builtin "object.__class__"))
  hn : PySem.W.specialIn K (.builtin "object.__class__") "__get__" = some (some (.builtin "getset_descriptor.__get__"))
  htk : PySem.W.takesIn K (.builtin "object.__class__") = some true
  hm : PySem.W.mroIn K C (.type "object") = some true
/-- isinstance(x, c), x an own error too -/
def rIsX (K : PySem.W.Frag) : List V → Hp → VK → Prop := fun xs H Q => rIsi K xs H Q ∨
  ∃ (a C d : Addr) (c : V) (cv : Value) (b : Bool) (fs : List (Str × V)), xs = [.ref a, c] ∧ IsC K C ∧ H a = some (exo a C (some d)) ∧ H d = some (exd d fs) ∧ ClsV c cv ∧ PySem.W.kitOne K (.ref C) cv = some b ∧ Q (.bl b) H
theorem call_isX {X : Cx} : CallR X (.builtin "isinstance") (rIsX X.K) := by
  intro pins s σ H xs us Q I r h
  rcases h with h | ⟨a, C, d, c, cv, b, fs, rfl, T, ha, hd, k, e, q⟩
  · exact call_isi pins s σ H xs us Q I r h
  · obtain ⟨u1, u2, rfl, r1, r2⟩ := vals2 r
    have e2 := k.eq r2
    subst e2
    obtain rfl : u1 = Value.ref a := r1
    obtain ⟨t1, ho⟩ := exo_at I.hok ha
    obtain ⟨od, hod⟩ : ∃ od, s.heap.get? d = some od := by
      obtain ⟨_, z, _⟩ := I.hok d _ hd
      exact z
    have J : PySem.W.InstAt s.heap a { cls := .ref C, dict := some d, data := .fields #[.ref t1, .none, .none, .none, .bool false, .none] } C (some od) := ⟨ho, rfl, rfl, hod⟩
    exact PySem.W.kia_one (PySem.W.kitx_exc T.hcl T.hga T.hgt T.hsub T.ha T.hn T.htk T.hm) I.kIn J e (fun z => nomatch z) fun tk => ⟨.bl b, H, I.tok tk, rfl, q⟩
end LC

namespace LC
open PySem L2
/-! the values of isinstance(x, int | bool | str) -/
def isI : V → Bool | .int _ => true | .bl _ => true | _ => false
def isB : V → Bool | .bl _ => true | _ => false
def isS : V → Bool | .str _ => true | _ => false
/-- what the error's class answers -/
structure NoB (K : PySem.W.Frag) (C : Addr) : Prop where
  is : IsC K C
  i : PySem.W.kitOne K (.ref C) (.type "int") = some false
  b : PySem.W.kitOne K (.ref C) (.type "bool") = some false
  s : PySem.W.kitOne K (.ref C) (.type "str") = some false
theorem isi_th {K : PySem.W.Frag} {C g : Addr} {H : Hp} {v : V} {Q : VK} (N : NoB K C) (t : Th C g H v) : (Q (.bl (isI v)) H → rIsX K [v, .ty "int"] H Q) ∧ (Q (.bl (isB v)) H → rIsX K [v, .ty "bool"] H Q) ∧ (Q (.bl (isS v)) H → rIsX K [v, .ty "str"] H Q) := by
  have go : ∀ {x : V} {T S : String} {b : Bool}, TyOf K H x (.type T) → kitB T S = some b → Q (.bl b) H → rIsX K [x, .ty S] H Q := fun ty e q => .inl ⟨_, _, _, _, _, rfl, .ty _, .base ty, kit_ty e, q⟩
  cases t with
  | non => exact ⟨go .non (show kitB "NoneType" "int" = some false by decide +kernel), go .non (show kitB "NoneType" "bool" = some false by decide +kernel), go .non (show kitB "NoneType" "str" = some false by decide +kernel)⟩
  | bl b => exact ⟨go (.bl b) (show kitB "bool" "int" = some true by decide +kernel), go (.bl b) (show kitB "bool" "bool" = some true by decide +kernel), go (.bl b) (show kitB "bool" "str" = some false by decide +kernel)⟩
  | int i => exact ⟨go (.int i) (show kitB "int" "int" = some true by decide +kernel), go (.int i) (show kitB "int" "bool" = some false by decide +kernel), go (.int i) (show kitB "int" "str" = some false by decide +kernel)⟩
  | str z h => exact ⟨go (.str z) (show kitB "str" "int" = some false by decide +kernel), go (.str z) (show kitB "str" "bool" = some false by decide +kernel), go (.str z) (show kitB "str" "str" = some true by decide +kernel)⟩
  | lst h n => exact ⟨go (.lst h) (show kitB "list" "int" = some false by decide +kernel), go (.lst h) (show kitB "list" "bool" = some false by decide +kernel), go (.lst h) (show kitB "list" "str" = some false by decide +kernel)⟩
  | tup h n => exact ⟨go (.tup h) (show kitB "tuple" "int" = some false by decide +kernel), go (.tup h) (show kitB "tuple" "bool" = some false by decide +kernel), go (.tup h) (show kitB "tuple" "str" = some false by decide +kernel)⟩
  | dK h n => exact ⟨go (.dK h) (show kitB "dict" "int" = some false by decide +kernel), go (.dK h) (show kitB "dict" "bool" = some false by decide +kernel), go (.dK h) (show kitB "dict" "str" = some false by decide +kernel)⟩
  | exo h n hd nd => exact ⟨fun q => .inr ⟨_, C, _, _, _, _, _, rfl, N.is, h, hd, .ty _, N.i, q⟩, fun q => .inr ⟨_, C, _, _, _, _, _, rfl, N.is, h, hd, .ty _, N.b, q⟩, fun q => .inr ⟨_, C, _, _, _, _, _, rfl, N.is, h, hd, .ty _, N.s, q⟩⟩
def isNum (v : V) (lo hi : Int) : Bool := match v with | .int i => decide (lo ≤ i) && decide (i ≤ hi) | _ => false
def chL (c : Nat) : Bool := decide (97 ≤ c) && decide (c ≤ 122)
def chD (c : Nat) : Bool := decide (48 ≤ c) && decide (c ≤ 57)
def isNam (v : V) : Bool := match v with | .str z => decide (1 ≤ z.length) && decide (z.length ≤ 8) && chL (z.cps.toList.getD 0 0) && z.cps.toList.all (fun c => chL c || chD c) | _ => false
theorem mem_low (c : Nat) : decide (c ∈ ("abcdefghijklmnopqrstuvwxyz" : Str).cps.toList) = chL c := by
  have e : ("abcdefghijklmnopqrstuvwxyz" : Str).cps.toList = List.range' 97 26 := by decide +kernel
  rw [e]
  unfold chL
  rw [← Bool.decide_and]
  refine decide_eq_decide.mpr ?_
  rw [List.mem_range'_1]
  omega
theorem mem_dig (c : Nat) : decide (c ∈ ("0123456789" : Str).cps.toList) = chD c := by
  have e : ("0123456789" : Str).cps.toList = List.range' 48 10 := by decide +kernel
  rw [e]
  unfold chD
  rw [← Bool.decide_and]
  refine decide_eq_decide.mpr ?_
  rw [List.mem_range'_1]
  omega
end LC
namespace LC
open PySem L2
theorem pe_ty {X : Cx} {x : Str} {pos : Pos} (n : String) (hg : Gl X x) (hm : X.mg x = none) (hv : bootBuiltins x = some (.type n)) (hn : x ≠ "__name__" := by decide) (hd : (x == ("__debug__" : Str)) = false := by decide) : PE X (.Name x pos) (tC (.ty n)) :=
  pe_bltn hg hm hv rfl hn hd
end LC
namespace LC
open PySem L2
theorem ite_nd {p : Prop} [Decidable p] {A B : Prop} (h1 : ¬ p → A) (h2 : p → B) : if (!decide p) = true then A else B := by
  by_cases h : p
  · rw [decide_eq_true h]
    exact iteF (h2 h)
  · rw [decide_eq_false h]
    exact iteT (h1 h)
theorem ite_nb {c : Bool} {A B : Prop} (h1 : c = false → A) (h2 : c = true → B) : if (!c) = true then A else B := by
  cases c with
  | true => exact iteF (h2 rfl)
  | false => exact iteT (h1 rfl)
theorem ite_is {a b : Bool} {A B : Prop} (e : a = b) (h1 : b = true → A) (h2 : b = false → B) : if a = true then A else B := by
  subst e
  exact ite_b h1 h2
theorem Ok.same {g l : Addr} {H0 H H' : Hp} (a : Ok g l H0 H) (s : Same H H') : Ok g l H0 H' := by
  refine ⟨a.b0, fun b o n e => s _ _ (a.kp b o n e), ?_⟩
  obtain ⟨ns, i, d, t, c, h1, h2, h3, r⟩ := a.bag
  exact ⟨ns, i, d, t, c, s _ _ h1, h2, s _ _ h3, r⟩
theorem Th.same {C g : Addr} {H H' : Hp} {v : V} (t : Th C g H v) (s : Same H H') : Th C g H' v := t.kp fun b o _ e => s b o e
theorem len1 {z : Str} (h : 1 ≤ z.length) : ∃ c, z.cps.toList[0]? = some c ∧ z.cps.toList.getD 0 0 = c := by
  have e : z.cps.toList.length = z.length := rfl
  have h0 : 0 < z.cps.toList.length := by omega
  refine ⟨z.cps.toList[0], List.getElem?_eq_getElem h0, ?_⟩
  rw [List.getD_eq_getElem?_getD, List.getElem?_eq_getElem h0]
  rfl
theorem sz_str {z : Str} (h : z.length ≤ 1000000) : z.length ≤ sizeLine := Nat.le_trans h (by decide)
theorem bls_map {α : Type} (l : List α) (f : α → Bool) : (l.map fun c => V.bl (f c)) = (l.map f).map V.bl := by
  rw [List.map_map]
  rfl
theorem all_id {α : Type} (l : List α) (f : α → Bool) : (l.map f).all id = l.all f := by
  rw [List.all_map]
  rfl
theorem isNam_str (z : Str) : isNam (.str z) = (decide (1 ≤ z.length) && decide (z.length ≤ 8) && chL (z.cps.toList.getD 0 0) && z.cps.toList.all (fun c => chL c || chD c)) := rfl
end LC
namespace LC
open PySem L2
theorem pe_gstr {X : Cx} {x z : Str} {t : Tok} {pos : Pos} (hg : Gl X x) (hm : X.mg x = some (.str z t)) (hd : (x == ("__debug__" : Str)) = false := by decide) : PE X (.Name x pos) (tC (.str z)) := pe_glob hg hm ⟨_, rfl⟩ hd
theorem pe_gint {X : Cx} {x : Str} {z : Int} {t : Tok} {pos : Pos} (hg : Gl X x) (hm : X.mg x = some (.int z t)) (hd : (x == ("__debug__" : Str)) = false := by decide) : PE X (.Name x pos) (tC (.int z)) := pe_glob hg hm ⟨_, rfl⟩ hd
end LC

namespace LC
open PySem L2
/-- ord('a') <= ord(sign) <= ord('z') as an element -/
theorem ord_in {a b : Str} {c i lo hi : Nat} {σ : L2.St} {H : Hp} {Q : VK} {f : Nat → Bool} (h1 : a.length = 1 ∧ a.cps.getD 0 0 = lo) (h2 : b.length = 1 ∧ b.cps.getD 0 0 = hi) (hf : f c = (decide (lo ≤ c) && decide (c ≤ hi))) (hs : σ[i]? = some (some (.str ⟨#[c]⟩))) (q : Q (.bl (f c)) H) :
    tChain (rI0 fun i j => .bl (decide (i ≤ j))) (rI0 fun i j => .bl (decide (i ≤ j))) (tCB (fun xs H Q => ∃ x, xs = [.str x] ∧ x.length = 1 ∧ Q (.int (x.cps.getD 0 0 : Nat)) H) (tCons (tC (.str a)) tNil))
      (tCB (fun xs H Q => ∃ x, xs = [.str x] ∧ x.length = 1 ∧ Q (.int (x.cps.getD 0 0 : Nat)) H) (tCons (tVar i) tNil)) (tCB (fun xs H Q => ∃ x, xs = [.str x] ∧ x.length = 1 ∧ Q (.int (x.cps.getD 0 0 : Nat)) H) (tCons (tC (.str b)) tNil)) σ H Q := by
  refine ⟨a, rfl, h1.1, _, hs, _, rfl, rfl, _, _, rfl, rfl, _, rfl, ?_⟩
  rw [h1.2]
  refine ite_d (fun e1 => ?_) (fun e1 => ?_)
  · refine ⟨b, rfl, h2.1, _, _, rfl, rfl, ?_⟩
    rw [h2.2]
    have e : f c = decide ((c : Int) ≤ (hi : Int)) := by
      rw [hf, decide_eq_true (show lo ≤ c by exact Int.ofNat_le.mp e1), Bool.true_and]
      exact decide_eq_decide.mpr Int.ofNat_le.symm
    rw [e] at q
    exact q
  · have e : f c = false := by
      rw [hf, decide_eq_false (show ¬ lo ≤ c from fun z => e1 (Int.ofNat_le.mpr z)), Bool.false_and]
    rw [e] at q
    exact q
end LC
namespace LC
open PySem L2
/-- a comprehension over range(n) whose element draws: the list's items all in F -/
theorem lc_draws {n : Nat} {j : Nat} {te : TE} {vs : List Nat} {σ : L2.St} {g l : Addr} {H0 H1 : Hp} {D : Addr} {Qd : Hp → Prop} (F : Hp → V → Prop) (R : Ok g l H0 H1) (hD : H1 D = none) (hn : n ≤ 1000000)
    (hw : ∀ x, wipe ((wipe σ vs).set j (some x)) vs = wipe σ vs) (hF : ∀ x H H', F H x → Kp g H H' → F H' x) (hG : ∀ x H xs ys, H D = some (.lst xs) → F H x → F (upd H D (.lst ys)) x)
    (he : ∀ (i : Nat) (H : Hp) (Q : VK), i < n → Ok g l H0 H → (∀ x H', F H' x → Ok g l H H' → Q x H') → te ((wipe σ vs).set j (some (.int (0 + (i : Int))))) H Q)
    (hd : ∀ H xs, Ok g l H0 H → Kp g H1 H → H D = some (.lst xs) → xs.length = n → (∀ x ∈ xs, F H x) → Qd H) :
    ∃ W : Nat → Nat → Hp → Prop, (∃ m, W 0 m (upd H1 D (.lst []))) ∧ ∀ i m H, W i m H →
      ((Itr 0 n).stop i H ∧ Qd H) ∨ ((Itr 0 n).go i H ∧ ∃ Nx : Hp → Prop, (∀ H', Nx H' → ∃ m', m' < m ∧ W (i + 1) m' H') ∧ ∀ x H', (Itr 0 n).yld i H x H' → gName j x (wipe σ vs) H' fun σ2 H2 => wipe σ2 vs = wipe σ vs ∧ tYes σ2 H2 fun b H3 =>
        if b = true then te σ2 H3 fun y H4 => ∃ acc, H4 D = some (.lst acc) ∧ acc.length < sizeLine ∧ Nx (upd H4 D (.lst (acc ++ [y]))) else Nx H3) := by
  have nD := R.bag.ne hD
  refine lc_it walk_range (fun i H => i ≤ n ∧ Ok g l H1 H ∧ ∃ xs, H D = some (.lst xs) ∧ xs.length = i ∧ ∀ x ∈ xs, F H x) ⟨Nat.zero_le _, Ok.new (Ok.refl R.bag) hD, [], upd_same, rfl, fun x hx => by cases hx⟩ (fun _ _ _ _ => trivial) ?_ ?_
  · rintro i x H H' hi ⟨_, r, xs, h1, h2, h3⟩ ⟨rfl, rfl⟩
    refine ⟨hw _, ?_⟩
    refine he i _ _ hi (R.trans r) fun x H2 fx r2 => ?_
    have h4 := r2.kp D _ nD.1 h1
    refine ⟨xs, h4, Nat.lt_of_lt_of_le (by omega : xs.length < 1000000 + 1) (by decide), hi, (r.trans r2).mut hD, xs ++ [x], upd_same, by rw [List.length_append, h2]; rfl, fun y hy => ?_⟩
    refine hG y H2 xs _ h4 ?_
    rcases List.mem_append.mp hy with hy | hy
    · exact hF y _ _ (h3 y hy) r2.kp
    · rw [List.mem_singleton] at hy
      rw [hy]
      exact fx
  · rintro H ⟨_, r, xs, h1, h2, h3⟩
    exact hd H xs (R.trans r) r.kp h1 h2 h3
end LC

namespace LC
open PySem L2
theorem Th.lstmut {C g : Addr} {H : Hp} {D : Addr} {v : V} {xs ys : List V} (h : H D = some (.lst xs)) (t : Th C g H v) : Th C g (upd H D (.lst ys)) v := by
  cases t with
  | non => exact .non
  | bl b => exact .bl b
  | int i => exact .int i
  | str z h => exact .str z h
  | @lst a xs' h' n =>
    by_cases e : a = D
    · subst e
      exact .lst upd_same n
    · exact .lst (by rw [upd_ne e]; exact h') n
  | tup h' n => exact .tup (by rw [upd_ne (ne_of h' h (by intro z; cases z))]; exact h') n
  | dK h' n => exact .dK (by rw [upd_ne (ne_of h' h (by intro z; cases z))]; exact h') n
  | exo h' n hd nd => exact .exo (by rw [upd_ne (ne_of h' h (by intro z; cases z))]; exact h') n (by rw [upd_ne (ne_of hd h (by intro z; cases z))]; exact hd) nd
end LC

namespace LC
open PySem L2
theorem Th.dKmut {C g : Addr} {H : Hp} {D : Addr} {v : V} {xs ys : List (Key × V)} (h : H D = some (.dK xs)) (t : Th C g H v) : Th C g (upd H D (.dK ys)) v := by
  cases t with
  | non => exact .non
  | bl b => exact .bl b
  | int i => exact .int i
  | str z h => exact .str z h
  | @dK a xs' h' n =>
    by_cases e : a = D
    · subst e
      exact .dK upd_same n
    · exact .dK (by rw [upd_ne e]; exact h') n
  | tup h' n => exact .tup (by rw [upd_ne (ne_of h' h (by intro z; cases z))]; exact h') n
  | lst h' n => exact .lst (by rw [upd_ne (ne_of h' h (by intro z; cases z))]; exact h') n
  | exo h' n hd nd => exact .exo (by rw [upd_ne (ne_of h' h (by intro z; cases z))]; exact h') n (by rw [upd_ne (ne_of hd h (by intro z; cases z))]; exact hd) nd
theorem Th.upd {C g l : Addr} {H0 H : Hp} {p : Addr} {o : HO} {v : V} (a : Ok g l H0 H) (h : H p = none) (t : Th C g H v) : Th C g (L2.upd H p o) v := t.kp (upd_kp a h)
theorem Th.dict {C g l : Addr} {H0 H : Hp} {p : Addr} {xs : List (Key × V)} (a : Ok g l H0 H) (h : H p = none) : Th C g (L2.upd H p (.dK xs)) (.ref p) := .dK upd_same (a.bag.ne h).1
end LC

namespace LC
open PySem L2
/-- a dict stands at p -/
def Dd (g : Addr) (H : Hp) (p : Addr) : Prop := p ≠ g ∧ ∃ kvs, H p = some (.dK kvs)
theorem Dd.new {g : Addr} {H : Hp} {p q : Addr} {o : HO} (d : Dd g H p) (h : H q = none) : Dd g (L2.upd H q o) p := by
  obtain ⟨n, kvs, e⟩ := d
  exact ⟨n, kvs, by rw [upd_ne (ne_of_none e h)]; exact e⟩
theorem Dd.dict {g : Addr} {H : Hp} {p q : Addr} {kvs : List (Key × V)} (d : Dd g H p) : Dd g (L2.upd H q (.dK kvs)) p := by
  obtain ⟨n, ks, e⟩ := d
  by_cases h : p = q
  · subst h
    exact ⟨n, kvs, upd_same⟩
  · exact ⟨n, ks, by rw [upd_ne h]; exact e⟩
theorem Dd.mk' {g l : Addr} {H0 H : Hp} {p : Addr} {kvs : List (Key × V)} (a : Ok g l H0 H) (h : H p = none) : Dd g (L2.upd H p (.dK kvs)) p := ⟨(a.bag.ne h).1, kvs, upd_same⟩
theorem Dd.th {C g : Addr} {H : Hp} {p : Addr} (d : Dd g H p) : Th C g H (.ref p) := by
  obtain ⟨n, kvs, e⟩ := d
  exact .dK e n
end LC
namespace LC
open PySem L2
theorem strs_of (z : Str) : ∀ xs : List V, (∀ x ∈ xs, ∃ c ∈ z.cps.toList, x = V.str ⟨#[c]⟩) → ∃ ys : List Str, xs = ys.map V.str ∧ (∀ y ∈ ys, y.length = 1) ∧ ys.length = xs.length
  | [], _ => ⟨[], rfl, (fun y hy => by cases hy), rfl⟩
  | x :: r, h => by
    obtain ⟨ys, e, h1, h2⟩ := strs_of z r fun y hy => h y (List.mem_cons_of_mem _ hy)
    obtain ⟨c, _, rfl⟩ := h x (List.mem_cons_self ..)
    refine ⟨⟨#[c]⟩ :: ys, by rw [e]; rfl, fun y hy => ?_, by rw [List.length_cons, h2]; rfl⟩
    rcases List.mem_cons.mp hy with rfl | hy
    · rfl
    · exact h1 y hy
theorem sum_ones : ∀ ys : List Str, (∀ y ∈ ys, y.length = 1) → (ys.map (·.length)).sum = ys.length
  | [], _ => rfl
  | y :: r, h => by
    have e := sum_ones r fun z hz => h z (List.mem_cons_of_mem _ hz)
    show (y.length :: r.map (·.length)).sum = r.length + 1
    rw [List.sum_cons, e, h y (List.mem_cons_self ..)]
    omega
theorem cutS_le (z : Str) (lo hi : Option Int) : (cutS z lo hi).length ≤ z.length := by
  show (cutS z lo hi).cps.size ≤ z.cps.size
  unfold cutS
  rw [List.size_toArray, List.length_take, List.length_drop, Array.length_toList]
  omega
end LC

namespace LC
open PySem L2
theorem kp_of {g : Addr} {H1 H2 : Hp} {a : Addr} {o : HO} (ha : H1 a = none) (k : ∀ b u, b ≠ a → L2.upd H1 a o b = some u → H2 b = some u) : Kp g H1 H2 := fun b u _ e => k b u (ne_of_none e ha) (by rw [upd_ne (ne_of_none e ha)]; exact e)
theorem log_small {i : Int} (h0 : -1000000 ≤ i) (h1 : i ≤ 1000000) : i.natAbs.log2 < 1920 := Nat.lt_trans (PySem.Flt.log2_lt_of (k := 20) (by decide) (Nat.lt_of_le_of_lt (show i.natAbs ≤ 1000000 by omega) (by decide))) (by decide)
end LC

namespace LC
theorem ite_same {c : Prop} [Decidable c] {A B C : Prop} (h : C) (h1 : C → A) (h2 : C → B) : if c then A else B := by
  by_cases q : c
  · rw [if_pos q]
    exact h1 h
  · rw [if_neg q]
    exact h2 h
theorem ite_nbeq {b : Bool} {A B : Prop} (h : B) : if (!(b == b)) = true then A else B := by
  rw [beq_self_eq_true]
  exact L2.iteF h
end LC

namespace LC
open PySem L2
theorem kit_sub {K : PySem.W.Frag} {C : Addr} {T : String} {b : Bool} (m : PySem.W.kitMeta T = true) (h : PySem.W.subIn K (.ref C) (.type T) = some b) : PySem.W.kitOne K (.ref C) (.type T) = some b := by
  have e : ((Value.ref C : Value) == Value.type T) = false := rfl
  unfold PySem.W.kitOne
  rw [e, if_neg Bool.false_ne_true]
  show (if PySem.W.kitMeta T = true then PySem.W.subIn K (.ref C) (.type T) else none) = some b
  rw [m, if_pos rfl]
  exact h
theorem cls_some {K : PySem.W.Frag} {C : Addr} {nm q : Str} {N : Addr} {bs bm : List Value} {sn : List Str} {sub : List Value} {ab : Bool} {col : Option Bool} {dd : Option Addr} {k0 k1 k2 k3 k5 : Option Value} {nw : String} (h : K.lookup C = some (excClassObj nm q C N bs bm true sn sub ab col dd k0 k1 k2 k3 k5 nw)) : (PySem.W.clsIn K C).isSome = true := by
  unfold PySem.W.clsIn
  rw [h] <;> rfl
theorem refs_ve (S : Addr) : PySem.HandSPX.refsVE [.ref S, .type "ValueError", .type "Exception", .type "BaseException", .type "object"] = true := by
  show PySem.HandSPX.refsVE [.type "ValueError", .type "Exception", .type "BaseException", .type "object"] = true
  decide +kernel
end LC


namespace k01
open PySem L2 LC
def top (i : Nat) : Stmt := PySem.Challenge.pw_surelet_k01_words_judged.main.body.getD i (.Pass ⟨0, 0, 0, 0⟩)
abbrev sis_whole : Stmt := top 6
abbrev Nmis_whole : List Str := ["value"]
abbrev Pis_whole : List Str := ["value"]
theorem scis_whole : FnScope Nmis_whole Pis_whole (defScope sis_whole) := ⟨rfl, rfl, rfl, by decide +kernel, rfl, by decide +kernel, by decide +kernel⟩
abbrev sis_number : Stmt := top 7
abbrev Nmis_number : List Str := ["value", "least", "most"]
abbrev Pis_number : List Str := ["value", "least", "most"]
theorem scis_number : FnScope Nmis_number Pis_number (defScope sis_number) := ⟨rfl, rfl, rfl, by decide +kernel, rfl, by decide +kernel, by decide +kernel⟩
abbrev sis_name : Stmt := top 8
abbrev Nmis_name : List Str := ["value", "sign"]
abbrev Pis_name : List Str := ["value"]
theorem scis_name : FnScope Nmis_name Pis_name (defScope sis_name) := ⟨rfl, rfl, rfl, by decide +kernel, rfl, by decide +kernel, by decide +kernel⟩
abbrev sbag : Stmt := top 10
abbrev Nmbag : List Str := ["_law_script", "_law_seed", "_law_item"]
abbrev Pbag : List Str := ["_law_script"]
theorem scbag : FnScope Nmbag Pbag (defScope sbag) := ⟨rfl, rfl, rfl, by decide +kernel, rfl, by decide +kernel, by decide +kernel⟩
abbrev sdraw : Stmt := top 11
abbrev Nmdraw : List Str := ["_law_bag_here", "_law_limit", "_law_item", "_law_digit"]
abbrev Pdraw : List Str := ["_law_bag_here", "_law_limit"]
theorem scdraw : FnScope Nmdraw Pdraw (defScope sdraw) := ⟨rfl, rfl, rfl, by decide +kernel, rfl, by decide +kernel, by decide +kernel⟩
abbrev sof : Stmt := top 12
abbrev Nmof : List Str := ["_law_bag_here", "_law_things"]
abbrev Pof : List Str := ["_law_bag_here", "_law_things"]
theorem scof : FnScope Nmof Pof (defScope sof) := ⟨rfl, rfl, rfl, by decide +kernel, rfl, by decide +kernel, by decide +kernel⟩
abbrev sodd : Stmt := top 13
abbrev Nmodd : List Str := ["_law_bag_here", "_law_pick", "_law_k"]
abbrev Podd : List Str := ["_law_bag_here"]
theorem scodd : FnScope Nmodd Podd (defScope sodd) := ⟨rfl, rfl, rfl, by decide +kernel, rfl, by decide +kernel, by decide +kernel⟩
abbrev ssigns : Stmt := top 14
abbrev Nmsigns : List Str := []
abbrev Psigns : List Str := []
theorem scsigns : FnScope Nmsigns Psigns (defScope ssigns) := ⟨rfl, rfl, rfl, by decide +kernel, rfl, by decide +kernel, by decide +kernel⟩
abbrev sword : Stmt := top 15
abbrev Nmword : List Str := ["_law_bag_here", "_law_letters", "_law_tail", "_law_size", "_law_word_here", "_law_pick", "_law_at", "_law_k"]
abbrev Pword : List Str := ["_law_bag_here"]
theorem scword : FnScope Nmword Pword (defScope sword) := ⟨rfl, rfl, rfl, by decide +kernel, rfl, by decide +kernel, by decide +kernel⟩
abbrev svalue : Stmt := top 16
abbrev Nmvalue : List Str := ["_law_bag_here", "_law_pick"]
abbrev Pvalue : List Str := ["_law_bag_here"]
theorem scvalue : FnScope Nmvalue Pvalue (defScope svalue) := ⟨rfl, rfl, rfl, by decide +kernel, rfl, by decide +kernel, by decide +kernel⟩
abbrev snamed : Stmt := top 17
abbrev Nmnamed : List Str := ["_law_thing", "_law_letters", "_law_digits", "_law_sign", "_law_one", "_law_two"]
abbrev Pnamed : List Str := ["_law_thing"]
theorem scnamed : FnScope Nmnamed Pnamed (defScope snamed) := ⟨rfl, rfl, rfl, by decide +kernel, rfl, by decide +kernel, by decide +kernel⟩
abbrev snear : Stmt := top 18
abbrev Nmnear : List Str := ["_law_bag_here", "_law_low", "_law_high", "_law_pick"]
abbrev Pnear : List Str := ["_law_bag_here", "_law_low", "_law_high"]
theorem scnear : FnScope Nmnear Pnear (defScope snear) := ⟨rfl, rfl, rfl, by decide +kernel, rfl, by decide +kernel, by decide +kernel⟩
abbrev snumbered : Stmt := top 19
abbrev Nmnumbered : List Str := ["_law_thing", "_law_low", "_law_high"]
abbrev Pnumbered : List Str := ["_law_thing", "_law_low", "_law_high"]
theorem scnumbered : FnScope Nmnumbered Pnumbered (defScope snumbered) := ⟨rfl, rfl, rfl, by decide +kernel, rfl, by decide +kernel, by decide +kernel⟩
abbrev sbounds : Stmt := top 20
abbrev Nmbounds : List Str := ["_law_bag_here", "_law_pick", "_law_wide", "_law_low", "_law_high"]
abbrev Pbounds : List Str := ["_law_bag_here"]
theorem scbounds : FnScope Nmbounds Pbounds (defScope sbounds) := ⟨rfl, rfl, rfl, by decide +kernel, rfl, by decide +kernel, by decide +kernel⟩
abbrev sis : Stmt := top 21
abbrev Nmis : List Str := ["_law_told", "_law_due"]
abbrev Pis : List Str := ["_law_told", "_law_due"]
theorem scis : FnScope Nmis Pis (defScope sis) := ⟨rfl, rfl, rfl, by decide +kernel, rfl, by decide +kernel, by decide +kernel⟩
abbrev slaw : Stmt := top 22
abbrev Nmlaw : List Str := ["_law_script", "_law_bag_here", "_law_asked", "_law_k", "_law_low", "_law_high", "_law_thing", "_law_due", "_law_told", "_law_word_here"]
abbrev Plaw : List Str := ["_law_script"]
theorem sclaw : FnScope Nmlaw Plaw (defScope slaw) := ⟨rfl, rfl, rfl, by decide +kernel, rfl, by decide +kernel, by decide +kernel⟩
structure Txt (K : PySem.W.Frag) (mg : Str → Option Value) : Prop where
  n_abs : mg "abs" = none
  n_all : mg "all" = none
  n_bool : mg "bool" = none
  n_int : mg "int" = none
  n_isinstance : mg "isinstance" = none
  n_len : mg "len" = none
  n_list : mg "list" = none
  n_max : mg "max" = none
  n_min : mg "min" = none
  n_ord : mg "ord" = none
  n_range : mg "range" = none
  n_str : mg "str" = none
  n_tuple : mg "tuple" = none
  n_zip : mg "zip" = none
  c_DIGITS : ∃ t, mg "DIGITS" = some (.str "0123456789" t)
  c_LETTERS : ∃ t, mg "LETTERS" = some (.str "abcdefghijklmnopqrstuvwxyz" t)

abbrev sinit : Stmt := inClass (top 2) 0
theorem scinit : FnScope ["self", "value"] ["self", "value"] (defScope sinit) := ⟨rfl, rfl, rfl, by decide +kernel, rfl, by decide +kernel, by decide +kernel⟩
structure Err (K : PySem.W.Frag) (mg : Str → Option Value) (C fI : Addr) (fdI : FuncData) : Prop where
  ox : OexC K C
  iC : PySem.W.findIn K (.ref C) "__init__" = some (some (.ref fI))
  tI : PySem.W.typeIn K (.ref fI) = some (.type "function")
  gC : mg "InvalidNumber" = some (.ref C)
  nb : NoB K C
  F : Fun K "__init__" "InvalidNumber.__init__" sinit fI fdI
  b : Binds K fdI ["self", "value"] []
  nV : PySem.W.findIn K (.ref C) "value" = some none
  nC : PySem.W.findIn K (.ref C) "code" = some none
def spinit (C : Addr) : Sp := fun vs H Q _ => ∃ (a : Addr) (v : V), vs = [.ref a, v] ∧ H a = some (exo a C none) ∧ ∀ (d : Addr) (fs : List (Str × V)) (H' : Hp), H d = none → H' a = some (exo a C (some d)) → H' d = some (exd d fs) → (∀ b o, b ≠ a → H b = some o → H' b = some o) → (∀ b, b ≠ d → H b = none → H' b = none) → Q .non H'
theorem ok_init {P : Program} {w : World} {K : PySem.W.Frag} {mg : Str → Option Value} {base : Heap} {C fI : Addr} {fdI : FuncData} (E : Err K mg C fI fdI) : FnOk P w K mg base CX0 1 fI fdI ["self", "value"] (spinit C) := by
  refine E.F.ok scinit (fun vs H Q E h => ?_) (fun cdv A outer s H vs Q _ hr h => ?_)
  · obtain ⟨a, v, rfl, _⟩ := h
    rfl
  · obtain ⟨a, v, rfl, ha, k⟩ := h
    refine ⟨_, pss_cons (ps_ost (pv 0) (pv 1)) (pss_one (ps_ost (pv 0) pe_str)), ?_⟩
    refine ⟨_, rfl, _, rfl, a, C, rfl, E.ox, E.nV, .inl ⟨ha, fun d hd da => ?_⟩⟩
    refine ⟨_, rfl, a, C, rfl, E.ox, E.nC, .inr ⟨d, _, upd_same, by rw [upd_ne da]; exact upd_same, (by show 1 ≤ 900; decide), ?_⟩⟩
    refine k d _ _ hd (by rw [upd_ne (Ne.symm da)]; exact upd_same) upd_same (fun b o hb e => ?_) (fun b hb e => ?_)
    · rw [upd_ne (ne_of_none e hd), upd_ne hb, upd_ne (ne_of_none e hd)]
      exact e
    · have nba : b ≠ a := fun z => by
        rw [z, ha] at e
        cases e
      rw [upd_ne hb, upd_ne nba, upd_ne hb]
      exact e
/-- a new error's making, beside the bag -/
theorem made_err {C g l : Addr} {H0 H1 H2 : Hp} {a d : Addr} {fs : List (Str × V)} (r : Ok g l H0 H1) (ha : H1 a = none) (hd : upd H1 a (exo a C none) d = none) (e1 : H2 a = some (exo a C (some d))) (e2 : H2 d = some (exd d fs))
    (k : ∀ b o, b ≠ a → upd H1 a (exo a C none) b = some o → H2 b = some o) : Ok g l H0 H2 ∧ Th C g H2 (.ref a) := by
  have da : d ≠ a := fun z => by
    rw [z, upd_same] at hd
    cases hd
  rw [upd_ne da] at hd
  have kk : ∀ b o, H1 b = some o → H2 b = some o := fun b o e => k b o (ne_of_none e ha) (by rw [upd_ne (ne_of_none e ha)]; exact e)
  refine ⟨⟨r.b0, fun b o n e => kk b o (r.kp b o n e), ?_⟩, .exo e1 (r.bag.ne ha).1 e2 (r.bag.ne hd).1⟩
  obtain ⟨ns, i, dd, s, c, h1, h2, h3, h4⟩ := r.bag
  exact ⟨ns, i, dd, s, c, kk _ _ h1, h2, kk _ _ h3, h4⟩

end k01
namespace k01
open PySem L2 LC
def isWh : V → Bool
  | .int _ => true
  | _ => false
def spis_whole (C : Addr) : Sp := fun vs H Q _ => ∃ (g : Addr) (v : V), vs = [v] ∧ Th C g H v ∧ Q (.bl (isWh v)) H
theorem ok_is_whole {P : Program} {w : World} {K : PySem.W.Frag} {mg : Str → Option Value} {base : Heap} {f : Addr} {fd : FuncData} (D : Def K mg "is_whole" sis_whole Pis_whole f fd) (T : Txt K mg) {C : Addr} (NB : NoB K C) :
    FnOk P w K mg base CX0 1 f fd Pis_whole (spis_whole C) := by
  refine D.F.ok scis_whole (fun vs H Q E h => ?_) (fun cdv A outer s H vs Q E hr h => ?_)
  · obtain ⟨g, v, rfl, t, k⟩ := h
    rfl
  · obtain ⟨g, v, rfl, t, k⟩ := h
    refine ⟨_, (pss_one (ps_ret (pe_and (pe_callB call_isX (by rfl) T.n_isinstance (by decide +kernel) (pa_cons (pv 0) (pa_cons (pe_ty "int" (by rfl) T.n_int (by decide +kernel)) pa_nil))) (pe_one (pe_not (pe_callB call_isX (by rfl) T.n_isinstance (by decide +kernel) (pa_cons (pv 0) (pa_cons (pe_ty "bool" (by rfl) T.n_bool (by decide +kernel)) pa_nil)))))))), ?_⟩
    refine ⟨_, rfl, (isi_th NB t).1 ⟨_, rfl, ?_⟩⟩
    cases t with
    | int i => exact ⟨_, rfl, (isi_th (g := g) NB (.int i)).2.1 ⟨_, rfl, k⟩⟩
    | bl b => exact ⟨_, rfl, (isi_th (g := g) NB (.bl b)).2.1 ⟨_, rfl, k⟩⟩
    | non => exact k
    | str z h => exact k
    | lst h n => exact k
    | tup h n => exact k
    | dK h n => exact k
    | exo h n hd nd => exact k
end k01
namespace k01
open PySem L2 LC
def spis_number (C : Addr) : Sp := fun vs H Q _ => ∃ (g : Addr) (v : V) (lo hi : Int), vs = [v, .int lo, .int hi] ∧ Th C g H v ∧ Q (.bl (isNum v lo hi)) H
theorem ok_is_number {P : Program} {w : World} {K : PySem.W.Frag} {mg : Str → Option Value} {base : Heap} {f : Addr} {fd : FuncData} (D : Def K mg "is_number" sis_number Pis_number f fd) (T : Txt K mg) {C : Addr} (NB : NoB K C) {fis_whole : Addr} {fdis_whole : FuncData} (Dis_whole : Def K mg "is_whole" sis_whole Pis_whole fis_whole fdis_whole) (Gis_whole : FnOk P w K mg base CX0 1 fis_whole fdis_whole Pis_whole (spis_whole C)) :
    FnOk P w K mg base CX0 2 f fd Pis_number (spis_number C) := by
  refine D.F.ok scis_number (fun vs H Q E h => ?_) (fun cdv A outer s H vs Q E hr h => ?_)
  · obtain ⟨g, v, lo, hi, rfl, t, k⟩ := h
    rfl
  · obtain ⟨g, v, lo, hi, rfl, t, k⟩ := h
    have hris_whole : Room 1 _ := hr.mono (by decide)
    refine ⟨_, (pss_one (ps_ret (pe_and (pe_call Gis_whole hris_whole rfl Dis_whole.g Dis_whole.F.kp Dis_whole.b .nil pass0 (pa_cons (pv 0) pa_nil)) (pe_one (pe_chain op_le op_le (pv 1) (pv 0) (pv 2)))))), ?_⟩
    refine ⟨_, rfl, g, v, rfl, t, _, rfl, ?_⟩
    cases t with
    | int i =>
      refine iteT ⟨_, rfl, _, rfl, _, _, rfl, rfl, _, rfl, ?_⟩
      refine ite_d (fun h1 => ?_) (fun h1 => ?_)
      · refine ⟨_, rfl, _, _, rfl, rfl, ?_⟩
        have e : isNum (.int i) lo hi = (decide (lo ≤ i) && decide (i ≤ hi)) := rfl
        rw [e, decide_eq_true h1, Bool.true_and] at k
        exact k
      · have e : isNum (.int i) lo hi = (decide (lo ≤ i) && decide (i ≤ hi)) := rfl
        rw [e, decide_eq_false h1, Bool.false_and] at k
        exact k
    | bl b => exact iteF k
    | non => exact iteF k
    | str z h => exact iteF k
    | lst h n => exact iteF k
    | tup h n => exact iteF k
    | dK h n => exact iteF k
    | exo h n hd nd => exact iteF k
def kg_is_number__value_most_least {α : Type} (us ws : List α) : List α := match us, ws with | [], [a0, a1, a2] => [a0, a2, a1] | _, _ => []
theorem KB_is_number__value_most_least {K : PySem.W.Frag} {f : Addr} {fd : FuncData} (F : Fun K "is_number" "is_number" sis_number f fd) : KBinds K fd Pis_number ["value", "most", "least"] kg_is_number__value_most_least kg_is_number__value_most_least := by
  obtain ⟨oc, od, kV, doc, pm, an, cdv, ct, osl, rfl, lk, hcd⟩ := F.ex
  refine ⟨fun s us ws _ hl => ?_, fun {vs us zs ws} r1 r2 => ?_⟩
  · match us, ws, hl with
    | [], [a0, a1, a2], _ => exact .of_eq rfl
  · cases r1 with
    | cons _ _ => exact .nil
    | nil =>
      match zs, ws, r2 with
      | _, _, .cons r0 (.cons r1 (.cons r2 (.nil))) => exact .cons r0 (.cons r2 (.cons r1 (Paired.nil)))
      | _, _, .nil => exact .nil
      | _, _, .cons _ (.nil) => exact .nil
      | _, _, .cons _ (.cons _ (.nil)) => exact .nil
      | _, _, .cons _ (.cons _ (.cons _ (.cons _ _))) => exact .nil
end k01
namespace k01
open PySem L2 LC
def spis_name (C : Addr) : Sp := fun vs H Q _ => ∃ (g : Addr) (v : V), vs = [v] ∧ Th C g H v ∧ ∀ H', Same H H' → Q (.bl (isNam v)) H'
theorem ok_is_name {P : Program} {w : World} {K : PySem.W.Frag} {mg : Str → Option Value} {base : Heap} {f : Addr} {fd : FuncData} (D : Def K mg "is_name" sis_name Pis_name f fd) (T : Txt K mg) {C : Addr} (NB : NoB K C) :
    FnOk P w K mg base CX0 1 f fd Pis_name (spis_name C) := by
  refine D.F.ok scis_name (fun vs H Q E h => ?_) (fun cdv A outer s H vs Q E hr h => ?_)
  · obtain ⟨g, v, rfl, t, k⟩ := h
    rfl
  · obtain ⟨g, v, rfl, t, k⟩ := h
    obtain ⟨tc_DIGITS, hc_DIGITS⟩ := T.c_DIGITS
    obtain ⟨tc_LETTERS, hc_LETTERS⟩ := T.c_LETTERS
    refine ⟨_, (pss_cons (ps_if (PW.pt (pw_or (pt_not (pt_val (pe_callB call_isX (by rfl) T.n_isinstance (by decide +kernel) (pa_cons (pv 0) (pa_cons (pe_ty "str" (by rfl) T.n_str (by decide +kernel)) pa_nil))))) (pw_or1 (pt_not (pt_chain op_le op_le pe_int (pe_callB call_len_str (by rfl) T.n_len PySem.boot_len (pa_cons (pv 0) pa_nil)) pe_int))))) (pss_one (ps_ret pe_bl)) pss_nil)
        (pss_one (ps_ret (pe_and (pe_cmpR op_in_sign (pe_ix ix_str (pv 0) pe_int (fun _ _ => rfl)) (pe_gstr rfl hc_LETTERS) (by rfl)) (pe_one (pe_callB (cr_all rfl) (by rfl) T.n_all (by decide +kernel) (pa_cons (pe_lc (own := [("sign", 1)]) (g := gName 1) (tt := tYes) rfl scis_name.nd (pi_str (pv 0)) (blkOk_by (own := [("sign", 1)]) (N := Nmis_name) (sc := defScope sis_name) (by decide +kernel)) (fun _ _ _ _ _ => pg_name (i := 1) scis_name.nd rfl (Or.inl rfl)) (fun _ _ _ _ _ => pts_nil) (fun _ _ _ _ _ => (pe_or (pe_cmpR op_in_sign (pv 1) (pe_gstr rfl hc_LETTERS) (by rfl)) (pe_one (pe_cmpR op_in_sign (pv 1) (pe_gstr rfl hc_DIGITS) (by rfl)))))) pa_nil))))))), ?_⟩
    refine ⟨_, rfl, (isi_th NB t).2.2 ⟨_, rfl, ?_⟩⟩
    cases t with
    | non => exact k H (Same.refl H)
    | bl b => exact k H (Same.refl H)
    | int i => exact k H (Same.refl H)
    | lst h n => exact k H (Same.refl H)
    | tup h n => exact k H (Same.refl H)
    | dK h n => exact k H (Same.refl H)
    | exo h n hd nd => exact k H (Same.refl H)
    | str z hz =>
      refine iteF ?_
      refine ⟨_, rfl, _, rfl, sz_str hz, _, _, rfl, rfl, _, rfl, ?_⟩
      refine ite_d (fun h1 => ?_) (fun h1 => ?_)
      · refine ⟨_, _, rfl, rfl, _, rfl, ?_⟩
        refine ite_nd (fun h8 => ?_) (fun h8 => ?_)
        · have q := k H (Same.refl H)
          rw [isNam_str, decide_eq_false (show ¬ z.length ≤ 8 by omega), Bool.and_false, Bool.false_and, Bool.false_and] at q
          exact q
        · have h1' : 1 ≤ z.length := by omega
          obtain ⟨c0, hc0, e0⟩ := len1 h1'
          have e : isNam (.str z) = (chL c0 && z.cps.toList.all (fun c => chL c || chD c)) := by
            rw [isNam_str, decide_eq_true h1', decide_eq_true (show z.length ≤ 8 by omega), e0]
            rfl
          refine ⟨_, rfl, _, _, c0, rfl, rfl, sz_str hz, atI_nat (j := 0) hc0, _, _, rfl, rfl, _, rfl, ?_⟩
          refine ite_is (mem_low c0) (fun eL => ?_) (fun eL => ?_)
          · refine ⟨_, rfl, _, rfl, fun D hD => lc_text (fun c => .bl (chL c || chD c)) hD hz (fun _ => rfl) (fun c H Q hc q => ?_) ?_⟩
            · refine ⟨_, rfl, _, _, rfl, rfl, _, rfl, ?_⟩
              refine ite_is (mem_low c) (fun e1 => ?_) (fun e1 => ?_)
              · rw [e1, Bool.true_or] at q
                exact q
              · refine ⟨_, rfl, _, _, rfl, rfl, ?_⟩
                rw [e1, Bool.false_or] at q
                rw [mem_dig]
                exact q
            · refine ⟨D, z.cps.toList.map fun c => chL c || chD c, rfl, by rw [← bls_map]; exact SqL.of upd_same, ?_⟩
              rw [all_id]
              have q := k _ (same_new (o := .lst (z.cps.toList.map fun c => V.bl (chL c || chD c))) hD)
              rw [e, eL, Bool.true_and] at q
              exact q
          · have q := k H (Same.refl H)
            rw [e, eL, Bool.false_and] at q
            exact q
      · have q := k H (Same.refl H)
        rw [isNam_str, decide_eq_false (show ¬ 1 ≤ z.length by omega), Bool.false_and, Bool.false_and, Bool.false_and] at q
        refine ⟨_, rfl, ite_nb (fun _ => q) fun z => Bool.noConfusion z⟩
def kg_is_name__value {α : Type} (us ws : List α) : List α := match us, ws with | [], [a0] => [a0] | _, _ => []
theorem KB_is_name__value {K : PySem.W.Frag} {f : Addr} {fd : FuncData} (F : Fun K "is_name" "is_name" sis_name f fd) : KBinds K fd Pis_name ["value"] kg_is_name__value kg_is_name__value := by
  obtain ⟨oc, od, kV, doc, pm, an, cdv, ct, osl, rfl, lk, hcd⟩ := F.ex
  refine ⟨fun s us ws _ hl => ?_, fun {vs us zs ws} r1 r2 => ?_⟩
  · match us, ws, hl with
    | [], [a0], _ => exact .of_eq rfl
  · cases r1 with
    | cons _ _ => exact .nil
    | nil =>
      match zs, ws, r2 with
      | _, _, .cons r0 (.nil) => exact .cons r0 (Paired.nil)
      | _, _, .nil => exact .nil
      | _, _, .cons _ (.cons _ _) => exact .nil
end k01
namespace k01
open PySem L2 LC
def spbag (K : PySem.W.Frag) : Sp := fun vs H Q _ => ∃ (a : Addr) (ns : List Int), vs = [.ref a] ∧ SqL K H a (ns.map V.int) ∧ ns.length ≤ 63 ∧ ∀ g H', H g = none → Same H H' → (∃ l, Bag l H' g) → Q (.ref g) H'
theorem ok_bag {P : Program} {w : World} {K : PySem.W.Frag} {mg : Str → Option Value} {base : Heap} {f : Addr} {fd : FuncData} (D : Def K mg "_law_bag" sbag Pbag f fd) (T : Txt K mg) :
    FnOk P w K mg base CX0 1 f fd Pbag (spbag K) := by
  refine D.F.ok scbag (fun vs H Q E h => ?_) (fun cdv A outer s H vs Q E hr h => ?_)
  · obtain ⟨a, ns, rfl, hS, hl, k⟩ := h
    rfl
  · obtain ⟨a, ns, rfl, hS, hl, k⟩ := h
    refine ⟨_, (pss_cons (ps_set (i := 1) scbag.nd rfl (Or.inl rfl) pe_int)
        (pss_cons (ps_for PassesOwn.never rfl (pi_list (pe_slice sl_list (pv 0) po_none (po_some pe_int))) (pg_name (i := 2) scbag.nd rfl (Or.inl rfl))
          (pss_one (ps_set (i := 1) scbag.nd rfl (Or.inl rfl) (pe_op op_mod (pe_callTy call_int1 (by rfl) T.n_int (by decide +kernel) (pa_cons (pe_op op_add (pe_op op_add (pe_op op_mul (pv 1) pe_int) (pe_op op_mod (pe_callTy call_int1 (by rfl) T.n_int (by decide +kernel) (pa_cons (pv 2) pa_nil)) pe_int)) pe_int) pa_nil)) pe_int))))
        (pss_one (ps_ret (pe_lst (pa_cons (pe_callTy call_list_of (by rfl) T.n_list (by decide +kernel) (pa_cons (pe_slice sl_list (pv 0) po_none (po_some pe_int)) pa_nil)) (pa_cons pe_int (pa_cons pe_int (pa_cons (pv 1) (pa_cons pe_int pa_nil)))))))))), ?_⟩
    obtain ⟨ms, hms, hml⟩ := cut_ints ns none (some 63)
    refine ⟨_, rfl, _, rfl, a, _, rfl, hS, fun p hp => ?_⟩
    rw [hms]
    have s1 : Same H (upd H p (.lst (ms.map V.int))) := same_new hp
    refine ⟨p, rfl, ⟨_, SqL.of upd_same⟩, for_list (K := K) (a := p) (xs := ms.map V.int) (fun i σ H' => ∃ (s : Int) (v : Option V), σ = [some (.ref a), some (.int s), v] ∧ 0 ≤ s ∧ s < 2147483399 ∧ Same (upd H p (.lst (ms.map V.int))) H')
      ⟨13962, none, rfl, by decide, by decide, Same.refl _⟩ (fun i σ H' _ ⟨_, _, _, _, _, R⟩ => R.seq (SqL.of upd_same)) ?_ ?_⟩
    · rintro i y σ H' hi ⟨s, v, rfl, h1, h2, R⟩
      obtain ⟨u, rfl⟩ := int_of hi
      refine ⟨_, rfl, _, _, rfl, rfl, .inr ⟨by decide, by decide⟩, _, rfl, .inl ⟨_, rfl, _, _, rfl, rfl, (by show (0 : Int) < 2147483563; decide), _, _, rfl, rfl, _, _, rfl, rfl, .inl ⟨_, rfl, _, _, rfl, rfl, (by show (0 : Int) < 2147483399; decide), ?_⟩⟩⟩
      refine ⟨_, _, rfl, Int.emod_nonneg _ (by decide), Int.emod_lt_of_pos _ (by decide), R⟩
    · rintro σ H' ⟨s, v, rfl, h1, h2, R⟩
      refine ⟨_, rfl, _, rfl, a, _, rfl, (s1.trans R).seq hS, fun q hq => ?_⟩
      rw [hms]
      refine ⟨q, _, rfl, .inl (SqL.of upd_same), fun l hl' => ?_⟩
      refine ⟨_, rfl, (by show 5 ≤ sizeLine; decide), fun g hg => ?_⟩
      have r1 : Same H' (upd H' q (.lst (ms.map V.int))) := same_new hq
      have r2 := same_new (o := .lst (ms.map V.int)) hl'
      have r3 := same_new (o := .lst [V.ref l, V.int 0, V.int 0, V.int s, V.int 0]) hg
      refine k g _ (s1.free (R.free (r1.free (r2.free hg)))) (s1.trans (R.trans (r1.trans (r2.trans r3)))) ?_
      have ne : l ≠ g := fun e => by
        rw [← e, upd_same] at hg
        cases hg
      exact ⟨l, ms, 0, 0, s, 0, upd_same, ne, by rw [upd_ne ne]; exact upd_same, Int.le_refl _, Int.natCast_nonneg _, Int.le_refl _, h1, h2⟩
end k01
namespace k01
open PySem L2 LC
def spdraw : Sp := fun vs H Q _ => ∃ (g l : Addr) (n : Int), vs = [.ref g, .int n] ∧ Bag l H g ∧ 0 < n ∧ n < 1073741824 ∧ ∀ (d : Int) (H' : Hp), 0 ≤ d → d < n → Ok g l H H' → Q (.int d) H'
theorem ok_draw {P : Program} {w : World} {K : PySem.W.Frag} {mg : Str → Option Value} {base : Heap} {f : Addr} {fd : FuncData} (D : Def K mg "_law_draw" sdraw Pdraw f fd) (T : Txt K mg) :
    FnOk P w K mg base CX0 1 f fd Pdraw (spdraw) := by
  refine D.F.ok scdraw (fun vs H Q E h => ?_) (fun cdv A outer s H vs Q E hr h => ?_)
  · obtain ⟨g, l, n, rfl, B, n0, n1, k⟩ := h
    rfl
  · obtain ⟨g, l, n, rfl, B, n0, n1, k⟩ := h
    refine ⟨_, (pss_cons (ps_asg (pe_op op_add (pe_ix ix_list (pv 0) pe_int (fun _ _ => rfl)) pe_int) (pg_sub (pv 0) pe_int set_list))
        (Evl.pss_cut (ps_if (PW.pt (pw_and (pt_cmpR op_eq (pe_ix ix_list (pv 0) pe_int (fun _ _ => rfl)) pe_int (nomark _)) (pw_and1 (pt_cmpR op_lt (pe_ix ix_list (pv 0) pe_int (fun _ _ => rfl)) (pe_callB call_len (by rfl) T.n_len PySem.boot_len (pa_cons (pe_ix ix_list (pv 0) pe_int (fun _ _ => rfl)) pa_nil)) (nomark _))))) (pss_cons (ps_set (i := 2) scdraw.nd rfl (Or.inl rfl) (pe_ix ix_list (pe_ix ix_list (pv 0) pe_int (fun _ _ => rfl)) (pe_ix ix_list (pv 0) pe_int (fun _ _ => rfl)) (fun _ _ => rfl)))
        (pss_cons (ps_asg (pe_op op_add (pe_ix ix_list (pv 0) pe_int (fun _ _ => rfl)) pe_int) (pg_sub (pv 0) pe_int set_list))
        (pss_one (ps_if (pt_cmpR op_ge (pv 2) (pe_op op_pow pe_int pe_int) (nomark _)) (pss_one (ps_asg (pv 2) (pg_sub (pv 0) pe_int set_list))) (pss_one (ps_asg (pe_op op_mod (pe_callTy call_int1 (by rfl) T.n_int (by decide +kernel) (pa_cons (pe_op op_add (pe_op op_add (pe_op op_mul (pe_ix ix_list (pv 0) pe_int (fun _ _ => rfl)) pe_int) (pe_op op_mul (pe_op op_mod (pe_callTy call_int1 (by rfl) T.n_int (by decide +kernel) (pa_cons (pv 2) pa_nil)) pe_int) pe_int)) pe_int) pa_nil)) pe_int) (pg_sub (pv 0) pe_int set_list))))))) pss_nil)
        (pss_cons (ps_if (pt_cmpR op_gt (pe_ix ix_list (pv 0) pe_int (fun _ _ => rfl)) pe_int (nomark _)) (pss_cons (ps_set (i := 3) scdraw.nd rfl (Or.inl rfl) (pe_op op_modN (pe_callTy call_int1 (by rfl) T.n_int (by decide +kernel) (pa_cons (pe_ix ix_list (pv 0) pe_int (fun _ _ => rfl)) pa_nil)) (pv 1)))
        (pss_cons (ps_asg (pe_op op_fdivN (pe_ix ix_list (pv 0) pe_int (fun _ _ => rfl)) (pv 1)) (pg_sub (pv 0) pe_int set_list))
        (pss_one (ps_ret (pv 3))))) pss_nil)
        (pss_cons (ps_asg (pe_op op_mod (pe_callTy call_int1 (by rfl) T.n_int (by decide +kernel) (pa_cons (pe_op op_add (pe_op op_add (pe_op op_pow (pe_ix ix_list (pv 0) pe_int (fun _ _ => rfl)) pe_int) (pe_op op_mul (pe_ix ix_list (pv 0) pe_int (fun _ _ => rfl)) pe_int)) pe_int) pa_nil)) pe_int) (pg_sub (pv 0) pe_int set_list))
        (pss_one (ps_ret (pe_op op_modN (pe_callTy call_int1 (by rfl) T.n_int (by decide +kernel) (pa_cons (pe_op op_add (pe_op op_fdiv (pe_ix ix_list (pv 0) pe_int (fun _ _ => rfl)) pe_int) (pe_op op_mul (pe_op op_mod (pe_callTy call_int1 (by rfl) T.n_int (by decide +kernel) (pa_cons (pe_ix ix_list (pv 0) pe_int (fun _ _ => rfl)) pa_nil)) pe_int) pe_int)) pa_nil)) (pv 1)))))))), ?_⟩
    obtain ⟨ns, i, d, s, c, hg, lg, hl, i0, i1, d0, s0, s1⟩ := id B
    have up : ∀ (i' d' s' c' : Int) (H1 : Hp), Kp g H H1 → H1 l = some (.lst (ns.map V.int)) → Kp g H (upd H1 g (.lst [.ref l, .int i', .int d', .int s', .int c'])) ∧ upd H1 g (.lst [.ref l, .int i', .int d', .int s', .int c']) l = some (.lst (ns.map V.int)) :=
      fun i' d' s' c' H1 r q => ⟨r.bag, by rw [upd_ne lg]; exact q⟩
    -- b[4] = b[4] + 1
    refine ⟨_, rfl, _, _, _, _, rfl, rfl, SqL.of hg, rfl, _, _, rfl, rfl, _, rfl, g, _, _, 4, rfl, rfl, hg, rfl, ?_⟩
    obtain ⟨K1, L1⟩ := up i d s (c + 1) H (Kp.refl g H) hl
    -- the joined ways
    refine ⟨fun σ H' => ∃ (i' d' s' : Int) (v w : Option V), σ = [some (.ref g), some (.int n), v, w] ∧ H' g = some (.lst [.ref l, .int i', .int d', .int s', .int (c + 1)]) ∧ Kp g H H' ∧ H' l = some (.lst (ns.map V.int)) ∧ 0 ≤ i' ∧ i' ≤ ns.length ∧ 0 ≤ d' ∧ 0 ≤ s' ∧ s' < 2147483399, ?_, ?_⟩
    · refine ⟨_, rfl, _, _, _, _, rfl, rfl, SqL.of upd_same, rfl, rfl, _, rfl, ?_⟩
      refine ite_eq (fun e1 => ?_) (fun e1 => ?_)
      · refine ⟨_, rfl, _, _, _, _, rfl, rfl, SqL.of upd_same, rfl, _, rfl, _, _, _, _, rfl, rfl, SqL.of upd_same, rfl, _, _, rfl, .inl ⟨_, SqL.of L1, rfl⟩, _, _, rfl, rfl, _, rfl, ?_⟩
        refine ite_d (fun e2 => ?_) (fun e2 => ?_)
        · rw [List.length_map] at e2
          obtain ⟨j, rfl⟩ : ∃ j : Nat, i = (j : Int) := ⟨i.toNat, by omega⟩
          have hj : j < ns.length := by omega
          have hx : (ns.map V.int)[j]? = some (V.int ns[j]) := by rw [List.getElem?_map, List.getElem?_eq_getElem hj]; rfl
          -- item = b[0][b[1]]; b[1] = b[1] + 1
          refine ⟨_, rfl, _, _, _, _, rfl, rfl, SqL.of upd_same, rfl, _, rfl, _, _, _, _, rfl, rfl, SqL.of upd_same, rfl, _, _, _, _, rfl, rfl, SqL.of L1, atI_nat hx, ?_⟩
          refine ⟨_, rfl, _, _, _, _, rfl, rfl, SqL.of upd_same, rfl, _, _, rfl, rfl, _, rfl, g, _, _, 1, rfl, rfl, upd_same, rfl, ?_⟩
          obtain ⟨K2, L2⟩ := up ((j : Int) + 1) d s (c + 1) _ K1 L1
          refine ⟨_, rfl, _, _, rfl, rfl, ⟨by decide, by decide, by decide⟩, _, _, rfl, rfl, _, rfl, ?_⟩
          refine ite_d (fun e3 => ?_) (fun e3 => ?_)
          · refine ⟨_, rfl, _, rfl, g, _, _, 2, rfl, rfl, upd_same, rfl, ?_⟩
            obtain ⟨K3, L3⟩ := up ((j : Int) + 1) ns[j] s (c + 1) _ K2 L2
            exact ⟨_, _, _, _, _, rfl, upd_same, K3, L3, by omega, by omega, Int.le_trans (by decide) e3, s0, s1⟩
          · refine ⟨_, rfl, _, _, _, _, rfl, rfl, SqL.of upd_same, rfl, _, _, rfl, rfl, .inr ⟨by decide, by decide⟩, _, rfl, .inl ⟨_, rfl, _, _, rfl, rfl, (by show (0 : Int) < 2147483549; decide), _, _, rfl, rfl, .inr ⟨by decide, by decide⟩, _, _, rfl, rfl, _, _, rfl, rfl, .inl ⟨_, rfl, _, _, rfl, rfl, (by show (0 : Int) < 2147483399; decide), ?_⟩⟩⟩
            refine ⟨_, rfl, g, _, _, 3, rfl, rfl, upd_same, rfl, ?_⟩
            obtain ⟨K3, L3⟩ := up ((j : Int) + 1) d ((s * 69621 + ns[j] % 2147483549 * 30103 + 89) % 2147483399) (c + 1) _ K2 L2
            exact ⟨_, _, _, _, _, rfl, upd_same, K3, L3, by omega, by omega, d0, Int.emod_nonneg _ (by decide), Int.emod_lt_of_pos _ (by decide)⟩
        · exact ⟨_, _, _, _, _, rfl, upd_same, K1, L1, i0, i1, d0, s0, s1⟩
      · refine iteF ?_
        exact ⟨_, _, _, _, _, rfl, upd_same, K1, L1, i0, i1, d0, s0, s1⟩
    · rintro σ H' ⟨i', d', s', v, w, rfl, hg', K1, L1, i0, i1, d0, s0, s1⟩
      have bag : ∀ (d'' s'' : Int), 0 ≤ d'' → 0 ≤ s'' → s'' < 2147483399 → Bag l (upd H' g (.lst [.ref l, .int i', .int d'', .int s'', .int (c + 1)])) g := fun d'' s'' h1 h2 h3 =>
        ⟨ns, i', d'', s'', c + 1, upd_same, lg, by rw [upd_ne lg]; exact L1, i0, i1, h1, h2, h3⟩
      refine ⟨_, rfl, _, _, _, _, rfl, rfl, SqL.of hg', rfl, _, _, rfl, rfl, _, rfl, ?_⟩
      refine ite_d (fun e1 => ?_) (fun e1 => ?_)
      · refine ⟨_, rfl, _, _, _, _, rfl, rfl, SqL.of hg', rfl, .inl ⟨_, rfl, _, rfl, _, _, rfl, rfl, (by omega), ?_⟩⟩
        refine ⟨_, rfl, _, _, _, _, rfl, rfl, SqL.of hg', rfl, _, rfl, _, _, rfl, rfl, ⟨by omega, by omega⟩, _, rfl, g, _, _, 2, rfl, rfl, hg', rfl, _, rfl, ?_⟩
        refine k _ _ (fmod_nn _ n0) (fmod_lt _ n0) ⟨B, K1.bag, bag _ s' ?_ s0 s1⟩
        rw [Int.fdiv_eq_ediv_of_nonneg _ (Int.le_of_lt n0)]
        exact Int.ediv_nonneg d0 (Int.le_of_lt n0)
      · refine ⟨_, rfl, _, _, _, _, rfl, rfl, SqL.of hg', rfl, _, _, rfl, rfl, ⟨by decide, by decide, by omega⟩, _, rfl, _, _, _, _, rfl, rfl, SqL.of hg', rfl, _, _, rfl, rfl, .inr ⟨by decide, by decide⟩, _, _, rfl, rfl, _, _, rfl, rfl, .inl ⟨_, rfl, _, _, rfl, rfl, (by show (0 : Int) < 2147483399; decide), ?_⟩⟩
        refine ⟨_, rfl, g, _, _, 3, rfl, rfl, hg', rfl, ?_⟩
        refine ⟨_, rfl, _, _, _, _, rfl, rfl, SqL.of upd_same, rfl, _, _, rfl, rfl, ⟨by decide, by decide⟩, _, rfl, _, _, _, _, rfl, rfl, SqL.of upd_same, rfl, .inl ⟨_, rfl, _, _, rfl, rfl, (by show (0 : Int) < 7901; decide), _, _, rfl, rfl, .inr ⟨by decide, by decide⟩, _, _, rfl, rfl, .inl ⟨_, rfl, _, rfl, _, _, rfl, rfl, (by omega), ?_⟩⟩⟩
        exact k _ _ (fmod_nn _ n0) (fmod_lt _ n0) ⟨B, K1.bag, bag d' _ d0 (Int.emod_nonneg _ (by decide)) (Int.emod_lt_of_pos _ (by decide))⟩
end k01
namespace k01
open PySem L2 LC
inductive Src (K : PySem.W.Frag) (g : Addr) (H : Hp) : V → (V → Prop) → Prop where
  | lst {a : Addr} {xs : List V} (h : SqL K H a xs) (n : a ≠ g) (h0 : 0 < xs.length) (h1 : xs.length ≤ 1000000) : Src K g H (.ref a) fun x => x ∈ xs
  | tup {a : Addr} {xs : List V} (h : SqT K H a xs) (n : a ≠ g) (h0 : 0 < xs.length) (h1 : xs.length ≤ 1000000) : Src K g H (.ref a) fun x => x ∈ xs
  | str {z : Str} (h0 : 0 < z.length) (h1 : z.length ≤ 1000000) : Src K g H (.str z) fun x => ∃ c ∈ z.cps.toList, x = .str ⟨#[c]⟩
def spof (K : PySem.W.Frag) : Sp := fun vs H Q _ => ∃ (g l : Addr) (t : V) (F : V → Prop), vs = [.ref g, t] ∧ Bag l H g ∧ Src K g H t F ∧ ∀ x H', F x → Ok g l H H' → Q x H'
theorem ok_of {P : Program} {w : World} {K : PySem.W.Frag} {mg : Str → Option Value} {base : Heap} {f : Addr} {fd : FuncData} (D : Def K mg "_law_of" sof Pof f fd) (T : Txt K mg) {fdraw : Addr} {fddraw : FuncData} (Ddraw : Def K mg "_law_draw" sdraw Pdraw fdraw fddraw) (Gdraw : FnOk P w K mg base CX0 1 fdraw fddraw Pdraw (spdraw)) :
    FnOk P w K mg base CX0 2 f fd Pof (spof K) := by
  refine D.F.ok scof (fun vs H Q E h => ?_) (fun cdv A outer s H vs Q E hr h => ?_)
  · obtain ⟨g, l, t, F, rfl, B, S, k⟩ := h
    rfl
  · obtain ⟨g, l, t, F, rfl, B, S, k⟩ := h
    have hrdraw : Room 1 _ := hr.mono (by decide)
    refine ⟨_, (pss_one (ps_ret (pe_ix ix_seq (pv 1) (pe_call Gdraw hrdraw rfl Ddraw.g Ddraw.F.kp Ddraw.b .nil pass0 (pa_cons (pv 0) (pa_cons (pe_callB call_len (by rfl) T.n_len PySem.boot_len (pa_cons (pv 1) pa_nil)) pa_nil))) (fun _ _ => rfl)))), ?_⟩
    cases S with
    | @lst a xs h n h0 h1 =>
      refine ⟨_, rfl, _, rfl, _, rfl, _, _, rfl, .inl ⟨xs, h, rfl⟩, g, l, _, rfl, B, by omega, by omega, fun d H' d0 d1 r => ?_⟩
      obtain ⟨j, rfl⟩ : ∃ j : Nat, d = (j : Int) := ⟨d.toNat, by omega⟩
      have hj : j < xs.length := by omega
      exact .inl ⟨_, _, _, _, rfl, rfl, SqL.kp r.kp n h, atI_nat (List.getElem?_eq_getElem hj), k _ _ (List.getElem_mem hj) r⟩
    | @tup a xs h n h0 h1 =>
      refine ⟨_, rfl, _, rfl, _, rfl, _, _, rfl, .inr ⟨xs, h, rfl⟩, g, l, _, rfl, B, by omega, by omega, fun d H' d0 d1 r => ?_⟩
      obtain ⟨j, rfl⟩ : ∃ j : Nat, d = (j : Int) := ⟨d.toNat, by omega⟩
      have hj : j < xs.length := by omega
      exact .inr (.inl ⟨_, _, _, _, rfl, rfl, SqT.kp r.kp n h, atI_nat (List.getElem?_eq_getElem hj), k _ _ (List.getElem_mem hj) r⟩)
    | @str z h0 h1 =>
      have hz : z.length ≤ sizeLine := Nat.le_trans h1 (by decide)
      refine ⟨_, rfl, _, rfl, _, rfl, _, _, rfl, ⟨hz, rfl⟩, g, l, _, rfl, B, by omega, by omega, fun d H' d0 d1 r => ?_⟩
      obtain ⟨j, rfl⟩ : ∃ j : Nat, d = (j : Int) := ⟨d.toNat, by omega⟩
      have hj : j < z.cps.toList.length := by
        have e : z.cps.toList.length = z.length := rfl
        omega
      exact .inr (.inr ⟨_, _, _, rfl, rfl, hz, atI_nat (List.getElem?_eq_getElem hj), k _ _ ⟨_, List.getElem_mem hj, rfl⟩ r⟩)
/-- one of the things of a new list -/
theorem of_disp {K : PySem.W.Frag} {g l p : Addr} {H0 H : Hp} {xs : List V} {Q : VK} {E : XK} (R : Ok g l H0 H) (hp : H p = none) (h0 : 0 < xs.length) (h1 : xs.length ≤ 1000000) (k : ∀ x H', x ∈ xs → Kp g H H' → Ok g l H0 H' → Q x H') :
    spof K [.ref g, .ref p] (upd H p (.lst xs)) Q E := by
  refine ⟨g, l, .ref p, _, rfl, (R.new hp).bag, .lst (SqL.of upd_same) (R.bag.ne hp).1 h0 h1, fun x H' hx r => ?_⟩
  exact k x H' hx ((Ok.new (Ok.refl R.bag) hp).kp.trans r.kp) ((R.new hp).trans r)
end k01
namespace k01
open PySem L2 LC
def spodd (C : Addr) : Sp := fun vs H Q _ => ∃ (g l : Addr), vs = [.ref g] ∧ Bag l H g ∧ ∀ v H', Th C g H' v → Ok g l H H' → Q v H'
theorem ok_odd {P : Program} {w : World} {K : PySem.W.Frag} {mg : Str → Option Value} {base : Heap} {f : Addr} {fd : FuncData} (D : Def K mg "_law_odd" sodd Podd f fd) (T : Txt K mg) (C : Addr) {fdraw : Addr} {fddraw : FuncData} (Ddraw : Def K mg "_law_draw" sdraw Pdraw fdraw fddraw) (Gdraw : FnOk P w K mg base CX0 1 fdraw fddraw Pdraw (spdraw)) {fof : Addr} {fdof : FuncData} (Dof : Def K mg "_law_of" sof Pof fof fdof) (Gof : FnOk P w K mg base CX0 2 fof fdof Pof (spof K)) :
    FnOk P w K mg base CX0 3 f fd Podd (spodd C) := by
  refine D.F.ok scodd (fun vs H Q E h => ?_) (fun cdv A outer s H vs Q E hr h => ?_)
  · obtain ⟨g, l, rfl, B, k⟩ := h
    rfl
  · obtain ⟨g, l, rfl, B, k⟩ := h
    have hrdraw : Room 1 _ := hr.mono (by decide)
    have hrof : Room 2 _ := hr.mono (by decide)
    refine ⟨_, (pss_cons (ps_set (i := 1) scodd.nd rfl (Or.inl rfl) (pe_call Gdraw hrdraw rfl Ddraw.g Ddraw.F.kp Ddraw.b .nil pass0 (pa_cons (pv 0) (pa_cons pe_int pa_nil))))
        (pss_cons (ps_if (pt_cmpR op_eq (pv 1) pe_int (nomark _)) (pss_one (ps_ret (pe_call Gof hrof rfl Dof.g Dof.F.kp Dof.b .nil pass0 (pa_cons (pv 0) (pa_cons (pe_lst (pa_cons pe_non (pa_cons pe_bl (pa_cons pe_bl pa_nil)))) pa_nil))))) pss_nil)
        (pss_cons (ps_if (pt_cmpR op_eq (pv 1) pe_int (nomark _)) (pss_one (ps_ret (pe_call Gof hrof rfl Dof.g Dof.F.kp Dof.b .nil pass0 (pa_cons (pv 0) (pa_cons (pe_lst (pa_cons pe_int (pa_cons pe_int (pa_cons (pe_un un_neg pe_int) (pa_cons pe_int (pa_cons pe_int (pa_cons pe_int (pa_cons pe_int (pa_cons (pe_un un_neg pe_int) pa_nil))))))))) pa_nil))))) pss_nil)
        (pss_cons (ps_if (pt_cmpR op_eq (pv 1) pe_int (nomark _)) (pss_one (ps_ret (pe_call Gof hrof rfl Dof.g Dof.F.kp Dof.b .nil pass0 (pa_cons (pv 0) (pa_cons (pe_lst (pa_cons pe_str (pa_cons pe_str (pa_cons pe_str (pa_cons pe_str (pa_cons pe_str (pa_cons pe_str (pa_cons pe_str (pa_cons pe_str pa_nil))))))))) pa_nil))))) pss_nil)
        (pss_cons (ps_if (pt_cmpR op_eq (pv 1) pe_int (nomark _)) (pss_one (ps_ret (pe_callTy call_tuple_of (by rfl) T.n_tuple (by decide +kernel) (pa_cons (pe_lc (own := [("_law_k", 2)]) (g := gName 2) (tt := tYes) rfl scodd.nd (pi_range1 rfl T.n_range (pa_cons (pe_call Gdraw hrdraw rfl Ddraw.g Ddraw.F.kp Ddraw.b .nil pass0 (pa_cons (pv 0) (pa_cons pe_int pa_nil))) pa_nil)) (blkOk_by (own := [("_law_k", 2)]) (N := Nmodd) (sc := defScope sodd) (by decide +kernel)) (fun _ _ _ _ _ => pg_name (i := 2) scodd.nd rfl (Or.inl rfl)) (fun _ _ _ _ _ => pts_nil) (fun _ _ _ _ _ => (pe_call Gof hrof rfl Dof.g Dof.F.kp Dof.b .nil pass0 (pa_cons (pv 0) (pa_cons (pe_lst (pa_cons pe_int (pa_cons pe_str (pa_cons pe_non (pa_cons pe_bl (pa_cons pe_int pa_nil)))))) pa_nil))))) pa_nil)))) pss_nil)
        (pss_cons (ps_if (pt_cmpR op_eq (pv 1) pe_int (nomark _)) (pss_one (ps_ret (pe_lc (own := [("_law_k", 2)]) (g := gName 2) (tt := tYes) rfl scodd.nd (pi_range1 rfl T.n_range (pa_cons (pe_call Gdraw hrdraw rfl Ddraw.g Ddraw.F.kp Ddraw.b .nil pass0 (pa_cons (pv 0) (pa_cons pe_int pa_nil))) pa_nil)) (blkOk_by (own := [("_law_k", 2)]) (N := Nmodd) (sc := defScope sodd) (by decide +kernel)) (fun _ _ _ _ _ => pg_name (i := 2) scodd.nd rfl (Or.inl rfl)) (fun _ _ _ _ _ => pts_nil) (fun _ _ _ _ _ => (pe_call Gof hrof rfl Dof.g Dof.F.kp Dof.b .nil pass0 (pa_cons (pv 0) (pa_cons (pe_lst (pa_cons pe_int (pa_cons pe_str (pa_cons pe_non (pa_cons pe_bl (pa_cons (pe_tup (pa_cons pe_int (pa_cons pe_int pa_nil))) pa_nil)))))) pa_nil))))))) pss_nil)
        (pss_one (ps_ret (pe_call Gof hrof rfl Dof.g Dof.F.kp Dof.b .nil pass0 (pa_cons (pv 0) (pa_cons (pe_lst (pa_cons pe_dnewK (pa_cons (pe_disp (pps_cons pe_str pe_int pps_nil) (by rfl) (by rfl) (fun z => by cases z) (by decide)) (pa_cons (pe_disp (pps_cons pe_int (pe_lst (pa_cons pe_int pa_nil)) pps_nil) (by rfl) (by rfl) (fun z => by cases z) (by decide)) (pa_cons (pe_disp (pps_cons pe_str (pe_disp (pps_cons pe_str (pe_tup (pa_cons pe_int (pa_cons pe_non pa_nil))) pps_nil) (by rfl) (by rfl) (fun z => by cases z) (by decide)) pps_nil) (by rfl) (by rfl) (fun z => by cases z) (by decide)) pa_nil))))) pa_nil))))))))))), ?_⟩
    refine ⟨_, rfl, g, l, 6, rfl, B, by decide, by decide, fun d H1 d0 d1 r1 => ?_⟩
    refine ⟨_, rfl, rfl, _, rfl, ite_eq (fun _ => ?_) (fun _ => ?_)⟩
    · refine ⟨_, rfl, (by show 3 ≤ sizeLine; decide), fun p hp => of_disp (E := E0) r1 hp (by decide) (by decide) fun x H' hx _ r => k x H' ?_ r⟩
      simp only [List.mem_cons, List.not_mem_nil, or_false] at hx
      rcases hx with rfl | rfl | rfl
      all_goals constructor
    refine ⟨_, rfl, rfl, _, rfl, ite_eq (fun _ => ?_) (fun _ => ?_)⟩
    · refine ⟨_, rfl, _, rfl, _, rfl, (by show 8 ≤ sizeLine; decide), fun p hp => of_disp (E := E0) r1 hp (by show 0 < 8; decide) (by show 8 ≤ 1000000; decide) fun x H' hx _ r => k x H' ?_ r⟩
      simp only [List.mem_cons, List.not_mem_nil, or_false] at hx
      rcases hx with rfl | rfl | rfl | rfl | rfl | rfl | rfl | rfl
      all_goals exact .int _
    refine ⟨_, rfl, rfl, _, rfl, ite_eq (fun _ => ?_) (fun _ => ?_)⟩
    · refine ⟨_, rfl, (by show 8 ≤ sizeLine; decide), fun p hp => of_disp (E := E0) r1 hp (by show 0 < 8; decide) (by show 8 ≤ 1000000; decide) fun x H' hx _ r => k x H' ?_ r⟩
      simp only [List.mem_cons, List.not_mem_nil, or_false] at hx
      rcases hx with rfl | rfl | rfl | rfl | rfl | rfl | rfl | rfl
      all_goals exact .str _ (by decide +kernel)
    refine ⟨_, rfl, rfl, _, rfl, ite_eq (fun _ => ?_) (fun _ => ?_)⟩
    · refine ⟨_, rfl, g, l, 4, rfl, r1.bag, by decide, by decide, fun d2 H2 d20 d21 r2 => ⟨_, rfl, by omega, by omega, fun D hD => ?_⟩⟩
      refine lc_draws (fun H x => Th C g H x) (r1.trans r2) hD (by omega) (fun _ => rfl) (fun x H H' t r => t.kp r) (fun x H xs ys h t => t.lstmut h) (fun i H3 Q3 _ r q => ?_) ?_
      · refine ⟨_, rfl, (by show 5 ≤ sizeLine; decide), fun p hp => of_disp (E := E0) (Ok.refl r.bag) hp (by show 0 < 5; decide) (by show 5 ≤ 1000000; decide) fun x H' hx _ r' => q x H' ?_ r'⟩
        simp only [List.mem_cons, List.not_mem_nil, or_false] at hx
        rcases hx with rfl | rfl | rfl | rfl | rfl
        · exact .int _
        · exact .str _ (by decide +kernel)
        · exact .non
        · exact .bl _
        · exact .int _
      · intro H3 xs r _ h3 _ _
        exact ⟨D, xs, rfl, .inl ⟨SqL.of h3, fun t ht => k _ _ (Th.tupl r ht) (r.new ht)⟩⟩
    refine ⟨_, rfl, rfl, _, rfl, ite_eq (fun _ => ?_) (fun _ => ?_)⟩
    · refine ⟨_, rfl, g, l, 4, rfl, r1.bag, by decide, by decide, fun d2 H2 d20 d21 r2 => ⟨_, rfl, by omega, by omega, fun D hD => ?_⟩⟩
      refine lc_draws (fun H x => Th C g H x) (r1.trans r2) hD (by omega) (fun _ => rfl) (fun x H H' t r => t.kp r) (fun x H xs ys h t => t.lstmut h) (fun i H3 Q3 _ r q => ?_) ?_
      · refine ⟨_, rfl, (by show 2 ≤ sizeLine; decide), fun t ht => ⟨(by show 5 ≤ sizeLine; decide), fun p hp => ?_⟩⟩
        have r3 := (Ok.refl r.bag).new (o := .tup [.int 1, .int 2]) ht
        refine of_disp (E := E0) r3 hp (by show 0 < 5; decide) (by show 5 ≤ 1000000; decide) fun x H' hx kk r' => q x H' ?_ r'
        simp only [List.mem_cons, List.not_mem_nil, or_false] at hx
        rcases hx with rfl | rfl | rfl | rfl | rfl
        · exact .int _
        · exact .str _ (by decide +kernel)
        · exact .non
        · exact .bl _
        · exact (Th.tupl r ht).kp kk
      · intro H3 xs r _ h3 _ _
        exact k _ _ (.lst h3 (r.b0.ne ((r1.trans r2).free hD)).1) r
    -- the dicts
    refine ⟨_, rfl, fun d1 hd1 => ?_⟩
    have q1 := r1.new (o := .dK []) hd1
    intro p2 hp2
    have q2 := q1.new (o := .dK []) hp2
    refine ⟨upd_same, [(.inr "a", .int 1)], rfl, by show 1 ≤ 15; decide, ?_⟩
    have q2' := q2.mut (o := .dK (mergeK [] [(.inr "a", .int 1)])) (q1.free hp2)
    intro p3 hp3
    have q3 := q2'.new (o := .dK []) hp3
    refine ⟨(by show 1 ≤ sizeLine; decide), fun l3 hl3 => ?_⟩
    have n3 : p3 ≠ l3 := ne_of_none upd_same hl3
    have q3' := q3.new (o := .lst [.int 2]) hl3
    refine ⟨by rw [upd_ne n3]; exact upd_same, [(.inl 1, .ref l3)], rfl, by show 1 ≤ 15; decide, ?_⟩
    have q3'' := q3'.mut (o := .dK (mergeK [] [(.inl 1, .ref l3)])) (q2'.free hp3)
    intro p4 hp4
    have q4 := q3''.new (o := .dK []) hp4
    intro p5 hp5
    have q5 := q4.new (o := .dK []) hp5
    have n45 : p4 ≠ p5 := ne_of_none upd_same hp5
    refine ⟨(by show 2 ≤ sizeLine; decide), fun t5 ht5 => ?_⟩
    have q5' := q5.new (o := .tup [.int 1, .non]) ht5
    have n5 : p5 ≠ t5 := ne_of_none upd_same ht5
    have n4 : p4 ≠ t5 := ne_of_none (o := .dK []) (by rw [upd_ne n45]; exact upd_same) ht5
    refine ⟨by rw [upd_ne n5]; exact upd_same, [(.inr "b", .ref t5)], rfl, by show 1 ≤ 15; decide, ?_⟩
    have q5'' := q5'.mut (o := .dK (mergeK [] [(.inr "b", .ref t5)])) (q4.free hp5)
    refine ⟨by rw [upd_ne n45, upd_ne n4, upd_ne n45]; exact upd_same, [(.inr "a", .ref p5)], rfl, by show 1 ≤ 15; decide, ?_⟩
    have q6 := q5''.mut (o := .dK (mergeK [] [(.inr "a", .ref p5)])) (q3''.free hp4)
    have t1 := (((((((((Dd.mk' (kvs := []) r1 hd1).new (o := .dK []) hp2).dict (q := p2) (kvs := mergeK [] [(.inr "a", .int 1)])).new (o := .dK []) hp3).new (o := .lst [.int 2]) hl3).dict (q := p3) (kvs := mergeK [] [(.inl 1, .ref l3)])).new (o := .dK []) hp4).new (o := .dK []) hp5).new (o := .tup [.int 1, .non]) ht5)
    have t1 := (t1.dict (q := p5) (kvs := mergeK [] [(.inr "b", .ref t5)])).dict (q := p4) (kvs := mergeK [] [(.inr "a", .ref p5)])
    have t2 := (((((((Dd.mk' (kvs := []) q1 hp2).dict (q := p2) (kvs := mergeK [] [(.inr "a", .int 1)])).new (o := .dK []) hp3).new (o := .lst [.int 2]) hl3).dict (q := p3) (kvs := mergeK [] [(.inl 1, .ref l3)])).new (o := .dK []) hp4).new (o := .dK []) hp5).new (o := .tup [.int 1, .non]) ht5
    have t2 := (t2.dict (q := p5) (kvs := mergeK [] [(.inr "b", .ref t5)])).dict (q := p4) (kvs := mergeK [] [(.inr "a", .ref p5)])
    have t3 := (((((Dd.mk' (kvs := []) q2' hp3).new (o := .lst [.int 2]) hl3).dict (q := p3) (kvs := mergeK [] [(.inl 1, .ref l3)])).new (o := .dK []) hp4).new (o := .dK []) hp5).new (o := .tup [.int 1, .non]) ht5
    have t3 := (t3.dict (q := p5) (kvs := mergeK [] [(.inr "b", .ref t5)])).dict (q := p4) (kvs := mergeK [] [(.inr "a", .ref p5)])
    have t4 := (((((Dd.mk' (kvs := []) q3'' hp4).new (o := .dK []) hp5).new (o := .tup [.int 1, .non]) ht5).dict (q := p5) (kvs := mergeK [] [(.inr "b", .ref t5)])).dict (q := p4) (kvs := mergeK [] [(.inr "a", .ref p5)]))
    refine ⟨(by show 4 ≤ sizeLine; decide), fun p hp => of_disp (E := E0) q6 hp (by show 0 < 4; decide) (by show 4 ≤ 1000000; decide) fun x H' hx kk r' => k x H' ?_ r'⟩
    simp only [List.mem_cons, List.not_mem_nil, or_false] at hx
    rcases hx with rfl | rfl | rfl | rfl
    · exact (Dd.th t1).kp kk
    · exact (Dd.th t2).kp kk
    · exact (Dd.th t3).kp kk
    · exact (Dd.th t4).kp kk
end k01
namespace k01
open PySem L2 LC
def spsigns : Sp := fun vs H Q _ => vs = [] ∧ ∀ z : Str, 0 < z.length → z.length ≤ 1000 → Q (.str z) H
theorem ok_signs {P : Program} {w : World} {K : PySem.W.Frag} {mg : Str → Option Value} {base : Heap} {f : Addr} {fd : FuncData} (D : Def K mg "_law_signs" ssigns Psigns f fd) (T : Txt K mg) :
    FnOk P w K mg base CX0 1 f fd Psigns (spsigns) := by
  refine D.F.ok scsigns (fun vs H Q E h => ?_) (fun cdv A outer s H vs Q E hr h => ?_)
  · obtain ⟨rfl, k⟩ := h
    rfl
  · obtain ⟨rfl, k⟩ := h
    refine ⟨_, (pss_one (ps_ret pe_str)), ?_⟩
    exact k _ (by decide +kernel) (by decide +kernel)
end k01
namespace k01
open PySem L2 LC
def spword : Sp := fun vs H Q _ => ∃ (g l : Addr), vs = [.ref g] ∧ Bag l H g ∧ ∀ (z : Str) H', z.length ≤ 1000 → Ok g l H H' → Q (.str z) H'
theorem ok_word {P : Program} {w : World} {K : PySem.W.Frag} {mg : Str → Option Value} {base : Heap} {f : Addr} {fd : FuncData} (D : Def K mg "_law_word" sword Pword f fd) (T : Txt K mg) {fdraw : Addr} {fddraw : FuncData} (Ddraw : Def K mg "_law_draw" sdraw Pdraw fdraw fddraw) (Gdraw : FnOk P w K mg base CX0 1 fdraw fddraw Pdraw (spdraw)) {fof : Addr} {fdof : FuncData} (Dof : Def K mg "_law_of" sof Pof fof fdof) (Gof : FnOk P w K mg base CX0 2 fof fdof Pof (spof K)) {fsigns : Addr} {fdsigns : FuncData} (Dsigns : Def K mg "_law_signs" ssigns Psigns fsigns fdsigns) (Gsigns : FnOk P w K mg base CX0 1 fsigns fdsigns Psigns (spsigns)) :
    FnOk P w K mg base CX0 3 f fd Pword (spword) := by
  refine D.F.ok scword (fun vs H Q E h => ?_) (fun cdv A outer s H vs Q E hr h => ?_)
  · obtain ⟨g, l, rfl, B, k⟩ := h
    rfl
  · obtain ⟨g, l, rfl, B, k⟩ := h
    have hrdraw : Room 1 _ := hr.mono (by decide)
    have hrof : Room 2 _ := hr.mono (by decide)
    have hrsigns : Room 1 _ := hr.mono (by decide)
    refine ⟨_, (pss_cons (ps_asg (pe_tup (pa_cons pe_str (pa_cons pe_str pa_nil))) (pg_tup rfl (pgs_cons (pg_name (i := 1) scword.nd rfl (Or.inl rfl)) (pgs_cons (pg_name (i := 2) scword.nd rfl (Or.inr rfl)) pgs_nil))))
        (pss_cons (ps_set (i := 3) scword.nd rfl (Or.inl rfl) (pe_call Gof hrof rfl Dof.g Dof.F.kp Dof.b .nil pass0 (pa_cons (pv 0) (pa_cons (pe_lst (pa_cons pe_int (pa_cons pe_int (pa_cons pe_int (pa_cons pe_int (pa_cons pe_int (pa_cons pe_int (pa_cons pe_int (pa_cons pe_int (pa_cons pe_int (pa_cons pe_int pa_nil))))))))))) pa_nil))))
        (pss_cons (ps_set (i := 4) scword.nd rfl (Or.inl rfl) (pe_op op_add_str (pe_call Gof hrof rfl Dof.g Dof.F.kp Dof.b .nil pass0 (pa_cons (pv 0) (pa_cons (pv 1) pa_nil))) (pe_join pe_str (pe_lc (own := [("_law_k", 7)]) (g := gName 7) (tt := tYes) rfl scword.nd (pi_range1 rfl T.n_range (pa_cons (pe_op op_sub (pv 3) pe_int) pa_nil)) (blkOk_by (own := [("_law_k", 7)]) (N := Nmword) (sc := defScope sword) (by decide +kernel)) (fun _ _ _ _ _ => pg_name (i := 7) scword.nd rfl (Or.inl rfl)) (fun _ _ _ _ _ => pts_nil) (fun _ _ _ _ _ => (pe_call Gof hrof rfl Dof.g Dof.F.kp Dof.b .nil pass0 (pa_cons (pv 0) (pa_cons (pv 2) pa_nil))))))))
        (pss_cons (ps_set (i := 5) scword.nd rfl (Or.inl rfl) (pe_call Gdraw hrdraw rfl Ddraw.g Ddraw.F.kp Ddraw.b .nil pass0 (pa_cons (pv 0) (pa_cons pe_int pa_nil))))
        (pss_cons (ps_if (pt_cmpR op_eq (pv 5) pe_int (nomark _)) (pss_cons (ps_set (i := 6) scword.nd rfl (Or.inl rfl) (pe_call Gdraw hrdraw rfl Ddraw.g Ddraw.F.kp Ddraw.b .nil pass0 (pa_cons (pv 0) (pa_cons (pv 3) pa_nil))))
        (pss_one (ps_ret (pe_op op_add_str (pe_op op_add_str (pe_slice sl_str (pv 4) po_none (po_some (pv 6))) (pe_call Gof hrof rfl Dof.g Dof.F.kp Dof.b .nil pass0 (pa_cons (pv 0) (pa_cons (pe_call0 Gsigns hrsigns rfl Dsigns.g Dsigns.F.kp Dsigns.b .nil pass0) pa_nil)))) (pe_slice sl_str (pv 4) (po_some (pe_op op_add (pv 6) pe_int)) po_none))))) pss_nil)
        (pss_cons (ps_if (pt_cmpR op_eq (pv 5) pe_int (nomark _)) (pss_cons (ps_set (i := 6) scword.nd rfl (Or.inl rfl) (pe_call Gdraw hrdraw rfl Ddraw.g Ddraw.F.kp Ddraw.b .nil pass0 (pa_cons (pv 0) (pa_cons (pe_op op_add (pv 3) pe_int) pa_nil))))
        (pss_one (ps_ret (pe_op op_add_str (pe_op op_add_str (pe_slice sl_str (pv 4) po_none (po_some (pv 6))) (pe_call Gof hrof rfl Dof.g Dof.F.kp Dof.b .nil pass0 (pa_cons (pv 0) (pa_cons pe_str pa_nil)))) (pe_slice sl_str (pv 4) (po_some (pv 6)) po_none))))) pss_nil)
        (pss_one (ps_ret (pv 4))))))))), ?_⟩
    refine ⟨(by show 2 ≤ sizeLine; decide), fun p0 hp0 => ⟨p0, _, rfl, SqT.of upd_same, rfl, _, _, rfl, _, _, rfl, rfl, ?_⟩⟩
    have r0 := (Ok.refl B).new (o := .tup [.str "abcdefghijklmnopqrstuvwxyz", .str "abcdefghijklmnopqrstuvwxyz0123456789"]) hp0
    refine ⟨_, rfl, (by show 10 ≤ sizeLine; decide), fun p hp => of_disp (E := E0) r0 hp (by show 0 < 10; decide) (by show 10 ≤ 1000000; decide) fun x H1 hx _ r1 => ?_⟩
    obtain ⟨n, rfl, n1, n2⟩ : ∃ n : Int, x = .int n ∧ 1 ≤ n ∧ n ≤ 12 := by
      simp only [List.mem_cons, List.not_mem_nil, or_false] at hx
      rcases hx with rfl | rfl | rfl | rfl | rfl | rfl | rfl | rfl | rfl | rfl
      all_goals exact ⟨_, rfl, by decide, by decide⟩
    refine ⟨_, rfl, _, rfl, g, l, _, _, rfl, r1.bag, .str (by decide +kernel) (by decide +kernel), fun x H2 hx r2 => ?_⟩
    obtain ⟨c, _, rfl⟩ := hx
    refine ⟨⟨_, rfl⟩, _, rfl, _, _, rfl, rfl, _, rfl, by omega, by omega, fun D hD => ?_⟩
    refine lc_draws (fun H x => ∃ c ∈ ("abcdefghijklmnopqrstuvwxyz0123456789" : Str).cps.toList, x = V.str ⟨#[c]⟩) (r1.trans r2) hD (by omega) (fun _ => rfl) (fun x H H' t r => t) (fun x H xs ys h t => t) (fun i H3 Q3 _ r q => ?_) ?_
    · exact ⟨_, rfl, _, rfl, g, l, _, _, rfl, r.bag, .str (by decide +kernel) (by decide +kernel), fun x H' hx r' => q x H' hx r'⟩
    intro H3 xs r3 _ h3 hn hF
    obtain ⟨ys, rfl, y1, y2⟩ := strs_of _ xs hF
    have e0 : ("" : Str).length = 0 := by decide +kernel
    have ej := PySem.W.KT.join_ones ys y1
    have el : ys.length ≤ 11 := by omega
    refine ⟨"", D, ys, rfl, rfl, .inl (SqL.of h3), by rw [sum_ones ys y1, e0]; omega, ?_⟩
    have ez : ((⟨#[c]⟩ : Str) ++ Txt.join "" ys).length ≤ 12 := by
      rw [Str.length_append, ej]
      show 1 + ys.length ≤ 12
      omega
    refine ⟨_, _, rfl, rfl, by rw [← Str.length_append]; exact Nat.le_trans ez (by decide), ?_⟩
    obtain ⟨z, hz⟩ : ∃ z, z = (⟨#[c]⟩ : Str) ++ Txt.join "" ys := ⟨_, rfl⟩
    rw [← hz] at ez
    show tSeq _ _ _ _ _
    rw [← hz]
    have zs : z.length ≤ sizeLine := Nat.le_trans ez (by decide)
    refine ⟨_, rfl, g, l, 4, rfl, r3.bag, by decide, by decide, fun d H4 d0 d1 r4 => ?_⟩
    refine ⟨_, rfl, rfl, _, rfl, ite_eq (fun _ => ?_) (fun _ => ?_)⟩
    · refine ⟨_, rfl, _, rfl, g, l, _, rfl, r4.bag, by omega, by omega, fun a H5 a0 a1 r5 => ?_⟩
      refine ⟨_, rfl, _, rfl, _, rfl, _, rfl, zs, _, rfl, rfl, fun s s0 s1 => ?_⟩
      refine ⟨g, l, _, _, rfl, r5.bag, .str s0 (Nat.le_trans s1 (by decide)), fun x H6 hx r6 => ?_⟩
      obtain ⟨c2, _, rfl⟩ := hx
      have l1 := cutS_le z none (some a)
      have l2 := cutS_le z (some (a + 1)) none
      have l3 : (cutS z none (some a) ++ (⟨#[c2]⟩ : Str)).length = (cutS z none (some a)).length + 1 := Str.length_append _ _
      refine ⟨_, _, rfl, rfl, Nat.le_trans (show (cutS z none (some a)).length + 1 ≤ 1000 by omega) (by decide), ?_⟩
      refine ⟨_, rfl, _, rfl, _, _, rfl, rfl, _, rfl, _, rfl, zs, _, _, rfl, rfl, ?_, ?_⟩
      · rw [l3]
        exact Nat.le_trans (show _ ≤ 1000 by omega) (by decide)
      · refine k _ _ ?_ (r3.trans (r4.trans (r5.trans r6)))
        rw [Str.length_append, l3]
        omega
    refine ⟨_, rfl, rfl, _, rfl, ite_eq (fun _ => ?_) (fun _ => ?_)⟩
    · refine ⟨_, rfl, _, rfl, _, _, rfl, rfl, g, l, _, rfl, r4.bag, by omega, by omega, fun a H5 a0 a1 r5 => ?_⟩
      refine ⟨_, rfl, _, rfl, _, rfl, _, rfl, zs, _, rfl, ?_⟩
      refine ⟨g, l, _, _, rfl, r5.bag, .str (by decide +kernel) (by decide +kernel), fun x H6 hx r6 => ?_⟩
      obtain ⟨c2, _, rfl⟩ := hx
      have l1 := cutS_le z none (some a)
      have l2 := cutS_le z (some a) none
      have l3 : (cutS z none (some a) ++ (⟨#[c2]⟩ : Str)).length = (cutS z none (some a)).length + 1 := Str.length_append _ _
      refine ⟨_, _, rfl, rfl, Nat.le_trans (show (cutS z none (some a)).length + 1 ≤ 1000 by omega) (by decide), ?_⟩
      refine ⟨_, rfl, _, rfl, _, rfl, _, rfl, zs, _, _, rfl, rfl, ?_, ?_⟩
      · rw [l3]
        exact Nat.le_trans (show _ ≤ 1000 by omega) (by decide)
      · refine k _ _ ?_ (r3.trans (r4.trans (r5.trans r6)))
        rw [Str.length_append, l3]
        omega
    exact ⟨_, rfl, k _ _ (by omega) (r3.trans r4)⟩
end k01
namespace k01
open PySem L2 LC
def spvalue (C : Addr) : Sp := fun vs H Q _ => ∃ (g l : Addr), vs = [.ref g] ∧ Bag l H g ∧ ∀ v H', Th C g H' v → Ok g l H H' → Q v H'
theorem ok_value {P : Program} {w : World} {K : PySem.W.Frag} {mg : Str → Option Value} {base : Heap} {f : Addr} {fd : FuncData} (D : Def K mg "_law_value" svalue Pvalue f fd) (T : Txt K mg) {C fI : Addr} {fdI : FuncData} (ER : Err K mg C fI fdI) {fdraw : Addr} {fddraw : FuncData} (Ddraw : Def K mg "_law_draw" sdraw Pdraw fdraw fddraw) (Gdraw : FnOk P w K mg base CX0 1 fdraw fddraw Pdraw (spdraw)) {fof : Addr} {fdof : FuncData} (Dof : Def K mg "_law_of" sof Pof fof fdof) (Gof : FnOk P w K mg base CX0 2 fof fdof Pof (spof K)) {fodd : Addr} {fdodd : FuncData} (Dodd : Def K mg "_law_odd" sodd Podd fodd fdodd) (Godd : FnOk P w K mg base CX0 3 fodd fdodd Podd (spodd C)) {fword : Addr} {fdword : FuncData} (Dword : Def K mg "_law_word" sword Pword fword fdword) (Gword : FnOk P w K mg base CX0 3 fword fdword Pword (spword)) :
    FnOk P w K mg base CX0 4 f fd Pvalue (spvalue C) := by
  refine D.F.ok scvalue (fun vs H Q E h => ?_) (fun cdv A outer s H vs Q E hr h => ?_)
  · obtain ⟨g, l, rfl, B, k⟩ := h
    rfl
  · obtain ⟨g, l, rfl, B, k⟩ := h
    have hrdraw : Room 1 _ := hr.mono (by decide)
    have hrof : Room 2 _ := hr.mono (by decide)
    have hrodd : Room 3 _ := hr.mono (by decide)
    have hrword : Room 3 _ := hr.mono (by decide)
    have hrE : Room 2 _ := hr.mono (by decide)
    refine ⟨_, (pss_cons (ps_set (i := 1) scvalue.nd rfl (Or.inl rfl) (pe_call Gdraw hrdraw rfl Ddraw.g Ddraw.F.kp Ddraw.b .nil pass0 (pa_cons (pv 0) (pa_cons pe_int pa_nil))))
        (pss_cons (ps_if (pt_cmpR op_eq (pv 1) pe_int (nomark _)) (pss_one (ps_ret (pe_call Godd hrodd rfl Dodd.g Dodd.F.kp Dodd.b .nil pass0 (pa_cons (pv 0) pa_nil)))) pss_nil)
        (pss_cons (ps_if (pt_cmpR op_eq (pv 1) pe_int (nomark _)) (pss_one (ps_ret (pe_call Gof hrof rfl Dof.g Dof.F.kp Dof.b .nil pass0 (pa_cons (pv 0) (pa_cons (pe_lst (pa_cons (pe_lst (pa_cons pe_str pa_nil)) (pa_cons (pe_tup (pa_cons pe_str pa_nil)) (pa_cons pe_str (pa_cons pe_str (pa_cons pe_str (pa_cons pe_str (pa_cons (pe_disp (pps_cons pe_str pe_str pps_nil) (by rfl) (by rfl) (fun z => by cases z) (by decide)) (pa_cons (pe_oexV ER.ox ER.iC ER.tI (ok_init ER) hrE ER.b pass0 rfl ER.gC (pa_cons pe_str pa_nil)) pa_nil))))))))) pa_nil))))) pss_nil)
        (pss_one (ps_ret (pe_call Gword hrword rfl Dword.g Dword.F.kp Dword.b .nil pass0 (pa_cons (pv 0) pa_nil))))))), ?_⟩
    refine ⟨_, rfl, g, l, 8, rfl, B, by decide, by decide, fun d H1 d0 d1 r1 => ?_⟩
    refine ⟨_, rfl, rfl, _, rfl, ite_eq (fun _ => ?_) (fun _ => ?_)⟩
    · exact ⟨_, rfl, g, l, rfl, r1.bag, fun v H' t r => k v H' t (r1.trans r)⟩
    refine ⟨_, rfl, rfl, _, rfl, ite_eq (fun _ => ?_) (fun _ => ?_)⟩
    · refine ⟨_, rfl, (by show 1 ≤ sizeLine; decide), fun p1 hp1 => ⟨(by show 1 ≤ sizeLine; decide), fun p2 hp2 => ?_⟩⟩
      have q1 := r1.new (o := .lst [.str "a"]) hp1
      have q2 := q1.new (o := .tup [.str "a"]) hp2
      intro p3 hp3
      have q3 := q2.new (o := .dK []) hp3
      refine ⟨upd_same, [(.inr "a", .str "a")], rfl, by show 1 ≤ 15; decide, ?_⟩
      have q3' := q3.mut (o := .dK (mergeK [] [(.inr "a", .str "a")])) (q2.free hp3)
      refine ⟨by show 1 ≤ 1000; decide, fun a ha => ⟨a, .str "a", rfl, upd_same, fun d fs H2 hd e1 e2 kk _ => ⟨rfl, ?_⟩⟩⟩
      obtain ⟨q4, t4⟩ := made_err q3' ha hd e1 e2 kk
      have s4 : Kp g _ H2 := kp_of (g := g) ha kk
      refine ⟨(by show 8 ≤ sizeLine; decide), fun p hp => of_disp (E := E0) q4 hp (by show 0 < 8; decide) (by show 8 ≤ 1000000; decide) fun x H' hx kk r' => k x H' ?_ r'⟩
      have t1 : Th C g H2 (.ref p1) := ((((Th.list r1 hp1).upd q1 hp2).upd q2 hp3).dKmut (ys := mergeK [] [(.inr "a", .str "a")]) upd_same).kp s4
      have t2 : Th C g H2 (.ref p2) := (((Th.tupl q1 hp2).upd q2 hp3).dKmut (ys := mergeK [] [(.inr "a", .str "a")]) upd_same).kp s4
      have t3 : Th C g H2 (.ref p3) := (Dd.th ((Dd.mk' (kvs := []) q2 hp3).dict (q := p3) (kvs := mergeK [] [(.inr "a", .str "a")]))).kp s4
      simp only [List.mem_cons, List.not_mem_nil, or_false] at hx
      rcases hx with rfl | rfl | rfl | rfl | rfl | rfl | rfl | rfl
      · exact t1.kp kk
      · exact t2.kp kk
      · exact .str _ (by decide +kernel)
      · exact .str _ (by decide +kernel)
      · exact .str _ (by decide +kernel)
      · exact .str _ (by decide +kernel)
      · exact t3.kp kk
      · exact t4.kp kk
    exact ⟨_, rfl, g, l, rfl, r1.bag, fun z H' hz r => k _ _ (.str z (Nat.le_trans hz (by decide))) (r1.trans r)⟩
end k01
namespace k01
open PySem L2 LC
def spnamed (C : Addr) : Sp := fun vs H Q _ => ∃ (g : Addr) (v : V), vs = [v] ∧ Th C g H v ∧ ∀ H', Same H H' → Q (.bl (isNam v)) H'
theorem ok_named {P : Program} {w : World} {K : PySem.W.Frag} {mg : Str → Option Value} {base : Heap} {f : Addr} {fd : FuncData} (D : Def K mg "_law_named" snamed Pnamed f fd) (T : Txt K mg) {C : Addr} (NB : NoB K C) :
    FnOk P w K mg base CX0 1 f fd Pnamed (spnamed C) := by
  refine D.F.ok scnamed (fun vs H Q E h => ?_) (fun cdv A outer s H vs Q E hr h => ?_)
  · obtain ⟨g, v, rfl, t, k⟩ := h
    rfl
  · obtain ⟨g, v, rfl, t, k⟩ := h
    refine ⟨_, (pss_cons (ps_if (PW.pt (pw_or (pt_not (pt_val (pe_callB call_isX (by rfl) T.n_isinstance (by decide +kernel) (pa_cons (pv 0) (pa_cons (pe_ty "str" (by rfl) T.n_str (by decide +kernel)) pa_nil))))) (pw_or1 (pt_not (pt_chain op_le op_le pe_int (pe_callB call_len_str (by rfl) T.n_len PySem.boot_len (pa_cons (pv 0) pa_nil)) pe_int))))) (pss_one (ps_ret pe_bl)) pss_nil)
        (pss_cons (ps_setLc (i := 1) (own := [("_law_sign", 3)]) (g := gName 3) (tt := tYes) rfl scnamed.nd rfl rfl (sw_true rfl rfl rfl (by decide +kernel)) (pi_str (pv 0)) (blkOk_by (own := [("_law_sign", 3)]) (N := Nmnamed) (sc := defScope snamed) (by decide +kernel)) (fun _ _ _ _ _ => pg_name (i := 3) scnamed.nd rfl (Or.inl rfl)) (fun _ _ _ _ _ => pts_nil) (fun _ _ _ _ _ => (pe_chain op_le op_le (pe_callB call_ord (by rfl) T.n_ord (by decide +kernel) (pa_cons pe_str pa_nil)) (pe_callB call_ord (by rfl) T.n_ord (by decide +kernel) (pa_cons (pv 3) pa_nil)) (pe_callB call_ord (by rfl) T.n_ord (by decide +kernel) (pa_cons pe_str pa_nil)))))
        (pss_cons (ps_setLc (i := 2) (own := [("_law_sign", 3)]) (g := gName 3) (tt := tYes) rfl scnamed.nd rfl rfl (sw_true rfl rfl rfl (by decide +kernel)) (pi_str (pv 0)) (blkOk_by (own := [("_law_sign", 3)]) (N := Nmnamed) (sc := defScope snamed) (by decide +kernel)) (fun _ _ _ _ _ => pg_name (i := 3) scnamed.nd rfl (Or.inl rfl)) (fun _ _ _ _ _ => pts_nil) (fun _ _ _ _ _ => (pe_chain op_le op_le (pe_callB call_ord (by rfl) T.n_ord (by decide +kernel) (pa_cons pe_str pa_nil)) (pe_callB call_ord (by rfl) T.n_ord (by decide +kernel) (pa_cons (pv 3) pa_nil)) (pe_callB call_ord (by rfl) T.n_ord (by decide +kernel) (pa_cons pe_str pa_nil)))))
        (pss_one (ps_ret (pe_and (pe_ix ix_list (pv 1) pe_int (fun _ _ => rfl)) (pe_one (pe_callB (cr_all rfl) (by rfl) T.n_all (by decide +kernel) (pa_cons (pe_lc (own := [("_law_one", 4), ("_law_two", 5)]) (g := gTup _ 2 (gCons (gName 4) (gCons (gName 5) gNil))) (tt := tYes) rfl scnamed.nd (pi_zip (by rfl) T.n_zip (pa_cons (pv 1) (pa_cons (pv 2) pa_nil))) (blkOk_by (own := [("_law_one", 4), ("_law_two", 5)]) (N := Nmnamed) (sc := defScope snamed) (by decide +kernel)) (fun _ _ _ _ _ => by exact (pg_tup rfl (pgs_cons (pg_name (i := 4) scnamed.nd rfl (Or.inl rfl)) (pgs_cons (pg_name (i := 5) scnamed.nd rfl (Or.inl rfl)) pgs_nil)))) (fun _ _ _ _ _ => pts_nil) (fun _ _ _ _ _ => (pe_or (pv 4) (pe_one (pv 5))))) pa_nil))))))))), ?_⟩
    refine ⟨_, rfl, (isi_th NB t).2.2 ⟨_, rfl, ?_⟩⟩
    cases t with
    | non => exact k H (Same.refl H)
    | bl b => exact k H (Same.refl H)
    | int i => exact k H (Same.refl H)
    | lst h n => exact k H (Same.refl H)
    | tup h n => exact k H (Same.refl H)
    | dK h n => exact k H (Same.refl H)
    | exo h n hd nd => exact k H (Same.refl H)
    | str z hz =>
      refine iteF ?_
      refine ⟨_, rfl, _, rfl, sz_str hz, _, _, rfl, rfl, _, rfl, ?_⟩
      refine ite_d (fun h1 => ?_) (fun h1 => ?_)
      · refine ⟨_, _, rfl, rfl, _, rfl, ?_⟩
        refine ite_nd (fun h8 => ?_) (fun h8 => ?_)
        · have q := k H (Same.refl H)
          rw [isNam_str, decide_eq_false (show ¬ z.length ≤ 8 by omega), Bool.and_false, Bool.false_and, Bool.false_and] at q
          exact q
        · have h1' : 1 ≤ z.length := by omega
          obtain ⟨c0, hc0, e0⟩ := len1 h1'
          have e : isNam (.str z) = (chL c0 && z.cps.toList.all (fun c => chL c || chD c)) := by
            rw [isNam_str, decide_eq_true h1', decide_eq_true (show z.length ≤ 8 by omega), e0]
            rfl
          refine ⟨_, rfl, _, rfl, fun D1 hD1 => lc_text (fun c => .bl (chL c)) hD1 hz (fun _ => rfl) (fun c H Q hc q => ?_) ?_⟩
          · exact ord_in (by decide +kernel) (by decide +kernel) rfl rfl q
          · refine ⟨_, rfl, _, rfl, fun D2 hD2 => lc_text (fun c => .bl (chD c)) hD2 hz (fun _ => rfl) (fun c H Q hc q => ?_) ?_⟩
            · exact ord_in (by decide +kernel) (by decide +kernel) rfl rfl q
            · have n12 : D1 ≠ D2 := ne_of_none upd_same hD2
              have z0 : (z.cps.toList.map fun c => V.bl (chL c))[0]? = some (.bl (chL c0)) := by rw [List.getElem?_map, hc0]; rfl
              have s2 : Same H (upd (upd H D1 (.lst (z.cps.toList.map fun c => V.bl (chL c)))) D2 (.lst (z.cps.toList.map fun c => V.bl (chD c)))) := (same_new hD1).trans (same_new hD2)
              have hA : SqL K (upd (upd H D1 (.lst (z.cps.toList.map fun c => V.bl (chL c)))) D2 (.lst (z.cps.toList.map fun c => V.bl (chD c)))) D1 (z.cps.toList.map fun c => V.bl (chL c)) := SqL.of (by rw [upd_ne n12]; exact upd_same)
              have hB : SqL K (upd (upd H D1 (.lst (z.cps.toList.map fun c => V.bl (chL c)))) D2 (.lst (z.cps.toList.map fun c => V.bl (chD c)))) D2 (z.cps.toList.map fun c => V.bl (chD c)) := SqL.of upd_same
              refine ⟨_, rfl, _, _, _, _, rfl, rfl, hA, atI_nat (j := 0) z0, _, rfl, ?_⟩
              refine ite_b (fun eL => ?_) (fun eL => ?_)
              · refine ⟨_, rfl, _, rfl, D1, D2, _, _, rfl, hA, hB, fun D3 hD3 => ?_⟩
                have n13 : D1 ≠ D3 := fun z => by rw [← z, upd_ne n12, upd_same] at hD3; cases hD3
                have n23 : D2 ≠ D3 := fun z => by rw [← z, upd_same] at hD3; cases hD3
                refine lc_it (walk_zip (K := K) (xs := z.cps.toList.map fun c => V.bl (chL c)) (ys := z.cps.toList.map fun c => V.bl (chD c)) (n := z.cps.toList.length) (by rw [List.length_map, List.length_map, Nat.min_self])) (fun i H' => i ≤ z.cps.toList.length ∧ Same (upd (upd H D1 (.lst (z.cps.toList.map fun c => V.bl (chL c)))) D2 (.lst (z.cps.toList.map fun c => V.bl (chD c)))) H' ∧ H' D3 = some (.lst ((z.cps.toList.take i).map fun c => V.bl (chL c || chD c))))
                  ⟨Nat.zero_le _, same_new hD3, upd_same⟩ (fun i H' _ ⟨_, s, _⟩ => ⟨s.seq hA, s.seq hB⟩) ?_ ?_
                · rintro i x H1 H2 hi ⟨_, s, h3⟩ ⟨T, x1, x2, rfl, hT, rfl, e1, e2⟩
                  obtain ⟨c, hc⟩ : ∃ c, z.cps.toList[i]? = some c := ⟨_, List.getElem?_eq_getElem hi⟩
                  have e1' : (z.cps.toList.map fun c => V.bl (chL c))[i]? = some x1 := e1
                  have e2' : (z.cps.toList.map fun c => V.bl (chD c))[i]? = some x2 := e2
                  rw [List.getElem?_map, hc] at e1' e2'
                  cases e1'
                  cases e2'
                  have n3T : D3 ≠ T := ne_of_none h3 hT
                  refine ⟨T, _, rfl, SqT.of upd_same, rfl, _, _, rfl, _, _, rfl, rfl, rfl, _, rfl, _, rfl, ?_⟩
                  have fin : ∀ b : Bool, b = (chL c || chD c) → ∃ acc, upd H1 T (.tup [V.bl (chL c), V.bl (chD c)]) D3 = some (.lst acc) ∧ acc.length < sizeLine ∧ (i + 1 ≤ z.cps.toList.length ∧ Same (upd (upd H D1 (.lst (z.cps.toList.map fun c => V.bl (chL c)))) D2 (.lst (z.cps.toList.map fun c => V.bl (chD c)))) (upd (upd H1 T (.tup [V.bl (chL c), V.bl (chD c)])) D3 (.lst (acc ++ [V.bl b]))) ∧ upd (upd H1 T (.tup [V.bl (chL c), V.bl (chD c)])) D3 (.lst (acc ++ [V.bl b])) D3 = some (.lst ((z.cps.toList.take (i + 1)).map fun c => V.bl (chL c || chD c)))) := by
                    rintro b rfl
                    refine ⟨_, by rw [upd_ne n3T]; exact h3, ?_, hi, fun p o hp => ?_, ?_⟩
                    · rw [List.length_map, List.length_take]
                      have e1 : z.cps.toList.length = z.length := rfl
                      exact Nat.lt_of_le_of_lt (Nat.min_le_right _ _) (Nat.lt_of_le_of_lt (by rw [e1]; exact hz) (by decide : 1000000 < sizeLine))
                    · have q1 := s p o hp
                      have np3 : p ≠ D3 := fun z => by
                        rw [z] at hp
                        rw [hD3] at hp
                        cases hp
                      rw [upd_ne np3, upd_ne (ne_of_none q1 hT)]
                      exact q1
                    · rw [upd_same, List.take_add_one, hc, List.map_append]
                      rfl
                  refine ite_b (fun e1 => ?_) (fun e1 => ?_)
                  · exact fin true (by rw [e1, Bool.true_or])
                  · refine ⟨_, rfl, ?_⟩
                    exact fin _ (by rw [e1, Bool.false_or])
                · rintro H' ⟨_, s, h3⟩
                  rw [List.take_length] at h3
                  refine ⟨D3, z.cps.toList.map fun c => chL c || chD c, rfl, by rw [← bls_map]; exact SqL.of h3, ?_⟩
                  rw [all_id]
                  have q := k H' (s2.trans s)
                  rw [e, eL, Bool.true_and] at q
                  exact q
              · have q := k _ s2
                rw [e, eL, Bool.false_and] at q
                exact q
      · have q := k H (Same.refl H)
        rw [isNam_str, decide_eq_false (show ¬ 1 ≤ z.length by omega), Bool.false_and, Bool.false_and, Bool.false_and] at q
        refine ⟨_, rfl, ite_nb (fun _ => q) fun z => Bool.noConfusion z⟩
end k01
namespace k01
open PySem L2 LC
def spnear (C : Addr) : Sp := fun vs H Q _ => ∃ (g l : Addr) (lo hi : Int), vs = [.ref g, .int lo, .int hi] ∧ Bag l H g ∧ -1000000 ≤ lo ∧ lo ≤ 1000000 ∧ -1000000 ≤ hi ∧ hi ≤ 1000000 ∧ ∀ v H', Th C g H' v → Ok g l H H' → Q v H'
theorem ok_near {P : Program} {w : World} {K : PySem.W.Frag} {mg : Str → Option Value} {base : Heap} {f : Addr} {fd : FuncData} (D : Def K mg "_law_near" snear Pnear f fd) (T : Txt K mg) {C fI : Addr} {fdI : FuncData} (ER : Err K mg C fI fdI) {fdraw : Addr} {fddraw : FuncData} (Ddraw : Def K mg "_law_draw" sdraw Pdraw fdraw fddraw) (Gdraw : FnOk P w K mg base CX0 1 fdraw fddraw Pdraw (spdraw)) {fof : Addr} {fdof : FuncData} (Dof : Def K mg "_law_of" sof Pof fof fdof) (Gof : FnOk P w K mg base CX0 2 fof fdof Pof (spof K)) {fodd : Addr} {fdodd : FuncData} (Dodd : Def K mg "_law_odd" sodd Podd fodd fdodd) (Godd : FnOk P w K mg base CX0 3 fodd fdodd Podd (spodd C)) :
    FnOk P w K mg base CX0 4 f fd Pnear (spnear C) := by
  refine D.F.ok scnear (fun vs H Q E h => ?_) (fun cdv A outer s H vs Q E hr h => ?_)
  · obtain ⟨g, l, lo, hi, rfl, B, lo0, lo1, hi0, hi1, k⟩ := h
    rfl
  · obtain ⟨g, l, lo, hi, rfl, B, lo0, lo1, hi0, hi1, k⟩ := h
    have hrdraw : Room 1 _ := hr.mono (by decide)
    have hrof : Room 2 _ := hr.mono (by decide)
    have hrodd : Room 3 _ := hr.mono (by decide)
    have hrE : Room 2 _ := hr.mono (by decide)
    refine ⟨_, (pss_cons (ps_set (i := 3) scnear.nd rfl (Or.inl rfl) (pe_call Gdraw hrdraw rfl Ddraw.g Ddraw.F.kp Ddraw.b .nil pass0 (pa_cons (pv 0) (pa_cons pe_int pa_nil))))
        (pss_cons (ps_if (pt_cmpR op_eq (pv 3) pe_int (nomark _)) (pss_one (ps_ret (pe_call Godd hrodd rfl Dodd.g Dodd.F.kp Dodd.b .nil pass0 (pa_cons (pv 0) pa_nil)))) pss_nil)
        (pss_cons (ps_if (pt_cmpR op_eq (pv 3) pe_int (nomark _)) (pss_one (ps_ret (pe_call Gof hrof rfl Dof.g Dof.F.kp Dof.b .nil pass0 (pa_cons (pv 0) (pa_cons (pe_lst (pa_cons pe_bl (pa_cons pe_bl (pa_cons pe_non (pa_cons (pe_callTy call_str_int (by rfl) T.n_str (by decide +kernel) (pa_cons (pv 1) pa_nil)) (pa_cons (pe_tup (pa_cons (pv 1) pa_nil)) (pa_cons (pe_lst (pa_cons (pv 2) pa_nil)) (pa_cons (pe_oexV ER.ox ER.iC ER.tI (ok_init ER) hrE ER.b pass0 rfl ER.gC (pa_cons (pv 1) pa_nil)) pa_nil)))))))) pa_nil))))) pss_nil)
        (pss_cons (ps_if (pt_cmpR op_lt (pv 3) pe_int (nomark _)) (pss_one (ps_ret (pe_op op_sub (pe_op op_add (pe_call Gof hrof rfl Dof.g Dof.F.kp Dof.b .nil pass0 (pa_cons (pv 0) (pa_cons (pe_lst (pa_cons (pv 1) (pa_cons (pv 2) pa_nil))) pa_nil))) (pe_call Gdraw hrdraw rfl Ddraw.g Ddraw.F.kp Ddraw.b .nil pass0 (pa_cons (pv 0) (pa_cons pe_int pa_nil)))) pe_int))) pss_nil)
        (pss_cons (ps_if (pt_cmpR op_eq (pv 3) pe_int (nomark _)) (pss_one (ps_ret (pe_op op_mul (pe_call Gdraw hrdraw rfl Ddraw.g Ddraw.F.kp Ddraw.b .nil pass0 (pa_cons (pv 0) (pa_cons pe_int pa_nil))) (pe_call Gof hrof rfl Dof.g Dof.F.kp Dof.b .nil pass0 (pa_cons (pv 0) (pa_cons (pe_lst (pa_cons pe_int (pa_cons (pe_un un_neg pe_int) pa_nil))) pa_nil)))))) pss_nil)
        (pss_one (ps_ret (pe_op op_add (pe_callB (call_min2 rfl) (by rfl) T.n_min (by decide +kernel) (pa_cons (pv 1) (pa_cons (pv 2) pa_nil))) (pe_call Gdraw hrdraw rfl Ddraw.g Ddraw.F.kp Ddraw.b .nil pass0 (pa_cons (pv 0) (pa_cons (pe_op op_add (pe_callB call_abs (by rfl) T.n_abs (by decide +kernel) (pa_cons (pe_op op_sub (pv 2) (pv 1)) pa_nil)) pe_int) pa_nil))))))))))), ?_⟩
    refine ⟨_, rfl, g, l, 8, rfl, B, by decide, by decide, fun d H1 d0 d1 r1 => ?_⟩
    refine ⟨_, rfl, rfl, _, rfl, ite_eq (fun _ => ?_) (fun _ => ?_)⟩
    · exact ⟨_, rfl, g, l, rfl, r1.bag, fun v H' t r => k v H' t (r1.trans r)⟩
    refine ⟨_, rfl, rfl, _, rfl, ite_eq (fun _ => ?_) (fun _ => ?_)⟩
    · refine ⟨_, rfl, _, rfl, _, rfl, log_small lo0 lo1, _, rfl, (by show 1 ≤ sizeLine; decide), fun p1 hp1 => ⟨_, rfl, (by show 1 ≤ sizeLine; decide), fun p2 hp2 => ?_⟩⟩
      have q1 := r1.new (o := .tup [.int lo]) hp1
      have q2 := q1.new (o := .lst [.int hi]) hp2
      refine ⟨_, rfl, by show 1 ≤ 1000; decide, fun a ha => ⟨a, .int lo, rfl, upd_same, fun d fs H2 hd e1 e2 kk _ => ⟨rfl, ?_⟩⟩⟩
      obtain ⟨q4, t4⟩ := made_err q2 ha hd e1 e2 kk
      have s4 : Kp g _ H2 := kp_of (g := g) ha kk
      refine ⟨(by show 7 ≤ sizeLine; decide), fun p hp => of_disp (E := E0) q4 hp (by show 0 < 7; decide) (by show 7 ≤ 1000000; decide) fun x H' hx kk r' => k x H' ?_ r'⟩
      have t1 : Th C g H2 (.ref p1) := ((Th.tupl r1 hp1).upd q1 hp2).kp s4
      have t2 : Th C g H2 (.ref p2) := (Th.list q1 hp2).kp s4
      simp only [List.mem_cons, List.not_mem_nil, or_false] at hx
      rcases hx with rfl | rfl | rfl | rfl | rfl | rfl | rfl
      · exact .bl _
      · exact .bl _
      · exact .non
      · exact .str _ (Nat.le_trans (PyProof.Rows.int_text_len_1921 (log_small lo0 lo1)) (by decide))
      · exact t1.kp kk
      · exact t2.kp kk
      · exact t4.kp kk
    refine ⟨_, rfl, _, _, rfl, rfl, _, rfl, ite_d (fun _ => ?_) (fun _ => ?_)⟩
    · refine ⟨_, rfl, _, rfl, _, rfl, (by show 2 ≤ sizeLine; decide), fun p hp => of_disp (E := E0) r1 hp (by show 0 < 2; decide) (by show 2 ≤ 1000000; decide) fun x H2 hx _ r2 => ?_⟩
      obtain ⟨n, rfl⟩ : ∃ n : Int, x = .int n := by
        simp only [List.mem_cons, List.not_mem_nil, or_false] at hx
        rcases hx with rfl | rfl
        all_goals exact ⟨_, rfl⟩
      refine ⟨_, rfl, g, l, 3, rfl, r2.bag, by decide, by decide, fun e H3 e0 e1 r3 => ⟨_, _, rfl, rfl, _, _, rfl, rfl, k _ _ (.int _) (r2.trans r3)⟩⟩
    refine ⟨_, rfl, rfl, _, rfl, ite_eq (fun _ => ?_) (fun _ => ?_)⟩
    · refine ⟨_, rfl, g, l, _, rfl, r1.bag, by decide, by decide, fun e H2 e0 e1 r2 => ?_⟩
      refine ⟨_, rfl, _, rfl, (by show 2 ≤ sizeLine; decide), fun p hp => of_disp (E := E0) (r1.trans r2) hp (by show 0 < 2; decide) (by show 2 ≤ 1000000; decide) fun x H3 hx _ r3 => ?_⟩
      obtain ⟨n, rfl⟩ : ∃ n : Int, x = .int n := by
        simp only [List.mem_cons, List.not_mem_nil, or_false] at hx
        rcases hx with rfl | rfl
        all_goals exact ⟨_, rfl⟩
      exact ⟨_, _, rfl, rfl, .inl ⟨by omega, by omega⟩, k _ _ (.int _) r3⟩
    refine ⟨_, rfl, _, rfl, _, _, rfl, _, rfl, _, rfl, _, rfl, _, _, rfl, rfl, _, rfl, _, _, rfl, rfl, ?_⟩
    refine ⟨g, l, _, rfl, r1.bag, ?_, ?_, fun e H2 e0 e1 r2 => ⟨_, _, rfl, rfl, k _ _ (.int _) (r1.trans r2)⟩⟩
    · split <;> omega
    · split <;> omega
end k01
namespace k01
open PySem L2 LC
def spnumbered (C : Addr) : Sp := fun vs H Q _ => ∃ (g : Addr) (v : V) (lo hi : Int), vs = [v, .int lo, .int hi] ∧ Th C g H v ∧ Q (.bl (isNum v lo hi)) H
theorem ok_numbered {P : Program} {w : World} {K : PySem.W.Frag} {mg : Str → Option Value} {base : Heap} {f : Addr} {fd : FuncData} (D : Def K mg "_law_numbered" snumbered Pnumbered f fd) (T : Txt K mg) {C : Addr} (NB : NoB K C) :
    FnOk P w K mg base CX0 1 f fd Pnumbered (spnumbered C) := by
  refine D.F.ok scnumbered (fun vs H Q E h => ?_) (fun cdv A outer s H vs Q E hr h => ?_)
  · obtain ⟨g, v, lo, hi, rfl, t, k⟩ := h
    rfl
  · obtain ⟨g, v, lo, hi, rfl, t, k⟩ := h
    refine ⟨_, (pss_one (ps_ret (pe_and (pe_callB call_isX (by rfl) T.n_isinstance (by decide +kernel) (pa_cons (pv 0) (pa_cons (pe_ty "int" (by rfl) T.n_int (by decide +kernel)) pa_nil))) (pe_and (pe_not (pe_callB call_isX (by rfl) T.n_isinstance (by decide +kernel) (pa_cons (pv 0) (pa_cons (pe_ty "bool" (by rfl) T.n_bool (by decide +kernel)) pa_nil)))) (pe_and (pe_cmpR op_le (pv 1) (pv 0) (nomark _)) (pe_one (pe_cmpR op_le (pv 0) (pv 2) (nomark _)))))))), ?_⟩
    refine ⟨_, rfl, (isi_th NB t).1 ⟨_, rfl, ?_⟩⟩
    cases t with
    | int i =>
      refine ⟨_, rfl, (isi_th (g := g) NB (.int i)).2.1 ⟨_, rfl, ⟨_, rfl, ?_⟩⟩⟩
      refine ⟨_, rfl, _, rfl, _, _, rfl, rfl, _, rfl, ?_⟩
      refine ite_d (fun h1 => ?_) (fun h1 => ?_)
      · refine ⟨_, rfl, _, rfl, _, _, rfl, rfl, ?_⟩
        have e : isNum (.int i) lo hi = (decide (lo ≤ i) && decide (i ≤ hi)) := rfl
        rw [e, decide_eq_true h1, Bool.true_and] at k
        exact k
      · have e : isNum (.int i) lo hi = (decide (lo ≤ i) && decide (i ≤ hi)) := rfl
        rw [e, decide_eq_false h1, Bool.false_and] at k
        exact k
    | bl b =>
      refine ⟨_, rfl, (isi_th (g := g) NB (.bl b)).2.1 ?_⟩
      exact ⟨_, rfl, ⟨_, rfl, k⟩⟩
    | non => exact k
    | str z h => exact k
    | lst h n => exact k
    | tup h n => exact k
    | dK h n => exact k
    | exo h n hd nd => exact k
end k01
namespace k01
open PySem L2 LC
def spbounds : Sp := fun vs H Q _ => ∃ (g l : Addr), vs = [.ref g] ∧ Bag l H g ∧ ∀ (t : Addr) (a b : Int) H', H' t = some (.tup [.int a, .int b]) → t ≠ g → -1000000 ≤ a → a ≤ 1000000 → -1000000 ≤ b → b ≤ 1000000 → Ok g l H H' → Q (.ref t) H'
theorem ok_bounds {P : Program} {w : World} {K : PySem.W.Frag} {mg : Str → Option Value} {base : Heap} {f : Addr} {fd : FuncData} (D : Def K mg "_law_bounds" sbounds Pbounds f fd) (T : Txt K mg) {fdraw : Addr} {fddraw : FuncData} (Ddraw : Def K mg "_law_draw" sdraw Pdraw fdraw fddraw) (Gdraw : FnOk P w K mg base CX0 1 fdraw fddraw Pdraw (spdraw)) {fof : Addr} {fdof : FuncData} (Dof : Def K mg "_law_of" sof Pof fof fdof) (Gof : FnOk P w K mg base CX0 2 fof fdof Pof (spof K)) :
    FnOk P w K mg base CX0 3 f fd Pbounds (spbounds) := by
  refine D.F.ok scbounds (fun vs H Q E h => ?_) (fun cdv A outer s H vs Q E hr h => ?_)
  · obtain ⟨g, l, rfl, B, k⟩ := h
    rfl
  · obtain ⟨g, l, rfl, B, k⟩ := h
    have hrdraw : Room 1 _ := hr.mono (by decide)
    have hrof : Room 2 _ := hr.mono (by decide)
    refine ⟨_, (pss_cons (ps_set (i := 1) scbounds.nd rfl (Or.inl rfl) (pe_call Gdraw hrdraw rfl Ddraw.g Ddraw.F.kp Ddraw.b .nil pass0 (pa_cons (pv 0) (pa_cons pe_int pa_nil))))
        (pss_cons (ps_if (pt_cmpR op_eq (pv 1) pe_int (nomark _)) (pss_one (ps_ret (pe_call Gof hrof rfl Dof.g Dof.F.kp Dof.b .nil pass0 (pa_cons (pv 0) (pa_cons (pe_lst (pa_cons (pe_tup (pa_cons pe_int (pa_cons pe_int pa_nil))) (pa_cons (pe_tup (pa_cons pe_int (pa_cons pe_int pa_nil))) (pa_cons (pe_tup (pa_cons pe_int (pa_cons pe_int pa_nil))) (pa_cons (pe_tup (pa_cons pe_int (pa_cons pe_int pa_nil))) (pa_cons (pe_tup (pa_cons (pe_un un_neg pe_int) (pa_cons pe_int pa_nil))) pa_nil)))))) pa_nil))))) pss_nil)
        (pss_cons (ps_set (i := 2) scbounds.nd rfl (Or.inl rfl) (pe_call Gof hrof rfl Dof.g Dof.F.kp Dof.b .nil pass0 (pa_cons (pv 0) (pa_cons (pe_lst (pa_cons pe_int (pa_cons pe_int (pa_cons pe_int (pa_cons pe_int pa_nil))))) pa_nil))))
        (pss_cons (ps_par (i := 3) (j := 4) (by rfl) scbounds.nd rfl rfl (by decide) rfl rfl (pa_cons (pe_op op_sub (pe_call Gdraw hrdraw rfl Ddraw.g Ddraw.F.kp Ddraw.b .nil pass0 (pa_cons (pv 0) (pa_cons (pv 2) pa_nil))) (pe_op op_fdiv (pv 2) pe_int)) (pa_cons (pe_call Gdraw hrdraw rfl Ddraw.g Ddraw.F.kp Ddraw.b .nil pass0 (pa_cons (pv 0) (pa_cons (pv 2) pa_nil))) pa_nil)) (by rfl))
        (pss_one (ps_ret (pe_ifExp (pt_cmpR op_lt (pv 1) pe_int (nomark _)) (pe_tup (pa_cons (pv 3) (pa_cons (pv 4) pa_nil))) (pe_tup (pa_cons (pe_callB (call_min2 rfl) (by rfl) T.n_min (by decide +kernel) (pa_cons (pv 3) (pa_cons (pv 4) pa_nil))) (pa_cons (pe_callB (call_max2 rfl) (by rfl) T.n_max (by decide +kernel) (pa_cons (pv 3) (pa_cons (pv 4) pa_nil))) pa_nil)))))))))), ?_⟩
    refine ⟨_, rfl, g, l, 6, rfl, B, by decide, by decide, fun d H1 d0 d1 r1 => ?_⟩
    refine ⟨_, rfl, rfl, _, rfl, ite_eq (fun _ => ?_) (fun _ => ?_)⟩
    · refine ⟨_, rfl, (by show 2 ≤ sizeLine; decide), fun p1 hp1 => ⟨(by show 2 ≤ sizeLine; decide), fun p2 hp2 => ⟨(by show 2 ≤ sizeLine; decide), fun p3 hp3 => ⟨(by show 2 ≤ sizeLine; decide), fun p4 hp4 => ⟨_, rfl, (by show 2 ≤ sizeLine; decide), fun p5 hp5 => ?_⟩⟩⟩⟩⟩
      have q1 := r1.new (o := .tup [.int 0, .int 1]) hp1
      have q2 := q1.new (o := .tup [.int 1, .int 1]) hp2
      have q3 := q2.new (o := .tup [.int 1, .int 0]) hp3
      have q4 := q3.new (o := .tup [.int 0, .int 0]) hp4
      have q5 := q4.new (o := .tup [.int (-1), .int 1]) hp5
      refine ⟨(by show 5 ≤ sizeLine; decide), fun p hp => of_disp (E := E0) q5 hp (by show 0 < 5; decide) (by show 5 ≤ 1000000; decide) fun x H' hx kk r' => ?_⟩
      have go : ∀ (t : Addr) (a b : Int), t ≠ g → upd (upd (upd (upd (upd H1 p1 (.tup [.int 0, .int 1])) p2 (.tup [.int 1, .int 1])) p3 (.tup [.int 1, .int 0])) p4 (.tup [.int 0, .int 0])) p5 (.tup [.int (-1), .int 1]) t = some (.tup [.int a, .int b]) → -1000000 ≤ a → a ≤ 1000000 → -1000000 ≤ b → b ≤ 1000000 → Q (.ref t) H' :=
        fun t a b n e a0 a1 b0 b1 => k t a b H' (kk _ _ n e) n a0 a1 b0 b1 r'
      have n5 := (q4.bag.ne hp5).1
      have n4 := (q3.bag.ne hp4).1
      have n3 := (q2.bag.ne hp3).1
      have n2 := (q1.bag.ne hp2).1
      have n1 := (r1.bag.ne hp1).1
      simp only [List.mem_cons, List.not_mem_nil, or_false] at hx
      rcases hx with rfl | rfl | rfl | rfl | rfl
      · exact go p1 0 1 n1 (upd_kp q4 hp5 _ _ n1 (upd_kp q3 hp4 _ _ n1 (upd_kp q2 hp3 _ _ n1 (upd_kp q1 hp2 _ _ n1 upd_same)))) (by decide) (by decide) (by decide) (by decide)
      · exact go p2 1 1 n2 (upd_kp q4 hp5 _ _ n2 (upd_kp q3 hp4 _ _ n2 (upd_kp q2 hp3 _ _ n2 upd_same))) (by decide) (by decide) (by decide) (by decide)
      · exact go p3 1 0 n3 (upd_kp q4 hp5 _ _ n3 (upd_kp q3 hp4 _ _ n3 upd_same)) (by decide) (by decide) (by decide) (by decide)
      · exact go p4 0 0 n4 (upd_kp q4 hp5 _ _ n4 upd_same) (by decide) (by decide) (by decide) (by decide)
      · exact go p5 (-1) 1 n5 upd_same (by decide) (by decide) (by decide) (by decide)
    refine ⟨_, rfl, (by show 4 ≤ sizeLine; decide), fun p hp => of_disp (E := E0) r1 hp (by show 0 < 4; decide) (by show 4 ≤ 1000000; decide) fun x H2 hx _ r2 => ?_⟩
    obtain ⟨n, rfl, n1, n2⟩ : ∃ n : Int, x = .int n ∧ 3 ≤ n ∧ n ≤ 1000000 := by
      simp only [List.mem_cons, List.not_mem_nil, or_false] at hx
      rcases hx with rfl | rfl | rfl | rfl
      all_goals exact ⟨_, rfl, by decide, by decide⟩
    refine ⟨_, rfl, _, rfl, g, l, _, rfl, r2.bag, by omega, by omega, fun a H3 a0 a1 r3 => ?_⟩
    refine ⟨_, rfl, _, _, rfl, rfl, ⟨by decide, by decide⟩, _, _, rfl, rfl, _, rfl, _, rfl, g, l, _, rfl, r3.bag, by omega, by omega, fun b H4 b0 b1 r4 => ⟨_, _, rfl, ?_⟩⟩
    have d3 : 0 ≤ n / 3 ∧ n / 3 ≤ 1000000 := by omega
    have r := r2.trans (r3.trans r4)
    refine ⟨_, rfl, _, _, rfl, rfl, _, rfl, ite_d (fun _ => ?_) (fun _ => ?_)⟩
    · exact ⟨_, rfl, _, rfl, (by show 2 ≤ sizeLine; decide), fun t ht => k t _ _ _ upd_same (r.bag.ne ht).1 (by omega) (by omega) (by omega) (by omega) (r.new ht)⟩
    · refine ⟨_, rfl, _, rfl, _, _, rfl, _, rfl, _, rfl, _, _, rfl, (by show 2 ≤ sizeLine; decide), fun t ht => k t _ _ _ upd_same (r.bag.ne ht).1 ?_ ?_ ?_ ?_ (r.new ht)⟩
      all_goals (split <;> omega)
end k01
namespace k01
open PySem L2 LC
def spis : Sp := fun vs H Q _ => ∃ (a b : Bool), vs = [.bl a, .bl b] ∧ Q (.bl (a == b)) H
theorem ok_is {P : Program} {w : World} {K : PySem.W.Frag} {mg : Str → Option Value} {base : Heap} {f : Addr} {fd : FuncData} (D : Def K mg "_law_is" sis Pis f fd) (T : Txt K mg) :
    FnOk P w K mg base CX0 1 f fd Pis (spis) := by
  refine D.F.ok scis (fun vs H Q E h => ?_) (fun cdv A outer s H vs Q E hr h => ?_)
  · obtain ⟨a, b, rfl, k⟩ := h
    rfl
  · obtain ⟨a, b, rfl, k⟩ := h
    refine ⟨_, (pss_one (ps_ret (pe_and (pe_callB call_isi (by rfl) T.n_isinstance (by decide +kernel) (pa_cons (pv 0) (pa_cons (pe_ty "bool" (by rfl) T.n_bool (by decide +kernel)) pa_nil))) (pe_one (pe_cmpR op_eq (pv 0) (pv 1) (nomark _)))))), ?_⟩
    refine ⟨_, rfl, _, _, _, _, _, rfl, .ty _, .base (.bl a), kit_ty (show kitB "bool" "bool" = some true by decide +kernel), _, rfl, _, rfl, _, rfl, rfl, ?_⟩
    rw [dec_bl]
    exact k
end k01
namespace k01
open PySem L2 LC
/-- what is asked again: the value, its bounds, its answer -/
def Row (C g : Addr) (H : Hp) (t : Addr) : Prop := t ≠ g ∧ ∃ (x lo hi : V) (due : Bool), H t = some (.tup [x, lo, hi, .bl due]) ∧ Th C g H x ∧ ((lo = .non ∧ due = isNam x) ∨ ∃ a b : Int, lo = .int a ∧ hi = .int b ∧ due = isNum x a b)
theorem Row.kp {C g : Addr} {H H' : Hp} {t : Addr} (r : Kp g H H') (w : Row C g H t) : Row C g H' t := by
  obtain ⟨n, x, lo, hi, due, h, th, q⟩ := w
  exact ⟨n, x, lo, hi, due, r _ _ n h, th.kp r, q⟩
theorem Row.lstmut {C g : Addr} {H : Hp} {D t : Addr} {xs ys : List V} (h : H D = some (.lst xs)) (w : Row C g H t) : Row C g (upd H D (.lst ys)) t := by
  obtain ⟨n, x, lo, hi, due, h', th, q⟩ := w
  exact ⟨n, x, lo, hi, due, by rw [upd_ne (ne_of h' h (by intro z; cases z))]; exact h', th.lstmut h, q⟩
/-- the rows asked so far -/
def Asked (C g : Addr) (H : Hp) (p : Addr) (n : Nat) : Prop := p ≠ g ∧ ∃ ts : List Addr, H p = some (.lst (ts.map V.ref)) ∧ ts.length = n ∧ ∀ t ∈ ts, Row C g H t
theorem Asked.kp {C g : Addr} {H H' : Hp} {p : Addr} {n : Nat} (r : Kp g H H') (w : Asked C g H p n) : Asked C g H' p n := by
  obtain ⟨np, ts, h, l, q⟩ := w
  exact ⟨np, ts, r _ _ np h, l, fun t ht => (q t ht).kp r⟩
theorem Asked.add {C g t : Addr} {H : Hp} {p : Addr} {n : Nat} {xs : List V} (w : Asked C g H p n) (r : Row C g H t) (e : H p = some (.lst xs)) : xs.length = n ∧ Asked C g (upd H p (.lst (xs ++ [.ref t]))) p (n + 1) := by
  obtain ⟨np, ts, h, l, q⟩ := w
  rw [h] at e
  cases e
  refine ⟨by rw [List.length_map]; exact l, np, ts ++ [t], by rw [upd_same, List.map_append]; rfl, by rw [List.length_append, l]; rfl, fun u hu => ?_⟩
  rcases List.mem_append.mp hu with hu | hu
  · exact (q u hu).lstmut h
  · rw [List.mem_singleton] at hu
    rw [hu]
    exact r.lstmut h
def splaw (K : PySem.W.Frag) : Sp := fun vs H Q _ => ∃ (a : Addr) (ns : List Int), vs = [.ref a] ∧ SqL K H a (ns.map V.int) ∧ ns.length ≤ 63 ∧ ∀ H', Q (.bl true) H'
theorem ok_law {P : Program} {w : World} {K : PySem.W.Frag} {mg : Str → Option Value} {base : Heap} {f : Addr} {fd : FuncData} (D : Def K mg "law" slaw Plaw f fd) (T : Txt K mg) {C fI : Addr} {fdI : FuncData} (ER : Err K mg C fI fdI) {fis_number : Addr} {fdis_number : FuncData} (Dis_number : Def K mg "is_number" sis_number Pis_number fis_number fdis_number) (Gis_number : FnOk P w K mg base CX0 2 fis_number fdis_number Pis_number (spis_number C)) {fis_name : Addr} {fdis_name : FuncData} (Dis_name : Def K mg "is_name" sis_name Pis_name fis_name fdis_name) (Gis_name : FnOk P w K mg base CX0 1 fis_name fdis_name Pis_name (spis_name C)) {fbag : Addr} {fdbag : FuncData} (Dbag : Def K mg "_law_bag" sbag Pbag fbag fdbag) (Gbag : FnOk P w K mg base CX0 1 fbag fdbag Pbag (spbag K)) {fdraw : Addr} {fddraw : FuncData} (Ddraw : Def K mg "_law_draw" sdraw Pdraw fdraw fddraw) (Gdraw : FnOk P w K mg base CX0 1 fdraw fddraw Pdraw (spdraw)) {fvalue : Addr} {fdvalue : FuncData} (Dvalue : Def K mg "_law_value" svalue Pvalue fvalue fdvalue) (Gvalue : FnOk P w K mg base CX0 4 fvalue fdvalue Pvalue (spvalue C)) {fnamed : Addr} {fdnamed : FuncData} (Dnamed : Def K mg "_law_named" snamed Pnamed fnamed fdnamed) (Gnamed : FnOk P w K mg base CX0 1 fnamed fdnamed Pnamed (spnamed C)) {fnear : Addr} {fdnear : FuncData} (Dnear : Def K mg "_law_near" snear Pnear fnear fdnear) (Gnear : FnOk P w K mg base CX0 4 fnear fdnear Pnear (spnear C)) {fnumbered : Addr} {fdnumbered : FuncData} (Dnumbered : Def K mg "_law_numbered" snumbered Pnumbered fnumbered fdnumbered) (Gnumbered : FnOk P w K mg base CX0 1 fnumbered fdnumbered Pnumbered (spnumbered C)) {fbounds : Addr} {fdbounds : FuncData} (Dbounds : Def K mg "_law_bounds" sbounds Pbounds fbounds fdbounds) (Gbounds : FnOk P w K mg base CX0 3 fbounds fdbounds Pbounds (spbounds)) {fis : Addr} {fdis : FuncData} (Dis : Def K mg "_law_is" sis Pis fis fdis) (Gis : FnOk P w K mg base CX0 1 fis fdis Pis (spis)) :
    FnOk P w K mg base CX0 5 f fd Plaw (splaw K) := by
  refine D.F.ok sclaw (fun vs H Q E h => ?_) (fun cdv A outer s H vs Q E hr h => ?_)
  · obtain ⟨a, ns, rfl, hS, hl, k⟩ := h
    rfl
  · obtain ⟨a, ns, rfl, hS, hl, k⟩ := h
    have hris_number : Room 2 _ := hr.mono (by decide)
    have hris_name : Room 1 _ := hr.mono (by decide)
    have hrbag : Room 1 _ := hr.mono (by decide)
    have hrdraw : Room 1 _ := hr.mono (by decide)
    have hrvalue : Room 4 _ := hr.mono (by decide)
    have hrnamed : Room 1 _ := hr.mono (by decide)
    have hrnear : Room 4 _ := hr.mono (by decide)
    have hrnumbered : Room 1 _ := hr.mono (by decide)
    have hrbounds : Room 3 _ := hr.mono (by decide)
    have hris : Room 1 _ := hr.mono (by decide)
    refine ⟨_, (pss_cons (ps_set (i := 1) sclaw.nd rfl (Or.inl rfl) (pe_call Gbag hrbag rfl Dbag.g Dbag.F.kp Dbag.b .nil pass0 (pa_cons (pv 0) pa_nil)))
        (pss_cons (ps_set (i := 2) sclaw.nd rfl (Or.inl rfl) (pe_lst pa_nil))
        (pss_cons (ps_for PassesOwn.never rfl (pi_range1 rfl T.n_range (pa_cons pe_int pa_nil)) (pg_name (i := 3) sclaw.nd rfl (Or.inl rfl))
          (pss_cons (ps_asg (pe_call Gbounds hrbounds rfl Dbounds.g Dbounds.F.kp Dbounds.b .nil pass0 (pa_cons (pv 1) pa_nil)) (pg_tup rfl (pgs_cons (pg_name (i := 4) sclaw.nd rfl (Or.inl rfl)) (pgs_cons (pg_name (i := 5) sclaw.nd rfl (Or.inl rfl)) pgs_nil))))
        (pss_cons (ps_set (i := 6) sclaw.nd rfl (Or.inl rfl) (pe_call Gnear hrnear rfl Dnear.g Dnear.F.kp Dnear.b .nil pass0 (pa_cons (pv 1) (pa_cons (pv 4) (pa_cons (pv 5) pa_nil)))))
        (pss_cons (ps_set (i := 7) sclaw.nd rfl (Or.inl rfl) (pe_call Gnumbered hrnumbered rfl Dnumbered.g Dnumbered.F.kp Dnumbered.b .nil pass0 (pa_cons (pv 6) (pa_cons (pv 4) (pa_cons (pv 5) pa_nil)))))
        (pss_cons (ps_set (i := 8) sclaw.nd rfl (Or.inl rfl) (pe_ifExp (pt_cmpR op_eq (pe_call Gdraw hrdraw rfl Ddraw.g Ddraw.F.kp Ddraw.b .nil pass0 (pa_cons (pv 1) (pa_cons pe_int pa_nil))) pe_int (nomark _)) (pe_callK0 Gis_number hris_number rfl Dis_number.g Dis_number.F.kp (KB_is_number__value_most_least Dis_number.F) pass0 (pk_cons (pv 6) (pk_cons (pv 5) (pk_cons (pv 4) pk_nil)))) (pe_call Gis_number hris_number rfl Dis_number.g Dis_number.F.kp Dis_number.b .nil pass0 (pa_cons (pv 6) (pa_cons (pv 4) (pa_cons (pv 5) pa_nil))))))
        (pss_cons (ps_if (pt_not (pt_val (pe_call Gis hris rfl Dis.g Dis.F.kp Dis.b .nil pass0 (pa_cons (pv 8) (pa_cons (pv 7) pa_nil))))) (pss_one (ps_ret pe_bl)) pss_nil)
        (pss_cons (ps_expr (pe_bm PySem.F.plainAttrs_list PySem.F.slot_list_append PySem.F.type_list_append mt_append (pv 2) (pa_cons (pe_tup (pa_cons (pv 6) (pa_cons (pv 4) (pa_cons (pv 5) (pa_cons (pv 7) pa_nil))))) pa_nil)))
        (pss_cons (ps_set (i := 9) sclaw.nd rfl (Or.inl rfl) (pe_call Gvalue hrvalue rfl Dvalue.g Dvalue.F.kp Dvalue.b .nil pass0 (pa_cons (pv 1) pa_nil)))
        (pss_cons (ps_set (i := 7) sclaw.nd rfl (Or.inl rfl) (pe_call Gnamed hrnamed rfl Dnamed.g Dnamed.F.kp Dnamed.b .nil pass0 (pa_cons (pv 9) pa_nil)))
        (pss_cons (ps_if (pt_not (pt_val (pe_call Gis hris rfl Dis.g Dis.F.kp Dis.b .nil pass0 (pa_cons (pe_ifExp (pt_cmpR op_eq (pe_call Gdraw hrdraw rfl Ddraw.g Ddraw.F.kp Ddraw.b .nil pass0 (pa_cons (pv 1) (pa_cons pe_int pa_nil))) pe_int (nomark _)) (pe_callK0 Gis_name hris_name rfl Dis_name.g Dis_name.F.kp (KB_is_name__value Dis_name.F) pass0 (pk_cons (pv 9) pk_nil)) (pe_call Gis_name hris_name rfl Dis_name.g Dis_name.F.kp Dis_name.b .nil pass0 (pa_cons (pv 9) pa_nil))) (pa_cons (pv 7) pa_nil))))) (pss_one (ps_ret pe_bl)) pss_nil)
        (pss_one (ps_expr (pe_bm PySem.F.plainAttrs_list PySem.F.slot_list_append PySem.F.type_list_append mt_append (pv 2) (pa_cons (pe_tup (pa_cons (pv 9) (pa_cons pe_non (pa_cons pe_non (pa_cons (pv 7) pa_nil))))) pa_nil))))))))))))))
        (pss_cons (ps_for PassesOwn.never rfl (pi_list (pv 2)) ((pg_tup rfl (pgs_cons (pg_name (i := 6) sclaw.nd rfl (Or.inl rfl)) (pgs_cons (pg_name (i := 4) sclaw.nd rfl (Or.inl rfl)) (pgs_cons (pg_name (i := 5) sclaw.nd rfl (Or.inl rfl)) (pgs_cons (pg_name (i := 7) sclaw.nd rfl (Or.inl rfl)) pgs_nil))))))
          (pss_one (ps_if (pt_cmpR op_isN (pv 4) pe_non (nomark _)) (pss_one (ps_if (pt_not (pt_val (pe_call Gis hris rfl Dis.g Dis.F.kp Dis.b .nil pass0 (pa_cons (pe_call Gis_name hris_name rfl Dis_name.g Dis_name.F.kp Dis_name.b .nil pass0 (pa_cons (pv 6) pa_nil)) (pa_cons (pv 7) pa_nil))))) (pss_one (ps_ret pe_bl)) pss_nil)) (pss_one (ps_if (pt_not (pt_val (pe_call Gis hris rfl Dis.g Dis.F.kp Dis.b .nil pass0 (pa_cons (pe_call Gis_number hris_number rfl Dis_number.g Dis_number.F.kp Dis_number.b .nil pass0 (pa_cons (pv 6) (pa_cons (pv 4) (pa_cons (pv 5) pa_nil)))) (pa_cons (pv 7) pa_nil))))) (pss_one (ps_ret pe_bl)) pss_nil)))))
        (pss_one (ps_ret pe_bl)))))), ?_⟩
    refine ⟨_, rfl, a, ns, rfl, hS, hl, fun g H1 ng s1 ⟨l, B⟩ => ?_⟩
    refine ⟨Nat.zero_le _, fun p hp => ?_⟩
    have r1 := (Ok.refl B).new (o := .lst []) hp
    have np := B.ne hp
    refine ⟨_, rfl, by decide, by decide, for_range (lo := 0) (n := 16) (fun i σ H' => ∃ v1 v2 v3 v4 v5 v6 v7 : Option V, σ = [some (.ref a), some (.ref g), some (.ref p), v1, v2, v3, v4, v5, v6, v7] ∧ Ok g l H1 H' ∧ Asked C g H' p (2 * i))
      ⟨_, _, _, _, _, _, _, rfl, r1, np.1, [], upd_same, rfl, fun t ht => by cases ht⟩ ?_ ?_⟩
    · rintro i σ H' hi ⟨v1, v2, v3, v4, v5, v6, v7, rfl, r, A⟩
      refine ⟨_, rfl, g, l, rfl, r.bag, fun t lo hi H2 ht tg a0 a1 b0 b1 r2 => ⟨t, _, rfl, SqT.of ht, rfl, _, _, rfl, _, _, rfl, rfl, ?_⟩⟩
      refine ⟨_, rfl, _, rfl, _, rfl, g, l, lo, hi, rfl, r2.bag, a0, a1, b0, b1, fun x H3 th r3 => ?_⟩
      refine ⟨_, rfl, _, rfl, _, rfl, g, x, lo, hi, rfl, th, ?_⟩
      refine ⟨_, rfl, g, l, 4, rfl, r3.bag, by decide, by decide, fun e H4 e0 e1 r4 => ⟨rfl, _, rfl, ite_same ?_ (fun c => ⟨_, rfl, _, rfl, _, rfl, g, x, lo, hi, rfl, th.kp r4.kp, c⟩) (fun c => ⟨_, rfl, _, rfl, _, rfl, g, x, lo, hi, rfl, th.kp r4.kp, c⟩)⟩⟩
      refine ⟨_, rfl, _, rfl, _, _, rfl, _, rfl, ite_nbeq ?_⟩
      have R4 := r.trans (r2.trans (r3.trans r4))
      have A4 := A.kp (r2.trans (r3.trans r4)).kp
      obtain ⟨_, ts, hp4, _, _⟩ := id A4
      refine ⟨_, rfl, .inl ⟨rfl, _, SqL.of hp4⟩, _, rfl, _, rfl, _, rfl, _, rfl, (by show 4 ≤ sizeLine; decide), fun t1 ht1 => ?_⟩
      have np1 : p ≠ t1 := ne_of_none hp4 ht1
      have hp5 : upd H4 t1 (.tup [x, .int lo, .int hi, .bl (isNum x lo hi)]) p = some (.lst (ts.map V.ref)) := by rw [upd_ne np1]; exact hp4
      have row1 : Row C g (upd H4 t1 (.tup [x, .int lo, .int hi, .bl (isNum x lo hi)])) t1 := ⟨(R4.bag.ne ht1).1, x, _, _, _, upd_same, (th.kp r4.kp).upd R4 ht1, .inr ⟨lo, hi, rfl, rfl, rfl⟩⟩
      obtain ⟨len1, A5⟩ := (A4.kp (upd_kp R4 ht1)).add row1 hp5
      refine ⟨p, _, _, rfl, rfl, hp5, by rw [len1]; exact Nat.lt_of_le_of_lt (show 2 * i ≤ 32 by omega) (by decide), ?_⟩
      have R5 := (R4.new (o := .tup [x, .int lo, .int hi, .bl (isNum x lo hi)]) ht1).mut (o := .lst (ts.map V.ref ++ [.ref t1])) hp
      refine ⟨_, rfl, g, l, rfl, R5.bag, fun y H6 ty r6 => ?_⟩
      refine ⟨_, rfl, g, y, rfl, ty, fun H7 s7 => ?_⟩
      have R7 := (R5.trans r6).same s7
      refine ⟨_, rfl, g, l, 4, rfl, R7.bag, by decide, by decide, fun e' H8 e0' e1' r8 => ⟨rfl, _, rfl, ite_same ?_ (fun c => ⟨_, rfl, g, y, rfl, (ty.same s7).kp r8.kp, c⟩) (fun c => ⟨_, rfl, g, y, rfl, (ty.same s7).kp r8.kp, c⟩)⟩⟩
      intro H9 s9
      refine ⟨_, rfl, _, _, rfl, _, rfl, ite_nbeq ?_⟩
      have R9 := (R7.trans r8).same s9
      have A9 : Asked C g H9 p (2 * i + 1) := ((((A5.kp r6.kp).kp fun b o _ h => s7 b o h).kp r8.kp).kp fun b o _ h => s9 b o h)
      have ty9 := ((ty.same s7).kp r8.kp).same s9
      obtain ⟨_, ts2, hp9, _, _⟩ := id A9
      refine ⟨_, rfl, .inl ⟨rfl, _, SqL.of hp9⟩, _, rfl, _, rfl, (by show 4 ≤ sizeLine; decide), fun t2 ht2 => ?_⟩
      have np2 : p ≠ t2 := ne_of_none hp9 ht2
      have hp10 : upd H9 t2 (.tup [y, .non, .non, .bl (isNam y)]) p = some (.lst (ts2.map V.ref)) := by rw [upd_ne np2]; exact hp9
      have row2 : Row C g (upd H9 t2 (.tup [y, .non, .non, .bl (isNam y)])) t2 := ⟨(R9.bag.ne ht2).1, y, _, _, _, upd_same, ty9.upd R9 ht2, .inl ⟨rfl, rfl⟩⟩
      obtain ⟨len2, A10⟩ := (A9.kp (upd_kp R9 ht2)).add row2 hp10
      refine ⟨p, _, _, rfl, rfl, hp10, by rw [len2]; exact Nat.lt_of_le_of_lt (show 2 * i + 1 ≤ 33 by omega) (by decide), ?_⟩
      have R10 := (R9.new (o := .tup [y, .non, .non, .bl (isNam y)]) ht2).mut (o := .lst (ts2.map V.ref ++ [.ref t2])) hp
      exact ⟨_, _, _, _, _, _, _, rfl, R10, A10⟩
    · rintro σ H' ⟨v1, v2, v3, v4, v5, v6, v7, rfl, r, A⟩
      obtain ⟨_, ts, hpL, _, rows⟩ := A
      refine ⟨_, rfl, p, rfl, ⟨_, SqL.of hpL⟩, for_list (K := K) (a := p) (xs := ts.map V.ref) (fun i σ H2 => ∃ w1 w2 w3 w4 w5 w6 w7 : Option V, σ = [some (.ref a), some (.ref g), some (.ref p), w1, w2, w3, w4, w5, w6, w7] ∧ Same H' H2)
        ⟨_, _, _, _, _, _, _, rfl, Same.refl _⟩ (fun i σ H2 _ ⟨_, _, _, _, _, _, _, _, s⟩ => s.seq (SqL.of hpL)) ?_ ?_⟩
      · rintro i y σ H2 hi ⟨w1, w2, w3, w4, w5, w6, w7, rfl, s⟩
        obtain ⟨t, ht, rfl⟩ : ∃ t, t ∈ ts ∧ y = V.ref t := by
          obtain ⟨t, ht, e⟩ := List.mem_map.mp (List.mem_of_getElem? hi)
          exact ⟨t, ht, e.symm⟩
        obtain ⟨tg, x, lo, hi', due, hrow, th, cases'⟩ := rows t ht
        refine ⟨t, _, rfl, SqT.of (s _ _ hrow), rfl, _, _, rfl, _, _, rfl, _, _, rfl, _, _, rfl, rfl, ?_⟩
        have th2 := th.same s
        rcases cases' with ⟨rfl, rfl⟩ | ⟨a', b', rfl, rfl, rfl⟩
        · refine ⟨_, rfl, rfl, _, rfl, ite_d (fun _ => ?_) (fun h => absurd rfl h)⟩
          refine ⟨_, rfl, g, x, rfl, th2, fun H3 s3 => ⟨_, rfl, _, _, rfl, _, rfl, ite_nbeq ?_⟩⟩
          exact ⟨_, _, _, _, _, _, _, rfl, s.trans s3⟩
        · refine ⟨_, rfl, rfl, _, rfl, ite_d (fun h => by cases h) (fun _ => ?_)⟩
          refine ⟨_, rfl, _, rfl, _, rfl, g, x, a', b', rfl, th2, ⟨_, rfl, _, _, rfl, _, rfl, ite_nbeq ?_⟩⟩
          exact ⟨_, _, _, _, _, _, _, rfl, s⟩
      · rintro σ H2 ⟨w1, w2, w3, w4, w5, w6, w7, rfl, s⟩
        exact k _
end k01
namespace k01
open PySem L2 LC
theorem all_mk {l : PySem.W.OpenLaw} {w : World} {K : PySem.W.Frag} {h : Heap} {mg : Str → Option Value} {fa : Addr} (X : K.In h) (G : h.Ns mainGlobals mg) (hfa : mg "law" = some (.ref fa))
    {fis_whole : Addr} {odis_whole anis_whole : Option Addr} {slis_whole : Array (Option Value)} {ocis_whole kVis_whole dcis_whole pmis_whole cdis_whole ctis_whole : Value}
    (ais_whole : PySem.W.nsIn K mainGlobals "is_whole" = some (some (.ref fis_whole)))
    (lis_whole : K.lookup fis_whole = some ⟨ocis_whole, odis_whole, .func (PySem.W.fnOf "is_whole" "is_whole" (defArgs sis_whole) (defBody sis_whole) (defScope sis_whole) .none kVis_whole dcis_whole pmis_whole anis_whole cdis_whole ctis_whole), slis_whole⟩)
    (cis_whole : PySem.W.codeIn K cdis_whole "is_whole" = true)
    (kis_whole : PySem.W.keepIn K (.ref fis_whole) = true)
    {fis_number : Addr} {odis_number anis_number : Option Addr} {slis_number : Array (Option Value)} {ocis_number kVis_number dcis_number pmis_number cdis_number ctis_number : Value}
    (ais_number : PySem.W.nsIn K mainGlobals "is_number" = some (some (.ref fis_number)))
    (lis_number : K.lookup fis_number = some ⟨ocis_number, odis_number, .func (PySem.W.fnOf "is_number" "is_number" (defArgs sis_number) (defBody sis_number) (defScope sis_number) .none kVis_number dcis_number pmis_number anis_number cdis_number ctis_number), slis_number⟩)
    (cis_number : PySem.W.codeIn K cdis_number "is_number" = true)
    (kis_number : PySem.W.keepIn K (.ref fis_number) = true)
    {fis_name : Addr} {odis_name anis_name : Option Addr} {slis_name : Array (Option Value)} {ocis_name kVis_name dcis_name pmis_name cdis_name ctis_name : Value}
    (ais_name : PySem.W.nsIn K mainGlobals "is_name" = some (some (.ref fis_name)))
    (lis_name : K.lookup fis_name = some ⟨ocis_name, odis_name, .func (PySem.W.fnOf "is_name" "is_name" (defArgs sis_name) (defBody sis_name) (defScope sis_name) .none kVis_name dcis_name pmis_name anis_name cdis_name ctis_name), slis_name⟩)
    (cis_name : PySem.W.codeIn K cdis_name "is_name" = true)
    (kis_name : PySem.W.keepIn K (.ref fis_name) = true)
    {fbag : Addr} {odbag anbag : Option Addr} {slbag : Array (Option Value)} {ocbag kVbag dcbag pmbag cdbag ctbag : Value}
    (abag : PySem.W.nsIn K mainGlobals "_law_bag" = some (some (.ref fbag)))
    (lbag : K.lookup fbag = some ⟨ocbag, odbag, .func (PySem.W.fnOf "_law_bag" "_law_bag" (defArgs sbag) (defBody sbag) (defScope sbag) .none kVbag dcbag pmbag anbag cdbag ctbag), slbag⟩)
    (cbag : PySem.W.codeIn K cdbag "_law_bag" = true)
    (kbag : PySem.W.keepIn K (.ref fbag) = true)
    {fdraw : Addr} {oddraw andraw : Option Addr} {sldraw : Array (Option Value)} {ocdraw kVdraw dcdraw pmdraw cddraw ctdraw : Value}
    (adraw : PySem.W.nsIn K mainGlobals "_law_draw" = some (some (.ref fdraw)))
    (ldraw : K.lookup fdraw = some ⟨ocdraw, oddraw, .func (PySem.W.fnOf "_law_draw" "_law_draw" (defArgs sdraw) (defBody sdraw) (defScope sdraw) .none kVdraw dcdraw pmdraw andraw cddraw ctdraw), sldraw⟩)
    (cdraw : PySem.W.codeIn K cddraw "_law_draw" = true)
    (kdraw : PySem.W.keepIn K (.ref fdraw) = true)
    {fof : Addr} {odof anof : Option Addr} {slof : Array (Option Value)} {ocof kVof dcof pmof cdof ctof : Value}
    (aof : PySem.W.nsIn K mainGlobals "_law_of" = some (some (.ref fof)))
    (lof : K.lookup fof = some ⟨ocof, odof, .func (PySem.W.fnOf "_law_of" "_law_of" (defArgs sof) (defBody sof) (defScope sof) .none kVof dcof pmof anof cdof ctof), slof⟩)
    (cof : PySem.W.codeIn K cdof "_law_of" = true)
    (kof : PySem.W.keepIn K (.ref fof) = true)
    {fodd : Addr} {ododd anodd : Option Addr} {slodd : Array (Option Value)} {ocodd kVodd dcodd pmodd cdodd ctodd : Value}
    (aodd : PySem.W.nsIn K mainGlobals "_law_odd" = some (some (.ref fodd)))
    (lodd : K.lookup fodd = some ⟨ocodd, ododd, .func (PySem.W.fnOf "_law_odd" "_law_odd" (defArgs sodd) (defBody sodd) (defScope sodd) .none kVodd dcodd pmodd anodd cdodd ctodd), slodd⟩)
    (codd : PySem.W.codeIn K cdodd "_law_odd" = true)
    (kodd : PySem.W.keepIn K (.ref fodd) = true)
    {fsigns : Addr} {odsigns ansigns : Option Addr} {slsigns : Array (Option Value)} {ocsigns kVsigns dcsigns pmsigns cdsigns ctsigns : Value}
    (asigns : PySem.W.nsIn K mainGlobals "_law_signs" = some (some (.ref fsigns)))
    (lsigns : K.lookup fsigns = some ⟨ocsigns, odsigns, .func (PySem.W.fnOf "_law_signs" "_law_signs" (defArgs ssigns) (defBody ssigns) (defScope ssigns) .none kVsigns dcsigns pmsigns ansigns cdsigns ctsigns), slsigns⟩)
    (csigns : PySem.W.codeIn K cdsigns "_law_signs" = true)
    (ksigns : PySem.W.keepIn K (.ref fsigns) = true)
    {fword : Addr} {odword anword : Option Addr} {slword : Array (Option Value)} {ocword kVword dcword pmword cdword ctword : Value}
    (aword : PySem.W.nsIn K mainGlobals "_law_word" = some (some (.ref fword)))
    (lword : K.lookup fword = some ⟨ocword, odword, .func (PySem.W.fnOf "_law_word" "_law_word" (defArgs sword) (defBody sword) (defScope sword) .none kVword dcword pmword anword cdword ctword), slword⟩)
    (cword : PySem.W.codeIn K cdword "_law_word" = true)
    (kword : PySem.W.keepIn K (.ref fword) = true)
    {fvalue : Addr} {odvalue anvalue : Option Addr} {slvalue : Array (Option Value)} {ocvalue kVvalue dcvalue pmvalue cdvalue ctvalue : Value}
    (avalue : PySem.W.nsIn K mainGlobals "_law_value" = some (some (.ref fvalue)))
    (lvalue : K.lookup fvalue = some ⟨ocvalue, odvalue, .func (PySem.W.fnOf "_law_value" "_law_value" (defArgs svalue) (defBody svalue) (defScope svalue) .none kVvalue dcvalue pmvalue anvalue cdvalue ctvalue), slvalue⟩)
    (cvalue : PySem.W.codeIn K cdvalue "_law_value" = true)
    (kvalue : PySem.W.keepIn K (.ref fvalue) = true)
    {fnamed : Addr} {odnamed annamed : Option Addr} {slnamed : Array (Option Value)} {ocnamed kVnamed dcnamed pmnamed cdnamed ctnamed : Value}
    (anamed : PySem.W.nsIn K mainGlobals "_law_named" = some (some (.ref fnamed)))
    (lnamed : K.lookup fnamed = some ⟨ocnamed, odnamed, .func (PySem.W.fnOf "_law_named" "_law_named" (defArgs snamed) (defBody snamed) (defScope snamed) .none kVnamed dcnamed pmnamed annamed cdnamed ctnamed), slnamed⟩)
    (cnamed : PySem.W.codeIn K cdnamed "_law_named" = true)
    (knamed : PySem.W.keepIn K (.ref fnamed) = true)
    {fnear : Addr} {odnear annear : Option Addr} {slnear : Array (Option Value)} {ocnear kVnear dcnear pmnear cdnear ctnear : Value}
    (anear : PySem.W.nsIn K mainGlobals "_law_near" = some (some (.ref fnear)))
    (lnear : K.lookup fnear = some ⟨ocnear, odnear, .func (PySem.W.fnOf "_law_near" "_law_near" (defArgs snear) (defBody snear) (defScope snear) .none kVnear dcnear pmnear annear cdnear ctnear), slnear⟩)
    (cnear : PySem.W.codeIn K cdnear "_law_near" = true)
    (knear : PySem.W.keepIn K (.ref fnear) = true)
    {fnumbered : Addr} {odnumbered annumbered : Option Addr} {slnumbered : Array (Option Value)} {ocnumbered kVnumbered dcnumbered pmnumbered cdnumbered ctnumbered : Value}
    (anumbered : PySem.W.nsIn K mainGlobals "_law_numbered" = some (some (.ref fnumbered)))
    (lnumbered : K.lookup fnumbered = some ⟨ocnumbered, odnumbered, .func (PySem.W.fnOf "_law_numbered" "_law_numbered" (defArgs snumbered) (defBody snumbered) (defScope snumbered) .none kVnumbered dcnumbered pmnumbered annumbered cdnumbered ctnumbered), slnumbered⟩)
    (cnumbered : PySem.W.codeIn K cdnumbered "_law_numbered" = true)
    (knumbered : PySem.W.keepIn K (.ref fnumbered) = true)
    {fbounds : Addr} {odbounds anbounds : Option Addr} {slbounds : Array (Option Value)} {ocbounds kVbounds dcbounds pmbounds cdbounds ctbounds : Value}
    (abounds : PySem.W.nsIn K mainGlobals "_law_bounds" = some (some (.ref fbounds)))
    (lbounds : K.lookup fbounds = some ⟨ocbounds, odbounds, .func (PySem.W.fnOf "_law_bounds" "_law_bounds" (defArgs sbounds) (defBody sbounds) (defScope sbounds) .none kVbounds dcbounds pmbounds anbounds cdbounds ctbounds), slbounds⟩)
    (cbounds : PySem.W.codeIn K cdbounds "_law_bounds" = true)
    (kbounds : PySem.W.keepIn K (.ref fbounds) = true)
    {fis : Addr} {odis anis : Option Addr} {slis : Array (Option Value)} {ocis kVis dcis pmis cdis ctis : Value}
    (ais : PySem.W.nsIn K mainGlobals "_law_is" = some (some (.ref fis)))
    (lis : K.lookup fis = some ⟨ocis, odis, .func (PySem.W.fnOf "_law_is" "_law_is" (defArgs sis) (defBody sis) (defScope sis) .none kVis dcis pmis anis cdis ctis), slis⟩)
    (cis : PySem.W.codeIn K cdis "_law_is" = true)
    (kis : PySem.W.keepIn K (.ref fis) = true)
    {flaw : Addr} {odlaw anlaw : Option Addr} {sllaw : Array (Option Value)} {oclaw kVlaw dclaw pmlaw cdlaw ctlaw : Value}
    (alaw : PySem.W.nsIn K mainGlobals "law" = some (some (.ref flaw)))
    (llaw : K.lookup flaw = some ⟨oclaw, odlaw, .func (PySem.W.fnOf "law" "law" (defArgs slaw) (defBody slaw) (defScope slaw) .none kVlaw dclaw pmlaw anlaw cdlaw ctlaw), sllaw⟩)
    (claw : PySem.W.codeIn K cdlaw "law" = true)
    (klaw : PySem.W.keepIn K (.ref flaw) = true)
    (zabs : PySem.W.nsIn K mainGlobals "abs" = some none)
    (zall : PySem.W.nsIn K mainGlobals "all" = some none)
    (zbool : PySem.W.nsIn K mainGlobals "bool" = some none)
    (zint : PySem.W.nsIn K mainGlobals "int" = some none)
    (zisinstance : PySem.W.nsIn K mainGlobals "isinstance" = some none)
    (zlen : PySem.W.nsIn K mainGlobals "len" = some none)
    (zlist : PySem.W.nsIn K mainGlobals "list" = some none)
    (zmax : PySem.W.nsIn K mainGlobals "max" = some none)
    (zmin : PySem.W.nsIn K mainGlobals "min" = some none)
    (zord : PySem.W.nsIn K mainGlobals "ord" = some none)
    (zrange : PySem.W.nsIn K mainGlobals "range" = some none)
    (zstr : PySem.W.nsIn K mainGlobals "str" = some none)
    (ztuple : PySem.W.nsIn K mainGlobals "tuple" = some none)
    (zzip : PySem.W.nsIn K mainGlobals "zip" = some none)
    {tkDIGITS : Tok} (yDIGITS : PySem.W.nsIn K mainGlobals "DIGITS" = some (some (.str "0123456789" tkDIGITS)))
    {tkLETTERS : Tok} (yLETTERS : PySem.W.nsIn K mainGlobals "LETTERS" = some (some (.str "abcdefghijklmnopqrstuvwxyz" tkLETTERS)))
    {C fI S : Addr} {nmE qE : Str} {NE : Addr} {bsE : List Value} {snE : List Str} {subE : List Value} {abE : Bool} {colE : Option Bool} {ddE : Option Addr} {m0 m1 m2 m3 m5 : Option Value} {odI anI : Option Addr} {slI : Array (Option Value)} {ocI kVI dcI pmI cdI ctI : Value}
    (aE : PySem.W.nsIn K mainGlobals "InvalidNumber" = some (some (.ref C)))
    (xE : K.lookup C = some (excClassObj nmE qE C NE bsE [.ref S, .type "ValueError", .type "Exception", .type "BaseException", .type "object"] true snE subE abE colE ddE m0 m1 m2 m3 m5 "ValueError.__new__"))
    (saE : PySem.W.findIn K (.ref C) "__setattr__" = some (some (.builtin "object.__setattr__"))) (exE : PySem.W.subIn K (.ref C) (.type "BaseException") = some true) (tyE : PySem.W.typeIn K (.ref C) = some (.type "type")) (kpE : PySem.W.keepIn K (.ref C) = true)
    (iE : PySem.W.findIn K (.ref C) "__init__" = some (some (.ref fI))) (tIE : PySem.W.typeIn K (.ref fI) = some (.type "function"))
    (hgaE : PySem.W.findIn K (.ref C) "__getattribute__" = some (some (.builtin "BaseException.__getattribute__"))) (hgtE : PySem.W.findIn K (.ref C) "__getattr__" = some none)
    (haE : PySem.W.findIn K (.ref C) "__class__" = some (some (.builtin "object.__class__"))) (hnE : PySem.W.specialIn K (.builtin "object.__class__") "__get__" = some (some (.builtin "getset_descriptor.__get__"))) (htkE : PySem.W.takesIn K (.builtin "object.__class__") = some true) (hmE : PySem.W.mroIn K C (.type "object") = some true)
    (k1E : PySem.W.subIn K (.ref C) (.type "int") = some false) (k2E : PySem.W.subIn K (.ref C) (.type "bool") = some false) (k3E : PySem.W.subIn K (.ref C) (.type "str") = some false)
    (lI : K.lookup fI = some ⟨ocI, odI, .func (PySem.W.fnOf "__init__" "InvalidNumber.__init__" (defArgs sinit) (defBody sinit) (defScope sinit) .none kVI dcI pmI anI cdI ctI), slI⟩) (cI : PySem.W.codeIn K cdI "InvalidNumber.__init__" = true) (kI : PySem.W.keepIn K (.ref fI) = true)
    (nvE : PySem.W.findIn K (.ref C) "value" = some none) (ncE : PySem.W.findIn K (.ref C) "code" = some none) :
    ∃ fd : FuncData, (∀ (s : Shared) (v : Value), BindsTo s fd ⟨[v], []⟩ [("_law_script", v)]) ∧ ∀ base : Heap, K.In base → base.Ns mainGlobals mg → FnOk l.prog w K mg base CX0 5 fa fd ["_law_script"] (splaw K) := by
  have e := hfa.symm.trans (PySem.W.mg_of X G alaw)
  cases e
  have T : Txt K mg := ⟨PySem.W.mg_none_of X G zabs, PySem.W.mg_none_of X G zall, PySem.W.mg_none_of X G zbool, PySem.W.mg_none_of X G zint, PySem.W.mg_none_of X G zisinstance, PySem.W.mg_none_of X G zlen, PySem.W.mg_none_of X G zlist, PySem.W.mg_none_of X G zmax, PySem.W.mg_none_of X G zmin, PySem.W.mg_none_of X G zord, PySem.W.mg_none_of X G zrange, PySem.W.mg_none_of X G zstr, PySem.W.mg_none_of X G ztuple, PySem.W.mg_none_of X G zzip, ⟨_, PySem.W.mg_of X G yDIGITS⟩, ⟨_, PySem.W.mg_of X G yLETTERS⟩⟩
  have Fis_whole := fun_mk (st := sis_whole) lis_whole cis_whole kis_whole
  have Dis_whole : Def K mg "is_whole" sis_whole Pis_whole _ _ := ⟨Fis_whole, PySem.W.mg_of X G ais_whole, Fis_whole.binds (ps := Pis_whole) fun _ _ _ _ _ _ us hl => match us, hl with | [_], _ => rfl⟩
  have Fis_number := fun_mk (st := sis_number) lis_number cis_number kis_number
  have Dis_number : Def K mg "is_number" sis_number Pis_number _ _ := ⟨Fis_number, PySem.W.mg_of X G ais_number, Fis_number.binds (ps := Pis_number) fun _ _ _ _ _ _ us hl => match us, hl with | [_, _, _], _ => rfl⟩
  have Fis_name := fun_mk (st := sis_name) lis_name cis_name kis_name
  have Dis_name : Def K mg "is_name" sis_name Pis_name _ _ := ⟨Fis_name, PySem.W.mg_of X G ais_name, Fis_name.binds (ps := Pis_name) fun _ _ _ _ _ _ us hl => match us, hl with | [_], _ => rfl⟩
  have Fbag := fun_mk (st := sbag) lbag cbag kbag
  have Dbag : Def K mg "_law_bag" sbag Pbag _ _ := ⟨Fbag, PySem.W.mg_of X G abag, Fbag.binds (ps := Pbag) fun _ _ _ _ _ _ us hl => match us, hl with | [_], _ => rfl⟩
  have Fdraw := fun_mk (st := sdraw) ldraw cdraw kdraw
  have Ddraw : Def K mg "_law_draw" sdraw Pdraw _ _ := ⟨Fdraw, PySem.W.mg_of X G adraw, Fdraw.binds (ps := Pdraw) fun _ _ _ _ _ _ us hl => match us, hl with | [_, _], _ => rfl⟩
  have Fof := fun_mk (st := sof) lof cof kof
  have Dof : Def K mg "_law_of" sof Pof _ _ := ⟨Fof, PySem.W.mg_of X G aof, Fof.binds (ps := Pof) fun _ _ _ _ _ _ us hl => match us, hl with | [_, _], _ => rfl⟩
  have Fodd := fun_mk (st := sodd) lodd codd kodd
  have Dodd : Def K mg "_law_odd" sodd Podd _ _ := ⟨Fodd, PySem.W.mg_of X G aodd, Fodd.binds (ps := Podd) fun _ _ _ _ _ _ us hl => match us, hl with | [_], _ => rfl⟩
  have Fsigns := fun_mk (st := ssigns) lsigns csigns ksigns
  have Dsigns : Def K mg "_law_signs" ssigns Psigns _ _ := ⟨Fsigns, PySem.W.mg_of X G asigns, Fsigns.binds (ps := Psigns) fun _ _ _ _ _ _ us hl => match us, hl with | [], _ => rfl⟩
  have Fword := fun_mk (st := sword) lword cword kword
  have Dword : Def K mg "_law_word" sword Pword _ _ := ⟨Fword, PySem.W.mg_of X G aword, Fword.binds (ps := Pword) fun _ _ _ _ _ _ us hl => match us, hl with | [_], _ => rfl⟩
  have Fvalue := fun_mk (st := svalue) lvalue cvalue kvalue
  have Dvalue : Def K mg "_law_value" svalue Pvalue _ _ := ⟨Fvalue, PySem.W.mg_of X G avalue, Fvalue.binds (ps := Pvalue) fun _ _ _ _ _ _ us hl => match us, hl with | [_], _ => rfl⟩
  have Fnamed := fun_mk (st := snamed) lnamed cnamed knamed
  have Dnamed : Def K mg "_law_named" snamed Pnamed _ _ := ⟨Fnamed, PySem.W.mg_of X G anamed, Fnamed.binds (ps := Pnamed) fun _ _ _ _ _ _ us hl => match us, hl with | [_], _ => rfl⟩
  have Fnear := fun_mk (st := snear) lnear cnear knear
  have Dnear : Def K mg "_law_near" snear Pnear _ _ := ⟨Fnear, PySem.W.mg_of X G anear, Fnear.binds (ps := Pnear) fun _ _ _ _ _ _ us hl => match us, hl with | [_, _, _], _ => rfl⟩
  have Fnumbered := fun_mk (st := snumbered) lnumbered cnumbered knumbered
  have Dnumbered : Def K mg "_law_numbered" snumbered Pnumbered _ _ := ⟨Fnumbered, PySem.W.mg_of X G anumbered, Fnumbered.binds (ps := Pnumbered) fun _ _ _ _ _ _ us hl => match us, hl with | [_, _, _], _ => rfl⟩
  have Fbounds := fun_mk (st := sbounds) lbounds cbounds kbounds
  have Dbounds : Def K mg "_law_bounds" sbounds Pbounds _ _ := ⟨Fbounds, PySem.W.mg_of X G abounds, Fbounds.binds (ps := Pbounds) fun _ _ _ _ _ _ us hl => match us, hl with | [_], _ => rfl⟩
  have Fis := fun_mk (st := sis) lis cis kis
  have Dis : Def K mg "_law_is" sis Pis _ _ := ⟨Fis, PySem.W.mg_of X G ais, Fis.binds (ps := Pis) fun _ _ _ _ _ _ us hl => match us, hl with | [_, _], _ => rfl⟩
  have Flaw := fun_mk (st := slaw) llaw claw klaw
  have Dlaw : Def K mg "law" slaw Plaw _ _ := ⟨Flaw, PySem.W.mg_of X G alaw, Flaw.binds (ps := Plaw) fun _ _ _ _ _ _ us hl => match us, hl with | [_], _ => rfl⟩
  have FI := fun_mk (st := sinit) lI cI kI
  have BI := FI.binds (ps := ["self", "value"]) fun _ _ _ _ _ _ us hl => match us, hl with | [_, _], _ => rfl
  have ER : Err K mg C fI _ := ⟨⟨⟨_, _, _, _, _, _, _, _, _, _, _, _, _, _, _, xE, refs_ve _⟩, saE, exE, tyE, kpE⟩, iE, tIE, PySem.W.mg_of X G aE, ⟨⟨cls_some xE, hgaE, hgtE, exE, haE, hnE, htkE, hmE⟩, kit_sub (by decide +kernel) k1E, kit_sub (by decide +kernel) k2E, kit_sub (by decide +kernel) k3E⟩, FI, BI, nvE, ncE⟩
  refine ⟨PySem.W.fnOf "law" "law" (defArgs slaw) (defBody slaw) (defScope slaw) .none kVlaw dclaw pmlaw anlaw cdlaw ctlaw, fun s v => .of_eq rfl, fun base _ _ => ?_⟩
  have Gis_whole := ok_is_whole (P := l.prog) (w := w) (base := base) Dis_whole T ER.nb
  have Gis_number := ok_is_number (P := l.prog) (w := w) (base := base) Dis_number T ER.nb Dis_whole Gis_whole
  have Gis_name := ok_is_name (P := l.prog) (w := w) (base := base) Dis_name T ER.nb
  have Gbag := ok_bag (P := l.prog) (w := w) (base := base) Dbag T
  have Gdraw := ok_draw (P := l.prog) (w := w) (base := base) Ddraw T
  have Gof := ok_of (P := l.prog) (w := w) (base := base) Dof T Ddraw Gdraw
  have Godd := ok_odd (P := l.prog) (w := w) (base := base) Dodd T C Ddraw Gdraw Dof Gof
  have Gsigns := ok_signs (P := l.prog) (w := w) (base := base) Dsigns T
  have Gword := ok_word (P := l.prog) (w := w) (base := base) Dword T Ddraw Gdraw Dof Gof Dsigns Gsigns
  have Gvalue := ok_value (P := l.prog) (w := w) (base := base) Dvalue T ER Ddraw Gdraw Dof Gof Dodd Godd Dword Gword
  have Gnamed := ok_named (P := l.prog) (w := w) (base := base) Dnamed T ER.nb
  have Gnear := ok_near (P := l.prog) (w := w) (base := base) Dnear T ER Ddraw Gdraw Dof Gof Dodd Godd
  have Gnumbered := ok_numbered (P := l.prog) (w := w) (base := base) Dnumbered T ER.nb
  have Gbounds := ok_bounds (P := l.prog) (w := w) (base := base) Dbounds T Ddraw Gdraw Dof Gof
  have Gis := ok_is (P := l.prog) (w := w) (base := base) Dis T
  have Glaw := ok_law (P := l.prog) (w := w) (base := base) Dlaw T ER Dis_number Gis_number Dis_name Gis_name Dbag Gbag Ddraw Gdraw Dvalue Gvalue Dnamed Gnamed Dnear Gnear Dnumbered Gnumbered Dbounds Gbounds Dis Gis
  exact Glaw
theorem walk {l : PySem.W.OpenLaw} {q : Program} {loose : List Str} {XP : (Str → Option Value) → Heap → Prop} {YP : World → Heap → Prop} {d : DefRec} {K : Params → PySem.W.Frag} (hn : l.most = some 63) (hdf : d.params.defaults = [])
    (hY : ∀ (w : World) (h : Heap), YP w h → (K w.params).In h)
    (F : ∀ (w : World) (mg : Str → Option Value) (fa : Addr) (h : Heap), (K w.params).In h → h.Ns mainGlobals mg → mg d.name = some (.ref fa) →
      ∃ fd : FuncData, (∀ (s : Shared) (u : Value), BindsTo s fd ⟨[u], []⟩ [("_law_script", u)]) ∧ ∀ base : Heap, (K w.params).In base → base.Ns mainGlobals mg → FnOk l.prog w (K w.params) mg base CX0 5 fa fd ["_law_script"] (splaw (K w.params))) :
    PySem.W.WalkO q loose XP YP l.row.toRowW d [] (fun f vs => PySem.call f vs) :=
  L2.walk_of (n := 63) (k := 5) (x := "_law_script") (CX := fun _ => CX0) (sp := fun w => splaw (K w.params)) hn (by decide) hdf ⟨rfl, by decide, by decide⟩ hY F (fun _ _ a ns hl _ hS => ⟨a, ns, rfl, hS, hl, fun _ => rfl⟩) fun _ _ _ _ _ z => z
end k01
open PySem PySem.W PyProof.Rows
set_option maxRecDepth 100000 in
set_option maxHeartbeats 0 in
theorem PySem.Challenge.cw_surelet_k01_words_judged_holds : PySem.Challenge.rw_surelet_k01_words_judged.Holds := by
  w_on; o_law; k_head; (case hw => w_witness2)
  k_fill
  refine k01.walk (l := PySem.Challenge.rw_surelet_k01_words_judged) rfl rfl (fun w h Y => PySem.W.kIn_of Y) ?F
  case F =>
    intro w mg fa h KX G hmg
    refine' k01.all_mk KX G hmg ?ais_whole ?lis_whole ?cis_whole ?kis_whole ?ais_number ?lis_number ?cis_number ?kis_number ?ais_name ?lis_name ?cis_name ?kis_name ?abag ?lbag ?cbag ?kbag ?adraw ?ldraw ?cdraw ?kdraw ?aof ?lof ?cof ?kof ?aodd ?lodd ?codd ?kodd ?asigns ?lsigns ?csigns ?ksigns ?aword ?lword ?cword ?kword ?avalue ?lvalue ?cvalue ?kvalue ?anamed ?lnamed ?cnamed ?knamed ?anear ?lnear ?cnear ?knear ?anumbered ?lnumbered ?cnumbered ?knumbered ?abounds ?lbounds ?cbounds ?kbounds ?ais ?lis ?cis ?kis ?alaw ?llaw ?claw ?klaw ?zabs ?zall ?zbool ?zint ?zisinstance ?zlen ?zlist ?zmax ?zmin ?zord ?zrange ?zstr ?ztuple ?zzip ?yDIGITS ?yLETTERS ?aE ?xE ?saE ?exE ?tyE ?kpE ?iE ?tIE ?hgaE ?hgtE ?haE ?hnE ?htkE ?hmE ?k1E ?k2E ?k3E ?lI ?cI ?kI ?nvE ?ncE
    (case ais_whole => k_is)
    (case lis_whole => k_is)
    (case cis_whole => k_is)
    (case kis_whole => k_is)
    (case ais_number => k_is)
    (case lis_number => k_is)
    (case cis_number => k_is)
    (case kis_number => k_is)
    (case ais_name => k_is)
    (case lis_name => k_is)
    (case cis_name => k_is)
    (case kis_name => k_is)
    (case abag => k_is)
    (case lbag => k_is)
    (case cbag => k_is)
    (case kbag => k_is)
    (case adraw => k_is)
    (case ldraw => k_is)
    (case cdraw => k_is)
    (case kdraw => k_is)
    (case aof => k_is)
    (case lof => k_is)
    (case cof => k_is)
    (case kof => k_is)
    (case aodd => k_is)
    (case lodd => k_is)
    (case codd => k_is)
    (case kodd => k_is)
    (case asigns => k_is)
    (case lsigns => k_is)
    (case csigns => k_is)
    (case ksigns => k_is)
    (case aword => k_is)
    (case lword => k_is)
    (case cword => k_is)
    (case kword => k_is)
    (case avalue => k_is)
    (case lvalue => k_is)
    (case cvalue => k_is)
    (case kvalue => k_is)
    (case anamed => k_is)
    (case lnamed => k_is)
    (case cnamed => k_is)
    (case knamed => k_is)
    (case anear => k_is)
    (case lnear => k_is)
    (case cnear => k_is)
    (case knear => k_is)
    (case anumbered => k_is)
    (case lnumbered => k_is)
    (case cnumbered => k_is)
    (case knumbered => k_is)
    (case abounds => k_is)
    (case lbounds => k_is)
    (case cbounds => k_is)
    (case kbounds => k_is)
    (case ais => k_is)
    (case lis => k_is)
    (case cis => k_is)
    (case kis => k_is)
    (case alaw => k_is)
    (case llaw => k_is)
    (case claw => k_is)
    (case klaw => k_is)
    (case zabs => k_is)
    (case zall => k_is)
    (case zbool => k_is)
    (case zint => k_is)
    (case zisinstance => k_is)
    (case zlen => k_is)
    (case zlist => k_is)
    (case zmax => k_is)
    (case zmin => k_is)
    (case zord => k_is)
    (case zrange => k_is)
    (case zstr => k_is)
    (case ztuple => k_is)
    (case zzip => k_is)
    (case yDIGITS => k_is)
    (case yLETTERS => k_is)
    (case aE => k_is)
    (case xE => k_is)
    (case saE => k_is)
    (case exE => k_is)
    (case tyE => k_is)
    (case kpE => k_is)
    (case iE => k_is)
    (case tIE => k_is)
    (case hgaE => k_is)
    (case hgtE => k_is)
    (case haE => k_is)
    (case hnE => k_is)
    (case htkE => k_is)
    (case hmE => k_is)
    (case k1E => k_is)
    (case k2E => k_is)
    (case k3E => k_is)
    (case lI => k_is)
    (case cI => k_is)
    (case kI => k_is)
    (case nvE => k_is)
    (case ncE => k_is)