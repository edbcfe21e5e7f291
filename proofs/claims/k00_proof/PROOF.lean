import PyProof.Rows.All
import Wide.All
import OpenK.AllK
import Wide.FinOn
import HandS.ForMost
import HandS.ForExc
import HandS.Evl
import HandS.Wide
import HandS.Style
import HandS.Gcd
import HandS.Defaults
import HandS.CallLocal
import HandS.FStr
import HandS.IsInst
import HandS.ExcInit
import HandS.ExcField
import HandS.Small
import HandS.HeadEnd
import HandS.Head0
import HandS.Head1
import HandS.Head2
import HandS.HeadHook1
import HandS.HeadHook2
import HandS.ExcValue
import HandS.ExcIs
import HandS.TryMany
import KE.KExcIs
import HandS.MakeKwOnly
import HandS.Head3
import PySem.Challenge.RW_neverfactored_k00_whole_errors_side_by_s
set_option Elab.async false
set_option linter.all false
set_option autoImplicit false
set_option maxRecDepth 100000
set_option exponentiation.threshold 10000
set_option maxHeartbeats 0
/-! # The data layer: what a def does, told by plain data. -/
namespace DL
open PySem L2
open Evl (Ex Ex.refl Ex.trans Ex.new)

/-- data | a value as it stands | an own list that may change | a caught error at a, its fields in the dict at d | whatever stays when the heap grows -/
inductive DV where
  | d (x : PyData)
  | v (u : V)
  | o (xs : List PyData)
  | x (a d : Addr) (fs : List (Str × PyData))
  | p (R : PySem.W.Frag → Hp → V → Prop) (m : ∀ {K : PySem.W.Frag} {H H' : Hp} {u : V}, Ex H H' → R K H u → R K H' u)
abbrev DSt := List (Option DV)
abbrev DI (i : Int) : DV := .d (.int i)
abbrev DB (b : Bool) : DV := .d (.bool b)
abbrev DS (s : Str) : DV := .d (.str s)
abbrev DN : DV := .d .none

theorem dp_mono {K : PySem.W.Frag} {H H' : Hp} (e : Ex H H') : ∀ {u : V} {x : PyData}, Dp K H u x → Dp K H' u x := by
  intro u x h
  refine Dp.rec (motive_1 := fun u x _ => Dp K H' u x) (motive_2 := fun us xs _ => DpAll K H' us xs) ?_ ?_ ?_ ?_ ?_ ?_ ?_ ?_ h
  · exact .non
  · exact fun b => .bl b
  · exact fun i => .int i
  · exact fun s => .str s
  · exact fun hs _ ih => .lst (Evl.ex_l e hs) ih
  · exact fun hs _ ih => .tup (Evl.ex_t e hs) ih
  · exact .nil
  · exact fun _ _ h1 h2 => .cons h1 h2
theorem dpa_mono {K : PySem.W.Frag} {H H' : Hp} (e : Ex H H') : ∀ {us : List V} {xs : List PyData}, DpAll K H us xs → DpAll K H' us xs
  | [], [], _ => .nil
  | _, _, .cons h t => .cons (dp_mono e h) (dpa_mono e t)
theorem dpa_len {K : PySem.W.Frag} {H : Hp} : ∀ {us : List V} {xs : List PyData}, DpAll K H us xs → us.length = xs.length
  | _, _, .nil => rfl
  | _, _, .cons _ t => congrArg Nat.succ (dpa_len t)
theorem dpa_get {K : PySem.W.Frag} {H : Hp} : ∀ {us : List V} {xs : List PyData} {i : Nat} {x : PyData}, DpAll K H us xs → xs[i]? = some x → ∃ u, us[i]? = some u ∧ Dp K H u x
  | _, _, _, _, .nil, e => by simp at e
  | _, _, 0, _, .cons h _, e => by simp at e; subst e; exact ⟨_, rfl, h⟩
  | _, _, i + 1, x, .cons _ t, e => by
    obtain ⟨u, h1, h2⟩ := dpa_get (i := i) (x := x) t (by simpa using e)
    exact ⟨u, by simpa using h1, h2⟩
theorem dpa_get' {K : PySem.W.Frag} {H : Hp} : ∀ {us : List V} {xs : List PyData} {i : Nat} {u : V}, DpAll K H us xs → us[i]? = some u → ∃ x, xs[i]? = some x ∧ Dp K H u x
  | _, _, _, _, .nil, e => by simp at e
  | _, _, 0, _, .cons h _, e => by simp at e; subst e; exact ⟨_, rfl, h⟩
  | _, _, i + 1, u, .cons _ t, e => by
    obtain ⟨x, h1, h2⟩ := dpa_get' (i := i) (u := u) t (by simpa using e)
    exact ⟨x, by simpa using h1, h2⟩
theorem dpa_append {K : PySem.W.Frag} {H : Hp} : ∀ {us ws : List V} {xs ys : List PyData}, DpAll K H us xs → DpAll K H ws ys → DpAll K H (us ++ ws) (xs ++ ys)
  | _, _, _, _, .nil, s => s
  | _, _, _, _, .cons r t, s => .cons r (dpa_append t s)
theorem dpa_take {K : PySem.W.Frag} {H : Hp} : ∀ {us : List V} {xs : List PyData} (n : Nat), DpAll K H us xs → DpAll K H (us.take n) (xs.take n)
  | _, _, 0, _ => .nil
  | _, _, _ + 1, .nil => .nil
  | _, _, n + 1, .cons r t => .cons r (dpa_take n t)
theorem dpa_drop {K : PySem.W.Frag} {H : Hp} : ∀ {us : List V} {xs : List PyData} (n : Nat), DpAll K H us xs → DpAll K H (us.drop n) (xs.drop n)
  | _, _, 0, r => r
  | _, _, _ + 1, .nil => .nil
  | _, _, n + 1, .cons _ t => dpa_drop n t
theorem dpa_set {K : PySem.W.Frag} {H : Hp} {u : V} {x : PyData} (r : Dp K H u x) : ∀ {us : List V} {xs : List PyData} (i : Nat), DpAll K H us xs → DpAll K H (us.set i u) (xs.set i x)
  | _, _, _, .nil => .nil
  | _, _, 0, .cons _ t => .cons r t
  | _, _, i + 1, .cons q t => .cons q (dpa_set r i t)

/-- the heap without what is held back -/
def Rs (S : Addr → Bool) (H : Hp) : Hp := fun b => if S b then none else H b
theorem Rs.sub {S : Addr → Bool} {H : Hp} : Ex (Rs S H) H := fun b o h => by
  unfold Rs at h
  split at h
  · cases h
  · exact h
theorem Rs.mono {S : Addr → Bool} {H H' : Hp} (e : Ex H H') : Ex (Rs S H) (Rs S H') := fun b o h => by
  unfold Rs at h ⊢
  split at h
  · cases h
  · rename_i hs
    rw [if_neg hs]
    exact e b o h

structure Fm where
  K : PySem.W.Frag
  S : Addr → Bool
  old : Addr → Prop
  I : Hp → Prop
  stab : ∀ {H H'}, I H → Ex H H' → I H'
  al : ∀ {H b}, I H → old b → H b ≠ none
  so : ∀ {b}, S b = true → old b
  put : ∀ {H : Hp} {p : Addr} {us us' : List V}, I H → H p = some (.lst us) → ¬ old p → I (upd H p (.lst us'))
/-- the frame of a pure def, called over H -/
def F0 (K : PySem.W.Frag) (H0 : Hp) : Fm where
  K := K
  S := fun _ => false
  old := fun b => H0 b ≠ none
  I := fun H => ∀ b, H0 b ≠ none → H b ≠ none
  stab := fun {H H'} h e b hb => by
    have := h b hb
    cases q : H b with
    | none => exact absurd q this
    | some o =>
      rw [e b o q]
      exact fun z => by cases z
  al := fun h hb => h _ hb
  so := fun h => by cases h
  put := fun {H p us us'} h hp _ b hb => by
    by_cases e : b = p
    · subst e
      rw [upd_same]
      exact fun z => by cases z
    · rw [upd_ne e]
      exact h b hb

structure Stp (F : Fm) (G H G' H' : Hp) : Prop where
  gg : Ex G G'
  gh : Ex G' (Rs F.S H')
  nw : ∀ b, H b ≠ none → G b = none → G' b = none
  hh : Ex (Rs F.S H) (Rs F.S H')
  inv : F.I H'
theorem Stp.al {F : Fm} {G H G' H' : Hp} (s : Stp F G H G' H') {b : Addr} (h : H b ≠ none) : H' b ≠ none := by
  by_cases hs : F.S b = true
  · exact F.al s.inv (F.so hs)
  · cases e : H b with
    | none => exact absurd e h
    | some o =>
      have := s.hh b o (by unfold Rs; rw [if_neg hs]; exact e)
      unfold Rs at this
      rw [if_neg hs] at this
      rw [this]
      exact fun z => by cases z
theorem Stp.trans {F : Fm} {G H G1 H1 G2 H2 : Hp} (a : Stp F G H G1 H1) (b : Stp F G1 H1 G2 H2) : Stp F G H G2 H2 :=
  ⟨a.gg.trans b.gg, b.gh, fun c h g => b.nw c (a.al h) (a.nw c h g), a.hh.trans b.hh, b.inv⟩
theorem Stp.refl {F : Fm} {G H : Hp} (i : F.I H) (g : Ex G (Rs F.S H)) : Stp F G H G H := ⟨Ex.refl G, g, fun _ _ h => h, Ex.refl _, i⟩
theorem rs_ne {S : Addr → Bool} {H : Hp} {b : Addr} (h : S b = false) : Rs S H b = H b := if_neg (by rw [h]; decide)
theorem ex_nm {H H' : Hp} (e : Ex H H') (b : Addr) (h : H b ≠ none) : H' b ≠ none := by
  cases q : H b with
  | none => exact absurd q h
  | some o =>
    rw [e b o q]
    exact fun z => by cases z
/-- a list that is not held back is kept -/
theorem own_keep {F : Fm} {G H G' H' : Hp} (s : Stp F G H G' H') {p : Addr} {us : List V} (hs : ¬ F.old p) (h : H p = some (.lst us)) : H' p = some (.lst us) := by
  have hs : F.S p = false := by
    cases e : F.S p with
    | false => rfl
    | true => exact absurd (F.so e) hs
  have := s.hh p _ ((rs_ne hs).trans h)
  rw [rs_ne hs] at this
  exact this
/-- u stands for x over the frame: an own list is new, and no part of what stays; its address is none of what stays until it is let go -/
def RV (F : Fm) (G H : Hp) : V → DV → Prop
  | u, .d x => Dp F.K G u x
  | u, .v w => u = w
  | u, .o xs => ∃ p us, u = .ref p ∧ H p = some (.lst us) ∧ G p = none ∧ ¬ F.old p ∧ DpAll F.K G us xs
  | u, .x a d fs => u = .ref a ∧ ∃ fv, G d = some (.xd fv) ∧ fv.map (·.1) = fs.map (·.1) ∧ DpAll F.K G (fv.map (·.2)) (fs.map (·.2))
  | u, .p R _ => R F.K G u
theorem RV.d {F : Fm} {G H : Hp} {u : V} {x : PyData} (h : Dp F.K G u x) : RV F G H u (.d x) := h
theorem RV.dp {F : Fm} {G H : Hp} {u : V} {x : PyData} (h : RV F G H u (.d x)) : Dp F.K G u x := h
theorem RV.step {F : Fm} {G H G' H' : Hp} (s : Stp F G H G' H') {u : V} {x : DV} (h : RV F G H u x) : RV F G' H' u x := by
  cases x with
  | d x => exact dp_mono s.gg h
  | v w => exact h
  | o xs =>
    obtain ⟨p, us, e, hp, gp, no, a⟩ := h
    exact ⟨p, us, e, own_keep s no hp, s.nw p (by rw [hp]; exact fun z => by cases z) gp, no, dpa_mono s.gg a⟩
  | x a d fs =>
    obtain ⟨e, fv, hd, hn, ha⟩ := h
    exact ⟨e, fv, s.gg d _ hd, hn, dpa_mono s.gg ha⟩
  | p R m => exact m s.gg h
def RVs (F : Fm) (G H : Hp) : List V → List DV → Prop
  | [], [] => True
  | u :: us, x :: xs => RV F G H u x ∧ RVs F G H us xs
  | _, _ => False
theorem RVs.step {F : Fm} {G H G' H' : Hp} (s : Stp F G H G' H') : ∀ {us : List V} {xs : List DV}, RVs F G H us xs → RVs F G' H' us xs
  | [], [], _ => trivial
  | _ :: _, _ :: _, h => ⟨RV.step s h.1, RVs.step s h.2⟩
  | [], _ :: _, h => h.elim
  | _ :: _, [], h => h.elim
theorem RVs.len {F : Fm} {G H : Hp} : ∀ {us : List V} {xs : List DV}, RVs F G H us xs → us.length = xs.length
  | [], [], _ => rfl
  | _ :: _, _ :: _, h => congrArg Nat.succ (RVs.len h.2)
  | [], _ :: _, h => h.elim
  | _ :: _, [], h => h.elim

/-- the slots -/
structure SL (F : Fm) (G H : Hp) (σ : L2.St) (δ : DSt) : Prop where
  len : σ.length = δ.length
  at_ : ∀ (i : Nat) (x : DV), δ[i]? = some (some x) → ∃ u, σ[i]? = some (some u) ∧ RV F G H u x
  own : ∀ (i j : Nat) (xs ys : List PyData), i ≠ j → δ[i]? = some (some (.o xs)) → δ[j]? = some (some (.o ys)) → σ[i]? ≠ σ[j]?
theorem SL.step {F : Fm} {G H G' H' : Hp} {σ : L2.St} {δ : DSt} (s : Stp F G H G' H') (h : SL F G H σ δ) : SL F G' H' σ δ :=
  ⟨h.len, fun i x e => let ⟨u, a, b⟩ := h.at_ i x e; ⟨u, a, b.step s⟩, h.own⟩

/-- what is wanted of an exception: its class, its fields -/
abbrev XP := Addr → List (Str × DV) → Prop
abbrev X0 : XP := fun _ _ => False
def XS (F : Fm) (X : XK) (G H : Hp) (Xp : XP) : Prop := ∀ C fs G' H', Stp F G H G' H' → Xp C fs →
  (fs = [] → X (.ref C) none H') ∧ ∀ (d : Addr) (fv : List (Str × V)), G' d = some (.xd fv) → (fv.map (·.1) = fs.map (·.1)) → RVs F G' H' (fv.map (·.2)) (fs.map (·.2)) → X (.ref C) (some d) H'
abbrev XW := L2.St → XK
structure Cur (F : Fm) (X : XW) (G H : Hp) (σ : L2.St) (δ : DSt) (Xp : XP) : Prop where
  inv : F.I H
  gh : Ex G (Rs F.S H)
  sl : SL F G H σ δ
  xs : XS F (X σ) G H Xp
theorem Cur.step {F : Fm} {X : XW} {G H G' H' : Hp} {σ : L2.St} {δ : DSt} {Xp : XP} (c : Cur F X G H σ δ Xp) (s : Stp F G H G' H') : Cur F X G' H' σ δ Xp :=
  ⟨s.inv, s.gh, c.sl.step s, fun C fs G2 H2 s2 h => c.xs C fs G2 H2 (s.trans s2) h⟩
theorem Cur.here {F : Fm} {X : XW} {G H : Hp} {σ : L2.St} {δ : DSt} {Xp : XP} (c : Cur F X G H σ δ Xp) : Stp F G H G H := Stp.refl c.inv c.gh

def ED (F : Fm) (X : XW) (te : TE) (δ : DSt) (Xp : XP) (P : DV → Prop) : Prop := ∀ σ H G, Cur F X G H σ δ Xp → ∀ Q : VK, (∀ u x H' G', Stp F G H G' H' → RV F G' H' u x → P x → Q u H') → te σ H Q
def ET (F : Fm) (X : XW) (tt : TT) (δ : DSt) (Xp : XP) (P : Bool → Prop) : Prop := ∀ σ H G, Cur F X G H σ δ Xp → ∀ Q : Bool → Hp → Prop, (∀ b H' G', Stp F G H G' H' → P b → Q b H') → tt σ H Q
def EA (F : Fm) (X : XW) (ta : TA) (δ : DSt) (Xp : XP) (P : List DV → Prop) : Prop := ∀ σ H G, Cur F X G H σ δ Xp → ∀ Q : List V → Hp → Prop, (∀ us xs H' G', Stp F G H G' H' → RVs F G' H' us xs → P xs → Q us H') → ta σ H Q
/-- an operation on two values; on one; a call on values -/
def D2 (F : Fm) (r : R2) (x y : DV) (P : DV → Prop) : Prop := ∀ u w H G, F.I H → Ex G (Rs F.S H) → RV F G H u x → RV F G H w y → ∀ Q : VK, (∀ z c H' G', Stp F G H G' H' → RV F G' H' z c → P c → Q z H') → r u w H Q
def D1 (F : Fm) (r : V → Hp → VK → Prop) (x : DV) (P : DV → Prop) : Prop := ∀ u H G, F.I H → Ex G (Rs F.S H) → RV F G H u x → ∀ Q : VK, (∀ z c H' G', Stp F G H G' H' → RV F G' H' z c → P c → Q z H') → r u H Q
def DC (F : Fm) (r : List V → Hp → VK → Prop) (xs : List DV) (P : DV → Prop) : Prop := ∀ us H G, F.I H → Ex G (Rs F.S H) → RVs F G H us xs → ∀ Q : VK, (∀ z c H' G', Stp F G H G' H' → RV F G' H' z c → P c → Q z H') → r us H Q

section
variable {F : Fm} {X : XW} {δ : DSt} {Xp : XP} {P : DV → Prop} {ta tb te : TE} {t u : TT} {r : R2}
theorem ED.mono {P' : DV → Prop} (h : ED F X te δ Xp P) (k : ∀ x, P x → P' x) : ED F X te δ Xp P' := fun σ H G c Q q => h σ H G c Q fun u x H' G' s rv p => q u x H' G' s rv (k x p)
theorem ed_var {i : Nat} {x : DV} (h : δ[i]? = some (some x)) (p : P x) : ED F X (tVar i) δ Xp P := fun σ H G c Q q =>
  let ⟨u, a, b⟩ := c.sl.at_ i x h
  ⟨u, a, q u x H G c.here b p⟩
theorem ed_int {i : Int} (p : P (DI i)) : ED F X (tC (.int i)) δ Xp P := fun _ H G c _ q => q _ _ H G c.here (.d (.int i)) p
theorem ed_bl {b : Bool} (p : P (DB b)) : ED F X (tC (.bl b)) δ Xp P := fun _ H G c _ q => q _ _ H G c.here (.d (.bl b)) p
theorem ed_non (p : P DN) : ED F X (tC .non) δ Xp P := fun _ H G c _ q => q _ _ H G c.here (.d .non) p
theorem ed_str {s : Str} (p : P (DS s)) : ED F X (tC (.str s)) δ Xp P := fun _ H G c _ q => q _ _ H G c.here (.d (.str s)) p
theorem ed_raw {w : V} (p : P (.v w)) : ED F X (tC w) δ Xp P := fun _ H G c _ q => q w (.v w) H G c.here (rfl : w = w) p
/-- a constant of the module that is data -/
theorem ed_con {w : V} {x : PyData} (hx : ∀ G, Dp F.K G w x) (p : P (.d x)) : ED F X (tC w) δ Xp P := fun _ H G c _ q => q _ _ H G c.here (.d (hx G)) p
theorem ed_op (h : ED F X ta δ Xp fun x => ED F X tb δ Xp fun y => D2 F r x y P) : ED F X (tOp r ta tb) δ Xp P := fun σ H G c Q q =>
  h σ H G c _ fun u x H1 G1 s1 r1 h1 => h1 σ H1 G1 (c.step s1) _ fun w y H2 G2 s2 r2 h2 => h2 u w H2 G2 s2.inv s2.gh (r1.step s2) r2 Q fun z d H3 G3 s3 r3 p => q z d H3 G3 ((s1.trans s2).trans s3) r3 p
theorem ed_un {r : V → Hp → VK → Prop} (h : ED F X ta δ Xp fun x => D1 F r x P) : ED F X (tUn r ta) δ Xp P := fun σ H G c Q q =>
  h σ H G c _ fun u x H1 G1 s1 r1 h1 => h1 u H1 G1 s1.inv s1.gh r1 Q fun z d H2 G2 s2 r2 p => q z d H2 G2 (s1.trans s2) r2 p
theorem ea_nil {P : List DV → Prop} (p : P []) : EA F X tNil δ Xp P := fun _ H G c _ q => q [] [] H G c.here trivial p
theorem ea_cons {tr : TA} {P : List DV → Prop} (h : ED F X ta δ Xp fun x => EA F X tr δ Xp fun xs => P (x :: xs)) : EA F X (tCons ta tr) δ Xp P := fun σ H G c Q q =>
  h σ H G c _ fun u x H1 G1 s1 r1 h1 => h1 σ H1 G1 (c.step s1) _ fun us xs H2 G2 s2 r2 p => q (u :: us) (x :: xs) H2 G2 (s1.trans s2) (show RVs F G2 H2 (u :: us) (x :: xs) from ⟨r1.step s2, r2⟩) p
theorem ed_cb {r : List V → Hp → VK → Prop} {ta : TA} (h : EA F X ta δ Xp fun xs => DC F r xs P) : ED F X (tCB r ta) δ Xp P := fun σ H G c Q q =>
  h σ H G c _ fun us xs H1 G1 s1 r1 h1 => h1 us H1 G1 s1.inv s1.gh r1 Q fun z d H2 G2 s2 r2 p => q z d H2 G2 (s1.trans s2) r2 p
theorem et_tst {Pb : Bool → Prop} (h : ED F X te δ Xp fun x => ∃ b, x = DB b ∧ Pb b) : ET F X (tTest te) δ Xp Pb := fun σ H G c Q q =>
  h σ H G c _ fun u x H1 G1 s1 r1 ⟨b, e, p⟩ => by
    subst e
    cases r1.dp
    exact ⟨b, rfl, q b H1 G1 s1 p⟩
theorem et_b {Pb : Bool → Prop} (h : ED F X te δ Xp fun x => ∃ b, x = DB b ∧ Pb b) : ET F X (tB te) δ Xp Pb := fun σ H G c Q q =>
  h σ H G c _ fun u x H1 G1 s1 r1 ⟨b, e, p⟩ => by
    subst e
    cases r1.dp
    exact ⟨b, rfl, q b H1 G1 s1 p⟩
theorem et_and {Pb : Bool → Prop} (h : ET F X t δ Xp fun a => if a = true then ET F X u δ Xp Pb else Pb false) : ET F X (tAnd t u) δ Xp Pb := fun σ H G c Q q =>
  h σ H G c _ fun a H1 G1 s1 h1 => by
    cases a with
    | true =>
      show u σ H1 Q
      exact (show ET F X u δ Xp Pb from h1) σ H1 G1 (c.step s1) Q fun b H2 G2 s2 p => q b H2 G2 (s1.trans s2) p
    | false => exact q false H1 G1 s1 h1
theorem et_or {Pb : Bool → Prop} (h : ET F X t δ Xp fun a => if a = true then Pb true else ET F X u δ Xp Pb) : ET F X (tOr t u) δ Xp Pb := fun σ H G c Q q =>
  h σ H G c _ fun a H1 G1 s1 h1 => by
    cases a with
    | true => exact q true H1 G1 s1 h1
    | false =>
      show u σ H1 Q
      exact (show ET F X u δ Xp Pb from h1) σ H1 G1 (c.step s1) Q fun b H2 G2 s2 p => q b H2 G2 (s1.trans s2) p
theorem et_not {Pb : Bool → Prop} (h : ET F X t δ Xp fun a => Pb (!a)) : ET F X (tNot t) δ Xp Pb := fun σ H G c Q q => h σ H G c _ fun a H1 G1 s1 p => q (!a) H1 G1 s1 p
theorem ed_andV (h : ED F X ta δ Xp fun x => ∃ a, x = DB a ∧ if a = true then ED F X tb δ Xp P else P (DB false)) : ED F X (tAndV ta tb) δ Xp P := fun σ H G c Q q =>
  h σ H G c _ fun u x H1 G1 s1 r1 ⟨a, e, h1⟩ => by
    subst e
    cases r1.dp
    refine ⟨a, rfl, ?_⟩
    cases a with
    | true =>
      show tb σ H1 Q
      exact (show ED F X tb δ Xp P from h1) σ H1 G1 (c.step s1) Q fun z d H2 G2 s2 r2 p => q z d H2 G2 (s1.trans s2) r2 p
    | false => exact q _ (DB false) H1 G1 s1 (.d (.bl false)) h1
theorem ed_orV (h : ED F X ta δ Xp fun x => ∃ a, x = DB a ∧ if a = true then P (DB true) else ED F X tb δ Xp P) : ED F X (tOrV ta tb) δ Xp P := fun σ H G c Q q =>
  h σ H G c _ fun u x H1 G1 s1 r1 ⟨a, e, h1⟩ => by
    subst e
    cases r1.dp
    refine ⟨a, rfl, ?_⟩
    cases a with
    | true => exact q _ (DB true) H1 G1 s1 (.d (.bl true)) h1
    | false =>
      show tb σ H1 Q
      exact (show ED F X tb δ Xp P from h1) σ H1 G1 (c.step s1) Q fun z d H2 G2 s2 r2 p => q z d H2 G2 (s1.trans s2) r2 p
theorem ed_notV (h : ED F X ta δ Xp fun x => ∃ a, x = DB a ∧ P (DB (!a))) : ED F X (tNotV ta) δ Xp P := fun σ H G c Q q =>
  h σ H G c _ fun u x H1 G1 s1 r1 ⟨a, e, h1⟩ => by
    subst e
    cases r1.dp
    exact ⟨a, rfl, q _ (DB (!a)) H1 G1 s1 (.d (.bl _)) h1⟩
theorem ed_if (h : ET F X t δ Xp fun b => if b = true then ED F X ta δ Xp P else ED F X tb δ Xp P) : ED F X (tIf t ta tb) δ Xp P := fun σ H G c Q q =>
  h σ H G c _ fun b H1 G1 s1 h1 => by
    cases b with
    | true =>
      show ta σ H1 Q
      exact (show ED F X ta δ Xp P from h1) σ H1 G1 (c.step s1) Q fun z d H2 G2 s2 r2 p => q z d H2 G2 (s1.trans s2) r2 p
    | false =>
      show tb σ H1 Q
      exact (show ED F X tb δ Xp P from h1) σ H1 G1 (c.step s1) Q fun z d H2 G2 s2 r2 p => q z d H2 G2 (s1.trans s2) r2 p
/-! ### new tuples and lists -/
/-- the values are data -/
def AllD : List DV → List PyData → Prop
  | [], [] => True
  | .d x :: xs, y :: ys => x = y ∧ AllD xs ys
  | _, _ => False
theorem AllD.dp : ∀ {us : List V} {xs : List DV} {ys : List PyData} {G H : Hp}, RVs F G H us xs → AllD xs ys → DpAll F.K G us ys
  | [], [], [], _, _, _, _ => .nil
  | _ :: _, .d _ :: _, _ :: _, _, _, h, a => by
    obtain ⟨rfl, a2⟩ := a
    exact .cons h.1.dp (AllD.dp h.2 a2)
  | [], [], _ :: _, _, _, _, a => a.elim
  | [], _ :: _, _, _, _, h, _ => h.elim
  | _ :: _, [], _, _, _, h, _ => h.elim
  | _ :: _, .v _ :: _, _, _, _, _, a => a.elim
  | _ :: _, .o _ :: _, _, _, _, _, a => a.elim
  | _ :: _, .x _ _ _ :: _, _, _, _, _, a => a.elim
  | _ :: _, .p _ _ :: _, _, _, _, _, a => a.elim
  | _ :: _, .d _ :: _, [], _, _, _, a => a.elim
theorem stp_new {G H : Hp} {p : Addr} {o : HO} (i : F.I H) (g : Ex G (Rs F.S H)) (h : H p = none) : Stp F G H (upd G p o) (upd H p o) := by
  have gp : G p = none := by
    cases e : G p with
    | none => rfl
    | some u =>
      have := Rs.sub p _ (g p u e)
      rw [h] at this
      cases this
  have sp : F.S p = false := by
    cases e : F.S p with
    | false => rfl
    | true => exact absurd h (F.al i (F.so e))
  refine ⟨Ex.new gp, fun b u e => ?_, fun b hb gb => ?_, Rs.mono (Ex.new h), F.stab i (Ex.new h)⟩
  · by_cases hb : b = p
    · subst hb
      rw [upd_same] at e
      cases e
      rw [rs_ne sp]
      exact upd_same
    · rw [upd_ne hb] at e
      exact Rs.mono (Ex.new h) b u (g b u e)
  · by_cases hbp : b = p
    · subst hbp
      exact absurd h hb
    · rw [upd_ne hbp]
      exact gb
theorem upd_dpa {K : PySem.W.Frag} {G : Hp} {p : Addr} {o : HO} {us : List V} {xs : List PyData} (gp : G p = none) (h : DpAll K G us xs) : DpAll K (upd G p o) us xs := dpa_mono (Ex.new gp) h
theorem g_free {G H : Hp} {p : Addr} (g : Ex G (Rs F.S H)) (h : H p = none) : G p = none := by
  cases e : G p with
  | none => rfl
  | some u =>
    have := Rs.sub p _ (g p u e)
    rw [h] at this
    cases this
theorem new_tup {G H : Hp} {p : Addr} {us : List V} {xs : List PyData} (g : Ex G (Rs F.S H)) (h : H p = none) (a : DpAll F.K G us xs) : RV F (upd G p (.tup us)) (upd H p (.tup us)) (.ref p) (.d (.tuple xs)) :=
  .d (.tup (Evl.st_of upd_same) (upd_dpa (g_free g h) a))
theorem new_lst {G H : Hp} {p : Addr} {us : List V} {xs : List PyData} (g : Ex G (Rs F.S H)) (h : H p = none) (a : DpAll F.K G us xs) : RV F (upd G p (.lst us)) (upd H p (.lst us)) (.ref p) (.d (.list xs)) :=
  .d (.lst (Evl.sq_of upd_same) (upd_dpa (g_free g h) a))
theorem ed_tup {ta : TA} (h : EA F X ta δ Xp fun xs => ∃ ys, AllD xs ys ∧ ys.length ≤ 100000 ∧ P (.d (.tuple ys))) : ED F X (tTup ta) δ Xp P := fun σ H G c Q q =>
  h σ H G c _ fun us xs H1 G1 s1 r1 ⟨ys, a, l, p⟩ =>
    have d := AllD.dp r1 a
    ⟨Evl.sz_of (by rw [dpa_len d]; exact l), fun z hz => q _ _ _ _ (s1.trans (stp_new s1.inv s1.gh hz)) (new_tup s1.gh hz d) p⟩
theorem ed_lst {ta : TA} (h : EA F X ta δ Xp fun xs => ∃ ys, AllD xs ys ∧ ys.length ≤ 100000 ∧ P (.d (.list ys))) : ED F X (tLst ta) δ Xp P := fun σ H G c Q q =>
  h σ H G c _ fun us xs H1 G1 s1 r1 ⟨ys, a, l, p⟩ =>
    have d := AllD.dp r1 a
    ⟨Evl.sz_of (by rw [dpa_len d]; exact l), fun z hz => q _ _ _ _ (s1.trans (stp_new s1.inv s1.gh hz)) (new_lst s1.gh hz d) p⟩

/-! ### promises by plain data -/
/-- what a def does with its arguments, told by plain data: n of them; T: from the data, what is wanted of an exception and of the value -/
abbrev TD := List DV → XP → (DV → Prop) → Prop
/-- not an own list -/
def Plain : DV → Prop
  | .o _ => False
  | _ => True
def Plains (xs : List DV) : Prop := ∀ x ∈ xs, Plain x
theorem plains_nil : Plains [] := fun _ h => by cases h
theorem plains_cons {x : DV} {xs : List DV} (h : Plain x) (t : Plains xs) : Plains (x :: xs) := fun y m => by
  rcases List.mem_cons.mp m with rfl | m
  · exact h
  · exact t y m
def spT (K : PySem.W.Frag) (n : Nat) (T : TD) : Sp := fun vs H Q E => ∃ G ds Xp P, Ex G H ∧ ds.length = n ∧ Plains ds ∧ RVs (F0 K H) G H vs ds ∧ T ds Xp P ∧ XS (F0 K H) E G H Xp ∧
  ∀ u x H' G', Stp (F0 K H) G H G' H' → RV (F0 K H) G' H' u x → P x → Q u H'
theorem spT_len {K : PySem.W.Frag} {n : Nat} {T : TD} {vs : List V} {H : Hp} {Q : VK} {E : XK} (h : spT K n T vs H Q E) : vs.length = n := by
  obtain ⟨G, ds, Xp, P, _, l, _, r, _⟩ := h
  rw [← l]
  exact RVs.len r
theorem rs0 {H : Hp} : Rs (fun _ => false) H = H := by
  funext b
  exact if_neg Bool.false_ne_true
theorem stp_of0 {G H G' H' : Hp} (i : F.I H) (s : Stp (F0 F.K H) G H G' H') (g : Ex G (Rs F.S H)) : Stp F G H G' H' := by
  have hh : Ex H H' := by
    have := s.hh
    show Ex H H'
    have e1 : Rs (F0 F.K H).S H = H := rs0
    have e2 : Rs (F0 F.K H).S H' = H' := rs0
    rw [e1, e2] at this
    exact this
  have gh : Ex G' H' := by
    have := s.gh
    have e2 : Rs (F0 F.K H).S H' = H' := rs0
    rw [e2] at this
    exact this
  refine ⟨s.gg, fun b o e => ?_, s.nw, Rs.mono hh, F.stab i hh⟩
  have hs : F.S b = false := by
    cases e2 : F.S b with
    | false => rfl
    | true =>
      have h1 : G b = none := by
        cases e3 : G b with
        | none => rfl
        | some u =>
          have := g b u e3
          unfold Rs at this
          rw [if_pos e2] at this
          cases this
      have := s.nw b (F.al i (F.so e2)) h1
      rw [this] at e
      cases e
  rw [rs_ne hs]
  exact gh b o e
theorem rv_plain {F' : Fm} {G H H1 : Hp} (k : F'.K = F.K) {u : V} {x : DV} (p : Plain x) (r : RV F G H u x) : RV F' G H1 u x := by
  cases x with
  | d x =>
    show Dp F'.K G u x
    rw [k]
    exact r
  | v w => exact r
  | o xs => exact p.elim
  | x a d fs =>
    show u = .ref a ∧ ∃ fv, G d = some (.xd fv) ∧ fv.map (·.1) = fs.map (·.1) ∧ DpAll F'.K G (fv.map (·.2)) (fs.map (·.2))
    rw [k]
    exact r
  | p R m =>
    show R F'.K G u
    rw [k]
    exact r
theorem rvs_plain {F' : Fm} {G H H1 : Hp} (k : F'.K = F.K) : ∀ {us : List V} {xs : List DV}, Plains xs → RVs F G H us xs → RVs F' G H1 us xs
  | [], [], _, _ => trivial
  | _ :: _, _ :: _, p, h => ⟨rv_plain k (p _ (List.mem_cons_self ..)) h.1, rvs_plain k (fun x m => p x (List.mem_cons_of_mem _ m)) h.2⟩
  | [], _ :: _, _, h => h.elim
  | _ :: _, [], _, h => h.elim
theorem RVs.append {G H : Hp} : ∀ {us ws : List V} {xs ys : List DV}, RVs F G H us xs → RVs F G H ws ys → RVs F G H (us ++ ws) (xs ++ ys)
  | [], _, [], _, _, s => s
  | _ :: _, _, _ :: _, _, h, s => ⟨h.1, RVs.append h.2 s⟩
  | [], _, _ :: _, _, h, _ => h.elim
  | _ :: _, _, [], _, h, _ => h.elim
/-- a call of a def that keeps spT: dvs, its defaults, stand for dds -/
theorem ed_callD {n : Nat} {T : TD} {dvs : List V} {dds : List DV} {E : XK} {ta : TA} (hd : ∀ F' : Fm, F'.K = F.K → ∀ G H, RVs F' G H dvs dds) (hp : Plains dds)
    (h : EA F X ta δ Xp fun xs => (xs ++ dds).length = n ∧ Plains xs ∧ T (xs ++ dds) X0 fun z => Plain z ∧ P z) : ED F X (tCall (spT F.K n T) dvs E ta) δ Xp P := fun σ H G c Q q =>
  h σ H G c _ fun us xs H1 G1 s1 r1 ⟨l, pl, t⟩ => by
    refine ⟨G1, xs ++ dds, X0, _, s1.gh.trans Rs.sub, l, ?_, (rvs_plain (F' := F0 F.K H1) (by rfl) pl r1).append (hd _ (by rfl) G1 H1), t, fun _ _ _ _ _ h => h.elim, fun u x H2 G2 s2 r2 p => ?_⟩
    · intro x m
      rcases List.mem_append.mp m with m | m
      · exact pl x m
      · exact hp x m
    · exact q u x H2 G2 (s1.trans (stp_of0 s1.inv s2 s1.gh)) (rv_plain (by rfl) p.1 r2) p.2
theorem ed_call {n : Nat} {T : TD} {E : XK} {ta : TA} (h : EA F X ta δ Xp fun xs => xs.length = n ∧ Plains xs ∧ T xs X0 fun z => Plain z ∧ P z) : ED F X (tCall (spT F.K n T) [] E ta) δ Xp P :=
  ed_callD (dds := []) (fun _ _ _ _ => trivial) plains_nil (by
    intro σ H G c Q q
    exact h σ H G c Q fun us xs H1 G1 s1 r1 ⟨l, pl, t⟩ => q us xs H1 G1 s1 r1 ⟨by rw [List.append_nil]; exact l, pl, by rw [List.append_nil]; exact t⟩)
/-- a call that may raise, E the wish of the very context -/
theorem ed_callX {n : Nat} {T : TD} {ta : TA} {XE : XK} (h : EA F (fun _ => XE) ta δ Xp fun xs => xs.length = n ∧ Plains xs ∧ T xs (fun C fs => Xp C fs ∧ Plains (fs.map (·.2))) fun z => Plain z ∧ P z) : ED F (fun _ => XE) (tCall (spT F.K n T) [] XE ta) δ Xp P := fun σ H G c Q q =>
  h σ H G c _ fun us xs H1 G1 s1 r1 ⟨l, pl, t⟩ => by
    rw [List.append_nil]
    have c1 := c.step s1
    refine ⟨G1, xs, _, _, s1.gh.trans Rs.sub, l, pl, rvs_plain (by rfl) pl r1, t, fun C fs G2 H2 s2 hx => ?_, fun u x H2 G2 s2 r2 p => ?_⟩
    · have z := c1.xs C fs G2 H2 (stp_of0 s1.inv s2 s1.gh) hx.1
      exact ⟨z.1, fun d fv e1 e2 e3 => z.2 d fv e1 e2 (rvs_plain (by rfl) hx.2 e3)⟩
    · exact q u x H2 G2 (s1.trans (stp_of0 s1.inv s2 s1.gh)) (rv_plain (by rfl) p.1 r2) p.2
/-- the same within a try -/
theorem ed_callS {n : Nat} {T : TD} {ta : TA} (h : EA F X ta δ Xp fun xs => xs.length = n ∧ Plains xs ∧ T xs (fun C fs => Xp C fs ∧ Plains (fs.map (·.2))) fun z => Plain z ∧ P z) : ED F X (tCallS (spT F.K n T) X ta) δ Xp P := fun σ H G c Q q =>
  h σ H G c _ fun us xs H1 G1 s1 r1 ⟨l, pl, t⟩ => by
    have c1 := c.step s1
    refine ⟨G1, xs, _, _, s1.gh.trans Rs.sub, l, pl, rvs_plain (by rfl) pl r1, t, fun C fs G2 H2 s2 hx => ?_, fun u x H2 G2 s2 r2 p => ?_⟩
    · have z := c1.xs C fs G2 H2 (stp_of0 s1.inv s2 s1.gh) hx.1
      exact ⟨z.1, fun d fv e1 e2 e3 => z.2 d fv e1 e2 (rvs_plain (by rfl) hx.2 e3)⟩
    · exact q u x H2 G2 (s1.trans (stp_of0 s1.inv s2 s1.gh)) (rv_plain (by rfl) p.1 r2) p.2
end
end DL

namespace L2
open PySem PySem.Spec PyProof.Rows
section
variable {X : Cx}
/-- list + list, whatever may be read as one -/
def rCatS (K : PySem.W.Frag) : R2 := fun x y H Q => ∃ l b xs zs, x = .ref l ∧ y = .ref b ∧ SqL K H l xs ∧ SqL K H b zs ∧ xs.length + zs.length ≤ sizeLine ∧ ∀ p, H p = none → Q (.ref p) (upd H p (.lst (xs ++ zs)))
theorem op_catS : OpR X (binaryOp .Add) (rCatS X.K) := by
  intro pins s σ H x y v u Q I rx ry h
  obtain ⟨l, b, xs, zs, rfl, rfl, hH, hB, hz, q⟩ := h
  cases rx
  cases ry
  obtain ⟨its, r, ⟨⟨cls, dd, data, sl⟩, n, ho, hc, _, hd⟩, z⟩ := I.list hH
  obtain ⟨its2, r2, ⟨⟨cls2, dd2, data2, sl2⟩, n2, ho2, hc2, _, hd2⟩, z2⟩ := I.list hB
  simp only at hc hd hc2 hd2
  subst hc hd hc2 hd2
  have l1 := r.length
  have l2 := r2.length
  have e : its.toArray ++ its2.toArray = (its ++ its2).toArray := by simp
  refine concat_meets ⟨_, ho, rfl⟩ ⟨_, ho2, rfl⟩ noFill_list_add seq_list_add PySem.F.slot_list_add PySem.F.entry_list_add (PySem.F.args_list_add_2 _ _) (list_addW l b its.toArray its2.toArray n n2 dd dd2 sl sl2 (by simp only [List.size_toArray]; omega)) ⟨ho, ho2, ?_⟩
  rw [e]
  exact ⟨.ref _, _, I.lnew (t' := s.toks) (r.append r2) (by rw [List.length_append]; omega), rfl, q _ I.fresh⟩
def rAddStr : R2 := fun x y H Q => ∃ i j, x = .str i ∧ y = .str j ∧ i.length + j.length ≤ sizeLine ∧ Q (.str (i ++ j)) H
def rAddU (K : PySem.W.Frag) : R2 := fun x y H Q => rI0 (fun i j => .int (i + j)) x y H Q ∨ rAddStr x y H Q ∨ rCatT K x y H Q ∨ rCatS K x y H Q
theorem op_addU : OpR X (binaryOp .Add) (rAddU X.K) := op_add.or (OpR.or op_add_str (op_catT.or op_catS))
def rSubU : R2 := rI0 fun i j => .int (i - j)
theorem op_subU : OpR X (binaryOp .Sub) rSubU := op_sub
def rMulU : R2 := fun x y H Q => rI CMulW (fun i j => .int (i * j)) x y H Q ∨ rI CMul (fun i j => .int (i * j)) x y H Q
theorem op_mulU : OpR X (binaryOp .Mult) rMulU := op_mulW.or op_mul
def rDivU : R2 := rI CDivW fun i j => .int (i / j)
theorem op_divU : OpR X (binaryOp .FloorDiv) rDivU := op_fdivW
def rModU : R2 := rI (fun _ j => 0 < j) fun i j => .int (i % j)
theorem op_modU : OpR X (binaryOp .Mod) rModU := op_mod
def rPowU : R2 := rI CPow fun i j => .int (i ^ j.toNat)
theorem op_powU : OpR X (binaryOp .Pow) rPowU := op_pow
def rLtU : R2 := rI0 fun i j => .bl (decide (i < j))
def rLeU : R2 := rI0 fun i j => .bl (decide (i ≤ j))
def rGtU : R2 := rI0 fun i j => .bl (decide (j < i))
def rGeU : R2 := rI0 fun i j => .bl (decide (j ≤ i))
def rIsU : R2 := fun x y H Q => (y = .non ∧ Q (.bl (decide (x = .non))) H) ∨ rIsB x y H Q
def rIsNU : R2 := fun x y H Q => (y = .non ∧ Q (.bl (!decide (x = .non))) H) ∨ rNotB x y H Q
theorem op_isU : OpR X (compareOp .Is) rIsU := OpR.or op_isN op_isBl
theorem op_isNU : OpR X (compareOp .IsNot) rIsNU := OpR.or op_notN op_notBl
def rNegU : V → Hp → VK → Prop := rU fun i => .int (-i)
def rIntU : List V → Hp → VK → Prop := fun xs H Q => (∃ i, xs = [.int i] ∧ Q (.int i) H) ∨ ∃ k, xs = [.bl k] ∧ Q (.int (if k then 1 else 0)) H
def rAbsU : List V → Hp → VK → Prop := fun xs H Q => ∃ i, xs = [.int i] ∧ Q (.int (if i < 0 then -i else i)) H
def rLenU (K : PySem.W.Frag) : List V → Hp → VK → Prop := fun xs H Q => ∃ x n, xs = [x] ∧ LenV K x H n ∧ Q (.int n) H
theorem call_lenU : CallR X (.builtin "len") (rLenU X.K) := call_len
theorem call_intU : CallR X (.type "int") rIntU := call_int1
theorem call_absU : CallR X (.builtin "abs") rAbsU := call_abs
def rStrU : List V → Hp → VK → Prop := fun xs H Q => ∃ i, xs = [.int i] ∧ i.natAbs.log2 < 1920 ∧ Q (.str (toString i)) H
theorem call_strU : CallR X (.type "str") rStrU := call_str_int
/-- what a for walks: a list or a tuple -/
def iSeq (K : PySem.W.Frag) (tl : TE) : TI := fun σ H R => tl σ H fun x H1 => ∃ a, x = .ref a ∧ (((∃ xs, SqL K H1 a xs) ∧ R (Itl K a) H1) ∨ ((∃ xs, SqT K H1 a xs) ∧ R (Itt K a) H1))
theorem pi_seq {tg l : Expr} {tl : TE} (hl : PE X l tl) : PI X tg l (iSeq X.K tl) := by
  refine ⟨fun pins s σ H R I h => ?_⟩
  refine thn (hl.run pins s σ H _ I h) fun v s1 ⟨x, H1, I1, r1, q1⟩ => ?_
  obtain ⟨a, e, q1⟩ := q1
  subst e
  cases r1
  rcases q1 with ⟨⟨xs, hq⟩, q⟩ | ⟨⟨xs, hq⟩, q⟩
  · obtain ⟨its, rv, p, hz⟩ := I1.list hq
    refine wpAny_pyIter_list p.isList ?_
    refine ⟨s1.heap.objs.size, [s1.heap.objs.size], _, _, H1, rfl, I1.kept (t' := s1.toks) fun b o e => Heap.get?_push_of_some _ e, turn_list a _, ⟨_, Heap.get?_push_size _ rfl, rfl, rfl⟩, fun b hb => ?_, q⟩
    have e : b = s1.heap.objs.size := by simpa using hb
    subst e
    exact I1.fpOk (Nat.le_refl _) (I1.hok.fresh (Nat.le_refl _))
  · obtain ⟨its, rv, p, hz⟩ := I1.tuple hq
    refine wpAny_pyIter_tuple (show s1.heap.IsTuple a its.toArray from p) ?_
    refine ⟨s1.heap.objs.size, [s1.heap.objs.size], _, _, H1, rfl, I1.kept (t' := s1.toks) fun b o e => Heap.get?_push_of_some _ e, turn_tuple a _, ⟨_, Heap.get?_push_size _ rfl, rfl, rfl⟩, fun b hb => ?_, q⟩
    have e : b = s1.heap.objs.size := by simpa using hb
    subst e
    exact I1.fpOk (Nat.le_refl _) (I1.hok.fresh (Nat.le_refl _))
end
end L2

namespace DL
open PySem L2
open Evl (Ex Ex.refl Ex.trans Ex.new)
section
variable {F : Fm} {P : DV → Prop} {i j : Int} {a b : Bool} {s t : Str} {xs ys : List PyData} {x y : PyData} {r r' : R2}
/-- an operation that leaves the heap and gives plain data -/
theorem d2_int {g : Int → Int → V} {c : PyData} (hc : ∀ G, Dp F.K G (g i j) c) (p : P (.d c)) : D2 F (rI0 g) (DI i) (DI j) P := fun u w H G iv g' r1 r2 Q q => by
  cases r1.dp
  cases r2.dp
  exact ⟨i, j, rfl, rfl, q _ _ H G (Stp.refl iv g') (.d (hc G)) p⟩
theorem d2_intC {C : Int → Int → Prop} {g : Int → Int → V} {c : PyData} (hC : C i j) (hc : ∀ G, Dp F.K G (g i j) c) (p : P (.d c)) : D2 F (rI C g) (DI i) (DI j) P := fun u w H G iv g' r1 r2 Q q => by
  cases r1.dp
  cases r2.dp
  exact ⟨i, j, rfl, rfl, hC, q _ _ H G (Stp.refl iv g') (.d (hc G)) p⟩
theorem D2.left {x y : DV} (h : D2 F r x y P) : D2 F (fun x y H Q => r x y H Q ∨ r' x y H Q) x y P := fun u w H G iv g r1 r2 Q q => .inl (h u w H G iv g r1 r2 Q q)
theorem D2.right {x y : DV} (h : D2 F r' x y P) : D2 F (fun x y H Q => r x y H Q ∨ r' x y H Q) x y P := fun u w H G iv g r1 r2 Q q => .inr (h u w H G iv g r1 r2 Q q)
theorem d2_add (p : P (DI (i + j))) : D2 F (rAddU F.K) (DI i) (DI j) P := D2.left (d2_int (fun _ => .int _) p)
theorem d2_addS (hl : s.length + t.length ≤ 100000) (p : P (DS (s ++ t))) : D2 F (rAddU F.K) (DS s) (DS t) P := D2.right (D2.left fun u w H G iv g' r1 r2 Q q => by
  cases r1.dp
  cases r2.dp
  exact ⟨s, t, rfl, rfl, Evl.sz_of hl, q _ _ H G (Stp.refl iv g') (.d (.str _)) p⟩)
theorem sqL_of {G H : Hp} (g : Ex G (Rs F.S H)) {p : Addr} {us : List V} (h : SqL F.K G p us) : SqL F.K H p us := Evl.ex_l (g.trans Rs.sub) h
theorem sqT_of {G H : Hp} (g : Ex G (Rs F.S H)) {p : Addr} {us : List V} (h : SqT F.K G p us) : SqT F.K H p us := Evl.ex_t (g.trans Rs.sub) h
/-- a list, to be read -/
theorem lst_of {G H : Hp} (g : Ex G (Rs F.S H)) {u : V} (h : Dp F.K G u (.list xs)) : ∃ p us, u = .ref p ∧ SqL F.K H p us ∧ DpAll F.K G us xs := by
  cases h with
  | lst hs ha => exact ⟨_, _, rfl, sqL_of g hs, ha⟩
theorem tup_of {G H : Hp} (g : Ex G (Rs F.S H)) {u : V} (h : Dp F.K G u (.tuple xs)) : ∃ p us, u = .ref p ∧ SqT F.K H p us ∧ DpAll F.K G us xs := by
  cases h with
  | tup hs ha => exact ⟨_, _, rfl, sqT_of g hs, ha⟩
theorem own_of {G H : Hp} {u : V} (h : RV F G H u (.o xs)) : ∃ p us, u = .ref p ∧ H p = some (.lst us) ∧ DpAll F.K G us xs := by
  obtain ⟨p, us, e, hp, _, _, a⟩ := h
  exact ⟨p, us, e, hp, a⟩
theorem d2_addL (hl : xs.length + ys.length ≤ 100000) (p : P (.d (.list (xs ++ ys)))) : D2 F (rAddU F.K) (.d (.list xs)) (.d (.list ys)) P := D2.right (D2.right (D2.right fun u w H G iv g r1 r2 Q q => by
  obtain ⟨l, us, rfl, h1, a1⟩ := lst_of g r1.dp
  obtain ⟨b, ws, rfl, h2, a2⟩ := lst_of g r2.dp
  have e1 := dpa_len a1
  have e2 := dpa_len a2
  exact ⟨l, b, us, ws, rfl, rfl, h1, h2, Evl.sz_of (by omega), fun z hz => q _ _ _ _ (stp_new iv g hz) (new_lst g hz (dpa_append a1 a2)) p⟩))
theorem d2_addT (hx : xs ≠ []) (hy : ys ≠ []) (hl : xs.length + ys.length ≤ 100000) (p : P (.d (.tuple (xs ++ ys)))) : D2 F (rAddU F.K) (.d (.tuple xs)) (.d (.tuple ys)) P := D2.right (D2.right (D2.left fun u w H G iv g r1 r2 Q q => by
  obtain ⟨l, us, rfl, h1, a1⟩ := tup_of g r1.dp
  obtain ⟨b, ws, rfl, h2, a2⟩ := tup_of g r2.dp
  have e1 := dpa_len a1
  have e2 := dpa_len a2
  refine ⟨l, b, us, ws, rfl, rfl, h1, h2, fun z => ?_, Evl.sz_of (by omega), fun z => ?_, fun _ z hz => q _ _ _ _ (stp_new iv g hz) (new_tup g hz (dpa_append a1 a2)) p⟩
  · subst z
    exact hx (List.eq_nil_of_length_eq_zero e1.symm)
  · subst z
    exact absurd (List.eq_nil_of_length_eq_zero e2.symm) hy))
theorem d2_sub (p : P (DI (i - j))) : D2 F rSubU (DI i) (DI j) P := d2_int (fun _ => .int _) p
theorem d2_mul (h : CMulW i j) (p : P (DI (i * j))) : D2 F rMulU (DI i) (DI j) P := D2.left (d2_intC h (fun _ => .int _) p)
theorem d2_mulS (h : CMul i j) (p : P (DI (i * j))) : D2 F rMulU (DI i) (DI j) P := D2.right (d2_intC h (fun _ => .int _) p)
theorem d2_div (h : CDivW i j) (p : P (DI (i / j))) : D2 F rDivU (DI i) (DI j) P := d2_intC h (fun _ => .int _) p
theorem d2_mod (h : 0 < j) (p : P (DI (i % j))) : D2 F rModU (DI i) (DI j) P := d2_intC h (fun _ => .int _) p
theorem d2_pow (h : CPow i j) (p : P (DI (i ^ j.toNat))) : D2 F rPowU (DI i) (DI j) P := d2_intC h (fun _ => .int _) p
theorem d2_lt (p : P (DB (decide (i < j)))) : D2 F rLtU (DI i) (DI j) P := d2_int (fun _ => .bl _) p
theorem d2_le (p : P (DB (decide (i ≤ j)))) : D2 F rLeU (DI i) (DI j) P := d2_int (fun _ => .bl _) p
theorem d2_gt (p : P (DB (decide (j < i)))) : D2 F rGtU (DI i) (DI j) P := d2_int (fun _ => .bl _) p
theorem d2_ge (p : P (DB (decide (j ≤ i)))) : D2 F rGeU (DI i) (DI j) P := d2_int (fun _ => .bl _) p
def isNone : PyData → Bool
  | .none => true
  | _ => false
theorem isNone_v {G : Hp} {u : V} (h : Dp F.K G u x) : decide (u = .non) = isNone x := by
  cases h <;> rfl
theorem d2_isN (p : P (DB (isNone x))) : D2 F rIsU (.d x) DN P := fun u w H G iv g r1 r2 Q q => by
  cases r2.dp
  refine .inl ⟨rfl, ?_⟩
  rw [isNone_v r1.dp]
  exact q _ _ H G (Stp.refl iv g) (.d (.bl _)) p
theorem d2_isNN (p : P (DB (!isNone x))) : D2 F rIsNU (.d x) DN P := fun u w H G iv g r1 r2 Q q => by
  cases r2.dp
  refine .inl ⟨rfl, ?_⟩
  rw [isNone_v r1.dp]
  exact q _ _ H G (Stp.refl iv g) (.d (.bl _)) p
theorem d2_isB (p : P (DB (decide (a = b)))) : D2 F rIsU (DB a) (DB b) P := fun u w H G iv g r1 r2 Q q => by
  cases r1.dp
  cases r2.dp
  exact .inr ⟨a, b, rfl, rfl, q _ _ H G (Stp.refl iv g) (.d (.bl _)) p⟩
theorem d2_isNB (p : P (DB (!decide (a = b)))) : D2 F rIsNU (DB a) (DB b) P := fun u w H G iv g r1 r2 Q q => by
  cases r1.dp
  cases r2.dp
  exact .inr ⟨a, b, rfl, rfl, q _ _ H G (Stp.refl iv g) (.d (.bl _)) p⟩
theorem dp_heap {G H : Hp} (g : Ex G (Rs F.S H)) {u : V} (h : Dp F.K G u x) : Dp F.K H u x := dp_mono (g.trans Rs.sub) h
/-- what == sees of a value -/
def seen : DV → Option PyData
  | .d x => some x
  | .o xs => some (.list xs)
  | .v _ => none
  | .x _ _ _ => none
  | .p _ _ => none
theorem seen_dp {G H : Hp} (g : Ex G (Rs F.S H)) {u : V} {c : DV} (h : RV F G H u c) (e : seen c = some x) : Dp F.K H u x := by
  cases c with
  | d y =>
    cases e
    exact dp_heap g h.dp
  | v w => cases e
  | x _ _ _ => cases e
  | p _ _ => cases e
  | o zs =>
    cases e
    obtain ⟨p, us, rfl, hp, a⟩ := own_of h
    exact .lst (Evl.sq_of hp) (dpa_mono (g.trans Rs.sub) a)
theorem d2_eq {c e : DV} (hc : seen c = some x) (he : seen e = some y) (hx : SeqAt.shaped x = true) (hy : SeqAt.shaped y = true) (p : P (DB (PyData.eqv x y))) : D2 F (rEqD F.K) c e P := fun u w H G iv g r1 r2 Q q =>
  ⟨x, y, seen_dp g r1 hc, seen_dp g r2 he, hx, hy, q _ _ H G (Stp.refl iv g) (.d (.bl _)) p⟩
theorem d2_ne {c e : DV} (hc : seen c = some x) (he : seen e = some y) (hx : SeqAt.shaped x = true) (hy : SeqAt.shaped y = true) (p : P (DB (!PyData.eqv x y))) : D2 F (rNeD F.K) c e P := fun u w H G iv g r1 r2 Q q =>
  ⟨x, y, seen_dp g r1 hc, seen_dp g r2 he, hx, hy, q _ _ H G (Stp.refl iv g) (.d (.bl _)) p⟩
theorem atI_dp {G : Hp} {us : List V} (a : DpAll F.K G us xs) (h : atI xs i = some x) : ∃ u, atI us i = some u ∧ Dp F.K G u x := by
  unfold atI at h ⊢
  rw [dpa_len a]
  cases e : ixN xs.length i with
  | none => rw [e] at h; cases h
  | some k =>
    rw [e] at h
    exact dpa_get a h
theorem d2_ixL (h : atI xs i = some x) (p : P (.d x)) : D2 F (rIx F.K) (.d (.list xs)) (DI i) P := fun u w H G iv g r1 r2 Q q => by
  cases r2.dp
  obtain ⟨l, us, rfl, h1, a1⟩ := lst_of g r1.dp
  obtain ⟨z, hz, dz⟩ := atI_dp a1 h
  exact .inl ⟨l, us, i, z, rfl, rfl, h1, hz, q _ _ H G (Stp.refl iv g) (.d dz) p⟩
theorem d2_ixO (h : atI xs i = some x) (p : P (.d x)) : D2 F (rIx F.K) (.o xs) (DI i) P := fun u w H G iv g r1 r2 Q q => by
  cases r2.dp
  obtain ⟨l, us, rfl, h1, a1⟩ := own_of r1
  obtain ⟨z, hz, dz⟩ := atI_dp a1 h
  exact .inl ⟨l, us, i, z, rfl, rfl, Evl.sq_of h1, hz, q _ _ H G (Stp.refl iv g) (.d dz) p⟩
theorem d2_ixT (h : atI xs i = some x) (p : P (.d x)) : D2 F (rIx F.K) (.d (.tuple xs)) (DI i) P := fun u w H G iv g r1 r2 Q q => by
  cases r2.dp
  obtain ⟨l, us, rfl, h1, a1⟩ := tup_of g r1.dp
  obtain ⟨z, hz, dz⟩ := atI_dp a1 h
  exact .inr (.inl ⟨l, us, i, z, rfl, rfl, h1, hz, q _ _ H G (Stp.refl iv g) (.d dz) p⟩)
theorem d2_ixS {c : Nat} (hl : s.length ≤ 100000) (h : atI s.cps.toList i = some c) (p : P (DS ⟨#[c]⟩)) : D2 F (rIx F.K) (DS s) (DI i) P := fun u w H G iv g r1 r2 Q q => by
  cases r2.dp
  cases r1.dp
  exact .inr (.inr ⟨s, i, c, rfl, rfl, Evl.sz_of hl, h, q _ _ H G (Stp.refl iv g) (.d (.str _)) p⟩)
theorem d1_neg (p : P (DI (-i))) : D1 F rNegU (DI i) P := fun u H G iv g r1 Q q => by
  cases r1.dp
  exact ⟨i, rfl, q _ _ H G (Stp.refl iv g) (.d (.int _)) p⟩

/-! ### calls of built-ins -/
theorem rv_one {G H : Hp} {us : List V} {c : DV} (h : RVs F G H us [c]) : ∃ u, us = [u] ∧ RV F G H u c := by
  match us, h with
  | [u], h => exact ⟨u, rfl, h.1⟩
  | [], h => exact h.elim
  | _ :: _ :: _, h => exact h.2.elim
theorem rv_two {G H : Hp} {us : List V} {c e : DV} (h : RVs F G H us [c, e]) : ∃ u w, us = [u, w] ∧ RV F G H u c ∧ RV F G H w e := by
  match us, h with
  | [u, w], h => exact ⟨u, w, rfl, h.1, h.2.1⟩
  | [], h => exact h.elim
  | [_], h => exact h.2.elim
  | _ :: _ :: _ :: _, h => exact h.2.2.elim
theorem dc_int (p : P (DI i)) : DC F rIntU [DI i] P := fun us H G iv g r Q q => by
  obtain ⟨u, rfl, r1⟩ := rv_one r
  cases r1.dp
  exact .inl ⟨i, rfl, q _ _ H G (Stp.refl iv g) (.d (.int _)) p⟩
theorem dc_intB (p : P (DI (if a then 1 else 0))) : DC F rIntU [DB a] P := fun us H G iv g r Q q => by
  obtain ⟨u, rfl, r1⟩ := rv_one r
  cases r1.dp
  exact .inr ⟨a, rfl, q _ _ H G (Stp.refl iv g) (.d (.int _)) p⟩
theorem dc_abs (p : P (DI (if i < 0 then -i else i))) : DC F rAbsU [DI i] P := fun us H G iv g r Q q => by
  obtain ⟨u, rfl, r1⟩ := rv_one r
  cases r1.dp
  exact ⟨i, rfl, q _ _ H G (Stp.refl iv g) (.d (.int _)) p⟩
theorem dc_strI (h : i.natAbs.log2 < 1920) (p : P (DS (toString i))) : DC F rStrU [DI i] P := fun us H G iv g r Q q => by
  obtain ⟨u, rfl, r1⟩ := rv_one r
  cases r1.dp
  exact ⟨i, rfl, h, q _ _ H G (Stp.refl iv g) (.d (.str _)) p⟩
theorem dc_gcd (p : P (DI ((Nat.gcd i.natAbs j.natAbs : Nat) : Int))) : DC F rGcd [DI i, DI j] P := fun us H G iv g r Q q => by
  obtain ⟨u, w, rfl, r1, r2⟩ := rv_two r
  cases r1.dp
  cases r2.dp
  exact ⟨i, j, rfl, q _ _ H G (Stp.refl iv g) (.d (.int _)) p⟩
theorem dc_lenL (p : P (DI (xs.length : Int))) : DC F (rLenU F.K) [.d (.list xs)] P := fun us H G iv g r Q q => by
  obtain ⟨u, rfl, r1⟩ := rv_one r
  obtain ⟨l, us, rfl, h1, a1⟩ := lst_of g r1.dp
  exact ⟨_, xs.length, rfl, .inl ⟨us, h1, (dpa_len a1).symm⟩, q _ _ H G (Stp.refl iv g) (.d (.int _)) p⟩
theorem dc_lenO (p : P (DI (xs.length : Int))) : DC F (rLenU F.K) [.o xs] P := fun us H G iv g r Q q => by
  obtain ⟨u, rfl, r1⟩ := rv_one r
  obtain ⟨l, us, rfl, h1, a1⟩ := own_of r1
  exact ⟨_, xs.length, rfl, .inl ⟨us, Evl.sq_of h1, (dpa_len a1).symm⟩, q _ _ H G (Stp.refl iv g) (.d (.int _)) p⟩
theorem dc_lenT (p : P (DI (xs.length : Int))) : DC F (rLenU F.K) [.d (.tuple xs)] P := fun us H G iv g r Q q => by
  obtain ⟨u, rfl, r1⟩ := rv_one r
  obtain ⟨l, us, rfl, h1, a1⟩ := tup_of g r1.dp
  exact ⟨_, xs.length, rfl, .inr ⟨us, h1, (dpa_len a1).symm⟩, q _ _ H G (Stp.refl iv g) (.d (.int _)) p⟩
theorem dc_lenS (h : s.length ≤ 100000) (p : P (DI (s.length : Int))) : DC F (rLenU F.K) [DS s] P := fun us H G iv g r Q q => by
  obtain ⟨u, rfl, r1⟩ := rv_one r
  cases r1.dp
  exact ⟨_, s.length, rfl, ⟨Evl.sz_of h, rfl⟩, q _ _ H G (Stp.refl iv g) (.d (.int _)) p⟩
/-- the name of a datum's class -/
def tyName : PyData → String
  | .none => "NoneType"
  | .bool _ => "bool"
  | .int _ => "int"
  | .str _ => "str"
  | .list _ => "list"
  | .tuple _ => "tuple"
  | .dict _ => "dict"
theorem tyX_of {H : Hp} {u : V} : ∀ {x : PyData}, Dp F.K H u x → TyX F.K H u (.type (tyName x)) := fun {x} h => by
  cases h with
  | non => exact .base .non
  | bl b => exact .base (.bl b)
  | int i => exact .base (.int i)
  | str x => exact .base (.str x)
  | lst hs ha =>
    rcases hs with (h | ⟨o, h⟩) | ⟨o, its, n, hk, hc, _⟩
    · exact .base (.lst h)
    · exact .base (.frz h)
    · exact .kList hk hc
  | tup hs ha =>
    rcases hs with (h | ⟨o, h⟩) | ⟨o, its, n, hk, hc, _⟩
    · exact .base (.tup h)
    · exact .fTuple h
    · exact .kTuple hk hc
theorem dc_isi {n : String} {r : Bool} (h : kitB (tyName x) n = some r) (p : P (DB r)) : DC F (rIsi F.K) [.d x, .v (.ty n)] P := fun us H G iv g rv Q q => by
  obtain ⟨u, w, rfl, r1, r2⟩ := rv_two rv
  cases (show w = .ty n from r2)
  exact ⟨u, .ty n, _, _, r, rfl, .ty n, tyX_of (dp_heap g r1.dp), kit_ty h, q _ _ H G (Stp.refl iv g) (.d (.bl _)) p⟩
/-- all(a list of bools), any -/
theorem bls_of {G : Hp} : ∀ {us : List V} {bs : List Bool}, DpAll F.K G us (bs.map PyData.bool) → us = bs.map V.bl
  | [], [], _ => rfl
  | _, _ :: _, .cons h t => by
    cases h
    rw [bls_of t] <;> rfl
theorem dc_all {bs : List Bool} (p : P (DB (bs.all id))) : DC F (rAll F.K) [.d (.list (bs.map PyData.bool))] P := fun us H G iv g r Q q => by
  obtain ⟨u, rfl, r1⟩ := rv_one r
  obtain ⟨l, us, rfl, h1, a1⟩ := lst_of g r1.dp
  have e := bls_of a1
  subst e
  exact ⟨l, bs, rfl, h1, q _ _ H G (Stp.refl iv g) (.d (.bl _)) p⟩
theorem dc_any {bs : List Bool} (p : P (DB (bs.any id))) : DC F (rAny F.K) [.d (.list (bs.map PyData.bool))] P := fun us H G iv g r Q q => by
  obtain ⟨u, rfl, r1⟩ := rv_one r
  obtain ⟨l, us, rfl, h1, a1⟩ := lst_of g r1.dp
  have e := bls_of a1
  subst e
  exact ⟨l, bs, rfl, h1, q _ _ H G (Stp.refl iv g) (.d (.bl _)) p⟩
end

/-! ### f-strings -/
section
variable {F : Fm} {X : XW} {δ : DSt} {Xp : XP} {P : DV → Prop} {te : TE}
theorem ed_fmtI (h : ED F X te δ Xp fun x => ∃ i, x = DI i ∧ i.natAbs.log2 < 1920 ∧ P (DS (toString i))) : ED F X (tFmt te) δ Xp P := fun σ H G c Q q =>
  h σ H G c _ fun u x H1 G1 s1 r1 ⟨i, e, hb, p⟩ => by
    subst e
    cases r1.dp
    exact .inr ⟨i, rfl, hb, q _ _ H1 G1 s1 (.d (.str _)) p⟩
theorem ed_fmtS (h : ED F X te δ Xp fun x => ∃ s : Str, x = DS s ∧ s.length ≤ 100000 ∧ P (DS s)) : ED F X (tFmt te) δ Xp P := fun σ H G c Q q =>
  h σ H G c _ fun u x H1 G1 s1 r1 ⟨i, e, hb, p⟩ => by
    subst e
    cases r1.dp
    exact .inl ⟨i, rfl, Evl.sz_of hb, q _ _ H1 G1 s1 (.d (.str _)) p⟩
def EJ (F : Fm) (X : XW) (ts : List TE) (δ : DSt) (Xp : XP) (acc : Str) (P : Str → Prop) : Prop := ∀ σ H G, Cur F X G H σ δ Xp → ∀ Q : Str → Hp → Prop, (∀ s H' G', Stp F G H G' H' → P s → Q s H') → tJs ts acc σ H Q
theorem ej_nil {acc : Str} {P : Str → Prop} (p : P acc) : EJ F X [] δ Xp acc P := fun _ H G c _ q => q acc H G c.here p
theorem ej_cons {ts : List TE} {acc : Str} {P : Str → Prop} (h : ED F X te δ Xp fun x => ∃ y : Str, x = DS y ∧ (acc ++ y).length ≤ 100000 ∧ EJ F X ts δ Xp (acc ++ y) P) : EJ F X (te :: ts) δ Xp acc P := fun σ H G c Q q =>
  h σ H G c _ fun u x H1 G1 s1 r1 ⟨y, e, l, h1⟩ => by
    subst e
    cases r1.dp
    exact ⟨y, rfl, Evl.sz_of l, h1 σ H1 G1 (c.step s1) Q fun s H2 G2 s2 p => q s H2 G2 (s1.trans s2) p⟩
def tJoined (ts : List TE) : TE := fun σ H Q => tJs ts Str.empty σ H fun out H1 => Q (.str out) H1
theorem ed_joined {ts : List TE} (h : EJ F X ts δ Xp Str.empty fun s => P (DS s)) : ED F X (tJoined ts) δ Xp P := fun σ H G c Q q =>
  h σ H G c _ fun s H1 G1 s1 p => q _ _ H1 G1 s1 (.d (.str s)) p
end
end DL

namespace DL
open PySem L2
open Evl (Ex Ex.refl Ex.trans Ex.new)

/-- what is wanted behind a statement, told by plain data -/
structure DE where
  nx : DSt → Prop
  rt : DV → Prop
  bk : DSt → Prop := fun _ => False
  ct : DSt → Prop := fun _ => False
/-- the entry, and what has stayed since some turn -/
structure Bs where
  G : Hp
  H : Hp
  M : Hp
/-- reached from the entry -/
structure Rch (F : Fm) (B : Bs) (G H : Hp) : Prop where
  st : Stp F B.G B.H G H
  gm : Ex B.M G
theorem Rch.go {F : Fm} {B : Bs} {G H G' H' : Hp} (r : Rch F B G H) (s : Stp F G H G' H') : Rch F B G' H' := ⟨r.st.trans s, r.gm.trans s.gg⟩
structure Sat (F : Fm) (B : Bs) (E : DE) (D : Ends) : Prop where
  nx : ∀ σ' δ' H' G', Rch F B G' H' → SL F G' H' σ' δ' → E.nx δ' → D.nx σ' H'
  rt : ∀ u x H' G', Rch F B G' H' → RV F G' H' u x → E.rt x → D.rt u H'
  bk : ∀ σ' δ' H' G', Rch F B G' H' → SL F G' H' σ' δ' → E.bk δ' → D.bk σ' H'
  ct : ∀ σ' δ' H' G', Rch F B G' H' → SL F G' H' σ' δ' → E.ct δ' → D.ct σ' H'
/-- from the entry to here -/
structure Way (F : Fm) (X : XK) (B : Bs) (G H : Hp) (σ : L2.St) (δ : DSt) (Xp : XP) : Prop where
  old : ∀ b, B.H b ≠ none → F.old b
  st : Rch F B G H
  sl : SL F G H σ δ
  xs : XS F X B.G B.H Xp
theorem Way.cur {F : Fm} {X : XK} {B : Bs} {G H : Hp} {σ : L2.St} {δ : DSt} {Xp : XP} (w : Way F X B G H σ δ Xp) : Cur F (fun _ => X) G H σ δ Xp :=
  ⟨w.st.st.inv, w.st.st.gh, w.sl, fun C fs G2 H2 s2 h => w.xs C fs G2 H2 (w.st.st.trans s2) h⟩
theorem Way.go {F : Fm} {X : XK} {B : Bs} {G H G' H' : Hp} {σ σ' : L2.St} {δ δ' : DSt} {Xp : XP} (w : Way F X B G H σ δ Xp) (s : Stp F G H G' H') (l : SL F G' H' σ' δ') : Way F X B G' H' σ' δ' Xp :=
  ⟨w.old, w.st.go s, l, w.xs⟩
/-- jump: a state that the entry leads to -/
theorem Way.to {F : Fm} {X : XK} {B : Bs} {G H G' H' : Hp} {σ σ' : L2.St} {δ δ' : DSt} {Xp : XP} (w : Way F X B G H σ δ Xp) (s : Rch F B G' H') (l : SL F G' H' σ' δ') : Way F X B G' H' σ' δ' Xp :=
  ⟨w.old, s, l, w.xs⟩
def WS (F : Fm) (X : XK) (t : TS) (δ : DSt) (Xp : XP) (E : DE) : Prop := ∀ B σ H G D, Way F X B G H σ δ Xp → Sat F B E D → t D σ H

section
variable {F : Fm} {X : XK} {δ : DSt} {Xp : XP} {E : DE} {te ta tb : TE} {t u : TS} {tt : TT}
theorem ws_seq (h : WS F X t δ Xp { E with nx := fun δ' => WS F X u δ' Xp E }) : WS F X (tSeq t u) δ Xp E := fun B σ H G D w s =>
  h B σ H G _ w ⟨fun σ' δ' H' G' st sl k => k B σ' H' G' D (w.to st sl) s, s.rt, s.bk, s.ct⟩
theorem ws_next (p : E.nx δ) : WS F X tNext δ Xp E := fun B σ H G D w s => s.nx σ δ H G w.st w.sl p
theorem ws_brk (p : E.bk δ) : WS F X tBreak δ Xp E := fun B σ H G D w s => s.bk σ δ H G w.st w.sl p
theorem ws_cont (p : E.ct δ) : WS F X tCont δ Xp E := fun B σ H G D w s => s.ct σ δ H G w.st w.sl p
theorem ws_ret (h : ED F (fun _ => X) te δ Xp E.rt) : WS F X (tRet te) δ Xp E := fun B σ H G D w s => h σ H G w.cur _ fun u x H1 G1 s1 r1 p => s.rt u x H1 G1 (w.st.go s1) r1 p
theorem ws_retN (p : E.rt DN) : WS F X tRetN δ Xp E := fun B σ H G D w s => s.rt .non DN H G w.st (.d .non) p
theorem ws_drop (h : ED F (fun _ => X) te δ Xp fun _ => E.nx δ) : WS F X (tDrop te) δ Xp E := fun B σ H G D w s => h σ H G w.cur _ fun u x H1 G1 s1 r1 p => s.nx σ δ H1 G1 (w.st.go s1) (w.sl.step s1) p
theorem sl_set {G H : Hp} {σ : L2.St} {i : Nat} {u : V} {x : DV} (l : SL F G H σ δ) (p : Plain x) (r : RV F G H u x) : SL F G H (σ.set i (some u)) (δ.set i (some x)) := by
  refine ⟨by rw [List.length_set, List.length_set]; exact l.len, fun k y e => ?_, fun a b xs ys hab ha hb => ?_⟩
  · by_cases hk : i = k
    · subst hk
      by_cases hi : i < δ.length
      · rw [List.getElem?_set_self hi] at e
        cases e
        exact ⟨u, List.getElem?_set_self (by rw [l.len]; exact hi), r⟩
      · rw [List.getElem?_eq_none (by rw [List.length_set]; omega)] at e
        cases e
    · rw [List.getElem?_set_ne hk] at e ⊢
      exact l.at_ k y e
  · have na : i ≠ a := fun z => by
      subst z
      by_cases hi : i < δ.length
      · rw [List.getElem?_set_self hi] at ha
        cases ha
        exact p.elim
      · rw [List.getElem?_eq_none (by rw [List.length_set]; omega)] at ha
        cases ha
    have nb : i ≠ b := fun z => by
      subst z
      by_cases hi : i < δ.length
      · rw [List.getElem?_set_self hi] at hb
        cases hb
        exact p.elim
      · rw [List.getElem?_eq_none (by rw [List.length_set]; omega)] at hb
        cases hb
    rw [List.getElem?_set_ne na] at ha
    rw [List.getElem?_set_ne nb] at hb
    rw [List.getElem?_set_ne na, List.getElem?_set_ne nb]
    exact l.own a b xs ys hab ha hb
theorem ws_asg {i : Nat} (h : ED F (fun _ => X) te δ Xp fun x => Plain x ∧ E.nx (δ.set i (some x))) : WS F X (tAsg te (gName i)) δ Xp E := fun B σ H G D w s =>
  h σ H G w.cur _ fun u x H1 G1 s1 r1 p => s.nx _ _ H1 G1 (w.st.go s1) (sl_set (w.sl.step s1) p.1 r1) p.2
/-- a, b = (..), the tuple's items to two slots -/
theorem rv_item {G : Hp} {us : List V} {xs : List PyData} {n : Nat} (a : DpAll F.K G us xs) (h : xs.length = n) : us.length = n := (dpa_len a).trans h
theorem ws_asgT2 {i j : Nat} {n : Nat} (hn : n = 2) (h : ED F (fun _ => X) te δ Xp fun c => ∃ x y, c = .d (.tuple [x, y]) ∧ E.nx ((δ.set i (some (.d x))).set j (some (.d y)))) : WS F X (tAsg te (gTup F.K n (gCons (gName i) (gCons (gName j) gNil)))) δ Xp E := fun B σ H G D w s =>
  h σ H G w.cur _ fun u c H1 G1 s1 r1 ⟨x, y, e, p⟩ => by
    subst e hn
    obtain ⟨l, us, rfl, h1, a1⟩ := tup_of s1.gh r1.dp
    cases a1 with
    | cons d1 t1 =>
      cases t1 with
      | cons d2 t2 =>
        cases t2
        exact ⟨l, _, rfl, h1, rfl, _, _, rfl, _, _, rfl, rfl, s.nx _ _ H1 G1 (w.st.go s1) (sl_set (sl_set (w.sl.step s1) (x := .d x) trivial d1) (x := .d y) trivial d2) p⟩
theorem ws_par {i j : Nat} {ta : TA} (h : EA F (fun _ => X) ta δ Xp fun xs => ∃ x y, xs = [x, y] ∧ Plain x ∧ Plain y ∧ E.nx ((δ.set i (some x)).set j (some y))) : WS F X (tPar i j ta) δ Xp E := fun B σ H G D w s =>
  h σ H G w.cur _ fun us xs H1 G1 s1 r1 ⟨x, y, e, px, py, p⟩ => by
    subst e
    obtain ⟨u, v, rfl, r2, r3⟩ := rv_two r1
    exact ⟨u, v, rfl, s.nx _ _ H1 G1 (w.st.go s1) (sl_set (sl_set (w.sl.step s1) px r2) py r3) p⟩
theorem ws_if (h : ET F (fun _ => X) tt δ Xp fun b => if b = true then WS F X t δ Xp E else WS F X u δ Xp E) : WS F X (tIfS tt t u) δ Xp E := fun B σ H G D w s =>
  h σ H G w.cur _ fun b H1 G1 s1 k => by
    cases b with
    | true =>
      show t D σ H1
      exact (show WS F X t δ Xp E from k) B σ H1 G1 D (w.go s1 (w.sl.step s1)) s
    | false =>
      show u D σ H1
      exact (show WS F X u δ Xp E from k) B σ H1 G1 D (w.go s1 (w.sl.step s1)) s
/-- a += b at a name -/
def rAugU (r : R2) : TIp := fun x y H Q => r x y H Q
theorem ws_aug {i : Nat} {r : R2} (h : ∃ x, δ[i]? = some (some x) ∧ ED F (fun _ => X) te δ Xp fun y => D2 F r x y fun z => Plain z ∧ E.nx (δ.set i (some z))) : WS F X (tAug i te r) δ Xp E := fun B σ H G D w s => by
  obtain ⟨x, hx, h⟩ := h
  obtain ⟨v, hv, rx⟩ := w.sl.at_ i x hx
  exact ⟨v, hv, h σ H G w.cur _ fun y c H1 G1 s1 r1 k => k v y H1 G1 s1.inv s1.gh (rx.step s1) r1 _ fun z e H2 G2 s2 r2 p => s.nx _ _ H2 G2 ((w.st.go s1).go s2) (sl_set (w.sl.step (s1.trans s2)) p.1 r2) p.2⟩

/-! ### new lists that a name owns -/
def EN (F : Fm) (X : XW) (te : TE) (δ : DSt) (Xp : XP) (P : List PyData → Prop) : Prop := ∀ σ H G, Cur F X G H σ δ Xp → ∀ Q : VK, (∀ p us xs H' G', Stp F G H G' H' → H p = none → H' p = some (.lst us) → G' p = none → DpAll F.K G' us xs → P xs → Q (.ref p) H') → te σ H Q
theorem stp_own {G H : Hp} {p : Addr} {o : HO} (i : F.I H) (g : Ex G (Rs F.S H)) (h : H p = none) : Stp F G H G (upd H p o) :=
  ⟨Ex.refl G, g.trans (Rs.mono (Ex.new h)), fun _ _ z => z, Rs.mono (Ex.new h), F.stab i (Ex.new h)⟩
theorem en_lst {X : XW} {ta : TA} {P : List PyData → Prop} (h : EA F X ta δ Xp fun xs => ∃ ys, AllD xs ys ∧ ys.length ≤ 100000 ∧ P ys) : EN F X (tLst ta) δ Xp P := fun σ H G c Q q =>
  h σ H G c _ fun us xs H1 G1 s1 r1 ⟨ys, a, l, p⟩ => by
    have d := AllD.dp r1 a
    refine ⟨Evl.sz_of (by rw [dpa_len d]; exact l), fun z hz => ?_⟩
    have hz0 : H z = none := by
      cases e : H z with
      | none => rfl
      | some o => exact absurd hz (s1.al (by rw [e]; exact fun k => by cases k))
    exact q z us ys _ G1 (s1.trans (stp_own s1.inv s1.gh hz)) hz0 upd_same (g_free s1.gh hz) d p
theorem old_free {B : Bs} {G H : Hp} {σ : L2.St} (w : Way F X B G H σ δ Xp) {p : Addr} (h : H p = none) : ¬ F.old p := fun z => F.al w.st.st.inv z h
theorem ws_own {i : Nat} (h : EN F (fun _ => X) te δ Xp fun xs => E.nx (δ.set i (some (.o xs)))) : WS F X (tAsg te (gName i)) δ Xp E := fun B σ H G D w s =>
  h σ H G w.cur _ fun p us xs H1 G1 s1 hp h1 g1 a k => by
    refine s.nx _ _ H1 G1 (w.st.go s1) ?_ k
    have l := w.sl.step s1
    have r : RV F G1 H1 (.ref p) (.o xs) := ⟨p, us, rfl, h1, g1, old_free w hp, a⟩
    have nw : ∀ (k : Nat) (zs : List PyData), δ[k]? = some (some (DV.o zs)) → σ[k]? ≠ some (some (V.ref p)) := fun k zs e z => by
      obtain ⟨v, e1, p2, us2, rfl, hp2, _⟩ := w.sl.at_ k _ e
      rw [e1] at z
      cases z
      rw [hp] at hp2
      cases hp2
    refine ⟨by rw [List.length_set, List.length_set]; exact l.len, fun k y e => ?_, fun a b xs ys hab ha hb => ?_⟩
    · by_cases hk : i = k
      · subst hk
        by_cases hi : i < δ.length
        · rw [List.getElem?_set_self hi] at e
          cases e
          exact ⟨.ref p, List.getElem?_set_self (by rw [l.len]; exact hi), r⟩
        · rw [List.getElem?_eq_none (by rw [List.length_set]; omega)] at e
          cases e
      · rw [List.getElem?_set_ne hk] at e ⊢
        exact l.at_ k y e
    · by_cases ia : i = a
      · subst ia
        have ib : i ≠ b := hab
        rw [List.getElem?_set_ne ib] at hb ⊢
        by_cases hi : i < δ.length
        · rw [List.getElem?_set_self (by rw [l.len]; exact hi)]
          exact fun z => nw b ys hb z.symm
        · rw [List.getElem?_eq_none (by rw [List.length_set]; omega)] at ha
          cases ha
      · rw [List.getElem?_set_ne ia] at ha ⊢
        by_cases ib : i = b
        · subst ib
          by_cases hi : i < δ.length
          · rw [List.getElem?_set_self (by rw [l.len]; exact hi)]
            exact fun z => nw a xs ha z
          · rw [List.getElem?_eq_none (by rw [List.length_set]; omega)] at hb
            cases hb
        · rw [List.getElem?_set_ne ib] at hb ⊢
          exact l.own a b xs ys hab ha hb
/-- the name's own list is changed: p, its address -/
theorem sl_put {G H : Hp} {σ : L2.St} {i : Nat} {p : Addr} {us us' : List V} {xs xs' : List PyData} (l : SL F G H σ δ) (hi : δ[i]? = some (some (.o xs))) (hs : σ[i]? = some (some (.ref p))) (hp : H p = some (.lst us)) (gp : G p = none) (no : ¬ F.old p)
    (a : DpAll F.K G us' xs') : SL F G (upd H p (.lst us')) σ (δ.set i (some (.o xs'))) := by
  have hlt : i < δ.length := by
    by_cases h : i < δ.length
    · exact h
    · rw [List.getElem?_eq_none (by omega)] at hi
      cases hi
  refine ⟨by rw [List.length_set]; exact l.len, fun k y e => ?_, fun b c zs ys hbc hb hc => ?_⟩
  · by_cases hk : i = k
    · subst hk
      rw [List.getElem?_set_self hlt] at e
      cases e
      exact ⟨.ref p, hs, p, us', rfl, upd_same, gp, no, a⟩
    · rw [List.getElem?_set_ne hk] at e
      obtain ⟨v, e1, r⟩ := l.at_ k y e
      refine ⟨v, e1, ?_⟩
      cases y with
      | d y => exact r
      | v w => exact r
      | x _ _ _ => exact r
      | p _ _ => exact r
      | o ys =>
        obtain ⟨q, ws, rfl, hq, gq, nq, aq⟩ := r
        have ne : q ≠ p := fun z => by
          subst z
          exact l.own i k xs ys hk hi e (by rw [hs, e1])
        exact ⟨q, ws, rfl, by rw [upd_ne ne]; exact hq, gq, nq, aq⟩
  · have fix : ∀ (k : Nat) (zs : List PyData), (δ.set i (some (DV.o xs')))[k]? = some (some (DV.o zs)) → ∃ zs' : List PyData, δ[k]? = some (some (DV.o zs')) := fun k zs e => by
      by_cases hk : i = k
      · subst hk
        exact ⟨xs, hi⟩
      · rw [List.getElem?_set_ne hk] at e
        exact ⟨zs, e⟩
    obtain ⟨zs', e1⟩ := fix b zs hb
    obtain ⟨ys', e2⟩ := fix c ys hc
    exact l.own b c zs' ys' hbc e1 e2
theorem stp_put {G H : Hp} {p : Addr} {us us' : List V} {G0 H0 : Hp} (s : Stp F G0 H0 G H) (old : ∀ b, H0 b ≠ none → F.old b) (hp : H p = some (.lst us)) (gp : G p = none) (no : ¬ F.old p) : Stp F G0 H0 G (upd H p (.lst us')) := by
  have h0 : H0 p = none := by
    cases e : H0 p with
    | none => rfl
    | some o => exact absurd (old p (by rw [e]; exact fun z => by cases z)) no
  have sp : F.S p = false := by
    cases e : F.S p with
    | false => rfl
    | true => exact absurd (F.so e) no
  refine ⟨s.gg, fun b o e => ?_, s.nw, fun b o e => ?_, ?_⟩
  · have ne : b ≠ p := fun z => by
      subst z
      rw [gp] at e
      cases e
    have := s.gh b o e
    unfold Rs at this ⊢
    rw [upd_ne ne]
    exact this
  · have ne : b ≠ p := fun z => by
      subst z
      unfold Rs at e
      rw [h0] at e
      split at e <;> cases e
    have := s.hh b o e
    unfold Rs at this ⊢
    rw [upd_ne ne]
    exact this
  · exact F.put s.inv hp no
theorem rch_put {G H : Hp} {p : Addr} {us us' : List V} {B : Bs} (s : Rch F B G H) (old : ∀ b, B.H b ≠ none → F.old b) (hp : H p = some (.lst us)) (gp : G p = none) (no : ¬ F.old p) : Rch F B G (upd H p (.lst us')) :=
  ⟨stp_put s.st old hp gp no, s.gm⟩
/-- x.append(e), x a name with its own list -/
theorem ws_app {i : Nat} (h : ∃ xs : List PyData, δ[i]? = some (some (.o xs)) ∧ xs.length < 100000 ∧ ED F (fun _ => X) te δ Xp fun y => ∃ x, y = .d x ∧ E.nx (δ.set i (some (.o (xs ++ [x]))))) : WS F X (tDrop (tBM F.K "list" rAppend (tVar i) (tCons te tNil))) δ Xp E := fun B σ H G D w s => by
  obtain ⟨xs, hi, hz, h⟩ := h
  obtain ⟨v, hv, p, us, rfl, hp, gp, no, a⟩ := w.sl.at_ i _ hi
  refine ⟨.ref p, hv, .inl ⟨rfl, us, Evl.sq_of hp⟩, ?_⟩
  refine h σ H G w.cur _ fun u y H1 G1 s1 r1 ⟨x, e, k⟩ => ?_
  subst e
  have hp1 := own_keep s1 no hp
  have gp1 := s1.nw p (by rw [hp]; exact fun z => by cases z) gp
  have l := dpa_len a
  refine ⟨p, us, u, rfl, rfl, hp1, Evl.sz_lt (by omega), ?_⟩
  exact s.nx _ _ _ G1 (rch_put (w.st.go s1) w.old hp1 gp1 no) (sl_put (w.sl.step s1) hi hv hp1 gp1 no (dpa_append (dpa_mono s1.gg a) (.cons r1.dp .nil))) k
/-- x[e] = f, x a name with its own list -/
theorem ws_setL {i : Nat} (h : ∃ xs : List PyData, δ[i]? = some (some (.o xs)) ∧ ED F (fun _ => X) te δ Xp fun y => ∃ x, y = .d x ∧ ED F (fun _ => X) ta δ Xp fun z => ∃ k j, z = DI k ∧ ixN xs.length k = some j ∧ E.nx (δ.set i (some (.o (xs.set j x))))) : WS F X (tAsg te (gSub (tVar i) ta rSetL)) δ Xp E := fun B σ H G D w s => by
  obtain ⟨xs, hi, h⟩ := h
  refine h σ H G w.cur _ fun u y H1 G1 s1 r1 ⟨x, e, h2⟩ => ?_
  subst e
  obtain ⟨v, hv, p, us, rfl, hp, gp, no, a⟩ := w.sl.at_ i _ hi
  refine ⟨.ref p, hv, ?_⟩
  refine h2 σ H1 G1 (w.cur.step s1) _ fun z y H2 G2 s2 r2 ⟨k, j, e, hj, q⟩ => ?_
  subst e
  cases r2.dp
  have s12 := s1.trans s2
  have hp1 := own_keep s12 no hp
  have gp1 := s12.nw p (by rw [hp]; exact fun z => by cases z) gp
  refine ⟨p, us, k, j, rfl, rfl, hp1, by rw [dpa_len a]; exact hj, ?_⟩
  exact s.nx _ _ _ G2 (rch_put (w.st.go s12) w.old hp1 gp1 no) (sl_put (w.sl.step s12) hi hv hp1 gp1 no (dpa_set (dp_mono s2.gg r1.dp) j (dpa_mono s12.gg a))) q
/-- x.pop(), its value dropped -/
theorem dpa_dropLast {K : PySem.W.Frag} {H : Hp} : ∀ {us : List V} {xs : List PyData}, DpAll K H us xs → DpAll K H us.dropLast xs.dropLast
  | _, _, .nil => .nil
  | _, _, .cons r .nil => .nil
  | _, _, .cons r (.cons q t) => .cons r (dpa_dropLast (.cons q t))
theorem ws_pop {i : Nat} (h : ∃ (xs : List PyData), δ[i]? = some (some (.o xs)) ∧ xs ≠ [] ∧ E.nx (δ.set i (some (.o xs.dropLast)))) : WS F X (tDrop (tBM0 F.K "list" rPop (tVar i))) δ Xp E := fun B σ H G D w s => by
  obtain ⟨xs, hi, hx, q⟩ := h
  obtain ⟨v, hv, p, us, rfl, hp, gp, no, a⟩ := w.sl.at_ i _ hi
  refine ⟨.ref p, hv, .inl ⟨rfl, us, Evl.sq_of hp⟩, ?_⟩
  have l := dpa_len a
  have h0 : xs.length ≠ 0 := fun z => hx (List.eq_nil_of_length_eq_zero z)
  refine ⟨p, us, us[us.length - 1]'(by omega), rfl, rfl, hp, List.getElem?_eq_getElem (by omega), ?_⟩
  exact s.nx _ _ _ G (rch_put w.st w.old hp gp no) (sl_put w.sl hi hv hp gp no (dpa_dropLast a)) q
/-- a name's own list is let go: from here on it is data -/
theorem ws_let {i : Nat} {xs : List PyData} (hi : δ[i]? = some (some (.o xs))) (h : WS F X t (δ.set i (some (.d (.list xs)))) Xp E) : WS F X t δ Xp E := fun B σ H G D w s => by
  obtain ⟨v, hv, p, us, rfl, hp, gp, no, a⟩ := w.sl.at_ i _ hi
  have hlt : i < δ.length := by
    by_cases h : i < δ.length
    · exact h
    · rw [List.getElem?_eq_none (by omega)] at hi
      cases hi
  have sp : F.S p = false := by
    cases e : F.S p with
    | false => rfl
    | true => exact absurd (F.so e) no
  have h0 : B.H p = none := by
    cases e : B.H p with
    | none => rfl
    | some o => exact absurd (w.old p (by rw [e]; exact fun z => by cases z)) no
  have gg : Ex G (upd G p (.lst us)) := Ex.new gp
  have st : Rch F B (upd G p (.lst us)) H := by
    refine ⟨⟨w.st.st.gg.trans gg, fun b o e => ?_, fun b hb g => ?_, w.st.st.hh, w.st.st.inv⟩, w.st.gm.trans gg⟩
    · by_cases hb : b = p
      · subst hb
        rw [upd_same] at e
        cases e
        rw [rs_ne sp]
        exact hp
      · rw [upd_ne hb] at e
        exact w.st.st.gh b o e
    · have ne : b ≠ p := fun z => by
        subst z
        exact hb h0
      rw [upd_ne ne]
      exact w.st.st.nw b hb g
  have r : RV F (upd G p (.lst us)) H (.ref p) (.d (.list xs)) := .d (.lst (Evl.sq_of upd_same) (dpa_mono gg a))
  refine h B σ H _ D (w.to st ?_) s
  refine ⟨by rw [List.length_set]; exact w.sl.len, fun k y e => ?_, fun b c zs ys hbc hb hc => ?_⟩
  · by_cases hk : i = k
    · subst hk
      rw [List.getElem?_set_self hlt] at e
      cases e
      exact ⟨.ref p, hv, r⟩
    · rw [List.getElem?_set_ne hk] at e
      obtain ⟨v, e1, rr⟩ := w.sl.at_ k y e
      refine ⟨v, e1, ?_⟩
      cases y with
      | d y => exact dp_mono gg rr
      | v w => exact rr
      | x a d fs =>
        obtain ⟨e, fv, hd, hn, ha⟩ := rr
        exact ⟨e, fv, gg d _ hd, hn, dpa_mono gg ha⟩
      | p R m => exact m gg rr
      | o ys =>
        obtain ⟨q, ws, rfl, hq, gq, nq, aq⟩ := rr
        have ne : q ≠ p := fun z => by
          subst z
          exact w.sl.own i k xs ys hk hi e (by rw [hv, e1])
        exact ⟨q, ws, rfl, hq, by rw [upd_ne ne]; exact gq, nq, dpa_mono gg aq⟩
  · have ib : i ≠ b := fun z => by
      subst z
      rw [List.getElem?_set_self hlt] at hb
      cases hb
    have ic : i ≠ c := fun z => by
      subst z
      rw [List.getElem?_set_self hlt] at hc
      cases hc
    rw [List.getElem?_set_ne ib] at hb
    rw [List.getElem?_set_ne ic] at hc
    exact w.sl.own b c zs ys hbc hb hc

/-! ### targets -/
def DG (F : Fm) (g : TG) (x : DV) (δ : DSt) (K : DSt → Prop) : Prop := ∀ σ H G u, F.I H → Ex G (Rs F.S H) → SL F G H σ δ → RV F G H u x → ∀ Q : L2.St → Hp → Prop, (∀ σ' δ', SL F G H σ' δ' → K δ' → Q σ' H) → g u σ H Q
def DGs (F : Fm) (g : TGs) (xs : List PyData) (δ : DSt) (K : DSt → Prop) : Prop := ∀ σ H G us, F.I H → Ex G (Rs F.S H) → SL F G H σ δ → DpAll F.K G us xs → ∀ Q : L2.St → Hp → Prop, (∀ σ' δ', SL F G H σ' δ' → K δ' → Q σ' H) → g us σ H Q
theorem dg_name {i : Nat} {x : DV} {K : DSt → Prop} (px : Plain x) (k : K (δ.set i (some x))) : DG F (gName i) x δ K := fun σ H G u iv g l r Q q => q _ _ (sl_set l px r) k
theorem dgs_nil {K : DSt → Prop} (k : K δ) : DGs F gNil [] δ K := fun σ H G us iv g l a Q q => by
  cases a
  exact ⟨rfl, q _ _ l k⟩
theorem dgs_cons {g : TG} {gs : TGs} {x : PyData} {xs : List PyData} {K : DSt → Prop} (h : DG F g (.d x) δ fun δ' => DGs F gs xs δ' K) : DGs F (gCons g gs) (x :: xs) δ K := fun σ H G us iv gg l a Q q => by
  cases a with
  | cons d t => exact ⟨_, _, rfl, h σ H G _ iv gg l d _ fun σ' δ' l' k => k σ' H G _ iv gg l' t Q q⟩
theorem dg_tup {gs : TGs} {n : Nat} {xs : List PyData} {K : DSt → Prop} (hn : xs.length = n) (h : DGs F gs xs δ K) : DG F (gTup F.K n gs) (.d (.tuple xs)) δ K := fun σ H G u iv g l r Q q => by
  obtain ⟨p, us, rfl, h1, a⟩ := tup_of g r.dp
  exact ⟨p, us, rfl, h1, (dpa_len a).trans hn, h σ H G us iv g l a Q q⟩
theorem ws_asgG {g : TG} (h : ED F (fun _ => X) te δ Xp fun x => DG F g x δ E.nx) : WS F X (tAsg te g) δ Xp E := fun B σ H G D w s =>
  h σ H G w.cur _ fun u x H1 G1 s1 r1 k => k σ H1 G1 u s1.inv s1.gh (w.sl.step s1) r1 _ fun σ' δ' l' p => s.nx σ' δ' H1 G1 (w.st.go s1) l' p

/-! ### loops -/
abbrev turnE (E : DE) (N : DSt → Prop) : DE := { nx := N, rt := E.rt, bk := E.nx, ct := N }
/-- the word of a loop over the heap: the slots stand for some data of which Pv holds -/
def Wd (F : Fm) (X : XK) (B : Bs) (M : Hp) (Xp : XP) (Pv : DSt → Prop) (σ : L2.St) (H : Hp) : Prop := ∃ δ G, Way F X ⟨B.G, B.H, M⟩ G H σ δ Xp ∧ Pv δ
theorem sat_turn {B : Bs} {M : Hp} {D : Ends} {N : DSt → Prop} {N' : L2.St → Hp → Prop} (s : Sat F B E D) (hm : Ex B.M M) (hN : ∀ σ' δ' H' G', Rch F ⟨B.G, B.H, M⟩ G' H' → SL F G' H' σ' δ' → N δ' → N' σ' H') : Sat F ⟨B.G, B.H, M⟩ (turnE E N) { D with nx := N', ct := N', bk := D.nx } :=
  ⟨hN, fun u x H' G' r => s.rt u x H' G' ⟨r.st, hm.trans r.gm⟩, fun σ' δ' H' G' r => s.nx σ' δ' H' G' ⟨r.st, hm.trans r.gm⟩, hN⟩
/-- a turn's heap-level work, for any source -/
theorem turn_ok {B : Bs} {M : Hp} {D : Ends} {g : TG} {x : PyData} {u : V} {N : DSt → Prop} {N' : L2.St → Hp → Prop} {G H : Hp} {σ : L2.St} (s : Sat F B E D) (hm : Ex B.M M) (w : Way F X ⟨B.G, B.H, M⟩ G H σ δ Xp) (hx : Dp F.K G u x)
    (h : DG F g (.d x) δ fun δ' => WS F X t δ' Xp (turnE E N)) (hN : ∀ σ' δ' H' G', Way F X ⟨B.G, B.H, M⟩ G' H' σ' δ' Xp → N δ' → N' σ' H') : g u σ H fun σ2 H2 => t { D with nx := N', ct := N', bk := D.nx } σ2 H2 :=
  h σ H G u w.st.st.inv w.st.st.gh w.sl hx _ fun σ' δ' l' k => k ⟨B.G, B.H, M⟩ σ' H G _ (w.to w.st l') (sat_turn s hm fun σ2 δ2 H2 G2 r2 l2 n => hN σ2 δ2 H2 G2 (w.to r2 l2) n)
/-- from a word at the turn's start to the work -/
theorem wd_turn {B : Bs} {M : Hp} {D : Ends} {g : TG} {x : PyData} {u : V} {Pi N : DSt → Prop} {H : Hp} {σ : L2.St} (s : Sat F B E D) (hm : Ex B.M M) (w : Wd F X B M Xp Pi σ H) (hx : ∀ G, Ex M G → Dp F.K G u x)
    (h : ∀ δ', Pi δ' → DG F g (.d x) δ' fun δ2 => WS F X t δ2 Xp (turnE E N)) : g u σ H fun σ2 H2 => t { D with nx := Wd F X B M Xp N, ct := Wd F X B M Xp N, bk := D.nx } σ2 H2 := by
  obtain ⟨δ', G, w', p⟩ := w
  exact turn_ok s hm w' (hx G w'.st.gm) (h δ' p) fun σ2 δ2 H2 G2 w2 n => ⟨δ2, G2, w2, n⟩
theorem wd_end {B : Bs} {M : Hp} {D : Ends} {Pi : DSt → Prop} {H : Hp} {σ : L2.St} (s : Sat F B E D) (hm : Ex B.M M) (w : Wd F X B M Xp Pi σ H) (h : ∀ δ', Pi δ' → E.nx δ') : D.nx σ H := by
  obtain ⟨δ', G, w', p⟩ := w
  exact s.nx σ δ' H G ⟨w'.st.st, hm.trans w'.st.gm⟩ w'.sl (h δ' p)
theorem wd_l {B : Bs} {M : Hp} {Pi : DSt → Prop} {H : Hp} {σ : L2.St} {a : Addr} {us : List V} (w : Wd F X B M Xp Pi σ H) (h : SqL F.K M a us) : SqL F.K H a us := by
  obtain ⟨δ', G, w', p⟩ := w
  exact Evl.ex_l ((w'.st.gm.trans w'.st.st.gh).trans Rs.sub) h
theorem wd_t {B : Bs} {M : Hp} {Pi : DSt → Prop} {H : Hp} {σ : L2.St} {a : Addr} {us : List V} (w : Wd F X B M Xp Pi σ H) (h : SqT F.K M a us) : SqT F.K H a us := by
  obtain ⟨δ', G, w', p⟩ := w
  exact Evl.ex_t ((w'.st.gm.trans w'.st.st.gh).trans Rs.sub) h
/-- a loop over xs by the word Pv -/
def Loop (F : Fm) (X : XK) (g : TG) (t : TS) (Xp : XP) (E : DE) (δ : DSt) (xs : List PyData) : Prop := ∃ Pv : Nat → DSt → Prop, Pv 0 δ ∧
  (∀ i x δ', xs[i]? = some x → Pv i δ' → DG F g (.d x) δ' fun δ2 => WS F X t δ2 Xp (turnE E (Pv (i + 1)))) ∧ (∀ δ', Pv xs.length δ' → E.nx δ')
theorem ws_forSeq {g : TG} (h : ED F (fun _ => X) te δ Xp fun c => ∃ xs : List PyData, (c = .d (.list xs) ∨ c = .d (.tuple xs)) ∧ Loop F X g t Xp E δ xs) : WS F X (tFor (iSeq F.K te) g t) δ Xp E := fun B σ H G D w s =>
  h σ H G w.cur _ fun u c H1 G1 s1 r1 ⟨xs, hc, Pv, h0, hs, hd⟩ => by
    have hm : Ex B.M G1 := (w.st.go s1).gm
    have w0 : Wd F X B G1 Xp (Pv 0) σ H1 := ⟨δ, G1, ⟨w.old, ⟨w.st.st.trans s1, Ex.refl G1⟩, w.sl.step s1, w.xs⟩, h0⟩
    have dd : ∀ σ' H', Wd F X B G1 Xp (Pv xs.length) σ' H' → D.nx σ' H' := fun σ' H' w' => wd_end s hm w' hd
    rcases hc with rfl | rfl
    · cases r1.dp with
      | lst hq ha =>
        rename_i a us
        have el := dpa_len ha
        refine ⟨a, rfl, .inl ⟨⟨us, sqL_of s1.gh hq⟩, ?_⟩⟩
        refine for_list (xs := us) (fun i => Wd F X B G1 Xp (Pv i)) w0 (fun i σ' H' _ w' => wd_l w' hq) (fun i y σ' H' e w' => ?_) (by rw [el]; exact dd)
        obtain ⟨x, ex, dx⟩ := dpa_get' ha e
        exact wd_turn s hm w' (fun G2 e2 => dp_mono e2 dx) fun δ' p => hs i x δ' ex p
    · cases r1.dp with
      | tup hq ha =>
        rename_i a us
        have el := dpa_len ha
        refine ⟨a, rfl, .inr ⟨⟨us, sqT_of s1.gh hq⟩, ?_⟩⟩
        refine for_tup (xs := us) (fun i => Wd F X B G1 Xp (Pv i)) w0 (fun i σ' H' _ w' => wd_t w' hq) (fun i y σ' H' e w' => ?_) (by rw [el]; exact dd)
        obtain ⟨x, ex, dx⟩ := dpa_get' ha e
        exact wd_turn s hm w' (fun G2 e2 => dp_mono e2 dx) fun δ' p => hs i x δ' ex p
/-- over a range -/
def LoopR (F : Fm) (X : XK) (g : TG) (t : TS) (Xp : XP) (E : DE) (δ : DSt) (lo : Int) (n : Nat) : Prop := ∃ Pv : Nat → DSt → Prop, Pv 0 δ ∧
  (∀ (i : Nat) δ', i < n → Pv i δ' → DG F g (DI (lo + i)) δ' fun δ2 => WS F X t δ2 Xp (turnE E (Pv (i + 1)))) ∧ (∀ δ', Pv n δ' → E.nx δ')
theorem loopR_ok {g : TG} {B : Bs} {D : Ends} {lo : Int} {n : Nat} {G H : Hp} {σ : L2.St} (w : Way F X B G H σ δ Xp) (s : Sat F B E D) (h : LoopR F X g t Xp E δ lo n) :
    ∃ W : Nat → Nat → L2.St → Hp → Prop, (∃ m, W 0 m σ H) ∧ ∀ i m σ H, W i m σ H →
      ((Itr lo n).stop i H ∧ D.nx σ H) ∨ ((Itr lo n).go i H ∧ ∃ N : L2.St → Hp → Prop, (∀ σ' H', N σ' H' → ∃ m', m' < m ∧ W (i + 1) m' σ' H') ∧ ∀ x H', (Itr lo n).yld i H x H' → g x σ H' fun σ2 H2 => t { D with nx := N, ct := N, bk := D.nx } σ2 H2) := by
  obtain ⟨Pv, h0, hs, hd⟩ := h
  have hm : Ex B.M G := w.st.gm
  refine for_range (fun i => Wd F X B G Xp (Pv i)) ⟨δ, G, ⟨w.old, ⟨w.st.st, Ex.refl G⟩, w.sl, w.xs⟩, h0⟩ (fun i σ' H' hi w' => ?_) (fun σ' H' w' => wd_end s hm w' hd)
  exact wd_turn s hm w' (fun G2 _ => .int _) fun δ' p => hs i δ' hi p
theorem ws_forR1 {g : TG} {ta : TA} (h : EA F (fun _ => X) ta δ Xp fun xs => ∃ n : Int, xs = [DI n] ∧ n < 2 ^ 62 ∧ -(2 ^ 62) ≤ n ∧ LoopR F X g t Xp E δ 0 n.toNat) : WS F X (tFor (iRng1 ta) g t) δ Xp E := fun B σ H G D w s =>
  h σ H G w.cur _ fun us xs H1 G1 s1 r1 ⟨n, e, h1, h2, l⟩ => by
    subst e
    obtain ⟨u, rfl, r⟩ := rv_one r1
    cases r.dp
    exact ⟨n, rfl, h2, h1, loopR_ok (w.go s1 (w.sl.step s1)) s l⟩
theorem ws_forR2 {g : TG} {ta : TA} (h : EA F (fun _ => X) ta δ Xp fun xs => ∃ lo n : Int, xs = [DI lo, DI n] ∧ (-(2 ^ 62) ≤ lo ∧ lo < 2 ^ 62 ∧ -(2 ^ 62) ≤ n ∧ n < 2 ^ 62) ∧ LoopR F X g t Xp E δ lo (n - lo).toNat) : WS F X (tFor (iRng2 ta) g t) δ Xp E := fun B σ H G D w s =>
  h σ H G w.cur _ fun us xs H1 G1 s1 r1 ⟨lo, n, e, hb, l⟩ => by
    subst e
    obtain ⟨u, v, rfl, r, r'⟩ := rv_two r1
    cases r.dp
    cases r'.dp
    exact ⟨lo, n, rfl, hb, loopR_ok (w.go s1 (w.sl.step s1)) s l⟩
/-- a while, by a word with a number that falls -/
theorem ws_while (W : Nat → DSt → Prop) (m0 : Nat) (h0 : W m0 δ)
    (hs : ∀ m δ', W m δ' → ET F (fun _ => X) tt δ' Xp fun b => if b = true then WS F X t δ' Xp (turnE E fun δ2 => ∃ m', m' < m ∧ W m' δ2) else E.nx δ') : WS F X (tWhile tt t) δ Xp E := fun B σ H G D w s => by
  refine ⟨fun m σ' H' => Wd F X B G Xp (W m) σ' H', ⟨m0, δ, G, ⟨w.old, ⟨w.st.st, Ex.refl G⟩, w.sl, w.xs⟩, h0⟩, fun m σ' H' w' => ?_⟩
  obtain ⟨δ', G', w', p⟩ := w'
  refine hs m δ' p σ' H' G' w'.cur _ fun b H1 G1 s1 k => ?_
  have w1 := w'.go s1 (w'.sl.step s1)
  cases b with
  | true =>
    refine ⟨fun σ2 H2 => Wd F X B G Xp (fun δ2 => ∃ m', m' < m ∧ W m' δ2) σ2 H2, fun σ2 H2 ⟨δ2, G2, w2, m', hl, q⟩ => ⟨m', hl, δ2, G2, w2, q⟩, ?_⟩
    exact (show WS F X t δ' Xp _ from k) ⟨B.G, B.H, G⟩ σ' H1 G1 _ w1 (sat_turn s w.st.gm fun σ2 δ2 H2 G2 r2 l2 n => ⟨δ2, G2, w1.to r2 l2, n⟩)
  | false => exact s.nx σ' δ' H1 G1 ⟨w1.st.st, w.st.gm.trans w1.st.gm⟩ w1.sl (show E.nx δ' from k)

end
/-! ### comprehensions -/
section
variable {F : Fm} {X : XK} {δ : DSt} {Xp : XP} {E : DE} {te ta tb : TE} {t u : TS} {tt : TT}
def wipeD (δ : DSt) : List Nat → DSt
  | [] => δ
  | v :: vs => (wipeD δ vs).set v none
theorem sl_wipe1 {G H : Hp} {σ : L2.St} {v : Nat} (l : SL F G H σ δ) : SL F G H (σ.set v none) (δ.set v none) := by
  refine ⟨by rw [List.length_set, List.length_set]; exact l.len, fun k y e => ?_, fun a b xs ys hab ha hb => ?_⟩
  · by_cases hk : v = k
    · subst hk
      by_cases hi : v < δ.length
      · rw [List.getElem?_set_self hi] at e
        cases e
      · rw [List.getElem?_eq_none (by rw [List.length_set]; omega)] at e
        cases e
    · rw [List.getElem?_set_ne hk] at e ⊢
      exact l.at_ k y e
  · have na : ∀ (c : Nat) (zs : List PyData), (δ.set v none)[c]? = some (some (DV.o zs)) → v ≠ c := fun c zs e z => by
      subst z
      by_cases hi : v < δ.length
      · rw [List.getElem?_set_self hi] at e
        cases e
      · rw [List.getElem?_eq_none (by rw [List.length_set]; omega)] at e
        cases e
    have n1 := na a xs ha
    have n2 := na b ys hb
    rw [List.getElem?_set_ne n1] at ha
    rw [List.getElem?_set_ne n2] at hb
    rw [List.getElem?_set_ne n1, List.getElem?_set_ne n2]
    exact l.own a b xs ys hab ha hb
theorem sl_wipe {G H : Hp} {σ : L2.St} (l : SL F G H σ δ) : ∀ vs : List Nat, SL F G H (wipe σ vs) (wipeD δ vs)
  | [] => l
  | v :: vs => sl_wipe1 (δ := wipeD δ vs) (sl_wipe l vs)
/-- what the comprehension's turn keeps: the list so far at D -/
def Cw (F : Fm) (X : XK) (Xp : XP) (G1 H1 : Hp) (Dl : Addr) (ys : List PyData) (H : Hp) : Prop := ∃ G us, Stp F G1 H1 G H ∧ H1 Dl = none ∧ H Dl = some (.lst us) ∧ G Dl = none ∧ DpAll F.K G us ys
theorem cw_new {G1 H1 : Hp} {Dl : Addr} (i : F.I H1) (g : Ex G1 (Rs F.S H1)) (h : H1 Dl = none) : Cw F X Xp G1 H1 Dl [] (upd H1 Dl (.lst [])) :=
  ⟨G1, [], stp_own i g h, h, upd_same, g_free g h, .nil⟩
theorem stp_grow {G1 H1 G H : Hp} {Dl : Addr} {us us' : List V} (i1 : F.I H1) (s : Stp F G1 H1 G H) (h1 : H1 Dl = none) (hp : H Dl = some (.lst us)) (gp : G Dl = none) : Stp F G1 H1 G (upd H Dl (.lst us')) := by
  refine ⟨s.gg, fun b o e => ?_, s.nw, fun b o e => ?_, ?_⟩
  · have ne : b ≠ Dl := fun z => by
      subst z
      rw [gp] at e
      cases e
    have := s.gh b o e
    unfold Rs at this ⊢
    rw [upd_ne ne]
    exact this
  · have ne : b ≠ Dl := fun z => by
      subst z
      unfold Rs at e
      rw [h1] at e
      split at e <;> cases e
    have := s.hh b o e
    unfold Rs at this ⊢
    rw [upd_ne ne]
    exact this
  · exact F.put s.inv hp fun z => F.al i1 z h1
/-- the list is done: it is data -/
theorem cw_data {G1 H1 H : Hp} {Dl : Addr} {ys : List PyData} (w : Cw F X Xp G1 H1 Dl ys H) (iv : F.I H1) : ∃ G', Stp F G1 H1 G' H ∧ RV F G' H (.ref Dl) (.d (.list ys)) := by
  obtain ⟨G, us, s, h1, hp, gp, a⟩ := w
  have sp : F.S Dl = false := by
    cases e : F.S Dl with
    | false => rfl
    | true => exact absurd h1 (F.al iv (F.so e))
  have gg : Ex G (upd G Dl (.lst us)) := Ex.new gp
  refine ⟨upd G Dl (.lst us), ⟨s.gg.trans gg, fun b o e => ?_, fun b hb g => ?_, s.hh, s.inv⟩, .d (.lst (Evl.sq_of upd_same) (dpa_mono gg a))⟩
  · by_cases hb : b = Dl
    · subst hb
      rw [upd_same] at e
      cases e
      rw [rs_ne sp]
      exact hp
    · rw [upd_ne hb] at e
      exact s.gh b o e
  · have ne : b ≠ Dl := fun z => by
      subst z
      exact hb h1
    rw [upd_ne ne]
    exact s.nw b hb g
/-- a target's names are the comprehension's own -/
def TgOk (g : TG) (vs : List Nat) : Prop := ∀ (σ : L2.St) (u : V) (H : Hp) (Q : L2.St → Hp → Prop), g u (wipe σ vs) H Q → g u (wipe σ vs) H fun σ2 H2 => wipe σ2 vs = wipe σ vs ∧ Q σ2 H2
theorem wipe_set : ∀ (vs : List Nat) (σ : L2.St) (i : Nat) (x : Option V), i ∈ vs → wipe (σ.set i x) vs = wipe σ vs
  | [], _, _, _, h => by cases h
  | v :: vs, σ, i, x, h => by
    show (wipe (σ.set i x) vs).set v none = (wipe σ vs).set v none
    by_cases hi : i ∈ vs
    · rw [wipe_set vs σ i x hi]
    · have e : i = v := by
        rcases List.mem_cons.mp h with e | e
        · exact e
        · exact absurd e hi
      subst e
      have comm : ∀ (ws : List Nat) (τ : L2.St), i ∉ ws → wipe (τ.set i x) ws = (wipe τ ws).set i x := by
        intro ws
        induction ws with
        | nil => intro τ _; rfl
        | cons a ws ih =>
          intro τ hn
          have h1 : i ≠ a := fun z => hn (z ▸ List.mem_cons_self ..)
          have h2 : i ∉ ws := fun z => hn (List.mem_cons_of_mem _ z)
          show (wipe (τ.set i x) ws).set a none = ((wipe τ ws).set a none).set i x
          rw [ih τ h2, List.set_comm _ _ h1]
      rw [comm vs σ hi, List.set_set]
theorem wipe_wipe (vs : List Nat) : ∀ (ws : List Nat) (σ : L2.St), (∀ i ∈ ws, i ∈ vs) → wipe (wipe σ ws) vs = wipe σ vs
  | [], _, _ => rfl
  | w :: ws, σ, h => by
    show wipe ((wipe σ ws).set w none) vs = wipe σ vs
    rw [wipe_set vs _ w none (h w (List.mem_cons_self ..))]
    exact wipe_wipe vs ws σ fun i m => h i (List.mem_cons_of_mem _ m)
theorem tgOk_name {i : Nat} {vs : List Nat} (h : i ∈ vs) : TgOk (gName i) vs := fun σ u H Q q => ⟨by rw [wipe_set vs _ i _ h, wipe_wipe vs vs σ fun _ m => m], q⟩
theorem tgOk_tup2 {K : PySem.W.Frag} {i j : Nat} {n : Nat} {vs : List Nat} (h : i ∈ vs) (h2 : j ∈ vs) : TgOk (gTup K n (gCons (gName i) (gCons (gName j) gNil))) vs := fun σ u H Q q => by
  obtain ⟨a, xs, e, hq, hl, v, r, e1, v2, r2, e2, e3, k⟩ := q
  refine ⟨a, xs, e, hq, hl, v, r, e1, v2, r2, e2, e3, ?_, k⟩
  rw [wipe_set vs _ j _ h2, wipe_set vs _ i _ h, wipe_wipe vs vs σ fun _ m => m]
/-- one turn of a comprehension -/
theorem cw_turn {G1 H1 H : Hp} {Dl : Addr} {ys : List PyData} {σ : L2.St} {g : TG} {vs : List Nat} {u : V} {x y : PyData} {b : Bool} {N : Hp → Prop} (c : Cur F (fun _ => X) G1 H1 σ δ Xp) (w : Cw F X Xp G1 H1 Dl ys H) (hg : TgOk g vs) (hz : ys.length < 100000) (hx : ∀ G, Ex G1 G → Dp F.K G u x)
    (h : DG F g (.d x) (wipeD δ vs) fun δ2 => ET F (fun _ => X) tt δ2 Xp fun b' => b' = b ∧ (b = true → ED F (fun _ => X) te δ2 Xp fun z => z = .d y)) (hN : ∀ H', Cw F X Xp G1 H1 Dl (if b = true then ys ++ [y] else ys) H' → N H') :
    g u (wipe σ vs) H fun σ2 H2 => wipe σ2 vs = wipe σ vs ∧ tt σ2 H2 fun b H3 => if b = true then te σ2 H3 fun y H4 => ∃ acc, H4 Dl = some (.lst acc) ∧ acc.length < sizeLine ∧ N (upd H4 Dl (.lst (acc ++ [y]))) else N H3 := by
  obtain ⟨G, us, s, h1, hp, gp, a⟩ := w
  have iv := c.inv
  have no : ¬ F.old Dl := fun z => F.al iv z h1
  have cs := c.step s
  refine hg σ u H _ (h (wipe σ vs) H G u s.inv s.gh (sl_wipe cs.sl vs) (hx G s.gg) _ fun σ2 δ2 l2 k => ?_)
  have c2 : Cur F (fun _ => X) G H σ2 δ2 Xp := ⟨s.inv, s.gh, l2, cs.xs⟩
  refine k σ2 H G c2 _ fun b' H3 G3 s3 ⟨eb, k2⟩ => ?_
  subst eb
  have s13 := s.trans s3
  have hp3 := own_keep s3 no hp
  have gp3 := s3.nw Dl (by rw [hp]; exact fun z => by cases z) gp
  cases b' with
  | false => exact hN H3 ⟨G3, us, s13, h1, hp3, gp3, dpa_mono s3.gg a⟩
  | true =>
    refine (k2 rfl) σ2 H3 G3 (c2.step s3) _ fun z e H4 G4 s4 r4 ey => ?_
    subst ey
    have hp4 := own_keep s4 no hp3
    have gp4 := s4.nw Dl (by rw [hp3]; exact fun z => by cases z) gp3
    have l := dpa_len a
    refine ⟨us, hp4, Evl.sz_lt (by omega), hN _ ⟨G4, us ++ [z], stp_grow iv (s13.trans s4) h1 hp4 gp4, h1, upd_same, gp4, dpa_append (dpa_mono (s3.trans s4).gg a) (.cons r4.dp .nil)⟩⟩
/-- what a comprehension makes of the items so far -/
def lcOf (xs : List PyData) (f : PyData → Bool) (v : PyData → PyData) : List PyData := (xs.filter f).map v
theorem lcOf_more {xs : List PyData} {f : PyData → Bool} {v : PyData → PyData} {i : Nat} {x : PyData} (h : xs[i]? = some x) : lcOf (xs.take (i + 1)) f v = if f x = true then lcOf (xs.take i) f v ++ [v x] else lcOf (xs.take i) f v := by
  have e : xs.take (i + 1) = xs.take i ++ [x] := by
    rw [List.take_add_one, h] <;> rfl
  unfold lcOf
  rw [e, List.filter_append, List.map_append]
  by_cases hf : f x = true
  · rw [if_pos hf]
    simp [hf]
  · rw [if_neg hf]
    simp [hf]
theorem lcOf_len (xs : List PyData) (f : PyData → Bool) (v : PyData → PyData) : (lcOf xs f v).length ≤ xs.length := by
  unfold lcOf
  rw [List.length_map]
  exact List.length_filter_le f xs
/-- a comprehension over a list or a tuple -/
def Comp (F : Fm) (X : XK) (g : TG) (tt : TT) (te : TE) (vs : List Nat) (Xp : XP) (δ : DSt) (xs : List PyData) (f : PyData → Bool) (v : PyData → PyData) : Prop :=
  ∀ x, x ∈ xs → DG F g (.d x) (wipeD δ vs) fun δ2 => ET F (fun _ => X) tt δ2 Xp fun b => b = f x ∧ (f x = true → ED F (fun _ => X) te δ2 Xp fun z => z = .d (v x))
theorem lc_core {tl : TE} {g : TG} {vs : List Nat} {σ : L2.St} {H G : Hp} {Q : VK} (hg : TgOk g vs) (c : Cur F (fun _ => X) G H σ δ Xp) (hP : ED F (fun _ => X) tl δ Xp fun c => ∃ xs : List PyData, (c = .d (.list xs) ∨ c = .d (.tuple xs)) ∧ xs.length < 100000 ∧ ∃ f v, Comp F X g tt te vs Xp δ xs f v ∧
      ∀ Dl H1 G1 H', Stp F G H G1 H1 → Cw F X Xp G1 H1 Dl (lcOf xs f v) H' → Q (.ref Dl) H') : tLc (iSeq F.K tl) g tt te vs σ H Q :=
  hP σ H G c _ fun u cc H1 G1 s1 r1 ⟨xs, hc, hz, f, v, hs, q⟩ => by
    have c1 := c.step s1
    have key : ∀ (us : List V), DpAll F.K G1 us xs → ∀ (Dl : Addr) (i : Nat) (w : V) (H' : Hp), us[i]? = some w → Cw F X Xp G1 H1 Dl (lcOf (xs.take i) f v) H' →
        g w (wipe σ vs) H' fun σ2 H2 => wipe σ2 vs = wipe σ vs ∧ tt σ2 H2 fun b H3 => if b = true then te σ2 H3 fun y H4 => ∃ acc, H4 Dl = some (.lst acc) ∧ acc.length < sizeLine ∧ Cw F X Xp G1 H1 Dl (lcOf (xs.take (i + 1)) f v) (upd H4 Dl (.lst (acc ++ [y]))) else Cw F X Xp G1 H1 Dl (lcOf (xs.take (i + 1)) f v) H3 := by
      intro us ha Dl i w H' e p
      obtain ⟨x, ex, dx⟩ := dpa_get' ha e
      have lz := lcOf_len (xs.take i) f v
      rw [List.length_take] at lz
      refine cw_turn (y := v x) (b := f x) c1 p hg (by omega) (fun G2 e2 => dp_mono e2 dx) (hs x (List.mem_of_getElem? ex)) fun H2 w2 => ?_
      rw [lcOf_more ex]
      exact w2
    have fin : ∀ (us : List V), DpAll F.K G1 us xs → ∀ (Dl : Addr) (H' : Hp), Cw F X Xp G1 H1 Dl (lcOf (xs.take us.length) f v) H' → Q (.ref Dl) H' := fun us ha Dl H' p => by
      rw [dpa_len ha, List.take_length] at p
      exact q Dl H1 G1 H' s1 p
    have stay : ∀ (Dl : Addr) (i : Nat) (H' : Hp), Cw F X Xp G1 H1 Dl (lcOf (xs.take i) f v) H' → Ex G1 H' := fun Dl i H' ⟨G2, us2, s2, _⟩ => (s2.gg.trans s2.gh).trans Rs.sub
    rcases hc with rfl | rfl
    · cases r1.dp with
      | lst hq ha =>
        rename_i a us
        refine ⟨a, rfl, .inl ⟨⟨us, sqL_of s1.gh hq⟩, fun Dl hD => ?_⟩⟩
        exact lc_list (xs := us) (fun i H' => Cw F X Xp G1 H1 Dl (lcOf (xs.take i) f v) H') (cw_new s1.inv s1.gh hD) (fun i H' _ p => Evl.ex_l (stay Dl i H' p) hq) (fun i w H' e p => key us ha Dl i w H' e p) fun H' p => fin us ha Dl H' p
    · cases r1.dp with
      | tup hq ha =>
        rename_i a us
        refine ⟨a, rfl, .inr ⟨⟨us, sqT_of s1.gh hq⟩, fun Dl hD => ?_⟩⟩
        exact lc_tup (xs := us) (fun i H' => Cw F X Xp G1 H1 Dl (lcOf (xs.take i) f v) H') (cw_new s1.inv s1.gh hD) (fun i H' _ p => Evl.ex_t (stay Dl i H' p) hq) (fun i w H' e p => key us ha Dl i w H' e p) fun H' p => fin us ha Dl H' p
theorem ed_lc {tl : TE} {g : TG} {vs : List Nat} {P : DV → Prop} (hg : TgOk g vs) (h : ED F (fun _ => X) tl δ Xp fun c => ∃ xs : List PyData, (c = .d (.list xs) ∨ c = .d (.tuple xs)) ∧ xs.length < 100000 ∧ ∃ f v, Comp F X g tt te vs Xp δ xs f v ∧ P (.d (.list (lcOf xs f v)))) :
    ED F (fun _ => X) (tLc (iSeq F.K tl) g tt te vs) δ Xp P := fun σ H G c Q q =>
  lc_core hg c (h.mono fun x ⟨xs, hc, hz, f, v, hs, p⟩ => ⟨xs, hc, hz, f, v, hs, fun Dl H1 G1 H' s1 w => by
    obtain ⟨G', s', r'⟩ := cw_data w s1.inv
    exact q _ _ H' G' (s1.trans s') r' p⟩)
theorem en_lc {tl : TE} {g : TG} {vs : List Nat} {P : List PyData → Prop} (hg : TgOk g vs) (h : ED F (fun _ => X) tl δ Xp fun c => ∃ xs : List PyData, (c = .d (.list xs) ∨ c = .d (.tuple xs)) ∧ xs.length < 100000 ∧ ∃ f v, Comp F X g tt te vs Xp δ xs f v ∧ P (lcOf xs f v)) :
    EN F (fun _ => X) (tLc (iSeq F.K tl) g tt te vs) δ Xp P := fun σ H G c Q q =>
  lc_core hg c (h.mono fun x ⟨xs, hc, hz, f, v, hs, p⟩ => ⟨xs, hc, hz, f, v, hs, fun Dl H1 G1 H' s1 w => by
    obtain ⟨G2, us, s2, h1, hp, gp, a⟩ := w
    have hd : H Dl = none := by
      cases e : H Dl with
      | none => rfl
      | some o => exact absurd h1 (s1.al (by rw [e]; exact fun k => by cases k))
    exact q Dl us _ H' G2 (s1.trans s2) hd hp gp a p⟩)
/-- over a range -/
def lcR (n : Nat) (f : Nat → Bool) (v : Nat → PyData) : List PyData := ((List.range n).filter f).map v
theorem lcR_more {n : Nat} {f : Nat → Bool} {v : Nat → PyData} : lcR (n + 1) f v = if f n = true then lcR n f v ++ [v n] else lcR n f v := by
  unfold lcR
  rw [List.range_succ, List.filter_append, List.map_append]
  by_cases hf : f n = true
  · rw [if_pos hf]
    simp [hf]
  · rw [if_neg hf]
    simp [hf]
theorem lcR_len (n : Nat) (f : Nat → Bool) (v : Nat → PyData) : (lcR n f v).length ≤ n := by
  unfold lcR
  rw [List.length_map]
  have := List.length_filter_le f (List.range n)
  rw [List.length_range] at this
  exact this
def CompR (F : Fm) (X : XK) (g : TG) (tt : TT) (te : TE) (vs : List Nat) (Xp : XP) (δ : DSt) (n : Nat) (f : Nat → Bool) (v : Nat → PyData) : Prop :=
  ∀ i : Nat, i < n → DG F g (DI i) (wipeD δ vs) fun δ2 => ET F (fun _ => X) tt δ2 Xp fun b => b = f i ∧ (f i = true → ED F (fun _ => X) te δ2 Xp fun z => z = .d (v i))
theorem lcR_core {ta : TA} {g : TG} {vs : List Nat} {σ : L2.St} {H G : Hp} {Q : VK} (hg : TgOk g vs) (c : Cur F (fun _ => X) G H σ δ Xp) (hP : EA F (fun _ => X) ta δ Xp fun xs => ∃ n : Int, xs = [DI n] ∧ 0 ≤ n ∧ n < 100000 ∧ ∃ f v, CompR F X g tt te vs Xp δ n.toNat f v ∧
      ∀ Dl H1 G1 H', Stp F G H G1 H1 → Cw F X Xp G1 H1 Dl (lcR n.toNat f v) H' → Q (.ref Dl) H') : tLc (iRng1 ta) g tt te vs σ H Q :=
  hP σ H G c _ fun us xs H1 G1 s1 r1 ⟨n, e, h0, hz, f, v, hs, q⟩ => by
    subst e
    obtain ⟨u, rfl, r⟩ := rv_one r1
    cases r.dp
    have c1 := c.step s1
    refine ⟨n, rfl, by omega, by omega, fun Dl hD => ?_⟩
    refine lc_range (lo := 0) (n := n.toNat) (fun i H' => Cw F X Xp G1 H1 Dl (lcR i f v) H') (cw_new s1.inv s1.gh hD) (fun i H' hi p => ?_) fun H' p => q Dl H1 G1 H' s1 p
    have lz := lcR_len i f v
    have e0 : (0 : Int) + (i : Int) = (i : Int) := Int.zero_add _
    rw [e0]
    refine cw_turn (x := .int (i : Int)) (y := v i) (b := f i) c1 p hg (by omega) (fun G2 e2 => .int _) (hs i hi) fun H2 w2 => ?_
    rw [lcR_more]
    exact w2
theorem ed_lcR {ta : TA} {g : TG} {vs : List Nat} {P : DV → Prop} (hg : TgOk g vs) (h : EA F (fun _ => X) ta δ Xp fun xs => ∃ n : Int, xs = [DI n] ∧ 0 ≤ n ∧ n < 100000 ∧ ∃ f v, CompR F X g tt te vs Xp δ n.toNat f v ∧ P (.d (.list (lcR n.toNat f v)))) :
    ED F (fun _ => X) (tLc (iRng1 ta) g tt te vs) δ Xp P := fun σ H G c Q q =>
  lcR_core hg c (fun σ' H' G' c' Q' q' => h σ' H' G' c' Q' fun us xs H1 G1 s1 r1 ⟨n, e, h0, hz, f, v, hs, p⟩ => q' us xs H1 G1 s1 r1 ⟨n, e, h0, hz, f, v, hs, fun Dl H2 G2 H3 s2 w => by
    obtain ⟨G', s', r'⟩ := cw_data w s2.inv
    exact q _ _ H3 G' (s2.trans s') r' p⟩)
end
end DL

namespace L2
open PySem PySem.Spec PyProof.Rows
section
variable {X : Cx} {C : Addr} {bmB : List Value} {B newId initId : String}
/-- X(), X an own exception class without own __init__ -/
theorem pmk_own0 {x : Str} {p pos : Pos} (F : ExcBaseFacts B newId initId bmB) (q : PySem.W.excIn X.K C bmB newId = true) (gC : X.mg x = some (.ref C)) (kC : PySem.W.keepIn X.K (.ref C) = true) (r : Raises X (.ref C)) (hg : Gl X x)
    (hdb : (x == ("__debug__" : Str)) = false := by decide) : PMk X (.Call (.Name x p) [] [] pos) (fun _ H Q => Q (.ref C) none H) := by
  intro pins s σ H Q I h
  refine wpAny_Call_Name_kw (ld_glob I hg gC ?_ hdb)
  refine PySem.W.callWith_K0 I.kIn kC ?_
  show wpAny _ _ (call (.ref C) []) _ _ _
  obtain ⟨bm, N, nm, qn, bs, hdct, sn, sub, ab, col, dd, k0, k1, k2, k3, k5, mN, hC, hN, hni, T⟩ := exc_obj I.kIn q
  refine wpAny_call_exc_subT F T hC hN hni (fun h' e hm => ?_) (Nat.zero_le _)
  exact mk_of I hm r h (I.hok.gone hm.new)
end
end L2
namespace DL
open PySem L2
open Evl (Ex Ex.refl Ex.trans Ex.new)

/-! ### from a promise to its body -/
def startD (m : Nat) (ds : List DV) : DSt := ds.map some ++ List.replicate m none
theorem getD_map {ds : List DV} {m i : Nat} {x : DV} (h : (startD m ds)[i]? = some (some x)) : ds[i]? = some x := by
  unfold startD at h
  by_cases hi : i < ds.length
  · rw [List.getElem?_append_left (by rw [List.length_map]; exact hi), List.getElem?_map] at h
    cases e : ds[i]? with
    | none => rw [e] at h; cases h
    | some y => rw [e] at h; cases h; rfl
  · rw [List.getElem?_append_right (by rw [List.length_map]; omega), List.length_map, List.getElem?_replicate] at h
    split at h <;> cases h
theorem RVs.get {F : Fm} {G H : Hp} : ∀ {us : List V} {xs : List DV} {i : Nat} {x : DV}, RVs F G H us xs → xs[i]? = some x → ∃ u, us[i]? = some u ∧ RV F G H u x
  | [], [], _, _, _, e => by simp at e
  | _ :: _, _ :: _, 0, _, h, e => by simp at e; subst e; exact ⟨_, rfl, h.1⟩
  | _ :: _, _ :: _, i + 1, x, h, e => by
    obtain ⟨u, h1, h2⟩ := RVs.get (i := i) (x := x) h.2 (by simpa using e)
    exact ⟨u, by simpa using h1, h2⟩
  | [], _ :: _, _, _, h, _ => h.elim
  | _ :: _, [], _, _, h, _ => h.elim
theorem sl_start {F : Fm} {G H : Hp} {N : List Str} {us : List V} {ds : List DV} {m : Nat} (r : RVs F G H us ds) (p : Plains ds) (hm : N.length = ds.length + m) : SL F G H (L2.start N us) (startD m ds) := by
  have l := RVs.len r
  refine ⟨?_, fun i x e => ?_, fun a b xs ys _ ha _ => ?_⟩
  · unfold L2.start startD
    rw [List.length_append, List.length_append, List.length_map, List.length_map, List.length_replicate, List.length_replicate]
    omega
  · obtain ⟨u, h1, h2⟩ := RVs.get r (getD_map e)
    refine ⟨u, ?_, h2⟩
    unfold L2.start
    have hi : i < us.length := by
      by_cases h : i < us.length
      · exact h
      · rw [List.getElem?_eq_none (by omega)] at h1
        cases h1
    rw [List.getElem?_append_left (by rw [List.length_map]; exact hi), List.getElem?_map, h1] <;> rfl
  · have := p _ (List.mem_of_getElem? (getD_map ha))
    exact this.elim
/-- the body of a def that keeps spT -/
theorem pure_T {K : PySem.W.Frag} {n : Nat} {T : TD} {N : List Str} {m : Nat} {vs : List V} {H : Hp} {Q : VK} {E : XK} {t : TS} (h : spT K n T vs H Q E) (hm : N.length = n + m)
    (w : ∀ (F : Fm) (ds : List DV) (Xp : XP) (P : DV → Prop), F.K = K → ds.length = n → Plains ds → T ds Xp P → WS F E t (startD m ds) Xp { nx := fun _ => P DN, rt := P }) : t { nx := fun _ H' => Q .non H', rt := Q } (L2.start N vs) H := by
  obtain ⟨G, ds, Xp, P, g, l, pl, r, ht, xs, q⟩ := h
  have gh : Ex G (Rs (F0 K H).S H) := by
    show Ex G (Rs (fun _ => false) H)
    rw [rs0]
    exact g
  have iv : (F0 K H).I H := fun _ h => h
  refine w (F0 K H) ds Xp P rfl l pl ht ⟨G, H, G⟩ (L2.start N vs) H G _ ⟨fun _ h => h, ⟨Stp.refl iv gh, Ex.refl G⟩, sl_start r pl (by rw [l]; exact hm), xs⟩ ?_
  exact ⟨fun σ' δ' H' G' r' _ p => q .non DN H' G' r'.st (.d .non) p, fun u x H' G' r' rv p => q u x H' G' r'.st rv p, fun _ _ _ _ _ _ p => p.elim, fun _ _ _ _ _ _ p => p.elim⟩

section
variable {F : Fm} {X : XW} {δ : DSt} {Xp : XP} {P : DV → Prop} {te : TE}
theorem et_yes {Pb : Bool → Prop} (p : Pb true) : ET F X tYes δ Xp Pb := fun σ H G c Q q => q true H G c.here p
theorem et_true {Pb : Bool → Prop} (h : ED F X te δ Xp fun x => ∃ b, (∀ G H u, Ex G (Rs F.S H) → RV F G H u x → TruV F.K u H b) ∧ Pb b) : ET F X (fun σ H Q => te σ H fun x H' => ∃ k, TruV F.K x H' k ∧ Q k H') δ Xp Pb := fun σ H G c Q q =>
  h σ H G c _ fun u x H1 G1 s1 r1 ⟨b, hb, p⟩ => ⟨b, hb G1 H1 u s1.gh r1, q b H1 G1 s1 p⟩
end

/-! ### exceptions -/
/-- raise of a made exception -/
abbrev tRz (W : WX) (t : L2.St → Hp → XK → Prop) : TS := fun _ σ H => t σ H fun cls d H' => W cls d σ H'
section
variable {F : Fm} {X : XK} {δ : DSt} {Xp : XP} {E : DE} {ta : TA}
/-- raise C() -/
def tMk0 (C : Addr) : L2.St → Hp → XK → Prop := fun _ H Q => Q (.ref C) none H
theorem ws_raise0 {C : Addr} (p : Xp C []) : WS F X (tRz (fun cls d _ H => X cls d H) (tMk0 C)) δ Xp E := fun B σ H G D w s => (w.xs C [] G H w.st.st p).1 rfl
/-- an own __init__ that stores its arguments under these names, in order -/
def spInit (C : Addr) (names : List Str) : Sp := fun vs H Q _ => ∃ (a : Addr) (ys : List V), vs = .ref a :: ys ∧ ys.length = names.length ∧ H a = some (exo a C none) ∧
  ∀ dx, H dx = none → dx ≠ a → ∀ H', H' a = some (exo a C (some dx)) → H' dx = some (exd dx (names.zip ys).reverse) → (∀ b, b ≠ a → b ≠ dx → H' b = H b) → Q .non H'
theorem ws_raiseI {C : Addr} {names : List Str} (hn : names.length ≤ 1000) (h : EA F (fun _ => X) ta δ Xp fun xs => xs.length = names.length ∧ Xp C (names.zip xs).reverse) : WS F X (tRz (fun cls d _ H => X cls d H) (tMkO C (spInit C names) [] ta)) δ Xp E := fun B σ H G D w s =>
  h σ H G w.cur _ fun us xs H1 G1 s1 r1 ⟨l, p⟩ => by
    have lu := RVs.len r1
    refine ⟨by omega, fun a ha => ?_⟩
    rw [List.append_nil]
    refine ⟨a, us, rfl, by omega, upd_same, fun dx hd hda H2 e1 e2 e3 => ⟨rfl, dx, _, e1, e2, ?_, ?_⟩⟩
    · rw [upd_ne hda] at hd
      exact hd
    · rw [upd_ne hda] at hd
      have eq : upd (del H2 a) dx (.xd (names.zip us).reverse) = upd H1 dx (.xd (names.zip us).reverse) := by
        funext b
        by_cases hb : b = dx
        · subst hb
          rw [upd_same, upd_same]
        · rw [upd_ne hb, upd_ne hb]
          by_cases hba : b = a
          · subst hba
            rw [del_same, ha]
          · rw [del_ne hba, e3 b hba hb, upd_ne hba]
      rw [eq]
      have s2 : Stp F G1 H1 (upd G1 dx (.xd (names.zip us).reverse)) (upd H1 dx (.xd (names.zip us).reverse)) := stp_new s1.inv s1.gh hd
      refine (w.xs C _ _ _ (w.st.st.trans (s1.trans s2)) p).2 dx _ upd_same ?_ ?_
      · rw [List.map_reverse, List.map_reverse, List.map_fst_zip (by omega), List.map_fst_zip (by omega)]
      · rw [List.map_reverse, List.map_reverse, List.map_snd_zip (by omega), List.map_snd_zip (by omega)]
        have rev : ∀ {G' H' : Hp} {us : List V} {xs : List DV}, RVs F G' H' us xs → RVs F G' H' us.reverse xs.reverse := by
          intro G' H' us
          induction us with
          | nil =>
            intro xs r
            cases xs with
            | nil => exact r
            | cons _ _ => exact r.elim
          | cons u us ih =>
            intro xs r
            cases xs with
            | nil => exact r.elim
            | cons x xs =>
              rw [List.reverse_cons, List.reverse_cons]
              exact (ih r.2).append ⟨r.1, trivial⟩
        exact rev (r1.step s2)
end
/-- the fields that an error bears, read off its dict -/
theorem lookup_rv {F : Fm} {G H : Hp} {f : Str} : ∀ {fv : List (Str × V)} {fs : List (Str × DV)} {x : DV}, fv.map (·.1) = fs.map (·.1) → RVs F G H (fv.map (·.2)) (fs.map (·.2)) → fs.lookup f = some x → ∃ u, fv.lookup f = some u ∧ RV F G H u x
  | [], [], _, _, _, h => by cases h
  | (g, u) :: fv, (g', y) :: fs, x, e, r, h => by
    have e' : g = g' ∧ fv.map (·.1) = fs.map (·.1) := by simpa using e
    obtain ⟨rfl, e2⟩ := e'
    have r' : RV F G H u y ∧ RVs F G H (fv.map (·.2)) (fs.map (·.2)) := r
    by_cases hf : f == g
    · have h' : some y = some x := by simpa [List.lookup, hf] using h
      cases h'
      exact ⟨u, by simp [List.lookup, hf], r'.1⟩
    · have hf' : (f == g) = false := by simpa using hf
      have h' : fs.lookup f = some x := by simpa [List.lookup, hf'] using h
      obtain ⟨w, h1, h2⟩ := lookup_rv e2 r'.2 h'
      exact ⟨w, by simp [List.lookup, hf', h1], h2⟩
  | [], _ :: _, _, e, _, _ => by simp at e
  | _ :: _, [], _, e, _, _ => by simp at e
end DL

/-! # The head's facts by one test of the written part -/
namespace DLH
open PySem PySem.Spec PyProof.Rows L2 He
def obsZ (ex : PySem.W.Frag → Bool) (fn : List DefD) (K : PySem.W.Frag) : AlD := (ex K && fn.all fun d => d.ok K, fn.map fun d => fnW K d.at_)
def SaysZ (ex : PySem.W.Frag → Bool) (fn : List DefD) (K : PySem.W.Frag) : Prop := obsZ ex fn K = valD fn
def obsZG (n : Nat) (ex : PySem.W.Frag → Bool) (fn : List DefD) (g : Addr → Option Obj) : AlD := obsZ ex fn (frG g (asD g n))
def hookZ (n : Nat) (ex : PySem.W.Frag → Bool) (fn : List DefD) : PySem.W.Hook where
  α := AlD
  obs := fun s => obsZG n ex fn s.heap.get?
  val := fun _ => valD fn
  says := fun _ h => ∃ K : PySem.W.Frag, K.In h ∧ SaysZ ex fn K
  of := fun _ _ e => ⟨_, frG_in, e⟩
  keeps := fun _ _ _ ⟨K, hK, c⟩ k => ⟨K, PySem.W.Frag.In.keeps hK k, c⟩
theorem obsZG_eq {n : Nat} {ex : PySem.W.Frag → Bool} {fn : List DefD} {g : Addr → Option Obj} {s : Shared} (h : ∀ a, g a = s.heap.get? a) : obsZG n ex fn g = (hookZ n ex fn).obs s := by
  have e : g = s.heap.get? := funext h
  rw [e] <;> rfl
section
variable {exF : PySem.W.Frag → Bool} {fn : List DefD} {K : PySem.W.Frag}
theorem SaysZ.fact (c : SaysZ exF fn K) : exF K = true := (ba (show (exF K && fn.all fun d => d.ok K) = true from congrArg (fun z : AlD => z.1) c)).1
theorem SaysZ.def_ (c : SaysZ exF fn K) (i : Nat) {d : DefD} (h : fn[i]? = some d := by rfl) : ∃ fd, FunD K d.name d.qual d.params d.body d.scope (d.dvs K) (d.kws K) (fAd K d.at_) fd := by
  have c2 := (ba (show (exF K && fn.all fun d => d.ok K) = true from congrArg (fun z : AlD => z.1) c)).2
  have e : fn.map (fun d => fnW K d.at_) = fn.map DefD.val := congrArg (fun z : AlD => z.2) c
  have e2 : (fn.map fun d => fnW K d.at_)[i]? = (fn.map DefD.val)[i]? := by rw [e]
  rw [List.getElem?_map, List.getElem?_map, h] at e2
  exact DefD.funD (Option.some.inj e2) (List.all_eq_true.mp c2 d (List.mem_of_getElem? h))
end
def binB (K : PySem.W.Frag) (x : Str) (id : String) : Bool := match PySem.W.nsIn K mainGlobals x with
  | some (some (.builtin i)) => decide (i = id)
  | _ => false
theorem binB_ok {K : PySem.W.Frag} {h : Heap} {mg : Str → Option Value} (X : K.In h) (G : h.Ns mainGlobals mg) {x : Str} {id : String} (c : binB K x id = true) : mg x = some (.builtin id) := by
  unfold binB at c
  cases e : PySem.W.nsIn K mainGlobals x with
  | none =>
    rw [e] at c
    cases c
  | some r =>
    cases r with
    | none =>
      rw [e] at c
      cases c
    | some u =>
      rw [e] at c
      cases u with
      | builtin i =>
        have e2 : i = id := of_decide_eq_true c
        subst e2
        exact PySem.W.mg_of X G e
      | _ => cases c
/-- an error class with an own __init__ -/
def oexB (K : PySem.W.Frag) (C : Addr) : Bool := (match K.lookup C with
  | some ⟨.type "type", _, .cls cd, sl⟩ => (match cd.mro, sl.toList with
    | .ref C' :: bm, [_, _, _, _, some (.builtin n), _] => C' == C && (n == "ValueError.__new__" && (!cd.hasDel && (cd.hasDict && PySem.HandSPX.refsVE bm)))
    | _, _ => false)
  | _ => false) && (eqO (PySem.W.findIn K (.ref C) "__setattr__") (some (some (.builtin "object.__setattr__"))) && (decide (PySem.W.subIn K (.ref C) (.type "BaseException") = some true) && (decide (PySem.W.typeIn K (.ref C) = some (.type "type")) && PySem.W.keepIn K (.ref C))))
theorem oexB_ok {K : PySem.W.Frag} {C : Addr} (h : oexB K C = true) : OexC K C := by
  obtain ⟨h1, h⟩ := ba h
  obtain ⟨h2, h⟩ := ba h
  obtain ⟨h3, h⟩ := ba h
  obtain ⟨h4, h5⟩ := ba h
  refine ⟨?_, eqO_ok h2, of_decide_eq_true h3, of_decide_eq_true h4, h5⟩
  split at h1
  · rename_i dd cd sl ho
    split at h1
    · rename_i C' bm k0 k1 k2 k3 n k5 hm hs
      simp only [Bool.and_eq_true, beq_iff_eq, Bool.not_eq_true'] at h1
      obtain ⟨rfl, rfl, hdel, hdc, hve⟩ := h1
      obtain ⟨nm, bs, mro, ns, qn, hd, sn, sub, ab, col, del⟩ := cd
      dsimp only at hm hdel hdc
      subst hm hdel hdc
      have hsl : sl = #[k0, k1, k2, k3, some (.builtin "ValueError.__new__"), k5] := by
        obtain ⟨l⟩ := sl
        simp only at hs
        rw [hs]
      subst hsl
      exact ⟨nm, qn, ns, bs, bm, sn, sub, ab, col, dd, k0, k1, k2, k3, k5, ho, hve⟩
    · cases h1
  · cases h1
end DLH

namespace DLH
open PySem PySem.Spec PyProof.Rows L2 He
/-- a def of the module, its promise, how its arguments bind: dvs, the defaults that fill up -/
structure FnR (P : Program) (w : World) (K : PySem.W.Frag) (mg : Str → Option Value) (base : Heap) (CX : CXT) (k : Nat) (x : Str) (ps : List Str) (dvs : List V) (sp : Sp) : Prop where
  ex : ∃ fd ds, FnOk P w K mg base CX k (ga K x) fd ps sp ∧ Vals dvs ds ∧ Binds K fd ps ds
  gm : mg x = some (.ref (ga K x))
  kp : PySem.W.keepIn K (.ref (ga K x)) = true
/-- the same with keywords -/
structure FnN (P : Program) (w : World) (K : PySem.W.Frag) (mg : Str → Option Value) (base : Heap) (CX : CXT) (k : Nat) (x : Str) (ps : List Str) (n : Nat) (ks : List Str) (gV : List V → List V → List V) (sp : Sp) : Prop where
  ex : ∃ fd g, FnOk P w K mg base CX k (ga K x) fd ps sp ∧ KBn K fd ps n ks g gV
  gm : mg x = some (.ref (ga K x))
  kp : PySem.W.keepIn K (.ref (ga K x)) = true
/-- an error class whose __init__ stores its arguments -/
structure FnI (P : Program) (w : World) (K : PySem.W.Frag) (mg : Str → Option Value) (base : Heap) (k : Nat) (x : Str) (names : List Str) : Prop where
  cls : OexC K (ga K x)
  ini : PySem.W.findIn K (.ref (ga K x)) "__init__" = some (some (.ref (ma K (ga K x) "__init__")))
  ty : PySem.W.typeIn K (.ref (ma K (ga K x) "__init__")) = some (.type "function")
  gm : mg x = some (.ref (ga K x))
  ex : ∃ fd, FnOk P w K mg base CX0 k (ma K (ga K x) "__init__") fd ("self" :: names) (DL.spInit (ga K x) names) ∧ Binds K fd ("self" :: names) []
section
variable {X : Cx} {CX : CXT} {k : Nat} {ps : List Str} {sp : Sp} {dvs : List V} {E : XK} {x : Str} {p pos : Pos} {e : Expr} {es : List Expr} {t : TA}
theorem pe_callF (R : FnR X.prog X.w X.K X.mg X.base CX k x ps dvs sp) (hr : Room k X.A) (hx : Passes CX X E) (ha : PA X (e :: es) t) (hg : Gl X x := by rfl) (hdb : (x == ("__debug__" : Str)) = false := by decide)
    (he : starEach (e :: es) X.env = (false, eval e X.env) :: starEach es X.env := by rfl) (hpl : (backTo pos (starEach es X.env)).any (·.1) = false := by rfl) : PE X (.Call (.Name x p) (e :: es) [] pos) (tCall sp dvs E t) := by
  obtain ⟨fd, ds, F, v, b⟩ := R.ex
  exact pe_call F hr hg R.gm R.kp b v hx ha hdb he hpl
theorem pe_callF0 (R : FnR X.prog X.w X.K X.mg X.base CX k x ps dvs sp) (hr : Room k X.A) (hx : Passes CX X E) (hg : Gl X x := by rfl) (hdb : (x == ("__debug__" : Str)) = false := by decide) : PE X (.Call (.Name x p) [] [] pos) (tCall sp dvs E tNil) := by
  obtain ⟨fd, ds, F, v, b⟩ := R.ex
  exact pe_call0 F hr hg R.gm R.kp b v hx hdb
theorem pe_callSF {Es : L2.St → XK} (R : FnR X.prog X.w X.K X.mg X.base CX k x ps [] sp) (hr : Room k X.A) (hx : ∀ σ, PassesAt CX X σ (Es σ)) (ha : PA X (e :: es) t) (hg : Gl X x := by rfl) (hdb : (x == ("__debug__" : Str)) = false := by decide)
    (he : starEach (e :: es) X.env = (false, eval e X.env) :: starEach es X.env := by rfl) (hpl : (backTo pos (starEach es X.env)).any (·.1) = false := by rfl) : PE X (.Call (.Name x p) (e :: es) [] pos) (tCallS sp Es t) := by
  obtain ⟨fd, ds, F, v, b⟩ := R.ex
  cases v
  exact pe_callS F hr hg R.gm R.kp b hx ha hdb he hpl
theorem pe_callKF {n : Nat} {ks : List Str} {gV : List V → List V → List V} {kws : List Keyword} {tk : TA} (R : FnN X.prog X.w X.K X.mg X.base CX k x ps n ks gV sp) (hr : Room k X.A) (hx : Passes CX X E) (ha : PA X (e :: es) t) (hkw : PK X kws tk) (hg : Gl X x := by rfl)
    (hall : (backToKw pos (keywordEach kws X.env)).all (·.1.isSome) = true := by rfl) (hks : (backToKw pos (keywordEach kws X.env)).filterMap (·.1) = ks := by rfl)
    (hdb : (x == ("__debug__" : Str)) = false := by decide) (he : starEach (e :: es) X.env = (false, eval e X.env) :: starEach es X.env := by rfl)
    (hpl : ((backTo pos (starEach (e :: es) X.env)).any (·.1) || (backToKw pos (keywordEach kws X.env)).any (·.1.isNone)) = false := by rfl) :
    PE X (.Call (.Name x p) (e :: es) kws pos) (tCallN n ks.length sp gV E t tk) := by
  obtain ⟨fd, g, F, b⟩ := R.ex
  exact pe_callN F hr hg R.gm R.kp b hx ha hkw hall hks hdb he hpl
theorem pmk_oexF {names : List Str} (R : FnI X.prog X.w X.K X.mg X.base k x names) (hr : Room (k + 1) X.A) (ha : PA X (e :: es) t) (hg : Gl X x := by rfl) (hdb : (x == ("__debug__" : Str)) = false := by decide)
    (he : starEach (e :: es) X.env = (false, eval e X.env) :: starEach es X.env := by rfl) (hpl : (backTo pos (starEach es X.env)).any (·.1) = false := by rfl) :
    PMk X (.Call (.Name x p) (e :: es) [] pos) (tMkO (ga X.K x) (DL.spInit (ga X.K x) names) [] t) := by
  obtain ⟨fd, F, b⟩ := R.ex
  exact pmk_oex (CX := CX0) R.cls R.ini R.ty F hr b .nil pass0 hg R.gm ha hdb he hpl
end
abbrev FnP (K : PySem.W.Frag) (x : Str) (st : Stmt) (dvs : List V) (fd : FuncData) : Prop := FunD K x x (defArgs st) (defBody st) (defScope st) dvs [] (ga K x) fd
/-- the body of a def that nothing leaves -/
theorem FunD.ok0 {P : Program} {w : World} {K : PySem.W.Frag} {mg : Str → Option Value} {base : Heap} {x qual : Str} {params : Arguments} {body : List Stmt} {scope : Scope} {dvs : List V} {kws : List (Str × V)} {f : Addr} {fd : FuncData} {N ps : List Str} {k n : Nat} {T : DL.TD} {t : TS}
    (F : FunD K x qual params body scope dvs kws f fd) (S : FnScope N ps scope) (hn : n = ps.length) (ht : ∀ (cdv : Value) (A : Around) (outer : List Env) (s : Shared) (H : Hp) (E : XK), Room k (A.deeper (envOfC qual scope s.heap.objs.size f cdv)) → PSs (cxOf CX0 P w K mg base N qual scope f cdv A outer s H E).nox body t)
    (hw : ∀ (vs : List V) (H : Hp) (Q : VK) (E : XK), DL.spT K n T vs H Q E → t { nx := fun _ H' => Q .non H', rt := Q } (start N vs) H) : FnOk P w K mg base CX0 (k + 1) f fd ps (DL.spT K n T) := by
  refine FunD.ok F S (fun vs H Q E h => by rw [← hn]; exact DL.spT_len h) (fun cdv A outer s H vs Q E hr h => ⟨t, PSs.nox (ht cdv A outer s H E hr), hw vs H Q E h⟩)
/-- the body of a def that may raise -/
theorem FunD.okX {P : Program} {w : World} {K : PySem.W.Frag} {mg : Str → Option Value} {base : Heap} {x qual : Str} {params : Arguments} {body : List Stmt} {scope : Scope} {dvs : List V} {kws : List (Str × V)} {f : Addr} {fd : FuncData} {N ps : List Str} {k n : Nat} {T : DL.TD} {t : XK → TS}
    (F : FunD K x qual params body scope dvs kws f fd) (S : FnScope N ps scope) (hn : n = ps.length) (ht : ∀ (cdv : Value) (A : Around) (outer : List Env) (s : Shared) (H : Hp) (E : XK), Room k (A.deeper (envOfC qual scope s.heap.objs.size f cdv)) → PSs (cxOf (L2.CX P w) P w K mg base N qual scope f cdv A outer s H E) body (t E))
    (hw : ∀ (vs : List V) (H : Hp) (Q : VK) (E : XK), DL.spT K n T vs H Q E → t E { nx := fun _ H' => Q .non H', rt := Q } (start N vs) H) : FnOk P w K mg base (L2.CX P w) (k + 1) f fd ps (DL.spT K n T) := by
  refine FunD.ok F S (fun vs H Q E h => by rw [← hn]; exact DL.spT_len h) (fun cdv A outer s H vs Q E hr h => ⟨t E, ht cdv A outer s H E hr, hw vs H Q E h⟩)
end DLH

namespace DL
open PySem L2
open Evl (Ex Ex.refl Ex.trans Ex.new)
section
variable {F : Fm} {X : XW} {δ : DSt} {Xp : XP} {P : DV → Prop}
/-- a call of a name that holds a def -/
theorem ed_callA {i n : Nat} {f : Addr} {S : Addr → Option Sp} {T : TD} {ta : TA} (h : δ[i]? = some (some (.v (.ref f)))) (hS : S f = some (spT F.K n T)) (ht : EA F X ta δ Xp fun xs => xs.length = n ∧ Plains xs ∧ T xs X0 fun z => Plain z ∧ P z) : ED F X (tCallA i S ta) δ Xp P := fun σ H G c Q q => by
  obtain ⟨u, hu, r⟩ := c.sl.at_ i _ h
  obtain rfl : u = .ref f := r
  refine ⟨f, _, hu, hS, ?_⟩
  have k := ed_call (E := fun _ _ _ => False) ht σ H G c Q q
  have e0 : (fun (vs : List V) (H1 : Hp) => spT F.K n T (vs ++ []) H1 Q (fun _ _ _ => False)) = fun vs H1 => spT F.K n T vs H1 Q (fun _ _ _ => False) := by
    funext vs H1
    rw [List.append_nil]
  have k' : ta σ H (fun (vs : List V) (H1 : Hp) => spT F.K n T (vs ++ []) H1 Q (fun _ _ _ => False)) := k
  rw [e0] at k'
  exact k'
/-- keywords: gV puts the values in the parameters' order; gD the same of data -/
theorem ed_callN {n m k : Nat} {T : TD} {gV : List V → List V → List V} {gD : List DV → List DV → List DV} {E : XK} {ta tk : TA} (hg : ∀ F' : Fm, F'.K = F.K → ∀ G H us xs ws ys, RVs F' G H us xs → RVs F' G H ws ys → RVs F' G H (gV us ws) (gD xs ys))
    (h : EA F X ta δ Xp fun xs => EA F X tk δ Xp fun ys => xs.length = n ∧ ys.length = m ∧ (gD xs ys).length = k ∧ Plains xs ∧ Plains ys ∧ Plains (gD xs ys) ∧ T (gD xs ys) X0 fun z => Plain z ∧ P z) : ED F X (tCallN n m (spT F.K k T) gV E ta tk) δ Xp P := fun σ H G c Q q =>
  h σ H G c _ fun us xs H1 G1 s1 r1 h1 => h1 σ H1 G1 (c.step s1) _ fun ws ys H2 G2 s2 r2 ⟨l1, l2, l3, p1, p2, p3, t⟩ => by
    refine ⟨(RVs.len r1).trans l1, (RVs.len r2).trans l2, ?_⟩
    refine ⟨G2, gD xs ys, X0, _, s2.gh.trans Rs.sub, l3, p3, hg (F0 F.K H2) rfl G2 H2 us xs ws ys (rvs_plain (F' := F0 F.K H2) (by rfl) p1 (r1.step s2)) (rvs_plain (by rfl) p2 r2), t, fun _ _ _ _ _ h => h.elim, fun u x H3 G3 s3 r3 p => ?_⟩
    exact q u x H3 G3 ((s1.trans s2).trans (stp_of0 s2.inv s3 s2.gh)) (rv_plain (by rfl) p.1 r3) p.2
/-- e.f, e a caught error's name -/
theorem ed_xf {i : Nat} {a d C : Addr} {fs : List (Str × PyData)} {f : Str} {y : PyData} (h : δ[i]? = some (some (.x a d fs))) (hf : fs.lookup f = some y) (p : P (.d y)) : ED F X (tXf a (.ref C) (some d) C f (tVar i)) δ Xp P := fun σ H G c Q q => by
  obtain ⟨u, hu, rfl, fv, hd, hn, ha⟩ := c.sl.at_ i _ h
  have hd' := Rs.sub d _ (c.gh d _ hd)
  have look : ∀ {fv : List (Str × V)} {fs : List (Str × PyData)}, fv.map (·.1) = fs.map (·.1) → DpAll F.K G (fv.map (·.2)) (fs.map (·.2)) → fs.lookup f = some y → ∃ u, fv.lookup f = some u ∧ Dp F.K G u y := by
    intro fv
    induction fv with
    | nil =>
      intro fs e _ l
      cases fs with
      | nil => cases l
      | cons _ _ => simp at e
    | cons g fv ih =>
      intro fs e a l
      cases fs with
      | nil => simp at e
      | cons g' fs =>
        obtain ⟨g, v⟩ := g
        obtain ⟨g', z⟩ := g'
        have e' : g = g' ∧ fv.map (·.1) = fs.map (·.1) := by simpa using e
        obtain ⟨rfl, e2⟩ := e'
        cases a with
        | cons a1 a2 =>
          by_cases hfg : f == g
          · have h' : some z = some y := by simpa [List.lookup, hfg] using l
            cases h'
            exact ⟨v, by simp [List.lookup, hfg], a1⟩
          · have hf' : (f == g) = false := by simpa using hfg
            have h' : fs.lookup f = some y := by simpa [List.lookup, hf'] using l
            obtain ⟨w, h1, h2⟩ := ih e2 a2 h'
            exact ⟨w, by simp [List.lookup, hf', h1], h2⟩
  obtain ⟨v, hv, dv⟩ := look hn ha hf
  exact ⟨_, hu, rfl, rfl, d, fv, v, rfl, hd', hv, q v _ H G c.here (.d dv) p⟩
end
section
variable {F : Fm} {X : XK} {δ : DSt} {Xp : XP} {E : DE}
theorem xs_x {C : Addr} {fs : List (Str × PyData)} {G H : Hp} {a d : Addr} {fv : List (Str × V)} (hd : G d = some (.xd fv)) (hn : fv.map (·.1) = (fs.map fun q => (q.1, DV.d q.2)).map (·.1)) (hr : RVs F G H (fv.map (·.2)) ((fs.map fun q => (q.1, DV.d q.2)).map (·.2))) : RV F G H (.ref a) (.x a d fs) := by
  refine ⟨rfl, fv, hd, by rw [hn, List.map_map] <;> rfl, ?_⟩
  have : ∀ {us : List V} {ys : List PyData}, RVs F G H us (ys.map DV.d) → DpAll F.K G us ys := by
    intro us
    induction us with
    | nil =>
      intro ys r
      cases ys with
      | nil => exact .nil
      | cons _ _ => exact r.elim
    | cons u us ih =>
      intro ys r
      cases ys with
      | nil => exact r.elim
      | cons y ys => exact .cons r.1 (ih r.2)
  refine this ?_
  have e : (fs.map fun q => (q.1, DV.d q.2)).map (·.2) = (fs.map (·.2)).map DV.d := by simp
  rw [e] at hr
  exact hr
/-- try: return e  except C as n: suite -/
theorem ws_tryAsR {i : Nat} {c : Value} {te : WX → TE} {ts : Addr → Value → Option Addr → TS} {Wout : WX} (Xe : XP) (hb : ∀ W : WX, ED F (fun σ cls d H => W cls d σ H) (te W) δ Xe E.rt)
    (hh : ∀ C fs, Xe C fs → PySem.W.exmOne F.K (.ref C) c = some true ∧ ∃ fsD : List (Str × PyData), fs = fsD.map (fun q => (q.1, DV.d q.2)) ∧ fs ≠ [] ∧
      ∀ a d, WS F X (ts a (.ref C) (some d)) (δ.set i (some (.x a d fsD))) Xp { nx := fun δ' => E.nx (δ'.set i none), rt := E.rt, bk := fun δ' => E.bk (δ'.set i none), ct := fun δ' => E.ct (δ'.set i none) }) :
    WS F X (fun D σ H => tRet (te (wAs F.K c i ts Wout D)) D σ H) δ Xp E := fun B σ H G D w s => by
  refine hb _ σ H G ⟨w.st.st.inv, w.st.st.gh, w.sl, fun C fs G' H' st hx => ?_⟩ _ fun u x H1 G1 s1 r1 p => s.rt u x H1 G1 (w.st.go s1) r1 p
  obtain ⟨he, fsD, e, ne, k⟩ := hh C fs hx
  refine ⟨fun z => absurd z ne, fun d fv hd hn hr => ⟨true, he, fun _ a ha => ?_, fun z => by cases z⟩⟩
  subst e
  have rx : RV F G' H' (.ref a) (.x a d fsD) := xs_x (C := C) hd hn hr
  refine k a d B (σ.set i (some (.ref a))) H' G' _ (w.go st (sl_set (w.sl.step st) (x := .x a d fsD) trivial rx)) ?_
  exact ⟨fun σ' δ' H2 G2 r2 l2 p => s.nx _ _ H2 G2 r2 (sl_wipe1 l2) p, s.rt, fun σ' δ' H2 G2 r2 l2 p => s.bk _ _ H2 G2 r2 (sl_wipe1 l2) p, fun σ' δ' H2 G2 r2 l2 p => s.ct _ _ H2 G2 r2 (sl_wipe1 l2) p⟩
/-- try: return e  except C: suite -/
theorem ws_tryOnlyR {c : Value} {te : WX → TE} {ts : Addr → Value → Option Addr → TS} {Wout : WX} (Xe : XP) (hb : ∀ W : WX, ED F (fun σ cls d H => W cls d σ H) (te W) δ Xe E.rt)
    (hh : ∀ C fs, Xe C fs → PySem.W.exmOne F.K (.ref C) c = some true ∧ ∀ a d, WS F X (ts a (.ref C) d) δ Xp E) :
    WS F X (fun D σ H => tRet (te (wOnly F.K c ts Wout D)) D σ H) δ Xp E := fun B σ H G D w s => by
  refine hb _ σ H G ⟨w.st.st.inv, w.st.st.gh, w.sl, fun C fs G' H' st hx => ?_⟩ _ fun u x H1 G1 s1 r1 p => s.rt u x H1 G1 (w.st.go s1) r1 p
  obtain ⟨he, k⟩ := hh C fs hx
  exact ⟨fun _ => ⟨true, he, fun _ a ha => k a none B σ H' G' D (w.go st (w.sl.step st)) s, fun z => by cases z⟩,
    fun d fv hd hn hr => ⟨true, he, fun _ a ha => k a (some d) B σ H' G' D (w.go st (w.sl.step st)) s, fun z => by cases z⟩⟩
end
end DL

namespace DL
open PySem L2
open Evl (Ex Ex.refl Ex.trans Ex.new)
section
variable {A B : Prop}
theorem if_dec {c : Prop} [Decidable c] (h1 : c → A) (h2 : ¬ c → B) : if decide c = true then A else B := by
  by_cases h : c
  · rw [if_pos (decide_eq_true h)]
    exact h1 h
  · rw [if_neg (by rw [decide_eq_false h]; decide)]
    exact h2 h
theorem if_ndec {c : Prop} [Decidable c] (h1 : ¬ c → A) (h2 : c → B) : if (!decide c) = true then A else B := by
  by_cases h : c
  · rw [if_neg (by rw [decide_eq_true h]; decide)]
    exact h2 h
  · rw [if_pos (by rw [decide_eq_false h]; rfl)]
    exact h1 h
theorem if_t (h : A) : if true = true then A else B := by rw [if_pos rfl]; exact h
theorem if_f (h : B) : if false = true then A else B := by rw [if_neg Bool.false_ne_true]; exact h
theorem if_nt (h : B) : if (!true) = true then A else B := if_f h
theorem if_nf (h : A) : if (!false) = true then A else B := if_t h
theorem if_bool {b : Bool} (h1 : b = true → A) (h2 : b = false → B) : if b = true then A else B := by
  cases b with
  | true => exact if_t (h1 rfl)
  | false => exact if_f (h2 rfl)
end
section
variable {F : Fm} {P : DV → Prop} {i j : Int} {a b : Bool} {s t : Str} {xs ys : List PyData} {x y : PyData}
theorem eqv_int : PyData.eqv (.int i) (.int j) = decide (i = j) := by
  show (i == j) = decide (i = j)
  rfl
theorem eqv_str : PyData.eqv (.str s) (.str t) = decide (s = t) := by
  show (s == t) = decide (s = t)
  by_cases h : s = t
  · subst h; simp
  · simp [h]
theorem d2_eqI (p : P (DB (decide (i = j)))) : D2 F (rEqD F.K) (DI i) (DI j) P := d2_eq rfl rfl rfl rfl (by rw [eqv_int]; exact p)
theorem d2_neI (p : P (DB (!decide (i = j)))) : D2 F (rNeD F.K) (DI i) (DI j) P := d2_ne rfl rfl rfl rfl (by rw [eqv_int]; exact p)
theorem d2_eqG {c e : DV} (p : P (DB (PyData.eqv x y))) (hc : seen c = some x) (he : seen e = some y) (hx : SeqAt.shaped x = true) (hy : SeqAt.shaped y = true) : D2 F (rEqD F.K) c e P := d2_eq hc he hx hy p
theorem d2_neG {c e : DV} (p : P (DB (!PyData.eqv x y))) (hc : seen c = some x) (he : seen e = some y) (hx : SeqAt.shaped x = true) (hy : SeqAt.shaped y = true) : D2 F (rNeD F.K) c e P := d2_ne hc he hx hy p
theorem d2_mul' (p : P (DI (i * j))) (h : CMulW i j) : D2 F rMulU (DI i) (DI j) P := d2_mul h p
theorem d2_mulS' (p : P (DI (i * j))) (h : CMul i j) : D2 F rMulU (DI i) (DI j) P := d2_mulS h p
theorem d2_div' (p : P (DI (i / j))) (h : CDivW i j) : D2 F rDivU (DI i) (DI j) P := d2_div h p
theorem d2_mod' (p : P (DI (i % j))) (h : 0 < j) : D2 F rModU (DI i) (DI j) P := d2_mod h p
theorem d2_pow' (p : P (DI (i ^ j.toNat))) (h : CPow i j) : D2 F rPowU (DI i) (DI j) P := d2_pow h p
theorem d2_addS' (p : P (DS (s ++ t))) (h : s.length + t.length ≤ 100000) : D2 F (rAddU F.K) (DS s) (DS t) P := d2_addS h p
theorem d2_addL' (p : P (.d (.list (xs ++ ys)))) (h : xs.length + ys.length ≤ 100000) : D2 F (rAddU F.K) (.d (.list xs)) (.d (.list ys)) P := d2_addL h p
theorem dc_strI' (p : P (DS (toString i))) (h : i.natAbs.log2 < 1920) : DC F rStrU [DI i] P := dc_strI h p
theorem dc_isi' {n : String} {r : Bool} (p : P (DB r)) (h : kitB (tyName x) n = some r) : DC F (rIsi F.K) [.d x, .v (.ty n)] P := dc_isi h p
theorem ed_fmtI' {X : XW} {te : TE} {δ : DSt} {Xp : XP} (h : ED F X te δ Xp fun x => ∃ i, x = DI i ∧ P (DS (toString i)) ∧ i.natAbs.log2 < 1920) : ED F X (tFmt te) δ Xp P :=
  ed_fmtI (h.mono fun x ⟨i, e, p, b⟩ => ⟨i, e, b, p⟩)
/-- the ints ask of a product: both below bounds by powers of two -/
theorem cmul_of {a b : Nat} (ha : i.natAbs < 2 ^ a) (hb : j.natAbs < 2 ^ b) (h0 : 0 < a := by decide) (h1 : 0 < b := by decide) (h : a + b ≤ 1000000 := by decide) : CMulW i j := wide_mul ha hb h0 h1 h
theorem cdiv_of {b : Nat} (h : 0 < j) (hb : j.natAbs < 2 ^ b) (h0 : 0 < b := by decide) (h9 : b ≤ 9000 := by decide) : CDivW i j := wide_div h hb h0 h9
theorem and_pl {A : Prop} (h : A) : Plain (.d x) ∧ A := ⟨trivial, h⟩
theorem and_plv {A : Prop} {w : V} (h : A) : Plain (.v w) ∧ A := ⟨trivial, h⟩
theorem plains_d {zs : List DV} (h : Plains zs) : Plains (.d x :: zs) := plains_cons trivial h
theorem plains_v {zs : List DV} {w : V} (h : Plains zs) : Plains (.v w :: zs) := plains_cons trivial h
theorem plains1 {c : DV} (h : Plain c) : Plains [c] := plains_cons h plains_nil
/-- the data of plain values -/
def toD : List DV → Option (List PyData)
  | [] => some []
  | .d x :: xs => (toD xs).map (x :: ·)
  | _ => none
theorem allD_of : ∀ {xs : List DV} {ys : List PyData}, toD xs = some ys → AllD xs ys
  | [], ys, h => by
    cases h
    trivial
  | .d x :: xs, ys, h => by
    have h' : (toD xs).map (x :: ·) = some ys := h
    cases e : toD xs with
    | none => rw [e] at h'; cases h'
    | some zs =>
      rw [e] at h'
      cases h'
      exact ⟨rfl, allD_of e⟩
  | .v _ :: _, _, h => by cases h
  | .o _ :: _, _, h => by cases h
  | .x _ _ _ :: _, _, h => by cases h
  | .p _ _ :: _, _, h => by cases h
theorem tup_fin {xs : List DV} {ys : List PyData} (h : toD xs = some ys) (p : P (.d (.tuple ys))) (l : ys.length ≤ 100000) : ∃ ys, AllD xs ys ∧ ys.length ≤ 100000 ∧ P (.d (.tuple ys)) := ⟨ys, allD_of h, l, p⟩
theorem lst_fin {xs : List DV} {ys : List PyData} (h : toD xs = some ys) (p : P (.d (.list ys))) (l : ys.length ≤ 100000) : ∃ ys, AllD xs ys ∧ ys.length ≤ 100000 ∧ P (.d (.list ys)) := ⟨ys, allD_of h, l, p⟩
end
/-! ### isinstance of data -/
section
variable {F : Fm} {P : DV → Prop}
theorem ed_ref {X : XW} {δ : DSt} {Xp : XP} {a : Addr} (p : P (.v (.ref a))) : ED F X (tC (.ref a)) δ Xp P := ed_raw p
theorem ed_ty {X : XW} {δ : DSt} {Xp : XP} {n : String} (p : P (.v (.ty n))) : ED F X (tC (.ty n)) δ Xp P := ed_raw p
theorem dc_isi_i_int {i : Int} (p : P (DB true)) : DC F (rIsi F.K) [.d (.int i), .v (.ty "int")] P := dc_isi' p (show kitB "int" "int" = some true by decide +kernel)
theorem dc_isi_i_bool {i : Int} (p : P (DB false)) : DC F (rIsi F.K) [.d (.int i), .v (.ty "bool")] P := dc_isi' p (show kitB "int" "bool" = some false by decide +kernel)
theorem dc_isi_i_str {i : Int} (p : P (DB false)) : DC F (rIsi F.K) [.d (.int i), .v (.ty "str")] P := dc_isi' p (show kitB "int" "str" = some false by decide +kernel)
theorem dc_isi_i_list {i : Int} (p : P (DB false)) : DC F (rIsi F.K) [.d (.int i), .v (.ty "list")] P := dc_isi' p (show kitB "int" "list" = some false by decide +kernel)
theorem dc_isi_i_tuple {i : Int} (p : P (DB false)) : DC F (rIsi F.K) [.d (.int i), .v (.ty "tuple")] P := dc_isi' p (show kitB "int" "tuple" = some false by decide +kernel)
theorem dc_isi_b_int {b : Bool} (p : P (DB true)) : DC F (rIsi F.K) [.d (.bool b), .v (.ty "int")] P := dc_isi' p (show kitB "bool" "int" = some true by decide +kernel)
theorem dc_isi_b_bool {b : Bool} (p : P (DB true)) : DC F (rIsi F.K) [.d (.bool b), .v (.ty "bool")] P := dc_isi' p (show kitB "bool" "bool" = some true by decide +kernel)
theorem dc_isi_b_str {b : Bool} (p : P (DB false)) : DC F (rIsi F.K) [.d (.bool b), .v (.ty "str")] P := dc_isi' p (show kitB "bool" "str" = some false by decide +kernel)
theorem dc_isi_b_list {b : Bool} (p : P (DB false)) : DC F (rIsi F.K) [.d (.bool b), .v (.ty "list")] P := dc_isi' p (show kitB "bool" "list" = some false by decide +kernel)
theorem dc_isi_b_tuple {b : Bool} (p : P (DB false)) : DC F (rIsi F.K) [.d (.bool b), .v (.ty "tuple")] P := dc_isi' p (show kitB "bool" "tuple" = some false by decide +kernel)
theorem dc_isi_n_int  (p : P (DB false)) : DC F (rIsi F.K) [.d .none, .v (.ty "int")] P := dc_isi' p (show kitB "NoneType" "int" = some false by decide +kernel)
theorem dc_isi_n_bool  (p : P (DB false)) : DC F (rIsi F.K) [.d .none, .v (.ty "bool")] P := dc_isi' p (show kitB "NoneType" "bool" = some false by decide +kernel)
theorem dc_isi_n_str  (p : P (DB false)) : DC F (rIsi F.K) [.d .none, .v (.ty "str")] P := dc_isi' p (show kitB "NoneType" "str" = some false by decide +kernel)
theorem dc_isi_n_list  (p : P (DB false)) : DC F (rIsi F.K) [.d .none, .v (.ty "list")] P := dc_isi' p (show kitB "NoneType" "list" = some false by decide +kernel)
theorem dc_isi_n_tuple  (p : P (DB false)) : DC F (rIsi F.K) [.d .none, .v (.ty "tuple")] P := dc_isi' p (show kitB "NoneType" "tuple" = some false by decide +kernel)
theorem dc_isi_s_int {s : Str} (p : P (DB false)) : DC F (rIsi F.K) [.d (.str s), .v (.ty "int")] P := dc_isi' p (show kitB "str" "int" = some false by decide +kernel)
theorem dc_isi_s_bool {s : Str} (p : P (DB false)) : DC F (rIsi F.K) [.d (.str s), .v (.ty "bool")] P := dc_isi' p (show kitB "str" "bool" = some false by decide +kernel)
theorem dc_isi_s_str {s : Str} (p : P (DB true)) : DC F (rIsi F.K) [.d (.str s), .v (.ty "str")] P := dc_isi' p (show kitB "str" "str" = some true by decide +kernel)
theorem dc_isi_s_list {s : Str} (p : P (DB false)) : DC F (rIsi F.K) [.d (.str s), .v (.ty "list")] P := dc_isi' p (show kitB "str" "list" = some false by decide +kernel)
theorem dc_isi_s_tuple {s : Str} (p : P (DB false)) : DC F (rIsi F.K) [.d (.str s), .v (.ty "tuple")] P := dc_isi' p (show kitB "str" "tuple" = some false by decide +kernel)
theorem dc_isi_l_int {xs : List PyData} (p : P (DB false)) : DC F (rIsi F.K) [.d (.list xs), .v (.ty "int")] P := dc_isi' p (show kitB "list" "int" = some false by decide +kernel)
theorem dc_isi_l_bool {xs : List PyData} (p : P (DB false)) : DC F (rIsi F.K) [.d (.list xs), .v (.ty "bool")] P := dc_isi' p (show kitB "list" "bool" = some false by decide +kernel)
theorem dc_isi_l_str {xs : List PyData} (p : P (DB false)) : DC F (rIsi F.K) [.d (.list xs), .v (.ty "str")] P := dc_isi' p (show kitB "list" "str" = some false by decide +kernel)
theorem dc_isi_l_list {xs : List PyData} (p : P (DB true)) : DC F (rIsi F.K) [.d (.list xs), .v (.ty "list")] P := dc_isi' p (show kitB "list" "list" = some true by decide +kernel)
theorem dc_isi_l_tuple {xs : List PyData} (p : P (DB false)) : DC F (rIsi F.K) [.d (.list xs), .v (.ty "tuple")] P := dc_isi' p (show kitB "list" "tuple" = some false by decide +kernel)
theorem dc_isi_t_int {xs : List PyData} (p : P (DB false)) : DC F (rIsi F.K) [.d (.tuple xs), .v (.ty "int")] P := dc_isi' p (show kitB "tuple" "int" = some false by decide +kernel)
theorem dc_isi_t_bool {xs : List PyData} (p : P (DB false)) : DC F (rIsi F.K) [.d (.tuple xs), .v (.ty "bool")] P := dc_isi' p (show kitB "tuple" "bool" = some false by decide +kernel)
theorem dc_isi_t_str {xs : List PyData} (p : P (DB false)) : DC F (rIsi F.K) [.d (.tuple xs), .v (.ty "str")] P := dc_isi' p (show kitB "tuple" "str" = some false by decide +kernel)
theorem dc_isi_t_list {xs : List PyData} (p : P (DB false)) : DC F (rIsi F.K) [.d (.tuple xs), .v (.ty "list")] P := dc_isi' p (show kitB "tuple" "list" = some false by decide +kernel)
theorem dc_isi_t_tuple {xs : List PyData} (p : P (DB true)) : DC F (rIsi F.K) [.d (.tuple xs), .v (.ty "tuple")] P := dc_isi' p (show kitB "tuple" "tuple" = some true by decide +kernel)
theorem dc_isi_d_int {kvs : List (PyData × PyData)} (p : P (DB false)) : DC F (rIsi F.K) [.d (.dict kvs), .v (.ty "int")] P := dc_isi' p (show kitB "dict" "int" = some false by decide +kernel)
theorem dc_isi_d_bool {kvs : List (PyData × PyData)} (p : P (DB false)) : DC F (rIsi F.K) [.d (.dict kvs), .v (.ty "bool")] P := dc_isi' p (show kitB "dict" "bool" = some false by decide +kernel)
theorem dc_isi_d_str {kvs : List (PyData × PyData)} (p : P (DB false)) : DC F (rIsi F.K) [.d (.dict kvs), .v (.ty "str")] P := dc_isi' p (show kitB "dict" "str" = some false by decide +kernel)
theorem dc_isi_d_list {kvs : List (PyData × PyData)} (p : P (DB false)) : DC F (rIsi F.K) [.d (.dict kvs), .v (.ty "list")] P := dc_isi' p (show kitB "dict" "list" = some false by decide +kernel)
theorem dc_isi_d_tuple {kvs : List (PyData × PyData)} (p : P (DB false)) : DC F (rIsi F.K) [.d (.dict kvs), .v (.ty "tuple")] P := dc_isi' p (show kitB "dict" "tuple" = some false by decide +kernel)
end
section
variable {F : Fm} {P : DV → Prop}
theorem d2_isN_i {i : Int} (p : P (DB false)) : D2 F rIsU (.d (.int i)) DN P := d2_isN p
theorem d2_isNN_i {i : Int} (p : P (DB true)) : D2 F rIsNU (.d (.int i)) DN P := d2_isNN p
theorem d2_isN_b {b : Bool} (p : P (DB false)) : D2 F rIsU (.d (.bool b)) DN P := d2_isN p
theorem d2_isNN_b {b : Bool} (p : P (DB true)) : D2 F rIsNU (.d (.bool b)) DN P := d2_isNN p
theorem d2_isN_n  (p : P (DB true)) : D2 F rIsU (.d .none) DN P := d2_isN p
theorem d2_isNN_n  (p : P (DB false)) : D2 F rIsNU (.d .none) DN P := d2_isNN p
theorem d2_isN_s {s : Str} (p : P (DB false)) : D2 F rIsU (.d (.str s)) DN P := d2_isN p
theorem d2_isNN_s {s : Str} (p : P (DB true)) : D2 F rIsNU (.d (.str s)) DN P := d2_isNN p
theorem d2_isN_l {xs : List PyData} (p : P (DB false)) : D2 F rIsU (.d (.list xs)) DN P := d2_isN p
theorem d2_isNN_l {xs : List PyData} (p : P (DB true)) : D2 F rIsNU (.d (.list xs)) DN P := d2_isNN p
theorem d2_isN_t {xs : List PyData} (p : P (DB false)) : D2 F rIsU (.d (.tuple xs)) DN P := d2_isN p
theorem d2_isNN_t {xs : List PyData} (p : P (DB true)) : D2 F rIsNU (.d (.tuple xs)) DN P := d2_isNN p
end
end DL

/-! # The law's hand: drawn numbers -/
namespace DL
open PySem L2
open Evl (Ex Ex.refl Ex.trans Ex.new)
local macro_rules | `(tactic| walk_at "dl-call") => `(tactic| fail)
local macro_rules | `(tactic| walk_at "dl-pl") => `(tactic| (repeat' (first | exact plains_nil | refine plains_cons trivial ?_)))
local macro_rules | `(tactic| walk_at "dl-ws") => `(tactic| first
  | with_reducible refine ws_seq ?_
  | with_reducible refine ws_asg ?_
  | with_reducible refine ws_ret ?_
  | with_reducible refine ws_if ?_
  | with_reducible refine ws_next ?_
  | with_reducible refine ws_asgG ?_
  | with_reducible refine ws_par ?_
  | with_reducible refine ws_drop ?_
  | with_reducible refine ws_brk ?_)
local macro_rules | `(tactic| walk_at "dl-ed") => `(tactic| first
  | with_reducible refine ed_var rfl ?_
  | with_reducible refine ed_int ?_
  | with_reducible refine ed_op ?_
  | with_reducible refine ed_call ?_
  | with_reducible refine ed_tup ?_
  | with_reducible refine ed_cb ?_
  | with_reducible refine ed_un ?_
  | with_reducible refine ed_lst ?_
  | with_reducible refine ed_str ?_
  | with_reducible refine ed_bl ?_
  | with_reducible refine ed_non ?_
  | with_reducible refine ed_if ?_
  | with_reducible refine ed_andV ?_
  | with_reducible refine ed_orV ?_
  | with_reducible refine ed_notV ?_
  | with_reducible refine ed_ref ?_
  | with_reducible refine ed_ty ?_
  | with_reducible refine ed_fmtI' ?_
  | with_reducible refine ed_joined ?_)
local macro_rules | `(tactic| walk_at "dl-ea") => `(tactic| first
  | with_reducible refine ea_cons ?_
  | with_reducible refine ea_nil ?_)
local macro_rules | `(tactic| walk_at "dl-et") => `(tactic| first
  | with_reducible refine et_tst ?_
  | with_reducible refine et_b ?_
  | with_reducible refine et_and ?_
  | with_reducible refine et_or ?_
  | with_reducible refine et_not ?_
  | with_reducible refine et_yes ?_)
local macro_rules | `(tactic| walk_at "dl-d2") => `(tactic| first
  | with_reducible refine d2_add ?_
  | with_reducible refine d2_ixT rfl ?_
  | with_reducible refine d2_ixL rfl ?_
  | with_reducible refine d2_eqI ?_
  | with_reducible refine d2_neI ?_
  | with_reducible refine d2_lt ?_
  | with_reducible refine d2_le ?_
  | with_reducible refine d2_gt ?_
  | with_reducible refine d2_ge ?_
  | with_reducible refine d2_sub ?_
  | with_reducible refine d2_mulS' ?_ ?_
  | with_reducible refine d2_div' ?_ ?_
  | with_reducible refine d2_mod' ?_ ?_
  | with_reducible refine d2_isN_i ?_
  | with_reducible refine d2_isNN_i ?_
  | with_reducible refine d2_isN_b ?_
  | with_reducible refine d2_isNN_b ?_
  | with_reducible refine d2_isN_n ?_
  | with_reducible refine d2_isNN_n ?_
  | with_reducible refine d2_isN_s ?_
  | with_reducible refine d2_isNN_s ?_
  | with_reducible refine d2_isN_l ?_
  | with_reducible refine d2_isNN_l ?_
  | with_reducible refine d2_isN_t ?_
  | with_reducible refine d2_isNN_t ?_
  | with_reducible refine d2_isB ?_
  | with_reducible refine d2_isNB ?_
  | with_reducible refine d2_addS' ?_ ?_
  | with_reducible refine d2_addL' ?_ ?_
  | with_reducible refine d2_isN ?_
  | with_reducible refine d2_isNN ?_)
local macro_rules | `(tactic| walk_at "dl-isi") => `(tactic| first
  | with_reducible refine dc_isi_i_int ?_
  | with_reducible refine dc_isi_i_bool ?_
  | with_reducible refine dc_isi_i_str ?_
  | with_reducible refine dc_isi_i_list ?_
  | with_reducible refine dc_isi_i_tuple ?_
  | with_reducible refine dc_isi_b_int ?_
  | with_reducible refine dc_isi_b_bool ?_
  | with_reducible refine dc_isi_b_str ?_
  | with_reducible refine dc_isi_b_list ?_
  | with_reducible refine dc_isi_b_tuple ?_
  | with_reducible refine dc_isi_n_int ?_
  | with_reducible refine dc_isi_n_bool ?_
  | with_reducible refine dc_isi_n_str ?_
  | with_reducible refine dc_isi_n_list ?_
  | with_reducible refine dc_isi_n_tuple ?_
  | with_reducible refine dc_isi_s_int ?_
  | with_reducible refine dc_isi_s_bool ?_
  | with_reducible refine dc_isi_s_str ?_
  | with_reducible refine dc_isi_s_list ?_
  | with_reducible refine dc_isi_s_tuple ?_
  | with_reducible refine dc_isi_l_int ?_
  | with_reducible refine dc_isi_l_bool ?_
  | with_reducible refine dc_isi_l_str ?_
  | with_reducible refine dc_isi_l_list ?_
  | with_reducible refine dc_isi_l_tuple ?_
  | with_reducible refine dc_isi_t_int ?_
  | with_reducible refine dc_isi_t_bool ?_
  | with_reducible refine dc_isi_t_str ?_
  | with_reducible refine dc_isi_t_list ?_
  | with_reducible refine dc_isi_t_tuple ?_
  | with_reducible refine dc_isi_d_int ?_
  | with_reducible refine dc_isi_d_bool ?_
  | with_reducible refine dc_isi_d_str ?_
  | with_reducible refine dc_isi_d_list ?_
  | with_reducible refine dc_isi_d_tuple ?_)
local macro_rules | `(tactic| walk_at "dl-dc") => `(tactic| first
  | with_reducible refine dc_int ?_
  | with_reducible refine dc_abs ?_
  | with_reducible refine dc_gcd ?_
  | with_reducible refine dc_lenT ?_
  | with_reducible refine dc_lenL ?_
  | with_reducible refine dc_strI' ?_ ?_
  | walk_at "dl-isi")
local macro_rules | `(tactic| walk_at "dl1") => `(tactic| first
  | (with_reducible show ED _ _ _ _ _ _; walk_at "dl-ed")
  | (with_reducible show WS _ _ _ _ _ _; walk_at "dl-ws")
  | (with_reducible show EA _ _ _ _ _ _; walk_at "dl-ea")
  | (with_reducible show D2 _ _ _ _ _; walk_at "dl-d2")
  | (with_reducible refine ⟨_, rfl, ?_⟩)
  | (with_reducible show ET _ _ _ _ _ _; walk_at "dl-et")
  | (with_reducible show DC _ _ _ _; walk_at "dl-dc")
  | with_reducible refine if_t ?_
  | with_reducible refine if_f ?_
  | with_reducible refine if_nt ?_
  | with_reducible refine if_nf ?_
  | with_reducible refine and_pl ?_
  | (with_reducible refine if_dec (fun _ => ?_) (fun _ => ?_))
  | (with_reducible refine if_ndec (fun _ => ?_) (fun _ => ?_))
  | (with_reducible refine if_bool (fun _ => ?_) (fun _ => ?_))
  | with_reducible refine d1_neg ?_
  | (refine tup_fin (by rfl) ?_ (Nat.le_of_ble_eq_true rfl))
  | (refine lst_fin (by rfl) ?_ (Nat.le_of_ble_eq_true rfl))
  | (with_reducible refine ⟨rfl, (by repeat (first | exact plains_nil | refine plains_d ?_ | refine plains_v ?_)), ?_⟩; walk_at "dl-call")
  | with_reducible refine and_plv ?_
  | with_reducible refine ej_cons ?_
  | with_reducible refine ej_nil ?_
  | (dsimp only [List.set]))
local macro_rules | `(tactic| walk_at "dl") => `(tactic| (walk_at "dl1" <;> try (walk_at "dl")))

/-! ### readings as they stand -/
section
variable {σ : L2.St} {H : Hp} {Q : VK} {te ta tb : TE} {t u : TS} {tt tu : TT} {D : Ends} {r : R2} {w : V} {g : TG} {tl : TA} {ts : TSet} {A : Prop}
theorem rw_var {i : Nat} {w : V} (h : σ[i]? = some (some w)) (q : Q w H) : tVar i σ H Q := ⟨w, h, q⟩
theorem rw_con (q : Q w H) : tC w σ H Q := q
theorem rw_op (h : ta σ H fun x H1 => tb σ H1 fun y H2 => r x y H2 Q) : tOp r ta tb σ H Q := h
theorem rw_cb {r : List V → Hp → VK → Prop} (h : tl σ H fun vs H1 => r vs H1 Q) : tCB r tl σ H Q := h
theorem rw_call {sp : Sp} {dvs : List V} {E : XK} (h : tl σ H fun vs H1 => sp (vs ++ dvs) H1 Q E) : tCall sp dvs E tl σ H Q := h
theorem rw_nil {Q : List V → Hp → Prop} (q : Q [] H) : tNil σ H Q := q
theorem rw_cons {Q : List V → Hp → Prop} (h : ta σ H fun x H1 => tl σ H1 fun xs H2 => Q (x :: xs) H2) : tCons ta tl σ H Q := h
theorem rw_lst (h : tl σ H fun xs H1 => xs.length ≤ sizeLine ∧ ∀ p, H1 p = none → Q (.ref p) (upd H1 p (.lst xs))) : tLst tl σ H Q := h
theorem rw_seq (h : t { D with nx := u D } σ H) : tSeq t u D σ H := h
theorem rw_asg (h : te σ H fun x H1 => g x σ H1 D.nx) : tAsg te g D σ H := h
theorem rw_name {i : Nat} {Q : L2.St → Hp → Prop} (q : Q (σ.set i (some w)) H) : gName i w σ H Q := q
theorem rw_sub {Q : L2.St → Hp → Prop} (h : ta σ H fun o H1 => tb σ H1 fun i H2 => ts o i w H2 fun H3 => Q σ H3) : gSub ta tb ts w σ H Q := h
theorem rw_ret (h : te σ H D.rt) : tRet te D σ H := h
theorem rw_next (h : D.nx σ H) : tNext D σ H := h
theorem rw_if (h : tt σ H fun b H1 => if b = true then t D σ H1 else u D σ H1) : tIfS tt t u D σ H := h
theorem rw_tst {Q : Bool → Hp → Prop} (h : te σ H fun x H' => ∃ k, x = .bl k ∧ Q k H') : tTest te σ H Q := h
theorem rw_and {Q : Bool → Hp → Prop} (h : tt σ H fun c H1 => if c = true then tu σ H1 Q else Q false H1) : tAnd tt tu σ H Q := h
variable {i j : Int} {K : PySem.W.Frag}
theorem rw_add (q : Q (.int (i + j)) H) : rAddU K (.int i) (.int j) H Q := .inl ⟨i, j, rfl, rfl, q⟩
theorem rw_sub2 (q : Q (.int (i - j)) H) : rSubU (.int i) (.int j) H Q := ⟨i, j, rfl, rfl, q⟩
theorem rw_eqI (q : Q (.bl (decide (i = j))) H) : rEqD K (.int i) (.int j) H Q := ⟨.int i, .int j, .int i, .int j, rfl, rfl, by rw [eqv_int]; exact q⟩
theorem rw_lt (q : Q (.bl (decide (i < j))) H) : rLtU (.int i) (.int j) H Q := ⟨i, j, rfl, rfl, q⟩
theorem rw_gt (q : Q (.bl (decide (j < i))) H) : rGtU (.int i) (.int j) H Q := ⟨i, j, rfl, rfl, q⟩
theorem rw_mod (q : Q (.int (i % j)) H) (h : 0 < j) : rModU (.int i) (.int j) H Q := ⟨i, j, rfl, rfl, h, q⟩
theorem rw_div (q : Q (.int (i / j)) H) (h : CDivW i j) : rDivU (.int i) (.int j) H Q := ⟨i, j, rfl, rfl, h, q⟩
theorem rw_pow (q : Q (.int (i ^ j.toNat)) H) (h : CPow i j) : rPowU (.int i) (.int j) H Q := ⟨i, j, rfl, rfl, h, q⟩
theorem rw_int (q : Q (.int i) H) : rIntU [.int i] H Q := .inl ⟨i, rfl, q⟩
theorem rw_abs (q : Q (.int (if i < 0 then -i else i)) H) : rAbsU [.int i] H Q := ⟨i, rfl, q⟩
theorem rw_len {p : Addr} {us : List V} (q : Q (.int us.length) H) (h : H p = some (.lst us)) : rLenU K [.ref p] H Q := ⟨_, us.length, rfl, .inl ⟨us, SqL.of h, rfl⟩, q⟩
theorem rw_ix {p : Addr} {us : List V} {z : V} (q : Q z H) (h : H p = some (.lst us)) (hz : atI us i = some z) : rIx K (.ref p) (.int i) H Q := .inl ⟨p, us, i, z, rfl, rfl, SqL.of h, hz, q⟩
theorem rw_set {p : Addr} {us : List V} {j : Nat} {Q : Hp → Prop} (q : Q (upd H p (.lst (us.set j w)))) (h : H p = some (.lst us)) (hz : ixN us.length i = some j) : rSetL (.ref p) (.int i) w H Q := ⟨p, us, i, j, rfl, rfl, h, hz, q⟩
theorem rw_bl {b : Bool} {Q : Bool → Prop} (q : Q b) : ∃ k, V.bl b = V.bl k ∧ Q k := ⟨b, rfl, q⟩
theorem rw_T2 {n : Nat} {T : TD} {E : XK} {i j : Int} {P : Int → Prop} (hn : n = 2) (ht : T [DI i, DI j] X0 fun z => ∃ k, z = DI k ∧ P k) (q : ∀ k H', Ex H H' → P k → Q (.int k) H') : spT K n T [.int i, .int j] H Q E := by
  subst hn
  refine ⟨H, [DI i, DI j], X0, _, Ex.refl H, rfl, plains_d (plains_d plains_nil), ⟨.int i, .int j, trivial⟩, ht, fun _ _ _ _ _ h => h.elim, fun u x H' G' s r ⟨k, e, p⟩ => ?_⟩
  subst e
  cases r.dp
  have h0 := s.gg.trans (s.gh.trans Rs.sub)
  exact q k H' h0 p
end
local macro_rules | `(tactic| walk_at "rw1") => `(tactic| first
  | with_reducible refine rw_seq ?_
  | with_reducible refine rw_asg ?_
  | with_reducible refine rw_ret ?_
  | with_reducible refine rw_next ?_
  | with_reducible refine rw_if ?_
  | with_reducible refine rw_op ?_
  | with_reducible refine rw_cb ?_
  | with_reducible refine rw_call ?_
  | with_reducible refine rw_nil ?_
  | with_reducible refine rw_cons ?_
  | with_reducible refine rw_con ?_
  | with_reducible refine rw_name ?_
  | with_reducible refine rw_sub ?_
  | with_reducible refine rw_tst ?_
  | with_reducible refine rw_and ?_
  | with_reducible refine rw_var rfl ?_
  | with_reducible refine rw_add ?_
  | with_reducible refine rw_sub2 ?_
  | with_reducible refine rw_eqI ?_
  | with_reducible refine rw_lt ?_
  | with_reducible refine rw_gt ?_
  | with_reducible refine rw_int ?_
  | with_reducible refine rw_abs ?_
  | with_reducible refine rw_bl ?_
  | with_reducible refine if_t ?_
  | with_reducible refine if_f ?_
  | (with_reducible refine if_dec (fun _ => ?_) (fun _ => ?_))
  | with_reducible refine rw_mod ?_ ?_
  | with_reducible refine rw_div ?_ ?_
  | with_reducible refine rw_pow ?_ ?_
  | fail)
local macro_rules | `(tactic| walk_at "rw") => `(tactic| (walk_at "rw1" <;> try (walk_at "rw")))
/-! ### the mixing -/
def T__law_mixed : TD := fun ds Xp P => ∃ a t : Int, ds = [DI a, DI t] ∧ ∀ x : Int, 0 ≤ x → x < 2147483648 → P (DI x)
abbrev sp__law_mixed (K : PySem.W.Frag) : Sp := spT K 2 T__law_mixed
def t__law_mixed (K : PySem.W.Frag) : TS := tSeq (tAsg (tOp (rModU) (tCB (rIntU) (tCons (tOp (rAddU K) (tOp (rAddU K) (tOp (rMulU) (tVar 0) (tC (.int 48271))) (tOp (rMulU) (tVar 1) (tC (.int 69621)))) (tC (.int 17))) (tNil))) (tC (.int 2147483647))) (gName 2)) (tSeq (tAsg (tOp (rModU) (tCB (rIntU) (tCons (tOp (rAddU K) (tOp (rAddU K) (tOp (rMulU) (tVar 2) (tVar 2)) (tOp (rMulU) (tVar 1) (tC (.int 40692)))) (tC (.int 5))) (tNil))) (tC (.int 2147483399))) (gName 3)) (tRet (tOp (rDivU) (tOp (rModU) (tCB (rIntU) (tCons (tOp (rAddU K) (tOp (rMulU) (tVar 3) (tVar 3)) (tOp (rMulU) (tVar 2) (tC (.int 16807)))) (tNil))) (tC (.int 2147483563))) (tC (.int 32)))))
theorem cmul_r {i j : Int} (h1 : -(2 ^ 64) < j) (h2 : j < 2 ^ 64) : CMul i j := .inr ⟨h1, h2⟩
theorem w__law_mixed (F : Fm) (X : XK) (ds : List DV) (Xp : XP) (P : DV → Prop) (h : T__law_mixed ds Xp P) : WS F X (t__law_mixed F.K) (startD 2 ds) Xp { nx := fun _ => P DN, rt := P } := by
  obtain ⟨a, t, rfl, hP⟩ := h
  show WS F X _ [some (DI a), some (DI t), none, none] Xp _
  unfold t__law_mixed
  walk_at "dl"
  · refine hP _ ?_ ?_ <;> omega
  all_goals first | exact cmul_r (by omega) (by omega) | omega | exact ⟨by omega, by decide⟩
/-! ### the hand -/
structure Hd where
  ph : Addr
  l0 : Addr
  cs : List Int
structure Hnd (h : Hd) (H : Hp) : Prop where
  ne : h.l0 ≠ h.ph
  l : H h.l0 = some (.lst (h.cs.map V.int))
  ex : ∃ p q r s : Int, H h.ph = some (.lst [.ref h.l0, .int p, .int q, .int r, .int s]) ∧ 0 ≤ p ∧ 0 ≤ q
def Off (p : Addr) (H H' : Hp) : Prop := ∀ b o, b ≠ p → H b = some o → H' b = some o
theorem Off.of {p : Addr} {H H' : Hp} (e : Ex H H') : Off p H H' := fun b o _ h => e b o h
theorem Off.trans {p : Addr} {H H' H2 : Hp} (a : Off p H H') (b : Off p H' H2) : Off p H H2 := fun c o n h => b c o n (a c o n h)
theorem Off.upd {p : Addr} {H : Hp} {o : HO} : Off p H (upd H p o) := fun b u n h => (upd_ne n).trans h
/-- a def that draws from the hand: the whole numbers behind it; its value -/
abbrev TH := List Int → (Int → Prop) → Prop
def spH (K : PySem.W.Frag) (n : Nat) (T : TH) : Sp := fun vs H Q _ => ∃ (h : Hd) (is : List Int) (P : Int → Prop), Hnd h H ∧ vs = .ref h.ph :: is.map V.int ∧ is.length = n ∧ T is P ∧ ∀ x H', Off h.ph H H' → Hnd h H' → P x → Q (.int x) H'
def T__law_draw : TH := fun is P => ∃ m : Int, is = [m] ∧ (∀ x, 0 ≤ x → x < m → P x) ∧ 0 < m ∧ m.natAbs < 2 ^ 64
abbrev sp__law_draw (K : PySem.W.Frag) : Sp := spH K 1 T__law_draw
def t__law_draw (K : PySem.W.Frag) : TS := tSeq (tAsg (tOp (rAddU K) (tOp (rIx K) (tVar 0) (tC (.int 3))) (tC (.int 1))) (gSub (tVar 0) (tC (.int 3)) rSetL)) (tSeq (tIfS (tAnd (tTest (tOp (rEqD K) (tOp (rIx K) (tVar 0) (tC (.int 2))) (tC (.int 0)))) (tTest (tOp (rLtU) (tOp (rIx K) (tVar 0) (tC (.int 1))) (tCB (rLenU K) (tCons (tOp (rIx K) (tVar 0) (tC (.int 0))) (tNil)))))) (tSeq (tAsg (tOp (rIx K) (tOp (rIx K) (tVar 0) (tC (.int 0))) (tOp (rIx K) (tVar 0) (tC (.int 1)))) (gName 2)) (tSeq (tAsg (tOp (rAddU K) (tOp (rIx K) (tVar 0) (tC (.int 1))) (tC (.int 1))) (gSub (tVar 0) (tC (.int 1)) rSetL)) (tSeq (tIfS (tTest (tOp (rLtU) (tCB (rAbsU) (tCons (tVar 2) (tNil))) (tOp (rPowU) (tC (.int 10)) (tC (.int 18))))) (tRet (tOp (rModU) (tCB (rIntU) (tCons (tCall (sp__law_mixed K) [] E0 (tCons (tVar 2) (tCons (tOp (rIx K) (tVar 0) (tC (.int 3))) (tNil)))) (tNil))) (tVar 1))) (tNext)) (tAsg (tCB (rAbsU) (tCons (tVar 2) (tNil))) (gSub (tVar 0) (tC (.int 2)) rSetL))))) (tNext)) (tSeq (tIfS (tTest (tOp (rGtU) (tOp (rIx K) (tVar 0) (tC (.int 2))) (tC (.int 0)))) (tSeq (tAsg (tOp (rModU) (tCB (rIntU) (tCons (tOp (rIx K) (tVar 0) (tC (.int 2))) (tNil))) (tVar 1)) (gName 3)) (tSeq (tAsg (tOp (rDivU) (tOp (rIx K) (tVar 0) (tC (.int 2))) (tVar 1)) (gSub (tVar 0) (tC (.int 2)) rSetL)) (tRet (tVar 3)))) (tNext)) (tRet (tOp (rModU) (tCB (rIntU) (tCons (tCall (sp__law_mixed K) [] E0 (tCons (tOp (rIx K) (tVar 0) (tC (.int 4))) (tCons (tOp (rIx K) (tVar 0) (tC (.int 3))) (tNil)))) (tNil))) (tVar 1)))))
theorem Hnd.ex_ {h : Hd} {H H' : Hp} (k : Hnd h H) (e : Ex H H') : Hnd h H' := by
  obtain ⟨p, q, r, s, hp, h1, h2⟩ := k.ex
  exact ⟨k.ne, e _ _ k.l, p, q, r, s, e _ _ hp, h1, h2⟩
theorem hnd_upd {h : Hd} {H : Hp} {p q r s : Int} (ne : h.l0 ≠ h.ph) (l : H h.l0 = some (.lst (h.cs.map V.int))) (hp : 0 ≤ p) (hq : 0 ≤ q) : Hnd h (upd H h.ph (.lst [.ref h.l0, .int p, .int q, .int r, .int s])) :=
  ⟨ne, (upd_ne ne).trans l, p, q, r, s, upd_same, hp, hq⟩
theorem abs_nn (i : Int) : 0 ≤ (if i < 0 then -i else i) := by split <;> omega
def draw_tail (K : PySem.W.Frag) : TS := tSeq (tIfS (tTest (tOp (rGtU) (tOp (rIx K) (tVar 0) (tC (.int 2))) (tC (.int 0)))) (tSeq (tAsg (tOp (rModU) (tCB (rIntU) (tCons (tOp (rIx K) (tVar 0) (tC (.int 2))) (tNil))) (tVar 1)) (gName 3)) (tSeq (tAsg (tOp (rDivU) (tOp (rIx K) (tVar 0) (tC (.int 2))) (tVar 1)) (gSub (tVar 0) (tC (.int 2)) rSetL)) (tRet (tVar 3)))) (tNext)) (tRet (tOp (rModU) (tCB (rIntU) (tCons (tCall (sp__law_mixed K) [] E0 (tCons (tOp (rIx K) (tVar 0) (tC (.int 4))) (tCons (tOp (rIx K) (tVar 0) (tC (.int 3))) (tNil)))) (tNil))) (tVar 1)))
theorem draw_end {K : PySem.W.Frag} {Q : VK} {ph l0 : Addr} {cs : List Int} {m q r s p : Int} {c : Option V} {H : Hp} (hp : H ph = some (.lst [.ref l0, .int p, .int q, .int r, .int s])) (l : H l0 = some (.lst (cs.map V.int))) (ne : l0 ≠ ph) (h1 : 0 ≤ p) (h2 : 0 ≤ q) (hm : 0 < m) (hz : m.natAbs < 2 ^ 64)
    (hQ : ∀ x H', Off ph H H' → Hnd ⟨ph, l0, cs⟩ H' → 0 ≤ x → x < m → Q (.int x) H') : draw_tail K { nx := fun _ H' => Q .non H', rt := Q } [some (.ref ph), some (.int m), c, none] H := by
  unfold draw_tail
  have m1 : 0 ≤ q % m := Int.emod_nonneg _ (by omega)
  have m2 : q % m < m := Int.emod_lt_of_pos _ hm
  have m3 : 0 ≤ q / m := Int.ediv_nonneg h2 (by omega)
  walk_at "rw"
  refine rw_ix ?_ hp rfl
  walk_at "rw"
  · refine rw_ix ?_ hp rfl
    walk_at "rw"
    · refine rw_ix ?_ hp rfl
      walk_at "rw"
      · refine rw_set (j := 2) ?_ hp rfl
        walk_at "rw"
        exact hQ _ _ Off.upd (hnd_upd (h := ⟨ph, l0, cs⟩) ne l h1 m3) m1 m2
      · exact cdiv_of (b := 64) hm hz
    · exact hm
  · refine rw_ix ?_ hp rfl
    walk_at "rw"
    refine rw_ix ?_ hp rfl
    walk_at "rw"
    refine rw_T2 (P := fun x => 0 ≤ x) rfl ⟨_, _, rfl, fun x hx _ => ⟨x, rfl, hx⟩⟩ fun x H' e hx => ?_
    walk_at "rw"
    · exact hQ _ _ (Off.of e) (Hnd.ex_ ⟨ne, l, p, q, r, s, hp, h1, h2⟩ e) (Int.emod_nonneg _ (by omega)) (Int.emod_lt_of_pos _ hm)
    · exact hm
theorem w__law_draw (K : PySem.W.Frag) (vs : List V) (H : Hp) (Q : VK) (E : XK) (h : sp__law_draw K vs H Q E) : t__law_draw K { nx := fun _ H' => Q .non H', rt := Q } (L2.start ["_law_hand", "_law_many", "_law_cell", "_law_digit"] vs) H := by
  obtain ⟨h, is, P, hh, rfl, hl, ⟨m, rfl, hP, hm, hz⟩, hQ⟩ := h
  obtain ⟨p, q, r, s, hp, h1, h2⟩ := hh.ex
  have ne := hh.ne
  have l := hh.l
  obtain ⟨ph, l0, cs⟩ := h
  dsimp only at hp ne l hQ
  show (tSeq _ (tSeq _ (draw_tail K))) _ [some (.ref ph), some (.int m), none, none] H
  walk_at "rw"
  refine rw_ix ?_ hp rfl
  walk_at "rw"
  refine rw_set (j := 3) ?_ hp rfl
  dsimp only [List.set]
  have hp1 : upd H ph (.lst [.ref l0, .int p, .int q, .int (r + 1), .int s]) ph = some (.lst [.ref l0, .int p, .int q, .int (r + 1), .int s]) := upd_same
  have l1 : upd H ph (.lst [.ref l0, .int p, .int q, .int (r + 1), .int s]) l0 = some (.lst (cs.map V.int)) := (upd_ne ne).trans l
  have o1 : Off ph H (upd H ph (.lst [.ref l0, .int p, .int q, .int (r + 1), .int s])) := Off.upd
  generalize upd H ph (.lst [.ref l0, .int p, .int q, .int (r + 1), .int s]) = H1 at hp1 l1 o1 ⊢
  have hQ1 : ∀ x H', Off ph H1 H' → Hnd ⟨ph, l0, cs⟩ H' → 0 ≤ x → x < m → Q (.int x) H' := fun x H' o k a b => hQ x H' (o1.trans o) k (hP x a b)
  walk_at "rw"
  refine rw_ix ?_ hp1 rfl
  walk_at "rw"
  · refine rw_ix ?_ hp1 rfl
    walk_at "rw"
    refine rw_ix ?_ hp1 rfl
    walk_at "rw"
    refine rw_len ?_ l1
    walk_at "rw"
    · rename_i hlt
      refine rw_ix ?_ hp1 rfl
      walk_at "rw"
      refine rw_ix ?_ hp1 rfl
      have hk : p.toNat < cs.length := by
        rw [List.length_map] at hlt
        omega
      refine rw_ix (z := .int cs[p.toNat]) ?_ l1 ?_
      · walk_at "rw"
        refine rw_ix ?_ hp1 rfl
        walk_at "rw"
        refine rw_set (j := 1) ?_ hp1 rfl
        dsimp only [List.set]
        have hp2 : upd H1 ph (.lst [.ref l0, .int (p + 1), .int q, .int (r + 1), .int s]) ph = some (.lst [.ref l0, .int (p + 1), .int q, .int (r + 1), .int s]) := upd_same
        have l2 : upd H1 ph (.lst [.ref l0, .int (p + 1), .int q, .int (r + 1), .int s]) l0 = some (.lst (cs.map V.int)) := (upd_ne ne).trans l1
        have o2 : Off ph H1 (upd H1 ph (.lst [.ref l0, .int (p + 1), .int q, .int (r + 1), .int s])) := Off.upd
        generalize upd H1 ph (.lst [.ref l0, .int (p + 1), .int q, .int (r + 1), .int s]) = H2 at hp2 l2 o2 ⊢
        generalize cs[p.toNat] = cell at *
        walk_at "rw"
        · refine rw_ix ?_ hp2 rfl
          walk_at "rw"
          refine rw_T2 (P := fun x => 0 ≤ x) rfl ⟨_, _, rfl, fun x hx _ => ⟨x, rfl, hx⟩⟩ fun x H' e hx => ?_
          walk_at "rw"
          · exact hQ1 _ _ (o2.trans (Off.of e)) (Hnd.ex_ ⟨ne, l2, p + 1, q, r + 1, s, hp2, by omega, h2⟩ e) (Int.emod_nonneg _ (by omega)) (Int.emod_lt_of_pos _ hm)
          · exact hm
        · refine rw_set (j := 2) ?_ hp2 rfl
          dsimp only [List.set]
          refine draw_end (p := p + 1) (r := r + 1) (s := s) (q := if cell < 0 then -cell else cell) upd_same ((upd_ne ne).trans l2) ne (by omega) (abs_nn cell) hm hz fun x H' o k a b => hQ1 x H' (o2.trans (Off.upd.trans o)) k a b
        · exact ⟨by decide, by decide, by decide⟩
      · unfold atI ixN
        rw [if_pos h1, List.length_map, if_pos (by omega)]
        simp [hk]
    · exact draw_end hp1 l1 ne h1 h2 hm hz hQ1
  · exact draw_end hp1 l1 ne h1 h2 hm hz hQ1
/-! ### the frame with a hand -/
abbrev FH (K : PySem.W.Frag) (H0 : Hp) (h : Hd) (a0 : H0 h.ph ≠ none) (b0 : H0 h.l0 ≠ none) : Fm where
  K := K
  S := fun b => decide (b = h.ph)
  old := fun b => H0 b ≠ none
  I := fun H => (∀ b, H0 b ≠ none → H b ≠ none) ∧ Hnd h H
  stab := fun i e => ⟨fun b hb => ex_nm e b (i.1 b hb), i.2.ex_ e⟩
  al := fun i hb => i.1 _ hb
  so := fun {b} e => by
    have : b = h.ph := of_decide_eq_true e
    rw [this]
    exact a0
  put := fun {H p us us'} i hp no => by
    have n1 : h.ph ≠ p := fun e => no (e ▸ a0)
    have n2 : h.l0 ≠ p := fun e => no (e ▸ b0)
    obtain ⟨p', q, r, s, e, h1, h2⟩ := i.2.ex
    refine ⟨fun b hb => ?_, i.2.ne, (upd_ne n2).trans i.2.l, p', q, r, s, (upd_ne n1).trans e, h1, h2⟩
    by_cases e : b = p
    · subst e
      rw [upd_same]
      exact fun z => by cases z
    · rw [upd_ne e]
      exact i.1 b hb
section
variable {K : PySem.W.Frag} {H0 : Hp} {h : Hd} {a0 : H0 h.ph ≠ none} {b0 : H0 h.l0 ≠ none} {X : XW} {δ : DSt} {Xp : XP} {P : DV → Prop}
theorem fh_stp {G H H' : Hp} (iv : (FH K H0 h a0 b0).I H) (g : Ex G (Rs (FH K H0 h a0 b0).S H)) (o : Off h.ph H H') (k : Hnd h H') : Stp (FH K H0 h a0 b0) G H G H' := by
  have hh : Ex (Rs (FH K H0 h a0 b0).S H) (Rs (FH K H0 h a0 b0).S H') := fun b u e => by
    unfold Rs at e ⊢
    split at e
    · cases e
    · rename_i hs
      rw [if_neg hs]
      exact o b u (fun z => hs (decide_eq_true z)) e
  refine ⟨Ex.refl G, g.trans hh, fun _ _ z => z, hh, fun b hb => ?_, k⟩
  by_cases e : b = h.ph
  · obtain ⟨p, q, r, s, e2, _⟩ := k.ex
    rw [e, e2]
    exact fun z => by cases z
  · cases e2 : H b with
    | none => exact absurd e2 (iv.1 b hb)
    | some u =>
      rw [o b u e e2]
      exact fun z => by cases z
theorem rvs_ints {F : Fm} {G H : Hp} : ∀ {us : List V} {is : List Int}, RVs F G H us (is.map DI) → us = is.map V.int
  | [], [], _ => rfl
  | _ :: _, _ :: _, r => by
    have e := rvs_ints r.2
    cases r.1.dp
    rw [e] <;> rfl
  | [], _ :: _, r => r.elim
  | _ :: _, [], r => r.elim
theorem rvs_of_ints {F : Fm} {G H : Hp} : ∀ {is : List Int}, RVs F G H (is.map V.int) (is.map DI)
  | [] => trivial
  | i :: is => ⟨.int i, rvs_of_ints⟩
theorem ed_hand {n : Nat} {T : TH} {E : XK} {ta : TA} (ht : EA (FH K H0 h a0 b0) X ta δ Xp fun xs => ∃ is : List Int, xs = .v (.ref h.ph) :: is.map DI ∧ is.length = n ∧ T is fun x => P (DI x)) : ED (FH K H0 h a0 b0) X (tCall (spH K n T) [] E ta) δ Xp P := fun σ H G c Q q =>
  ht σ H G c _ fun us xs H1 G1 s1 r1 ⟨is, e, l, t⟩ => by
    subst e
    have eu : us = .ref h.ph :: is.map V.int := by
      cases us with
      | nil => exact r1.elim
      | cons u us =>
        obtain ⟨r, r2⟩ := r1
        obtain rfl : u = .ref h.ph := r
        rw [rvs_ints r2]
    subst eu
    refine ⟨h, is, _, s1.inv.2, by rw [List.append_nil], l, t, fun x H' o k p => ?_⟩
    exact q (.int x) (DI x) H' G1 (s1.trans (fh_stp s1.inv s1.gh o k)) (.d (.int x)) p
theorem ed_draw {E : XK} {ta : TA} (ht : EA (FH K H0 h a0 b0) X ta δ Xp fun xs => ∃ m, xs = [.v (.ref h.ph), DI m] ∧ (∀ x, 0 ≤ x → x < m → P (DI x)) ∧ 0 < m ∧ m.natAbs < 2 ^ 64) : ED (FH K H0 h a0 b0) X (tCall (sp__law_draw K) [] E ta) δ Xp P :=
  ed_hand fun σ H G c Q q => ht σ H G c Q fun us xs H1 G1 s1 r1 ⟨m, e, p, h1, h2⟩ => q us xs H1 G1 s1 r1 ⟨[m], e, rfl, m, rfl, p, h1, h2⟩
/-- from a promise over the hand to its body -/
theorem pure_H {n m : Nat} {T : TH} {N : List Str} {vs : List V} {H : Hp} {Q : VK} {E : XK} {t : TS} (hs : spH K n T vs H Q E) (hm : N.length = n + 1 + m)
    (w : ∀ (H0 : Hp) (h : Hd) (a0 : H0 h.ph ≠ none) (b0 : H0 h.l0 ≠ none) (is : List Int) (P : Int → Prop), is.length = n → T is P → WS (FH K H0 h a0 b0) E t (startD m (.v (.ref h.ph) :: is.map DI)) X0 { nx := fun _ => False, rt := fun z => ∃ x, z = DI x ∧ P x }) : t { nx := fun _ H' => Q .non H', rt := Q } (L2.start N vs) H := by
  obtain ⟨h, is, P, hh, rfl, l, ht, q⟩ := hs
  have a0 : H h.ph ≠ none := by
    obtain ⟨p, q, r, s, e, _⟩ := hh.ex
    rw [e]
    exact fun z => by cases z
  have b0 : H h.l0 ≠ none := by
    rw [hh.l]
    exact fun z => by cases z
  have g0 : Ex (fun _ => none) (Rs (FH K H h a0 b0).S H) := fun _ _ z => by cases z
  have iv : (FH K H h a0 b0).I H := ⟨fun _ z => z, hh⟩
  have pl : Plains (.v (.ref h.ph) :: is.map DI) := plains_v (fun x hx => by
    obtain ⟨i, _, rfl⟩ := List.mem_map.mp hx
    trivial)
  have r : RVs (FH K H h a0 b0) (fun _ => none) H (.ref h.ph :: is.map V.int) (.v (.ref h.ph) :: is.map DI) := ⟨rfl, rvs_of_ints⟩
  refine w H h a0 b0 is P l ht ⟨fun _ => none, H, fun _ => none⟩ _ H (fun _ => none) _ ⟨fun _ z => z, ⟨Stp.refl iv g0, Ex.refl _⟩, sl_start r pl (by rw [List.length_cons, List.length_map, l]; exact hm), fun _ _ _ _ _ z => z.elim⟩ ?_
  refine ⟨fun _ _ _ _ _ _ z => z.elim, fun u x H' G' r' rv ⟨x', e, p⟩ => ?_, fun _ _ _ _ _ _ z => z.elim, fun _ _ _ _ _ _ z => z.elim⟩
  subst e
  cases rv.dp
  refine q x' H' (fun b o nb hb => ?_) r'.st.inv.2 p
  have := r'.st.hh b o (by unfold Rs; rw [if_neg (by simpa using nb)]; exact hb)
  exact Rs.sub _ _ this
end
/-! ### the start -/
theorem dpa_ints {K : PySem.W.Frag} {G : Hp} : ∀ {us : List V} {is : List Int}, DpAll K G us (is.map PyData.int) → us = is.map V.int
  | _, [], .nil => rfl
  | _, _ :: _, .cons (.int _) t => congrArg _ (dpa_ints t)
theorem dpa_of_ints {K : PySem.W.Frag} {G : Hp} : ∀ {is : List Int}, DpAll K G (is.map V.int) (is.map PyData.int)
  | [] => .nil
  | i :: _ => .cons (.int i) dpa_of_ints
def sp__law_start (K : PySem.W.Frag) : Sp := fun vs H Q _ => ∃ (a : Addr) (ns : List Int), vs = [.ref a] ∧ SqL K H a (ns.map V.int) ∧ ns.length ≤ 1000 ∧ ∀ (h : Hd) H', Ex H H' → H h.ph = none → H h.l0 = none → Hnd h H' → Q (.ref h.ph) H'
def t__law_start (K : PySem.W.Frag) : TS := tSeq (tAsg (tC (.int 0)) (gName 1)) (tSeq (tFor (iSeq K (tVar 0)) (gName 2) (tAsg (tOp (rModU) (tCB (rIntU) (tCons (tOp (rAddU K) (tOp (rMulU) (tVar 1) (tC (.int 37))) (tCB (rIntU) (tCons (tVar 2) (tNil)))) (tNil))) (tC (.int 2147483629))) (gName 1))) (tRet (tLst (tCons (tLc (iSeq K (tVar 0)) (gName 2) (tYes) (tCB (rIntU) (tCons (tVar 2) (tNil))) [2]) (tCons (tC (.int 0)) (tCons (tC (.int 0)) (tCons (tC (.int 0)) (tCons (tVar 1) (tNil)))))))))
local macro_rules | `(tactic| walk_at "dl-ws") => `(tactic| first
  | with_reducible refine ws_forSeq ?_
  | fail)
theorem start_ws (F : Fm) (X : XK) (ns : List Int) : WS F X (tSeq (tAsg (tC (.int 0)) (gName 1)) (tFor (iSeq F.K (tVar 0)) (gName 2) (tAsg (tOp (rModU) (tCB (rIntU) (tCons (tOp (rAddU F.K) (tOp (rMulU) (tVar 1) (tC (.int 37))) (tCB (rIntU) (tCons (tVar 2) (tNil)))) (tNil))) (tC (.int 2147483629))) (gName 1)))) [some (.d (.list (ns.map PyData.int))), none, none] X0 { nx := fun δ' => ∃ t z, δ' = [some (.d (.list (ns.map PyData.int))), some (DI t), z], rt := fun _ => False } := by
  walk_at "dl"
  refine ⟨_, .inl rfl, fun i δ' => ∃ t z, δ' = [some (.d (.list (ns.map PyData.int))), some (DI t), z], ⟨_, _, rfl⟩, ?_, fun δ' h => h⟩
  rintro i x δ' hx ⟨t, z, rfl⟩
  obtain ⟨n, hn, rfl⟩ : ∃ n, ns[i]? = some n ∧ PyData.int n = x := by
    rw [List.getElem?_map] at hx
    cases e : ns[i]? with
    | none => rw [e] at hx; cases hx
    | some n => rw [e] at hx; exact ⟨n, rfl, by simpa using hx⟩
  refine dg_name trivial ?_
  walk_at "dl"
  · exact ⟨_, _, rfl⟩
  · omega
  · exact cmul_r (by decide) (by decide)
theorem start_lc (F : Fm) (X : XK) (ns : List Int) (δ : DSt) (hd : δ[0]? = some (some (.d (.list (ns.map PyData.int))))) (h3 : δ.length = 3) (hl : ns.length ≤ 1000) : EN F (fun _ => X) (tLc (iSeq F.K (tVar 0)) (gName 2) (tYes) (tCB (rIntU) (tCons (tVar 2) (tNil))) [2]) δ X0 fun ys => ys = ns.map PyData.int := by
  refine en_lc (tgOk_name (by decide)) (ed_var hd ⟨ns.map PyData.int, .inl rfl, by rw [List.length_map]; omega, fun _ => true, fun x => x, ?_, ?_⟩)
  · intro x hx
    obtain ⟨n, _, rfl⟩ := List.mem_map.mp hx
    refine dg_name trivial ?_
    refine et_yes ⟨rfl, fun _ => ?_⟩
    match δ, h3 with
    | [a, b, c], _ =>
      dsimp only [wipeD, List.set]
      walk_at "dl"
  · show lcOf (ns.map PyData.int) (fun _ => true) (fun x => x) = _
    unfold lcOf
    rw [List.filter_eq_self.mpr (fun _ _ => rfl), List.map_id']
theorem w__law_start (K : PySem.W.Frag) (vs : List V) (H : Hp) (Q : VK) (E : XK) (hs : sp__law_start K vs H Q E) : t__law_start K { nx := fun _ H' => Q .non H', rt := Q } (L2.start ["_law_script", "_law_total", "_law_cell"] vs) H := by
  obtain ⟨a, ns, rfl, hq, hl, q⟩ := hs
  show t__law_start K _ [some (.ref a), none, none] H
  have gh : Ex H (Rs (F0 K H).S H) := by
    show Ex H (Rs (fun _ => false) H)
    rw [rs0]
    exact Ex.refl H
  have iv : (F0 K H).I H := fun _ h => h
  have sl : SL (F0 K H) H H [some (.ref a), none, none] [some (.d (.list (ns.map PyData.int))), none, none] :=
    sl_start (F := F0 K H) (N := ["_law_script", "_law_total", "_law_cell"]) (us := [.ref a]) (ds := [.d (.list (ns.map PyData.int))]) (m := 2) ⟨.lst hq dpa_of_ints, trivial⟩ (plains_d plains_nil) rfl
  have w1 : Way (F0 K H) E ⟨H, H, H⟩ H H [some (.ref a), none, none] [some (.d (.list (ns.map PyData.int))), none, none] X0 := ⟨fun _ h => h, ⟨Stp.refl iv gh, Ex.refl H⟩, sl, fun _ _ _ _ _ z => z.elim⟩
  have hw := start_ws (F0 K H) E ns
  refine hw ⟨H, H, H⟩ _ H H { nx := fun σ' H' => tRet (tLst (tCons (tLc (iSeq K (tVar 0)) (gName 2) (tYes) (tCB (rIntU) (tCons (tVar 2) (tNil))) [2]) (tCons (tC (.int 0)) (tCons (tC (.int 0)) (tCons (tC (.int 0)) (tCons (tVar 1) (tNil))))))) { nx := fun _ H' => Q .non H', rt := Q } σ' H', rt := Q, bk := fun _ _ => False, ct := fun _ _ => False } w1 ⟨?_, fun _ _ _ _ _ _ z => z.elim, fun _ _ _ _ _ _ z => z.elim, fun _ _ _ _ _ _ z => z.elim⟩
  rintro σ' δ' H1 G1 r1 sl1 ⟨t, z, rfl⟩
  have w2 := w1.to r1 sl1
  have ts := sl1.at_ 1 _ rfl
  dsimp only
  refine rw_ret ?_
  refine rw_lst (rw_cons ?_)
  refine start_lc (F0 K H) E ns _ rfl rfl hl σ' H1 G1 w2.cur _ ?_
  intro l us xs H2 G2 s2 l1 l2 l3 da e
  subst e
  obtain rfl := dpa_ints da
  walk_at "rw"
  obtain ⟨u, hu, ru⟩ := ts
  cases ru.dp
  refine rw_var hu ?_
  walk_at "rw"
  refine ⟨Evl.sz_of (by show 5 ≤ _; decide), fun z hz => ?_⟩
  have hl2 : l ≠ z := fun e => by
    subst e
    rw [hz] at l2
    cases l2
  have e1 : Ex H H1 := by
    have := r1.st.hh
    have e1 : Rs (F0 K H).S H = H := rs0
    have e2 : Rs (F0 K H).S H1 = H1 := rs0
    rw [e1, e2] at this
    exact this
  have e2 : Ex H H2 := e1.trans (by
    have := s2.hh
    have e1 : Rs (F0 K H).S H1 = H1 := rs0
    have e2 : Rs (F0 K H).S H2 = H2 := rs0
    rw [e1, e2] at this
    exact this)
  have nn : ∀ {A B : Hp} {b : Addr}, Ex A B → B b = none → A b = none := fun {A B b} e h => by
    cases e3 : A b with
    | none => rfl
    | some o => rw [e b o e3] at h; cases h
  refine q ⟨z, l, ns⟩ _ (e2.trans (Ex.new hz)) (nn e2 hz) (nn e1 l1) ⟨hl2, (upd_ne hl2).trans l2, 0, 0, 0, t, upd_same, by decide, by decide⟩
/-! ### a number of either sign -/
def T__law_number : TH := fun is P => is = [] ∧ ∀ x : Int, x.natAbs < 2 ^ 100 → P x
abbrev sp__law_number (K : PySem.W.Frag) : Sp := spH K 0 T__law_number
def t__law_number (K : PySem.W.Frag) : TS := tSeq (tAsg (tCall (sp__law_draw K) [] E0 (tCons (tVar 0) (tCons (tC (.int 4)) (tNil)))) (gName 1)) (tSeq (tAsg (tOp (rSubU) (tC (.int 1)) (tOp (rMulU) (tC (.int 2)) (tCall (sp__law_draw K) [] E0 (tCons (tVar 0) (tCons (tC (.int 2)) (tNil)))))) (gName 2)) (tSeq (tIfS (tTest (tOp (rEqD K) (tVar 1) (tC (.int 0)))) (tRet (tOp (rMulU) (tVar 2) (tCall (sp__law_draw K) [] E0 (tCons (tVar 0) (tCons (tC (.int 3)) (tNil)))))) (tNext)) (tSeq (tIfS (tTest (tOp (rEqD K) (tVar 1) (tC (.int 1)))) (tRet (tOp (rMulU) (tVar 2) (tCall (sp__law_draw K) [] E0 (tCons (tVar 0) (tCons (tC (.int 13)) (tNil)))))) (tNext)) (tSeq (tIfS (tTest (tOp (rEqD K) (tVar 1) (tC (.int 2)))) (tRet (tOp (rMulU) (tVar 2) (tCall (sp__law_draw K) [] E0 (tCons (tVar 0) (tCons (tOp (rPowU) (tC (.int 10)) (tC (.int 6))) (tNil)))))) (tNext)) (tRet (tOp (rMulU) (tVar 2) (tOp (rAddU K) (tOp (rMulU) (tCall (sp__law_draw K) [] E0 (tCons (tVar 0) (tCons (tOp (rPowU) (tC (.int 10)) (tC (.int 15))) (tNil)))) (tOp (rPowU) (tC (.int 10)) (tC (.int 15)))) (tCall (sp__law_draw K) [] E0 (tCons (tVar 0) (tCons (tOp (rPowU) (tC (.int 10)) (tC (.int 15))) (tNil)))))))))))
theorem ed_number {K : PySem.W.Frag} {H0 : Hp} {h : Hd} {a0 : H0 h.ph ≠ none} {b0 : H0 h.l0 ≠ none} {X : XW} {δ : DSt} {Xp : XP} {P : DV → Prop} {E : XK} {ta : TA} (ht : EA (FH K H0 h a0 b0) X ta δ Xp fun xs => xs = [.v (.ref h.ph)] ∧ ∀ x : Int, x.natAbs < 2 ^ 100 → P (DI x)) : ED (FH K H0 h a0 b0) X (tCall (sp__law_number K) [] E ta) δ Xp P :=
  ed_hand fun σ H G c Q q => ht σ H G c Q fun us xs H1 G1 s1 r1 ⟨e, p⟩ => q us xs H1 G1 s1 r1 ⟨[], e, rfl, rfl, p⟩
theorem draw_and {A : Int → Prop} {m : Int} (h : ∀ x, 0 ≤ x → x < m → A x) (h1 : 0 < m) (h2 : m.natAbs < 2 ^ 64) : (∀ x, 0 ≤ x → x < m → A x) ∧ 0 < m ∧ m.natAbs < 2 ^ 64 := ⟨h, h1, h2⟩
theorem num_and {A : Int → Prop} {xs ys : List DV} (e : xs = ys) (h : ∀ x : Int, x.natAbs < 2 ^ 100 → A x) : xs = ys ∧ ∀ x : Int, x.natAbs < 2 ^ 100 → A x := ⟨e, h⟩
local macro_rules | `(tactic| walk_at "dl1") => `(tactic| first
  | with_reducible refine draw_and (fun _ _ _ => ?_) ?_ ?_
  | with_reducible refine num_and rfl (fun _ _ => ?_)
  | fail)
local macro_rules | `(tactic| walk_at "dl-ed") => `(tactic| first
  | with_reducible refine ed_draw ?_
  | with_reducible refine ed_number ?_
  | fail)
local macro_rules | `(tactic| walk_at "dl-d2") => `(tactic| first
  | with_reducible refine d2_pow' ?_ ?_
  | fail)
theorem sg_lt {s x : Int} (h0 : 0 ≤ s) (h1 : s < 2) (hx : x.natAbs < 2 ^ 100) : ((1 - 2 * s) * x).natAbs < 2 ^ 100 := by
  have : s = 0 ∨ s = 1 := by omega
  rcases this with rfl | rfl
  · simpa using hx
  · have : (1 - 2 * 1) * x = -x := by omega
    rw [this, Int.natAbs_neg]
    exact hx
theorem w__law_number (K : PySem.W.Frag) (H0 : Hp) (h : Hd) (a0 : H0 h.ph ≠ none) (b0 : H0 h.l0 ≠ none) (X : XK) (P : Int → Prop) (hP : ∀ x : Int, x.natAbs < 2 ^ 100 → P x) : WS (FH K H0 h a0 b0) X (t__law_number K) [some (.v (.ref h.ph)), none, none] X0 { nx := fun _ => False, rt := fun z => ∃ x, z = DI x ∧ P x } := by
  unfold t__law_number
  walk_at "dl"
  all_goals (try have e6 : (10 : Int) ^ Int.toNat 6 = 1000000 := by decide)
  all_goals (try have e15 : (10 : Int) ^ Int.toNat 15 = 1000000000000000 := by decide)
  all_goals (try simp only [e6, e15] at *)
  all_goals first
    | (refine ⟨_, rfl, hP _ (sg_lt (by assumption) (by assumption) ?_)⟩; omega)
    | (refine hP _ (sg_lt (by assumption) (by assumption) ?_); omega)
    | decide
    | exact ⟨by decide, by decide, by decide⟩
    | exact .inl ⟨by omega, by omega⟩
    | exact .inr ⟨by omega, by omega⟩
    | trace_state
theorem ok__law_number (K : PySem.W.Frag) (vs : List V) (H : Hp) (Q : VK) (E : XK) (h : sp__law_number K vs H Q E) : t__law_number K { nx := fun _ H' => Q .non H', rt := Q } (L2.start ["_law_hand", "_law_pick", "_law_sign"] vs) H :=
  pure_H (m := 2) h rfl fun H0 h a0 b0 is P _ ⟨e, hP⟩ => by
    subst e
    exact w__law_number K H0 h a0 b0 E P hP
end DL

namespace DL
open PySem PySem.Spec PyProof.Rows L2
theorem init_ok1 {K : PySem.W.Frag} {C : Addr} {f g g2 : Str} {vs : List V} {H : Hp} {Q : VK} {E : XK} (o : OexC K C) (n : PySem.W.findIn K (.ref C) f = some none) (h : DL.spInit C [f] vs H Q E) : tOst K f (tVar 0) (tVar 1) { nx := fun _ H' => Q .non H', rt := Q } (L2.start [g, g2] vs) H := by
  obtain ⟨a, ys, rfl, l, ha, q⟩ := h
  match ys, l with
  | [y], _ =>
    show tOst K f (tVar 0) (tVar 1) _ [some (.ref a), some y] H
    refine ⟨y, rfl, .ref a, rfl, a, C, rfl, o, n, .inl ⟨ha, fun dx h1 h2 => q dx h1 h2 _ upd_same ?_ fun b hb hd => ?_⟩⟩
    · rw [upd_ne h2, upd_same] <;> rfl
    · rw [upd_ne hb, upd_ne hd]
end DL
namespace DLH
open PySem PySem.Spec PyProof.Rows L2
/-- a call with keywords, no keyword-only parameters: g puts the positional values, all defaults and the keywords' values in the parameters' order -/
theorem kbinds1 {K : PySem.W.Frag} {x qual : Str} {params : Arguments} {body : List Stmt} {scope : Scope} {dvs : List V} {kws : List (Str × V)} {f : Addr} {fd : FuncData} {ps : List Str} (F : FunD K x qual params body scope dvs kws f fd) (n : Nat) (ks : List Str) (g : {α : Type} → List α → List α → List α → List α) (hd : dvs ≠ [])
    (hrel : ∀ {vs ds zs : List V} {us its ws : List Value}, Vals vs us → Vals ds its → Vals zs ws → Vals (g vs ds zs) (g us its ws))
    (h : ∀ (T : Addr) (kV doc pm : Value) (an : Option Addr) (cdv ct : Value) (us its ws : List Value), us.length = n → its.length = dvs.length → ws.length = ks.length →
      ∃ k, bindArgs (PySem.W.fnOf x qual params body scope (.ref T) kV doc pm an cdv ct) ⟨us, ks.zip ws⟩ = seqItems? (.ref T) >>= k ∧ k (some its.toArray) = pure (ps.zip (g us its ws))) :
    ∃ its : List Value, KBn K fd ps n ks (fun us ws => g us its ws) (fun vs zs => g vs dvs zs) := by
  obtain ⟨oc, od, dV, kV, doc, pm, an, cdv, ct, osl, rfl, lk, hcd, hD, hK⟩ := F.ex
  rcases hD with ⟨e, _⟩ | ⟨_, T, o, its, m, rfl, lT, oT, rT⟩
  · exact absurd e hd
  · refine ⟨its, ⟨fun s us ws X l1 l2 => ?_, fun r1 r2 => hrel r1 rT r2⟩⟩
    obtain ⟨k, e1, e2⟩ := h T kV doc pm an cdv ct us its ws l1 rT.length.symm l2
    refine BindsTo.of_looks fun M => ?_
    rw [e1]
    exact looks_items X lT oT (.of_pure e2)
end DLH

/-! # An own error made by keywords alone -/
namespace PySem
namespace HandSPX
open Builtin Builtin.ObjectAttr PySem.Calls
section
variable {M : Model} {prog : Program} {w : World} {A : Around} {E : Value → Shared → Prop} {R : Result → Shared → Prop} {h : Heap} {g : Array GenState} {d : Drawn} {t : Nat} {os : OsState} {kw : List (Str × Value)}
variable {nm q : Str} {C N : Addr} {bs bm bmB : List Value} {hdct : Bool} {sn : List Str} {sub : List Value} {ab : Bool} {col : Option Bool} {dd : Option Addr} {k0 k1 k2 k3 k5 : Option Value} {B newId initId : String}
theorem kwd_new (F : ExcBaseFacts B newId initId bmB) (same : ∀ X : String, bm.contains (.type X) = bmB.contains (.type X)) {Q : Unit → Shared → Prop}
    (cls : h.get? C = some (excClassObj nm q C N bs bm hdct sn sub ab col dd k0 k1 k2 k3 k5 newId)) (hq : Q () ⟨h, g, d, t, os⟩) :
    wpAny M A (checkBuiltinCall newId ⟨[.ref C], kw⟩) Q E ⟨h, g, d, t, os⟩ := by
  have isB : (Value.ref C :: bm).contains (.type B) = true := by rw [List.contains_cons, same, F.hasB, Bool.or_true]
  have star := F.noStar
  simp only [checkBuiltinCall, F.newKind, F.newSplit, F.newRow]
  repeat (first | refine wpAny_loadPart_at cls ?_ | (refine wpAny_isSubtype_exc cls ?_; rw [isB]) | refine wpAny_staticBase_exc cls ?_ | refine wpAny_madeBy_exc cls ?_ | simp only [bne_self_eq_false, Bool.false_eq_true, if_false] | wp_step)
  exact hq
theorem kwd_made (F : ExcBaseFacts B newId initId bmB) (same : ∀ X : String, bm.contains (.type X) = bmB.contains (.type X))
    (cls : h.get? C = some (excClassObj nm q C N bs bm hdct sn sub ab col dd k0 k1 k2 k3 k5 newId))
    (hq : R (.ok (.ret (.ref (h.objs.size + 1)))) ⟨(h.push (W.kdv_tup [])).push (excO C h.objs.size), g, d, t, os⟩) :
    codeAny (model prog w) A (.builtin newId ⟨[.ref C], kw⟩) R ⟨h, g, d, t, os⟩ := by
  have ends := F.ends
  have isB : (Value.ref C :: bm).contains (.type B) = true := by rw [List.contains_cons, same, F.hasB, Bool.or_true]
  have isA : (Value.ref C :: bm).contains (.type "AttributeError") = false := by rw [List.contains_cons, same, F.noAttr]; rfl
  have isN : (Value.ref C :: bm).contains (.type "NameError") = false := by rw [List.contains_cons, same, F.noName]; rfl
  have small : ([] : List Value).length ≤ sizeLine := Nat.zero_le _
  refine codeAny_builtinAt F.entry ?_
  unfold Builtin.«BaseException.__new__»
  refine wpAt_bind ?_
  show wpAt _ _ _ (stack >>= _) _ _ _
  refine wpAt_bind (wpAt_stack fun p below => wpAt_of_wpAny ?_)
  wp_walk
  refine wpAt_of_wpAny ?_
  rw [F.owner]
  repeat (first | with_reducible refine wpAny_madeHere_exc F.canon cls ?_ | with_reducible refine wpAny_loadPart_at cls ?_ | (with_reducible refine wpAny_isSubtype_exc cls ?_; first | rw [isB] | rw [isA] | rw [isN]) | wp_step)
  show R _ _
  rw [Heap.size_push]
  exact hq
theorem kwd_type (F : ExcBaseFacts B newId initId bmB) (same : ∀ X : String, bm.contains (.type X) = bmB.contains (.type X)) {fI : Addr} {Q : Fin → Shared → Prop}
    (cls : h.get? C = some (excClassObj nm q C N bs bm hdct sn sub ab col dd k0 k1 k2 k3 k5 newId))
    (ini : W.Looks (model prog w) h (typeLookup (.ref C) "__init__") (some (.ref fI))) (bnd : ∀ self, W.Looks (model prog w) h (bindSpecial (.ref fI) self) (.ref fI, [self]))
    (hq : codeAny (model prog w) A (.call (.ref fI) ⟨[.ref (h.objs.size + 1)], kw⟩)
      (fun r s' => match r with | .ok (.ret v) => v = .none ∧ Q (.done (.ret (.ref (h.objs.size + 1)))) s' | .ok _ => False | .error e => E e s')
      ⟨(h.push (W.kdv_tup [])).push (excO C h.objs.size), g, d, t, os⟩) :
    wpAny (model prog w) A (Builtin.«type.__call__» ⟨[.ref C], kw⟩) Q E ⟨h, g, d, t, os⟩ := by
  repeat (first | with_reducible refine wpAny_loadPart_at cls ?_ | with_reducible refine wpAny_madeBy_exc cls ?_ | wp_step)
  refine codeAny_call_builtin_code (Code.quiet_builtin _ F.quiet) (kwd_new F same cls (kwd_made F same cls ?_))
  show wpAny _ _ _ _ _ _
  have keep : ∀ b o, h.get? b = some o → ((h.push (W.kdv_tup [])).push (excO C h.objs.size)).get? b = some o := fun b o e => Heap.get?_push_of_some _ (Heap.get?_push_of_some _ e)
  have cls1 := keep _ _ cls
  have new : ((h.push (W.kdv_tup [])).push (excO C h.objs.size)).get? (h.objs.size + 1) = some (excO C h.objs.size) := by heap_get
  have self : (Value.ref C :: bm).contains (.ref C) = true := by simp
  have ini1 := ini.keeps keep
  have bnd1 := (bnd (.ref (h.objs.size + 1))).keeps keep
  unfold isInstance
  repeat (first | with_reducible refine wpAny_loadPart_at new ?_ | (with_reducible refine wpAny_isSubtype_exc cls1 ?_; rw [self]) | wp_step)
  show wpAny _ _ (typeLookup (.ref C) _) _ _ _
  refine ini1.at (wpAny_holding (wpAny_bind (bnd1.at (wpAny_bind (wpAny_call (codeAny_mono hq fun r s' z => ?_))))))
  rcases r with e | (v | _ | _ | _) <;> first | exact z | exact z.elim | skip
  obtain ⟨rfl, z⟩ := z
  first
    | exact wpAny_pure (wpAny_pure z)
    | (wp_walk; exact z)
theorem kwd_call (F : ExcBaseFacts B newId initId bmB) (same : ∀ X : String, bm.contains (.type X) = bmB.contains (.type X)) {fI : Addr}
    (cls : h.get? C = some (excClassObj nm q C N bs bm hdct sn sub ab col dd k0 k1 k2 k3 k5 newId))
    (ini : W.Looks (model prog w) h (typeLookup (.ref C) "__init__") (some (.ref fI))) (bnd : ∀ self, W.Looks (model prog w) h (bindSpecial (.ref fI) self) (.ref fI, [self]))
    (hq : codeAny (model prog w) (A.under (.builtin "type.__call__" ⟨[.ref C], kw⟩)) (.call (.ref fI) ⟨[.ref (h.objs.size + 1)], kw⟩) (W.InitBack (h.objs.size + 1) R)
      ⟨(h.push (W.kdv_tup [])).push (excO C h.objs.size), g, d, t, os⟩) :
    codeAny (model prog w) A (.call (.ref C) ⟨[], kw⟩) R ⟨h, g, d, t, os⟩ := by
  have look := tc_lookup
  have bind := tc_bind (.ref C)
  have ofType : (⟨h, g, d, t, os⟩ : Shared).TypeIs (.ref C) "type" := ⟨_, cls, rfl⟩
  refine codeAny_of_tree ?_
  show wpAny _ _ (callAny (.ref C) _) _ _ _
  repeat (any_goals (first | assumption | with_reducible refine wpAny_loadPart_at cls ?_ | wp_step))
  refine ⟨rfl, ?_⟩
  refine codeAny_call_builtin_at (Code.quiet_builtin _ (by decide +kernel)) entry_typeCall (wpAny_check_type_call_sub cls (kwd_type F same cls ini bnd ?_))
  refine codeAny_mono hq fun r s' z => ?_
  rcases r with e | (v | _ | _ | _) <;> exact z
end
end HandSPX
end PySem

/-! # Errors as values -/
namespace L2
open PySem PySem.Spec PyProof.Rows
section
variable {X : Cx} {pins : List (Addr × Obj)} {σ : St} {H : Hp} {C : Addr} {x : Str} {p pos : Pos} {e : Expr} {es : List Expr} {ta : TA}
/-- what making a bare error lays: its arguments' tuple, itself -/
theorem laid_exo {us : List Value} {hp : Heap} {g : Array GenState} {d : Drawn} {t : Nat} {os : OsState} (I : Inv X pins σ H ⟨hp, g, d, t, os⟩) :
    H (hp.objs.size + 1) = none ∧ Inv X pins σ (upd H (hp.objs.size + 1) (exo (hp.objs.size + 1) C none)) ⟨(hp.push (PySem.W.kdv_tup us)).push (PySem.HandSPX.excO C hp.objs.size), g, d, t, os⟩ := by
  refine ⟨I.hok.fresh (show hp.objs.size ≤ hp.objs.size + 1 by omega), ?_⟩
  refine I.laid (t' := t) (fun b o q => ?_) (by show hp.objs.size ≤ hp.objs.size + 1; omega) (exo_ok (t1 := hp.objs.size) ?_)
  · exact Heap.get?_push_of_some _ (Heap.get?_push_of_some _ q)
  · heap_get
/-- C(e, ..) as a value, C's own __init__ keeping sp -/
def tNewX (C : Addr) (sp : Sp) (dvs : List V) (ta : TA) : TE := fun σ H Q => ta σ H fun vs H1 => vs.length ≤ 1000 ∧ ∀ a, H1 a = none → sp (.ref a :: (vs ++ dvs)) (upd H1 a (exo a C none)) (fun v H2 => v = .non ∧ Q (.ref a) H2) (fun _ _ _ => False)
theorem pe_newX {CX : CXT} {fI : Addr} {k : Nat} {fd : FuncData} {ps : List Str} {sp : Sp} {ds : List Value} {dvs : List V} (T : OexC X.K C) (iC : PySem.W.findIn X.K (.ref C) "__init__" = some (some (.ref fI))) (tI : PySem.W.typeIn X.K (.ref fI) = some (.type "function"))
    (F : FnOk X.prog X.w X.K X.mg X.base CX k fI fd ps sp) (hr : Room (k + 1) X.A) (hb : Binds X.K fd ps ds) (hd : Vals dvs ds) (hx : Passes CX X (fun _ _ _ => False)) (hg : Gl X x) (hm : X.mg x = some (.ref C)) (ha : PA X (e :: es) ta)
    (hdb : (x == ("__debug__" : Str)) = false := by decide) (he : starEach (e :: es) X.env = (false, eval e X.env) :: starEach es X.env := by rfl) (hpl : (backTo pos (starEach es X.env)).any (·.1) = false := by rfl) :
    PE X (.Call (.Name x p) (e :: es) [] pos) (tNewX C sp dvs ta) := by
  constructor
  intro pn s τ G R J h
  refine wpAny_Call_Name_kw (ld_glob J hg hm ?_ hdb)
  refine PySem.W.callWith_K (h₀ := X.base) J.ok.mod.kin T.kC (thn (ha.run pos pn s τ G _ J h) ?_) he hpl
  rintro us ⟨hp, g, d, t, os⟩ ⟨vs, G1, J1, rv, len, go⟩
  refine ⟨J1.kIn, ?_⟩
  show wpAny _ _ (call (.ref C) us) _ _ _
  obtain ⟨fresh, J2⟩ := laid_exo (C := C) (us := us) J1
  have todo := go _ fresh
  have all : Vals (V.ref (hp.objs.size + 1) :: (vs ++ dvs)) (Value.ref (hp.objs.size + 1) :: (us ++ ds)) := .cons rfl (rv.append hd)
  have many : us.length ≤ sizeLine := by
    rw [← Paired.length rv, sizeLine_eq]
    omega
  have par : (Value.ref (hp.objs.size + 1) :: us ++ ds).length = ps.length := (all.length.symm.trans (F.len _ _ _ _ todo))
  obtain ⟨nm, q, N, bs, bm, sn, sub, ab, col, dd, k0, k1, k2, k3, k5, hC, hbm⟩ := T.cls
  have body := F.run _ X.stack _ _ ⟨Value.ref (hp.objs.size + 1) :: us, []⟩ _ _ _ (fun _ _ _ => False) (hr.make C us []) (J2.env0.make C us []) (hb _ (Value.ref (hp.objs.size + 1) :: us) J2.kIn par) all todo
  refine wpAny_call (PySem.HandSPX.call_own PySem.F.excBase_ValueError (fun Y => PySem.HandSPX.refsVE_contains Y bm hbm) (J1.kIn _ _ hC) (PySem.W.looks_findIn J1.kIn iC) (fun self => PySem.W.bind_fn J1.kIn self tI) many (codeAny_mono body ?_))
  intro r s' post
  match r, post with
  | .error er, post => exact hx pn τ _ _ er s' J2 post
  | .ok (.ret u), post =>
    obtain ⟨v, G2, J3, rr, ev, q2⟩ := J2.after post
    subst ev
    exact ⟨rr, .ref (hp.objs.size + 1), G2, J3, rfl, q2⟩
  | .ok .next, post => exact post.elim
  | .ok .brk, post => exact post.elim
  | .ok .cont, post => exact post.elim
end
end L2
namespace L2
open PySem PySem.Spec PyProof.Rows
section
variable {X : Cx} {C : Addr} {bmB : List Value} {B newId initId : String} {x : Str} {p pos : Pos}
/-- C() as a value, C an own error class without own __init__ -/
theorem pe_new0 (F : ExcBaseFacts B newId initId bmB) (q : PySem.W.excIn X.K C bmB newId = true) (gC : X.mg x = some (.ref C)) (kC : PySem.W.keepIn X.K (.ref C) = true) (hg : Gl X x) (hdb : (x == ("__debug__" : Str)) = false := by decide) :
    PE X (.Call (.Name x p) [] [] pos) (fun _ H Q => ∀ a, H a = none → Q (.ref a) (upd H a (ExO (.ref C) a))) := by
  constructor
  intro pn s τ G R J h
  refine wpAny_Call_Name_kw (ld_glob J hg gC ?_ hdb)
  refine PySem.W.callWith_K0 J.kIn kC ?_
  show wpAny _ _ (call (.ref C) []) _ _ _
  obtain ⟨_, _, _, _, _, _, _, _, _, _, _, _, _, _, _, _, _, hC, hN, hni, T⟩ := exc_obj J.kIn q
  refine wpAny_call_exc_subT F T hC hN hni (fun h' a made => ?_) (Nat.zero_le _)
  have free : G a = none := J.hok.gone made.new
  obtain ⟨t, there, _, _⟩ := made.there
  exact ⟨.ref a, upd G a (ExO (.ref C) a), J.laidN made.keeps made.new free (exO_ok there ⟨rfl, rfl⟩ rfl rfl rfl (show 4 < 6 by decide)), rfl, h a free⟩
/-- the error value at a: its class, its fields -/
def Ev (H : Hp) (a C : Addr) (fs : List (Str × V)) : Prop := (fs = [] ∧ H a = some (ExO (.ref C) a)) ∨ ∃ dx, H a = some (exo a C (some dx)) ∧ H dx = some (exd dx fs)
theorem Ev.inst {H : Hp} {a C : Addr} {fs : List (Str × V)} {pins : List (Addr × Obj)} {σ : St} {s : Shared} (I : Inv X pins σ H s) (h : Ev H a C fs) : ∃ o od, PySem.W.InstAt s.heap a o C od := by
  rcases h with ⟨_, h⟩ | ⟨dx, h, hd⟩
  · obtain ⟨⟨o, vs, ho, hz, hv, _⟩, _, _⟩ := I.hok a _ h
    exact ⟨o, none, ho, hz.1, by unfold PySem.W.notCls; rw [hv] <;> rfl, by rw [hz.2] <;> trivial⟩
  · obtain ⟨t1, ho⟩ := exo_at I.hok h
    obtain ⟨mA, hn, _⟩ := exd_at I.hok hd
    obtain ⟨od, hod, _⟩ := lookIn_ns hn
    exact ⟨_, some od, ho, rfl, rfl, hod⟩
/-- e.f of an error value -/
def tXat (K : PySem.W.Frag) (f : Str) (te : TE) : TE := fun σ H Q => te σ H fun x H1 => ∃ (a C dx : Addr) (fs : List (Str × V)) (v : V), x = .ref a ∧ XfC K C ∧ PySem.W.findIn K (.ref C) f = some none ∧ H1 a = some (exo a C (some dx)) ∧ H1 dx = some (exd dx fs) ∧ fs.lookup f = some v ∧ Q v H1
theorem pe_xat {e : Expr} {te : TE} {f : Str} (he : PE X e te) (hb : attributeBase e f X.env (eval e X.env) = eval e X.env := by rfl) : PE X (.Attribute e f pos) (tXat X.K f te) := by
  constructor
  intro pn s τ G R J h
  refine attr_of hb (thn (he.run pn s τ G _ J h) ?_)
  rintro u s1 ⟨w, G1, J1, rw', a, C, dx, fs, v, rfl, T, nf, ha, hd, l, q⟩
  cases rw'
  obtain ⟨t1, ho⟩ := exo_at J1.hok ha
  obtain ⟨mA, hn, hr⟩ := exd_at J1.hok hd
  obtain ⟨od, hod, hl⟩ := lookIn_ns hn
  obtain ⟨z, hz, rz⟩ := RelO.some_of (v := v) (o := mA f) (by rw [← l]; exact hr f)
  have at_ : PySem.W.InstAt s1.heap a _ C (some od) := ⟨ho, rfl, rfl, hod⟩
  exact HandSPX.exc_get J1.kIn at_ T.ga T.gg T.exC (PySem.W.findObj_own T.hdC nf rfl (by rw [hl, hz])) (handed_of rz) ⟨v, G1, J1.tok _, rz, q⟩
/-- isinstance of an error value -/
def rIsV (K : PySem.W.Frag) : List V → Hp → VK → Prop := fun xs H Q => ∃ (a C : Addr) (fs : List (Str × V)) (c : V) (u : Value) (b : Bool), xs = [.ref a, c] ∧ ClsV c u ∧ Ev H a C fs ∧ ExcC K C ∧ PySem.W.kitOne K (.ref C) u = some b ∧ Q (.bl b) H
theorem call_isV : CallR X (.builtin "isinstance") (rIsV X.K) := by
  intro pn s τ G xs us R J r h
  obtain ⟨a, C, fs, c, u, b, rfl, k, ev, T, e, q⟩ := h
  obtain ⟨u1, u2, rfl, r1, r2⟩ := vals2 r
  cases (show u1 = Value.ref a from r1)
  cases k.eq r2
  obtain ⟨o, od, at_⟩ := ev.inst J
  have some_ : (PySem.W.clsIn X.K C).isSome = true := by
    obtain ⟨cd, hc, _⟩ := PySem.W.any_some T.hd
    rw [hc] <;> rfl
  exact PySem.W.kia_one (PySem.W.kitx_exc (od := od) some_ T.hg T.hk T.hs T.ha T.hn T.ht T.hm) J.kIn at_ e (fun z => nomatch z) fun tk => ⟨.bl b, G, J.tok tk, rfl, q⟩
end
end L2

/-! # raise C(k = v, ..) -/
namespace L2
open PySem PySem.Spec PyProof.Rows
/-- C(k = v, ..), m of them, C's own __init__ keeping sp -/
def tMkK (C : Addr) (m : Nat) (sp : Sp) (gV : List V → List V → List V) (tk : TA) : St → Hp → XK → Prop := fun σ H Q => tk σ H fun zs H1 => zs.length = m ∧ ∀ a, H1 a = none → sp (gV [.ref a] zs) (upd H1 a (exo a C none))
  (fun v H2 => v = .non ∧ ∃ (d : Addr) (fs : List (Str × V)), H2 a = some (exo a C (some d)) ∧ H2 d = some (exd d fs) ∧ H1 d = none ∧ Q (.ref C) (some d) (upd (del H2 a) d (.xd fs))) (fun _ _ _ => False)
section
variable {X : Cx} {x : Str} {p pos : Pos} {C : Addr} {kws : List Keyword} {tk : TA}
theorem pmk_kw {CX : CXT} {fI : Addr} {k : Nat} {fd : FuncData} {ps ks : List Str} {sp : Sp} {g : List Value → List Value → List Value} {gV : List V → List V → List V} (T : OexC X.K C)
    (iC : PySem.W.findIn X.K (.ref C) "__init__" = some (some (.ref fI))) (tI : PySem.W.typeIn X.K (.ref fI) = some (.type "function"))
    (F : FnOk X.prog X.w X.K X.mg X.base CX k fI fd ps sp) (hr : Room (k + 1) X.A) (hb : KBn X.K fd ps 1 ks g gV) (hx : Passes CX X (fun _ _ _ => False)) (hg : Gl X x) (hm : X.mg x = some (.ref C)) (hk : PK X kws tk)
    (hdb : (x == ("__debug__" : Str)) = false := by decide) (hall : (backToKw pos (keywordEach kws X.env)).all (·.1.isSome) = true := by rfl) (hks : (backToKw pos (keywordEach kws X.env)).filterMap (·.1) = ks := by rfl)
    (hpl : ((backTo pos (starEach [] X.env)).any (·.1) || (backToKw pos (keywordEach kws X.env)).any (·.1.isNone)) = false := by rfl) :
    PMk X (.Call (.Name x p) [] kws pos) (tMkK C ks.length sp gV tk) := by
  intro pn s τ G Q J todo
  obtain ⟨_, _, _, _, bm, _, _, _, _, _, _, _, _, _, _, atC, isVE⟩ := T.cls
  refine wpAny_Call_Name_kw (ld_glob J hg hm ?_ hdb)
  refine PySem.W.callWith_KW0 (h₀ := X.base) J.ok.mod.kin T.kC hall ?_ hpl
  refine thn (hk.run pos pn s τ G _ J todo) ?_
  rintro ws ⟨hp, gs, dr, tk, os⟩ ⟨zs, G1, J1, rz, len, go⟩
  refine ⟨J1.kIn, ?_⟩
  rw [hks]
  show wpAny _ _ (call (.ref C) [] (ks.zip ws)) _ _ _
  obtain ⟨fresh, J2⟩ := laid_exo (C := C) (us := []) J1
  have promise := go _ fresh
  have ofOld : ∀ b o, hp.get? b = some o → ((hp.push (PySem.W.kdv_tup [])).push (PySem.HandSPX.excO C hp.objs.size)).get? b = some o := fun b o e => Heap.get?_push_of_some _ (Heap.get?_push_of_some _ e)
  have self : Vals [V.ref (hp.objs.size + 1)] [Value.ref (hp.objs.size + 1)] := .cons rfl .nil
  have body := F.run _ X.stack _ _ ⟨[Value.ref (hp.objs.size + 1)], ks.zip ws⟩ _ _ _ (fun _ _ _ => False) (hr.make C [] (ks.zip ws)) (J2.env0.make C [] (ks.zip ws)) (hb.to _ [Value.ref (hp.objs.size + 1)] ws J2.kIn rfl (rz.length.symm.trans len)) (hb.rel self rz) promise
  refine wpAny_call (PySem.HandSPX.kwd_call PySem.F.excBase_ValueError (fun Y => PySem.HandSPX.refsVE_contains Y bm isVE) (J1.kIn _ _ atC) (PySem.W.looks_findIn J1.kIn iC) (fun v => PySem.W.bind_fn J1.kIn v tI) (codeAny_mono body ?_))
  intro r s' post
  match r, post with
  | .error er, post => exact hx pn τ _ _ er s' J2 post
  | .ok (.ret u), post =>
    obtain ⟨v, G2, osE, bareE, un, hok, rr, ev, d, fs, ha, hd, nd, q⟩ := post
    subst ev
    obtain ⟨h2, g2, d2, t2, os2⟩ := s'
    exact ⟨rr, mk_end (raises_own T.exC T.tyC) J1 (Nat.le_succ _) ofOld un hok osE bareE ha hd nd q⟩
  | .ok .next, post => exact post.elim
  | .ok .brk, post => exact post.elim
  | .ok .cont, post => exact post.elim
end
end L2
namespace DLH
open PySem PySem.Spec PyProof.Rows L2
/-- a call with keywords of a def without defaults -/
theorem kbindsN {K : PySem.W.Frag} {x qual : Str} {params : Arguments} {body : List Stmt} {scope : Scope} {kws : List (Str × V)} {f : Addr} {fd : FuncData} {ps : List Str} (F : FunD K x qual params body scope [] kws f fd) (n : Nat) (ks : List Str) (g : {α : Type} → List α → List α → List α)
    (hrel : ∀ {vs zs : List V} {us ws : List Value}, Vals vs us → Vals zs ws → Vals (g vs zs) (g us ws))
    (h : ∀ (kV doc pm : Value) (an : Option Addr) (cdv ct : Value) (us ws : List Value), us.length = n → ws.length = ks.length →
      bindArgs (PySem.W.fnOf x qual params body scope .none kV doc pm an cdv ct) ⟨us, ks.zip ws⟩ = pure (ps.zip (g us ws))) :
    KBn K fd ps n ks (fun us ws => g us ws) (fun vs zs => g vs zs) := by
  obtain ⟨oc, od, dV, kV, doc, pm, an, cdv, ct, osl, rfl, lk, hcd, hD, hK⟩ := F.ex
  rcases hD with ⟨_, rfl⟩ | ⟨e, _⟩
  · exact ⟨fun s us ws _ l1 l2 => .of_eq (h kV doc pm an cdv ct us ws l1 l2), fun r1 r2 => hrel r1 r2⟩
  · exact absurd rfl e
end DLH

/-! # try with several clauses, each with a name or without; isinstance of what a suite holds -/
namespace L2
open PySem PySem.Spec PyProof.Rows
/-- a clause: the class, the name's slot, the suite's reading -/
structure Cl where
  cls : Value
  slot : Option Nat
  run : Addr → Value → Option Addr → TS
def Cl.ends (c : Cl) (D : Ends) : Ends := match c.slot with
  | none => D
  | some i => ⟨fun τ G => D.nx (τ.set i none) G, D.rt, fun τ G => D.bk (τ.set i none) G, fun τ G => D.ct (τ.set i none) G⟩
def Cl.enter (c : Cl) (a : Addr) (τ : St) : St := match c.slot with
  | none => τ
  | some i => τ.set i (some (.ref a))
def wCls (K : PySem.W.Frag) (Wout : WX) (D : Ends) : List Cl → WX
  | [] => Wout
  | c :: more => fun C dx τ G => ∃ fits, PySem.W.exmOne K C c.cls = some fits ∧ (fits = true → ∀ a, G a = none → c.run a C dx (c.ends D) (c.enter a τ) G) ∧ (fits = false → wCls K Wout D more C dx τ G)
abbrev SuiteOk (X : Cx) (body : List Stmt) (run : Addr → Value → Option Addr → TS) : Prop :=
  ∀ (a : Addr) (ob : Obj) (C : Value) (dx : Option Addr) (pn : List (Addr × Obj)), Zc C dx ob → (∃ fl, ob.data = .fields fl) → PSs (X.suite a ((a, ob) :: pn)) body (run a C dx)
inductive ClOk (X : Cx) : ExceptHandler → Cl → Prop
  | plain {x : Str} {C : Value} {run : Addr → Value → Option Addr → TS} {b : Stmt} {bs : List Stmt} {p1 p2 : Pos} : Names X x C → SuiteOk X (b :: bs) run → ClOk X (.ExceptHandler (some (.Name x p1)) none (b :: bs) p2) ⟨C, none, run⟩
  | named {x n : Str} {i : Nat} {C : Value} {run : Addr → Value → Option Addr → TS} {b : Stmt} {bs : List Stmt} {p1 p2 : Pos} : Names X x C → X.N[i]? = some n → X.env.kindOf n = some .local → SuiteOk X (b :: bs) run →
      ClOk X (.ExceptHandler (some (.Name x p1)) (some n) (b :: bs) p2) ⟨C, some i, run⟩
inductive ClsOk (X : Cx) : List ExceptHandler → List Cl → Prop
  | nil : ClsOk X [] []
  | cons {h : ExceptHandler} {c : Cl} {hs : List ExceptHandler} {cs : List Cl} : ClOk X h c → ClsOk X hs cs → ClsOk X (h :: hs) (c :: cs)
section
variable {X : Cx} {body : List Stmt} {hd : ExceptHandler} {hds : List ExceptHandler} {cs : List Cl} {pos : Pos} {tb : WX → TS} {Wout : WX}
theorem ps_try_cls (top : X.stack = X.env :: X.outer) (fr : X.env.frame = some X.env.locals) (nd : X.N.Nodup) (out : Takes X Wout)
    (hb : ∀ (W : WX) (pn : List (Addr × Obj)) (xe : Value → Shared → Prop), Takes (X.tr pn xe) W → PassesOwn (model X.prog X.w) X.A X.env xe → PSs (X.tr pn xe) body (tb W))
    (hh : ClsOk X (hd :: hds) cs) : PS X (.Try body (hd :: hds) [] [] pos) (fun D σ H => tb (wCls X.K Wout D cs) D σ H) := by
  constructor
  intro pn s τ G D J todo
  have okX := J.ok
  have frames : X.A.frames = some (X.env :: X.outer) := okX.frames.trans (by rw [top])
  apply wpAny_Try_except
  refine wpAny_mono ((hb (wCls X.K Wout D cs) (X.pn ++ pn) (fun v s1 => wpAny (model X.prog X.w) X.A (noteFrame v X.env) (fun _ s2 => wpAny (model X.prog X.w) X.A (setFlight v none)
    (fun _ s3 => wpAny (model X.prog X.w) X.A (handleBy v X.env (hd :: hds)) (SP X pn D) X.xe s3) X.xe s2) X.xe s1) (fun u s1 caught => ?_) PassesOwn.looking).run [] s τ G D (J.toTry _) todo) (fun f s1 post => ?_) (fun _ _ z => z)
  ·
    obtain ⟨a, Bs, s0, pn1, τ1, G1, C, dx, rfl, J1, nb, up1, fly, free, os1, ag, w⟩ := caught
    have J2 : Inv X pn τ1 G1 s0 := J1.ofTry okX
    rw [top] at fly
    show wpAny (model X.prog X.w) X.A (noteFrame (.ref a) X.env) _ _ _
    refine Sky.land Zc.steady frames fr fly fun hp land up2 => ?_
    have J3 : Inv X pn τ1 G1 { s1 with heap := hp } := J2.landed nb land.1 (up1.trans up2) os1 ag
    obtain ⟨ob, fl, atA, kind, flds⟩ := land.there
    have off : a ∉ frs (X.env :: X.outer) := fun m => by
      obtain ⟨_, o2, at2, no⟩ := land.2.2.1.mem m
      cases atA.symm.trans at2
      exact no _ flds
    have offL : a ≠ X.env.locals := fun z => off (List.mem_filterMap.mpr ⟨X.env, List.mem_cons_self, fr.trans (congrArg some z.symm)⟩)
    have offF : a ∉ X.fs := fun m => by
      obtain ⟨en, m1, e1⟩ := List.mem_filterMap.mp m
      exact off (List.mem_filterMap.mpr ⟨en, List.mem_cons_of_mem _ m1, e1⟩)
    have S3 := J3.suite atA flds free offL offF
    have name : ∀ {x : Str} {p1 : Pos} {c : Value} {Q E : Value → Shared → Prop}, Names X x c → Q c { s1 with heap := hp } → wpAny (model X.prog X.w) (X.A.mark (some (.ref a))) (eval (.Name x p1) X.env) Q E { s1 with heap := hp } := fun n q => by
      rcases n with ⟨g, db, m | ⟨m, bt, nn⟩⟩
      · exact ld_glob (X := X.suite a ((a, ob) :: (X.pn ++ pn))) S3 g m q db
      · exact ld_blt (X := X.suite a ((a, ob) :: (X.pn ++ pn))) S3 g m bt q nn db
    have look : PySem.W.Looks (model X.prog X.w) hp (typeOf (.ref a)) C := fun _ _ _ _ k q => wpAny_typeOf_ref (k _ _ atA) (kind.1 ▸ q)
    suffices all : ∀ {hs : List ExceptHandler} {l : List Cl}, ClsOk X hs l → wCls X.K Wout D l C dx τ1 G1 → wpAny (model X.prog X.w) X.A (handleBy (.ref a) X.env hs) (SP X pn D) X.xe { s1 with heap := hp } from all hh w
    intro hs l k
    induction k with
    | nil =>
      intro w
      apply wpAny_handleBy_nil
      obtain ⟨_, _, _, o1, f1, tr, _, _, at1, _, d1, e1, _⟩ := id land
      unfold PySem.passOn
      apply wpAny_bind
      refine wpAny_field at1 d1 e1 ?_
      rw [if_neg (show ¬ ((Value.ref tr == Value.none) = true) from by simp)]
      have leave : wpAny (model X.prog X.w) X.A (setFlight (.ref a) X.env.frame) (fun _ s4 => wpAny (model X.prog X.w) X.A (throw (.ref a) : Sem Flow) (SP X pn D) X.xe s4) X.xe { s1 with heap := hp } := by
        rw [fr]
        refine HandSPX.setFlight_upZ land fun hp4 held up3 => wpAny_throw (out _ _ ⟨a, Bs, s0, pn, τ1, G1, C, dx, rfl, J2, nb, (up1.trans up2).trans up3, .inr (.inr ?_), free, os1, ag, w⟩)
        rw [top]
        exact held
      first
        | exact wpAny_bind (wpAny_pure (wpAny_bind leave))
        | exact wpAny_bind leave
    | @cons h c hs l one rest ih =>
      rintro ⟨fits, e1, yes, no⟩
      have matched := PySem.W.exm_one (M := model X.prog X.w) (J3.kIn) look e1
      cases one with
      | @plain x c run b bs p1 p2 n suite =>
        refine wpAny_handleBy_cons (codeAny_handlers_test (name n (matched.here ?_))) (fun z => nomatch z)
        cases fits with
        | false => exact ih (no rfl)
        | true =>
          refine codeAny_handlers_suite (HandSPX.lands_againZ land fun hp4 land4 up4 => ?_)
          have J4 : Inv X pn τ1 G1 { s1 with heap := hp4 } := J2.landed nb land4.1 ((up1.trans up2).trans up4) os1 ag
          obtain ⟨ob4, fl4, at4, kind4, flds4⟩ := land4.there
          refine wpAny_mono ((suite a ob4 C dx (X.pn ++ pn) kind4 ⟨_, flds4⟩).run [] _ _ G1 _ (J4.suite at4 flds4 free offL offF) (yes rfl a free)) ?_ (fun _ _ z => z.elim)
          intro f s5 post
          match f, post with
          | .next, ⟨_, _, S, q⟩ => exact ⟨_, _, S.unsuite okX, q⟩
          | .brk, ⟨_, _, S, q⟩ => exact ⟨_, _, S.unsuite okX, q⟩
          | .cont, ⟨_, _, S, q⟩ => exact ⟨_, _, S.unsuite okX, q⟩
          | .ret _, ⟨_, _, _, S, r, q⟩ => exact ⟨_, _, _, S.unsuite okX, r, q⟩
      | @named x nm i c run b bs p1 p2 n ix loc suite =>
        refine wpAny_handleBy_cons (codeAny_handlers_test (name n (matched.here ?_))) (fun z => nomatch z)
        cases fits with
        | false => exact ih (no rfl)
        | true =>
          refine codeAny_handlers_suite_as (HandSPX.lands_againZ land fun hp4 land4 up4 => ?_)
          have J4 : Inv X pn τ1 G1 { s1 with heap := hp4 } := J2.landed nb land4.1 ((up1.trans up2).trans up4) os1 ag
          obtain ⟨ob4, fl4, at4, kind4, flds4⟩ := land4.there
          refine store_ok (X := X.suite a ((a, ob4) :: (X.pn ++ pn))) (v := .ref a) (J4.suite at4 flds4 free offL offF) nd ix (.inl loc) rfl (fun s5 S5 => ?_) (.inr loc)
          refine wpAny_mono ((suite a ob4 C dx (X.pn ++ pn) kind4 ⟨_, flds4⟩).run [] s5 _ G1 _ S5 (yes rfl a free)) ?_ (fun _ _ z => z.elim)
          intro f s6 post
          have clear : ∀ {τ6 : St} {G6 : Hp} {Q : Shared → Prop}, Inv (X.suite a ((a, ob4) :: (X.pn ++ pn))) [] τ6 G6 s6 → (∀ s7, Inv X pn (τ6.set i none) G6 s7 → Q s7) →
              wpAny (model X.prog X.w) X.A (do bindName X.env nm .none; unbindBehindTheSuite X.env nm p2) (fun _ s7 => Q s7) X.xe s6 := fun S q => gone_ok (S.unsuite okX) nd ix loc q
          match f, post with
          | .next, ⟨_, _, S, q⟩ => exact clear S fun _ I7 => ⟨_, _, I7, q⟩
          | .brk, ⟨_, _, S, q⟩ => exact clear S fun _ I7 => ⟨_, _, I7, q⟩
          | .cont, ⟨_, _, S, q⟩ => exact clear S fun _ I7 => ⟨_, _, I7, q⟩
          | .ret _, ⟨_, _, _, S, r, q⟩ => exact clear S fun _ I7 => ⟨_, _, _, I7, r, q⟩
  · match f, post with
  | .next, ⟨_, _, I1, q⟩ => exact wpAny_execs_nil ⟨_, _, I1.ofTry okX, q⟩
  | .brk, ⟨_, _, I1, q⟩ => exact ⟨_, _, I1.ofTry okX, q⟩
  | .cont, ⟨_, _, I1, q⟩ => exact ⟨_, _, I1.ofTry okX, q⟩
  | .ret _, ⟨_, _, _, I1, r, q⟩ => exact ⟨_, _, _, I1.ofTry okX, r, q⟩
end
/-- isinstance(e, c), e what the suite holds: its class, its dict -/
def rIsD (K : PySem.W.Frag) (a : Addr) (cls : Value) (d : Option Addr) : List V → Hp → VK → Prop := fun xs H Q => ∃ (D dx : Addr) (fs : List (Str × V)) (c : V) (u : Value) (b : Bool), xs = [.ref a, c] ∧ cls = .ref D ∧ d = some dx ∧ H dx = some (.xd fs) ∧ ExcC K D ∧ ClsV c u ∧ PySem.W.kitOne K (.ref D) u = some b ∧ Q (.bl b) H
theorem call_isD {X : Cx} {a : Addr} {ob : Obj} {cls : Value} {d : Option Addr} {pn : List (Addr × Obj)} (hz : Zc cls d ob) (hf : ∃ vs, ob.data = .fields vs) : CallR (X.suite a ((a, ob) :: pn)) (.builtin "isinstance") (rIsD X.K a cls d) := by
  intro ps s τ G xs us R J r h
  obtain ⟨D, dx, fs, c, u, b, rfl, rfl, rfl, hd, T, k, e, q⟩ := h
  obtain ⟨u1, u2, rfl, r1, r2⟩ := vals2 r
  cases (show u1 = Value.ref a from r1)
  cases k.eq r2
  obtain ⟨at_, _⟩ := J.pin (a, ob) (List.mem_append_left _ List.mem_cons_self)
  obtain ⟨vs, hv⟩ := hf
  have hx : ObjOk X.prog X.w G s.heap dx (.xd fs) := J.hok dx _ hd
  obtain ⟨mA, ns, _⟩ := hx
  obtain ⟨od, hod, _⟩ := lookIn_ns ns
  have ins : PySem.W.InstAt s.heap a ob D (some od) := ⟨at_, hz.1, by unfold PySem.W.notCls; rw [hv] <;> rfl, by rw [hz.2]; exact hod⟩
  have some_ : (PySem.W.clsIn X.K D).isSome = true := by
    obtain ⟨cd, hc, _⟩ := PySem.W.any_some T.hd
    rw [hc] <;> rfl
  exact PySem.W.kia_one (PySem.W.kitx_exc (od := some od) some_ T.hg T.hk T.hs T.ha T.hn T.ht T.hm) J.kIn ins e (fun z => nomatch z) fun tk => ⟨.bl b, G, J.tok tk, rfl, q⟩
end L2

/-! # Data that holds error values -/
namespace DL
open PySem L2
open Evl (Ex Ex.refl Ex.trans Ex.new)
/-- plain data | an error of the class C with these fields | a tuple | a list -/
inductive RD where
  | d (x : PyData)
  | e (C : Addr) (fs : List (Str × PyData))
  | tup (xs : List RD)
  | lst (xs : List RD)
def EvV (K : PySem.W.Frag) (H : Hp) (u : V) (C : Addr) (fs : List (Str × PyData)) : Prop := ∃ a fv, u = .ref a ∧ Ev H a C fv ∧ fv.map (·.1) = fs.map (·.1) ∧ DpAll K H (fv.map (·.2)) (fs.map (·.2))
theorem ev_mono {H H' : Hp} (e : Ex H H') {a C : Addr} {fv : List (Str × V)} (h : Ev H a C fv) : Ev H' a C fv := by
  rcases h with ⟨h1, h2⟩ | ⟨dx, h1, h2⟩
  · exact .inl ⟨h1, e _ _ h2⟩
  · exact .inr ⟨dx, e _ _ h1, e _ _ h2⟩
mutual
inductive Rp (K : PySem.W.Frag) (H : Hp) : V → RD → Prop
  | d {u : V} {x : PyData} : Dp K H u x → Rp K H u (.d x)
  | e {u : V} {C : Addr} {fs : List (Str × PyData)} : EvV K H u C fs → Rp K H u (.e C fs)
  | tup {a : Addr} {us : List V} {xs : List RD} : SqT K H a us → RpAll K H us xs → Rp K H (.ref a) (.tup xs)
  | lst {a : Addr} {us : List V} {xs : List RD} : SqL K H a us → RpAll K H us xs → Rp K H (.ref a) (.lst xs)
inductive RpAll (K : PySem.W.Frag) (H : Hp) : List V → List RD → Prop
  | nil : RpAll K H [] []
  | cons {u : V} {x : RD} {us : List V} {xs : List RD} : Rp K H u x → RpAll K H us xs → RpAll K H (u :: us) (x :: xs)
end
theorem rp_mono {K : PySem.W.Frag} {H H' : Hp} (e : Ex H H') {u : V} {x : RD} (h : Rp K H u x) : Rp K H' u x := by
  refine Rp.rec (motive_1 := fun u x _ => Rp K H' u x) (motive_2 := fun us xs _ => RpAll K H' us xs) ?_ ?_ ?_ ?_ ?_ ?_ h
  · exact fun r => .d (dp_mono e r)
  · rintro u C fs ⟨a, fv, e1, e2, e3, e4⟩
    exact .e ⟨a, fv, e1, ev_mono e e2, e3, dpa_mono e e4⟩
  · exact fun r _ ih => .tup (Evl.ex_t e r) ih
  · exact fun r _ ih => .lst (Evl.ex_l e r) ih
  · exact .nil
  · exact fun _ _ h1 h2 => .cons h1 h2
theorem rpa_mono {K : PySem.W.Frag} {H H' : Hp} (e : Ex H H') : ∀ {us : List V} {xs : List RD}, RpAll K H us xs → RpAll K H' us xs
  | [], [], _ => .nil
  | _, _, .cons h t => .cons (rp_mono e h) (rpa_mono e t)
theorem rpa_len {K : PySem.W.Frag} {H : Hp} : ∀ {us : List V} {xs : List RD}, RpAll K H us xs → us.length = xs.length
  | _, _, .nil => rfl
  | _, _, .cons _ t => congrArg Nat.succ (rpa_len t)
theorem rpa_append {K : PySem.W.Frag} {H : Hp} : ∀ {us ws : List V} {xs ys : List RD}, RpAll K H us xs → RpAll K H ws ys → RpAll K H (us ++ ws) (xs ++ ys)
  | _, _, _, _, .nil, s => s
  | _, _, _, _, .cons r t, s => .cons r (rpa_append t s)
theorem rpa_get {K : PySem.W.Frag} {H : Hp} : ∀ {us : List V} {xs : List RD} {i : Nat} {x : RD}, RpAll K H us xs → xs[i]? = some x → ∃ u, us[i]? = some u ∧ Rp K H u x
  | _, _, _, _, .nil, e => by simp at e
  | _, _, 0, _, .cons h _, e => by simp at e; subst e; exact ⟨_, rfl, h⟩
  | _, _, i + 1, x, .cons _ t, e => by
    obtain ⟨u, h1, h2⟩ := rpa_get (i := i) (x := x) t (by simpa using e)
    exact ⟨u, by simpa using h1, h2⟩
def DR (x : RD) : DV := .p (fun K H u => Rp K H u x) (fun e h => rp_mono e h)
theorem rv_dr {F : Fm} {G H : Hp} {u : V} {x : RD} : RV F G H u (DR x) ↔ Rp F.K G u x := Iff.rfl
theorem plain_dr {x : RD} : Plain (DR x) := trivial
/-- values as rich data -/
class ToR (xs : List DV) (ys : outParam (List RD)) : Prop where
  rp : ∀ {F : Fm} {G H : Hp} {us : List V}, RVs F G H us xs → RpAll F.K G us ys
instance : ToR [] [] := ⟨fun {F G H us} r => match us, r with
  | [], _ => .nil
  | _ :: _, r => r.elim⟩
instance {x : PyData} {xs : List DV} {ys : List RD} [t : ToR xs ys] : ToR (.d x :: xs) (.d x :: ys) := ⟨fun {F G H us} r => match us, r with
  | [], r => r.elim
  | _ :: _, r => .cons (.d r.1.dp) (t.rp r.2)⟩
instance {x : RD} {xs : List DV} {ys : List RD} [t : ToR xs ys] : ToR (DR x :: xs) (x :: ys) := ⟨fun {F G H us} r => match us, r with
  | [], r => r.elim
  | _ :: _, r => .cons r.1 (t.rp r.2)⟩
section
variable {F : Fm} {X : XW} {δ : DSt} {Xp : XP} {P : DV → Prop} {te : TE} {ta : TA} {K : PySem.W.Frag}
theorem upd_rpa {G : Hp} {p : Addr} {o : HO} {us : List V} {xs : List RD} (gp : G p = none) (h : RpAll K G us xs) : RpAll K (upd G p o) us xs := rpa_mono (Ex.new gp) h
theorem ed_tupR (h : EA F X ta δ Xp fun xs => ∃ ys, ToR xs ys ∧ ys.length ≤ 100000 ∧ P (DR (.tup ys))) : ED F X (tTup ta) δ Xp P := fun σ H G c Q q =>
  h σ H G c _ fun us xs H1 G1 s1 r1 ⟨ys, a, l, p⟩ =>
    have d := a.rp r1
    ⟨Evl.sz_of (by rw [rpa_len d]; exact l), fun z hz => q _ _ _ _ (s1.trans (stp_new s1.inv s1.gh hz)) (rv_dr.mpr (.tup (Evl.st_of upd_same) (upd_rpa (g_free s1.gh hz) d))) p⟩
theorem ed_lstR (h : EA F X ta δ Xp fun xs => ∃ ys, ToR xs ys ∧ ys.length ≤ 100000 ∧ P (DR (.lst ys))) : ED F X (tLst ta) δ Xp P := fun σ H G c Q q =>
  h σ H G c _ fun us xs H1 G1 s1 r1 ⟨ys, a, l, p⟩ =>
    have d := a.rp r1
    ⟨Evl.sz_of (by rw [rpa_len d]; exact l), fun z hz => q _ _ _ _ (s1.trans (stp_new s1.inv s1.gh hz)) (rv_dr.mpr (.lst (Evl.sq_of upd_same) (upd_rpa (g_free s1.gh hz) d))) p⟩
theorem r_fin {xs : List DV} {ys : List RD} {A : List RD → Prop} [t : ToR xs ys] (p : A ys) (l : ys.length ≤ 100000) : ∃ ys, ToR xs ys ∧ ys.length ≤ 100000 ∧ A ys := ⟨ys, t, l, p⟩
theorem rlst_of {G H : Hp} {xs : List RD} (g : Ex G (Rs F.S H)) {u : V} (h : RV F G H u (DR (.lst xs))) : ∃ p us, u = .ref p ∧ SqL F.K H p us ∧ RpAll F.K G us xs := by
  cases rv_dr.mp h with
  | lst hs ha => exact ⟨_, _, rfl, sqL_of g hs, ha⟩
theorem rtup_of {G H : Hp} {xs : List RD} (g : Ex G (Rs F.S H)) {u : V} (h : RV F G H u (DR (.tup xs))) : ∃ p us, u = .ref p ∧ SqT F.K H p us ∧ RpAll F.K G us xs := by
  cases rv_dr.mp h with
  | tup hs ha => exact ⟨_, _, rfl, sqT_of g hs, ha⟩
theorem d2_addR {xs ys : List RD} (p : P (DR (.lst (xs ++ ys)))) (hl : xs.length + ys.length ≤ 100000) : D2 F (rAddU F.K) (DR (.lst xs)) (DR (.lst ys)) P := D2.right (D2.right (D2.right fun u w H G iv g r1 r2 Q q => by
  obtain ⟨l, us, rfl, h1, a1⟩ := rlst_of g r1
  obtain ⟨b, ws, rfl, h2, a2⟩ := rlst_of g r2
  have e1 := rpa_len a1
  have e2 := rpa_len a2
  exact ⟨l, b, us, ws, rfl, rfl, h1, h2, Evl.sz_of (by omega), fun z hz => q _ _ _ _ (stp_new iv g hz) (rv_dr.mpr (.lst (Evl.sq_of upd_same) (upd_rpa (g_free g hz) (rpa_append a1 a2)))) p⟩))
theorem atI_rp {G : Hp} {us : List V} {xs : List RD} {i : Int} {x : RD} (a : RpAll F.K G us xs) (h : atI xs i = some x) : ∃ u, atI us i = some u ∧ Rp F.K G u x := by
  unfold atI at h ⊢
  rw [rpa_len a]
  cases e : ixN xs.length i with
  | none => rw [e] at h; cases h
  | some k =>
    rw [e] at h
    exact rpa_get a h
/-- a part as a value -/
def toV : RD → DV
  | .d x => .d x
  | x => DR x
theorem rv_toV {G H : Hp} {u : V} : ∀ {x : RD}, Rp F.K G u x → RV F G H u (toV x)
  | .d _, h => by
    cases h with
    | d h => exact h
  | .e _ _, h => h
  | .tup _, h => h
  | .lst _, h => h
theorem d2_ixRL {xs : List RD} {i : Int} {x : RD} (p : P (toV x)) (h : atI xs i = some x) : D2 F (rIx F.K) (DR (.lst xs)) (DI i) P := fun u w H G iv g r1 r2 Q q => by
  cases r2.dp
  obtain ⟨l, us, rfl, h1, a1⟩ := rlst_of g r1
  obtain ⟨z, hz, dz⟩ := atI_rp a1 h
  exact .inl ⟨l, us, i, z, rfl, rfl, h1, hz, q _ _ H G (Stp.refl iv g) (rv_toV dz) p⟩
theorem d2_ixRT {xs : List RD} {i : Int} {x : RD} (p : P (toV x)) (h : atI xs i = some x) : D2 F (rIx F.K) (DR (.tup xs)) (DI i) P := fun u w H G iv g r1 r2 Q q => by
  cases r2.dp
  obtain ⟨l, us, rfl, h1, a1⟩ := rtup_of g r1
  obtain ⟨z, hz, dz⟩ := atI_rp a1 h
  exact .inr (.inl ⟨l, us, i, z, rfl, rfl, h1, hz, q _ _ H G (Stp.refl iv g) (rv_toV dz) p⟩)
theorem dc_lenR {xs : List RD} (p : P (DI xs.length)) : DC F (rLenU F.K) [DR (.lst xs)] P := fun us H G iv g r Q q => by
  obtain ⟨u, rfl, r1⟩ := rv_one r
  obtain ⟨l, ws, rfl, h1, a1⟩ := rlst_of g r1
  refine ⟨_, ws.length, rfl, .inl ⟨ws, h1, rfl⟩, ?_⟩
  rw [rpa_len a1]
  exact q _ _ H G (Stp.refl iv g) (.d (.int _)) p
/-! ### a, b, .. = (..) -/
def DGr (F : Fm) (g : TGs) (xs : List RD) (δ : DSt) (N : DSt → Prop) : Prop := ∀ σ H G us, F.I H → Ex G (Rs F.S H) → SL F G H σ δ → RpAll F.K G us xs → ∀ Q : L2.St → Hp → Prop, (∀ σ' δ', SL F G H σ' δ' → N δ' → Q σ' H) → g us σ H Q
theorem dgr_nil {N : DSt → Prop} (k : N δ) : DGr F gNil [] δ N := fun σ H G us iv g l a Q q => by
  cases a
  exact ⟨rfl, q σ δ l k⟩
theorem dgr_cons {g : TG} {gs : TGs} {x : RD} {xs : List RD} {N : DSt → Prop} (h : DG F g (toV x) δ fun δ' => DGr F gs xs δ' N) : DGr F (gCons g gs) (x :: xs) δ N := fun σ H G us iv gg l a Q q => by
  cases a with
  | cons r t => exact ⟨_, _, rfl, h σ H G _ iv gg l (rv_toV r) _ fun σ' δ' l' k' => k' σ' H G _ iv gg l' t Q q⟩
theorem dg_tupR {gs : TGs} {n : Nat} {xs : List RD} {N : DSt → Prop} (hn : xs.length = n) (h : DGr F gs xs δ N) : DG F (gTup F.K n gs) (DR (.tup xs)) δ N := fun σ H G u iv g l r Q q => by
  obtain ⟨p, us, rfl, h1, a1⟩ := rtup_of g r
  exact ⟨p, us, rfl, h1, (rpa_len a1).trans hn, h σ H G us iv g l a1 Q q⟩
/-! ### error values -/
theorem rev_ev {fs : List Str} {us : List V} {ys : List PyData} {G : Hp} (l : us.length = fs.length) (a : DpAll K G us ys) :
    ((fs.zip us).reverse.map (·.1) = (fs.zip ys).reverse.map (·.1)) ∧ DpAll K G ((fs.zip us).reverse.map (·.2)) ((fs.zip ys).reverse.map (·.2)) := by
  have ly := dpa_len a
  rw [List.map_reverse, List.map_reverse, List.map_reverse, List.map_reverse, List.map_fst_zip (by omega), List.map_fst_zip (by omega), List.map_snd_zip (by omega), List.map_snd_zip (by omega)]
  refine ⟨rfl, ?_⟩
  have rev : ∀ {us : List V} {xs : List PyData}, DpAll K G us xs → DpAll K G us.reverse xs.reverse := by
    intro us
    induction us with
    | nil =>
      intro xs r
      cases r
      exact .nil
    | cons u us ih =>
      intro xs r
      cases r with
      | cons r t =>
        rw [List.reverse_cons, List.reverse_cons]
        exact dpa_append (ih t) (.cons r .nil)
  exact rev a
theorem ed_newX {C : Addr} {names : List Str} (hn : names.length ≤ 1000) (h : EA F X ta δ Xp fun xs => ∃ ys, toD xs = some ys ∧ ys.length = names.length ∧ P (DR (.e C (names.zip ys).reverse))) : ED F X (tNewX C (spInit C names) [] ta) δ Xp P := fun σ H G c Q q =>
  h σ H G c _ fun us xs H1 G1 s1 r1 ⟨ys, ad, l, p⟩ => by
    have da := AllD.dp r1 (allD_of ad)
    have lu := dpa_len da
    refine ⟨by omega, fun a ha => ?_⟩
    rw [List.append_nil]
    refine ⟨a, us, rfl, by omega, upd_same, fun dx hd hda H2 e1 e2 e3 => ⟨rfl, ?_⟩⟩
    rw [upd_ne hda] at hd
    have eq : H2 = upd (upd H1 a (exo a C (some dx))) dx (exd dx (names.zip us).reverse) := by
      funext b
      by_cases hb : b = dx
      · rw [hb, upd_same, e2]
      · rw [upd_ne hb]
        by_cases hba : b = a
        · rw [hba, upd_same, e1]
        · rw [upd_ne hba, e3 b hba hb, upd_ne hba]
    rw [eq]
    have t1 : Stp F G1 H1 _ _ := stp_new (o := exo a C (some dx)) s1.inv s1.gh ha
    have hd2 : upd H1 a (exo a C (some dx)) dx = none := by
      rw [upd_ne hda]
      exact hd
    have t2 : Stp F _ _ _ _ := stp_new (o := exd dx (names.zip us).reverse) t1.inv t1.gh hd2
    have e := t1.gg.trans t2.gg
    obtain ⟨n1, n2⟩ := rev_ev (K := F.K) (fs := names) (by omega) (dpa_mono e da)
    refine q _ _ _ _ (s1.trans (t1.trans t2)) (rv_dr.mpr (.e ⟨a, _, rfl, .inr ⟨dx, ?_, upd_same⟩, n1, n2⟩)) p
    rw [upd_ne (Ne.symm hda), upd_same]
theorem ed_new0 {C : Addr} (p : P (DR (.e C []))) : ED F X (fun _ H Q => ∀ a, H a = none → Q (.ref a) (upd H a (ExO (.ref C) a))) δ Xp P := fun σ H G c Q q a ha =>
  q _ _ _ _ (stp_new c.inv c.gh ha) (rv_dr.mpr (.e ⟨a, [], rfl, .inl ⟨rfl, upd_same⟩, rfl, .nil⟩)) p
theorem lookup_dp {G : Hp} {f : Str} : ∀ {fv : List (Str × V)} {fs : List (Str × PyData)} {x : PyData}, fv.map (·.1) = fs.map (·.1) → DpAll K G (fv.map (·.2)) (fs.map (·.2)) → fs.lookup f = some x → ∃ u, fv.lookup f = some u ∧ Dp K G u x
  | [], [], _, _, _, h => by cases h
  | (g, u) :: fv, (g', y) :: fs, x, e, r, h => by
    have e' : g = g' ∧ fv.map (·.1) = fs.map (·.1) := by simpa using e
    obtain ⟨rfl, e2⟩ := e'
    have r' : DpAll K G (u :: fv.map (·.2)) (y :: fs.map (·.2)) := r
    cases r' with
    | cons r1 r2 =>
      by_cases hf : f == g
      · have h' : some y = some x := by simpa [List.lookup, hf] using h
        cases h'
        exact ⟨u, by simp [List.lookup, hf], r1⟩
      · have hf' : (f == g) = false := by simpa using hf
        have h' : fs.lookup f = some x := by simpa [List.lookup, hf'] using h
        obtain ⟨w, h1, h2⟩ := lookup_dp e2 r2 h'
        exact ⟨w, by simp [List.lookup, hf', h1], h2⟩
  | [], _ :: _, _, e, _, _ => by simp at e
  | _ :: _, [], _, e, _, _ => by simp at e
theorem ed_xat {f : Str} (h : ED F X te δ Xp fun x => ∃ (C : Addr) (fs : List (Str × PyData)) (y : PyData), x = DR (.e C fs) ∧ fs.lookup f = some y ∧ P (.d y) ∧ XfC F.K C ∧ PySem.W.findIn F.K (.ref C) f = some none) : ED F X (tXat F.K f te) δ Xp P := fun σ H G c Q q =>
  h σ H G c _ fun u x H1 G1 s1 r1 ⟨C, fs, y, e, hl, p, T, nf⟩ => by
    subst e
    cases rv_dr.mp r1 with
    | e ev =>
      obtain ⟨a, fv, rfl, ev, e1, e2⟩ := ev
      obtain ⟨v, hv, rv⟩ := lookup_dp e1 e2 hl
      rcases ev with ⟨rfl, _⟩ | ⟨dx, h1, h2⟩
      · cases hv
      · have g := s1.gh.trans Rs.sub
        exact ⟨a, C, dx, fv, v, rfl, T, nf, g _ _ h1, g _ _ h2, hv, q v _ H1 G1 s1 (.d rv) p⟩
theorem dc_isV {C : Addr} {fs : List (Str × PyData)} {c : V} {u : Value} {b : Bool} (p : P (DB b)) (k : ClsV c u) (T : ExcC F.K C) (e : PySem.W.kitOne F.K (.ref C) u = some b) : DC F (rIsV F.K) [DR (.e C fs), .v c] P := fun us H G iv g r Q q => by
  obtain ⟨w, z, rfl, r1, r2⟩ := rv_two r
  obtain rfl : z = c := r2
  cases rv_dr.mp r1 with
  | e ev =>
    obtain ⟨a, fv, rfl, ev, e1, e2⟩ := ev
    exact ⟨a, C, fv, z, u, b, rfl, k, ev_mono (g.trans Rs.sub) ev, T, e, q _ _ H G (Stp.refl iv g) (.d (.bl b)) p⟩
theorem dc_isD {a d D : Addr} {fs : List (Str × PyData)} {c : V} {u : Value} {b : Bool} (p : P (DB b)) (k : ClsV c u) (T : ExcC F.K D) (e : PySem.W.kitOne F.K (.ref D) u = some b) : DC F (rIsD F.K a (.ref D) (some d)) [.x a d fs, .v c] P := fun us H G iv g r Q q => by
  obtain ⟨w, z, rfl, r1, r2⟩ := rv_two r
  obtain rfl : z = c := r2
  obtain ⟨rfl, fv, hd, _, _⟩ := r1
  exact ⟨D, d, fv, z, u, b, rfl, rfl, rfl, (g.trans Rs.sub) _ _ hd, T, k, e, q _ _ H G (Stp.refl iv g) (.d (.bl b)) p⟩
end
/-! ### try: raise C(..), several clauses -/
section
variable {F : Fm} {X : XK} {δ : DSt} {Xp : XP} {E : DE} {ta : TA}
/-- what makes an error of the class C with these fields -/
def DMk (F : Fm) (X : XK) (mk : L2.St → Hp → XK → Prop) (δ : DSt) (Xp : XP) (C : Addr) (fs : List (Str × PyData)) : Prop := ∀ σ H G, Cur F (fun _ => X) G H σ δ Xp → ∀ Q : XK,
  (∀ d fv H' G', Stp F G H G' H' → G' d = some (.xd fv) → fv.map (·.1) = fs.map (·.1) → DpAll F.K G' (fv.map (·.2)) (fs.map (·.2)) → Q (.ref C) (some d) H') → mk σ H Q
theorem mk_step {G1 H1 H2 : Hp} {a C dx : Addr} {us : List V} {names : List Str} (iv : F.I H1) (g : Ex G1 (Rs F.S H1)) (ha : H1 a = none) (hd : upd H1 a (exo a C none) dx = none) (hda : dx ≠ a) (e3 : ∀ b, b ≠ a → b ≠ dx → H2 b = upd H1 a (exo a C none) b) :
    H1 dx = none ∧ upd (del H2 a) dx (.xd (names.zip us).reverse) = upd H1 dx (.xd (names.zip us).reverse) ∧ Stp F G1 H1 (upd G1 dx (.xd (names.zip us).reverse)) (upd H1 dx (.xd (names.zip us).reverse)) := by
  rw [upd_ne hda] at hd
  refine ⟨hd, ?_, stp_new iv g hd⟩
  funext b
  by_cases hb : b = dx
  · rw [hb, upd_same, upd_same]
  · rw [upd_ne hb, upd_ne hb]
    by_cases hba : b = a
    · rw [hba, del_same, ha]
    · rw [del_ne hba, e3 b hba hb, upd_ne hba]
theorem dmk_o {C : Addr} {names : List Str} {ys : List PyData} (hn : names.length ≤ 1000) (h : EA F (fun _ => X) ta δ Xp fun xs => toD xs = some ys ∧ ys.length = names.length) : DMk F X (tMkO C (spInit C names) [] ta) δ Xp C (names.zip ys).reverse := fun σ H G c Q q =>
  h σ H G c _ fun us xs H1 G1 s1 r1 ⟨ad, l⟩ => by
    have da := AllD.dp r1 (allD_of ad)
    have lu := dpa_len da
    refine ⟨by omega, fun a ha => ?_⟩
    rw [List.append_nil]
    refine ⟨a, us, rfl, by omega, upd_same, fun dx hd hda H2 e1 e2 e3 => ?_⟩
    obtain ⟨hd1, eq, s2⟩ := mk_step (F := F) (names := names) (us := us) s1.inv s1.gh ha hd hda e3
    refine ⟨rfl, dx, _, e1, e2, hd1, ?_⟩
    rw [eq]
    obtain ⟨n1, n2⟩ := rev_ev (K := F.K) (fs := names) (by omega) (dpa_mono s2.gg da)
    exact q dx _ _ _ (s1.trans s2) upd_same n1 n2
theorem dmk_k {C : Addr} {m : Nat} {names : List Str} {ys : List PyData} {gV : List V → List V → List V} (pV : List V → List V) (pD : List PyData → List PyData) (hg : ∀ a zs, gV [.ref a] zs = .ref a :: pV zs)
    (hp : ∀ {K : PySem.W.Frag} {G : Hp} {us : List V} {xs : List PyData}, DpAll K G us xs → DpAll K G (pV us) (pD xs)) (hl : (pD ys).length = names.length)
    (h : EA F (fun _ => X) ta δ Xp fun xs => toD xs = some ys ∧ ys.length = m) : DMk F X (tMkK C m (spInit C names) gV ta) δ Xp C (names.zip (pD ys)).reverse := fun σ H G c Q q =>
  h σ H G c _ fun us xs H1 G1 s1 r1 ⟨ad, l⟩ => by
    have da := AllD.dp r1 (allD_of ad)
    have dp := hp da
    have lu := dpa_len da
    have lp := dpa_len dp
    refine ⟨by omega, fun a ha => ?_⟩
    rw [hg]
    refine ⟨a, pV us, rfl, by omega, upd_same, fun dx hd hda H2 e1 e2 e3 => ?_⟩
    obtain ⟨hd1, eq, s2⟩ := mk_step (F := F) (names := names) (us := pV us) s1.inv s1.gh ha hd hda e3
    refine ⟨rfl, dx, _, e1, e2, hd1, ?_⟩
    rw [eq]
    obtain ⟨n1, n2⟩ := rev_ev (K := F.K) (fs := names) (by omega) (dpa_mono s2.gg dp)
    exact q dx _ _ _ (s1.trans s2) upd_same n1 n2
/-- which clause takes it, and what its suite does -/
def Sel (F : Fm) (X : XK) (δ : DSt) (Xp : XP) (E : DE) (C : Addr) (fs : List (Str × PyData)) : List Cl → Prop
  | [] => False
  | c :: r => ∃ b, PySem.W.exmOne F.K (.ref C) c.cls = some b ∧ if b = true then
      (∀ a d, match c.slot with
        | none => WS F X (c.run a (.ref C) (some d)) δ Xp E
        | some i => WS F X (c.run a (.ref C) (some d)) (δ.set i (some (.x a d fs))) Xp { nx := fun δ' => E.nx (δ'.set i none), rt := E.rt, bk := fun δ' => E.bk (δ'.set i none), ct := fun δ' => E.ct (δ'.set i none) })
      else Sel F X δ Xp E C fs r
theorem sel_run {C : Addr} {fs : List (Str × PyData)} {Wout : WX} {B : Bs} {σ : L2.St} {H' G' : Hp} {D : Ends} {d : Addr} {fv : List (Str × V)} (w : Way F X B G' H' σ δ Xp) (s : Sat F B E D) (hd : G' d = some (.xd fv)) (hn : fv.map (·.1) = fs.map (·.1)) (ha : DpAll F.K G' (fv.map (·.2)) (fs.map (·.2))) :
    ∀ cs : List Cl, Sel F X δ Xp E C fs cs → wCls F.K Wout D cs (.ref C) (some d) σ H'
  | [], h => h.elim
  | c :: r, ⟨b, e, h⟩ => by
    refine ⟨b, e, fun hb a na => ?_, fun hb => ?_⟩
    · subst hb
      have h1 := h a d
      obtain ⟨cc, sl, rn⟩ := c
      cases sl with
      | none => exact h1 B σ H' G' D w s
      | some i =>
        have rx : RV F G' H' (.ref a) (.x a d fs) := ⟨rfl, fv, hd, hn, ha⟩
        refine h1 B (σ.set i (some (.ref a))) H' G' _ (w.go (Stp.refl w.st.st.inv w.st.st.gh) (sl_set w.sl (x := .x a d fs) trivial rx)) ?_
        exact ⟨fun σ' δ' H2 G2 r2 l2 p => s.nx _ _ H2 G2 r2 (sl_wipe1 l2) p, s.rt, fun σ' δ' H2 G2 r2 l2 p => s.bk _ _ H2 G2 r2 (sl_wipe1 l2) p, fun σ' δ' H2 G2 r2 l2 p => s.ct _ _ H2 G2 r2 (sl_wipe1 l2) p⟩
    · subst hb
      exact sel_run w s hd hn ha r h
theorem ws_tryC {cs : List Cl} {Wout : WX} {mk : L2.St → Hp → XK → Prop} {C : Addr} {fs : List (Str × PyData)} (hm : DMk F X mk δ Xp C fs) (hs : Sel F X δ Xp E C fs cs) : WS F X (fun D σ H => tRz (wCls F.K Wout D cs) mk D σ H) δ Xp E := fun B σ H G D w s =>
  hm σ H G w.cur _ fun d fv H' G' st hd hn ha => sel_run (w.go st (w.sl.step st)) s hd hn ha cs hs
end
end DL

namespace DL
open PySem PySem.Spec PyProof.Rows L2
/-! ### an __init__ of two fields -/
theorem init_ok2 {K : PySem.W.Frag} {C : Addr} {f1 f2 g g1 g2 : Str} {vs : List V} {H : Hp} {Q : VK} {E : XK} (o : OexC K C) (n1 : PySem.W.findIn K (.ref C) f1 = some none) (n2 : PySem.W.findIn K (.ref C) f2 = some none) (h : DL.spInit C [f1, f2] vs H Q E) :
    tSeq (tOst K f1 (tVar 0) (tVar 1)) (tOst K f2 (tVar 0) (tVar 2)) { nx := fun _ H' => Q .non H', rt := Q } (L2.start [g, g1, g2] vs) H := by
  obtain ⟨a, ys, rfl, l, ha, q⟩ := h
  match ys, l with
  | [y1, y2], _ =>
    show tSeq (tOst K f1 (tVar 0) (tVar 1)) (tOst K f2 (tVar 0) (tVar 2)) _ [some (.ref a), some y1, some y2] H
    refine ⟨y1, rfl, .ref a, rfl, a, C, rfl, o, n1, .inl ⟨ha, fun dx h1 h2 => ?_⟩⟩
    refine ⟨y2, rfl, .ref a, rfl, a, C, rfl, o, n2, .inr ⟨dx, [(f1, y1)], upd_same, ?_, Nat.le_of_ble_eq_true rfl, q dx h1 h2 _ ?_ ?_ fun b hb hd => ?_⟩⟩
    · rw [upd_ne h2, upd_same]
    · rw [upd_ne (Ne.symm h2), upd_same]
    · rw [upd_same] <;> rfl
    · rw [upd_ne hd, upd_ne hb, upd_ne hd]
end DL
namespace DLH
open PySem PySem.Spec PyProof.Rows L2 He
/-- the same class, made by keywords alone -/
structure FnIk (P : Program) (w : World) (K : PySem.W.Frag) (mg : Str → Option Value) (base : Heap) (k : Nat) (x : Str) (names ks : List Str) (gV : List V → List V → List V) : Prop where
  cls : OexC K (ga K x)
  ini : PySem.W.findIn K (.ref (ga K x)) "__init__" = some (some (.ref (ma K (ga K x) "__init__")))
  ty : PySem.W.typeIn K (.ref (ma K (ga K x) "__init__")) = some (.type "function")
  gm : mg x = some (.ref (ga K x))
  ex : ∃ fd g, FnOk P w K mg base CX0 k (ma K (ga K x) "__init__") fd ("self" :: names) (DL.spInit (ga K x) names) ∧ KBn K fd ("self" :: names) 1 ks g gV
section
variable {X : Cx} {k : Nat} {x : Str} {p pos : Pos} {e : Expr} {es : List Expr} {t : TA}
theorem pe_newXF {names : List Str} (R : FnI X.prog X.w X.K X.mg X.base k x names) (hr : Room (k + 1) X.A) (ha : PA X (e :: es) t) (hg : Gl X x := by rfl) (hdb : (x == ("__debug__" : Str)) = false := by decide)
    (he : starEach (e :: es) X.env = (false, eval e X.env) :: starEach es X.env := by rfl) (hpl : (backTo pos (starEach es X.env)).any (·.1) = false := by rfl) :
    PE X (.Call (.Name x p) (e :: es) [] pos) (tNewX (ga X.K x) (DL.spInit (ga X.K x) names) [] t) := by
  obtain ⟨fd, F, b⟩ := R.ex
  exact pe_newX (CX := CX0) R.cls R.ini R.ty F hr b .nil pass0 hg R.gm ha hdb he hpl
theorem pmk_kwF {names ks : List Str} {gV : List V → List V → List V} {kws : List Keyword} {tk : TA} (R : FnIk X.prog X.w X.K X.mg X.base k x names ks gV) (hr : Room (k + 1) X.A) (hk : PK X kws tk) (hg : Gl X x := by rfl)
    (hall : (backToKw pos (keywordEach kws X.env)).all (·.1.isSome) = true := by rfl) (hks : (backToKw pos (keywordEach kws X.env)).filterMap (·.1) = ks := by rfl) (hdb : (x == ("__debug__" : Str)) = false := by decide)
    (hpl : ((backTo pos (starEach [] X.env)).any (·.1) || (backToKw pos (keywordEach kws X.env)).any (·.1.isNone)) = false := by rfl) :
    PMk X (.Call (.Name x p) [] kws pos) (tMkK (ga X.K x) ks.length (DL.spInit (ga X.K x) names) gV tk) := by
  obtain ⟨fd, g, F, b⟩ := R.ex
  exact pmk_kw (CX := CX0) R.cls R.ini R.ty F hr b pass0 hg R.gm hk hdb hall hks hpl
end
def excB (K : PySem.W.Frag) (D : Addr) : Bool := decide (PySem.W.findIn K (.ref D) "__getattribute__" = some (some (.builtin "BaseException.__getattribute__"))) && (decide (PySem.W.findIn K (.ref D) "__getattr__" = some none) && (decide (PySem.W.subIn K (.ref D) (.type "BaseException") = some true) &&
  (PySem.W.hasDictIn K D && (decide (PySem.W.findIn K (.ref D) "__class__" = some (some (.builtin "object.__class__"))) && (decide (PySem.W.specialIn K (.builtin "object.__class__") "__get__" = some (some (.builtin "getset_descriptor.__get__"))) &&
  (decide (PySem.W.takesIn K (.builtin "object.__class__") = some true) && decide (PySem.W.mroIn K D (.type "object") = some true)))))))
theorem excB_ok {K : PySem.W.Frag} {D : Addr} (h : excB K D = true) : ExcC K D := by
  unfold excB at h
  simp only [Bool.and_eq_true, decide_eq_true_eq] at h
  obtain ⟨h1, h2, h3, h4, h5, h6, h7, h8⟩ := h
  exact ⟨h1, h2, h3, h4, h5, h6, h7, h8⟩
end DLH
namespace L2
open PySem
abbrev tNew0 (C : Addr) : TE := fun _ H Q => ∀ a, H a = none → Q (.ref a) (upd H a (ExO (.ref C) a))
end L2
namespace DL
open PySem L2
open Evl (Ex Ex.refl Ex.trans Ex.new)
/-! ### a def that draws from the hand and gives data -/
def spG (K : PySem.W.Frag) (n : Nat) (T : List Int → (PyData → Prop) → Prop) : Sp := fun vs H Q _ => ∃ (h : Hd) (is : List Int) (P : PyData → Prop), Hnd h H ∧ vs = .ref h.ph :: is.map V.int ∧ is.length = n ∧ T is P ∧
  ∀ u x H' G', Off h.ph H H' → Hnd h H' → Ex G' H' → (∀ b, H b ≠ none → G' b = none) → Dp K G' u x → P x → Q u H'
/-- two heaps, the first one first -/
def both (G G' : Hp) : Hp := fun b => match G b with
  | some o => some o
  | none => G' b
theorem both_none {G G' : Hp} {b : Addr} (h : G b = none) : both G G' b = G' b := by
  unfold both
  rw [h]
theorem both_some {G G' : Hp} {b : Addr} {o : HO} (h : G b = some o) : both G G' b = some o := by
  unfold both
  rw [h]
section
variable {K : PySem.W.Frag} {H0 : Hp} {h : Hd} {a0 : H0 h.ph ≠ none} {b0 : H0 h.l0 ≠ none} {X : XW} {δ : DSt} {Xp : XP} {P : DV → Prop}
theorem ed_handG {n : Nat} {T : List Int → (PyData → Prop) → Prop} {E : XK} {ta : TA} (ht : EA (FH K H0 h a0 b0) X ta δ Xp fun xs => ∃ is : List Int, xs = .v (.ref h.ph) :: is.map DI ∧ is.length = n ∧ T is fun x => P (.d x)) : ED (FH K H0 h a0 b0) X (tCall (spG K n T) [] E ta) δ Xp P := fun σ H G c Q q =>
  ht σ H G c _ fun us xs H1 G1 s1 r1 ⟨is, e, l, t⟩ => by
    subst e
    have eu : us = .ref h.ph :: is.map V.int := by
      cases us with
      | nil => exact r1.elim
      | cons u us =>
        obtain ⟨r, r2⟩ := r1
        obtain rfl : u = .ref h.ph := r
        rw [rvs_ints r2]
    subst eu
    refine ⟨h, is, _, s1.inv.2, by rw [List.append_nil], l, t, fun u x H' G' o k g nw d p => ?_⟩
    have s2 : Stp (FH K H0 h a0 b0) G1 H1 G1 H' := fh_stp s1.inv s1.gh o k
    have live : ∀ {b : Addr} {o : HO}, G' b = some o → H1 b = none := fun {b o} e => by
      cases e1 : H1 b with
      | none => rfl
      | some z =>
        have e2 := nw b (by rw [e1]; exact fun z => by cases z)
        rw [e] at e2
        cases e2
    have free : ∀ {b : Addr}, H1 b = none → G1 b = none := fun {b} e => g_free s1.gh e
    have s3 : Stp (FH K H0 h a0 b0) G1 H1 (both G1 G') H' := by
      refine ⟨fun b o e => both_some e, fun b o e => ?_, fun b hb gb => ?_, s2.hh, s2.inv⟩
      · cases e1 : G1 b with
        | some z =>
          rw [both_some e1] at e
          exact s2.gh b o (e1.trans e)
        | none =>
          rw [both_none e1] at e
          have n1 := live e
          have ne : b ≠ h.ph := fun z => by
            obtain ⟨p, q, r, s, e2, _⟩ := s1.inv.2.ex
            rw [z, e2] at n1
            cases n1
          rw [rs_ne (show decide (b = h.ph) = false from decide_eq_false ne)]
          exact g b o e
      · rw [both_none gb]
        exact nw b hb
    refine q u (.d x) H' (both G1 G') (s1.trans s3) ?_ p
    exact dp_mono (fun b o e => by rw [both_none (free (live e))]; exact e) d
theorem pure_G {n m : Nat} {T : List Int → (PyData → Prop) → Prop} {N : List Str} {vs : List V} {H : Hp} {Q : VK} {E : XK} {t : TS} (hs : spG K n T vs H Q E) (hm : N.length = n + 1 + m)
    (w : ∀ (H0 : Hp) (h : Hd) (a0 : H0 h.ph ≠ none) (b0 : H0 h.l0 ≠ none) (is : List Int) (P : PyData → Prop), is.length = n → T is P → WS (FH K H0 h a0 b0) E t (startD m (.v (.ref h.ph) :: is.map DI)) X0 { nx := fun _ => False, rt := fun z => ∃ x, z = .d x ∧ P x }) : t { nx := fun _ H' => Q .non H', rt := Q } (L2.start N vs) H := by
  obtain ⟨h, is, P, hh, rfl, l, ht, q⟩ := hs
  have a0 : H h.ph ≠ none := by
    obtain ⟨p, q, r, s, e, _⟩ := hh.ex
    rw [e]
    exact fun z => by cases z
  have b0 : H h.l0 ≠ none := by
    rw [hh.l]
    exact fun z => by cases z
  have g0 : Ex (fun _ => none) (Rs (FH K H h a0 b0).S H) := fun _ _ z => by cases z
  have iv : (FH K H h a0 b0).I H := ⟨fun _ z => z, hh⟩
  have pl : Plains (.v (.ref h.ph) :: is.map DI) := plains_v (fun x hx => by
    obtain ⟨i, _, rfl⟩ := List.mem_map.mp hx
    trivial)
  have r : RVs (FH K H h a0 b0) (fun _ => none) H (.ref h.ph :: is.map V.int) (.v (.ref h.ph) :: is.map DI) := ⟨rfl, rvs_of_ints⟩
  refine w H h a0 b0 is P l ht ⟨fun _ => none, H, fun _ => none⟩ _ H (fun _ => none) _ ⟨fun _ z => z, ⟨Stp.refl iv g0, Ex.refl _⟩, sl_start r pl (by rw [List.length_cons, List.length_map, l]; exact hm), fun _ _ _ _ _ z => z.elim⟩ ?_
  refine ⟨fun _ _ _ _ _ _ z => z.elim, fun u x H' G' r' rv ⟨x', e, p⟩ => ?_, fun _ _ _ _ _ _ z => z.elim, fun _ _ _ _ _ _ z => z.elim⟩
  subst e
  refine q u x' H' G' (fun b o nb hb => ?_) r'.st.inv.2 (r'.st.gh.trans Rs.sub) (fun b hb => r'.st.nw b hb rfl) rv.dp p
  have := r'.st.hh b o (by unfold Rs; rw [if_neg (by simpa using nb)]; exact hb)
  exact Rs.sub _ _ this
end
/-- a sign of a text -/
theorem d2_ixSx {F : Fm} {P : DV → Prop} {s : Str} {i : Int} (p : ∀ c, P (DS ⟨#[c]⟩)) (h0 : 0 ≤ i) (h1 : i < s.length) (hl : s.length ≤ 100000) : D2 F (rIx F.K) (DS s) (DI i) P := by
  have hs : s.cps.toList.length = s.length := rfl
  have : ∃ c, atI s.cps.toList i = some c := by
    unfold atI ixN
    rw [if_pos h0, hs, if_pos (by omega)]
    exact ⟨s.cps.toList[i.toNat]'(by rw [hs]; omega), List.getElem?_eq_getElem _⟩
  obtain ⟨c, hc⟩ := this
  exact d2_ixS hl hc (p c)
end DL

namespace NF
open PySem L2 DL
local macro_rules | `(tactic| walk_at "dl-call") => `(tactic| fail)
local macro_rules | `(tactic| walk_at "dl-pl") => `(tactic| (repeat' (first | exact plains_nil | refine plains_cons trivial ?_)))
local macro_rules | `(tactic| walk_at "dl-ws") => `(tactic| first
  | with_reducible refine ws_seq ?_
  | with_reducible refine ws_asg ?_
  | with_reducible refine ws_ret ?_
  | with_reducible refine ws_if ?_
  | with_reducible refine ws_next ?_
  | with_reducible refine ws_asgG ?_
  | with_reducible refine ws_par ?_
  | with_reducible refine ws_drop ?_
  | with_reducible refine ws_brk ?_)
local macro_rules | `(tactic| walk_at "dl-ed") => `(tactic| first
  | with_reducible refine ed_var rfl ?_
  | with_reducible refine ed_int ?_
  | with_reducible refine ed_op ?_
  | with_reducible refine ed_call ?_
  | with_reducible refine ed_tup ?_
  | with_reducible refine ed_cb ?_
  | with_reducible refine ed_un ?_
  | with_reducible refine ed_lst ?_
  | with_reducible refine ed_str ?_
  | with_reducible refine ed_bl ?_
  | with_reducible refine ed_non ?_
  | with_reducible refine ed_if ?_
  | with_reducible refine ed_andV ?_
  | with_reducible refine ed_orV ?_
  | with_reducible refine ed_notV ?_
  | with_reducible refine ed_ref ?_
  | with_reducible refine ed_ty ?_
  | with_reducible refine ed_fmtI' ?_
  | with_reducible refine ed_joined ?_)
local macro_rules | `(tactic| walk_at "dl-ea") => `(tactic| first
  | with_reducible refine ea_cons ?_
  | with_reducible refine ea_nil ?_)
local macro_rules | `(tactic| walk_at "dl-et") => `(tactic| first
  | with_reducible refine et_tst ?_
  | with_reducible refine et_b ?_
  | with_reducible refine et_and ?_
  | with_reducible refine et_or ?_
  | with_reducible refine et_not ?_
  | with_reducible refine et_yes ?_)
local macro_rules | `(tactic| walk_at "dl-d2") => `(tactic| first
  | with_reducible refine d2_add ?_
  | with_reducible refine d2_ixT rfl ?_
  | with_reducible refine d2_ixL rfl ?_
  | with_reducible refine d2_eqI ?_
  | with_reducible refine d2_neI ?_
  | with_reducible refine d2_lt ?_
  | with_reducible refine d2_le ?_
  | with_reducible refine d2_gt ?_
  | with_reducible refine d2_ge ?_
  | with_reducible refine d2_sub ?_
  | with_reducible refine d2_mulS' ?_ ?_
  | with_reducible refine d2_div' ?_ ?_
  | with_reducible refine d2_mod' ?_ ?_
  | with_reducible refine d2_isN_i ?_
  | with_reducible refine d2_isNN_i ?_
  | with_reducible refine d2_isN_b ?_
  | with_reducible refine d2_isNN_b ?_
  | with_reducible refine d2_isN_n ?_
  | with_reducible refine d2_isNN_n ?_
  | with_reducible refine d2_isN_s ?_
  | with_reducible refine d2_isNN_s ?_
  | with_reducible refine d2_isN_l ?_
  | with_reducible refine d2_isNN_l ?_
  | with_reducible refine d2_isN_t ?_
  | with_reducible refine d2_isNN_t ?_
  | with_reducible refine d2_isB ?_
  | with_reducible refine d2_isNB ?_
  | with_reducible refine d2_addS' ?_ ?_
  | with_reducible refine d2_addL' ?_ ?_
  | with_reducible refine d2_isN ?_
  | with_reducible refine d2_isNN ?_)
local macro_rules | `(tactic| walk_at "dl-isi") => `(tactic| first
  | with_reducible refine dc_isi_i_int ?_
  | with_reducible refine dc_isi_i_bool ?_
  | with_reducible refine dc_isi_i_str ?_
  | with_reducible refine dc_isi_i_list ?_
  | with_reducible refine dc_isi_i_tuple ?_
  | with_reducible refine dc_isi_b_int ?_
  | with_reducible refine dc_isi_b_bool ?_
  | with_reducible refine dc_isi_b_str ?_
  | with_reducible refine dc_isi_b_list ?_
  | with_reducible refine dc_isi_b_tuple ?_
  | with_reducible refine dc_isi_n_int ?_
  | with_reducible refine dc_isi_n_bool ?_
  | with_reducible refine dc_isi_n_str ?_
  | with_reducible refine dc_isi_n_list ?_
  | with_reducible refine dc_isi_n_tuple ?_
  | with_reducible refine dc_isi_s_int ?_
  | with_reducible refine dc_isi_s_bool ?_
  | with_reducible refine dc_isi_s_str ?_
  | with_reducible refine dc_isi_s_list ?_
  | with_reducible refine dc_isi_s_tuple ?_
  | with_reducible refine dc_isi_l_int ?_
  | with_reducible refine dc_isi_l_bool ?_
  | with_reducible refine dc_isi_l_str ?_
  | with_reducible refine dc_isi_l_list ?_
  | with_reducible refine dc_isi_l_tuple ?_
  | with_reducible refine dc_isi_t_int ?_
  | with_reducible refine dc_isi_t_bool ?_
  | with_reducible refine dc_isi_t_str ?_
  | with_reducible refine dc_isi_t_list ?_
  | with_reducible refine dc_isi_t_tuple ?_
  | with_reducible refine dc_isi_d_int ?_
  | with_reducible refine dc_isi_d_bool ?_
  | with_reducible refine dc_isi_d_str ?_
  | with_reducible refine dc_isi_d_list ?_
  | with_reducible refine dc_isi_d_tuple ?_)
local macro_rules | `(tactic| walk_at "dl-dc") => `(tactic| first
  | with_reducible refine dc_int ?_
  | with_reducible refine dc_abs ?_
  | with_reducible refine dc_gcd ?_
  | with_reducible refine dc_lenT ?_
  | with_reducible refine dc_lenL ?_
  | with_reducible refine dc_strI' ?_ ?_
  | walk_at "dl-isi")
local macro_rules | `(tactic| walk_at "dl1") => `(tactic| first
  | (with_reducible show ED _ _ _ _ _ _; walk_at "dl-ed")
  | (with_reducible show WS _ _ _ _ _ _; walk_at "dl-ws")
  | (with_reducible show EA _ _ _ _ _ _; walk_at "dl-ea")
  | (with_reducible show D2 _ _ _ _ _; walk_at "dl-d2")
  | (with_reducible refine ⟨_, rfl, ?_⟩)
  | (with_reducible show ET _ _ _ _ _ _; walk_at "dl-et")
  | (with_reducible show DC _ _ _ _; walk_at "dl-dc")
  | with_reducible refine if_t ?_
  | with_reducible refine if_f ?_
  | with_reducible refine if_nt ?_
  | with_reducible refine if_nf ?_
  | with_reducible refine and_pl ?_
  | (with_reducible refine if_dec (fun _ => ?_) (fun _ => ?_))
  | (with_reducible refine if_ndec (fun _ => ?_) (fun _ => ?_))
  | (with_reducible refine if_bool (fun _ => ?_) (fun _ => ?_))
  | with_reducible refine d1_neg ?_
  | (refine tup_fin (by rfl) ?_ (Nat.le_of_ble_eq_true rfl))
  | (refine lst_fin (by rfl) ?_ (Nat.le_of_ble_eq_true rfl))
  | (with_reducible refine ⟨rfl, (by repeat (first | exact plains_nil | refine plains_d ?_ | refine plains_v ?_)), ?_⟩; walk_at "dl-call")
  | with_reducible refine and_plv ?_
  | with_reducible refine ej_cons ?_
  | with_reducible refine ej_nil ?_
  | (dsimp only [List.set]))
local macro_rules | `(tactic| walk_at "dl") => `(tactic| (walk_at "dl1" <;> try (walk_at "dl")))

/-! ## ratios -/
abbrev Rt := Int × Int
abbrev rt (p : Rt) : PyData := .tuple [.int p.1, .int p.2]
def low (t b : Int) : Rt := (t / ((Nat.gcd t.natAbs b.natAbs : Nat) : Int), b / ((Nat.gcd t.natAbs b.natAbs : Nat) : Int))
def T_lowest_terms : TD := fun ds Xp P => ∃ t b : Int, ds = [DI t, DI b] ∧ P (.d (rt (low t b))) ∧ 0 < b ∧ b.natAbs < 2 ^ 8000
abbrev sp_lowest_terms (K : PySem.W.Frag) : Sp := spT K 2 T_lowest_terms
theorem u_lowest_terms {t b : Int} {Xp : XP} {P : DV → Prop} (p : P (.d (rt (low t b)))) (hb : 0 < b) (hz : b.natAbs < 2 ^ 8000) : T_lowest_terms [DI t, DI b] Xp P := ⟨t, b, rfl, p, hb, hz⟩
def t_lowest_terms (K : PySem.W.Frag) : TS := tSeq (tAsg (tCB rGcd (tCons (tVar 0) (tCons (tVar 1) (tNil)))) (gName 2)) (tSeq (tIfS (tTest (tOp (rEqD K) (tVar 2) (tC (.int 1)))) (tRet (tTup (tCons (tVar 0) (tCons (tVar 1) (tNil))))) (tNext)) (tRet (tTup (tCons (tOp (rDivU) (tVar 0) (tVar 2)) (tCons (tOp (rDivU) (tVar 1) (tVar 2)) (tNil))))))
theorem w_lowest_terms (F : Fm) (X : XK) (ds : List DV) (Xp : XP) (P : DV → Prop) (h : T_lowest_terms ds Xp P) : WS F X (t_lowest_terms F.K) (startD 1 ds) Xp { nx := fun _ => P DN, rt := P } := by
  obtain ⟨t, b, rfl, hP, hb, hz⟩ := h
  show WS F X _ [some (DI t), some (DI b), none] Xp _
  unfold t_lowest_terms
  have hg : 0 < Nat.gcd t.natAbs b.natAbs := Nat.gcd_pos_of_pos_right _ (by omega)
  have hle : Nat.gcd t.natAbs b.natAbs ≤ b.natAbs := Nat.gcd_le_right _ (by omega)
  walk_at "dl"
  · rename_i h1
    have e : low t b = (t, b) := by unfold low; rw [h1, Int.ediv_one, Int.ediv_one]
    rw [e] at hP
    exact hP
  · exact hP
  · exact cdiv_of (b := 8000) (by omega) (by omega)
  · exact cdiv_of (b := 8000) (by omega) (by omega)
local macro_rules | `(tactic| walk_at "dl-call") => `(tactic| first | refine u_lowest_terms ?_ ?_ ?_ | fail)
theorem fin {P : DV → Prop} {x y : DV} (h : P x) (e : x = y) : P y := e ▸ h
/-! whole numbers -/
def isWh : PyData → Option Int → Option Int → Bool
  | .int i, lo, hi => lo.all (fun l => decide (l ≤ i)) && hi.all (fun h => decide (i ≤ h))
  | _, _, _ => false
def optD : Option Int → DV
  | none => DN
  | some i => DI i
def T_is_whole : TD := fun ds Xp P => ∃ (x : PyData) (lo hi : Option Int), ds = [.d x, optD lo, optD hi] ∧ P (DB (isWh x lo hi))
abbrev sp_is_whole (K : PySem.W.Frag) : Sp := spT K 3 T_is_whole
def t_is_whole (K : PySem.W.Frag) : TS := tSeq (tIfS (tOr (tNot (tB (tCB (rIsi K) (tCons (tVar 0) (tCons (tC (.ty "int")) (tNil)))))) (tB (tCB (rIsi K) (tCons (tVar 0) (tCons (tC (.ty "bool")) (tNil)))))) (tRet (tC (.bl false))) (tNext)) (tRet (tAndV (tOrV (tOp (rIsU) (tVar 1) (tC .non)) (tOp (rGeU) (tVar 0) (tVar 1))) (tOrV (tOp (rIsU) (tVar 2) (tC .non)) (tOp (rLeU) (tVar 0) (tVar 2)))))
theorem w_is_whole (F : Fm) (X : XK) (ds : List DV) (Xp : XP) (P : DV → Prop) (h : T_is_whole ds Xp P) : WS F X (t_is_whole F.K) (startD 0 ds) Xp { nx := fun _ => P DN, rt := P } := by
  obtain ⟨x, lo, hi, rfl, hP⟩ := h
  show WS F X _ [some (.d x), some (optD lo), some (optD hi)] Xp _
  unfold t_is_whole
  cases x with
  | int i =>
    cases lo with
    | none =>
      cases hi with
      | none => simp only [optD]; walk_at "dl"; exact hP
      | some h => simp only [optD]; walk_at "dl"; exact hP
    | some l =>
      cases hi with
      | none =>
        simp only [optD]
        walk_at "dl" <;> refine fin hP ?_ <;> simp [isWh] <;> omega
      | some h =>
        simp only [optD]
        walk_at "dl" <;> refine fin hP ?_ <;> simp [isWh] <;> omega
  | none => walk_at "dl"; exact hP
  | bool b => walk_at "dl"; exact hP
  | str s => walk_at "dl"; exact hP
  | list xs => walk_at "dl"; exact hP
  | tuple xs => walk_at "dl"; exact hP
  | dict xs => walk_at "dl"; exact hP
/-- the calls of is_whole with one, two arguments -/
theorem ed_wh1 {F : Fm} {X : XW} {δ : DSt} {Xp : XP} {P : DV → Prop} {E : XK} {ta : TA} (h : EA F X ta δ Xp fun xs => ∃ x, xs = [.d x] ∧ P (DB (isWh x none none))) : ED F X (tCall (sp_is_whole F.K) [.non, .non] E ta) δ Xp P :=
  ed_callD (dds := [DN, DN]) (fun _ _ _ _ => ⟨.non, .non, trivial⟩) (plains_cons trivial (plains_cons trivial plains_nil)) (by
    intro σ H G c Q q
    exact h σ H G c Q fun us xs H1 G1 s1 r1 ⟨x, e, p⟩ => q us xs H1 G1 s1 r1 (by subst e; exact ⟨rfl, plains_cons trivial plains_nil, x, none, none, rfl, trivial, p⟩))
theorem ed_wh2 {F : Fm} {X : XW} {δ : DSt} {Xp : XP} {P : DV → Prop} {E : XK} {ta : TA} (h : EA F X ta δ Xp fun xs => ∃ x l, xs = [.d x, DI l] ∧ P (DB (isWh x (some l) none))) : ED F X (tCall (sp_is_whole F.K) [.non] E ta) δ Xp P :=
  ed_callD (dds := [DN]) (fun _ _ _ _ => ⟨.non, trivial⟩) (plains_cons trivial plains_nil) (by
    intro σ H G c Q q
    exact h σ H G c Q fun us xs H1 G1 s1 r1 ⟨x, l, e, p⟩ => q us xs H1 G1 s1 r1 (by subst e; exact ⟨rfl, plains_cons trivial (plains_cons trivial plains_nil), x, some l, none, rfl, trivial, p⟩))
local macro_rules | `(tactic| walk_at "dl-ed") => `(tactic| first
  | with_reducible refine ed_wh1 ?_
  | with_reducible refine ed_wh2 ?_
  | fail)
local macro_rules | `(tactic| walk_at "dl1") => `(tactic| first | refine ⟨_, _, rfl, ?_⟩ | fail)
/-! ratios of any kind -/
def isRat : PyData → Bool
  | .tuple [.int t, .int b] => decide (1 ≤ b) && decide (((Nat.gcd t.natAbs b.natAbs : Nat) : Int) = 1)
  | _ => false
def T_is_ratio : TD := fun ds Xp P => ∃ x : PyData, ds = [.d x] ∧ P (DB (isRat x))
abbrev sp_is_ratio (K : PySem.W.Frag) : Sp := spT K 1 T_is_ratio
def t_is_ratio (K : PySem.W.Frag) : TS := tSeq (tIfS (tOr (tNot (tB (tCB (rIsi K) (tCons (tVar 0) (tCons (tC (.ty "tuple")) (tNil)))))) (tTest (tOp (rNeD K) (tCB (rLenU K) (tCons (tVar 0) (tNil))) (tC (.int 2))))) (tRet (tC (.bl false))) (tNext)) (tSeq (tAsg (tVar 0) (gTup K 2 (gCons (gName 1) (gCons (gName 2) (gNil))))) (tRet (tAndV (tCall (sp_is_whole K) [.non, .non] E0 (tCons (tVar 1) (tNil))) (tAndV (tCall (sp_is_whole K) [.non] E0 (tCons (tVar 2) (tCons (tC (.int 1)) (tNil)))) (tOp (rEqD K) (tCB rGcd (tCons (tVar 1) (tCons (tVar 2) (tNil)))) (tC (.int 1)))))))
theorem isRat_ne {y z : PyData} (h : isWh y none none = false ∨ isWh z (some 1) none = false) : isRat (.tuple [y, z]) = false := by
  cases y with
  | int t =>
    cases z with
    | int b =>
      rcases h with h | h
      · simp [isWh] at h
      · simp [isWh] at h
        simp [isRat]
        omega
    | _ => rfl
  | _ => rfl
theorem w_is_ratio (F : Fm) (X : XK) (ds : List DV) (Xp : XP) (P : DV → Prop) (h : T_is_ratio ds Xp P) : WS F X (t_is_ratio F.K) (startD 2 ds) Xp { nx := fun _ => P DN, rt := P } := by
  obtain ⟨x, rfl, hP⟩ := h
  show WS F X _ [some (.d x), none, none] Xp _
  unfold t_is_ratio
  cases x with
  | tuple xs =>
    walk_at "dl"
    · rename_i h
      refine fin hP (congrArg DB ?_)
      match xs, h with
      | [], _ => rfl
      | [_], _ => simp [isRat]
      | [_, _], h => exact absurd rfl h
      | _ :: _ :: _ :: _, _ => simp [isRat]
    · rename_i h
      match xs, h with
      | [y, z], _ =>
        refine dg_tup rfl (dgs_cons (dg_name trivial (dgs_cons (dg_name trivial (dgs_nil ?_)))))
        walk_at "dl"
        · rename_i h1 h2
          cases y with
          | int t =>
            cases z with
            | int b =>
              walk_at "dl"
              refine fin hP (congrArg DB ?_)
              simp [isWh] at h2
              simp [isRat, h2]
            | _ => simp [isWh] at h2
          | _ => simp [isWh] at h1
        · rename_i h1 h2
          exact fin hP (congrArg DB (isRat_ne (.inr h2)))
        · rename_i h1
          exact fin hP (congrArg DB (isRat_ne (.inl h1)))
      | [], h => exact absurd (by simp : ((0 : Nat) : Int) ≠ 2) (by simpa using h)
      | [_], h => simp at h
      | _ :: _ :: _ :: _, h => simp at h; omega
  | none => walk_at "dl"; exact hP
  | bool b => walk_at "dl"; exact hP
  | str s => walk_at "dl"; exact hP
  | list xs => walk_at "dl"; exact hP
  | int xs => walk_at "dl"; exact hP
  | dict xs => walk_at "dl"; exact hP
/-! making -/
def mk (t b : Int) : Rt := if b < 0 then low (-t) (-b) else low t b
def T_make_ratio (K : PySem.W.Frag) : TD := fun ds Xp P => ∃ x y : PyData, ds = [.d x, .d y] ∧ ((isWh x none none = false ∧ Xp (He.ga K "BadRatio") [("what", DS "top")]) ∨
  (isWh x none none = true ∧ (isWh y none none = false ∨ y = .int 0) ∧ Xp (He.ga K "BadRatio") [("what", DS "bottom")]) ∨ ∃ t b, x = .int t ∧ y = .int b ∧ P (.d (rt (mk t b))) ∧ b ≠ 0 ∧ b.natAbs < 2 ^ 8000)
abbrev sp_make_ratio (K : PySem.W.Frag) : Sp := spT K 2 (T_make_ratio K)
def t_make_ratio (K : PySem.W.Frag) (E : XK) : TS := tSeq (tIfS (tNot (tB (tCall (sp_is_whole K) [.non, .non] E0 (tCons (tVar 0) (tNil))))) (tRz (fun cls d _ H => E cls d H) (tMkO (He.ga K "BadRatio") (spInit (He.ga K "BadRatio") ["what"]) [] (tCons (tC (.str "top")) (tNil)))) (tNext)) (tSeq (tIfS (tOr (tNot (tB (tCall (sp_is_whole K) [.non, .non] E0 (tCons (tVar 1) (tNil))))) (tTest (tOp (rEqD K) (tVar 1) (tC (.int 0))))) (tRz (fun cls d _ H => E cls d H) (tMkO (He.ga K "BadRatio") (spInit (He.ga K "BadRatio") ["what"]) [] (tCons (tC (.str "bottom")) (tNil)))) (tNext)) (tSeq (tIfS (tTest (tOp (rLtU) (tVar 1) (tC (.int 0)))) (tRet (tCall (sp_lowest_terms K) [] E0 (tCons (tUn rNegU (tVar 0)) (tCons (tUn rNegU (tVar 1)) (tNil))))) (tNext)) (tRet (tCall (sp_lowest_terms K) [] E0 (tCons (tVar 0) (tCons (tVar 1) (tNil)))))))
theorem isWh_int {x : PyData} (h : isWh x none none = true) : ∃ i, x = .int i := by
  cases x with
  | int i => exact ⟨i, rfl⟩
  | _ => simp [isWh] at h
local macro_rules | `(tactic| walk_at "dl-ws") => `(tactic| first
  | with_reducible refine ws_raiseI (by decide) ?_
  | fail)
theorem bool_nt {b : Bool} (h : (!b) = true) : b = false := by cases b <;> simp_all
theorem bool_nf {b : Bool} (h : (!b) = false) : b = true := by cases b <;> simp_all
theorem w_make_ratio (F : Fm) (X : XK) (ds : List DV) (Xp : XP) (P : DV → Prop) (h : T_make_ratio F.K ds Xp P) : WS F X (t_make_ratio F.K X) (startD 0 ds) Xp { nx := fun _ => P DN, rt := P } := by
  obtain ⟨x, y, rfl, h⟩ := h
  show WS F X _ [some (.d x), some (.d y)] Xp _
  unfold t_make_ratio
  rcases h with ⟨h1, hX⟩ | ⟨h1, h2, hX⟩ | ⟨t, b, rfl, rfl, hP, hb, hz⟩
  · walk_at "dl"
    · exact ⟨rfl, hX⟩
    all_goals (exfalso; simp_all)
  · obtain ⟨t, rfl⟩ := isWh_int h1
    rcases h2 with h2 | rfl
    · walk_at "dl"
      · exfalso; simp_all
      · exact ⟨rfl, hX⟩
      all_goals (exfalso; simp_all)
    · walk_at "dl"
      · exfalso; simp_all
      · exact ⟨rfl, hX⟩
      · exact ⟨rfl, hX⟩
      all_goals (exfalso; simp_all)
  · walk_at "dl"
    · rename_i h; simp [isWh] at h
    · rename_i h; simp [isWh] at h
    · rename_i h; exact absurd h hb
    · rename_i h
      have e : mk t b = low (-t) (-b) := if_pos h
      rw [e] at hP
      exact hP
    · omega
    · omega
    · rename_i h
      have e : mk t b = low t b := if_neg h
      rw [e] at hP
      exact hP
    · omega
    · omega
theorem u_make_ratio {K : PySem.W.Frag} {t b : Int} {Xp : XP} {P : DV → Prop} (p : P (.d (rt (mk t b)))) (hb : b ≠ 0) (hz : b.natAbs < 2 ^ 8000) : T_make_ratio K [DI t, DI b] Xp P := ⟨_, _, rfl, .inr (.inr ⟨t, b, rfl, rfl, p, hb, hz⟩)⟩
local macro_rules | `(tactic| walk_at "dl-call") => `(tactic| first | refine u_make_ratio ?_ ?_ ?_ | fail)
/-! reckoning; each number below 2 ^ 1500 -/
structure RB (p : Rt) : Prop where
  pos : 0 < p.2
  top : p.1.natAbs < 2 ^ 1500
  bot : p.2.natAbs < 2 ^ 1500
theorem mul_lt {a b : Int} (ha : a.natAbs < 2 ^ 1500) (hb : b.natAbs < 2 ^ 1500) : (a * b).natAbs < 2 ^ 3000 := wide_lt ha hb
theorem mul_ok {a b : Int} (ha : a.natAbs < 2 ^ 1500) (hb : b.natAbs < 2 ^ 1500) : CMulW a b := cmul_of ha hb
theorem z8000 {a : Int} (h : a.natAbs < 2 ^ 3000) : a.natAbs < 2 ^ 8000 := Nat.lt_of_lt_of_le h (Nat.pow_le_pow_right (by decide) (by decide))
def plusR (p q : Rt) : Rt := low (p.1 * q.2 + q.1 * p.2) (p.2 * q.2)
def minusR (p q : Rt) : Rt := low (p.1 * q.2 - q.1 * p.2) (p.2 * q.2)
def timesR (p q : Rt) : Rt := low (p.1 * q.1) (p.2 * q.2)
abbrev T_2 (f : Rt → Rt → Rt) : TD := fun ds Xp P => ∃ p q : Rt, ds = [.d (rt p), .d (rt q)] ∧ P (.d (rt (f p q))) ∧ RB p ∧ RB q
def T_ratio_plus : TD := T_2 plusR
def T_ratio_minus : TD := T_2 minusR
def T_ratio_times : TD := T_2 timesR
abbrev sp_ratio_plus (K : PySem.W.Frag) : Sp := spT K 2 T_ratio_plus
abbrev sp_ratio_minus (K : PySem.W.Frag) : Sp := spT K 2 T_ratio_minus
abbrev sp_ratio_times (K : PySem.W.Frag) : Sp := spT K 2 T_ratio_times
def t_ratio_plus (K : PySem.W.Frag) : TS := tRet (tCall (sp_lowest_terms K) [] E0 (tCons (tOp (rAddU K) (tOp (rMulU) (tOp (rIx K) (tVar 0) (tC (.int 0))) (tOp (rIx K) (tVar 1) (tC (.int 1)))) (tOp (rMulU) (tOp (rIx K) (tVar 1) (tC (.int 0))) (tOp (rIx K) (tVar 0) (tC (.int 1))))) (tCons (tOp (rMulU) (tOp (rIx K) (tVar 0) (tC (.int 1))) (tOp (rIx K) (tVar 1) (tC (.int 1)))) (tNil))))
def t_ratio_minus (K : PySem.W.Frag) : TS := tRet (tCall (sp_lowest_terms K) [] E0 (tCons (tOp (rSubU) (tOp (rMulU) (tOp (rIx K) (tVar 0) (tC (.int 0))) (tOp (rIx K) (tVar 1) (tC (.int 1)))) (tOp (rMulU) (tOp (rIx K) (tVar 1) (tC (.int 0))) (tOp (rIx K) (tVar 0) (tC (.int 1))))) (tCons (tOp (rMulU) (tOp (rIx K) (tVar 0) (tC (.int 1))) (tOp (rIx K) (tVar 1) (tC (.int 1)))) (tNil))))
def t_ratio_times (K : PySem.W.Frag) : TS := tRet (tCall (sp_lowest_terms K) [] E0 (tCons (tOp (rMulU) (tOp (rIx K) (tVar 0) (tC (.int 0))) (tOp (rIx K) (tVar 1) (tC (.int 0)))) (tCons (tOp (rMulU) (tOp (rIx K) (tVar 0) (tC (.int 1))) (tOp (rIx K) (tVar 1) (tC (.int 1)))) (tNil))))
local macro_rules | `(tactic| walk_at "dl-d2") => `(tactic| first
  | with_reducible refine d2_mul' ?_ ?_
  | fail)
theorem w_ratio_plus (F : Fm) (X : XK) (ds : List DV) (Xp : XP) (P : DV → Prop) (h : T_ratio_plus ds Xp P) : WS F X (t_ratio_plus F.K) (startD 0 ds) Xp { nx := fun _ => P DN, rt := P } := by
  obtain ⟨⟨a, b⟩, ⟨c, d⟩, rfl, hP, hp, hq⟩ := h
  obtain ⟨p1, p2, p3⟩ := hp
  obtain ⟨q1, q2, q3⟩ := hq
  dsimp only at *
  show WS F X _ [some (.d (rt (a, b))), some (.d (rt (c, d)))] Xp _
  unfold t_ratio_plus
  walk_at "dl"
  · exact hP
  · exact Int.mul_pos p1 q1
  · exact z8000 (mul_lt p3 q3)
  all_goals exact mul_ok (by assumption) (by assumption)
theorem w_ratio_minus (F : Fm) (X : XK) (ds : List DV) (Xp : XP) (P : DV → Prop) (h : T_ratio_minus ds Xp P) : WS F X (t_ratio_minus F.K) (startD 0 ds) Xp { nx := fun _ => P DN, rt := P } := by
  obtain ⟨⟨a, b⟩, ⟨c, d⟩, rfl, hP, hp, hq⟩ := h
  obtain ⟨p1, p2, p3⟩ := hp
  obtain ⟨q1, q2, q3⟩ := hq
  dsimp only at *
  show WS F X _ [some (.d (rt (a, b))), some (.d (rt (c, d)))] Xp _
  unfold t_ratio_minus
  walk_at "dl"
  · exact hP
  · exact Int.mul_pos p1 q1
  · exact z8000 (mul_lt p3 q3)
  all_goals exact mul_ok (by assumption) (by assumption)
theorem w_ratio_times (F : Fm) (X : XK) (ds : List DV) (Xp : XP) (P : DV → Prop) (h : T_ratio_times ds Xp P) : WS F X (t_ratio_times F.K) (startD 0 ds) Xp { nx := fun _ => P DN, rt := P } := by
  obtain ⟨⟨a, b⟩, ⟨c, d⟩, rfl, hP, hp, hq⟩ := h
  obtain ⟨p1, p2, p3⟩ := hp
  obtain ⟨q1, q2, q3⟩ := hq
  dsimp only at *
  show WS F X _ [some (.d (rt (a, b))), some (.d (rt (c, d)))] Xp _
  unfold t_ratio_times
  walk_at "dl"
  · exact hP
  · exact Int.mul_pos p1 q1
  · exact z8000 (mul_lt p3 q3)
  all_goals exact mul_ok (by assumption) (by assumption)
theorem u_ratio_plus {p q : Rt} {Xp : XP} {P : DV → Prop} (h : P (.d (rt (plusR p q)))) (hp : RB p) (hq : RB q) : T_ratio_plus [.d (rt p), .d (rt q)] Xp P := ⟨p, q, rfl, h, hp, hq⟩
theorem u_ratio_minus {p q : Rt} {Xp : XP} {P : DV → Prop} (h : P (.d (rt (minusR p q)))) (hp : RB p) (hq : RB q) : T_ratio_minus [.d (rt p), .d (rt q)] Xp P := ⟨p, q, rfl, h, hp, hq⟩
theorem u_ratio_times {p q : Rt} {Xp : XP} {P : DV → Prop} (h : P (.d (rt (timesR p q)))) (hp : RB p) (hq : RB q) : T_ratio_times [.d (rt p), .d (rt q)] Xp P := ⟨p, q, rfl, h, hp, hq⟩
local macro_rules | `(tactic| walk_at "dl-call") => `(tactic| first | refine u_ratio_plus ?_ ?_ ?_ | refine u_ratio_minus ?_ ?_ ?_ | refine u_ratio_times ?_ ?_ ?_ | fail)
/-! division -/
def overR (p q : Rt) : Rt := mk (p.1 * q.2) (p.2 * q.1)
def T_ratio_over (K : PySem.W.Frag) : TD := fun ds Xp P => ∃ p q : Rt, ds = [.d (rt p), .d (rt q)] ∧ ((q.1 = 0 ∧ Xp (He.ga K "DividedByNought") []) ∨ (q.1 ≠ 0 ∧ P (.d (rt (overR p q))))) ∧ RB p ∧ RB q
abbrev sp_ratio_over (K : PySem.W.Frag) : Sp := spT K 2 (T_ratio_over K)
def t_ratio_over (K : PySem.W.Frag) (E : XK) : TS := tSeq (tIfS (tTest (tOp (rEqD K) (tOp (rIx K) (tVar 1) (tC (.int 0))) (tC (.int 0)))) (tRz (fun cls d _ H => E cls d H) (tMk0 (He.ga K "DividedByNought"))) (tNext)) (tRet (tCall (sp_make_ratio K) [] E0 (tCons (tOp (rMulU) (tOp (rIx K) (tVar 0) (tC (.int 0))) (tOp (rIx K) (tVar 1) (tC (.int 1)))) (tCons (tOp (rMulU) (tOp (rIx K) (tVar 0) (tC (.int 1))) (tOp (rIx K) (tVar 1) (tC (.int 0)))) (tNil)))))
local macro_rules | `(tactic| walk_at "dl-ws") => `(tactic| first
  | with_reducible refine ws_raise0 ?_
  | fail)
theorem w_ratio_over (F : Fm) (X : XK) (ds : List DV) (Xp : XP) (P : DV → Prop) (h : T_ratio_over F.K ds Xp P) : WS F X (t_ratio_over F.K X) (startD 0 ds) Xp { nx := fun _ => P DN, rt := P } := by
  obtain ⟨⟨a, b⟩, ⟨c, d⟩, rfl, hP, hp, hq⟩ := h
  obtain ⟨p1, p2, p3⟩ := hp
  obtain ⟨q1, q2, q3⟩ := hq
  dsimp only at *
  show WS F X _ [some (.d (rt (a, b))), some (.d (rt (c, d)))] Xp _
  unfold t_ratio_over
  walk_at "dl"
  · rename_i h
    rcases hP with ⟨_, hP⟩ | ⟨h2, _⟩
    · exact hP
    · exact absurd h h2
  · rename_i h
    rcases hP with ⟨h2, _⟩ | ⟨_, hP⟩
    · exact absurd h2 h
    · exact hP
  · rename_i h
    exact Int.mul_ne_zero (by omega) h
  · exact z8000 (mul_lt p3 q2)
  all_goals exact mul_ok (by assumption) (by assumption)
/-! the negative one, the order, the text -/
def T_ratio_negative : TD := fun ds Xp P => ∃ p : Rt, ds = [.d (rt p)] ∧ P (.d (rt (-p.1, p.2)))
abbrev sp_ratio_negative (K : PySem.W.Frag) : Sp := spT K 1 T_ratio_negative
def t_ratio_negative (K : PySem.W.Frag) : TS := tRet (tTup (tCons (tUn rNegU (tOp (rIx K) (tVar 0) (tC (.int 0)))) (tCons (tOp (rIx K) (tVar 0) (tC (.int 1))) (tNil))))
theorem w_ratio_negative (F : Fm) (X : XK) (ds : List DV) (Xp : XP) (P : DV → Prop) (h : T_ratio_negative ds Xp P) : WS F X (t_ratio_negative F.K) (startD 0 ds) Xp { nx := fun _ => P DN, rt := P } := by
  obtain ⟨⟨a, b⟩, rfl, hP⟩ := h
  show WS F X _ [some (.d (rt (a, b)))] Xp _
  unfold t_ratio_negative
  walk_at "dl"
  exact hP
def cmpR (p q : Rt) : Int := if p.1 * q.2 = q.1 * p.2 then 0 else if p.1 * q.2 < q.1 * p.2 then -1 else 1
def T_ratio_compare : TD := fun ds Xp P => ∃ p q : Rt, ds = [.d (rt p), .d (rt q)] ∧ P (DI (cmpR p q)) ∧ RB p ∧ RB q
abbrev sp_ratio_compare (K : PySem.W.Frag) : Sp := spT K 2 T_ratio_compare
def t_ratio_compare (K : PySem.W.Frag) : TS := tSeq (tAsg (tOp (rMulU) (tOp (rIx K) (tVar 0) (tC (.int 0))) (tOp (rIx K) (tVar 1) (tC (.int 1)))) (gName 2)) (tSeq (tAsg (tOp (rMulU) (tOp (rIx K) (tVar 1) (tC (.int 0))) (tOp (rIx K) (tVar 0) (tC (.int 1)))) (gName 3)) (tSeq (tIfS (tTest (tOp (rEqD K) (tVar 2) (tVar 3))) (tRet (tC (.int 0))) (tNext)) (tRet (tIf (tTest (tOp (rLtU) (tVar 2) (tVar 3))) (tUn rNegU (tC (.int 1))) (tC (.int 1))))))
theorem w_ratio_compare (F : Fm) (X : XK) (ds : List DV) (Xp : XP) (P : DV → Prop) (h : T_ratio_compare ds Xp P) : WS F X (t_ratio_compare F.K) (startD 2 ds) Xp { nx := fun _ => P DN, rt := P } := by
  obtain ⟨⟨a, b⟩, ⟨c, d⟩, rfl, hP, hp, hq⟩ := h
  obtain ⟨p1, p2, p3⟩ := hp
  obtain ⟨q1, q2, q3⟩ := hq
  dsimp only at *
  show WS F X _ [some (.d (rt (a, b))), some (.d (rt (c, d))), none, none] Xp _
  unfold t_ratio_compare
  walk_at "dl"
  · rename_i h
    exact fin hP (congrArg DI (if_pos h))
  · rename_i h h2
    exact fin hP (congrArg DI ((if_neg h).trans (if_pos h2)))
  · rename_i h h2
    exact fin hP (congrArg DI ((if_neg h).trans (if_neg h2)))
  all_goals exact mul_ok (by assumption) (by assumption)
theorem str_len {a b : Str} : (a ++ b).length = a.length + b.length := Array.size_append ..
def textR (p : Rt) : Str := if p.2 = 1 then toString p.1 else ((Str.empty ++ (toString p.1 : Str)) ++ ("/" : Str)) ++ (toString p.2 : Str)
theorem log_lt {a : Int} (h : a.natAbs < 2 ^ 1500) : a.natAbs.log2 < 1920 := Nat.lt_of_lt_of_le (PySem.Flt.log2_lt_of (by decide) h) (by decide)
def T_ratio_text : TD := fun ds Xp P => ∃ p : Rt, ds = [.d (rt p)] ∧ P (DS (textR p)) ∧ RB p
abbrev sp_ratio_text (K : PySem.W.Frag) : Sp := spT K 1 T_ratio_text
def t_ratio_text (K : PySem.W.Frag) : TS := tSeq (tAsg (tVar 0) (gTup K 2 (gCons (gName 1) (gCons (gName 2) (gNil))))) (tRet (tIf (tTest (tOp (rEqD K) (tVar 2) (tC (.int 1)))) (tCB (rStrU) (tCons (tVar 1) (tNil))) (tJoined [tFmt (tVar 1), tC (.str "/"), tFmt (tVar 2)])))
theorem w_ratio_text (F : Fm) (X : XK) (ds : List DV) (Xp : XP) (P : DV → Prop) (h : T_ratio_text ds Xp P) : WS F X (t_ratio_text F.K) (startD 2 ds) Xp { nx := fun _ => P DN, rt := P } := by
  obtain ⟨⟨a, b⟩, rfl, hP, hp⟩ := h
  obtain ⟨p1, p2, p3⟩ := hp
  dsimp only at *
  show WS F X _ [some (.d (rt (a, b))), none, none] Xp _
  unfold t_ratio_text
  walk_at "dl"
  refine dg_tup rfl (dgs_cons (dg_name trivial (dgs_cons (dg_name trivial (dgs_nil ?_)))))
  walk_at "dl"
  · rename_i h
    exact fin hP (congrArg DS (if_pos h))
  · exact log_lt p2
  · rename_i h
    have l1 : (Str.ofString (toString a)).length ≤ 1921 := PyProof.Rows.int_text_len_1921 (log_lt p2)
    have l2 : (Str.ofString (toString b)).length ≤ 1921 := PyProof.Rows.int_text_len_1921 (log_lt p3)
    refine ⟨⟨_, rfl, by rw [str_len]; show 0 + _ ≤ _; omega, ?_⟩, log_lt p2⟩
    walk_at "dl"
    refine ⟨by rw [str_len, str_len]; show 0 + _ + 1 ≤ _; omega, ?_⟩
    walk_at "dl"
    refine ⟨⟨_, rfl, by rw [str_len, str_len, str_len]; show 0 + _ + 1 + _ ≤ _; omega, ej_nil ?_⟩, log_lt p3⟩
    exact fin hP (congrArg DS (if_neg h))
theorem u_ratio_text {p : Rt} {Xp : XP} {P : DV → Prop} (h : P (DS (textR p))) (hp : RB p) : T_ratio_text [.d (rt p)] Xp P := ⟨p, rfl, h, hp⟩
theorem u_ratio_compare {p q : Rt} {Xp : XP} {P : DV → Prop} (h : P (DI (cmpR p q))) (hp : RB p) (hq : RB q) : T_ratio_compare [.d (rt p), .d (rt q)] Xp P := ⟨p, q, rfl, h, hp, hq⟩
theorem u_ratio_negative {p : Rt} {Xp : XP} {P : DV → Prop} (h : P (.d (rt (-p.1, p.2)))) : T_ratio_negative [.d (rt p)] Xp P := ⟨p, rfl, h⟩
theorem u_is_ratio {x : PyData} {Xp : XP} {P : DV → Prop} (h : P (DB (isRat x))) : T_is_ratio [.d x] Xp P := ⟨x, rfl, h⟩
/-! powers by squaring, of any product -/
def powL (mul : PyData → PyData → PyData) : Nat → Nat → PyData → PyData → PyData
  | 0, _, f, _ => f
  | _ + 1, 0, f, _ => f
  | k + 1, n + 1, f, s => powL mul k ((n + 1) / 2) (if (n + 1) % 2 = 1 then mul f s else f) (if (n + 1) / 2 > 0 then mul s s else s)
/-- the product at hand may be reckoned on the way of powL -/
def PowOk (Tf : TD) (mul : PyData → PyData → PyData) : Nat → Nat → PyData → PyData → Prop
  | 0, n, _, _ => n = 0
  | k + 1, n, f, s => n = 0 ∨ ((n % 2 = 1 → ∀ P : DV → Prop, P (.d (mul f s)) → Tf [.d f, .d s] X0 P) ∧ (n / 2 > 0 → ∀ P : DV → Prop, P (.d (mul s s)) → Tf [.d s, .d s] X0 P) ∧
      PowOk Tf mul k (n / 2) (if n % 2 = 1 then mul f s else f) (if n / 2 > 0 then mul s s else s))
theorem powL_zero {mul : PyData → PyData → PyData} : ∀ (k : Nat) (f s : PyData), powL mul k 0 f s = f
  | 0, _, _ => rfl
  | _ + 1, _, _ => rfl
theorem powL_step {mul : PyData → PyData → PyData} {k n : Nat} (f s : PyData) (h : n ≠ 0) : powL mul (k + 1) n f s = powL mul k (n / 2) (if n % 2 = 1 then mul f s else f) (if n / 2 > 0 then mul s s else s) := by
  cases n with
  | zero => exact absurd rfl h
  | succ n => rfl
def T_power_by (S : Addr → Option Sp) (K : PySem.W.Frag) : TD := fun ds Xp P => ∃ (f : Addr) (u b : PyData) (n k : Nat) (Tf : TD) (mul : PyData → PyData → PyData), ds = [.v (.ref f), .d u, .d b, DI n] ∧ S f = some (spT K 2 Tf) ∧ PowOk Tf mul k n u b ∧ P (.d (powL mul k n u b))
abbrev sp_power_by (S : PySem.W.Frag → Addr → Option Sp) (K : PySem.W.Frag) : Sp := spT K 4 (T_power_by (S K) K)
def t_power_by (K : PySem.W.Frag) (S_power : PySem.W.Frag → Addr → Option Sp) : TS := tSeq (tAsg (tVar 1) (gName 4)) (tSeq (tAsg (tVar 2) (gName 5)) (tSeq (tWhile (tTest (tOp (rGtU) (tVar 3) (tC (.int 0)))) (tSeq (tIfS (tTest (tOp (rEqD K) (tOp (rModU) (tVar 3) (tC (.int 2))) (tC (.int 1)))) (tAsg (tCallA 0 (S_power K) (tCons (tVar 4) (tCons (tVar 5) (tNil)))) (gName 4)) (tNext)) (tSeq (tAsg (tOp (rDivU) (tVar 3) (tC (.int 2))) (gName 3)) (tIfS (tTest (tOp (rGtU) (tVar 3) (tC (.int 0)))) (tAsg (tCallA 0 (S_power K) (tCons (tVar 5) (tCons (tVar 5) (tNil)))) (gName 5)) (tNext))))) (tRet (tVar 4))))
theorem w_power_by (S : PySem.W.Frag → Addr → Option Sp) (F : Fm) (X : XK) (ds : List DV) (Xp : XP) (P : DV → Prop) (h : T_power_by (S F.K) F.K ds Xp P) : WS F X (t_power_by F.K S) (startD 2 ds) Xp { nx := fun _ => P DN, rt := P } := by
  obtain ⟨f, u, b, n, k, Tf, mul, rfl, hS, hO, hP⟩ := h
  show WS F X _ [some (.v (.ref f)), some (.d u), some (.d b), some (DI n), none, none] Xp _
  unfold t_power_by
  walk_at "dl"
  refine ws_while (fun m δ' => ∃ (n' : Nat) (g s : PyData), δ' = [some (.v (.ref f)), some (.d u), some (.d b), some (DI n'), some (.d g), some (.d s)] ∧ PowOk Tf mul m n' g s ∧ powL mul m n' g s = powL mul k n u b) k ⟨n, u, b, rfl, hO, rfl⟩ ?_
  rintro m δ' ⟨n', g, s, rfl, hO', e⟩
  have key : n' ≠ 0 → ∃ m0, m = m0 + 1 ∧ (n' % 2 = 1 → ∀ P : DV → Prop, P (.d (mul g s)) → Tf [.d g, .d s] X0 P) ∧ (n' / 2 > 0 → ∀ P : DV → Prop, P (.d (mul s s)) → Tf [.d s, .d s] X0 P) ∧
      PowOk Tf mul m0 (n' / 2) (if n' % 2 = 1 then mul g s else g) (if n' / 2 > 0 then mul s s else s) ∧ powL mul m0 (n' / 2) (if n' % 2 = 1 then mul g s else g) (if n' / 2 > 0 then mul s s else s) = powL mul k n u b := by
    intro hn
    cases m with
    | zero => exact absurd hO' hn
    | succ m =>
      rcases hO' with h | ⟨o1, o2, o3⟩
      · exact absurd h hn
      · rw [powL_step g s hn] at e
        exact ⟨m, rfl, o1, o2, o3, e⟩
  walk_at "dl"
  · rename_i h0 h1
    have hn : n' ≠ 0 := by omega
    obtain ⟨m0, hm0, o1, o2, o3, e3⟩ := key hn
    subst hm0
    have hm : n' % 2 = 1 := by omega
    refine ed_callA rfl hS (ea_cons (ed_var rfl (ea_cons (ed_var rfl (ea_nil ⟨rfl, plains_d (plains_d plains_nil), o1 hm _ ⟨trivial, ?_⟩⟩)))))
    rw [if_pos hm] at o3 e3
    walk_at "dl"
    · rename_i h2
      have h2' : n' / 2 > 0 := by omega
      refine ed_callA rfl hS (ea_cons (ed_var rfl (ea_cons (ed_var rfl (ea_nil ⟨rfl, plains_d (plains_d plains_nil), o2 h2' _ ⟨trivial, ?_⟩⟩)))))
      rw [if_pos h2'] at o3 e3
      walk_at "dl"
      exact ⟨m0, Nat.lt_succ_self m0, n' / 2, _, _, rfl, o3, e3⟩
    · rename_i h2
      have h2' : ¬ n' / 2 > 0 := by omega
      rw [if_neg h2'] at o3 e3
      exact ⟨m0, Nat.lt_succ_self m0, n' / 2, _, _, rfl, o3, e3⟩
    · exact ⟨by decide, by decide⟩
  · rename_i h0 h1 h2
    have hn : n' ≠ 0 := by omega
    obtain ⟨m0, hm0, o1, o2, o3, e3⟩ := key hn
    subst hm0
    have hm : ¬ n' % 2 = 1 := by omega
    have h2' : n' / 2 > 0 := by omega
    refine ed_callA rfl hS (ea_cons (ed_var rfl (ea_cons (ed_var rfl (ea_nil ⟨rfl, plains_d (plains_d plains_nil), o2 h2' _ ⟨trivial, ?_⟩⟩)))))
    rw [if_neg hm, if_pos h2'] at o3 e3
    walk_at "dl"
    exact ⟨m0, Nat.lt_succ_self m0, n' / 2, _, _, rfl, o3, e3⟩
  · rename_i h0 h1 h2
    have hn : n' ≠ 0 := by omega
    obtain ⟨m0, hm0, o1, o2, o3, e3⟩ := key hn
    subst hm0
    have hm : ¬ n' % 2 = 1 := by omega
    have h2' : ¬ n' / 2 > 0 := by omega
    rw [if_neg hm, if_neg h2'] at o3 e3
    exact ⟨m0, Nat.lt_succ_self m0, n' / 2, _, _, rfl, o3, e3⟩
  · exact ⟨by decide, by decide⟩
  · decide
  · rename_i h0
    have hn : n' = 0 := by omega
    subst hn
    rw [powL_zero] at e
    exact fin hP (congrArg DV.d e.symm)
theorem u_power_by {S : Addr → Option Sp} {K : PySem.W.Frag} {f : Addr} {u b : PyData} {Tf : TD} {Xp : XP} {P : DV → Prop} (n k : Nat) (mul : PyData → PyData → PyData) {i : Int} (hi : i = (n : Int)) (hS : S f = some (spT K 2 Tf)) (hO : PowOk Tf mul k n u b) (p : P (.d (powL mul k n u b))) : T_power_by S K [.v (.ref f), .d u, .d b, DI i] Xp P := ⟨f, u, b, n, k, Tf, mul, by rw [hi], hS, hO, p⟩
end NF

namespace NF
open PySem L2 DL
local macro_rules | `(tactic| walk_at "dl-call") => `(tactic| fail)
local macro_rules | `(tactic| walk_at "dl-pl") => `(tactic| (repeat' (first | exact plains_nil | refine plains_cons trivial ?_)))
local macro_rules | `(tactic| walk_at "dl-ws") => `(tactic| first
  | with_reducible refine ws_seq ?_
  | with_reducible refine ws_asg ?_
  | with_reducible refine ws_ret ?_
  | with_reducible refine ws_if ?_
  | with_reducible refine ws_next ?_
  | with_reducible refine ws_asgG ?_
  | with_reducible refine ws_par ?_
  | with_reducible refine ws_drop ?_
  | with_reducible refine ws_brk ?_)
local macro_rules | `(tactic| walk_at "dl-ed") => `(tactic| first
  | with_reducible refine ed_var rfl ?_
  | with_reducible refine ed_int ?_
  | with_reducible refine ed_op ?_
  | with_reducible refine ed_call ?_
  | with_reducible refine ed_tup ?_
  | with_reducible refine ed_cb ?_
  | with_reducible refine ed_un ?_
  | with_reducible refine ed_lst ?_
  | with_reducible refine ed_str ?_
  | with_reducible refine ed_bl ?_
  | with_reducible refine ed_non ?_
  | with_reducible refine ed_if ?_
  | with_reducible refine ed_andV ?_
  | with_reducible refine ed_orV ?_
  | with_reducible refine ed_notV ?_
  | with_reducible refine ed_ref ?_
  | with_reducible refine ed_ty ?_
  | with_reducible refine ed_fmtI' ?_
  | with_reducible refine ed_joined ?_)
local macro_rules | `(tactic| walk_at "dl-ea") => `(tactic| first
  | with_reducible refine ea_cons ?_
  | with_reducible refine ea_nil ?_)
local macro_rules | `(tactic| walk_at "dl-et") => `(tactic| first
  | with_reducible refine et_tst ?_
  | with_reducible refine et_b ?_
  | with_reducible refine et_and ?_
  | with_reducible refine et_or ?_
  | with_reducible refine et_not ?_
  | with_reducible refine et_yes ?_)
local macro_rules | `(tactic| walk_at "dl-d2") => `(tactic| first
  | with_reducible refine d2_add ?_
  | with_reducible refine d2_ixT rfl ?_
  | with_reducible refine d2_ixL rfl ?_
  | with_reducible refine d2_eqI ?_
  | with_reducible refine d2_neI ?_
  | with_reducible refine d2_lt ?_
  | with_reducible refine d2_le ?_
  | with_reducible refine d2_gt ?_
  | with_reducible refine d2_ge ?_
  | with_reducible refine d2_sub ?_
  | with_reducible refine d2_mulS' ?_ ?_
  | with_reducible refine d2_div' ?_ ?_
  | with_reducible refine d2_mod' ?_ ?_
  | with_reducible refine d2_isN_i ?_
  | with_reducible refine d2_isNN_i ?_
  | with_reducible refine d2_isN_b ?_
  | with_reducible refine d2_isNN_b ?_
  | with_reducible refine d2_isN_n ?_
  | with_reducible refine d2_isNN_n ?_
  | with_reducible refine d2_isN_s ?_
  | with_reducible refine d2_isNN_s ?_
  | with_reducible refine d2_isN_l ?_
  | with_reducible refine d2_isNN_l ?_
  | with_reducible refine d2_isN_t ?_
  | with_reducible refine d2_isNN_t ?_
  | with_reducible refine d2_isB ?_
  | with_reducible refine d2_isNB ?_
  | with_reducible refine d2_addS' ?_ ?_
  | with_reducible refine d2_addL' ?_ ?_
  | with_reducible refine d2_isN ?_
  | with_reducible refine d2_isNN ?_)
local macro_rules | `(tactic| walk_at "dl-isi") => `(tactic| first
  | with_reducible refine dc_isi_i_int ?_
  | with_reducible refine dc_isi_i_bool ?_
  | with_reducible refine dc_isi_i_str ?_
  | with_reducible refine dc_isi_i_list ?_
  | with_reducible refine dc_isi_i_tuple ?_
  | with_reducible refine dc_isi_b_int ?_
  | with_reducible refine dc_isi_b_bool ?_
  | with_reducible refine dc_isi_b_str ?_
  | with_reducible refine dc_isi_b_list ?_
  | with_reducible refine dc_isi_b_tuple ?_
  | with_reducible refine dc_isi_n_int ?_
  | with_reducible refine dc_isi_n_bool ?_
  | with_reducible refine dc_isi_n_str ?_
  | with_reducible refine dc_isi_n_list ?_
  | with_reducible refine dc_isi_n_tuple ?_
  | with_reducible refine dc_isi_s_int ?_
  | with_reducible refine dc_isi_s_bool ?_
  | with_reducible refine dc_isi_s_str ?_
  | with_reducible refine dc_isi_s_list ?_
  | with_reducible refine dc_isi_s_tuple ?_
  | with_reducible refine dc_isi_l_int ?_
  | with_reducible refine dc_isi_l_bool ?_
  | with_reducible refine dc_isi_l_str ?_
  | with_reducible refine dc_isi_l_list ?_
  | with_reducible refine dc_isi_l_tuple ?_
  | with_reducible refine dc_isi_t_int ?_
  | with_reducible refine dc_isi_t_bool ?_
  | with_reducible refine dc_isi_t_str ?_
  | with_reducible refine dc_isi_t_list ?_
  | with_reducible refine dc_isi_t_tuple ?_
  | with_reducible refine dc_isi_d_int ?_
  | with_reducible refine dc_isi_d_bool ?_
  | with_reducible refine dc_isi_d_str ?_
  | with_reducible refine dc_isi_d_list ?_
  | with_reducible refine dc_isi_d_tuple ?_)
local macro_rules | `(tactic| walk_at "dl-dc") => `(tactic| first
  | with_reducible refine dc_int ?_
  | with_reducible refine dc_abs ?_
  | with_reducible refine dc_gcd ?_
  | with_reducible refine dc_lenT ?_
  | with_reducible refine dc_lenL ?_
  | with_reducible refine dc_strI' ?_ ?_
  | walk_at "dl-isi")
local macro_rules | `(tactic| walk_at "dl1") => `(tactic| first
  | (with_reducible show ED _ _ _ _ _ _; walk_at "dl-ed")
  | (with_reducible show WS _ _ _ _ _ _; walk_at "dl-ws")
  | (with_reducible show EA _ _ _ _ _ _; walk_at "dl-ea")
  | (with_reducible show D2 _ _ _ _ _; walk_at "dl-d2")
  | (with_reducible refine ⟨_, rfl, ?_⟩)
  | (with_reducible show ET _ _ _ _ _ _; walk_at "dl-et")
  | (with_reducible show DC _ _ _ _; walk_at "dl-dc")
  | with_reducible refine if_t ?_
  | with_reducible refine if_f ?_
  | with_reducible refine if_nt ?_
  | with_reducible refine if_nf ?_
  | with_reducible refine and_pl ?_
  | (with_reducible refine if_dec (fun _ => ?_) (fun _ => ?_))
  | (with_reducible refine if_ndec (fun _ => ?_) (fun _ => ?_))
  | (with_reducible refine if_bool (fun _ => ?_) (fun _ => ?_))
  | with_reducible refine d1_neg ?_
  | (refine tup_fin (by rfl) ?_ (Nat.le_of_ble_eq_true rfl))
  | (refine lst_fin (by rfl) ?_ (Nat.le_of_ble_eq_true rfl))
  | (with_reducible refine ⟨rfl, (by repeat (first | exact plains_nil | refine plains_d ?_ | refine plains_v ?_)), ?_⟩; walk_at "dl-call")
  | with_reducible refine and_plv ?_
  | with_reducible refine ej_cons ?_
  | with_reducible refine ej_nil ?_
  | (dsimp only [List.set]))
local macro_rules | `(tactic| walk_at "dl") => `(tactic| (walk_at "dl1" <;> try (walk_at "dl")))

local macro_rules | `(tactic| walk_at "dl-call") => `(tactic| first | refine u_lowest_terms ?_ ?_ ?_ | refine u_make_ratio ?_ ?_ ?_ | refine u_ratio_plus ?_ ?_ ?_ | refine u_ratio_minus ?_ ?_ ?_ | refine u_ratio_times ?_ ?_ ?_ | refine u_ratio_text ?_ ?_ | refine u_ratio_compare ?_ ?_ ?_ | refine u_ratio_negative ?_ | refine u_is_ratio ?_ | fail)
local macro_rules | `(tactic| walk_at "dl-ed") => `(tactic| first
  | with_reducible refine ed_wh1 ?_
  | with_reducible refine ed_wh2 ?_
  | with_reducible refine ed_draw ?_
  | with_reducible refine ed_number ?_
  | fail)
local macro_rules | `(tactic| walk_at "dl-ws") => `(tactic| first
  | with_reducible refine ws_raiseI (by decide) ?_
  | with_reducible refine ws_raise0 ?_
  | with_reducible refine ws_forSeq ?_
  | with_reducible refine ws_forR1 ?_
  | fail)
local macro_rules | `(tactic| walk_at "dl-d2") => `(tactic| first
  | with_reducible refine d2_mul' ?_ ?_
  | with_reducible refine d2_pow' ?_ ?_
  | fail)
local macro_rules | `(tactic| walk_at "dl1") => `(tactic| first
  | with_reducible refine draw_and (fun _ _ _ => ?_) ?_ ?_
  | with_reducible refine num_and rfl (fun _ _ => ?_)
  | refine ⟨_, _, rfl, ?_⟩
  | fail)

theorem seq_fin {xs : List DV} {ys : List PyData} {R : List PyData → Prop} (h : toD xs = some ys) (p : R ys) (l : ys.length ≤ 100000) : ∃ ys, AllD xs ys ∧ ys.length ≤ 100000 ∧ R ys := ⟨ys, allD_of h, l, p⟩
theorem if_tr {A B : Prop} {b : Bool} (e : b = true) (h : A) : if b = true then A else B := by rw [if_pos e]; exact h
theorem if_fr {A B : Prop} {b : Bool} (e : b = false) (h : B) : if b = true then A else B := by subst e; rw [if_neg Bool.false_ne_true]; exact h
local macro_rules | `(tactic| walk_at "dl1") => `(tactic| first
  | (refine seq_fin (by rfl) ?_ (Nat.le_of_ble_eq_true rfl))
  | (refine if_tr (by rfl) ?_)
  | (refine if_fr (by rfl) ?_)
  | fail)
theorem rvs_app {F : Fm} {G H : Hp} : ∀ {us : List V} {xs : List DV} {ws : List V} {ys : List DV}, RVs F G H us xs → RVs F G H ws ys → RVs F G H (us ++ ws) (xs ++ ys)
  | [], [], _, _, _, h => h
  | _ :: _, _ :: _, _, _, a, h => ⟨a.1, rvs_app a.2 h⟩
  | [], _ :: _, _, _, a, _ => a.elim
  | _ :: _, [], _, _, a, _ => a.elim
theorem ed_whLH {F : Fm} {X : XW} {δ : DSt} {Xp : XP} {P : DV → Prop} {E : XK} {ta tk : TA} (h : EA F X ta δ Xp fun xs => EA F X tk δ Xp fun ys => ∃ x l hh, xs = [.d x] ∧ ys = [DI l, DI hh] ∧ P (DB (isWh x (some l) (some hh)))) : ED F X (tCallN 1 2 (sp_is_whole F.K) (fun vs zs => vs ++ zs) E ta tk) δ Xp P :=
  ed_callN (gD := fun xs ys => xs ++ ys) (fun _ _ _ _ _ _ _ _ a b => rvs_app a b) (by
    intro σ H G c Q q
    exact h σ H G c Q fun us xs H1 G1 s1 r1 k => q us xs H1 G1 s1 r1 (by
      intro σ H G c Q q
      exact k σ H G c Q fun us xs H1 G1 s1 r1 ⟨x, l, hh, e1, e2, p⟩ => q us xs H1 G1 s1 r1 (by
        subst e1 e2
        exact ⟨rfl, rfl, rfl, plains_d plains_nil, plains_d (plains_d plains_nil), plains_d (plains_d (plains_d plains_nil)), x, some l, some hh, rfl, trivial, p⟩)))
theorem ed_whH {F : Fm} {X : XW} {δ : DSt} {Xp : XP} {P : DV → Prop} {E : XK} {ta tk : TA} (h : EA F X ta δ Xp fun xs => EA F X tk δ Xp fun ys => ∃ x hh, xs = [.d x] ∧ ys = [DI hh] ∧ P (DB (isWh x none (some hh)))) : ED F X (tCallN 1 1 (sp_is_whole F.K) (fun vs zs => vs ++ V.non :: zs) E ta tk) δ Xp P :=
  ed_callN (gD := fun xs ys => xs ++ DN :: ys) (fun _ _ _ _ _ _ _ _ a b => rvs_app a (show RVs _ _ _ (V.non :: _) (DN :: _) from ⟨.non, b⟩)) (by
    intro σ H G c Q q
    exact h σ H G c Q fun us xs H1 G1 s1 r1 k => q us xs H1 G1 s1 r1 (by
      intro σ H G c Q q
      exact k σ H G c Q fun us xs H1 G1 s1 r1 ⟨x, hh, e1, e2, p⟩ => q us xs H1 G1 s1 r1 (by
        subst e1 e2
        exact ⟨rfl, rfl, rfl, plains_d plains_nil, plains_d plains_nil, plains_d (plains_d (plains_d plains_nil)), x, none, some hh, rfl, trivial, p⟩)))
theorem u_wh_nh {x : PyData} {h : Int} {Xp : XP} {P : DV → Prop} (p : P (DB (isWh x none (some h)))) : T_is_whole [.d x, DN, DI h] Xp P := ⟨x, none, some h, rfl, p⟩
theorem u_wh_lh {x : PyData} {l h : Int} {Xp : XP} {P : DV → Prop} (p : P (DB (isWh x (some l) (some h)))) : T_is_whole [.d x, DI l, DI h] Xp P := ⟨x, some l, some h, rfl, p⟩
local macro_rules | `(tactic| walk_at "dl-ed") => `(tactic| first
  | with_reducible refine ed_whLH ?_
  | with_reducible refine ed_whH ?_
  | fail)
local macro_rules | `(tactic| walk_at "dl-call") => `(tactic| first | refine u_wh_nh ?_ | refine u_wh_lh ?_ | fail)
local macro_rules | `(tactic| walk_at "dl1") => `(tactic| first
  | refine ⟨_, _, _, rfl, rfl, ?_⟩
  | refine ⟨_, _, rfl, rfl, ?_⟩
  | fail)
/-! ## the law's own reckoning -/
def T__law_gcd : TD := fun ds Xp P => ∃ a b : Int, ds = [DI a, DI b] ∧ P (DI ((Nat.gcd a.natAbs b.natAbs : Nat) : Int)) ∧ a.natAbs < 2 ^ 4000 ∧ b.natAbs < 2 ^ 4000
abbrev sp__law_gcd (K : PySem.W.Frag) : Sp := spT K 2 T__law_gcd
def t__law_gcd (K : PySem.W.Frag) : TS := tSeq (tAsg (tCB (rAbsU) (tCons (tVar 0) (tNil))) (gName 0)) (tSeq (tAsg (tCB (rAbsU) (tCons (tVar 1) (tNil))) (gName 1)) (tSeq (tFor (iRng1 (tCons (tC (.int 9000)) (tNil))) (gName 2) (tSeq (tIfS (tTest (tOp (rEqD K) (tVar 1) (tC (.int 0)))) (tBreak) (tNext)) (tPar 0 1 (tCons (tVar 1) (tCons (tOp (rModU) (tCB (rIntU) (tCons (tVar 0) (tNil))) (tVar 1)) (tNil)))))) (tRet (tVar 0))))
theorem gcd_turn {x y : Nat} (hy : y ≠ 0) : Nat.gcd y (x % y) = Nat.gcd x y := by
  rw [Nat.gcd_comm y, ← Nat.gcd_rec, Nat.gcd_comm]
/-- y left over after n turns, as the product falls -/
theorem gcd_fall {x y : Nat} {k : Nat} (hy : y ≠ 0) (h : y < x) (hb : x * y * 2 ^ k < 2 ^ 8000) : x % y < y ∧ y * (x % y) * 2 ^ (k + 1) < 2 ^ 8000 := by
  have h1 : x % y < y := Nat.mod_lt _ (by omega)
  have h2 : y + x % y ≤ x := by
    have := Nat.div_add_mod x y
    have h3 : 1 ≤ x / y := (Nat.one_le_div_iff (by omega)).mpr (by omega)
    have h4 : y * 1 ≤ y * (x / y) := Nat.mul_le_mul_left y h3
    omega
  refine ⟨h1, Nat.lt_of_le_of_lt ?_ hb⟩
  rw [Nat.pow_succ]
  have h5 : y * (x % y) * 2 ≤ x * y := by
    have : (x % y) * 2 ≤ x := by omega
    calc y * (x % y) * 2 = y * ((x % y) * 2) := Nat.mul_assoc ..
      _ ≤ y * x := Nat.mul_le_mul_left y this
      _ = x * y := Nat.mul_comm ..
  calc y * (x % y) * (2 ^ k * 2) = y * (x % y) * 2 * 2 ^ k := by rw [Nat.mul_comm (2 ^ k), ← Nat.mul_assoc]
    _ ≤ x * y * 2 ^ k := Nat.mul_le_mul_right _ h5
def gInv (g : Nat) (i : Nat) (δ : DSt) : Prop := ∃ (x y : Nat) (z : Option DV), δ = [some (DI x), some (DI y), z] ∧ Nat.gcd x y = g ∧ (i = 0 ∨ y < x ∨ x = 0 ∧ y = 0) ∧ x * y * 2 ^ (i - 1) < 2 ^ 8000
theorem w__law_gcd (F : Fm) (X : XK) (ds : List DV) (Xp : XP) (P : DV → Prop) (h : T__law_gcd ds Xp P) : WS F X (t__law_gcd F.K) (startD 1 ds) Xp { nx := fun _ => P DN, rt := P } := by
  obtain ⟨a, b, rfl, hP, ha, hb⟩ := h
  show WS F X _ [some (DI a), some (DI b), none] Xp _
  unfold t__law_gcd
  walk_at "dl"
  have na : (if a < 0 then -a else a) = ((a.natAbs : Nat) : Int) := by split <;> omega
  have nb : (if b < 0 then -b else b) = ((b.natAbs : Nat) : Int) := by split <;> omega
  have fin : ∀ (x : Nat) (z : Option DV), Nat.gcd x 0 = Nat.gcd a.natAbs b.natAbs → WS F X (tRet (tVar 0)) [some (DI x), some (DI ((0 : Nat) : Int)), z] Xp { nx := fun _ => P DN, rt := P } := fun x z e => by
    rw [Nat.gcd_zero_right] at e
    subst e
    walk_at "dl"
    exact hP
  refine ⟨by decide, by decide, gInv (Nat.gcd a.natAbs b.natAbs), ⟨a.natAbs, b.natAbs, none, by rw [na, nb], rfl, .inl rfl, ?_⟩, ?_, ?_⟩
  · rw [Nat.zero_sub, Nat.pow_zero, Nat.mul_one]
    calc a.natAbs * b.natAbs < 2 ^ 4000 * 2 ^ 4000 := Nat.mul_lt_mul'' ha hb
      _ = 2 ^ 8000 := by rw [← Nat.pow_add]
  · rintro i δ' hi ⟨x, y, z, rfl, hg, hxy, hp⟩
    refine dg_name trivial ?_
    dsimp only [List.set]
    walk_at "dl"
    · rename_i h
      have hy : y = 0 := by omega
      subst hy
      rw [Nat.gcd_zero_right] at hg
      rw [hg]
      exact hP
    · rename_i h
      have hy : y ≠ 0 := by omega
      refine ⟨y, x % y, _, rfl, (gcd_turn hy).trans hg, .inr (.inl (Nat.mod_lt _ (by omega))), ?_⟩
      rcases hxy with rfl | hxy | ⟨rfl, rfl⟩
      · refine Nat.lt_of_le_of_lt ?_ hp
        rw [Nat.zero_sub, Nat.zero_add, Nat.sub_self, Nat.pow_zero, Nat.mul_one, Nat.mul_one, Nat.mul_comm x y]
        exact Nat.mul_le_mul_left y (Nat.mod_le x y)
      · by_cases h0 : i = 0
        · subst h0
          refine Nat.lt_of_le_of_lt ?_ hp
          rw [Nat.zero_sub, Nat.zero_add, Nat.sub_self, Nat.pow_zero, Nat.mul_one, Nat.mul_one, Nat.mul_comm x y]
          exact Nat.mul_le_mul_left y (Nat.mod_le x y)
        · have := (gcd_fall hy hxy hp).2
          rw [show i - 1 + 1 = i + 1 - 1 by omega] at this
          exact this
      · exact absurd rfl hy
    · rename_i h
      omega
  · rintro δ' ⟨x, y, z, rfl, hg, hxy, hp⟩
    have hy : y = 0 := by
      rcases hxy with h | h | h
      · exact absurd h (by decide)
      · cases y with
        | zero => rfl
        | succ y =>
          exfalso
          have h1 : 1 ≤ x * (y + 1) := Nat.mul_pos (by omega) (by omega)
          have h2 : 1 * 2 ^ 8999 ≤ x * (y + 1) * 2 ^ 8999 := Nat.mul_le_mul_right _ h1
          have h3 : x * (y + 1) * 2 ^ 8999 < 2 ^ 8000 := hp
          have h4 : (2 : Nat) ^ 8000 ≤ 2 ^ 8999 := Nat.pow_le_pow_right (by decide) (by decide)
          rw [Nat.one_mul] at h2
          exact absurd (Nat.lt_of_le_of_lt (Nat.le_trans h4 h2) h3) (Nat.lt_irrefl _)
      · exact h.2
    subst hy
    exact fin x _ hg
theorem u__law_gcd {a b : Int} {Xp : XP} {P : DV → Prop} (p : P (DI ((Nat.gcd a.natAbs b.natAbs : Nat) : Int))) (ha : a.natAbs < 2 ^ 4000) (hb : b.natAbs < 2 ^ 4000) : T__law_gcd [DI a, DI b] Xp P := ⟨a, b, rfl, p, ha, hb⟩
local macro_rules | `(tactic| walk_at "dl-call") => `(tactic| first | refine u__law_gcd ?_ ?_ ?_ | fail)
def T__law_ratio : TD := fun ds Xp P => ∃ t b : Int, ds = [DI t, DI b] ∧ P (.d (rt (mk t b))) ∧ b ≠ 0 ∧ t.natAbs < 2 ^ 4000 ∧ b.natAbs < 2 ^ 4000
abbrev sp__law_ratio (K : PySem.W.Frag) : Sp := spT K 2 T__law_ratio
def t__law_ratio (K : PySem.W.Frag) : TS := tSeq (tIfS (tTest (tOp (rLtU) (tVar 1) (tC (.int 0)))) (tSeq (tAsg (tUn rNegU (tVar 0)) (gName 0)) (tAsg (tUn rNegU (tVar 1)) (gName 1))) (tNext)) (tSeq (tAsg (tCall (sp__law_gcd K) [] E0 (tCons (tVar 0) (tCons (tVar 1) (tNil)))) (gName 2)) (tRet (tTup (tCons (tOp (rDivU) (tVar 0) (tVar 2)) (tCons (tOp (rDivU) (tVar 1) (tVar 2)) (tNil))))))
theorem w__law_ratio (F : Fm) (X : XK) (ds : List DV) (Xp : XP) (P : DV → Prop) (h : T__law_ratio ds Xp P) : WS F X (t__law_ratio F.K) (startD 1 ds) Xp { nx := fun _ => P DN, rt := P } := by
  obtain ⟨t, b, rfl, hP, h0, ht, hb⟩ := h
  show WS F X _ [some (DI t), some (DI b), none] Xp _
  unfold t__law_ratio
  have hg : 0 < Nat.gcd t.natAbs b.natAbs := Nat.gcd_pos_of_pos_right _ (by omega)
  have hle : Nat.gcd t.natAbs b.natAbs ≤ b.natAbs := Nat.gcd_le_right _ (by omega)
  walk_at "dl"
  all_goals (try simp only [Int.natAbs_neg])
  · rename_i h
    have e : mk t b = low (-t) (-b) := if_pos h
    rw [e] at hP
    unfold low at hP
    rw [Int.natAbs_neg, Int.natAbs_neg] at hP
    exact hP
  · refine cdiv_of (b := 4000) (by omega) (Nat.lt_of_le_of_lt ?_ hb); omega
  · refine cdiv_of (b := 4000) (by omega) (Nat.lt_of_le_of_lt ?_ hb); omega
  · exact ht
  · exact hb
  · rename_i h
    have e : mk t b = low t b := if_neg h
    rw [e] at hP
    exact hP
  · refine cdiv_of (b := 4000) (by omega) (Nat.lt_of_le_of_lt ?_ hb); omega
  · refine cdiv_of (b := 4000) (by omega) (Nat.lt_of_le_of_lt ?_ hb); omega
  · exact ht
  · exact hb
theorem u__law_ratio {t b : Int} {Xp : XP} {P : DV → Prop} (p : P (.d (rt (mk t b)))) (h0 : b ≠ 0) (ht : t.natAbs < 2 ^ 4000) (hb : b.natAbs < 2 ^ 4000) : T__law_ratio [DI t, DI b] Xp P := ⟨t, b, rfl, p, h0, ht, hb⟩
local macro_rules | `(tactic| walk_at "dl-call") => `(tactic| first | refine u__law_ratio ?_ ?_ ?_ ?_ | fail)
theorem z4000 {a : Int} (h : a.natAbs < 2 ^ 3001) : a.natAbs < 2 ^ 4000 := Nat.lt_of_lt_of_le h (Nat.pow_le_pow_right (by decide) (by decide))
theorem add_lt {a b : Int} {k : Nat} (ha : a.natAbs < 2 ^ k) (hb : b.natAbs < 2 ^ k) : (a + b).natAbs < 2 ^ (k + 1) := by
  rw [Nat.pow_succ]
  generalize 2 ^ k = B at *
  omega
theorem z3001 {a : Int} (h : a.natAbs < 2 ^ 3000) : a.natAbs < 2 ^ 3001 := Nat.lt_of_lt_of_le h (Nat.pow_le_pow_right (by decide) (by decide))
theorem mk_pos {t b : Int} (h : 0 < b) : mk t b = low t b := if_neg (by omega)
abbrev sp__law_plus (K : PySem.W.Frag) : Sp := spT K 2 T_ratio_plus
abbrev sp__law_times (K : PySem.W.Frag) : Sp := spT K 2 T_ratio_times
def t__law_plus (K : PySem.W.Frag) : TS := tRet (tCall (sp__law_ratio K) [] E0 (tCons (tOp (rAddU K) (tOp (rMulU) (tOp (rIx K) (tVar 0) (tC (.int 0))) (tOp (rIx K) (tVar 1) (tC (.int 1)))) (tOp (rMulU) (tOp (rIx K) (tVar 1) (tC (.int 0))) (tOp (rIx K) (tVar 0) (tC (.int 1))))) (tCons (tOp (rMulU) (tOp (rIx K) (tVar 0) (tC (.int 1))) (tOp (rIx K) (tVar 1) (tC (.int 1)))) (tNil))))
def t__law_times (K : PySem.W.Frag) : TS := tRet (tCall (sp__law_ratio K) [] E0 (tCons (tOp (rMulU) (tOp (rIx K) (tVar 0) (tC (.int 0))) (tOp (rIx K) (tVar 1) (tC (.int 0)))) (tCons (tOp (rMulU) (tOp (rIx K) (tVar 0) (tC (.int 1))) (tOp (rIx K) (tVar 1) (tC (.int 1)))) (tNil))))
theorem w__law_plus (F : Fm) (X : XK) (ds : List DV) (Xp : XP) (P : DV → Prop) (h : T_ratio_plus ds Xp P) : WS F X (t__law_plus F.K) (startD 0 ds) Xp { nx := fun _ => P DN, rt := P } := by
  obtain ⟨⟨a, b⟩, ⟨c, d⟩, rfl, hP, hp, hq⟩ := h
  obtain ⟨p1, p2, p3⟩ := hp
  obtain ⟨q1, q2, q3⟩ := hq
  dsimp only at *
  show WS F X _ [some (.d (rt (a, b))), some (.d (rt (c, d)))] Xp _
  unfold t__law_plus
  have hbd : 0 < b * d := Int.mul_pos p1 q1
  walk_at "dl"
  · rw [mk_pos hbd]; exact hP
  · omega
  · exact z4000 (add_lt (mul_lt p2 q3) (mul_lt q2 p3))
  · exact z4000 (z3001 (mul_lt p3 q3))
  all_goals exact mul_ok (by assumption) (by assumption)
theorem w__law_times (F : Fm) (X : XK) (ds : List DV) (Xp : XP) (P : DV → Prop) (h : T_ratio_times ds Xp P) : WS F X (t__law_times F.K) (startD 0 ds) Xp { nx := fun _ => P DN, rt := P } := by
  obtain ⟨⟨a, b⟩, ⟨c, d⟩, rfl, hP, hp, hq⟩ := h
  obtain ⟨p1, p2, p3⟩ := hp
  obtain ⟨q1, q2, q3⟩ := hq
  dsimp only at *
  show WS F X _ [some (.d (rt (a, b))), some (.d (rt (c, d)))] Xp _
  unfold t__law_times
  have hbd : 0 < b * d := Int.mul_pos p1 q1
  walk_at "dl"
  · rw [mk_pos hbd]; exact hP
  · omega
  · exact z4000 (z3001 (mul_lt p2 q2))
  · exact z4000 (z3001 (mul_lt p3 q3))
  all_goals exact mul_ok (by assumption) (by assumption)
/-! is it a ratio of two whole numbers -/
def T__law_is_ratio : TD := fun ds Xp P => ∃ p : Rt, ds = [.d (rt p)] ∧ P (DB true)
abbrev sp__law_is_ratio (K : PySem.W.Frag) : Sp := spT K 1 T__law_is_ratio
def t__law_is_ratio (K : PySem.W.Frag) : TS := tSeq (tIfS (tOr (tNot (tB (tCB (rIsi K) (tCons (tVar 0) (tCons (tC (.ty "tuple")) (tNil)))))) (tTest (tOp (rNeD K) (tCB (rLenU K) (tCons (tVar 0) (tNil))) (tC (.int 2))))) (tRet (tC (.bl false))) (tNext)) (tRet (tCB (rAll K) (tCons (tLc (iSeq K (tVar 0)) (gName 1) (tYes) (tAndV (tCB (rIsi K) (tCons (tVar 1) (tCons (tC (.ty "int")) (tNil)))) (tNotV (tCB (rIsi K) (tCons (tVar 1) (tCons (tC (.ty "bool")) (tNil)))))) [1]) (tNil))))
theorem w__law_is_ratio (F : Fm) (X : XK) (ds : List DV) (Xp : XP) (P : DV → Prop) (h : T__law_is_ratio ds Xp P) : WS F X (t__law_is_ratio F.K) (startD 1 ds) Xp { nx := fun _ => P DN, rt := P } := by
  obtain ⟨⟨a, b⟩, rfl, hP⟩ := h
  show WS F X _ [some (.d (rt (a, b))), none] Xp _
  unfold t__law_is_ratio
  walk_at "dl"
  · refine ed_lc (tgOk_name (List.mem_singleton.mpr rfl)) (ed_var rfl ⟨[.int a, .int b], .inr rfl, (by show 2 < 100000; decide), fun _ => true, fun _ => .bool true, ?_, ea_nil ?_⟩)
    · intro x hx
      refine dg_name trivial (et_yes ⟨rfl, fun _ => ?_⟩)
      dsimp only [wipeD, List.set]
      have : ∃ i, x = .int i := by
        simp at hx
        rcases hx with rfl | rfl <;> exact ⟨_, rfl⟩
      obtain ⟨i, rfl⟩ := this
      walk_at "dl"
      rfl
    · exact dc_all (bs := [true, true]) hP
def T__law_told : TD := fun ds Xp P => ∃ f d : Bool, ds = [DB f, DB d] ∧ P (DB (f == d))
abbrev sp__law_told (K : PySem.W.Frag) : Sp := spT K 2 T__law_told
def t__law_told (K : PySem.W.Frag) : TS := tRet (tIf (tB (tVar 1)) (tOp (rIsU) (tVar 0) (tC (.bl true))) (tOp (rIsU) (tVar 0) (tC (.bl false))))
theorem w__law_told (F : Fm) (X : XK) (ds : List DV) (Xp : XP) (P : DV → Prop) (h : T__law_told ds Xp P) : WS F X (t__law_told F.K) (startD 0 ds) Xp { nx := fun _ => P DN, rt := P } := by
  obtain ⟨f, d, rfl, hP⟩ := h
  show WS F X _ [some (DB f), some (DB d)] Xp _
  unfold t__law_told
  cases f <;> cases d <;> walk_at "dl" <;> exact hP
theorem u__law_told {f d : Bool} {Xp : XP} {P : DV → Prop} (h : P (DB true)) (e : f = d) : T__law_told [DB f, DB d] Xp P := ⟨f, d, rfl, by subst e; rw [beq_self_eq_true]; exact h⟩
theorem u__law_is_ratio {p : Rt} {Xp : XP} {P : DV → Prop} (h : P (DB true)) : T__law_is_ratio [.d (rt p)] Xp P := ⟨p, rfl, h⟩
abbrev sp__law_text (K : PySem.W.Frag) : Sp := spT K 1 T_ratio_text
def t__law_text (K : PySem.W.Frag) : TS := tRet (tIf (tTest (tOp (rEqD K) (tOp (rIx K) (tVar 0) (tC (.int 1))) (tC (.int 1)))) (tCB (rStrU) (tCons (tOp (rIx K) (tVar 0) (tC (.int 0))) (tNil))) (tOp (rAddU K) (tOp (rAddU K) (tCB (rStrU) (tCons (tOp (rIx K) (tVar 0) (tC (.int 0))) (tNil))) (tC (.str "/"))) (tCB (rStrU) (tCons (tOp (rIx K) (tVar 0) (tC (.int 1))) (tNil)))))
theorem str_nil {a : Str} : Str.empty ++ a = a := by
  show (⟨#[] ++ a.cps⟩ : Str) = a
  rw [Array.empty_append]
theorem w__law_text (F : Fm) (X : XK) (ds : List DV) (Xp : XP) (P : DV → Prop) (h : T_ratio_text ds Xp P) : WS F X (t__law_text F.K) (startD 0 ds) Xp { nx := fun _ => P DN, rt := P } := by
  obtain ⟨⟨a, b⟩, rfl, hP, hp⟩ := h
  obtain ⟨p1, p2, p3⟩ := hp
  dsimp only at *
  show WS F X _ [some (.d (rt (a, b)))] Xp _
  unfold t__law_text
  have l1 : (Str.ofString (toString a)).length ≤ 1921 := PyProof.Rows.int_text_len_1921 (log_lt p2)
  have l2 : (Str.ofString (toString b)).length ≤ 1921 := PyProof.Rows.int_text_len_1921 (log_lt p3)
  walk_at "dl"
  · rename_i h; exact fin hP (congrArg DS (if_pos h))
  · exact log_lt p2
  · rename_i h
    refine fin hP (congrArg DS ((if_neg h).trans ?_))
    rw [str_nil]
  · rw [str_len]; show _ + 1 + _ ≤ _; omega
  · exact log_lt p3
  · show _ + 1 ≤ _; omega
  · exact log_lt p2
/-! powers -/
def pw (p : Rt) (i : Nat) : Rt := (p.1 ^ i, p.2 ^ i)
structure CP (p : Rt) : Prop where
  pos : 0 < p.2
  co : Nat.gcd p.1.natAbs p.2.natAbs = 1
  top : p.1.natAbs < 2 ^ 101
  bot : p.2.natAbs < 2 ^ 101
theorem low_one {t b : Int} (h : Nat.gcd t.natAbs b.natAbs = 1) : low t b = (t, b) := by
  unfold low
  rw [h]
  simp
theorem pw_gcd {p : Rt} (h : CP p) (i j : Nat) : Nat.gcd (p.1 ^ i * p.1 ^ j).natAbs (p.2 ^ i * p.2 ^ j).natAbs = 1 := by
  rw [← Int.pow_add, ← Int.pow_add, Int.natAbs_pow, Int.natAbs_pow]
  exact Nat.Coprime.pow _ _ h.co
theorem times_pw {p : Rt} (h : CP p) (i j : Nat) : timesR (pw p i) (pw p j) = pw p (i + j) := by
  show low (p.1 ^ i * p.1 ^ j) (p.2 ^ i * p.2 ^ j) = _
  rw [low_one (pw_gcd h i j), ← Int.pow_add, ← Int.pow_add] <;> rfl
theorem pw_lt {a : Int} (h : a.natAbs < 2 ^ 101) {i : Nat} (hi : i ≤ 5) : (a ^ i).natAbs < 2 ^ 1500 := by
  rw [Int.natAbs_pow]
  have h1 : a.natAbs ^ i ≤ (2 ^ 101) ^ i := Nat.pow_le_pow_left (Nat.le_of_lt h) i
  have h2 : (2 ^ 101 : Nat) ^ i ≤ (2 ^ 101) ^ 5 := Nat.pow_le_pow_right (by decide) hi
  have h3 : ((2 ^ 101 : Nat) ^ 5) < 2 ^ 1500 := by
    rw [← Nat.pow_mul]
    exact Nat.pow_lt_pow_right (by decide) (by decide)
  exact Nat.lt_of_le_of_lt (Nat.le_trans h1 h2) h3
theorem pw_rb {p : Rt} (h : CP p) {i : Nat} (hi : i ≤ 5) : RB (pw p i) := ⟨Int.pow_pos h.pos, pw_lt h.top hi, pw_lt h.bot hi⟩
def timesD : PyData → PyData → PyData
  | .tuple [.int a, .int b], .tuple [.int c, .int d] => rt (timesR (a, b) (c, d))
  | _, _ => .none
theorem timesD_pw {p : Rt} (h : CP p) (i j : Nat) : timesD (rt (pw p i)) (rt (pw p j)) = rt (pw p (i + j)) := congrArg rt (times_pw h i j)
theorem pow_ok {p : Rt} (h : CP p) : ∀ (k n i j : Nat), n < 2 ^ k → i + n * j ≤ 5 → j ≤ 5 → PowOk T_ratio_times timesD k n (rt (pw p i)) (rt (pw p j)) ∧ powL timesD k n (rt (pw p i)) (rt (pw p j)) = rt (pw p (i + n * j))
  | 0, n, i, j, hn, _, _ => by
    have : n = 0 := by simpa using hn
    subst this
    exact ⟨rfl, by rw [Nat.zero_mul]; rfl⟩
  | k + 1, n, i, j, hn, hb, hj => by
    by_cases h0 : n = 0
    · subst h0
      exact ⟨.inl rfl, by rw [powL_zero, Nat.zero_mul]; rfl⟩
    have hm : n = 2 * (n / 2) + n % 2 := (Nat.div_add_mod n 2).symm
    have hle : i ≤ 5 := by omega
    have hjn : j ≤ n * j := Nat.le_mul_of_pos_left j (by omega)
    have hf : (if n % 2 = 1 then timesD (rt (pw p i)) (rt (pw p j)) else rt (pw p i)) = rt (pw p (if n % 2 = 1 then i + j else i)) := by
      split
      · exact timesD_pw h i j
      · rfl
    have hs : (if n / 2 > 0 then timesD (rt (pw p j)) (rt (pw p j)) else rt (pw p j)) = rt (pw p (if n / 2 > 0 then j + j else j)) := by
      split
      · exact timesD_pw h j j
      · rfl
    have hsum : (if n % 2 = 1 then i + j else i) + n / 2 * (if n / 2 > 0 then j + j else j) = i + n * j := by
      have e : n * j = n / 2 * (j + j) + n % 2 * j := by
        conv => lhs; rw [hm]
        rw [Nat.add_mul, ← Nat.two_mul, Nat.mul_comm 2 (n / 2), Nat.mul_assoc]
      rw [e]
      have h2 : n % 2 = 0 ∨ n % 2 = 1 := by omega
      by_cases h3 : n / 2 > 0
      · rw [if_pos h3]
        rcases h2 with h2 | h2 <;> simp [h2] <;> omega
      · have h4 : n / 2 = 0 := by omega
        rw [h4]
        rcases h2 with h2 | h2 <;> simp [h2]
    have hj2 : (if n / 2 > 0 then j + j else j) ≤ 5 := by
      split
      · rename_i h3
        have : n / 2 * (j + j) ≤ n * j := by
          conv => rhs; rw [hm]
          rw [Nat.add_mul, ← Nat.two_mul, Nat.mul_comm 2 (n / 2), Nat.mul_assoc]
          exact Nat.le_add_right _ _
        have := Nat.le_mul_of_pos_left (j + j) h3
        omega
      · exact hj
    have ih := pow_ok h k (n / 2) (if n % 2 = 1 then i + j else i) (if n / 2 > 0 then j + j else j) (by rw [Nat.pow_succ] at hn; omega) (by rw [hsum]; exact hb) hj2
    rw [hsum] at ih
    refine ⟨.inr ⟨fun _ P q => ⟨pw p i, pw p j, rfl, q, pw_rb h hle, pw_rb h hj⟩, fun _ P q => ⟨pw p j, pw p j, rfl, q, pw_rb h hj, pw_rb h hj⟩, ?_⟩, ?_⟩
    · rw [hf, hs]
      exact ih.1
    · rw [powL_step _ _ h0, hf, hs]
      exact ih.2
def S_power (K : PySem.W.Frag) (a : Addr) : Option Sp := if a = He.ga K "ratio_times" then some (sp_ratio_times K) else none
def T_ratio_power : TD := fun ds Xp P => ∃ (p : Rt) (n : Nat), ds = [.d (rt p), DI n] ∧ n ≤ 5 ∧ CP p ∧ P (.d (rt (pw p n)))
abbrev sp_ratio_power (K : PySem.W.Frag) : Sp := spT K 2 T_ratio_power
def t_ratio_power (K : PySem.W.Frag) : TS := tRet (tCall (sp_power_by S_power K) [] E0 (tCons (tC (.ref (He.ga K "ratio_times"))) (tCons (tC (.ref (He.ga K "ONE"))) (tCons (tVar 0) (tCons (tVar 1) (tNil))))))
theorem w_ratio_power (F : Fm) (hone : ∀ G, Dp F.K G (.ref (He.ga F.K "ONE")) (.tuple [.int 1, .int 1])) (X : XK) (ds : List DV) (Xp : XP) (P : DV → Prop) (h : T_ratio_power ds Xp P) : WS F X (t_ratio_power F.K) (startD 0 ds) Xp { nx := fun _ => P DN, rt := P } := by
  obtain ⟨p, n, rfl, hn, hp, hP⟩ := h
  show WS F X _ [some (.d (rt p)), some (DI n)] Xp _
  unfold t_ratio_power
  have e1 : rt (pw p 1) = rt p := by
    show rt (p.1 ^ 1, p.2 ^ 1) = rt p
    rw [Int.pow_succ, Int.pow_succ, Int.pow_zero, Int.pow_zero, Int.one_mul, Int.one_mul]
  have k := pow_ok hp 3 n 0 1 (by omega) (by omega) (by omega)
  have e0 : rt (pw p 0) = .tuple [.int 1, .int 1] := by
    show rt (p.1 ^ 0, p.2 ^ 0) = _
    rw [Int.pow_zero, Int.pow_zero]
  rw [e1, e0, Nat.zero_add, Nat.mul_one] at k
  refine ws_ret (ed_call (ea_cons (ed_raw (ea_cons (ed_con hone (ea_cons (ed_var rfl (ea_cons (ed_var rfl (ea_nil ⟨rfl, plains_v (plains_d (plains_d (plains_d plains_nil))), ?_⟩))))))))))
  exact u_power_by n 3 timesD rfl (if_pos rfl) k.1 (by rw [k.2]; exact ⟨trivial, hP⟩)
theorem u_ratio_power {p : Rt} {n : Nat} {i : Int} {Xp : XP} {P : DV → Prop} (h : P (.d (rt (pw p n)))) (e : i = (n : Int)) (hn : n ≤ 5) (hp : CP p) : T_ratio_power [.d (rt p), DI i] Xp P := ⟨p, n, by rw [e], hn, hp, h⟩
/-! equal things -/
theorem ok_of (s : String) : PyData.strOk (Str.ofString s) = true := by
  rw [Str.ofString_eq_toList]
  unfold PyData.strOk
  rw [Array.all_eq_true_iff_forall_mem]
  intro n hn
  have hn : n ∈ s.toList.map Char.toNat := by simpa using hn
  obtain ⟨c, _, rfl⟩ := List.mem_map.mp hn
  rcases c.valid with h | h
  · exact decide_eq_true (by have : c.toNat < 0xD800 := h; omega)
  · exact decide_eq_true h.2
theorem ok_app (a b : Str) : PyData.strOk (a ++ b) = (PyData.strOk a && PyData.strOk b) := by
  show Array.all (a.cps ++ b.cps) _ = _
  rw [Array.all_append] <;> rfl
local macro_rules | `(tactic| walk_at "sh_tac") => `(tactic| simp [SeqAt.shaped, PyData.canLay0, PyData.canLayAll0, PyData.depth, PyData.depthAll, ok_of, ok_app])
theorem eqv_self {x : PyData} (h : SeqAt.shaped x = true) : PyData.eqv x x = true := by
  unfold SeqAt.shaped at h
  rw [Bool.and_eq_true] at h
  exact SeqAt.eqv_refl x h.1
theorem d2_eqR {F : Fm} {P : DV → Prop} {c e : DV} {x : PyData} (hc : seen c = some x) (he : seen e = some x) (p : P (DB true)) (hx : SeqAt.shaped x = true) : D2 F (rEqD F.K) c e P := d2_eq hc he hx hx (by rw [eqv_self hx]; exact p)
theorem d2_neR {F : Fm} {P : DV → Prop} {c e : DV} {x : PyData} (hc : seen c = some x) (he : seen e = some x) (p : P (DB false)) (hx : SeqAt.shaped x = true) : D2 F (rNeD F.K) c e P := d2_ne hc he hx hx (by rw [eqv_self hx]; exact p)
local macro_rules | `(tactic| walk_at "dl-d2") => `(tactic| first
  | with_unfolding_all refine d2_eqR rfl (by rfl) ?_ (by walk_at "sh_tac")
  | with_unfolding_all refine d2_neR rfl (by rfl) ?_ (by walk_at "sh_tac")
  | fail)
/-! making, with refusals -/
abbrev refusedD (w : Str) : PyData := .tuple [.str "refused", .str w]
abbrev madeD (x : PyData) : PyData := .tuple [.str "made", x]
def T__law_made : TD := fun ds Xp P => ∃ x y : PyData, ds = [.d x, .d y] ∧ ((isWh x none none = false ∧ P (.d (refusedD "top"))) ∨
  (isWh x none none = true ∧ (isWh y none none = false ∨ y = .int 0) ∧ P (.d (refusedD "bottom"))) ∨ ∃ t b, x = .int t ∧ y = .int b ∧ P (.d (madeD (rt (mk t b)))) ∧ b ≠ 0 ∧ b.natAbs < 2 ^ 8000)
abbrev sp__law_made (K : PySem.W.Frag) : Sp := spT K 2 T__law_made
def t__law_made (K : PySem.W.Frag) : TS := fun D σ H => (fun W => tRet (tTup (tCons (tC (.str "made")) (tCons (tCallS (sp_make_ratio K) (WE W) (tCons (tVar 0) (tCons (tVar 1) (tNil)))) (tNil))))) (wAs K (.ref (He.ga K "BadRatio")) 2 (fun a cls d => tRet (tTup (tCons (tC (.str "refused")) (tCons (tXf a cls d (He.ga K "BadRatio") "what" (tVar 2)) (tNil))))) (fun _ _ _ _ => False) D) D σ H
theorem plains_what {w : Str} : Plains (([(("what" : Str), DS w)] : List (Str × DV)).map (·.2)) := plains_cons trivial plains_nil
theorem w__law_made (F : Fm) (hx : PySem.W.exmOne F.K (.ref (He.ga F.K "BadRatio")) (.ref (He.ga F.K "BadRatio")) = some true) (X : XK) (ds : List DV) (Xp : XP) (P : DV → Prop) (h : T__law_made ds Xp P) : WS F X (t__law_made F.K) (startD 1 ds) Xp { nx := fun _ => P DN, rt := P } := by
  obtain ⟨x, y, rfl, h⟩ := h
  show WS F X _ [some (.d x), some (.d y), none] Xp _
  unfold t__law_made
  refine ws_tryAsR (c := .ref (He.ga F.K "BadRatio")) (te := fun W => tTup (tCons (tC (.str "made")) (tCons (tCallS (sp_make_ratio F.K) (WE W) (tCons (tVar 0) (tCons (tVar 1) (tNil)))) (tNil)))) (fun C fs => C = He.ga F.K "BadRatio" ∧ ∃ w, fs = [(("what" : Str), DS w)] ∧ P (.d (refusedD w))) ?_ ?_
  · intro W
    refine ed_tup (ea_cons (ed_str (ea_cons (ed_callS (ea_cons (ed_var rfl (ea_cons (ed_var rfl (ea_nil ⟨rfl, plains_d (plains_d plains_nil), x, y, rfl, ?_⟩)))))))))
    rcases h with ⟨h1, p⟩ | ⟨h1, h2, p⟩ | ⟨t, b, rfl, rfl, p, h1, h2⟩
    · exact .inl ⟨h1, ⟨rfl, _, rfl, p⟩, plains_what⟩
    · exact .inr (.inl ⟨h1, h2, ⟨rfl, _, rfl, p⟩, plains_what⟩)
    · exact .inr (.inr ⟨t, b, rfl, rfl, ⟨trivial, ea_nil (tup_fin rfl p (by show 2 ≤ 100000; decide))⟩, h1, h2⟩)
  · rintro C fs ⟨rfl, w, rfl, p⟩
    refine ⟨hx, [(("what" : Str), .str w)], rfl, (fun z => by cases z), fun a d => ?_⟩
    exact ws_ret (ed_tup (ea_cons (ed_str (ea_cons (ed_xf rfl rfl (ea_nil (tup_fin rfl p (by show 2 ≤ 100000; decide))))))))
def T__law_divided : TD := fun ds Xp P => ∃ p q : Rt, ds = [.d (rt p), .d (rt q)] ∧ P (.d (if q.1 = 0 then refusedD "" else madeD (rt (overR p q)))) ∧ RB p ∧ RB q
abbrev sp__law_divided (K : PySem.W.Frag) : Sp := spT K 2 T__law_divided
def t__law_divided (K : PySem.W.Frag) : TS := fun D σ H => (fun W => tRet (tTup (tCons (tC (.str "made")) (tCons (tCallS (sp_ratio_over K) (WE W) (tCons (tVar 0) (tCons (tVar 1) (tNil)))) (tNil))))) (wOnly K (.ref (He.ga K "DividedByNought")) (fun a cls d => tRet (tTup (tCons (tC (.str "refused")) (tCons (tC (.str "")) (tNil))))) (fun _ _ _ _ => False) D) D σ H
theorem w__law_divided (F : Fm) (hx : PySem.W.exmOne F.K (.ref (He.ga F.K "DividedByNought")) (.ref (He.ga F.K "DividedByNought")) = some true) (X : XK) (ds : List DV) (Xp : XP) (P : DV → Prop) (h : T__law_divided ds Xp P) : WS F X (t__law_divided F.K) (startD 0 ds) Xp { nx := fun _ => P DN, rt := P } := by
  obtain ⟨p, q, rfl, h, hp, hq⟩ := h
  show WS F X _ [some (.d (rt p)), some (.d (rt q))] Xp _
  unfold t__law_divided
  refine ws_tryOnlyR (c := .ref (He.ga F.K "DividedByNought")) (te := fun W => tTup (tCons (tC (.str "made")) (tCons (tCallS (sp_ratio_over F.K) (WE W) (tCons (tVar 0) (tCons (tVar 1) (tNil)))) (tNil)))) (fun C fs => C = He.ga F.K "DividedByNought" ∧ fs = [] ∧ P (.d (refusedD ""))) ?_ ?_
  · intro W
    refine ed_tup (ea_cons (ed_str (ea_cons (ed_callS (ea_cons (ed_var rfl (ea_cons (ed_var rfl (ea_nil ⟨rfl, plains_d (plains_d plains_nil), p, q, rfl, ?_, hp, hq⟩)))))))))
    by_cases h0 : q.1 = 0
    · rw [if_pos h0] at h
      exact .inl ⟨h0, ⟨rfl, rfl, h⟩, plains_nil⟩
    · rw [if_neg h0] at h
      exact .inr ⟨h0, trivial, ea_nil (tup_fin rfl h (by show 2 ≤ 100000; decide))⟩
  · rintro C fs ⟨rfl, rfl, p⟩
    refine ⟨hx, fun a d => ?_⟩
    exact ws_ret (ed_tup (ea_cons (ed_str (ea_cons (ed_str (ea_nil (tup_fin rfl p (by show 2 ≤ 100000; decide))))))))
theorem u__law_divided {p q : Rt} {Xp : XP} {P : DV → Prop} (h : P (.d (if q.1 = 0 then refusedD "" else madeD (rt (overR p q))))) (hp : RB p) (hq : RB q) : T__law_divided [.d (rt p), .d (rt q)] Xp P := ⟨p, q, rfl, h, hp, hq⟩
theorem u__law_made_t {x y : PyData} {Xp : XP} {P : DV → Prop} (h : isWh x none none = false) (p : P (.d (refusedD "top"))) : T__law_made [.d x, .d y] Xp P := ⟨x, y, rfl, .inl ⟨h, p⟩⟩
theorem u__law_made_b {x y : PyData} {Xp : XP} {P : DV → Prop} (h : isWh x none none = true) (h2 : isWh y none none = false ∨ y = .int 0) (p : P (.d (refusedD "bottom"))) : T__law_made [.d x, .d y] Xp P := ⟨x, y, rfl, .inr (.inl ⟨h, h2, p⟩)⟩
theorem u__law_made {t b : Int} {Xp : XP} {P : DV → Prop} (p : P (.d (madeD (rt (mk t b))))) (h1 : b ≠ 0) (h2 : b.natAbs < 2 ^ 8000) : T__law_made [DI t, DI b] Xp P := ⟨_, _, rfl, .inr (.inr ⟨t, b, rfl, rfl, p, h1, h2⟩)⟩
/-! made rightly -/
def T__law_made_rightly : TD := fun ds Xp P => ∃ a b : Int, ds = [DI a, DI b] ∧ P (DB true) ∧ a.natAbs < 2 ^ 100 ∧ b.natAbs < 2 ^ 100
abbrev sp__law_made_rightly (K : PySem.W.Frag) : Sp := spT K 2 T__law_made_rightly
def t__law_made_rightly (K : PySem.W.Frag) : TS := tSeq (tIfS (tTest (tOp (rEqD K) (tVar 1) (tC (.int 0)))) (tRet (tOp (rEqD K) (tCall (sp__law_made K) [] E0 (tCons (tVar 0) (tCons (tVar 1) (tNil)))) (tTup (tCons (tC (.str "refused")) (tCons (tC (.str "bottom")) (tNil)))))) (tNext)) (tSeq (tAsg (tCall (sp__law_made K) [] E0 (tCons (tVar 0) (tCons (tVar 1) (tNil)))) (gName 2)) (tRet (tAndV (tOp (rEqD K) (tVar 2) (tTup (tCons (tC (.str "made")) (tCons (tCall (sp__law_ratio K) [] E0 (tCons (tVar 0) (tCons (tVar 1) (tNil)))) (tNil))))) (tCall (sp__law_is_ratio K) [] E0 (tCons (tOp (rIx K) (tVar 2) (tC (.int 1))) (tNil))))))
theorem z100 {a : Int} {k : Nat} (h : a.natAbs < 2 ^ 100) (hk : 100 ≤ k := by decide) : a.natAbs < 2 ^ k := Nat.lt_of_lt_of_le h (Nat.pow_le_pow_right (by decide) hk)
local macro_rules | `(tactic| walk_at "dl-call") => `(tactic| first | refine u__law_is_ratio ?_ | refine u__law_told ?_ ?_ | refine u__law_divided ?_ ?_ ?_ | fail)
theorem w__law_made_rightly (F : Fm) (X : XK) (ds : List DV) (Xp : XP) (P : DV → Prop) (h : T__law_made_rightly ds Xp P) : WS F X (t__law_made_rightly F.K) (startD 1 ds) Xp { nx := fun _ => P DN, rt := P } := by
  obtain ⟨a, b, rfl, hP, ha, hb⟩ := h
  show WS F X _ [some (DI a), some (DI b), none] Xp _
  unfold t__law_made_rightly
  walk_at "dl"
  · rename_i h
    refine ⟨rfl, plains_d (plains_d plains_nil), u__law_made_b rfl (.inr (congrArg PyData.int h)) ⟨trivial, ?_⟩⟩
    walk_at "dl"
    exact hP
  · rename_i h
    refine ⟨rfl, plains_d (plains_d plains_nil), u__law_made ⟨trivial, trivial, ?_⟩ h (z100 hb)⟩
    walk_at "dl"
    · exact hP
    · exact h
    · exact z100 ha
    · exact z100 hb
def T__law_whole_rightly : TD := fun ds Xp P => ∃ a l h : Int, ds = [DI a, DI l, DI h] ∧ P (DB true)
abbrev sp__law_whole_rightly (K : PySem.W.Frag) : Sp := spT K 3 T__law_whole_rightly
def t__law_whole_rightly (K : PySem.W.Frag) : TS := tSeq (tIfS (tOr (tTest (tOp (rIsNU) (tCall (sp_is_whole K) [.non, .non] E0 (tCons (tVar 0) (tNil))) (tC (.bl true)))) (tNot (tB (tCall (sp__law_told K) [] E0 (tCons (tCall (sp_is_whole K) [.non] E0 (tCons (tVar 0) (tCons (tVar 1) (tNil)))) (tCons (tOp (rLeU) (tVar 1) (tVar 0)) (tNil))))))) (tRet (tC (.bl false))) (tNext)) (tSeq (tIfS (tNot (tB (tCall (sp__law_told K) [] E0 (tCons (tCall (sp_is_whole K) [] E0 (tCons (tVar 0) (tCons (tC .non) (tCons (tVar 2) (tNil))))) (tCons (tOp (rLeU) (tVar 0) (tVar 2)) (tNil)))))) (tRet (tC (.bl false))) (tNext)) (tSeq (tIfS (tNot (tB (tCall (sp__law_told K) [] E0 (tCons (tCallN 1 2 (sp_is_whole K) ((fun vs zs => vs ++ zs)) E0 (tCons (tVar 0) (tNil)) (tCons (tVar 1) (tCons (tVar 2) (tNil)))) (tCons (tAndV (tOp (rLeU) (tVar 1) (tVar 0)) (tOp (rLeU) (tVar 0) (tVar 2))) (tNil)))))) (tRet (tC (.bl false))) (tNext)) (tRet (tAndV (tOp (rIsU) (tCall (sp_is_whole K) [] E0 (tCons (tVar 0) (tCons (tVar 0) (tCons (tVar 0) (tNil))))) (tC (.bl true))) (tAndV (tOp (rIsU) (tCall (sp_is_whole K) [.non] E0 (tCons (tVar 0) (tCons (tOp (rAddU K) (tVar 0) (tC (.int 1))) (tNil)))) (tC (.bl false))) (tOp (rIsU) (tCallN 1 1 (sp_is_whole K) ((fun vs zs => vs ++ (V.non :: zs))) E0 (tCons (tVar 0) (tNil)) (tCons (tOp (rSubU) (tVar 0) (tC (.int 1))) (tNil))) (tC (.bl false))))))))
theorem w__law_whole_rightly (F : Fm) (X : XK) (ds : List DV) (Xp : XP) (P : DV → Prop) (h : T__law_whole_rightly ds Xp P) : WS F X (t__law_whole_rightly F.K) (startD 0 ds) Xp { nx := fun _ => P DN, rt := P } := by
  obtain ⟨a, l, h, rfl, hP⟩ := h
  show WS F X _ [some (DI a), some (DI l), some (DI h)] Xp _
  unfold t__law_whole_rightly
  have i1 : isWh (PyData.int a) (some (a + 1)) none = false := by simp [isWh]; omega
  have i2 : isWh (PyData.int a) (some a) (some a) = true := by simp [isWh]
  have i3 : isWh (PyData.int a) none (some (a - 1)) = false := by simp [isWh]; omega
  walk_at "dl"
  all_goals first
    | (rw [i3]; exact hP)
    | (exfalso; simp_all; done)
    | (simp [isWh]; done)
    | (simp [isWh]; omega)
    | skip
  all_goals trace_state
end NF

/-! # Law k00: errors side by side -/
namespace K0
open PySem L2 DL NF
local macro_rules | `(tactic| walk_at "dl-call") => `(tactic| fail)
local macro_rules | `(tactic| walk_at "dl-pl") => `(tactic| (repeat' (first | exact plains_nil | refine plains_cons trivial ?_)))
local macro_rules | `(tactic| walk_at "dl-ws") => `(tactic| first
  | with_reducible refine ws_seq ?_
  | with_reducible refine ws_asg ?_
  | with_reducible refine ws_ret ?_
  | with_reducible refine ws_if ?_
  | with_reducible refine ws_next ?_
  | with_reducible refine ws_asgG ?_
  | with_reducible refine ws_par ?_
  | with_reducible refine ws_drop ?_
  | with_reducible refine ws_brk ?_)
local macro_rules | `(tactic| walk_at "dl-ed") => `(tactic| first
  | with_reducible refine ed_var rfl ?_
  | with_reducible refine ed_int ?_
  | with_reducible refine ed_op ?_
  | with_reducible refine ed_call ?_
  | with_reducible refine ed_tup ?_
  | with_reducible refine ed_cb ?_
  | with_reducible refine ed_un ?_
  | with_reducible refine ed_lst ?_
  | with_reducible refine ed_str ?_
  | with_reducible refine ed_bl ?_
  | with_reducible refine ed_non ?_
  | with_reducible refine ed_if ?_
  | with_reducible refine ed_andV ?_
  | with_reducible refine ed_orV ?_
  | with_reducible refine ed_notV ?_
  | with_reducible refine ed_ref ?_
  | with_reducible refine ed_ty ?_
  | with_reducible refine ed_fmtI' ?_
  | with_reducible refine ed_joined ?_)
local macro_rules | `(tactic| walk_at "dl-ea") => `(tactic| first
  | with_reducible refine ea_cons ?_
  | with_reducible refine ea_nil ?_)
local macro_rules | `(tactic| walk_at "dl-et") => `(tactic| first
  | with_reducible refine et_tst ?_
  | with_reducible refine et_b ?_
  | with_reducible refine et_and ?_
  | with_reducible refine et_or ?_
  | with_reducible refine et_not ?_
  | with_reducible refine et_yes ?_)
local macro_rules | `(tactic| walk_at "dl-d2") => `(tactic| first
  | with_reducible refine d2_add ?_
  | with_reducible refine d2_ixT rfl ?_
  | with_reducible refine d2_ixL rfl ?_
  | with_reducible refine d2_eqI ?_
  | with_reducible refine d2_neI ?_
  | with_reducible refine d2_lt ?_
  | with_reducible refine d2_le ?_
  | with_reducible refine d2_gt ?_
  | with_reducible refine d2_ge ?_
  | with_reducible refine d2_sub ?_
  | with_reducible refine d2_mulS' ?_ ?_
  | with_reducible refine d2_div' ?_ ?_
  | with_reducible refine d2_mod' ?_ ?_
  | with_reducible refine d2_isN_i ?_
  | with_reducible refine d2_isNN_i ?_
  | with_reducible refine d2_isN_b ?_
  | with_reducible refine d2_isNN_b ?_
  | with_reducible refine d2_isN_n ?_
  | with_reducible refine d2_isNN_n ?_
  | with_reducible refine d2_isN_s ?_
  | with_reducible refine d2_isNN_s ?_
  | with_reducible refine d2_isN_l ?_
  | with_reducible refine d2_isNN_l ?_
  | with_reducible refine d2_isN_t ?_
  | with_reducible refine d2_isNN_t ?_
  | with_reducible refine d2_isB ?_
  | with_reducible refine d2_isNB ?_
  | with_reducible refine d2_addS' ?_ ?_
  | with_reducible refine d2_addL' ?_ ?_
  | with_reducible refine d2_isN ?_
  | with_reducible refine d2_isNN ?_)
local macro_rules | `(tactic| walk_at "dl-isi") => `(tactic| first
  | with_reducible refine dc_isi_i_int ?_
  | with_reducible refine dc_isi_i_bool ?_
  | with_reducible refine dc_isi_i_str ?_
  | with_reducible refine dc_isi_i_list ?_
  | with_reducible refine dc_isi_i_tuple ?_
  | with_reducible refine dc_isi_b_int ?_
  | with_reducible refine dc_isi_b_bool ?_
  | with_reducible refine dc_isi_b_str ?_
  | with_reducible refine dc_isi_b_list ?_
  | with_reducible refine dc_isi_b_tuple ?_
  | with_reducible refine dc_isi_n_int ?_
  | with_reducible refine dc_isi_n_bool ?_
  | with_reducible refine dc_isi_n_str ?_
  | with_reducible refine dc_isi_n_list ?_
  | with_reducible refine dc_isi_n_tuple ?_
  | with_reducible refine dc_isi_s_int ?_
  | with_reducible refine dc_isi_s_bool ?_
  | with_reducible refine dc_isi_s_str ?_
  | with_reducible refine dc_isi_s_list ?_
  | with_reducible refine dc_isi_s_tuple ?_
  | with_reducible refine dc_isi_l_int ?_
  | with_reducible refine dc_isi_l_bool ?_
  | with_reducible refine dc_isi_l_str ?_
  | with_reducible refine dc_isi_l_list ?_
  | with_reducible refine dc_isi_l_tuple ?_
  | with_reducible refine dc_isi_t_int ?_
  | with_reducible refine dc_isi_t_bool ?_
  | with_reducible refine dc_isi_t_str ?_
  | with_reducible refine dc_isi_t_list ?_
  | with_reducible refine dc_isi_t_tuple ?_
  | with_reducible refine dc_isi_d_int ?_
  | with_reducible refine dc_isi_d_bool ?_
  | with_reducible refine dc_isi_d_str ?_
  | with_reducible refine dc_isi_d_list ?_
  | with_reducible refine dc_isi_d_tuple ?_)
local macro_rules | `(tactic| walk_at "dl-dc") => `(tactic| first
  | with_reducible refine dc_int ?_
  | with_reducible refine dc_abs ?_
  | with_reducible refine dc_gcd ?_
  | with_reducible refine dc_lenT ?_
  | with_reducible refine dc_lenL ?_
  | with_reducible refine dc_strI' ?_ ?_
  | walk_at "dl-isi")
local macro_rules | `(tactic| walk_at "dl1") => `(tactic| first
  | (with_reducible show ED _ _ _ _ _ _; walk_at "dl-ed")
  | (with_reducible show WS _ _ _ _ _ _; walk_at "dl-ws")
  | (with_reducible show EA _ _ _ _ _ _; walk_at "dl-ea")
  | (with_reducible show D2 _ _ _ _ _; walk_at "dl-d2")
  | (with_reducible refine ⟨_, rfl, ?_⟩)
  | (with_reducible show ET _ _ _ _ _ _; walk_at "dl-et")
  | (with_reducible show DC _ _ _ _; walk_at "dl-dc")
  | with_reducible refine if_t ?_
  | with_reducible refine if_f ?_
  | with_reducible refine if_nt ?_
  | with_reducible refine if_nf ?_
  | with_reducible refine and_pl ?_
  | (with_reducible refine if_dec (fun _ => ?_) (fun _ => ?_))
  | (with_reducible refine if_ndec (fun _ => ?_) (fun _ => ?_))
  | (with_reducible refine if_bool (fun _ => ?_) (fun _ => ?_))
  | with_reducible refine d1_neg ?_
  | (refine tup_fin (by rfl) ?_ (Nat.le_of_ble_eq_true rfl))
  | (refine lst_fin (by rfl) ?_ (Nat.le_of_ble_eq_true rfl))
  | (with_reducible refine ⟨rfl, (by repeat (first | exact plains_nil | refine plains_d ?_ | refine plains_v ?_)), ?_⟩; walk_at "dl-call")
  | with_reducible refine and_plv ?_
  | with_reducible refine ej_cons ?_
  | with_reducible refine ej_nil ?_
  | (dsimp only [List.set]))
local macro_rules | `(tactic| walk_at "dl") => `(tactic| (walk_at "dl1" <;> try (walk_at "dl")))

local macro_rules | `(tactic| walk_at "dl-call") => `(tactic| first | refine u_lowest_terms ?_ ?_ ?_ | refine u_make_ratio ?_ ?_ ?_ | refine u_ratio_plus ?_ ?_ ?_ | refine u_ratio_minus ?_ ?_ ?_ | refine u_ratio_times ?_ ?_ ?_ | refine u_ratio_text ?_ ?_ | refine u_ratio_compare ?_ ?_ ?_ | refine u_ratio_negative ?_ | refine u_is_ratio ?_ | fail)
local macro_rules | `(tactic| walk_at "dl-ed") => `(tactic| first
  | with_reducible refine ed_wh1 ?_
  | with_reducible refine ed_wh2 ?_
  | with_reducible refine ed_draw ?_
  | with_reducible refine ed_number ?_
  | fail)
local macro_rules | `(tactic| walk_at "dl-ws") => `(tactic| first
  | with_reducible refine ws_raiseI (by decide) ?_
  | with_reducible refine ws_raise0 ?_
  | with_reducible refine ws_forSeq ?_
  | with_reducible refine ws_forR1 ?_
  | fail)
local macro_rules | `(tactic| walk_at "dl-d2") => `(tactic| first
  | with_reducible refine d2_mul' ?_ ?_
  | with_reducible refine d2_pow' ?_ ?_
  | fail)
local macro_rules | `(tactic| walk_at "dl1") => `(tactic| first
  | with_reducible refine draw_and (fun _ _ _ => ?_) ?_ ?_
  | with_reducible refine num_and rfl (fun _ _ => ?_)
  | refine ⟨_, _, rfl, ?_⟩
  | fail)

def tTupR (ta : TA) : TE := tTup ta
def tLstR (ta : TA) : TE := tLst ta
def cl : List Str := ["BadRatio", "DividedByNought", "Pole", "BadElement", "BadText", "BadTower", "NoPlace", "NoLetter", "BadSystem", "TooMany", "OtherLetters", "NotMonic", "ZeroNote", "HasFree", "BadProgram", "BadPoint", "LackingLetter", "NoPoint", "NotOne", "NoMark", "NoneMarked", "BadSaying", "BadPrefix", "BadLot", "NoFree", "RootError"]
abbrev cn (i : Nat) : Str := cl.getD i "RootError"
def fns : List Str := ["what", "at", "index", "line", "place", "letter", "most", "mark", "many"]
abbrev ca (K : PySem.W.Frag) (i : Nat) : Addr := He.ga K (cn i)
/-- what the classes are -/
structure Kit (K : PySem.W.Frag) : Prop where
  exc : ∀ i, i < 26 → ExcC K (ca K i)
  xf : ∀ i, i < 26 → XfC K (ca K i)
  nf : ∀ i, i < 26 → ∀ f ∈ fns, PySem.W.findIn K (.ref (ca K i)) f = some none
  kit : ∀ i, i < 26 → ∀ j, j < 25 → PySem.W.kitOne K (.ref (ca K i)) (.ref (ca K j)) = some (i == j)
  root : ∀ i, i < 26 → PySem.W.kitOne K (.ref (ca K i)) (.ref (He.ga K "RootError")) = some true
  val : ∀ i, i < 26 → PySem.W.kitOne K (.ref (ca K i)) (.type "ValueError") = some true
  look : ∀ i, i < 26 → PySem.W.kitOne K (.ref (ca K i)) (.type "LookupError") = some false
  arit : ∀ i, i < 26 → PySem.W.kitOne K (.ref (ca K i)) (.type "ArithmeticError") = some false
  e1 : PySem.W.exmOne K (.ref (He.ga K "BadTower")) (.ref (He.ga K "RootError")) = some true
  e2 : PySem.W.exmOne K (.ref (He.ga K "BadText")) (.ref (He.ga K "NoPoint")) = some false
  e3 : PySem.W.exmOne K (.ref (He.ga K "BadText")) (.ref (He.ga K "BadText")) = some true
  e4 : PySem.W.exmOne K (.ref (He.ga K "BadSystem")) (.ref (He.ga K "BadTower")) = some false
  e5 : PySem.W.exmOne K (.ref (He.ga K "BadSystem")) (.ref (He.ga K "BadSystem")) = some true
def kitC (K : PySem.W.Frag) (i : Nat) : Bool := DLH.excB K (ca K i) && xfB K (ca K i) && fns.all (fun f => He.eqO (PySem.W.findIn K (.ref (ca K i)) f) (some none)) && ((List.range 25).all fun j => decide (PySem.W.kitOne K (.ref (ca K i)) (.ref (ca K j)) = some (i == j))) &&
  decide (PySem.W.kitOne K (.ref (ca K i)) (.ref (He.ga K "RootError")) = some true) && decide (PySem.W.kitOne K (.ref (ca K i)) (.type "ValueError") = some true) && decide (PySem.W.kitOne K (.ref (ca K i)) (.type "LookupError") = some false) && decide (PySem.W.kitOne K (.ref (ca K i)) (.type "ArithmeticError") = some false)
def kitB (K : PySem.W.Frag) : Bool := (List.range 26).all fun i => kitC K i
def exmB (K : PySem.W.Frag) : Bool := (He.Fa.exm "BadTower" "RootError" true).ok K && (He.Fa.exm "BadText" "NoPoint" false).ok K && (He.Fa.exm "BadText" "BadText" true).ok K && (He.Fa.exm "BadSystem" "BadTower" false).ok K && (He.Fa.exm "BadSystem" "BadSystem" true).ok K
theorem kit_ok {K : PySem.W.Frag} (h : kitB K = true) (h2 : exmB K = true) : Kit K := by
  have k : ∀ i, i < 26 → kitC K i = true := fun i hi => List.all_eq_true.mp h i (List.mem_range.mpr hi)
  unfold exmB at h2
  simp only [Bool.and_eq_true] at h2
  obtain ⟨⟨⟨⟨a1, a2⟩, a3⟩, a4⟩, a5⟩ := h2
  have q : ∀ i, i < 26 → _ := fun i hi => by
    have z := k i hi
    unfold kitC at z
    simp only [Bool.and_eq_true] at z
    exact z
  exact ⟨fun i hi => DLH.excB_ok (q i hi).1.1.1.1.1.1.1, fun i hi => xfB_ok (q i hi).1.1.1.1.1.1.2, fun i hi f hf => He.eqO_ok (List.all_eq_true.mp (q i hi).1.1.1.1.1.2 f hf),
    fun i hi j hj => of_decide_eq_true (List.all_eq_true.mp (q i hi).1.1.1.1.2 j (List.mem_range.mpr hj)), fun i hi => of_decide_eq_true (q i hi).1.1.1.2, fun i hi => of_decide_eq_true (q i hi).1.1.2, fun i hi => of_decide_eq_true (q i hi).1.2, fun i hi => of_decide_eq_true (q i hi).2,
    He.exm_ok a1, He.exm_ok a2, He.exm_ok a3, He.exm_ok a4, He.exm_ok a5⟩
/-! ### small draws -/
def T__law_small : List Int → (PyData → Prop) → Prop := fun is P => is = [] ∧ ∀ p : Rt, P (rt p)
abbrev sp__law_small (K : PySem.W.Frag) : Sp := spG K 0 T__law_small
def t__law_small (K : PySem.W.Frag) : TS := tRet (tCall (sp__law_ratio K) [] E0 (tCons (tOp (rSubU) (tCall (sp__law_draw K) [] E0 (tCons (tVar 0) (tCons (tC (.int 7)) (tNil)))) (tC (.int 3))) (tCons (tOp (rAddU K) (tC (.int 1)) (tCall (sp__law_draw K) [] E0 (tCons (tVar 0) (tCons (tC (.int 2)) (tNil))))) (tNil))))
local macro_rules | `(tactic| walk_at "dl-ed") => `(tactic| first
  | with_reducible refine ed_draw ?_
  | fail)
local macro_rules | `(tactic| walk_at "dl1") => `(tactic| first
  | with_reducible refine draw_and (fun _ _ _ => ?_) ?_ ?_
  | refine ⟨_, rfl, ?_⟩
  | fail)
local macro_rules | `(tactic| walk_at "dl-call") => `(tactic| first | refine u__law_ratio ?_ ?_ ?_ ?_ | fail)
theorem sm_lt {x : Int} {k : Nat} (h : -100 < x) (h2 : x < 100) (hk : 7 ≤ k) : x.natAbs < 2 ^ k := Nat.lt_of_lt_of_le (show x.natAbs < 2 ^ 7 by omega) (Nat.pow_le_pow_right (by decide) hk)
theorem w__law_small (K : PySem.W.Frag) (vs : List V) (H : Hp) (Q : VK) (E : XK) (h : sp__law_small K vs H Q E) : t__law_small K { nx := fun _ H' => Q .non H', rt := Q } (L2.start ["_law_hand"] vs) H := by
  refine pure_G (m := 0) h rfl fun H0 h a0 b0 is P l ht => ?_
  obtain ⟨rfl, hP⟩ := ht
  show WS _ _ _ [some (.v (.ref h.ph))] _ _
  unfold t__law_small
  walk_at "dl"
  all_goals first
    | exact hP _
    | decide
    | exact sm_lt (by omega) (by omega) (by decide)
    | omega
    | trace_state
/-! ### a word -/
def T__law_word : List Int → (PyData → Prop) → Prop := fun is P => is = [] ∧ ∀ s : Str, PyData.strOk s = true → P (.str s)
abbrev sp__law_word (K : PySem.W.Frag) : Sp := spG K 0 T__law_word
def t__law_word (K : PySem.W.Frag) : TS := tSeq (tAsg (tC (.str "")) (gName 1)) (tSeq (tFor (iRng1 (tCons (tOp (rAddU K) (tC (.int 1)) (tCall (sp__law_draw K) [] E0 (tCons (tVar 0) (tCons (tC (.int 6)) (tNil))))) (tNil))) (gName 2) (tAsg (tOp (rAddU K) (tVar 1) (tOp (rIx K) (tC (.str "abcdefghijklmnopqrstuvwxyz")) (tCall (sp__law_draw K) [] E0 (tCons (tVar 0) (tCons (tC (.int 26)) (tNil)))))) (gName 1))) (tRet (tVar 1)))
def abc : Str := "abcdefghijklmnopqrstuvwxyz"
theorem abc_ok : ∀ i : Fin 26, ∃ c, atI abc.cps.toList ((i.val : Nat) : Int) = some c ∧ PyData.strOk ⟨#[c]⟩ = true := by decide +kernel
theorem d2_abc {F : Fm} {P : DV → Prop} {i : Int} (p : ∀ c, PyData.strOk ⟨#[c]⟩ = true → P (DS ⟨#[c]⟩)) (h0 : 0 ≤ i) (h1 : i < 26) : D2 F (rIx F.K) (DS "abcdefghijklmnopqrstuvwxyz") (DI i) P := by
  obtain ⟨c, hc, ok⟩ := abc_ok ⟨i.toNat, by omega⟩
  have e : ((i.toNat : Nat) : Int) = i := by omega
  rw [e] at hc
  exact d2_ixS (by decide +kernel) hc (p c ok)
theorem w__law_word (K : PySem.W.Frag) (vs : List V) (H : Hp) (Q : VK) (E : XK) (h : sp__law_word K vs H Q E) : t__law_word K { nx := fun _ H' => Q .non H', rt := Q } (L2.start ["_law_hand", "_law_word_here", "_law_k"] vs) H := by
  refine pure_G (m := 2) h rfl fun H0 h a0 b0 is P l ht => ?_
  obtain ⟨rfl, hP⟩ := ht
  show WS _ _ _ [some (.v (.ref h.ph)), none, none] _ _
  unfold t__law_word
  walk_at "dl"
  · rename_i n h0 h1
    refine ⟨by omega, by omega, fun i δ' => ∃ (s : Str) (z : Option DV), δ' = [some (.v (.ref h.ph)), some (DS s), z] ∧ PyData.strOk s = true ∧ s.length ≤ i, ⟨_, none, rfl, by decide +kernel, Nat.le_refl _⟩, ?_, ?_⟩
    · rintro i δ' hi ⟨s, z, rfl, ok, len⟩
      refine dg_name trivial ?_
      dsimp only [List.set]
      walk_at "dl"
      · rename_i k k0 k1
        refine d2_abc (fun c oc => ?_) k0 k1
        refine d2_addS' ?_ ?_
        · exact ⟨trivial, _, _, rfl, by rw [ok_app, ok, oc] <;> rfl, by rw [str_len]; exact Nat.succ_le_succ len⟩
        · have : (⟨#[c]⟩ : Str).length = 1 := rfl
          omega
      all_goals first | decide | trace_state
    · rintro δ' ⟨s, z, rfl, ok, len⟩
      walk_at "dl"
      exact hP s ok
  all_goals first | decide | trace_state
end K0

namespace K0
open PySem L2 DL NF
local macro_rules | `(tactic| walk_at "dl-call") => `(tactic| fail)
local macro_rules | `(tactic| walk_at "dl-pl") => `(tactic| (repeat' (first | exact plains_nil | refine plains_cons trivial ?_)))
local macro_rules | `(tactic| walk_at "dl-ws") => `(tactic| first
  | with_reducible refine ws_seq ?_
  | with_reducible refine ws_asg ?_
  | with_reducible refine ws_ret ?_
  | with_reducible refine ws_if ?_
  | with_reducible refine ws_next ?_
  | with_reducible refine ws_asgG ?_
  | with_reducible refine ws_par ?_
  | with_reducible refine ws_drop ?_
  | with_reducible refine ws_brk ?_)
local macro_rules | `(tactic| walk_at "dl-ed") => `(tactic| first
  | with_reducible refine ed_var rfl ?_
  | with_reducible refine ed_int ?_
  | with_reducible refine ed_op ?_
  | with_reducible refine ed_call ?_
  | with_reducible refine ed_tup ?_
  | with_reducible refine ed_cb ?_
  | with_reducible refine ed_un ?_
  | with_reducible refine ed_lst ?_
  | with_reducible refine ed_str ?_
  | with_reducible refine ed_bl ?_
  | with_reducible refine ed_non ?_
  | with_reducible refine ed_if ?_
  | with_reducible refine ed_andV ?_
  | with_reducible refine ed_orV ?_
  | with_reducible refine ed_notV ?_
  | with_reducible refine ed_ref ?_
  | with_reducible refine ed_ty ?_
  | with_reducible refine ed_fmtI' ?_
  | with_reducible refine ed_joined ?_)
local macro_rules | `(tactic| walk_at "dl-ea") => `(tactic| first
  | with_reducible refine ea_cons ?_
  | with_reducible refine ea_nil ?_)
local macro_rules | `(tactic| walk_at "dl-et") => `(tactic| first
  | with_reducible refine et_tst ?_
  | with_reducible refine et_b ?_
  | with_reducible refine et_and ?_
  | with_reducible refine et_or ?_
  | with_reducible refine et_not ?_
  | with_reducible refine et_yes ?_)
local macro_rules | `(tactic| walk_at "dl-d2") => `(tactic| first
  | with_reducible refine d2_add ?_
  | with_reducible refine d2_ixT rfl ?_
  | with_reducible refine d2_ixL rfl ?_
  | with_reducible refine d2_eqI ?_
  | with_reducible refine d2_neI ?_
  | with_reducible refine d2_lt ?_
  | with_reducible refine d2_le ?_
  | with_reducible refine d2_gt ?_
  | with_reducible refine d2_ge ?_
  | with_reducible refine d2_sub ?_
  | with_reducible refine d2_mulS' ?_ ?_
  | with_reducible refine d2_div' ?_ ?_
  | with_reducible refine d2_mod' ?_ ?_
  | with_reducible refine d2_isN_i ?_
  | with_reducible refine d2_isNN_i ?_
  | with_reducible refine d2_isN_b ?_
  | with_reducible refine d2_isNN_b ?_
  | with_reducible refine d2_isN_n ?_
  | with_reducible refine d2_isNN_n ?_
  | with_reducible refine d2_isN_s ?_
  | with_reducible refine d2_isNN_s ?_
  | with_reducible refine d2_isN_l ?_
  | with_reducible refine d2_isNN_l ?_
  | with_reducible refine d2_isN_t ?_
  | with_reducible refine d2_isNN_t ?_
  | with_reducible refine d2_isB ?_
  | with_reducible refine d2_isNB ?_
  | with_reducible refine d2_addS' ?_ ?_
  | with_reducible refine d2_addL' ?_ ?_
  | with_reducible refine d2_isN ?_
  | with_reducible refine d2_isNN ?_)
local macro_rules | `(tactic| walk_at "dl-isi") => `(tactic| first
  | with_reducible refine dc_isi_i_int ?_
  | with_reducible refine dc_isi_i_bool ?_
  | with_reducible refine dc_isi_i_str ?_
  | with_reducible refine dc_isi_i_list ?_
  | with_reducible refine dc_isi_i_tuple ?_
  | with_reducible refine dc_isi_b_int ?_
  | with_reducible refine dc_isi_b_bool ?_
  | with_reducible refine dc_isi_b_str ?_
  | with_reducible refine dc_isi_b_list ?_
  | with_reducible refine dc_isi_b_tuple ?_
  | with_reducible refine dc_isi_n_int ?_
  | with_reducible refine dc_isi_n_bool ?_
  | with_reducible refine dc_isi_n_str ?_
  | with_reducible refine dc_isi_n_list ?_
  | with_reducible refine dc_isi_n_tuple ?_
  | with_reducible refine dc_isi_s_int ?_
  | with_reducible refine dc_isi_s_bool ?_
  | with_reducible refine dc_isi_s_str ?_
  | with_reducible refine dc_isi_s_list ?_
  | with_reducible refine dc_isi_s_tuple ?_
  | with_reducible refine dc_isi_l_int ?_
  | with_reducible refine dc_isi_l_bool ?_
  | with_reducible refine dc_isi_l_str ?_
  | with_reducible refine dc_isi_l_list ?_
  | with_reducible refine dc_isi_l_tuple ?_
  | with_reducible refine dc_isi_t_int ?_
  | with_reducible refine dc_isi_t_bool ?_
  | with_reducible refine dc_isi_t_str ?_
  | with_reducible refine dc_isi_t_list ?_
  | with_reducible refine dc_isi_t_tuple ?_
  | with_reducible refine dc_isi_d_int ?_
  | with_reducible refine dc_isi_d_bool ?_
  | with_reducible refine dc_isi_d_str ?_
  | with_reducible refine dc_isi_d_list ?_
  | with_reducible refine dc_isi_d_tuple ?_)
local macro_rules | `(tactic| walk_at "dl-dc") => `(tactic| first
  | with_reducible refine dc_int ?_
  | with_reducible refine dc_abs ?_
  | with_reducible refine dc_gcd ?_
  | with_reducible refine dc_lenT ?_
  | with_reducible refine dc_lenL ?_
  | with_reducible refine dc_strI' ?_ ?_
  | walk_at "dl-isi")
local macro_rules | `(tactic| walk_at "dl1") => `(tactic| first
  | (with_reducible show ED _ _ _ _ _ _; walk_at "dl-ed")
  | (with_reducible show WS _ _ _ _ _ _; walk_at "dl-ws")
  | (with_reducible show EA _ _ _ _ _ _; walk_at "dl-ea")
  | (with_reducible show D2 _ _ _ _ _; walk_at "dl-d2")
  | (with_reducible refine ⟨_, rfl, ?_⟩)
  | (with_reducible show ET _ _ _ _ _ _; walk_at "dl-et")
  | (with_reducible show DC _ _ _ _; walk_at "dl-dc")
  | with_reducible refine if_t ?_
  | with_reducible refine if_f ?_
  | with_reducible refine if_nt ?_
  | with_reducible refine if_nf ?_
  | with_reducible refine and_pl ?_
  | (with_reducible refine if_dec (fun _ => ?_) (fun _ => ?_))
  | (with_reducible refine if_ndec (fun _ => ?_) (fun _ => ?_))
  | (with_reducible refine if_bool (fun _ => ?_) (fun _ => ?_))
  | with_reducible refine d1_neg ?_
  | (refine tup_fin (by rfl) ?_ (Nat.le_of_ble_eq_true rfl))
  | (refine lst_fin (by rfl) ?_ (Nat.le_of_ble_eq_true rfl))
  | (with_reducible refine ⟨rfl, (by repeat (first | exact plains_nil | refine plains_d ?_ | refine plains_v ?_)), ?_⟩; walk_at "dl-call")
  | with_reducible refine and_plv ?_
  | with_reducible refine ej_cons ?_
  | with_reducible refine ej_nil ?_
  | (dsimp only [List.set]))
local macro_rules | `(tactic| walk_at "dl") => `(tactic| (walk_at "dl1" <;> try (walk_at "dl")))

local macro_rules | `(tactic| walk_at "dl-call") => `(tactic| first | refine u_lowest_terms ?_ ?_ ?_ | refine u_make_ratio ?_ ?_ ?_ | refine u_ratio_plus ?_ ?_ ?_ | refine u_ratio_minus ?_ ?_ ?_ | refine u_ratio_times ?_ ?_ ?_ | refine u_ratio_text ?_ ?_ | refine u_ratio_compare ?_ ?_ ?_ | refine u_ratio_negative ?_ | refine u_is_ratio ?_ | fail)
local macro_rules | `(tactic| walk_at "dl-ed") => `(tactic| first
  | with_reducible refine ed_wh1 ?_
  | with_reducible refine ed_wh2 ?_
  | with_reducible refine ed_draw ?_
  | with_reducible refine ed_number ?_
  | fail)
local macro_rules | `(tactic| walk_at "dl-ws") => `(tactic| first
  | with_reducible refine ws_raiseI (by decide) ?_
  | with_reducible refine ws_raise0 ?_
  | with_reducible refine ws_forSeq ?_
  | with_reducible refine ws_forR1 ?_
  | fail)
local macro_rules | `(tactic| walk_at "dl-d2") => `(tactic| first
  | with_reducible refine d2_mul' ?_ ?_
  | with_reducible refine d2_pow' ?_ ?_
  | fail)
local macro_rules | `(tactic| walk_at "dl1") => `(tactic| first
  | with_reducible refine draw_and (fun _ _ _ => ?_) ?_ ?_
  | with_reducible refine num_and rfl (fun _ _ => ?_)
  | refine ⟨_, _, rfl, ?_⟩
  | fail)

/-! ### the rows: an error, what it keeps, what is due -/
def tripOk (K : PySem.W.Frag) (i : Nat) (x : RD) : Prop := ∃ fs ys, x = .tup [.e (ca K i) fs, .d (.list ys), .d (.list ys)] ∧ SeqAt.shaped (.list ys) = true
def Trips (K : PySem.W.Frag) (o n : Nat) (xs : List RD) : Prop := xs.length = n ∧ ∀ i x, xs[i]? = some x → tripOk K (o + i) x
theorem trips_nil {K : PySem.W.Frag} {o : Nat} : Trips K o 0 [] := ⟨rfl, fun i x h => by simp at h⟩
theorem trips_cons {K : PySem.W.Frag} {o n : Nat} {x : RD} {xs : List RD} (h : tripOk K o x) (t : Trips K (o + 1) n xs) : Trips K o (n + 1) (x :: xs) := by
  refine ⟨congrArg Nat.succ t.1, fun i y e => ?_⟩
  match i, e with
  | 0, e =>
    cases e
    exact h
  | i + 1, e =>
    have := t.2 i y (by simpa using e)
    rw [Nat.add_assoc, Nat.add_comm 1 i] at this
    exact this
theorem trips_app {K : PySem.W.Frag} {o n m : Nat} : ∀ {xs ys : List RD}, Trips K o n xs → Trips K (o + n) m ys → Trips K o (n + m) (xs ++ ys) := by
  intro xs
  induction xs generalizing o n with
  | nil =>
    intro ys h t
    obtain ⟨rfl, _⟩ := h
    rw [List.length_nil, Nat.zero_add]
    exact t
  | cons x xs ih =>
    intro ys h t
    obtain ⟨rfl, h2⟩ := h
    rw [List.length_cons, Nat.add_right_comm]
    refine trips_cons (h2 0 x rfl) (ih ⟨rfl, fun i y e => ?_⟩ ?_)
    · have := h2 (i + 1) y (by simpa using e)
      rw [← Nat.add_assoc, Nat.add_right_comm] at this
      exact this
    · rw [List.length_cons, ← Nat.add_assoc, Nat.add_right_comm] at t
      exact t
theorem ed_tupR' {F : Fm} {X : XW} {δ : DSt} {Xp : XP} {P : DV → Prop} {ta : TA} (h : EA F X ta δ Xp fun xs => ∃ ys, ToR xs ys ∧ ys.length ≤ 100000 ∧ P (DR (.tup ys))) : ED F X (tTupR ta) δ Xp P := ed_tupR h
theorem ed_lstR' {F : Fm} {X : XW} {δ : DSt} {Xp : XP} {P : DV → Prop} {ta : TA} (h : EA F X ta δ Xp fun xs => ∃ ys, ToR xs ys ∧ ys.length ≤ 100000 ∧ P (DR (.lst ys))) : ED F X (tLstR ta) δ Xp P := ed_lstR h
theorem xfn {K : PySem.W.Frag} (hk : Kit K) (i : Nat) {f : Str} (hi : i < 26 := by decide) (hf : f ∈ fns := by decide +kernel) : XfC K (ca K i) ∧ PySem.W.findIn K (.ref (ca K i)) f = some none := ⟨hk.xf i hi, hk.nf i hi f hf⟩
theorem xat_fin {A : Prop} {K : PySem.W.Frag} (hk : Kit K) (i : Nat) {f : Str} (h : A) (hi : i < 26 := by decide) (hf : f ∈ fns := by decide +kernel) : A ∧ XfC K (ca K i) ∧ PySem.W.findIn K (.ref (ca K i)) f = some none := ⟨h, xfn hk i hi hf⟩
theorem dg_nameE {F : Fm} {δ : DSt} {i : Nat} {C : Addr} {fs : List (Str × PyData)} {N : DSt → Prop} (k : N (δ.set i (some (DR (.e C fs))))) : DG F (gName i) (toV (.e C fs)) δ N := dg_name trivial k
theorem dg_nameR {F : Fm} {δ : DSt} {i : Nat} {x : RD} {N : DSt → Prop} (k : N (δ.set i (some (DR x)))) : DG F (gName i) (DR x) δ N := dg_name trivial k
theorem ws_asgR {F : Fm} {X : XK} {δ : DSt} {Xp : XP} {E : DE} {i : Nat} {te : TE} (h : ED F (fun _ => X) te δ Xp fun x => Plain x ∧ E.nx (δ.set i (some x))) : WS F X (tAsg te (gName i)) δ Xp E := ws_asg h
theorem and_plr {A : Prop} {x : RD} (h : A) : Plain (DR x) ∧ A := ⟨trivial, h⟩
theorem ed_newK {F : Fm} {X : XW} {δ : DSt} {Xp : XP} {P : DV → Prop} {ta : TA} {C : Addr} {names : List Str} (h : EA F X ta δ Xp fun xs => ∃ ys, toD xs = some ys ∧ ys.length = names.length ∧ P (DR (.e C (names.zip ys).reverse))) (hn : names.length ≤ 1000 := by decide) : ED F X (tNewX C (spInit C names) [] ta) δ Xp P := ed_newX hn h
local macro_rules | `(tactic| walk_at "dl-ed") => `(tactic| first
  | with_reducible refine ed_tupR' ?_
  | with_reducible refine ed_lstR' ?_
  | with_reducible refine ed_newK ?_
  | with_reducible refine ed_new0 ?_
  | fail)
local macro_rules | `(tactic| walk_at "dl1") => `(tactic| first
  | (refine r_fin ?_ (Nat.le_of_ble_eq_true rfl))
  | (refine ⟨_, rfl, rfl, ?_⟩)
  | (refine seq_fin (by rfl) ?_ (Nat.le_of_ble_eq_true rfl))
  | (refine dg_tupR rfl ?_)
  | (refine dgr_cons ?_)
  | (refine dgr_nil ?_)
  | (with_reducible refine ws_asgG ?_)
  | (refine dg_nameE ?_)
  | (with_reducible refine dg_nameR ?_)
  | (with_reducible refine ed_xat ?_)
  | (refine ⟨_, _, _, rfl, rfl, ?_⟩)
  | (with_reducible refine and_plr ?_)
  | walk_at "xat"
  | fail)
local macro_rules | `(tactic| walk_at "xat") => `(tactic| first
  | refine xat_fin (by assumption) 0 ?_
  | refine xat_fin (by assumption) 2 ?_
  | refine xat_fin (by assumption) 3 ?_
  | refine xat_fin (by assumption) 4 ?_
  | refine xat_fin (by assumption) 5 ?_
  | refine xat_fin (by assumption) 6 ?_
  | refine xat_fin (by assumption) 7 ?_
  | refine xat_fin (by assumption) 8 ?_
  | refine xat_fin (by assumption) 9 ?_
  | refine xat_fin (by assumption) 14 ?_
  | refine xat_fin (by assumption) 15 ?_
  | refine xat_fin (by assumption) 16 ?_
  | refine xat_fin (by assumption) 19 ?_
  | refine xat_fin (by assumption) 21 ?_
  | refine xat_fin (by assumption) 22 ?_
  | refine xat_fin (by assumption) 23 ?_
  | fail)
local macro_rules | `(tactic| walk_at "dl-d2") => `(tactic| first
  | (with_reducible refine d2_addR ?_ (Nat.le_of_ble_eq_true rfl))
  | fail)
local macro_rules | `(tactic| walk_at "sh0") => `(tactic| simp [SeqAt.shaped, PyData.canLay0, PyData.canLayAll0, PyData.depth, PyData.depthAll, *])
def T__law_first (K : PySem.W.Frag) : TD := fun ds Xp P => ∃ (a t : Int) (w : Str) (p : Rt), ds = [DI a, DI t, DS w, .d (rt p)] ∧ PyData.strOk w = true ∧ ∀ xs, Trips K 0 10 xs → P (DR (.lst xs))
abbrev sp__law_first (K : PySem.W.Frag) : Sp := spT K 4 (T__law_first K)
def t__law_first (K : PySem.W.Frag) : TS := tSeq (tAsg (tTupR (tCons (tNewX (He.ga K "BadRatio") (spInit (He.ga K "BadRatio") ["what"]) [] (tCons (tVar 2) (tNil))) (tCons (tNewX (He.ga K "Pole") (spInit (He.ga K "Pole") ["at"]) [] (tCons (tVar 3) (tNil))) (tCons (tNewX (He.ga K "BadElement") (spInit (He.ga K "BadElement") ["index"]) [] (tCons (tVar 0) (tNil))) (tCons (tNewX (He.ga K "BadText") (spInit (He.ga K "BadText") ["line", "what"]) [] (tCons (tVar 0) (tCons (tVar 2) (tNil)))) (tCons (tNewX (He.ga K "BadTower") (spInit (He.ga K "BadTower") ["what", "place"]) [] (tCons (tVar 2) (tCons (tVar 1) (tNil)))) (tNil))))))) (gTup K 5 (gCons (gName 4) (gCons (gName 5) (gCons (gName 6) (gCons (gName 7) (gCons (gName 8) (gNil)))))))) (tSeq (tAsg (tTupR (tCons (tNewX (He.ga K "NoPlace") (spInit (He.ga K "NoPlace") ["place"]) [] (tCons (tVar 0) (tNil))) (tCons (tNewX (He.ga K "NoLetter") (spInit (He.ga K "NoLetter") ["letter"]) [] (tCons (tVar 2) (tNil))) (tCons (tNewX (He.ga K "BadSystem") (spInit (He.ga K "BadSystem") ["what", "place"]) [] (tCons (tVar 2) (tCons (tVar 0) (tNil)))) (tCons (tNewX (He.ga K "TooMany") (spInit (He.ga K "TooMany") ["most"]) [] (tCons (tVar 1) (tNil))) (tNil)))))) (gTup K 4 (gCons (gName 9) (gCons (gName 10) (gCons (gName 11) (gCons (gName 12) (gNil))))))) (tSeq (tAsg (tLstR (tCons (tTupR (tCons (tVar 4) (tCons (tLst (tCons (tXat K "what" (tVar 4)) (tNil))) (tCons (tLst (tCons (tVar 2) (tNil))) (tNil))))) (tCons (tTupR (tCons (tNew0 (He.ga K "DividedByNought")) (tCons (tLst (tNil)) (tCons (tLst (tNil)) (tNil))))) (tCons (tTupR (tCons (tVar 5) (tCons (tLst (tCons (tXat K "at" (tVar 5)) (tNil))) (tCons (tLst (tCons (tVar 3) (tNil))) (tNil))))) (tCons (tTupR (tCons (tVar 6) (tCons (tLst (tCons (tXat K "index" (tVar 6)) (tNil))) (tCons (tLst (tCons (tVar 0) (tNil))) (tNil))))) (tNil)))))) (gName 13)) (tSeq (tAsg (tOp (rAddU K) (tVar 13) (tLstR (tCons (tTupR (tCons (tVar 7) (tCons (tLst (tCons (tXat K "line" (tVar 7)) (tCons (tXat K "what" (tVar 7)) (tNil)))) (tCons (tLst (tCons (tVar 0) (tCons (tVar 2) (tNil)))) (tNil))))) (tCons (tTupR (tCons (tVar 8) (tCons (tLst (tCons (tXat K "what" (tVar 8)) (tCons (tXat K "place" (tVar 8)) (tNil)))) (tCons (tLst (tCons (tVar 2) (tCons (tVar 1) (tNil)))) (tNil))))) (tCons (tTupR (tCons (tVar 9) (tCons (tLst (tCons (tXat K "place" (tVar 9)) (tNil))) (tCons (tLst (tCons (tVar 0) (tNil))) (tNil))))) (tNil)))))) (gName 13)) (tRet (tOp (rAddU K) (tVar 13) (tLstR (tCons (tTupR (tCons (tVar 10) (tCons (tLst (tCons (tXat K "letter" (tVar 10)) (tNil))) (tCons (tLst (tCons (tVar 2) (tNil))) (tNil))))) (tCons (tTupR (tCons (tVar 11) (tCons (tLst (tCons (tXat K "what" (tVar 11)) (tCons (tXat K "place" (tVar 11)) (tNil)))) (tCons (tLst (tCons (tVar 2) (tCons (tVar 0) (tNil)))) (tNil))))) (tCons (tTupR (tCons (tVar 12) (tCons (tLst (tCons (tXat K "most" (tVar 12)) (tNil))) (tCons (tLst (tCons (tVar 1) (tNil))) (tNil))))) (tNil))))))))))
theorem w__law_first (F : Fm) (hk : Kit F.K) (X : XK) (ds : List DV) (Xp : XP) (P : DV → Prop) (h : T__law_first F.K ds Xp P) : WS F X (t__law_first F.K) (startD 10 ds) Xp { nx := fun _ => P DN, rt := P } := by
  obtain ⟨a, t, w, p, rfl, ok, hP⟩ := h
  show WS F X _ [some (DI a), some (DI t), some (DS w), some (.d (rt p)), none, none, none, none, none, none, none, none, none, none] Xp _
  unfold t__law_first
  walk_at "dl"
  refine hP _ ?_
  repeat (first | exact trips_nil | refine trips_cons ⟨_, _, rfl, by walk_at "sh0"⟩ ?_)
end K0

namespace K0
open PySem L2 DL NF
local macro_rules | `(tactic| walk_at "dl-call") => `(tactic| fail)
local macro_rules | `(tactic| walk_at "dl-pl") => `(tactic| (repeat' (first | exact plains_nil | refine plains_cons trivial ?_)))
local macro_rules | `(tactic| walk_at "dl-ws") => `(tactic| first
  | with_reducible refine ws_seq ?_
  | with_reducible refine ws_asg ?_
  | with_reducible refine ws_ret ?_
  | with_reducible refine ws_if ?_
  | with_reducible refine ws_next ?_
  | with_reducible refine ws_asgG ?_
  | with_reducible refine ws_par ?_
  | with_reducible refine ws_drop ?_
  | with_reducible refine ws_brk ?_)
local macro_rules | `(tactic| walk_at "dl-ed") => `(tactic| first
  | with_reducible refine ed_var rfl ?_
  | with_reducible refine ed_int ?_
  | with_reducible refine ed_op ?_
  | with_reducible refine ed_call ?_
  | with_reducible refine ed_tup ?_
  | with_reducible refine ed_cb ?_
  | with_reducible refine ed_un ?_
  | with_reducible refine ed_lst ?_
  | with_reducible refine ed_str ?_
  | with_reducible refine ed_bl ?_
  | with_reducible refine ed_non ?_
  | with_reducible refine ed_if ?_
  | with_reducible refine ed_andV ?_
  | with_reducible refine ed_orV ?_
  | with_reducible refine ed_notV ?_
  | with_reducible refine ed_ref ?_
  | with_reducible refine ed_ty ?_
  | with_reducible refine ed_fmtI' ?_
  | with_reducible refine ed_joined ?_)
local macro_rules | `(tactic| walk_at "dl-ea") => `(tactic| first
  | with_reducible refine ea_cons ?_
  | with_reducible refine ea_nil ?_)
local macro_rules | `(tactic| walk_at "dl-et") => `(tactic| first
  | with_reducible refine et_tst ?_
  | with_reducible refine et_b ?_
  | with_reducible refine et_and ?_
  | with_reducible refine et_or ?_
  | with_reducible refine et_not ?_
  | with_reducible refine et_yes ?_)
local macro_rules | `(tactic| walk_at "dl-d2") => `(tactic| first
  | with_reducible refine d2_add ?_
  | with_reducible refine d2_ixT rfl ?_
  | with_reducible refine d2_ixL rfl ?_
  | with_reducible refine d2_eqI ?_
  | with_reducible refine d2_neI ?_
  | with_reducible refine d2_lt ?_
  | with_reducible refine d2_le ?_
  | with_reducible refine d2_gt ?_
  | with_reducible refine d2_ge ?_
  | with_reducible refine d2_sub ?_
  | with_reducible refine d2_mulS' ?_ ?_
  | with_reducible refine d2_div' ?_ ?_
  | with_reducible refine d2_mod' ?_ ?_
  | with_reducible refine d2_isN_i ?_
  | with_reducible refine d2_isNN_i ?_
  | with_reducible refine d2_isN_b ?_
  | with_reducible refine d2_isNN_b ?_
  | with_reducible refine d2_isN_n ?_
  | with_reducible refine d2_isNN_n ?_
  | with_reducible refine d2_isN_s ?_
  | with_reducible refine d2_isNN_s ?_
  | with_reducible refine d2_isN_l ?_
  | with_reducible refine d2_isNN_l ?_
  | with_reducible refine d2_isN_t ?_
  | with_reducible refine d2_isNN_t ?_
  | with_reducible refine d2_isB ?_
  | with_reducible refine d2_isNB ?_
  | with_reducible refine d2_addS' ?_ ?_
  | with_reducible refine d2_addL' ?_ ?_
  | with_reducible refine d2_isN ?_
  | with_reducible refine d2_isNN ?_)
local macro_rules | `(tactic| walk_at "dl-isi") => `(tactic| first
  | with_reducible refine dc_isi_i_int ?_
  | with_reducible refine dc_isi_i_bool ?_
  | with_reducible refine dc_isi_i_str ?_
  | with_reducible refine dc_isi_i_list ?_
  | with_reducible refine dc_isi_i_tuple ?_
  | with_reducible refine dc_isi_b_int ?_
  | with_reducible refine dc_isi_b_bool ?_
  | with_reducible refine dc_isi_b_str ?_
  | with_reducible refine dc_isi_b_list ?_
  | with_reducible refine dc_isi_b_tuple ?_
  | with_reducible refine dc_isi_n_int ?_
  | with_reducible refine dc_isi_n_bool ?_
  | with_reducible refine dc_isi_n_str ?_
  | with_reducible refine dc_isi_n_list ?_
  | with_reducible refine dc_isi_n_tuple ?_
  | with_reducible refine dc_isi_s_int ?_
  | with_reducible refine dc_isi_s_bool ?_
  | with_reducible refine dc_isi_s_str ?_
  | with_reducible refine dc_isi_s_list ?_
  | with_reducible refine dc_isi_s_tuple ?_
  | with_reducible refine dc_isi_l_int ?_
  | with_reducible refine dc_isi_l_bool ?_
  | with_reducible refine dc_isi_l_str ?_
  | with_reducible refine dc_isi_l_list ?_
  | with_reducible refine dc_isi_l_tuple ?_
  | with_reducible refine dc_isi_t_int ?_
  | with_reducible refine dc_isi_t_bool ?_
  | with_reducible refine dc_isi_t_str ?_
  | with_reducible refine dc_isi_t_list ?_
  | with_reducible refine dc_isi_t_tuple ?_
  | with_reducible refine dc_isi_d_int ?_
  | with_reducible refine dc_isi_d_bool ?_
  | with_reducible refine dc_isi_d_str ?_
  | with_reducible refine dc_isi_d_list ?_
  | with_reducible refine dc_isi_d_tuple ?_)
local macro_rules | `(tactic| walk_at "dl-dc") => `(tactic| first
  | with_reducible refine dc_int ?_
  | with_reducible refine dc_abs ?_
  | with_reducible refine dc_gcd ?_
  | with_reducible refine dc_lenT ?_
  | with_reducible refine dc_lenL ?_
  | with_reducible refine dc_strI' ?_ ?_
  | walk_at "dl-isi")
local macro_rules | `(tactic| walk_at "dl1") => `(tactic| first
  | (with_reducible show ED _ _ _ _ _ _; walk_at "dl-ed")
  | (with_reducible show WS _ _ _ _ _ _; walk_at "dl-ws")
  | (with_reducible show EA _ _ _ _ _ _; walk_at "dl-ea")
  | (with_reducible show D2 _ _ _ _ _; walk_at "dl-d2")
  | (with_reducible refine ⟨_, rfl, ?_⟩)
  | (with_reducible show ET _ _ _ _ _ _; walk_at "dl-et")
  | (with_reducible show DC _ _ _ _; walk_at "dl-dc")
  | with_reducible refine if_t ?_
  | with_reducible refine if_f ?_
  | with_reducible refine if_nt ?_
  | with_reducible refine if_nf ?_
  | with_reducible refine and_pl ?_
  | (with_reducible refine if_dec (fun _ => ?_) (fun _ => ?_))
  | (with_reducible refine if_ndec (fun _ => ?_) (fun _ => ?_))
  | (with_reducible refine if_bool (fun _ => ?_) (fun _ => ?_))
  | with_reducible refine d1_neg ?_
  | (refine tup_fin (by rfl) ?_ (Nat.le_of_ble_eq_true rfl))
  | (refine lst_fin (by rfl) ?_ (Nat.le_of_ble_eq_true rfl))
  | (with_reducible refine ⟨rfl, (by repeat (first | exact plains_nil | refine plains_d ?_ | refine plains_v ?_)), ?_⟩; walk_at "dl-call")
  | with_reducible refine and_plv ?_
  | with_reducible refine ej_cons ?_
  | with_reducible refine ej_nil ?_
  | (dsimp only [List.set]))
local macro_rules | `(tactic| walk_at "dl") => `(tactic| (walk_at "dl1" <;> try (walk_at "dl")))

local macro_rules | `(tactic| walk_at "dl-call") => `(tactic| first | refine u_lowest_terms ?_ ?_ ?_ | refine u_make_ratio ?_ ?_ ?_ | refine u_ratio_plus ?_ ?_ ?_ | refine u_ratio_minus ?_ ?_ ?_ | refine u_ratio_times ?_ ?_ ?_ | refine u_ratio_text ?_ ?_ | refine u_ratio_compare ?_ ?_ ?_ | refine u_ratio_negative ?_ | refine u_is_ratio ?_ | fail)
local macro_rules | `(tactic| walk_at "dl-ed") => `(tactic| first
  | with_reducible refine ed_wh1 ?_
  | with_reducible refine ed_wh2 ?_
  | with_reducible refine ed_draw ?_
  | with_reducible refine ed_number ?_
  | fail)
local macro_rules | `(tactic| walk_at "dl-ws") => `(tactic| first
  | with_reducible refine ws_raiseI (by decide) ?_
  | with_reducible refine ws_raise0 ?_
  | with_reducible refine ws_forSeq ?_
  | with_reducible refine ws_forR1 ?_
  | fail)
local macro_rules | `(tactic| walk_at "dl-d2") => `(tactic| first
  | with_reducible refine d2_mul' ?_ ?_
  | with_reducible refine d2_pow' ?_ ?_
  | fail)
local macro_rules | `(tactic| walk_at "dl1") => `(tactic| first
  | with_reducible refine draw_and (fun _ _ _ => ?_) ?_ ?_
  | with_reducible refine num_and rfl (fun _ _ => ?_)
  | refine ⟨_, _, rfl, ?_⟩
  | fail)

local macro_rules | `(tactic| walk_at "dl-ed") => `(tactic| first
  | with_reducible refine ed_tupR' ?_
  | with_reducible refine ed_lstR' ?_
  | with_reducible refine ed_newK ?_
  | with_reducible refine ed_new0 ?_
  | fail)
local macro_rules | `(tactic| walk_at "dl1") => `(tactic| first
  | (refine r_fin ?_ (Nat.le_of_ble_eq_true rfl))
  | (refine ⟨_, rfl, rfl, ?_⟩)
  | (refine seq_fin (by rfl) ?_ (Nat.le_of_ble_eq_true rfl))
  | (refine dg_tupR rfl ?_)
  | (refine dgr_cons ?_)
  | (refine dgr_nil ?_)
  | (with_reducible refine ws_asgG ?_)
  | (refine dg_nameE ?_)
  | (with_reducible refine dg_nameR ?_)
  | (with_reducible refine ed_xat ?_)
  | (refine ⟨_, _, _, rfl, rfl, ?_⟩)
  | (with_reducible refine and_plr ?_)
  | walk_at "xat"
  | fail)
local macro_rules | `(tactic| walk_at "xat") => `(tactic| first
  | refine xat_fin (by assumption) 0 ?_
  | refine xat_fin (by assumption) 2 ?_
  | refine xat_fin (by assumption) 3 ?_
  | refine xat_fin (by assumption) 4 ?_
  | refine xat_fin (by assumption) 5 ?_
  | refine xat_fin (by assumption) 6 ?_
  | refine xat_fin (by assumption) 7 ?_
  | refine xat_fin (by assumption) 8 ?_
  | refine xat_fin (by assumption) 9 ?_
  | refine xat_fin (by assumption) 14 ?_
  | refine xat_fin (by assumption) 15 ?_
  | refine xat_fin (by assumption) 16 ?_
  | refine xat_fin (by assumption) 19 ?_
  | refine xat_fin (by assumption) 21 ?_
  | refine xat_fin (by assumption) 22 ?_
  | refine xat_fin (by assumption) 23 ?_
  | fail)
local macro_rules | `(tactic| walk_at "dl-d2") => `(tactic| first
  | (with_reducible refine d2_addR ?_ (Nat.le_of_ble_eq_true rfl))
  | fail)
local macro_rules | `(tactic| walk_at "sh0") => `(tactic| simp [SeqAt.shaped, PyData.canLay0, PyData.canLayAll0, PyData.depth, PyData.depthAll, *])

theorem ws_par3 {F : Fm} {X : XK} {δ : DSt} {Xp : XP} {E : DE} {i j k : Nat} {ta : TA} (h : EA F (fun _ => X) ta δ Xp fun xs => ∃ x y z, xs = [x, y, z] ∧ Plain x ∧ Plain y ∧ Plain z ∧ E.nx (((δ.set i (some x)).set j (some y)).set k (some z))) : WS F X (tPar3 i j k ta) δ Xp E := fun B σ H G D w s =>
  h σ H G w.cur _ fun us xs H1 G1 s1 r1 ⟨x, y, z, e, px, py, pz, p⟩ => by
    subst e
    match us, r1 with
    | [u, v, q], ⟨r2, r3, r4, _⟩ => exact ⟨u, v, q, rfl, s.nx _ _ H1 G1 (w.st.go s1) (sl_set (sl_set (sl_set (w.sl.step s1) px r2) py r3) pz r4) p⟩
    | [], r1 => exact r1.elim
    | [_], r1 => exact r1.2.elim
    | [_, _], r1 => exact r1.2.2.elim
    | _ :: _ :: _ :: _ :: _, r1 => exact r1.2.2.2.elim
local macro_rules | `(tactic| walk_at "dl-ws") => `(tactic| first
  | (with_reducible refine ws_par3 ?_)
  | fail)
local macro_rules | `(tactic| walk_at "dl1") => `(tactic| first
  | (refine ⟨_, _, _, rfl, trivial, trivial, trivial, ?_⟩)
  | fail)
def T__law_second (K : PySem.W.Frag) : TD := fun ds Xp P => ∃ (a t : Int) (w : Str) (p : Rt), ds = [DI a, DI t, DS w, .d (rt p)] ∧ PyData.strOk w = true ∧ ∀ xs, Trips K 10 15 xs → P (DR (.lst xs))
abbrev sp__law_second (K : PySem.W.Frag) : Sp := spT K 4 (T__law_second K)
def t__law_second (K : PySem.W.Frag) : TS := tSeq (tAsg (tTupR (tCons (tNewX (He.ga K "BadProgram") (spInit (He.ga K "BadProgram") ["line", "what"]) [] (tCons (tVar 0) (tCons (tVar 2) (tNil)))) (tCons (tNewX (He.ga K "BadPoint") (spInit (He.ga K "BadPoint") ["index", "what"]) [] (tCons (tVar 1) (tCons (tVar 2) (tNil)))) (tCons (tNewX (He.ga K "LackingLetter") (spInit (He.ga K "LackingLetter") ["letter"]) [] (tCons (tVar 2) (tNil))) (tCons (tNewX (He.ga K "NoMark") (spInit (He.ga K "NoMark") ["mark"]) [] (tCons (tVar 2) (tNil))) (tNil)))))) (gTup K 4 (gCons (gName 4) (gCons (gName 5) (gCons (gName 6) (gCons (gName 7) (gNil))))))) (tSeq (tPar3 8 9 10 (tCons (tNewX (He.ga K "BadSaying") (spInit (He.ga K "BadSaying") ["what"]) [] (tCons (tVar 2) (tNil))) (tCons (tNewX (He.ga K "BadPrefix") (spInit (He.ga K "BadPrefix") ["many"]) [] (tCons (tVar 0) (tNil))) (tCons (tNewX (He.ga K "BadLot") (spInit (He.ga K "BadLot") ["what"]) [] (tCons (tVar 2) (tNil))) (tNil))))) (tSeq (tAsg (tLstR (tCons (tTupR (tCons (tNew0 (He.ga K "OtherLetters")) (tCons (tLst (tNil)) (tCons (tLst (tNil)) (tNil))))) (tCons (tTupR (tCons (tNew0 (He.ga K "NotMonic")) (tCons (tLst (tNil)) (tCons (tLst (tNil)) (tNil))))) (tCons (tTupR (tCons (tNew0 (He.ga K "ZeroNote")) (tCons (tLst (tNil)) (tCons (tLst (tNil)) (tNil))))) (tCons (tTupR (tCons (tNew0 (He.ga K "HasFree")) (tCons (tLst (tNil)) (tCons (tLst (tNil)) (tNil))))) (tNil)))))) (gName 11)) (tSeq (tAsg (tOp (rAddU K) (tVar 11) (tLstR (tCons (tTupR (tCons (tVar 4) (tCons (tLst (tCons (tXat K "line" (tVar 4)) (tCons (tXat K "what" (tVar 4)) (tNil)))) (tCons (tLst (tCons (tVar 0) (tCons (tVar 2) (tNil)))) (tNil))))) (tCons (tTupR (tCons (tVar 5) (tCons (tLst (tCons (tXat K "index" (tVar 5)) (tCons (tXat K "what" (tVar 5)) (tNil)))) (tCons (tLst (tCons (tVar 1) (tCons (tVar 2) (tNil)))) (tNil))))) (tCons (tTupR (tCons (tVar 6) (tCons (tLst (tCons (tXat K "letter" (tVar 6)) (tNil))) (tCons (tLst (tCons (tVar 2) (tNil))) (tNil))))) (tNil)))))) (gName 11)) (tSeq (tAsg (tOp (rAddU K) (tVar 11) (tLstR (tCons (tTupR (tCons (tNew0 (He.ga K "NoPoint")) (tCons (tLst (tNil)) (tCons (tLst (tNil)) (tNil))))) (tCons (tTupR (tCons (tNew0 (He.ga K "NotOne")) (tCons (tLst (tNil)) (tCons (tLst (tNil)) (tNil))))) (tCons (tTupR (tCons (tVar 7) (tCons (tLst (tCons (tXat K "mark" (tVar 7)) (tNil))) (tCons (tLst (tCons (tVar 2) (tNil))) (tNil))))) (tCons (tTupR (tCons (tNew0 (He.ga K "NoneMarked")) (tCons (tLst (tNil)) (tCons (tLst (tNil)) (tNil))))) (tNil))))))) (gName 11)) (tRet (tOp (rAddU K) (tVar 11) (tLstR (tCons (tTupR (tCons (tVar 8) (tCons (tLst (tCons (tXat K "what" (tVar 8)) (tNil))) (tCons (tLst (tCons (tVar 2) (tNil))) (tNil))))) (tCons (tTupR (tCons (tVar 9) (tCons (tLst (tCons (tXat K "many" (tVar 9)) (tNil))) (tCons (tLst (tCons (tVar 0) (tNil))) (tNil))))) (tCons (tTupR (tCons (tVar 10) (tCons (tLst (tCons (tXat K "what" (tVar 10)) (tNil))) (tCons (tLst (tCons (tVar 2) (tNil))) (tNil))))) (tCons (tTupR (tCons (tNew0 (He.ga K "NoFree")) (tCons (tLst (tNil)) (tCons (tLst (tNil)) (tNil))))) (tNil))))))))))))
theorem w__law_second (F : Fm) (hk : Kit F.K) (X : XK) (ds : List DV) (Xp : XP) (P : DV → Prop) (h : T__law_second F.K ds Xp P) : WS F X (t__law_second F.K) (startD 8 ds) Xp { nx := fun _ => P DN, rt := P } := by
  obtain ⟨a, t, w, p, rfl, ok, hP⟩ := h
  show WS F X _ [some (DI a), some (DI t), some (DS w), some (.d (rt p)), none, none, none, none, none, none, none, none] Xp _
  unfold t__law_second
  walk_at "dl"
  refine hP _ ?_
  repeat (first | exact trips_nil | refine trips_cons ⟨_, _, rfl, by walk_at "sh0"⟩ ?_)
end K0

namespace K0
open PySem L2 DL NF
local macro_rules | `(tactic| walk_at "dl-call") => `(tactic| fail)
local macro_rules | `(tactic| walk_at "dl-pl") => `(tactic| (repeat' (first | exact plains_nil | refine plains_cons trivial ?_)))
local macro_rules | `(tactic| walk_at "dl-ws") => `(tactic| first
  | with_reducible refine ws_seq ?_
  | with_reducible refine ws_asg ?_
  | with_reducible refine ws_ret ?_
  | with_reducible refine ws_if ?_
  | with_reducible refine ws_next ?_
  | with_reducible refine ws_asgG ?_
  | with_reducible refine ws_par ?_
  | with_reducible refine ws_drop ?_
  | with_reducible refine ws_brk ?_)
local macro_rules | `(tactic| walk_at "dl-ed") => `(tactic| first
  | with_reducible refine ed_var rfl ?_
  | with_reducible refine ed_int ?_
  | with_reducible refine ed_op ?_
  | with_reducible refine ed_call ?_
  | with_reducible refine ed_tup ?_
  | with_reducible refine ed_cb ?_
  | with_reducible refine ed_un ?_
  | with_reducible refine ed_lst ?_
  | with_reducible refine ed_str ?_
  | with_reducible refine ed_bl ?_
  | with_reducible refine ed_non ?_
  | with_reducible refine ed_if ?_
  | with_reducible refine ed_andV ?_
  | with_reducible refine ed_orV ?_
  | with_reducible refine ed_notV ?_
  | with_reducible refine ed_ref ?_
  | with_reducible refine ed_ty ?_
  | with_reducible refine ed_fmtI' ?_
  | with_reducible refine ed_joined ?_)
local macro_rules | `(tactic| walk_at "dl-ea") => `(tactic| first
  | with_reducible refine ea_cons ?_
  | with_reducible refine ea_nil ?_)
local macro_rules | `(tactic| walk_at "dl-et") => `(tactic| first
  | with_reducible refine et_tst ?_
  | with_reducible refine et_b ?_
  | with_reducible refine et_and ?_
  | with_reducible refine et_or ?_
  | with_reducible refine et_not ?_
  | with_reducible refine et_yes ?_)
local macro_rules | `(tactic| walk_at "dl-d2") => `(tactic| first
  | with_reducible refine d2_add ?_
  | with_reducible refine d2_ixT rfl ?_
  | with_reducible refine d2_ixL rfl ?_
  | with_reducible refine d2_eqI ?_
  | with_reducible refine d2_neI ?_
  | with_reducible refine d2_lt ?_
  | with_reducible refine d2_le ?_
  | with_reducible refine d2_gt ?_
  | with_reducible refine d2_ge ?_
  | with_reducible refine d2_sub ?_
  | with_reducible refine d2_mulS' ?_ ?_
  | with_reducible refine d2_div' ?_ ?_
  | with_reducible refine d2_mod' ?_ ?_
  | with_reducible refine d2_isN_i ?_
  | with_reducible refine d2_isNN_i ?_
  | with_reducible refine d2_isN_b ?_
  | with_reducible refine d2_isNN_b ?_
  | with_reducible refine d2_isN_n ?_
  | with_reducible refine d2_isNN_n ?_
  | with_reducible refine d2_isN_s ?_
  | with_reducible refine d2_isNN_s ?_
  | with_reducible refine d2_isN_l ?_
  | with_reducible refine d2_isNN_l ?_
  | with_reducible refine d2_isN_t ?_
  | with_reducible refine d2_isNN_t ?_
  | with_reducible refine d2_isB ?_
  | with_reducible refine d2_isNB ?_
  | with_reducible refine d2_addS' ?_ ?_
  | with_reducible refine d2_addL' ?_ ?_
  | with_reducible refine d2_isN ?_
  | with_reducible refine d2_isNN ?_)
local macro_rules | `(tactic| walk_at "dl-isi") => `(tactic| first
  | with_reducible refine dc_isi_i_int ?_
  | with_reducible refine dc_isi_i_bool ?_
  | with_reducible refine dc_isi_i_str ?_
  | with_reducible refine dc_isi_i_list ?_
  | with_reducible refine dc_isi_i_tuple ?_
  | with_reducible refine dc_isi_b_int ?_
  | with_reducible refine dc_isi_b_bool ?_
  | with_reducible refine dc_isi_b_str ?_
  | with_reducible refine dc_isi_b_list ?_
  | with_reducible refine dc_isi_b_tuple ?_
  | with_reducible refine dc_isi_n_int ?_
  | with_reducible refine dc_isi_n_bool ?_
  | with_reducible refine dc_isi_n_str ?_
  | with_reducible refine dc_isi_n_list ?_
  | with_reducible refine dc_isi_n_tuple ?_
  | with_reducible refine dc_isi_s_int ?_
  | with_reducible refine dc_isi_s_bool ?_
  | with_reducible refine dc_isi_s_str ?_
  | with_reducible refine dc_isi_s_list ?_
  | with_reducible refine dc_isi_s_tuple ?_
  | with_reducible refine dc_isi_l_int ?_
  | with_reducible refine dc_isi_l_bool ?_
  | with_reducible refine dc_isi_l_str ?_
  | with_reducible refine dc_isi_l_list ?_
  | with_reducible refine dc_isi_l_tuple ?_
  | with_reducible refine dc_isi_t_int ?_
  | with_reducible refine dc_isi_t_bool ?_
  | with_reducible refine dc_isi_t_str ?_
  | with_reducible refine dc_isi_t_list ?_
  | with_reducible refine dc_isi_t_tuple ?_
  | with_reducible refine dc_isi_d_int ?_
  | with_reducible refine dc_isi_d_bool ?_
  | with_reducible refine dc_isi_d_str ?_
  | with_reducible refine dc_isi_d_list ?_
  | with_reducible refine dc_isi_d_tuple ?_)
local macro_rules | `(tactic| walk_at "dl-dc") => `(tactic| first
  | with_reducible refine dc_int ?_
  | with_reducible refine dc_abs ?_
  | with_reducible refine dc_gcd ?_
  | with_reducible refine dc_lenT ?_
  | with_reducible refine dc_lenL ?_
  | with_reducible refine dc_strI' ?_ ?_
  | walk_at "dl-isi")
local macro_rules | `(tactic| walk_at "dl1") => `(tactic| first
  | (with_reducible show ED _ _ _ _ _ _; walk_at "dl-ed")
  | (with_reducible show WS _ _ _ _ _ _; walk_at "dl-ws")
  | (with_reducible show EA _ _ _ _ _ _; walk_at "dl-ea")
  | (with_reducible show D2 _ _ _ _ _; walk_at "dl-d2")
  | (with_reducible refine ⟨_, rfl, ?_⟩)
  | (with_reducible show ET _ _ _ _ _ _; walk_at "dl-et")
  | (with_reducible show DC _ _ _ _; walk_at "dl-dc")
  | with_reducible refine if_t ?_
  | with_reducible refine if_f ?_
  | with_reducible refine if_nt ?_
  | with_reducible refine if_nf ?_
  | with_reducible refine and_pl ?_
  | (with_reducible refine if_dec (fun _ => ?_) (fun _ => ?_))
  | (with_reducible refine if_ndec (fun _ => ?_) (fun _ => ?_))
  | (with_reducible refine if_bool (fun _ => ?_) (fun _ => ?_))
  | with_reducible refine d1_neg ?_
  | (refine tup_fin (by rfl) ?_ (Nat.le_of_ble_eq_true rfl))
  | (refine lst_fin (by rfl) ?_ (Nat.le_of_ble_eq_true rfl))
  | (with_reducible refine ⟨rfl, (by repeat (first | exact plains_nil | refine plains_d ?_ | refine plains_v ?_)), ?_⟩; walk_at "dl-call")
  | with_reducible refine and_plv ?_
  | with_reducible refine ej_cons ?_
  | with_reducible refine ej_nil ?_
  | (dsimp only [List.set]))
local macro_rules | `(tactic| walk_at "dl") => `(tactic| (walk_at "dl1" <;> try (walk_at "dl")))

local macro_rules | `(tactic| walk_at "dl-call") => `(tactic| first | refine u_lowest_terms ?_ ?_ ?_ | refine u_make_ratio ?_ ?_ ?_ | refine u_ratio_plus ?_ ?_ ?_ | refine u_ratio_minus ?_ ?_ ?_ | refine u_ratio_times ?_ ?_ ?_ | refine u_ratio_text ?_ ?_ | refine u_ratio_compare ?_ ?_ ?_ | refine u_ratio_negative ?_ | refine u_is_ratio ?_ | fail)
local macro_rules | `(tactic| walk_at "dl-ed") => `(tactic| first
  | with_reducible refine ed_wh1 ?_
  | with_reducible refine ed_wh2 ?_
  | with_reducible refine ed_draw ?_
  | with_reducible refine ed_number ?_
  | fail)
local macro_rules | `(tactic| walk_at "dl-ws") => `(tactic| first
  | with_reducible refine ws_raiseI (by decide) ?_
  | with_reducible refine ws_raise0 ?_
  | with_reducible refine ws_forSeq ?_
  | with_reducible refine ws_forR1 ?_
  | fail)
local macro_rules | `(tactic| walk_at "dl-d2") => `(tactic| first
  | with_reducible refine d2_mul' ?_ ?_
  | with_reducible refine d2_pow' ?_ ?_
  | fail)
local macro_rules | `(tactic| walk_at "dl1") => `(tactic| first
  | with_reducible refine draw_and (fun _ _ _ => ?_) ?_ ?_
  | with_reducible refine num_and rfl (fun _ _ => ?_)
  | refine ⟨_, _, rfl, ?_⟩
  | fail)

def clsL (i : Nat) : List PyData := (List.range 25).map fun j => .bool (i == j)
def T__law_classes (K : PySem.W.Frag) : TD := fun ds Xp P => ∃ (i : Nat) (fs : List (Str × PyData)), ds = [DR (.e (ca K i) fs)] ∧ i < 26 ∧ P (.d (.list (clsL i)))
abbrev sp__law_classes (K : PySem.W.Frag) : Sp := spT K 1 (T__law_classes K)
def t__law_classes (K : PySem.W.Frag) : TS := tSeq (tAsg (tLst (tCons (tCB (rIsV K) (tCons (tVar 0) (tCons (tC (.ref (He.ga K "BadRatio"))) (tNil)))) (tCons (tCB (rIsV K) (tCons (tVar 0) (tCons (tC (.ref (He.ga K "DividedByNought"))) (tNil)))) (tCons (tCB (rIsV K) (tCons (tVar 0) (tCons (tC (.ref (He.ga K "Pole"))) (tNil)))) (tCons (tCB (rIsV K) (tCons (tVar 0) (tCons (tC (.ref (He.ga K "BadElement"))) (tNil)))) (tNil)))))) (gName 1)) (tSeq (tAsg (tOp (rAddU K) (tVar 1) (tLst (tCons (tCB (rIsV K) (tCons (tVar 0) (tCons (tC (.ref (He.ga K "BadText"))) (tNil)))) (tCons (tCB (rIsV K) (tCons (tVar 0) (tCons (tC (.ref (He.ga K "BadTower"))) (tNil)))) (tCons (tCB (rIsV K) (tCons (tVar 0) (tCons (tC (.ref (He.ga K "NoPlace"))) (tNil)))) (tCons (tCB (rIsV K) (tCons (tVar 0) (tCons (tC (.ref (He.ga K "NoLetter"))) (tNil)))) (tNil))))))) (gName 1)) (tSeq (tAsg (tOp (rAddU K) (tVar 1) (tLst (tCons (tCB (rIsV K) (tCons (tVar 0) (tCons (tC (.ref (He.ga K "BadSystem"))) (tNil)))) (tCons (tCB (rIsV K) (tCons (tVar 0) (tCons (tC (.ref (He.ga K "TooMany"))) (tNil)))) (tCons (tCB (rIsV K) (tCons (tVar 0) (tCons (tC (.ref (He.ga K "OtherLetters"))) (tNil)))) (tCons (tCB (rIsV K) (tCons (tVar 0) (tCons (tC (.ref (He.ga K "NotMonic"))) (tNil)))) (tNil))))))) (gName 1)) (tSeq (tAsg (tOp (rAddU K) (tVar 1) (tLst (tCons (tCB (rIsV K) (tCons (tVar 0) (tCons (tC (.ref (He.ga K "ZeroNote"))) (tNil)))) (tCons (tCB (rIsV K) (tCons (tVar 0) (tCons (tC (.ref (He.ga K "HasFree"))) (tNil)))) (tCons (tCB (rIsV K) (tCons (tVar 0) (tCons (tC (.ref (He.ga K "BadProgram"))) (tNil)))) (tCons (tCB (rIsV K) (tCons (tVar 0) (tCons (tC (.ref (He.ga K "BadPoint"))) (tNil)))) (tNil))))))) (gName 1)) (tSeq (tAsg (tOp (rAddU K) (tVar 1) (tLst (tCons (tCB (rIsV K) (tCons (tVar 0) (tCons (tC (.ref (He.ga K "LackingLetter"))) (tNil)))) (tCons (tCB (rIsV K) (tCons (tVar 0) (tCons (tC (.ref (He.ga K "NoPoint"))) (tNil)))) (tCons (tCB (rIsV K) (tCons (tVar 0) (tCons (tC (.ref (He.ga K "NotOne"))) (tNil)))) (tCons (tCB (rIsV K) (tCons (tVar 0) (tCons (tC (.ref (He.ga K "NoMark"))) (tNil)))) (tNil))))))) (gName 1)) (tSeq (tAsg (tOp (rAddU K) (tVar 1) (tLst (tCons (tCB (rIsV K) (tCons (tVar 0) (tCons (tC (.ref (He.ga K "NoneMarked"))) (tNil)))) (tCons (tCB (rIsV K) (tCons (tVar 0) (tCons (tC (.ref (He.ga K "BadSaying"))) (tNil)))) (tCons (tCB (rIsV K) (tCons (tVar 0) (tCons (tC (.ref (He.ga K "BadPrefix"))) (tNil)))) (tCons (tCB (rIsV K) (tCons (tVar 0) (tCons (tC (.ref (He.ga K "BadLot"))) (tNil)))) (tNil))))))) (gName 1)) (tRet (tOp (rAddU K) (tVar 1) (tLst (tCons (tCB (rIsV K) (tCons (tVar 0) (tCons (tC (.ref (He.ga K "NoFree"))) (tNil)))) (tNil))))))))))
theorem dc_isK {F : Fm} {P : DV → Prop} (hk : Kit F.K) {i : Nat} (hi : i < 26) (j : Nat) {fs : List (Str × PyData)} (p : P (DB (i == j))) (hj : j < 25 := by decide) : DC F (rIsV F.K) [DR (.e (ca F.K i) fs), .v (.ref (ca F.K j))] P := dc_isV p (.own _) (hk.exc i hi) (hk.kit i hi j hj)
local macro_rules | `(tactic| walk_at "dl-dc") => `(tactic| first
  | with_unfolding_all refine dc_isK (by assumption) (by assumption) 0 ?_
  | with_unfolding_all refine dc_isK (by assumption) (by assumption) 1 ?_
  | with_unfolding_all refine dc_isK (by assumption) (by assumption) 2 ?_
  | with_unfolding_all refine dc_isK (by assumption) (by assumption) 3 ?_
  | with_unfolding_all refine dc_isK (by assumption) (by assumption) 4 ?_
  | with_unfolding_all refine dc_isK (by assumption) (by assumption) 5 ?_
  | with_unfolding_all refine dc_isK (by assumption) (by assumption) 6 ?_
  | with_unfolding_all refine dc_isK (by assumption) (by assumption) 7 ?_
  | with_unfolding_all refine dc_isK (by assumption) (by assumption) 8 ?_
  | with_unfolding_all refine dc_isK (by assumption) (by assumption) 9 ?_
  | with_unfolding_all refine dc_isK (by assumption) (by assumption) 10 ?_
  | with_unfolding_all refine dc_isK (by assumption) (by assumption) 11 ?_
  | with_unfolding_all refine dc_isK (by assumption) (by assumption) 12 ?_
  | with_unfolding_all refine dc_isK (by assumption) (by assumption) 13 ?_
  | with_unfolding_all refine dc_isK (by assumption) (by assumption) 14 ?_
  | with_unfolding_all refine dc_isK (by assumption) (by assumption) 15 ?_
  | with_unfolding_all refine dc_isK (by assumption) (by assumption) 16 ?_
  | with_unfolding_all refine dc_isK (by assumption) (by assumption) 17 ?_
  | with_unfolding_all refine dc_isK (by assumption) (by assumption) 18 ?_
  | with_unfolding_all refine dc_isK (by assumption) (by assumption) 19 ?_
  | with_unfolding_all refine dc_isK (by assumption) (by assumption) 20 ?_
  | with_unfolding_all refine dc_isK (by assumption) (by assumption) 21 ?_
  | with_unfolding_all refine dc_isK (by assumption) (by assumption) 22 ?_
  | with_unfolding_all refine dc_isK (by assumption) (by assumption) 23 ?_
  | with_unfolding_all refine dc_isK (by assumption) (by assumption) 24 ?_
  | fail)
local macro_rules | `(tactic| walk_at "dl1") => `(tactic| first
  | (refine seq_fin (by rfl) ?_ (Nat.le_of_ble_eq_true rfl))
  | fail)
theorem w__law_classes (F : Fm) (hk : Kit F.K) (X : XK) (ds : List DV) (Xp : XP) (P : DV → Prop) (h : T__law_classes F.K ds Xp P) : WS F X (t__law_classes F.K) (startD 1 ds) Xp { nx := fun _ => P DN, rt := P } := by
  obtain ⟨i, fs, rfl, hi, hP⟩ := h
  show WS F X _ [some (DR (.e (ca F.K i) fs)), none] Xp _
  unfold t__law_classes
  walk_at "dl"
  all_goals first
    | exact hP
    | exact Nat.le_of_ble_eq_true rfl
    | trace_state
end K0

namespace K0
open PySem L2 DL NF
local macro_rules | `(tactic| walk_at "dl-call") => `(tactic| fail)
local macro_rules | `(tactic| walk_at "dl-pl") => `(tactic| (repeat' (first | exact plains_nil | refine plains_cons trivial ?_)))
local macro_rules | `(tactic| walk_at "dl-ws") => `(tactic| first
  | with_reducible refine ws_seq ?_
  | with_reducible refine ws_asg ?_
  | with_reducible refine ws_ret ?_
  | with_reducible refine ws_if ?_
  | with_reducible refine ws_next ?_
  | with_reducible refine ws_asgG ?_
  | with_reducible refine ws_par ?_
  | with_reducible refine ws_drop ?_
  | with_reducible refine ws_brk ?_)
local macro_rules | `(tactic| walk_at "dl-ed") => `(tactic| first
  | with_reducible refine ed_var rfl ?_
  | with_reducible refine ed_int ?_
  | with_reducible refine ed_op ?_
  | with_reducible refine ed_call ?_
  | with_reducible refine ed_tup ?_
  | with_reducible refine ed_cb ?_
  | with_reducible refine ed_un ?_
  | with_reducible refine ed_lst ?_
  | with_reducible refine ed_str ?_
  | with_reducible refine ed_bl ?_
  | with_reducible refine ed_non ?_
  | with_reducible refine ed_if ?_
  | with_reducible refine ed_andV ?_
  | with_reducible refine ed_orV ?_
  | with_reducible refine ed_notV ?_
  | with_reducible refine ed_ref ?_
  | with_reducible refine ed_ty ?_
  | with_reducible refine ed_fmtI' ?_
  | with_reducible refine ed_joined ?_)
local macro_rules | `(tactic| walk_at "dl-ea") => `(tactic| first
  | with_reducible refine ea_cons ?_
  | with_reducible refine ea_nil ?_)
local macro_rules | `(tactic| walk_at "dl-et") => `(tactic| first
  | with_reducible refine et_tst ?_
  | with_reducible refine et_b ?_
  | with_reducible refine et_and ?_
  | with_reducible refine et_or ?_
  | with_reducible refine et_not ?_
  | with_reducible refine et_yes ?_)
local macro_rules | `(tactic| walk_at "dl-d2") => `(tactic| first
  | with_reducible refine d2_add ?_
  | with_reducible refine d2_ixT rfl ?_
  | with_reducible refine d2_ixL rfl ?_
  | with_reducible refine d2_eqI ?_
  | with_reducible refine d2_neI ?_
  | with_reducible refine d2_lt ?_
  | with_reducible refine d2_le ?_
  | with_reducible refine d2_gt ?_
  | with_reducible refine d2_ge ?_
  | with_reducible refine d2_sub ?_
  | with_reducible refine d2_mulS' ?_ ?_
  | with_reducible refine d2_div' ?_ ?_
  | with_reducible refine d2_mod' ?_ ?_
  | with_reducible refine d2_isN_i ?_
  | with_reducible refine d2_isNN_i ?_
  | with_reducible refine d2_isN_b ?_
  | with_reducible refine d2_isNN_b ?_
  | with_reducible refine d2_isN_n ?_
  | with_reducible refine d2_isNN_n ?_
  | with_reducible refine d2_isN_s ?_
  | with_reducible refine d2_isNN_s ?_
  | with_reducible refine d2_isN_l ?_
  | with_reducible refine d2_isNN_l ?_
  | with_reducible refine d2_isN_t ?_
  | with_reducible refine d2_isNN_t ?_
  | with_reducible refine d2_isB ?_
  | with_reducible refine d2_isNB ?_
  | with_reducible refine d2_addS' ?_ ?_
  | with_reducible refine d2_addL' ?_ ?_
  | with_reducible refine d2_isN ?_
  | with_reducible refine d2_isNN ?_)
local macro_rules | `(tactic| walk_at "dl-isi") => `(tactic| first
  | with_reducible refine dc_isi_i_int ?_
  | with_reducible refine dc_isi_i_bool ?_
  | with_reducible refine dc_isi_i_str ?_
  | with_reducible refine dc_isi_i_list ?_
  | with_reducible refine dc_isi_i_tuple ?_
  | with_reducible refine dc_isi_b_int ?_
  | with_reducible refine dc_isi_b_bool ?_
  | with_reducible refine dc_isi_b_str ?_
  | with_reducible refine dc_isi_b_list ?_
  | with_reducible refine dc_isi_b_tuple ?_
  | with_reducible refine dc_isi_n_int ?_
  | with_reducible refine dc_isi_n_bool ?_
  | with_reducible refine dc_isi_n_str ?_
  | with_reducible refine dc_isi_n_list ?_
  | with_reducible refine dc_isi_n_tuple ?_
  | with_reducible refine dc_isi_s_int ?_
  | with_reducible refine dc_isi_s_bool ?_
  | with_reducible refine dc_isi_s_str ?_
  | with_reducible refine dc_isi_s_list ?_
  | with_reducible refine dc_isi_s_tuple ?_
  | with_reducible refine dc_isi_l_int ?_
  | with_reducible refine dc_isi_l_bool ?_
  | with_reducible refine dc_isi_l_str ?_
  | with_reducible refine dc_isi_l_list ?_
  | with_reducible refine dc_isi_l_tuple ?_
  | with_reducible refine dc_isi_t_int ?_
  | with_reducible refine dc_isi_t_bool ?_
  | with_reducible refine dc_isi_t_str ?_
  | with_reducible refine dc_isi_t_list ?_
  | with_reducible refine dc_isi_t_tuple ?_
  | with_reducible refine dc_isi_d_int ?_
  | with_reducible refine dc_isi_d_bool ?_
  | with_reducible refine dc_isi_d_str ?_
  | with_reducible refine dc_isi_d_list ?_
  | with_reducible refine dc_isi_d_tuple ?_)
local macro_rules | `(tactic| walk_at "dl-dc") => `(tactic| first
  | with_reducible refine dc_int ?_
  | with_reducible refine dc_abs ?_
  | with_reducible refine dc_gcd ?_
  | with_reducible refine dc_lenT ?_
  | with_reducible refine dc_lenL ?_
  | with_reducible refine dc_strI' ?_ ?_
  | walk_at "dl-isi")
local macro_rules | `(tactic| walk_at "dl1") => `(tactic| first
  | (with_reducible show ED _ _ _ _ _ _; walk_at "dl-ed")
  | (with_reducible show WS _ _ _ _ _ _; walk_at "dl-ws")
  | (with_reducible show EA _ _ _ _ _ _; walk_at "dl-ea")
  | (with_reducible show D2 _ _ _ _ _; walk_at "dl-d2")
  | (with_reducible refine ⟨_, rfl, ?_⟩)
  | (with_reducible show ET _ _ _ _ _ _; walk_at "dl-et")
  | (with_reducible show DC _ _ _ _; walk_at "dl-dc")
  | with_reducible refine if_t ?_
  | with_reducible refine if_f ?_
  | with_reducible refine if_nt ?_
  | with_reducible refine if_nf ?_
  | with_reducible refine and_pl ?_
  | (with_reducible refine if_dec (fun _ => ?_) (fun _ => ?_))
  | (with_reducible refine if_ndec (fun _ => ?_) (fun _ => ?_))
  | (with_reducible refine if_bool (fun _ => ?_) (fun _ => ?_))
  | with_reducible refine d1_neg ?_
  | (refine tup_fin (by rfl) ?_ (Nat.le_of_ble_eq_true rfl))
  | (refine lst_fin (by rfl) ?_ (Nat.le_of_ble_eq_true rfl))
  | (with_reducible refine ⟨rfl, (by repeat (first | exact plains_nil | refine plains_d ?_ | refine plains_v ?_)), ?_⟩; walk_at "dl-call")
  | with_reducible refine and_plv ?_
  | with_reducible refine ej_cons ?_
  | with_reducible refine ej_nil ?_
  | (dsimp only [List.set]))
local macro_rules | `(tactic| walk_at "dl") => `(tactic| (walk_at "dl1" <;> try (walk_at "dl")))

local macro_rules | `(tactic| walk_at "dl-call") => `(tactic| first | refine u_lowest_terms ?_ ?_ ?_ | refine u_make_ratio ?_ ?_ ?_ | refine u_ratio_plus ?_ ?_ ?_ | refine u_ratio_minus ?_ ?_ ?_ | refine u_ratio_times ?_ ?_ ?_ | refine u_ratio_text ?_ ?_ | refine u_ratio_compare ?_ ?_ ?_ | refine u_ratio_negative ?_ | refine u_is_ratio ?_ | fail)
local macro_rules | `(tactic| walk_at "dl-ed") => `(tactic| first
  | with_reducible refine ed_wh1 ?_
  | with_reducible refine ed_wh2 ?_
  | with_reducible refine ed_draw ?_
  | with_reducible refine ed_number ?_
  | fail)
local macro_rules | `(tactic| walk_at "dl-ws") => `(tactic| first
  | with_reducible refine ws_raiseI (by decide) ?_
  | with_reducible refine ws_raise0 ?_
  | with_reducible refine ws_forSeq ?_
  | with_reducible refine ws_forR1 ?_
  | fail)
local macro_rules | `(tactic| walk_at "dl-d2") => `(tactic| first
  | with_reducible refine d2_mul' ?_ ?_
  | with_reducible refine d2_pow' ?_ ?_
  | fail)
local macro_rules | `(tactic| walk_at "dl1") => `(tactic| first
  | with_reducible refine draw_and (fun _ _ _ => ?_) ?_ ?_
  | with_reducible refine num_and rfl (fun _ _ => ?_)
  | refine ⟨_, _, rfl, ?_⟩
  | fail)

def T__law_raised : TD := fun ds Xp P => ∃ (a t : Int) (w : Str), ds = [DI a, DI t, DS w] ∧ PyData.strOk w = true ∧ P (DB true)
abbrev sp__law_raised (K : PySem.W.Frag) : Sp := spT K 3 T__law_raised
def t__law_raised (K : PySem.W.Frag) : TS := tSeq (fun D σ H => (fun W => tRz W (tMkO (He.ga K "BadTower") (spInit (He.ga K "BadTower") ["what", "place"]) [] (tCons (tVar 2) (tCons (tVar 0) (tNil))))) (wCls K (fun _ _ _ _ => False) D [⟨.ref (He.ga K "RootError"), some 3, fun a cls d => tIfS (tOr (tNot (tB (tCB (rIsD K a cls d) (tCons (tVar 3) (tCons (tC (.ref (He.ga K "BadTower"))) (tNil)))))) (tB (tCB (rIsD K a cls d) (tCons (tVar 3) (tCons (tC (.ref (He.ga K "BadSystem"))) (tNil)))))) (tRet (tC (.bl false))) (tNext)⟩]) D σ H) (tSeq (fun D σ H => (fun W => tRz W (tMkK (He.ga K "BadText") 2 (spInit (He.ga K "BadText") ["line", "what"]) (fun vs zs => vs ++ zs) (tCons (tVar 0) (tCons (tVar 2) (tNil))))) (wCls K (fun _ _ _ _ => False) D [⟨.ref (He.ga K "NoPoint"), none, fun a cls d => tRet (tC (.bl false))⟩, ⟨.ref (He.ga K "BadText"), some 3, fun a cls d => tIfS (tOr (tTest (tOp (rNeD K) (tXf a cls d (He.ga K "BadText") "line" (tVar 3)) (tVar 0))) (tTest (tOp (rNeD K) (tXf a cls d (He.ga K "BadText") "what" (tVar 3)) (tVar 2)))) (tRet (tC (.bl false))) (tNext)⟩]) D σ H) (fun D σ H => (fun W => tRz W (tMkK (He.ga K "BadSystem") 2 (spInit (He.ga K "BadSystem") ["what", "place"]) (fun vs zs => vs ++ zs.reverse) (tCons (tVar 1) (tCons (tVar 2) (tNil))))) (wCls K (fun _ _ _ _ => False) D [⟨.ref (He.ga K "BadTower"), none, fun a cls d => tRet (tC (.bl false))⟩, ⟨.ref (He.ga K "BadSystem"), some 3, fun a cls d => tRet (tAndV (tOp (rEqD K) (tXf a cls d (He.ga K "BadSystem") "what" (tVar 3)) (tVar 2)) (tOp (rEqD K) (tXf a cls d (He.ga K "BadSystem") "place" (tVar 3)) (tVar 1)))⟩]) D σ H))
theorem dc_isDK {F : Fm} {P : DV → Prop} (hk : Kit F.K) (i j : Nat) {a d : Addr} {fs : List (Str × PyData)} (b : Bool) (p : P (DB b)) (hb : (i == j) = b := by rfl) (hi : i < 26 := by decide) (hj : j < 25 := by decide) : DC F (rIsD F.K a (.ref (ca F.K i)) (some d)) [.x a d fs, .v (.ref (ca F.K j))] P := by
  subst hb
  exact dc_isD p (.own _) (hk.exc i hi) (hk.kit i hi j hj)
theorem rev_dpa {K : PySem.W.Frag} {G : Hp} {us : List V} {ys : List PyData} (h : DpAll K G us ys) : DpAll K G us.reverse ys.reverse := by
  induction us generalizing ys with
  | nil =>
    cases h
    exact .nil
  | cons u us ih =>
    cases h with
    | cons r t =>
      rw [List.reverse_cons, List.reverse_cons]
      exact dpa_append (ih t) (.cons r .nil)
local macro_rules | `(tactic| walk_at "dl-ed") => `(tactic| first
  | (with_unfolding_all refine ed_xf rfl (by rfl) ?_)
  | fail)
local macro_rules | `(tactic| walk_at "dl-dc") => `(tactic| first
  | with_unfolding_all refine dc_isDK (by assumption) 5 5 true ?_
  | with_unfolding_all refine dc_isDK (by assumption) 5 8 false ?_
  | fail)
local macro_rules | `(tactic| walk_at "sh1") => `(tactic| simp [SeqAt.shaped, PyData.canLay0, PyData.canLayAll0, PyData.depth, PyData.depthAll, *])
local macro_rules | `(tactic| walk_at "dl-d2") => `(tactic| first
  | with_unfolding_all refine d2_eqR rfl (by rfl) ?_ (by walk_at "sh1")
  | with_unfolding_all refine d2_neR rfl (by rfl) ?_ (by walk_at "sh1")
  | fail)
theorem w__law_raised (F : Fm) (hk : Kit F.K) (X : XK) (ds : List DV) (Xp : XP) (P : DV → Prop) (h : T__law_raised ds Xp P) : WS F X (t__law_raised F.K) (startD 1 ds) Xp { nx := fun _ => P DN, rt := P } := by
  obtain ⟨a, t, w, rfl, ok, hP⟩ := h
  show WS F X _ [some (DI a), some (DI t), some (DS w), none] Xp _
  unfold t__law_raised
  refine ws_seq ?_
  refine ws_tryC (C := He.ga F.K "BadTower") (dmk_o (ys := [.str w, .int a]) (by decide) ?_) ⟨true, hk.e1, if_t fun q d => ?_⟩
  · walk_at "dl"
    exact ⟨rfl, rfl⟩
  dsimp only [List.set]
  walk_at "dl"
  refine ws_tryC (C := He.ga F.K "BadText") (dmk_k (names := ["line", "what"]) (ys := [.int a, .str w]) id id (fun _ _ => rfl) (fun h => h) rfl ?_) ⟨false, hk.e2, if_f ⟨true, hk.e3, if_t fun q d => ?_⟩⟩
  · walk_at "dl"
    exact ⟨rfl, rfl⟩
  dsimp only [List.set]
  walk_at "dl"
  refine ws_tryC (C := He.ga F.K "BadSystem") (dmk_k (names := ["what", "place"]) (ys := [.int t, .str w]) List.reverse List.reverse (fun _ _ => rfl) rev_dpa rfl ?_) ⟨false, hk.e4, if_f ⟨true, hk.e5, if_t fun q d => ?_⟩⟩
  · walk_at "dl"
    exact ⟨rfl, rfl⟩
  dsimp only [List.set]
  walk_at "dl"
  all_goals first
    | exact hP
    | trace_state
end K0

namespace K0
open PySem L2 DL NF
local macro_rules | `(tactic| walk_at "dl-call") => `(tactic| fail)
local macro_rules | `(tactic| walk_at "dl-pl") => `(tactic| (repeat' (first | exact plains_nil | refine plains_cons trivial ?_)))
local macro_rules | `(tactic| walk_at "dl-ws") => `(tactic| first
  | with_reducible refine ws_seq ?_
  | with_reducible refine ws_asg ?_
  | with_reducible refine ws_ret ?_
  | with_reducible refine ws_if ?_
  | with_reducible refine ws_next ?_
  | with_reducible refine ws_asgG ?_
  | with_reducible refine ws_par ?_
  | with_reducible refine ws_drop ?_
  | with_reducible refine ws_brk ?_)
local macro_rules | `(tactic| walk_at "dl-ed") => `(tactic| first
  | with_reducible refine ed_var rfl ?_
  | with_reducible refine ed_int ?_
  | with_reducible refine ed_op ?_
  | with_reducible refine ed_call ?_
  | with_reducible refine ed_tup ?_
  | with_reducible refine ed_cb ?_
  | with_reducible refine ed_un ?_
  | with_reducible refine ed_lst ?_
  | with_reducible refine ed_str ?_
  | with_reducible refine ed_bl ?_
  | with_reducible refine ed_non ?_
  | with_reducible refine ed_if ?_
  | with_reducible refine ed_andV ?_
  | with_reducible refine ed_orV ?_
  | with_reducible refine ed_notV ?_
  | with_reducible refine ed_ref ?_
  | with_reducible refine ed_ty ?_
  | with_reducible refine ed_fmtI' ?_
  | with_reducible refine ed_joined ?_)
local macro_rules | `(tactic| walk_at "dl-ea") => `(tactic| first
  | with_reducible refine ea_cons ?_
  | with_reducible refine ea_nil ?_)
local macro_rules | `(tactic| walk_at "dl-et") => `(tactic| first
  | with_reducible refine et_tst ?_
  | with_reducible refine et_b ?_
  | with_reducible refine et_and ?_
  | with_reducible refine et_or ?_
  | with_reducible refine et_not ?_
  | with_reducible refine et_yes ?_)
local macro_rules | `(tactic| walk_at "dl-d2") => `(tactic| first
  | with_reducible refine d2_add ?_
  | with_reducible refine d2_ixT rfl ?_
  | with_reducible refine d2_ixL rfl ?_
  | with_reducible refine d2_eqI ?_
  | with_reducible refine d2_neI ?_
  | with_reducible refine d2_lt ?_
  | with_reducible refine d2_le ?_
  | with_reducible refine d2_gt ?_
  | with_reducible refine d2_ge ?_
  | with_reducible refine d2_sub ?_
  | with_reducible refine d2_mulS' ?_ ?_
  | with_reducible refine d2_div' ?_ ?_
  | with_reducible refine d2_mod' ?_ ?_
  | with_reducible refine d2_isN_i ?_
  | with_reducible refine d2_isNN_i ?_
  | with_reducible refine d2_isN_b ?_
  | with_reducible refine d2_isNN_b ?_
  | with_reducible refine d2_isN_n ?_
  | with_reducible refine d2_isNN_n ?_
  | with_reducible refine d2_isN_s ?_
  | with_reducible refine d2_isNN_s ?_
  | with_reducible refine d2_isN_l ?_
  | with_reducible refine d2_isNN_l ?_
  | with_reducible refine d2_isN_t ?_
  | with_reducible refine d2_isNN_t ?_
  | with_reducible refine d2_isB ?_
  | with_reducible refine d2_isNB ?_
  | with_reducible refine d2_addS' ?_ ?_
  | with_reducible refine d2_addL' ?_ ?_
  | with_reducible refine d2_isN ?_
  | with_reducible refine d2_isNN ?_)
local macro_rules | `(tactic| walk_at "dl-isi") => `(tactic| first
  | with_reducible refine dc_isi_i_int ?_
  | with_reducible refine dc_isi_i_bool ?_
  | with_reducible refine dc_isi_i_str ?_
  | with_reducible refine dc_isi_i_list ?_
  | with_reducible refine dc_isi_i_tuple ?_
  | with_reducible refine dc_isi_b_int ?_
  | with_reducible refine dc_isi_b_bool ?_
  | with_reducible refine dc_isi_b_str ?_
  | with_reducible refine dc_isi_b_list ?_
  | with_reducible refine dc_isi_b_tuple ?_
  | with_reducible refine dc_isi_n_int ?_
  | with_reducible refine dc_isi_n_bool ?_
  | with_reducible refine dc_isi_n_str ?_
  | with_reducible refine dc_isi_n_list ?_
  | with_reducible refine dc_isi_n_tuple ?_
  | with_reducible refine dc_isi_s_int ?_
  | with_reducible refine dc_isi_s_bool ?_
  | with_reducible refine dc_isi_s_str ?_
  | with_reducible refine dc_isi_s_list ?_
  | with_reducible refine dc_isi_s_tuple ?_
  | with_reducible refine dc_isi_l_int ?_
  | with_reducible refine dc_isi_l_bool ?_
  | with_reducible refine dc_isi_l_str ?_
  | with_reducible refine dc_isi_l_list ?_
  | with_reducible refine dc_isi_l_tuple ?_
  | with_reducible refine dc_isi_t_int ?_
  | with_reducible refine dc_isi_t_bool ?_
  | with_reducible refine dc_isi_t_str ?_
  | with_reducible refine dc_isi_t_list ?_
  | with_reducible refine dc_isi_t_tuple ?_
  | with_reducible refine dc_isi_d_int ?_
  | with_reducible refine dc_isi_d_bool ?_
  | with_reducible refine dc_isi_d_str ?_
  | with_reducible refine dc_isi_d_list ?_
  | with_reducible refine dc_isi_d_tuple ?_)
local macro_rules | `(tactic| walk_at "dl-dc") => `(tactic| first
  | with_reducible refine dc_int ?_
  | with_reducible refine dc_abs ?_
  | with_reducible refine dc_gcd ?_
  | with_reducible refine dc_lenT ?_
  | with_reducible refine dc_lenL ?_
  | with_reducible refine dc_strI' ?_ ?_
  | walk_at "dl-isi")
local macro_rules | `(tactic| walk_at "dl1") => `(tactic| first
  | (with_reducible show ED _ _ _ _ _ _; walk_at "dl-ed")
  | (with_reducible show WS _ _ _ _ _ _; walk_at "dl-ws")
  | (with_reducible show EA _ _ _ _ _ _; walk_at "dl-ea")
  | (with_reducible show D2 _ _ _ _ _; walk_at "dl-d2")
  | (with_reducible refine ⟨_, rfl, ?_⟩)
  | (with_reducible show ET _ _ _ _ _ _; walk_at "dl-et")
  | (with_reducible show DC _ _ _ _; walk_at "dl-dc")
  | with_reducible refine if_t ?_
  | with_reducible refine if_f ?_
  | with_reducible refine if_nt ?_
  | with_reducible refine if_nf ?_
  | with_reducible refine and_pl ?_
  | (with_reducible refine if_dec (fun _ => ?_) (fun _ => ?_))
  | (with_reducible refine if_ndec (fun _ => ?_) (fun _ => ?_))
  | (with_reducible refine if_bool (fun _ => ?_) (fun _ => ?_))
  | with_reducible refine d1_neg ?_
  | (refine tup_fin (by rfl) ?_ (Nat.le_of_ble_eq_true rfl))
  | (refine lst_fin (by rfl) ?_ (Nat.le_of_ble_eq_true rfl))
  | (with_reducible refine ⟨rfl, (by repeat (first | exact plains_nil | refine plains_d ?_ | refine plains_v ?_)), ?_⟩; walk_at "dl-call")
  | with_reducible refine and_plv ?_
  | with_reducible refine ej_cons ?_
  | with_reducible refine ej_nil ?_
  | (dsimp only [List.set]))
local macro_rules | `(tactic| walk_at "dl") => `(tactic| (walk_at "dl1" <;> try (walk_at "dl")))

local macro_rules | `(tactic| walk_at "dl-call") => `(tactic| first | refine u_lowest_terms ?_ ?_ ?_ | refine u_make_ratio ?_ ?_ ?_ | refine u_ratio_plus ?_ ?_ ?_ | refine u_ratio_minus ?_ ?_ ?_ | refine u_ratio_times ?_ ?_ ?_ | refine u_ratio_text ?_ ?_ | refine u_ratio_compare ?_ ?_ ?_ | refine u_ratio_negative ?_ | refine u_is_ratio ?_ | fail)
local macro_rules | `(tactic| walk_at "dl-ed") => `(tactic| first
  | with_reducible refine ed_wh1 ?_
  | with_reducible refine ed_wh2 ?_
  | with_reducible refine ed_draw ?_
  | with_reducible refine ed_number ?_
  | fail)
local macro_rules | `(tactic| walk_at "dl-ws") => `(tactic| first
  | with_reducible refine ws_raiseI (by decide) ?_
  | with_reducible refine ws_raise0 ?_
  | with_reducible refine ws_forSeq ?_
  | with_reducible refine ws_forR1 ?_
  | fail)
local macro_rules | `(tactic| walk_at "dl-d2") => `(tactic| first
  | with_reducible refine d2_mul' ?_ ?_
  | with_reducible refine d2_pow' ?_ ?_
  | fail)
local macro_rules | `(tactic| walk_at "dl1") => `(tactic| first
  | with_reducible refine draw_and (fun _ _ _ => ?_) ?_ ?_
  | with_reducible refine num_and rfl (fun _ _ => ?_)
  | refine ⟨_, _, rfl, ?_⟩
  | fail)

def law_8b (K : PySem.W.Frag) : TS := tSeq (tAsg (tOp (rIx K) (tOp (rIx K) (tVar 6) (tVar 7)) (tC (.int 0))) (gName 8)) (tSeq (tIfS (tOr (tTest (tOp (rNeD K) (tOp (rIx K) (tOp (rIx K) (tVar 6) (tVar 7)) (tC (.int 1))) (tOp (rIx K) (tOp (rIx K) (tVar 6) (tVar 7)) (tC (.int 2))))) (tOr (tNot (tB (tCB (rIsV K) (tCons (tVar 8) (tCons (tC (.ref (He.ga K "RootError"))) (tNil)))))) (tNot (tB (tCB (rIsV K) (tCons (tVar 8) (tCons (tC (.ty "ValueError")) (tNil)))))))) (tRet (tC (.bl false))) (tNext)) (tSeq (tIfS (tOr (tB (tCB (rIsV K) (tCons (tVar 8) (tCons (tC (.ty "LookupError")) (tNil))))) (tB (tCB (rIsV K) (tCons (tVar 8) (tCons (tC (.ty "ArithmeticError")) (tNil)))))) (tRet (tC (.bl false))) (tNext)) (tIfS (tTest (tOp (rNeD K) (tCall (sp__law_classes K) [] E0 (tCons (tVar 8) (tNil))) (tLc (iRng1 (tCons (tCB (rLenU K) (tCons (tVar 6) (tNil))) (tNil))) (gName 10) (tYes) (tOp (rEqD K) (tVar 7) (tVar 10)) [10]))) (tRet (tC (.bl false))) (tNext))))
def law_11 (K : PySem.W.Frag) : TS := tRet (tCall (sp__law_raised K) [] E0 (tCons (tVar 2) (tCons (tVar 3) (tCons (tVar 4) (tNil)))))
def law_10 (K : PySem.W.Frag) : TS := tSeq (tIfS (tOr (tNot (tB (tCB (rIsV K) (tCons (tVar 9) (tCons (tC (.ty "ValueError")) (tNil)))))) (tB (tCB (rAny K) (tCons (tCall (sp__law_classes K) [] E0 (tCons (tVar 9) (tNil))) (tNil))))) (tRet (tC (.bl false))) (tNext)) (law_11 K)
def law_9 (K : PySem.W.Frag) : TS := tSeq (tAsg (tNew0 (He.ga K "RootError")) (gName 9)) (law_10 K)
def law_8 (K : PySem.W.Frag) : TS := tSeq (tFor (iRng1 (tCons (tCB (rLenU K) (tCons (tVar 6) (tNil))) (tNil))) (gName 7) (tSeq (tAsg (tOp (rIx K) (tOp (rIx K) (tVar 6) (tVar 7)) (tC (.int 0))) (gName 8)) (tSeq (tIfS (tOr (tTest (tOp (rNeD K) (tOp (rIx K) (tOp (rIx K) (tVar 6) (tVar 7)) (tC (.int 1))) (tOp (rIx K) (tOp (rIx K) (tVar 6) (tVar 7)) (tC (.int 2))))) (tOr (tNot (tB (tCB (rIsV K) (tCons (tVar 8) (tCons (tC (.ref (He.ga K "RootError"))) (tNil)))))) (tNot (tB (tCB (rIsV K) (tCons (tVar 8) (tCons (tC (.ty "ValueError")) (tNil)))))))) (tRet (tC (.bl false))) (tNext)) (tSeq (tIfS (tOr (tB (tCB (rIsV K) (tCons (tVar 8) (tCons (tC (.ty "LookupError")) (tNil))))) (tB (tCB (rIsV K) (tCons (tVar 8) (tCons (tC (.ty "ArithmeticError")) (tNil)))))) (tRet (tC (.bl false))) (tNext)) (tIfS (tTest (tOp (rNeD K) (tCall (sp__law_classes K) [] E0 (tCons (tVar 8) (tNil))) (tLc (iRng1 (tCons (tCB (rLenU K) (tCons (tVar 6) (tNil))) (tNil))) (gName 10) (tYes) (tOp (rEqD K) (tVar 7) (tVar 10)) [10]))) (tRet (tC (.bl false))) (tNext)))))) (law_9 K)
def law_7 (K : PySem.W.Frag) : TS := tSeq (tAsg (tOp (rAddU K) (tCall (sp__law_first K) [] E0 (tCons (tVar 2) (tCons (tVar 3) (tCons (tVar 4) (tCons (tVar 5) (tNil)))))) (tCall (sp__law_second K) [] E0 (tCons (tVar 2) (tCons (tVar 3) (tCons (tVar 4) (tCons (tVar 5) (tNil))))))) (gName 6)) (law_8 K)
def law_6 (K : PySem.W.Frag) : TS := tSeq (tAsg (tCall (sp__law_small K) [] E0 (tCons (tVar 1) (tNil))) (gName 5)) (law_7 K)
def law_5 (K : PySem.W.Frag) : TS := tSeq (tAsg (tCall (sp__law_word K) [] E0 (tCons (tVar 1) (tNil))) (gName 4)) (law_6 K)
def law_4 (K : PySem.W.Frag) : TS := tSeq (tAsg (tOp (rSubU) (tCall (sp__law_draw K) [] E0 (tCons (tVar 1) (tCons (tOp (rPowU) (tC (.int 10)) (tC (.int 9))) (tNil)))) (tOp (rPowU) (tC (.int 10)) (tC (.int 8)))) (gName 3)) (law_5 K)
def law_3 (K : PySem.W.Frag) : TS := tSeq (tIfS (tTest (tOp (rGtU) (tCB (rLenU K) (tCons (tVar 0) (tNil))) (tC (.int 0)))) (tAsg (tOp (rMulU) (tOp (rModU) (tCB (rIntU) (tCons (tCB (rAbsU) (tCons (tCB (rIntU) (tCons (tOp (rIx K) (tVar 0) (tC (.int 0))) (tNil))) (tNil))) (tNil))) (tOp (rMulU) (tOp (rMulU) (tOp (rMulU) (tOp (rPowU) (tC (.int 10)) (tC (.int 50))) (tOp (rPowU) (tC (.int 10)) (tC (.int 50)))) (tOp (rPowU) (tC (.int 10)) (tC (.int 50)))) (tOp (rPowU) (tC (.int 10)) (tC (.int 50))))) (tIf (tTest (tOp (rLtU) (tCB (rIntU) (tCons (tOp (rIx K) (tVar 0) (tC (.int 0))) (tNil))) (tC (.int 0)))) (tUn rNegU (tC (.int 1))) (tC (.int 1)))) (gName 2)) (tNext)) (law_4 K)
def law_2 (K : PySem.W.Frag) : TS := tSeq (tAsg (tCall (sp__law_draw K) [] E0 (tCons (tVar 1) (tCons (tC (.int 100)) (tNil)))) (gName 2)) (law_3 K)
def law_1 (K : PySem.W.Frag) : TS := tSeq (tAsg (tCall (sp__law_start K) [] E0 (tCons (tVar 0) (tNil))) (gName 1)) (law_2 K)
theorem u__law_raised {a t : Int} {w : Str} {Xp : XP} {P : DV → Prop} (p : P (DB true)) (ok : PyData.strOk w = true) : T__law_raised [DI a, DI t, DS w] Xp P := ⟨a, t, w, rfl, ok, p⟩
theorem u__law_first {K : PySem.W.Frag} {a t : Int} {w : Str} {p : Rt} {Xp : XP} {P : DV → Prop} (h : ∀ xs, Trips K 0 10 xs → P (DR (.lst xs))) (ok : PyData.strOk w = true) : T__law_first K [DI a, DI t, DS w, .d (rt p)] Xp P := ⟨a, t, w, p, rfl, ok, h⟩
theorem u__law_second {K : PySem.W.Frag} {a t : Int} {w : Str} {p : Rt} {Xp : XP} {P : DV → Prop} (h : ∀ xs, Trips K 10 15 xs → P (DR (.lst xs))) (ok : PyData.strOk w = true) : T__law_second K [DI a, DI t, DS w, .d (rt p)] Xp P := ⟨a, t, w, p, rfl, ok, h⟩
theorem u__law_classes {K : PySem.W.Frag} {i : Nat} {fs : List (Str × PyData)} {Xp : XP} {P : DV → Prop} (p : P (.d (.list (clsL i)))) (hi : i < 26) : T__law_classes K [DR (.e (ca K i) fs)] Xp P := ⟨i, fs, rfl, hi, p⟩
theorem any_cls : (List.map (fun j => (25 : Nat) == j) (List.range 25)).any id = false := by decide
theorem cls_map (i : Nat) : clsL i = ((List.range 25).map fun j => i == j).map PyData.bool := by
  unfold clsL
  rw [List.map_map]
  rfl
theorem bools_shaped (bs : List Bool) : SeqAt.shaped (.list (bs.map PyData.bool)) = true := by
  unfold SeqAt.shaped
  rw [Bool.and_eq_true]
  constructor
  · show PyData.canLayAll0 _ = true
    induction bs with
    | nil => rfl
    | cons b bs ih => exact ih
  · refine decide_eq_true ?_
    have : PyData.depthAll (bs.map PyData.bool) ≤ 1 := by
      induction bs with
      | nil => decide
      | cons b bs ih =>
        show max _ _ ≤ 1
        have e : PyData.depth (.bool b) ≤ 1 := by simp [PyData.depth]
        omega
    simp only [PyData.depth]
    omega
theorem cls_lc (i : Nat) (hi : i < 25) : lcR (25 : Int).toNat (fun _ => true) (fun j => .bool (decide ((0 + (i : Int)) = (j : Int)))) = clsL i := by
  unfold lcR clsL
  rw [List.filter_eq_self.mpr (fun _ _ => rfl)]
  refine List.map_congr_left fun j _ => congrArg PyData.bool ?_
  rw [Int.zero_add]
  by_cases h : i = j
  · subst h
    simp
  · have h2 : ¬ ((i : Int) = (j : Int)) := by omega
    rw [decide_eq_false h2]
    exact (beq_false_of_ne h).symm
section
variable (F : Fm) (hk : Kit F.K) (X : XK) (P : DV → Prop) (hP : P (DB true)) {a t : Int} {w : Str} (ok : PyData.strOk w = true)
include hP ok
theorem w11 {x0 x1 x5 x6 x7 x8 x9 x10 : Option DV} {N : DSt → Prop} : WS F X (law_11 F.K) [x0, x1, some (DI a), some (DI t), some (DS w), x5, x6, x7, x8, x9, x10] X0 { nx := N, rt := P } := by
  unfold law_11
  walk_at "dl"
  exact ⟨rfl, plains_d (plains_d (plains_d plains_nil)), u__law_raised ⟨trivial, hP⟩ ok⟩
include hk
theorem w9 {x0 x1 x5 x6 x7 x8 x9 x10 : Option DV} {N : DSt → Prop} : WS F X (law_9 F.K) [x0, x1, some (DI a), some (DI t), some (DS w), x5, x6, x7, x8, x9, x10] X0 { nx := N, rt := P } := by
  unfold law_9
  refine ws_seq (ws_asg (ed_new0 ⟨trivial, ?_⟩))
  dsimp only [List.set]
  unfold law_10
  refine ws_seq (ws_if (et_or (et_not (et_b (ed_cb (ea_cons (ed_var rfl (ea_cons (ed_ty (ea_nil ?_))))))))))
  refine dc_isV (C := ca F.K 25) ⟨true, rfl, ?_⟩ (.ty _) (hk.exc 25 (by decide)) (hk.val 25 (by decide))
  refine if_nt ?_
  refine et_b (ed_cb (ea_cons (ed_call (ea_cons (ed_var rfl (ea_nil ?_))))))
  refine ⟨rfl, plains1 plain_dr, u__law_classes (i := 25) ⟨trivial, ?_⟩ (by decide)⟩
  refine ea_nil ?_
  rw [cls_map]
  refine dc_any ⟨_, rfl, ?_⟩
  refine if_f ?_
  refine ws_next ?_
  exact w11 F X P hP ok
theorem loop_turn {x0 x1 x5 x7 x8 x9 : Option DV} {xs : List RD} (hx : Trips F.K 0 25 xs) {i : Nat} (hi : i < 25) {E : DE} (hn : ∀ z8, E.nx [x0, x1, some (DI a), some (DI t), some (DS w), x5, some (DR (.lst xs)), some (DI (0 + (i : Int))), some z8, x9, none]) :
    WS F X (law_8b F.K) [x0, x1, some (DI a), some (DI t), some (DS w), x5, some (DR (.lst xs)), some (DI (0 + (i : Int))), x8, x9, none] X0 E := by
  obtain ⟨hl, hz⟩ := hx
  have hlt : i < xs.length := by omega
  obtain ⟨fs, ys, e, sh⟩ := hz i _ (List.getElem?_eq_getElem hlt)
  rw [Nat.zero_add] at e
  have hat : atI xs (0 + (i : Int)) = some (.tup [.e (ca F.K i) fs, .d (.list ys), .d (.list ys)]) := by
    unfold atI ixN
    rw [if_pos (by omega), if_pos (by omega), Int.zero_add, Int.toNat_natCast]
    show xs[i]? = _
    rw [List.getElem?_eq_getElem hlt, e]
  have h26 : i < 26 := by omega
  unfold law_8b
  refine ws_seq (ws_asg (ed_op (ed_op (ed_var rfl (ed_var rfl (d2_ixRL ?_ hat))))))
  refine ed_int (d2_ixRT (x := .e (ca F.K i) fs) ⟨trivial, ?_⟩ rfl)
  dsimp only [List.set, toV]
  refine ws_seq (ws_if (et_or (et_tst (ed_op (ed_op (ed_op (ed_var rfl (ed_var rfl (d2_ixRL ?_ hat)))))))))
  refine ed_int (d2_ixRT (x := .d (.list ys)) ?_ rfl)
  refine ed_op (ed_op (ed_var rfl (ed_var rfl (d2_ixRL ?_ hat))))
  refine ed_int (d2_ixRT (x := .d (.list ys)) ?_ rfl)
  refine d2_neR rfl rfl ⟨false, rfl, if_f ?_⟩ sh
  refine et_or (et_not (et_b (ed_cb (ea_cons (ed_var rfl (ea_cons (ed_ref (ea_nil ?_))))))))
  refine dc_isV ⟨true, rfl, if_nt ?_⟩ (.own _) (hk.exc i h26) (hk.root i h26)
  refine et_not (et_b (ed_cb (ea_cons (ed_var rfl (ea_cons (ed_ty (ea_nil ?_)))))))
  refine dc_isV ⟨true, rfl, if_nt ?_⟩ (.ty _) (hk.exc i h26) (hk.val i h26)
  refine ws_next ?_
  refine ws_seq (ws_if (et_or (et_b (ed_cb (ea_cons (ed_var rfl (ea_cons (ed_ty (ea_nil ?_)))))))))
  refine dc_isV ⟨false, rfl, if_f ?_⟩ (.ty _) (hk.exc i h26) (hk.look i h26)
  refine et_b (ed_cb (ea_cons (ed_var rfl (ea_cons (ed_ty (ea_nil ?_))))))
  refine dc_isV ⟨false, rfl, if_f ?_⟩ (.ty _) (hk.exc i h26) (hk.arit i h26)
  refine ws_next ?_
  refine ws_if (et_tst (ed_op (ed_call (ea_cons (ed_var rfl (ea_nil ?_))))))
  refine ⟨rfl, plains1 plain_dr, u__law_classes (i := i) ⟨trivial, ?_⟩ h26⟩
  refine ed_lcR (tgOk_name (by decide)) (ea_cons (ed_cb (ea_cons (ed_var rfl (ea_nil (dc_lenR (ea_nil ?_)))))))
  refine ⟨_, rfl, by omega, by omega, fun _ => true, fun j => .bool (decide ((0 + (i : Int)) = (j : Int))), ?_, ?_⟩
  · intro j hj
    refine dg_name trivial ?_
    refine et_yes ⟨rfl, fun _ => ?_⟩
    refine ed_op (ed_var rfl (ed_var rfl (d2_eqI ?_)))
    rfl
  · have e25 : (xs.length : Int) = 25 := by omega
    rw [e25, cls_lc i hi]
    refine d2_neR rfl rfl ⟨false, rfl, if_f ?_⟩ (by rw [cls_map]; exact bools_shaped _)
    refine ws_next ?_
    exact hn _
end
end K0

namespace K0
open PySem L2 DL NF
local macro_rules | `(tactic| walk_at "dl-call") => `(tactic| fail)
local macro_rules | `(tactic| walk_at "dl-pl") => `(tactic| (repeat' (first | exact plains_nil | refine plains_cons trivial ?_)))
local macro_rules | `(tactic| walk_at "dl-ws") => `(tactic| first
  | with_reducible refine ws_seq ?_
  | with_reducible refine ws_asg ?_
  | with_reducible refine ws_ret ?_
  | with_reducible refine ws_if ?_
  | with_reducible refine ws_next ?_
  | with_reducible refine ws_asgG ?_
  | with_reducible refine ws_par ?_
  | with_reducible refine ws_drop ?_
  | with_reducible refine ws_brk ?_)
local macro_rules | `(tactic| walk_at "dl-ed") => `(tactic| first
  | with_reducible refine ed_var rfl ?_
  | with_reducible refine ed_int ?_
  | with_reducible refine ed_op ?_
  | with_reducible refine ed_call ?_
  | with_reducible refine ed_tup ?_
  | with_reducible refine ed_cb ?_
  | with_reducible refine ed_un ?_
  | with_reducible refine ed_lst ?_
  | with_reducible refine ed_str ?_
  | with_reducible refine ed_bl ?_
  | with_reducible refine ed_non ?_
  | with_reducible refine ed_if ?_
  | with_reducible refine ed_andV ?_
  | with_reducible refine ed_orV ?_
  | with_reducible refine ed_notV ?_
  | with_reducible refine ed_ref ?_
  | with_reducible refine ed_ty ?_
  | with_reducible refine ed_fmtI' ?_
  | with_reducible refine ed_joined ?_)
local macro_rules | `(tactic| walk_at "dl-ea") => `(tactic| first
  | with_reducible refine ea_cons ?_
  | with_reducible refine ea_nil ?_)
local macro_rules | `(tactic| walk_at "dl-et") => `(tactic| first
  | with_reducible refine et_tst ?_
  | with_reducible refine et_b ?_
  | with_reducible refine et_and ?_
  | with_reducible refine et_or ?_
  | with_reducible refine et_not ?_
  | with_reducible refine et_yes ?_)
local macro_rules | `(tactic| walk_at "dl-d2") => `(tactic| first
  | with_reducible refine d2_add ?_
  | with_reducible refine d2_ixT rfl ?_
  | with_reducible refine d2_ixL rfl ?_
  | with_reducible refine d2_eqI ?_
  | with_reducible refine d2_neI ?_
  | with_reducible refine d2_lt ?_
  | with_reducible refine d2_le ?_
  | with_reducible refine d2_gt ?_
  | with_reducible refine d2_ge ?_
  | with_reducible refine d2_sub ?_
  | with_reducible refine d2_mulS' ?_ ?_
  | with_reducible refine d2_div' ?_ ?_
  | with_reducible refine d2_mod' ?_ ?_
  | with_reducible refine d2_isN_i ?_
  | with_reducible refine d2_isNN_i ?_
  | with_reducible refine d2_isN_b ?_
  | with_reducible refine d2_isNN_b ?_
  | with_reducible refine d2_isN_n ?_
  | with_reducible refine d2_isNN_n ?_
  | with_reducible refine d2_isN_s ?_
  | with_reducible refine d2_isNN_s ?_
  | with_reducible refine d2_isN_l ?_
  | with_reducible refine d2_isNN_l ?_
  | with_reducible refine d2_isN_t ?_
  | with_reducible refine d2_isNN_t ?_
  | with_reducible refine d2_isB ?_
  | with_reducible refine d2_isNB ?_
  | with_reducible refine d2_addS' ?_ ?_
  | with_reducible refine d2_addL' ?_ ?_
  | with_reducible refine d2_isN ?_
  | with_reducible refine d2_isNN ?_)
local macro_rules | `(tactic| walk_at "dl-isi") => `(tactic| first
  | with_reducible refine dc_isi_i_int ?_
  | with_reducible refine dc_isi_i_bool ?_
  | with_reducible refine dc_isi_i_str ?_
  | with_reducible refine dc_isi_i_list ?_
  | with_reducible refine dc_isi_i_tuple ?_
  | with_reducible refine dc_isi_b_int ?_
  | with_reducible refine dc_isi_b_bool ?_
  | with_reducible refine dc_isi_b_str ?_
  | with_reducible refine dc_isi_b_list ?_
  | with_reducible refine dc_isi_b_tuple ?_
  | with_reducible refine dc_isi_n_int ?_
  | with_reducible refine dc_isi_n_bool ?_
  | with_reducible refine dc_isi_n_str ?_
  | with_reducible refine dc_isi_n_list ?_
  | with_reducible refine dc_isi_n_tuple ?_
  | with_reducible refine dc_isi_s_int ?_
  | with_reducible refine dc_isi_s_bool ?_
  | with_reducible refine dc_isi_s_str ?_
  | with_reducible refine dc_isi_s_list ?_
  | with_reducible refine dc_isi_s_tuple ?_
  | with_reducible refine dc_isi_l_int ?_
  | with_reducible refine dc_isi_l_bool ?_
  | with_reducible refine dc_isi_l_str ?_
  | with_reducible refine dc_isi_l_list ?_
  | with_reducible refine dc_isi_l_tuple ?_
  | with_reducible refine dc_isi_t_int ?_
  | with_reducible refine dc_isi_t_bool ?_
  | with_reducible refine dc_isi_t_str ?_
  | with_reducible refine dc_isi_t_list ?_
  | with_reducible refine dc_isi_t_tuple ?_
  | with_reducible refine dc_isi_d_int ?_
  | with_reducible refine dc_isi_d_bool ?_
  | with_reducible refine dc_isi_d_str ?_
  | with_reducible refine dc_isi_d_list ?_
  | with_reducible refine dc_isi_d_tuple ?_)
local macro_rules | `(tactic| walk_at "dl-dc") => `(tactic| first
  | with_reducible refine dc_int ?_
  | with_reducible refine dc_abs ?_
  | with_reducible refine dc_gcd ?_
  | with_reducible refine dc_lenT ?_
  | with_reducible refine dc_lenL ?_
  | with_reducible refine dc_strI' ?_ ?_
  | walk_at "dl-isi")
local macro_rules | `(tactic| walk_at "dl1") => `(tactic| first
  | (with_reducible show ED _ _ _ _ _ _; walk_at "dl-ed")
  | (with_reducible show WS _ _ _ _ _ _; walk_at "dl-ws")
  | (with_reducible show EA _ _ _ _ _ _; walk_at "dl-ea")
  | (with_reducible show D2 _ _ _ _ _; walk_at "dl-d2")
  | (with_reducible refine ⟨_, rfl, ?_⟩)
  | (with_reducible show ET _ _ _ _ _ _; walk_at "dl-et")
  | (with_reducible show DC _ _ _ _; walk_at "dl-dc")
  | with_reducible refine if_t ?_
  | with_reducible refine if_f ?_
  | with_reducible refine if_nt ?_
  | with_reducible refine if_nf ?_
  | with_reducible refine and_pl ?_
  | (with_reducible refine if_dec (fun _ => ?_) (fun _ => ?_))
  | (with_reducible refine if_ndec (fun _ => ?_) (fun _ => ?_))
  | (with_reducible refine if_bool (fun _ => ?_) (fun _ => ?_))
  | with_reducible refine d1_neg ?_
  | (refine tup_fin (by rfl) ?_ (Nat.le_of_ble_eq_true rfl))
  | (refine lst_fin (by rfl) ?_ (Nat.le_of_ble_eq_true rfl))
  | (with_reducible refine ⟨rfl, (by repeat (first | exact plains_nil | refine plains_d ?_ | refine plains_v ?_)), ?_⟩; walk_at "dl-call")
  | with_reducible refine and_plv ?_
  | with_reducible refine ej_cons ?_
  | with_reducible refine ej_nil ?_
  | (dsimp only [List.set]))
local macro_rules | `(tactic| walk_at "dl") => `(tactic| (walk_at "dl1" <;> try (walk_at "dl")))

local macro_rules | `(tactic| walk_at "dl-call") => `(tactic| first | refine u_lowest_terms ?_ ?_ ?_ | refine u_make_ratio ?_ ?_ ?_ | refine u_ratio_plus ?_ ?_ ?_ | refine u_ratio_minus ?_ ?_ ?_ | refine u_ratio_times ?_ ?_ ?_ | refine u_ratio_text ?_ ?_ | refine u_ratio_compare ?_ ?_ ?_ | refine u_ratio_negative ?_ | refine u_is_ratio ?_ | fail)
local macro_rules | `(tactic| walk_at "dl-ed") => `(tactic| first
  | with_reducible refine ed_wh1 ?_
  | with_reducible refine ed_wh2 ?_
  | with_reducible refine ed_draw ?_
  | with_reducible refine ed_number ?_
  | fail)
local macro_rules | `(tactic| walk_at "dl-ws") => `(tactic| first
  | with_reducible refine ws_raiseI (by decide) ?_
  | with_reducible refine ws_raise0 ?_
  | with_reducible refine ws_forSeq ?_
  | with_reducible refine ws_forR1 ?_
  | fail)
local macro_rules | `(tactic| walk_at "dl-d2") => `(tactic| first
  | with_reducible refine d2_mul' ?_ ?_
  | with_reducible refine d2_pow' ?_ ?_
  | fail)
local macro_rules | `(tactic| walk_at "dl1") => `(tactic| first
  | with_reducible refine draw_and (fun _ _ _ => ?_) ?_ ?_
  | with_reducible refine num_and rfl (fun _ _ => ?_)
  | refine ⟨_, _, rfl, ?_⟩
  | fail)

local macro_rules | `(tactic| walk_at "dl-ed") => `(tactic| first
  | with_reducible refine ed_draw ?_
  | fail)
local macro_rules | `(tactic| walk_at "dl1") => `(tactic| first
  | with_reducible refine draw_and (fun _ _ _ => ?_) ?_ ?_
  | refine ⟨_, rfl, ?_⟩
  | fail)
theorem d2_ixL0 {F : Fm} {P : DV → Prop} {x : PyData} {xs : List PyData} (p : P (.d x)) : D2 F (rIx F.K) (.d (.list (x :: xs))) (DI 0) P := d2_ixL (x := x) (by
  unfold atI ixN
  rw [if_pos (by decide), if_pos (by simp)]
  rfl) p
local macro_rules | `(tactic| walk_at "dl-d2") => `(tactic| first
  | with_reducible refine d2_ixL0 ?_
  | with_reducible refine d2_mul' ?_ ?_
  | with_reducible refine d2_pow' ?_ ?_
  | fail)
theorem mod_lt {i m : Int} {k : Nat} (hm : 0 < m) (h : m.natAbs < 2 ^ k) : (i % m).natAbs < 2 ^ k := by
  have h0 := Int.emod_nonneg i (show m ≠ 0 by omega)
  have h1 := Int.emod_lt_of_pos i hm
  omega
def sp_law (K : PySem.W.Frag) : Sp := fun vs H Q _ => ∃ (a : Addr) (ns : List Int), vs = [.ref a] ∧ SqL K H a (ns.map V.int) ∧ ns.length ≤ 1000 ∧ ∀ H', Q (.bl true) H'
section
variable (F : Fm) (hk : Kit F.K) (X : XK) (P : DV → Prop) (hP : P (DB true)) {a t : Int} {w : Str} (ok : PyData.strOk w = true)
include hk hP ok
theorem w8 {x0 x1 x5 : Option DV} {xs : List RD} (hx : Trips F.K 0 25 xs) {N : DSt → Prop} : WS F X (law_8 F.K) [x0, x1, some (DI a), some (DI t), some (DS w), x5, some (DR (.lst xs)), none, none, none, none] X0 { nx := N, rt := P } := by
  unfold law_8
  refine ws_seq (ws_forR1 (ea_cons (ed_cb (ea_cons (ed_var rfl (ea_nil (dc_lenR (ea_nil ?_))))))))
  have e25 : (xs.length : Int) = 25 := by
    have := hx.1
    omega
  refine ⟨_, rfl, by omega, by omega, fun _ δ' => ∃ z7 z8, δ' = [x0, x1, some (DI a), some (DI t), some (DS w), x5, some (DR (.lst xs)), z7, z8, none, none], ⟨_, _, rfl⟩, ?_, ?_⟩
  · rintro i δ' hi ⟨z7, z8, rfl⟩
    refine dg_name trivial ?_
    exact loop_turn (x7 := none) F hk X P hP ok hx (by omega) (fun z => ⟨_, _, rfl⟩)
  · rintro δ' ⟨z7, z8, rfl⟩
    exact w9 F hk X P hP ok
theorem w7 {x0 x1 : Option DV} {p : Rt} {N : DSt → Prop} : WS F X (law_7 F.K) [x0, x1, some (DI a), some (DI t), some (DS w), some (.d (rt p)), none, none, none, none, none] X0 { nx := N, rt := P } := by
  unfold law_7
  refine ws_seq (ws_asg (ed_op (ed_call (ea_cons (ed_var rfl (ea_cons (ed_var rfl (ea_cons (ed_var rfl (ea_cons (ed_var rfl (ea_nil ?_))))))))))))
  refine ⟨rfl, plains_d (plains_d (plains_d (plains_d plains_nil))), u__law_first (fun xs hx => ⟨trivial, ?_⟩) ok⟩
  refine ed_call (ea_cons (ed_var rfl (ea_cons (ed_var rfl (ea_cons (ed_var rfl (ea_cons (ed_var rfl (ea_nil ?_)))))))))
  refine ⟨rfl, plains_d (plains_d (plains_d (plains_d plains_nil))), u__law_second (fun ys hy => ⟨trivial, ?_⟩) ok⟩
  have l1 := hx.1
  have l2 := hy.1
  refine d2_addR ⟨trivial, ?_⟩ (by omega)
  exact w8 F hk X P hP ok (trips_app hx hy)
end
section
variable {K : PySem.W.Frag} (hk : Kit K) (X : XK) (P : DV → Prop) (hP : P (DB true)) (H0 : Hp) (h : Hd) (a0 : H0 h.ph ≠ none) (b0 : H0 h.l0 ≠ none)
include hk hP
theorem w4 {x0 : Option DV} {a : Int} {N : DSt → Prop} : WS (FH K H0 h a0 b0) X (law_4 K) [x0, some (.v (.ref h.ph)), some (DI a), none, none, none, none, none, none, none, none] X0 { nx := N, rt := P } := by
  unfold law_4
  walk_at "dl"
  · unfold law_5
    refine ws_seq (ws_asg (ed_handG (ea_cons (ed_var rfl (ea_nil ⟨[], rfl, rfl, rfl, fun w ok => ⟨trivial, ?_⟩⟩)))))
    dsimp only [List.set]
    unfold law_6
    refine ws_seq (ws_asg (ed_handG (ea_cons (ed_var rfl (ea_nil ⟨[], rfl, rfl, rfl, fun p => ⟨trivial, ?_⟩⟩)))))
    dsimp only [List.set]
    exact w7 (FH K H0 h a0 b0) hk X P hP ok
  all_goals first | decide | exact ⟨by decide, by decide, by decide⟩ | trace_state
theorem law_hand (ns : List Int) {N : DSt → Prop} : WS (FH K H0 h a0 b0) X (law_2 K) [some (.d (.list (ns.map PyData.int))), some (.v (.ref h.ph)), none, none, none, none, none, none, none, none, none] X0 { nx := N, rt := P } := by
  unfold law_2
  walk_at "dl"
  · unfold law_3
    cases ns with
    | nil =>
      walk_at "dl"
      all_goals first
        | exact w4 hk X P hP H0 h a0 b0
        | (exfalso; simp_all; done)
        | trace_state
    | cons n ns =>
      refine ws_seq (ws_if (et_tst (ed_op (ed_cb (ea_cons (ed_var rfl (ea_nil (dc_lenL (ed_int (d2_gt ⟨_, rfl, ?_⟩))))))))))
      refine if_dec (fun _ => ?_) (fun z => absurd (by simp : (0 : Int) < ((List.map PyData.int (n :: ns)).length : Int)) z)
      rw [List.map_cons]
      walk_at "dl"
      all_goals first
        | exact w4 hk X P hP H0 h a0 b0
        | exact ⟨by decide, by decide, by decide⟩
        | decide +kernel
        | exact (by decide +kernel : ((10 : Int) ^ Int.toNat 50).natAbs.log2 + ((10 : Int) ^ Int.toNat 50).natAbs.log2 < 1000000)
        | exact (by decide +kernel : ((10 : Int) ^ Int.toNat 50 * 10 ^ Int.toNat 50).natAbs.log2 + ((10 : Int) ^ Int.toNat 50).natAbs.log2 < 1000000)
        | exact (by decide +kernel : ((10 : Int) ^ Int.toNat 50 * 10 ^ Int.toNat 50 * 10 ^ Int.toNat 50).natAbs.log2 + ((10 : Int) ^ Int.toNat 50).natAbs.log2 < 1000000)
        | exact cmul_of (a := 700) (b := 2) (mod_lt (by decide +kernel) (by decide +kernel)) (by decide)
        | trace_state
  all_goals first | decide | trace_state
end
end K0

namespace K0
open PySem L2 DL NF
theorem pure_law (K : PySem.W.Frag) (hk : Kit K) (vs : List V) (H : Hp) (Q : VK) (E : XK) (hs : sp_law K vs H Q E) :
    law_1 K { nx := fun _ H' => Q .non H', rt := Q } (L2.start ["_law_script", "_law_hand", "_law_at", "_law_to", "_law_word_here", "_law_ratio_here", "_law_found", "_law_k", "_law_error", "_law_bare", "_law_step"] vs) H := by
  obtain ⟨a, ns, rfl, hq, hl, q⟩ := hs
  show law_1 K _ [some (.ref a), none, none, none, none, none, none, none, none, none, none] H
  unfold law_1
  refine rw_seq (rw_asg (rw_call (rw_cons (rw_var rfl (rw_nil ?_)))))
  refine ⟨a, ns, rfl, hq, hl, fun h H' e h1 h2 k => ?_⟩
  refine rw_name ?_
  have a0 : H' h.ph ≠ none := by
    obtain ⟨p, q, r, s, e, _⟩ := k.ex
    rw [e]
    exact fun z => by cases z
  have b0 : H' h.l0 ≠ none := by
    rw [k.l]
    exact fun z => by cases z
  have iv : (FH K H' h a0 b0).I H' := ⟨fun _ z => z, k⟩
  have e2 : Evl.Ex H (Rs (FH K H' h a0 b0).S H') := fun b o eb => by
    have ne : b ≠ h.ph := fun z => by
      rw [z, h1] at eb
      cases eb
    rw [rs_ne (show decide (b = h.ph) = false from decide_eq_false ne)]
    exact e b o eb
  refine law_hand hk E (fun z => z = DB true) rfl H' h a0 b0 ns (N := fun _ => False) ⟨Rs (FH K H' h a0 b0).S H', H', fun _ => none⟩ _ H' (Rs (FH K H' h a0 b0).S H') _ ⟨fun _ z => z, ⟨Stp.refl iv (Evl.Ex.refl _), fun _ _ z => by cases z⟩, ?_, fun _ _ _ _ _ z => z.elim⟩ ?_
  · exact sl_start (F := FH K H' h a0 b0) (N := ["_law_script", "_law_hand", "_law_at", "_law_to", "_law_word_here", "_law_ratio_here", "_law_found", "_law_k", "_law_error", "_law_bare", "_law_step"]) (us := [.ref a, .ref h.ph]) (ds := [.d (.list (ns.map PyData.int)), .v (.ref h.ph)]) (m := 9) ⟨.lst (Evl.ex_l e2 hq) dpa_of_ints, rfl, trivial⟩ (plains_d (plains_v plains_nil)) rfl
  · refine ⟨fun _ _ _ _ _ _ z => z.elim, fun u x H' G' r' rv e => ?_, fun _ _ _ _ _ _ z => z.elim, fun _ _ _ _ _ _ z => z.elim⟩
    subst e
    cases rv.dp
    exact q H'
theorem rev_vals : ∀ {zs : List V} {ws : List Value}, L2.Vals zs ws → L2.Vals zs.reverse ws.reverse
  | [], [], _ => .nil
  | _ :: _, _ :: _, .cons r t => by
    rw [List.reverse_cons, List.reverse_cons]
    exact (rev_vals t).append (.cons r .nil)
theorem kit_ok2 {K : PySem.W.Frag} (h : (kitB K && exmB K) = true) : Kit K := by
  rw [Bool.and_eq_true] at h
  exact kit_ok h.1 h.2
end K0

namespace A00
open PySem PySem.Spec PyProof.Rows L2 DL DLH NF K0
def clsB : Stmt → List Stmt
  | .ClassDef (body := b) .. => b
  | _ => []
def top (i : Nat) : Stmt := PySem.Challenge.pw_neverfactored_k00_whole_errors_side_by_s.main.body.getD i (.Pass ⟨0, 0, 0, 0⟩)
abbrev s__law_start : Stmt := top 28
abbrev s__law_mixed : Stmt := top 29
abbrev s__law_draw : Stmt := top 30
abbrev s__law_gcd : Stmt := top 31
abbrev s__law_ratio : Stmt := top 32
abbrev s__law_small : Stmt := top 33
abbrev s__law_word : Stmt := top 34
abbrev s__law_first : Stmt := top 35
abbrev s__law_second : Stmt := top 36
abbrev s__law_classes : Stmt := top 37
abbrev s__law_raised : Stmt := top 38
abbrev s_law : Stmt := top 39
abbrev s_i_BadRatio : Stmt := (clsB (top 2)).getD 0 (.Pass ⟨0, 0, 0, 0⟩)
abbrev s_i_Pole : Stmt := (clsB (top 4)).getD 0 (.Pass ⟨0, 0, 0, 0⟩)
abbrev s_i_BadElement : Stmt := (clsB (top 5)).getD 0 (.Pass ⟨0, 0, 0, 0⟩)
abbrev s_i_BadText : Stmt := (clsB (top 6)).getD 0 (.Pass ⟨0, 0, 0, 0⟩)
abbrev s_i_BadTower : Stmt := (clsB (top 7)).getD 0 (.Pass ⟨0, 0, 0, 0⟩)
abbrev s_i_NoPlace : Stmt := (clsB (top 8)).getD 0 (.Pass ⟨0, 0, 0, 0⟩)
abbrev s_i_NoLetter : Stmt := (clsB (top 9)).getD 0 (.Pass ⟨0, 0, 0, 0⟩)
abbrev s_i_BadSystem : Stmt := (clsB (top 10)).getD 0 (.Pass ⟨0, 0, 0, 0⟩)
abbrev s_i_TooMany : Stmt := (clsB (top 11)).getD 0 (.Pass ⟨0, 0, 0, 0⟩)
abbrev s_i_BadProgram : Stmt := (clsB (top 16)).getD 0 (.Pass ⟨0, 0, 0, 0⟩)
abbrev s_i_BadPoint : Stmt := (clsB (top 17)).getD 0 (.Pass ⟨0, 0, 0, 0⟩)
abbrev s_i_LackingLetter : Stmt := (clsB (top 18)).getD 0 (.Pass ⟨0, 0, 0, 0⟩)
abbrev s_i_NoMark : Stmt := (clsB (top 21)).getD 0 (.Pass ⟨0, 0, 0, 0⟩)
abbrev s_i_BadSaying : Stmt := (clsB (top 23)).getD 0 (.Pass ⟨0, 0, 0, 0⟩)
abbrev s_i_BadPrefix : Stmt := (clsB (top 24)).getD 0 (.Pass ⟨0, 0, 0, 0⟩)
abbrev s_i_BadLot : Stmt := (clsB (top 25)).getD 0 (.Pass ⟨0, 0, 0, 0⟩)
abbrev N__law_start : List Str := ["_law_script", "_law_total", "_law_cell"]
theorem sc__law_start : FnScope N__law_start ["_law_script"] (defScope s__law_start) := ⟨rfl, rfl, rfl, by decide +kernel, rfl, by decide +kernel, by decide +kernel⟩
abbrev N__law_mixed : List Str := ["_law_number", "_law_turn", "_law_here", "_law_there"]
theorem sc__law_mixed : FnScope N__law_mixed ["_law_number", "_law_turn"] (defScope s__law_mixed) := ⟨rfl, rfl, rfl, by decide +kernel, rfl, by decide +kernel, by decide +kernel⟩
abbrev N__law_draw : List Str := ["_law_hand", "_law_many", "_law_cell", "_law_digit"]
theorem sc__law_draw : FnScope N__law_draw ["_law_hand", "_law_many"] (defScope s__law_draw) := ⟨rfl, rfl, rfl, by decide +kernel, rfl, by decide +kernel, by decide +kernel⟩
abbrev N__law_gcd : List Str := ["_law_a", "_law_b", "_law_step"]
theorem sc__law_gcd : FnScope N__law_gcd ["_law_a", "_law_b"] (defScope s__law_gcd) := ⟨rfl, rfl, rfl, by decide +kernel, rfl, by decide +kernel, by decide +kernel⟩
abbrev N__law_ratio : List Str := ["_law_top", "_law_bottom", "_law_part"]
theorem sc__law_ratio : FnScope N__law_ratio ["_law_top", "_law_bottom"] (defScope s__law_ratio) := ⟨rfl, rfl, rfl, by decide +kernel, rfl, by decide +kernel, by decide +kernel⟩
abbrev N__law_small : List Str := ["_law_hand"]
theorem sc__law_small : FnScope N__law_small ["_law_hand"] (defScope s__law_small) := ⟨rfl, rfl, rfl, by decide +kernel, rfl, by decide +kernel, by decide +kernel⟩
abbrev N__law_word : List Str := ["_law_hand", "_law_word_here", "_law_k"]
theorem sc__law_word : FnScope N__law_word ["_law_hand"] (defScope s__law_word) := ⟨rfl, rfl, rfl, by decide +kernel, rfl, by decide +kernel, by decide +kernel⟩
abbrev N__law_first : List Str := ["_law_at", "_law_to", "_law_word_here", "_law_ratio_here", "_law_a", "_law_b", "_law_c", "_law_d", "_law_e", "_law_f", "_law_g", "_law_h", "_law_i", "_law_found"]
theorem sc__law_first : FnScope N__law_first ["_law_at", "_law_to", "_law_word_here", "_law_ratio_here"] (defScope s__law_first) := ⟨rfl, rfl, rfl, by decide +kernel, rfl, by decide +kernel, by decide +kernel⟩
abbrev N__law_second : List Str := ["_law_at", "_law_to", "_law_word_here", "_law_ratio_here", "_law_a", "_law_b", "_law_c", "_law_d", "_law_e", "_law_f", "_law_g", "_law_found"]
theorem sc__law_second : FnScope N__law_second ["_law_at", "_law_to", "_law_word_here", "_law_ratio_here"] (defScope s__law_second) := ⟨rfl, rfl, rfl, by decide +kernel, rfl, by decide +kernel, by decide +kernel⟩
abbrev N__law_classes : List Str := ["_law_e", "_law_found"]
theorem sc__law_classes : FnScope N__law_classes ["_law_e"] (defScope s__law_classes) := ⟨rfl, rfl, rfl, by decide +kernel, rfl, by decide +kernel, by decide +kernel⟩
abbrev N__law_raised : List Str := ["_law_at", "_law_to", "_law_word_here", "_law_e"]
theorem sc__law_raised : FnScope N__law_raised ["_law_at", "_law_to", "_law_word_here"] (defScope s__law_raised) := ⟨rfl, rfl, rfl, by decide +kernel, rfl, by decide +kernel, by decide +kernel⟩
abbrev N_law : List Str := ["_law_script", "_law_hand", "_law_at", "_law_to", "_law_word_here", "_law_ratio_here", "_law_found", "_law_k", "_law_error", "_law_bare", "_law_step"]
theorem sc_law : FnScope N_law ["_law_script"] (defScope s_law) := ⟨rfl, rfl, rfl, by decide +kernel, rfl, by decide +kernel, by decide +kernel⟩
theorem sc_i_BadRatio : FnScope ["self", "what"] ["self", "what"] (defScope s_i_BadRatio) := ⟨rfl, rfl, rfl, by decide +kernel, rfl, by decide +kernel, by decide +kernel⟩
theorem sc_i_Pole : FnScope ["self", "at"] ["self", "at"] (defScope s_i_Pole) := ⟨rfl, rfl, rfl, by decide +kernel, rfl, by decide +kernel, by decide +kernel⟩
theorem sc_i_BadElement : FnScope ["self", "index"] ["self", "index"] (defScope s_i_BadElement) := ⟨rfl, rfl, rfl, by decide +kernel, rfl, by decide +kernel, by decide +kernel⟩
theorem sc_i_BadText : FnScope ["self", "line", "what"] ["self", "line", "what"] (defScope s_i_BadText) := ⟨rfl, rfl, rfl, by decide +kernel, rfl, by decide +kernel, by decide +kernel⟩
theorem sc_i_BadTower : FnScope ["self", "what", "place"] ["self", "what", "place"] (defScope s_i_BadTower) := ⟨rfl, rfl, rfl, by decide +kernel, rfl, by decide +kernel, by decide +kernel⟩
theorem sc_i_NoPlace : FnScope ["self", "place"] ["self", "place"] (defScope s_i_NoPlace) := ⟨rfl, rfl, rfl, by decide +kernel, rfl, by decide +kernel, by decide +kernel⟩
theorem sc_i_NoLetter : FnScope ["self", "letter"] ["self", "letter"] (defScope s_i_NoLetter) := ⟨rfl, rfl, rfl, by decide +kernel, rfl, by decide +kernel, by decide +kernel⟩
theorem sc_i_BadSystem : FnScope ["self", "what", "place"] ["self", "what", "place"] (defScope s_i_BadSystem) := ⟨rfl, rfl, rfl, by decide +kernel, rfl, by decide +kernel, by decide +kernel⟩
theorem sc_i_TooMany : FnScope ["self", "most"] ["self", "most"] (defScope s_i_TooMany) := ⟨rfl, rfl, rfl, by decide +kernel, rfl, by decide +kernel, by decide +kernel⟩
theorem sc_i_BadProgram : FnScope ["self", "line", "what"] ["self", "line", "what"] (defScope s_i_BadProgram) := ⟨rfl, rfl, rfl, by decide +kernel, rfl, by decide +kernel, by decide +kernel⟩
theorem sc_i_BadPoint : FnScope ["self", "index", "what"] ["self", "index", "what"] (defScope s_i_BadPoint) := ⟨rfl, rfl, rfl, by decide +kernel, rfl, by decide +kernel, by decide +kernel⟩
theorem sc_i_LackingLetter : FnScope ["self", "letter"] ["self", "letter"] (defScope s_i_LackingLetter) := ⟨rfl, rfl, rfl, by decide +kernel, rfl, by decide +kernel, by decide +kernel⟩
theorem sc_i_NoMark : FnScope ["self", "mark"] ["self", "mark"] (defScope s_i_NoMark) := ⟨rfl, rfl, rfl, by decide +kernel, rfl, by decide +kernel, by decide +kernel⟩
theorem sc_i_BadSaying : FnScope ["self", "what"] ["self", "what"] (defScope s_i_BadSaying) := ⟨rfl, rfl, rfl, by decide +kernel, rfl, by decide +kernel, by decide +kernel⟩
theorem sc_i_BadPrefix : FnScope ["self", "many"] ["self", "many"] (defScope s_i_BadPrefix) := ⟨rfl, rfl, rfl, by decide +kernel, rfl, by decide +kernel, by decide +kernel⟩
theorem sc_i_BadLot : FnScope ["self", "what"] ["self", "what"] (defScope s_i_BadLot) := ⟨rfl, rfl, rfl, by decide +kernel, rfl, by decide +kernel, by decide +kernel⟩
structure Txt (K : PySem.W.Frag) (mg : Str → Option Value) : Prop where
  n_ArithmeticError : mg "ArithmeticError" = none
  n_LookupError : mg "LookupError" = none
  n_ValueError : mg "ValueError" = none
  n_abs : mg "abs" = none
  n_any : mg "any" = none
  n_int : mg "int" = none
  n_isinstance : mg "isinstance" = none
  n_len : mg "len" = none
  n_range : mg "range" = none
  g_BadElement : mg "BadElement" = some (.ref (He.ga K "BadElement"))
  g_BadLot : mg "BadLot" = some (.ref (He.ga K "BadLot"))
  g_BadPoint : mg "BadPoint" = some (.ref (He.ga K "BadPoint"))
  g_BadPrefix : mg "BadPrefix" = some (.ref (He.ga K "BadPrefix"))
  g_BadProgram : mg "BadProgram" = some (.ref (He.ga K "BadProgram"))
  g_BadRatio : mg "BadRatio" = some (.ref (He.ga K "BadRatio"))
  g_BadSaying : mg "BadSaying" = some (.ref (He.ga K "BadSaying"))
  g_BadSystem : mg "BadSystem" = some (.ref (He.ga K "BadSystem"))
  g_BadText : mg "BadText" = some (.ref (He.ga K "BadText"))
  g_BadTower : mg "BadTower" = some (.ref (He.ga K "BadTower"))
  g_DividedByNought : mg "DividedByNought" = some (.ref (He.ga K "DividedByNought"))
  g_HasFree : mg "HasFree" = some (.ref (He.ga K "HasFree"))
  g_LackingLetter : mg "LackingLetter" = some (.ref (He.ga K "LackingLetter"))
  g_NoFree : mg "NoFree" = some (.ref (He.ga K "NoFree"))
  g_NoLetter : mg "NoLetter" = some (.ref (He.ga K "NoLetter"))
  g_NoMark : mg "NoMark" = some (.ref (He.ga K "NoMark"))
  g_NoPlace : mg "NoPlace" = some (.ref (He.ga K "NoPlace"))
  g_NoPoint : mg "NoPoint" = some (.ref (He.ga K "NoPoint"))
  g_NoneMarked : mg "NoneMarked" = some (.ref (He.ga K "NoneMarked"))
  g_NotMonic : mg "NotMonic" = some (.ref (He.ga K "NotMonic"))
  g_NotOne : mg "NotOne" = some (.ref (He.ga K "NotOne"))
  g_OtherLetters : mg "OtherLetters" = some (.ref (He.ga K "OtherLetters"))
  g_Pole : mg "Pole" = some (.ref (He.ga K "Pole"))
  g_RootError : mg "RootError" = some (.ref (He.ga K "RootError"))
  g_TooMany : mg "TooMany" = some (.ref (He.ga K "TooMany"))
  g_ZeroNote : mg "ZeroNote" = some (.ref (He.ga K "ZeroNote"))
  g__law_classes : mg "_law_classes" = some (.ref (He.ga K "_law_classes"))
  g__law_draw : mg "_law_draw" = some (.ref (He.ga K "_law_draw"))
  g__law_first : mg "_law_first" = some (.ref (He.ga K "_law_first"))
  g__law_gcd : mg "_law_gcd" = some (.ref (He.ga K "_law_gcd"))
  g__law_mixed : mg "_law_mixed" = some (.ref (He.ga K "_law_mixed"))
  g__law_raised : mg "_law_raised" = some (.ref (He.ga K "_law_raised"))
  g__law_ratio : mg "_law_ratio" = some (.ref (He.ga K "_law_ratio"))
  g__law_second : mg "_law_second" = some (.ref (He.ga K "_law_second"))
  g__law_small : mg "_law_small" = some (.ref (He.ga K "_law_small"))
  g__law_start : mg "_law_start" = some (.ref (He.ga K "_law_start"))
  g__law_word : mg "_law_word" = some (.ref (He.ga K "_law_word"))
  g_law : mg "law" = some (.ref (He.ga K "law"))
  e_DividedByNought : (He.Fa.exc "DividedByNought").ok K = true
  e_HasFree : (He.Fa.exc "HasFree").ok K = true
  e_NoFree : (He.Fa.exc "NoFree").ok K = true
  e_NoPoint : (He.Fa.exc "NoPoint").ok K = true
  e_NoneMarked : (He.Fa.exc "NoneMarked").ok K = true
  e_NotMonic : (He.Fa.exc "NotMonic").ok K = true
  e_NotOne : (He.Fa.exc "NotOne").ok K = true
  e_OtherLetters : (He.Fa.exc "OtherLetters").ok K = true
  e_RootError : (He.Fa.exc "RootError").ok K = true
  e_ZeroNote : (He.Fa.exc "ZeroNote").ok K = true
  o_BadRatio : OexC K (He.ga K "BadRatio")
  ini_BadRatio : PySem.W.findIn K (.ref (He.ga K "BadRatio")) "__init__" = some (some (.ref (He.ma K (He.ga K "BadRatio") "__init__")))
  ty_BadRatio : PySem.W.typeIn K (.ref (He.ma K (He.ga K "BadRatio") "__init__")) = some (.type "function")
  nf_BadRatio_what : PySem.W.findIn K (.ref (He.ga K "BadRatio")) "what" = some none
  o_Pole : OexC K (He.ga K "Pole")
  ini_Pole : PySem.W.findIn K (.ref (He.ga K "Pole")) "__init__" = some (some (.ref (He.ma K (He.ga K "Pole") "__init__")))
  ty_Pole : PySem.W.typeIn K (.ref (He.ma K (He.ga K "Pole") "__init__")) = some (.type "function")
  nf_Pole_at : PySem.W.findIn K (.ref (He.ga K "Pole")) "at" = some none
  o_BadElement : OexC K (He.ga K "BadElement")
  ini_BadElement : PySem.W.findIn K (.ref (He.ga K "BadElement")) "__init__" = some (some (.ref (He.ma K (He.ga K "BadElement") "__init__")))
  ty_BadElement : PySem.W.typeIn K (.ref (He.ma K (He.ga K "BadElement") "__init__")) = some (.type "function")
  nf_BadElement_index : PySem.W.findIn K (.ref (He.ga K "BadElement")) "index" = some none
  o_BadText : OexC K (He.ga K "BadText")
  ini_BadText : PySem.W.findIn K (.ref (He.ga K "BadText")) "__init__" = some (some (.ref (He.ma K (He.ga K "BadText") "__init__")))
  ty_BadText : PySem.W.typeIn K (.ref (He.ma K (He.ga K "BadText") "__init__")) = some (.type "function")
  nf_BadText_line : PySem.W.findIn K (.ref (He.ga K "BadText")) "line" = some none
  nf_BadText_what : PySem.W.findIn K (.ref (He.ga K "BadText")) "what" = some none
  o_BadTower : OexC K (He.ga K "BadTower")
  ini_BadTower : PySem.W.findIn K (.ref (He.ga K "BadTower")) "__init__" = some (some (.ref (He.ma K (He.ga K "BadTower") "__init__")))
  ty_BadTower : PySem.W.typeIn K (.ref (He.ma K (He.ga K "BadTower") "__init__")) = some (.type "function")
  nf_BadTower_what : PySem.W.findIn K (.ref (He.ga K "BadTower")) "what" = some none
  nf_BadTower_place : PySem.W.findIn K (.ref (He.ga K "BadTower")) "place" = some none
  o_NoPlace : OexC K (He.ga K "NoPlace")
  ini_NoPlace : PySem.W.findIn K (.ref (He.ga K "NoPlace")) "__init__" = some (some (.ref (He.ma K (He.ga K "NoPlace") "__init__")))
  ty_NoPlace : PySem.W.typeIn K (.ref (He.ma K (He.ga K "NoPlace") "__init__")) = some (.type "function")
  nf_NoPlace_place : PySem.W.findIn K (.ref (He.ga K "NoPlace")) "place" = some none
  o_NoLetter : OexC K (He.ga K "NoLetter")
  ini_NoLetter : PySem.W.findIn K (.ref (He.ga K "NoLetter")) "__init__" = some (some (.ref (He.ma K (He.ga K "NoLetter") "__init__")))
  ty_NoLetter : PySem.W.typeIn K (.ref (He.ma K (He.ga K "NoLetter") "__init__")) = some (.type "function")
  nf_NoLetter_letter : PySem.W.findIn K (.ref (He.ga K "NoLetter")) "letter" = some none
  o_BadSystem : OexC K (He.ga K "BadSystem")
  ini_BadSystem : PySem.W.findIn K (.ref (He.ga K "BadSystem")) "__init__" = some (some (.ref (He.ma K (He.ga K "BadSystem") "__init__")))
  ty_BadSystem : PySem.W.typeIn K (.ref (He.ma K (He.ga K "BadSystem") "__init__")) = some (.type "function")
  nf_BadSystem_what : PySem.W.findIn K (.ref (He.ga K "BadSystem")) "what" = some none
  nf_BadSystem_place : PySem.W.findIn K (.ref (He.ga K "BadSystem")) "place" = some none
  o_TooMany : OexC K (He.ga K "TooMany")
  ini_TooMany : PySem.W.findIn K (.ref (He.ga K "TooMany")) "__init__" = some (some (.ref (He.ma K (He.ga K "TooMany") "__init__")))
  ty_TooMany : PySem.W.typeIn K (.ref (He.ma K (He.ga K "TooMany") "__init__")) = some (.type "function")
  nf_TooMany_most : PySem.W.findIn K (.ref (He.ga K "TooMany")) "most" = some none
  o_BadProgram : OexC K (He.ga K "BadProgram")
  ini_BadProgram : PySem.W.findIn K (.ref (He.ga K "BadProgram")) "__init__" = some (some (.ref (He.ma K (He.ga K "BadProgram") "__init__")))
  ty_BadProgram : PySem.W.typeIn K (.ref (He.ma K (He.ga K "BadProgram") "__init__")) = some (.type "function")
  nf_BadProgram_line : PySem.W.findIn K (.ref (He.ga K "BadProgram")) "line" = some none
  nf_BadProgram_what : PySem.W.findIn K (.ref (He.ga K "BadProgram")) "what" = some none
  o_BadPoint : OexC K (He.ga K "BadPoint")
  ini_BadPoint : PySem.W.findIn K (.ref (He.ga K "BadPoint")) "__init__" = some (some (.ref (He.ma K (He.ga K "BadPoint") "__init__")))
  ty_BadPoint : PySem.W.typeIn K (.ref (He.ma K (He.ga K "BadPoint") "__init__")) = some (.type "function")
  nf_BadPoint_index : PySem.W.findIn K (.ref (He.ga K "BadPoint")) "index" = some none
  nf_BadPoint_what : PySem.W.findIn K (.ref (He.ga K "BadPoint")) "what" = some none
  o_LackingLetter : OexC K (He.ga K "LackingLetter")
  ini_LackingLetter : PySem.W.findIn K (.ref (He.ga K "LackingLetter")) "__init__" = some (some (.ref (He.ma K (He.ga K "LackingLetter") "__init__")))
  ty_LackingLetter : PySem.W.typeIn K (.ref (He.ma K (He.ga K "LackingLetter") "__init__")) = some (.type "function")
  nf_LackingLetter_letter : PySem.W.findIn K (.ref (He.ga K "LackingLetter")) "letter" = some none
  o_NoMark : OexC K (He.ga K "NoMark")
  ini_NoMark : PySem.W.findIn K (.ref (He.ga K "NoMark")) "__init__" = some (some (.ref (He.ma K (He.ga K "NoMark") "__init__")))
  ty_NoMark : PySem.W.typeIn K (.ref (He.ma K (He.ga K "NoMark") "__init__")) = some (.type "function")
  nf_NoMark_mark : PySem.W.findIn K (.ref (He.ga K "NoMark")) "mark" = some none
  o_BadSaying : OexC K (He.ga K "BadSaying")
  ini_BadSaying : PySem.W.findIn K (.ref (He.ga K "BadSaying")) "__init__" = some (some (.ref (He.ma K (He.ga K "BadSaying") "__init__")))
  ty_BadSaying : PySem.W.typeIn K (.ref (He.ma K (He.ga K "BadSaying") "__init__")) = some (.type "function")
  nf_BadSaying_what : PySem.W.findIn K (.ref (He.ga K "BadSaying")) "what" = some none
  o_BadPrefix : OexC K (He.ga K "BadPrefix")
  ini_BadPrefix : PySem.W.findIn K (.ref (He.ga K "BadPrefix")) "__init__" = some (some (.ref (He.ma K (He.ga K "BadPrefix") "__init__")))
  ty_BadPrefix : PySem.W.typeIn K (.ref (He.ma K (He.ga K "BadPrefix") "__init__")) = some (.type "function")
  nf_BadPrefix_many : PySem.W.findIn K (.ref (He.ga K "BadPrefix")) "many" = some none
  o_BadLot : OexC K (He.ga K "BadLot")
  ini_BadLot : PySem.W.findIn K (.ref (He.ga K "BadLot")) "__init__" = some (some (.ref (He.ma K (He.ga K "BadLot") "__init__")))
  ty_BadLot : PySem.W.typeIn K (.ref (He.ma K (He.ga K "BadLot") "__init__")) = some (.type "function")
  nf_BadLot_what : PySem.W.findIn K (.ref (He.ga K "BadLot")) "what" = some none
  xf_BadSystem : XfC K (He.ga K "BadSystem")
  xf_BadText : XfC K (He.ga K "BadText")
  kit : Kit K
  hd_ : True
section
variable {K : PySem.W.Frag} {mg : Str → Option Value} (T : Txt K mg)
include T
theorem Txt.x_DividedByNought : PySem.W.excIn K (He.ga K "DividedByNought") He.veBase "ValueError.__new__" = true := (He.exc_ok T.e_DividedByNought).1
theorem Txt.k_DividedByNought : PySem.W.keepIn K (.ref (He.ga K "DividedByNought")) = true := (He.exc_ok T.e_DividedByNought).2.1
theorem Txt.r_DividedByNought {X : Cx} (e : X.K = K := by rfl) : Raises X (.ref (He.ga K "DividedByNought")) := raises_own (by rw [e]; exact (He.exc_ok T.e_DividedByNought).2.2.1) (by rw [e]; exact (He.exc_ok T.e_DividedByNought).2.2.2)
theorem Txt.x_HasFree : PySem.W.excIn K (He.ga K "HasFree") He.veBase "ValueError.__new__" = true := (He.exc_ok T.e_HasFree).1
theorem Txt.k_HasFree : PySem.W.keepIn K (.ref (He.ga K "HasFree")) = true := (He.exc_ok T.e_HasFree).2.1
theorem Txt.r_HasFree {X : Cx} (e : X.K = K := by rfl) : Raises X (.ref (He.ga K "HasFree")) := raises_own (by rw [e]; exact (He.exc_ok T.e_HasFree).2.2.1) (by rw [e]; exact (He.exc_ok T.e_HasFree).2.2.2)
theorem Txt.x_NoFree : PySem.W.excIn K (He.ga K "NoFree") He.veBase "ValueError.__new__" = true := (He.exc_ok T.e_NoFree).1
theorem Txt.k_NoFree : PySem.W.keepIn K (.ref (He.ga K "NoFree")) = true := (He.exc_ok T.e_NoFree).2.1
theorem Txt.r_NoFree {X : Cx} (e : X.K = K := by rfl) : Raises X (.ref (He.ga K "NoFree")) := raises_own (by rw [e]; exact (He.exc_ok T.e_NoFree).2.2.1) (by rw [e]; exact (He.exc_ok T.e_NoFree).2.2.2)
theorem Txt.x_NoPoint : PySem.W.excIn K (He.ga K "NoPoint") He.veBase "ValueError.__new__" = true := (He.exc_ok T.e_NoPoint).1
theorem Txt.k_NoPoint : PySem.W.keepIn K (.ref (He.ga K "NoPoint")) = true := (He.exc_ok T.e_NoPoint).2.1
theorem Txt.r_NoPoint {X : Cx} (e : X.K = K := by rfl) : Raises X (.ref (He.ga K "NoPoint")) := raises_own (by rw [e]; exact (He.exc_ok T.e_NoPoint).2.2.1) (by rw [e]; exact (He.exc_ok T.e_NoPoint).2.2.2)
theorem Txt.x_NoneMarked : PySem.W.excIn K (He.ga K "NoneMarked") He.veBase "ValueError.__new__" = true := (He.exc_ok T.e_NoneMarked).1
theorem Txt.k_NoneMarked : PySem.W.keepIn K (.ref (He.ga K "NoneMarked")) = true := (He.exc_ok T.e_NoneMarked).2.1
theorem Txt.r_NoneMarked {X : Cx} (e : X.K = K := by rfl) : Raises X (.ref (He.ga K "NoneMarked")) := raises_own (by rw [e]; exact (He.exc_ok T.e_NoneMarked).2.2.1) (by rw [e]; exact (He.exc_ok T.e_NoneMarked).2.2.2)
theorem Txt.x_NotMonic : PySem.W.excIn K (He.ga K "NotMonic") He.veBase "ValueError.__new__" = true := (He.exc_ok T.e_NotMonic).1
theorem Txt.k_NotMonic : PySem.W.keepIn K (.ref (He.ga K "NotMonic")) = true := (He.exc_ok T.e_NotMonic).2.1
theorem Txt.r_NotMonic {X : Cx} (e : X.K = K := by rfl) : Raises X (.ref (He.ga K "NotMonic")) := raises_own (by rw [e]; exact (He.exc_ok T.e_NotMonic).2.2.1) (by rw [e]; exact (He.exc_ok T.e_NotMonic).2.2.2)
theorem Txt.x_NotOne : PySem.W.excIn K (He.ga K "NotOne") He.veBase "ValueError.__new__" = true := (He.exc_ok T.e_NotOne).1
theorem Txt.k_NotOne : PySem.W.keepIn K (.ref (He.ga K "NotOne")) = true := (He.exc_ok T.e_NotOne).2.1
theorem Txt.r_NotOne {X : Cx} (e : X.K = K := by rfl) : Raises X (.ref (He.ga K "NotOne")) := raises_own (by rw [e]; exact (He.exc_ok T.e_NotOne).2.2.1) (by rw [e]; exact (He.exc_ok T.e_NotOne).2.2.2)
theorem Txt.x_OtherLetters : PySem.W.excIn K (He.ga K "OtherLetters") He.veBase "ValueError.__new__" = true := (He.exc_ok T.e_OtherLetters).1
theorem Txt.k_OtherLetters : PySem.W.keepIn K (.ref (He.ga K "OtherLetters")) = true := (He.exc_ok T.e_OtherLetters).2.1
theorem Txt.r_OtherLetters {X : Cx} (e : X.K = K := by rfl) : Raises X (.ref (He.ga K "OtherLetters")) := raises_own (by rw [e]; exact (He.exc_ok T.e_OtherLetters).2.2.1) (by rw [e]; exact (He.exc_ok T.e_OtherLetters).2.2.2)
theorem Txt.x_RootError : PySem.W.excIn K (He.ga K "RootError") He.veBase "ValueError.__new__" = true := (He.exc_ok T.e_RootError).1
theorem Txt.k_RootError : PySem.W.keepIn K (.ref (He.ga K "RootError")) = true := (He.exc_ok T.e_RootError).2.1
theorem Txt.r_RootError {X : Cx} (e : X.K = K := by rfl) : Raises X (.ref (He.ga K "RootError")) := raises_own (by rw [e]; exact (He.exc_ok T.e_RootError).2.2.1) (by rw [e]; exact (He.exc_ok T.e_RootError).2.2.2)
theorem Txt.x_ZeroNote : PySem.W.excIn K (He.ga K "ZeroNote") He.veBase "ValueError.__new__" = true := (He.exc_ok T.e_ZeroNote).1
theorem Txt.k_ZeroNote : PySem.W.keepIn K (.ref (He.ga K "ZeroNote")) = true := (He.exc_ok T.e_ZeroNote).2.1
theorem Txt.r_ZeroNote {X : Cx} (e : X.K = K := by rfl) : Raises X (.ref (He.ga K "ZeroNote")) := raises_own (by rw [e]; exact (He.exc_ok T.e_ZeroNote).2.2.1) (by rw [e]; exact (He.exc_ok T.e_ZeroNote).2.2.2)
end
structure Defs (K : PySem.W.Frag) : Prop where
  d__law_start : ∃ fd, DLH.FnP K "_law_start" s__law_start [] fd
  d__law_mixed : ∃ fd, DLH.FnP K "_law_mixed" s__law_mixed [] fd
  d__law_draw : ∃ fd, DLH.FnP K "_law_draw" s__law_draw [] fd
  d__law_gcd : ∃ fd, DLH.FnP K "_law_gcd" s__law_gcd [] fd
  d__law_ratio : ∃ fd, DLH.FnP K "_law_ratio" s__law_ratio [] fd
  d__law_small : ∃ fd, DLH.FnP K "_law_small" s__law_small [] fd
  d__law_word : ∃ fd, DLH.FnP K "_law_word" s__law_word [] fd
  d__law_first : ∃ fd, DLH.FnP K "_law_first" s__law_first [] fd
  d__law_second : ∃ fd, DLH.FnP K "_law_second" s__law_second [] fd
  d__law_classes : ∃ fd, DLH.FnP K "_law_classes" s__law_classes [] fd
  d__law_raised : ∃ fd, DLH.FnP K "_law_raised" s__law_raised [] fd
  d_law : ∃ fd, DLH.FnP K "law" s_law [] fd
  d_i_BadRatio : ∃ fd, FunD K "__init__" "BadRatio.__init__" (defArgs s_i_BadRatio) (defBody s_i_BadRatio) (defScope s_i_BadRatio) [] [] (He.ma K (He.ga K "BadRatio") "__init__") fd
  d_i_Pole : ∃ fd, FunD K "__init__" "Pole.__init__" (defArgs s_i_Pole) (defBody s_i_Pole) (defScope s_i_Pole) [] [] (He.ma K (He.ga K "Pole") "__init__") fd
  d_i_BadElement : ∃ fd, FunD K "__init__" "BadElement.__init__" (defArgs s_i_BadElement) (defBody s_i_BadElement) (defScope s_i_BadElement) [] [] (He.ma K (He.ga K "BadElement") "__init__") fd
  d_i_BadText : ∃ fd, FunD K "__init__" "BadText.__init__" (defArgs s_i_BadText) (defBody s_i_BadText) (defScope s_i_BadText) [] [] (He.ma K (He.ga K "BadText") "__init__") fd
  d_i_BadTower : ∃ fd, FunD K "__init__" "BadTower.__init__" (defArgs s_i_BadTower) (defBody s_i_BadTower) (defScope s_i_BadTower) [] [] (He.ma K (He.ga K "BadTower") "__init__") fd
  d_i_NoPlace : ∃ fd, FunD K "__init__" "NoPlace.__init__" (defArgs s_i_NoPlace) (defBody s_i_NoPlace) (defScope s_i_NoPlace) [] [] (He.ma K (He.ga K "NoPlace") "__init__") fd
  d_i_NoLetter : ∃ fd, FunD K "__init__" "NoLetter.__init__" (defArgs s_i_NoLetter) (defBody s_i_NoLetter) (defScope s_i_NoLetter) [] [] (He.ma K (He.ga K "NoLetter") "__init__") fd
  d_i_BadSystem : ∃ fd, FunD K "__init__" "BadSystem.__init__" (defArgs s_i_BadSystem) (defBody s_i_BadSystem) (defScope s_i_BadSystem) [] [] (He.ma K (He.ga K "BadSystem") "__init__") fd
  d_i_TooMany : ∃ fd, FunD K "__init__" "TooMany.__init__" (defArgs s_i_TooMany) (defBody s_i_TooMany) (defScope s_i_TooMany) [] [] (He.ma K (He.ga K "TooMany") "__init__") fd
  d_i_BadProgram : ∃ fd, FunD K "__init__" "BadProgram.__init__" (defArgs s_i_BadProgram) (defBody s_i_BadProgram) (defScope s_i_BadProgram) [] [] (He.ma K (He.ga K "BadProgram") "__init__") fd
  d_i_BadPoint : ∃ fd, FunD K "__init__" "BadPoint.__init__" (defArgs s_i_BadPoint) (defBody s_i_BadPoint) (defScope s_i_BadPoint) [] [] (He.ma K (He.ga K "BadPoint") "__init__") fd
  d_i_LackingLetter : ∃ fd, FunD K "__init__" "LackingLetter.__init__" (defArgs s_i_LackingLetter) (defBody s_i_LackingLetter) (defScope s_i_LackingLetter) [] [] (He.ma K (He.ga K "LackingLetter") "__init__") fd
  d_i_NoMark : ∃ fd, FunD K "__init__" "NoMark.__init__" (defArgs s_i_NoMark) (defBody s_i_NoMark) (defScope s_i_NoMark) [] [] (He.ma K (He.ga K "NoMark") "__init__") fd
  d_i_BadSaying : ∃ fd, FunD K "__init__" "BadSaying.__init__" (defArgs s_i_BadSaying) (defBody s_i_BadSaying) (defScope s_i_BadSaying) [] [] (He.ma K (He.ga K "BadSaying") "__init__") fd
  d_i_BadPrefix : ∃ fd, FunD K "__init__" "BadPrefix.__init__" (defArgs s_i_BadPrefix) (defBody s_i_BadPrefix) (defScope s_i_BadPrefix) [] [] (He.ma K (He.ga K "BadPrefix") "__init__") fd
  d_i_BadLot : ∃ fd, FunD K "__init__" "BadLot.__init__" (defArgs s_i_BadLot) (defBody s_i_BadLot) (defScope s_i_BadLot) [] [] (He.ma K (He.ga K "BadLot") "__init__") fd
section
variable {P : Program} {w : World} {K : PySem.W.Frag} {mg : Str → Option Value} {base : Heap} (T : Txt K mg) (D : Defs K)
include T D
theorem ri_BadRatio {fd : FuncData} (F : FunD K "__init__" "BadRatio.__init__" (defArgs s_i_BadRatio) (defBody s_i_BadRatio) (defScope s_i_BadRatio) [] [] (He.ma K (He.ga K "BadRatio") "__init__") fd) : FnOk P w K mg base CX0 1 (He.ma K (He.ga K "BadRatio") "__init__") fd ("self" :: ["what"]) (DL.spInit (He.ga K "BadRatio") ["what"]) := by
  refine F.ok sc_i_BadRatio (fun vs H Q E h => ?_) (fun cdv A outer s H vs Q E hr h => ⟨tOst K "what" (tVar 0) (tVar 1), PSs.nox (pss_one (ps_ost (pv 0) (pv 1))), ?_⟩)
  · obtain ⟨a, ys, rfl, l, _⟩ := h
    show ys.length + 1 = _
    rw [l] <;> rfl
  · exact init_ok1 T.o_BadRatio T.nf_BadRatio_what h
theorem r_BadRatio : FnI P w K mg base 1 "BadRatio" ["what"] := by
  obtain ⟨fd, F⟩ := D.d_i_BadRatio
  exact ⟨T.o_BadRatio, T.ini_BadRatio, T.ty_BadRatio, T.g_BadRatio, fd, ri_BadRatio T D F, F.bindsN (fun _ _ _ _ _ _ us hl => match us, hl with | [_, _], _ => rfl)⟩
theorem ri_Pole {fd : FuncData} (F : FunD K "__init__" "Pole.__init__" (defArgs s_i_Pole) (defBody s_i_Pole) (defScope s_i_Pole) [] [] (He.ma K (He.ga K "Pole") "__init__") fd) : FnOk P w K mg base CX0 1 (He.ma K (He.ga K "Pole") "__init__") fd ("self" :: ["at"]) (DL.spInit (He.ga K "Pole") ["at"]) := by
  refine F.ok sc_i_Pole (fun vs H Q E h => ?_) (fun cdv A outer s H vs Q E hr h => ⟨tOst K "at" (tVar 0) (tVar 1), PSs.nox (pss_one (ps_ost (pv 0) (pv 1))), ?_⟩)
  · obtain ⟨a, ys, rfl, l, _⟩ := h
    show ys.length + 1 = _
    rw [l] <;> rfl
  · exact init_ok1 T.o_Pole T.nf_Pole_at h
theorem r_Pole : FnI P w K mg base 1 "Pole" ["at"] := by
  obtain ⟨fd, F⟩ := D.d_i_Pole
  exact ⟨T.o_Pole, T.ini_Pole, T.ty_Pole, T.g_Pole, fd, ri_Pole T D F, F.bindsN (fun _ _ _ _ _ _ us hl => match us, hl with | [_, _], _ => rfl)⟩
theorem ri_BadElement {fd : FuncData} (F : FunD K "__init__" "BadElement.__init__" (defArgs s_i_BadElement) (defBody s_i_BadElement) (defScope s_i_BadElement) [] [] (He.ma K (He.ga K "BadElement") "__init__") fd) : FnOk P w K mg base CX0 1 (He.ma K (He.ga K "BadElement") "__init__") fd ("self" :: ["index"]) (DL.spInit (He.ga K "BadElement") ["index"]) := by
  refine F.ok sc_i_BadElement (fun vs H Q E h => ?_) (fun cdv A outer s H vs Q E hr h => ⟨tOst K "index" (tVar 0) (tVar 1), PSs.nox (pss_one (ps_ost (pv 0) (pv 1))), ?_⟩)
  · obtain ⟨a, ys, rfl, l, _⟩ := h
    show ys.length + 1 = _
    rw [l] <;> rfl
  · exact init_ok1 T.o_BadElement T.nf_BadElement_index h
theorem r_BadElement : FnI P w K mg base 1 "BadElement" ["index"] := by
  obtain ⟨fd, F⟩ := D.d_i_BadElement
  exact ⟨T.o_BadElement, T.ini_BadElement, T.ty_BadElement, T.g_BadElement, fd, ri_BadElement T D F, F.bindsN (fun _ _ _ _ _ _ us hl => match us, hl with | [_, _], _ => rfl)⟩
theorem ri_BadText {fd : FuncData} (F : FunD K "__init__" "BadText.__init__" (defArgs s_i_BadText) (defBody s_i_BadText) (defScope s_i_BadText) [] [] (He.ma K (He.ga K "BadText") "__init__") fd) : FnOk P w K mg base CX0 1 (He.ma K (He.ga K "BadText") "__init__") fd ("self" :: ["line", "what"]) (DL.spInit (He.ga K "BadText") ["line", "what"]) := by
  refine F.ok sc_i_BadText (fun vs H Q E h => ?_) (fun cdv A outer s H vs Q E hr h => ⟨tSeq (tOst K "line" (tVar 0) (tVar 1)) (tOst K "what" (tVar 0) (tVar 2)), PSs.nox (pss_cons (ps_ost (pv 0) (pv 1)) (pss_one (ps_ost (pv 0) (pv 2)))), ?_⟩)
  · obtain ⟨a, ys, rfl, l, _⟩ := h
    show ys.length + 1 = _
    rw [l] <;> rfl
  · exact init_ok2 T.o_BadText T.nf_BadText_line T.nf_BadText_what h
theorem r_BadText : FnI P w K mg base 1 "BadText" ["line", "what"] := by
  obtain ⟨fd, F⟩ := D.d_i_BadText
  exact ⟨T.o_BadText, T.ini_BadText, T.ty_BadText, T.g_BadText, fd, ri_BadText T D F, F.bindsN (fun _ _ _ _ _ _ us hl => match us, hl with | [_, _, _], _ => rfl)⟩
theorem rk_BadText : FnIk P w K mg base 1 "BadText" ["line", "what"] ["line", "what"] (fun vs zs => vs ++ zs) := by
  obtain ⟨fd, F⟩ := D.d_i_BadText
  refine ⟨T.o_BadText, T.ini_BadText, T.ty_BadText, T.g_BadText, fd, _, ri_BadText T D F, kbindsN F 1 ["line", "what"] (fun {_} vs zs => vs ++ zs) (fun r1 r2 => r1.append r2) (fun kV doc pm an cdv ct us ws h1 h2 => match us, ws, h1, h2 with | [_], [_, _], _, _ => rfl)⟩
theorem ri_BadTower {fd : FuncData} (F : FunD K "__init__" "BadTower.__init__" (defArgs s_i_BadTower) (defBody s_i_BadTower) (defScope s_i_BadTower) [] [] (He.ma K (He.ga K "BadTower") "__init__") fd) : FnOk P w K mg base CX0 1 (He.ma K (He.ga K "BadTower") "__init__") fd ("self" :: ["what", "place"]) (DL.spInit (He.ga K "BadTower") ["what", "place"]) := by
  refine F.ok sc_i_BadTower (fun vs H Q E h => ?_) (fun cdv A outer s H vs Q E hr h => ⟨tSeq (tOst K "what" (tVar 0) (tVar 1)) (tOst K "place" (tVar 0) (tVar 2)), PSs.nox (pss_cons (ps_ost (pv 0) (pv 1)) (pss_one (ps_ost (pv 0) (pv 2)))), ?_⟩)
  · obtain ⟨a, ys, rfl, l, _⟩ := h
    show ys.length + 1 = _
    rw [l] <;> rfl
  · exact init_ok2 T.o_BadTower T.nf_BadTower_what T.nf_BadTower_place h
theorem r_BadTower : FnI P w K mg base 1 "BadTower" ["what", "place"] := by
  obtain ⟨fd, F⟩ := D.d_i_BadTower
  exact ⟨T.o_BadTower, T.ini_BadTower, T.ty_BadTower, T.g_BadTower, fd, ri_BadTower T D F, F.bindsN (fun _ _ _ _ _ _ us hl => match us, hl with | [_, _, _], _ => rfl)⟩
theorem ri_NoPlace {fd : FuncData} (F : FunD K "__init__" "NoPlace.__init__" (defArgs s_i_NoPlace) (defBody s_i_NoPlace) (defScope s_i_NoPlace) [] [] (He.ma K (He.ga K "NoPlace") "__init__") fd) : FnOk P w K mg base CX0 1 (He.ma K (He.ga K "NoPlace") "__init__") fd ("self" :: ["place"]) (DL.spInit (He.ga K "NoPlace") ["place"]) := by
  refine F.ok sc_i_NoPlace (fun vs H Q E h => ?_) (fun cdv A outer s H vs Q E hr h => ⟨tOst K "place" (tVar 0) (tVar 1), PSs.nox (pss_one (ps_ost (pv 0) (pv 1))), ?_⟩)
  · obtain ⟨a, ys, rfl, l, _⟩ := h
    show ys.length + 1 = _
    rw [l] <;> rfl
  · exact init_ok1 T.o_NoPlace T.nf_NoPlace_place h
theorem r_NoPlace : FnI P w K mg base 1 "NoPlace" ["place"] := by
  obtain ⟨fd, F⟩ := D.d_i_NoPlace
  exact ⟨T.o_NoPlace, T.ini_NoPlace, T.ty_NoPlace, T.g_NoPlace, fd, ri_NoPlace T D F, F.bindsN (fun _ _ _ _ _ _ us hl => match us, hl with | [_, _], _ => rfl)⟩
theorem ri_NoLetter {fd : FuncData} (F : FunD K "__init__" "NoLetter.__init__" (defArgs s_i_NoLetter) (defBody s_i_NoLetter) (defScope s_i_NoLetter) [] [] (He.ma K (He.ga K "NoLetter") "__init__") fd) : FnOk P w K mg base CX0 1 (He.ma K (He.ga K "NoLetter") "__init__") fd ("self" :: ["letter"]) (DL.spInit (He.ga K "NoLetter") ["letter"]) := by
  refine F.ok sc_i_NoLetter (fun vs H Q E h => ?_) (fun cdv A outer s H vs Q E hr h => ⟨tOst K "letter" (tVar 0) (tVar 1), PSs.nox (pss_one (ps_ost (pv 0) (pv 1))), ?_⟩)
  · obtain ⟨a, ys, rfl, l, _⟩ := h
    show ys.length + 1 = _
    rw [l] <;> rfl
  · exact init_ok1 T.o_NoLetter T.nf_NoLetter_letter h
theorem r_NoLetter : FnI P w K mg base 1 "NoLetter" ["letter"] := by
  obtain ⟨fd, F⟩ := D.d_i_NoLetter
  exact ⟨T.o_NoLetter, T.ini_NoLetter, T.ty_NoLetter, T.g_NoLetter, fd, ri_NoLetter T D F, F.bindsN (fun _ _ _ _ _ _ us hl => match us, hl with | [_, _], _ => rfl)⟩
theorem ri_BadSystem {fd : FuncData} (F : FunD K "__init__" "BadSystem.__init__" (defArgs s_i_BadSystem) (defBody s_i_BadSystem) (defScope s_i_BadSystem) [] [] (He.ma K (He.ga K "BadSystem") "__init__") fd) : FnOk P w K mg base CX0 1 (He.ma K (He.ga K "BadSystem") "__init__") fd ("self" :: ["what", "place"]) (DL.spInit (He.ga K "BadSystem") ["what", "place"]) := by
  refine F.ok sc_i_BadSystem (fun vs H Q E h => ?_) (fun cdv A outer s H vs Q E hr h => ⟨tSeq (tOst K "what" (tVar 0) (tVar 1)) (tOst K "place" (tVar 0) (tVar 2)), PSs.nox (pss_cons (ps_ost (pv 0) (pv 1)) (pss_one (ps_ost (pv 0) (pv 2)))), ?_⟩)
  · obtain ⟨a, ys, rfl, l, _⟩ := h
    show ys.length + 1 = _
    rw [l] <;> rfl
  · exact init_ok2 T.o_BadSystem T.nf_BadSystem_what T.nf_BadSystem_place h
theorem r_BadSystem : FnI P w K mg base 1 "BadSystem" ["what", "place"] := by
  obtain ⟨fd, F⟩ := D.d_i_BadSystem
  exact ⟨T.o_BadSystem, T.ini_BadSystem, T.ty_BadSystem, T.g_BadSystem, fd, ri_BadSystem T D F, F.bindsN (fun _ _ _ _ _ _ us hl => match us, hl with | [_, _, _], _ => rfl)⟩
theorem rk_BadSystem : FnIk P w K mg base 1 "BadSystem" ["what", "place"] ["place", "what"] (fun vs zs => vs ++ zs.reverse) := by
  obtain ⟨fd, F⟩ := D.d_i_BadSystem
  refine ⟨T.o_BadSystem, T.ini_BadSystem, T.ty_BadSystem, T.g_BadSystem, fd, _, ri_BadSystem T D F, kbindsN F 1 ["place", "what"] (fun {_} vs zs => vs ++ zs.reverse) (fun r1 r2 => r1.append (rev_vals r2)) (fun kV doc pm an cdv ct us ws h1 h2 => match us, ws, h1, h2 with | [_], [_, _], _, _ => rfl)⟩
theorem ri_TooMany {fd : FuncData} (F : FunD K "__init__" "TooMany.__init__" (defArgs s_i_TooMany) (defBody s_i_TooMany) (defScope s_i_TooMany) [] [] (He.ma K (He.ga K "TooMany") "__init__") fd) : FnOk P w K mg base CX0 1 (He.ma K (He.ga K "TooMany") "__init__") fd ("self" :: ["most"]) (DL.spInit (He.ga K "TooMany") ["most"]) := by
  refine F.ok sc_i_TooMany (fun vs H Q E h => ?_) (fun cdv A outer s H vs Q E hr h => ⟨tOst K "most" (tVar 0) (tVar 1), PSs.nox (pss_one (ps_ost (pv 0) (pv 1))), ?_⟩)
  · obtain ⟨a, ys, rfl, l, _⟩ := h
    show ys.length + 1 = _
    rw [l] <;> rfl
  · exact init_ok1 T.o_TooMany T.nf_TooMany_most h
theorem r_TooMany : FnI P w K mg base 1 "TooMany" ["most"] := by
  obtain ⟨fd, F⟩ := D.d_i_TooMany
  exact ⟨T.o_TooMany, T.ini_TooMany, T.ty_TooMany, T.g_TooMany, fd, ri_TooMany T D F, F.bindsN (fun _ _ _ _ _ _ us hl => match us, hl with | [_, _], _ => rfl)⟩
theorem ri_BadProgram {fd : FuncData} (F : FunD K "__init__" "BadProgram.__init__" (defArgs s_i_BadProgram) (defBody s_i_BadProgram) (defScope s_i_BadProgram) [] [] (He.ma K (He.ga K "BadProgram") "__init__") fd) : FnOk P w K mg base CX0 1 (He.ma K (He.ga K "BadProgram") "__init__") fd ("self" :: ["line", "what"]) (DL.spInit (He.ga K "BadProgram") ["line", "what"]) := by
  refine F.ok sc_i_BadProgram (fun vs H Q E h => ?_) (fun cdv A outer s H vs Q E hr h => ⟨tSeq (tOst K "line" (tVar 0) (tVar 1)) (tOst K "what" (tVar 0) (tVar 2)), PSs.nox (pss_cons (ps_ost (pv 0) (pv 1)) (pss_one (ps_ost (pv 0) (pv 2)))), ?_⟩)
  · obtain ⟨a, ys, rfl, l, _⟩ := h
    show ys.length + 1 = _
    rw [l] <;> rfl
  · exact init_ok2 T.o_BadProgram T.nf_BadProgram_line T.nf_BadProgram_what h
theorem r_BadProgram : FnI P w K mg base 1 "BadProgram" ["line", "what"] := by
  obtain ⟨fd, F⟩ := D.d_i_BadProgram
  exact ⟨T.o_BadProgram, T.ini_BadProgram, T.ty_BadProgram, T.g_BadProgram, fd, ri_BadProgram T D F, F.bindsN (fun _ _ _ _ _ _ us hl => match us, hl with | [_, _, _], _ => rfl)⟩
theorem ri_BadPoint {fd : FuncData} (F : FunD K "__init__" "BadPoint.__init__" (defArgs s_i_BadPoint) (defBody s_i_BadPoint) (defScope s_i_BadPoint) [] [] (He.ma K (He.ga K "BadPoint") "__init__") fd) : FnOk P w K mg base CX0 1 (He.ma K (He.ga K "BadPoint") "__init__") fd ("self" :: ["index", "what"]) (DL.spInit (He.ga K "BadPoint") ["index", "what"]) := by
  refine F.ok sc_i_BadPoint (fun vs H Q E h => ?_) (fun cdv A outer s H vs Q E hr h => ⟨tSeq (tOst K "index" (tVar 0) (tVar 1)) (tOst K "what" (tVar 0) (tVar 2)), PSs.nox (pss_cons (ps_ost (pv 0) (pv 1)) (pss_one (ps_ost (pv 0) (pv 2)))), ?_⟩)
  · obtain ⟨a, ys, rfl, l, _⟩ := h
    show ys.length + 1 = _
    rw [l] <;> rfl
  · exact init_ok2 T.o_BadPoint T.nf_BadPoint_index T.nf_BadPoint_what h
theorem r_BadPoint : FnI P w K mg base 1 "BadPoint" ["index", "what"] := by
  obtain ⟨fd, F⟩ := D.d_i_BadPoint
  exact ⟨T.o_BadPoint, T.ini_BadPoint, T.ty_BadPoint, T.g_BadPoint, fd, ri_BadPoint T D F, F.bindsN (fun _ _ _ _ _ _ us hl => match us, hl with | [_, _, _], _ => rfl)⟩
theorem ri_LackingLetter {fd : FuncData} (F : FunD K "__init__" "LackingLetter.__init__" (defArgs s_i_LackingLetter) (defBody s_i_LackingLetter) (defScope s_i_LackingLetter) [] [] (He.ma K (He.ga K "LackingLetter") "__init__") fd) : FnOk P w K mg base CX0 1 (He.ma K (He.ga K "LackingLetter") "__init__") fd ("self" :: ["letter"]) (DL.spInit (He.ga K "LackingLetter") ["letter"]) := by
  refine F.ok sc_i_LackingLetter (fun vs H Q E h => ?_) (fun cdv A outer s H vs Q E hr h => ⟨tOst K "letter" (tVar 0) (tVar 1), PSs.nox (pss_one (ps_ost (pv 0) (pv 1))), ?_⟩)
  · obtain ⟨a, ys, rfl, l, _⟩ := h
    show ys.length + 1 = _
    rw [l] <;> rfl
  · exact init_ok1 T.o_LackingLetter T.nf_LackingLetter_letter h
theorem r_LackingLetter : FnI P w K mg base 1 "LackingLetter" ["letter"] := by
  obtain ⟨fd, F⟩ := D.d_i_LackingLetter
  exact ⟨T.o_LackingLetter, T.ini_LackingLetter, T.ty_LackingLetter, T.g_LackingLetter, fd, ri_LackingLetter T D F, F.bindsN (fun _ _ _ _ _ _ us hl => match us, hl with | [_, _], _ => rfl)⟩
theorem ri_NoMark {fd : FuncData} (F : FunD K "__init__" "NoMark.__init__" (defArgs s_i_NoMark) (defBody s_i_NoMark) (defScope s_i_NoMark) [] [] (He.ma K (He.ga K "NoMark") "__init__") fd) : FnOk P w K mg base CX0 1 (He.ma K (He.ga K "NoMark") "__init__") fd ("self" :: ["mark"]) (DL.spInit (He.ga K "NoMark") ["mark"]) := by
  refine F.ok sc_i_NoMark (fun vs H Q E h => ?_) (fun cdv A outer s H vs Q E hr h => ⟨tOst K "mark" (tVar 0) (tVar 1), PSs.nox (pss_one (ps_ost (pv 0) (pv 1))), ?_⟩)
  · obtain ⟨a, ys, rfl, l, _⟩ := h
    show ys.length + 1 = _
    rw [l] <;> rfl
  · exact init_ok1 T.o_NoMark T.nf_NoMark_mark h
theorem r_NoMark : FnI P w K mg base 1 "NoMark" ["mark"] := by
  obtain ⟨fd, F⟩ := D.d_i_NoMark
  exact ⟨T.o_NoMark, T.ini_NoMark, T.ty_NoMark, T.g_NoMark, fd, ri_NoMark T D F, F.bindsN (fun _ _ _ _ _ _ us hl => match us, hl with | [_, _], _ => rfl)⟩
theorem ri_BadSaying {fd : FuncData} (F : FunD K "__init__" "BadSaying.__init__" (defArgs s_i_BadSaying) (defBody s_i_BadSaying) (defScope s_i_BadSaying) [] [] (He.ma K (He.ga K "BadSaying") "__init__") fd) : FnOk P w K mg base CX0 1 (He.ma K (He.ga K "BadSaying") "__init__") fd ("self" :: ["what"]) (DL.spInit (He.ga K "BadSaying") ["what"]) := by
  refine F.ok sc_i_BadSaying (fun vs H Q E h => ?_) (fun cdv A outer s H vs Q E hr h => ⟨tOst K "what" (tVar 0) (tVar 1), PSs.nox (pss_one (ps_ost (pv 0) (pv 1))), ?_⟩)
  · obtain ⟨a, ys, rfl, l, _⟩ := h
    show ys.length + 1 = _
    rw [l] <;> rfl
  · exact init_ok1 T.o_BadSaying T.nf_BadSaying_what h
theorem r_BadSaying : FnI P w K mg base 1 "BadSaying" ["what"] := by
  obtain ⟨fd, F⟩ := D.d_i_BadSaying
  exact ⟨T.o_BadSaying, T.ini_BadSaying, T.ty_BadSaying, T.g_BadSaying, fd, ri_BadSaying T D F, F.bindsN (fun _ _ _ _ _ _ us hl => match us, hl with | [_, _], _ => rfl)⟩
theorem ri_BadPrefix {fd : FuncData} (F : FunD K "__init__" "BadPrefix.__init__" (defArgs s_i_BadPrefix) (defBody s_i_BadPrefix) (defScope s_i_BadPrefix) [] [] (He.ma K (He.ga K "BadPrefix") "__init__") fd) : FnOk P w K mg base CX0 1 (He.ma K (He.ga K "BadPrefix") "__init__") fd ("self" :: ["many"]) (DL.spInit (He.ga K "BadPrefix") ["many"]) := by
  refine F.ok sc_i_BadPrefix (fun vs H Q E h => ?_) (fun cdv A outer s H vs Q E hr h => ⟨tOst K "many" (tVar 0) (tVar 1), PSs.nox (pss_one (ps_ost (pv 0) (pv 1))), ?_⟩)
  · obtain ⟨a, ys, rfl, l, _⟩ := h
    show ys.length + 1 = _
    rw [l] <;> rfl
  · exact init_ok1 T.o_BadPrefix T.nf_BadPrefix_many h
theorem r_BadPrefix : FnI P w K mg base 1 "BadPrefix" ["many"] := by
  obtain ⟨fd, F⟩ := D.d_i_BadPrefix
  exact ⟨T.o_BadPrefix, T.ini_BadPrefix, T.ty_BadPrefix, T.g_BadPrefix, fd, ri_BadPrefix T D F, F.bindsN (fun _ _ _ _ _ _ us hl => match us, hl with | [_, _], _ => rfl)⟩
theorem ri_BadLot {fd : FuncData} (F : FunD K "__init__" "BadLot.__init__" (defArgs s_i_BadLot) (defBody s_i_BadLot) (defScope s_i_BadLot) [] [] (He.ma K (He.ga K "BadLot") "__init__") fd) : FnOk P w K mg base CX0 1 (He.ma K (He.ga K "BadLot") "__init__") fd ("self" :: ["what"]) (DL.spInit (He.ga K "BadLot") ["what"]) := by
  refine F.ok sc_i_BadLot (fun vs H Q E h => ?_) (fun cdv A outer s H vs Q E hr h => ⟨tOst K "what" (tVar 0) (tVar 1), PSs.nox (pss_one (ps_ost (pv 0) (pv 1))), ?_⟩)
  · obtain ⟨a, ys, rfl, l, _⟩ := h
    show ys.length + 1 = _
    rw [l] <;> rfl
  · exact init_ok1 T.o_BadLot T.nf_BadLot_what h
theorem r_BadLot : FnI P w K mg base 1 "BadLot" ["what"] := by
  obtain ⟨fd, F⟩ := D.d_i_BadLot
  exact ⟨T.o_BadLot, T.ini_BadLot, T.ty_BadLot, T.g_BadLot, fd, ri_BadLot T D F, F.bindsN (fun _ _ _ _ _ _ us hl => match us, hl with | [_, _], _ => rfl)⟩
theorem ok__law_start {fd : FuncData} (F : DLH.FnP K "_law_start" s__law_start [] fd) : FnOk P w K mg base CX0 1 (He.ga K "_law_start") fd ["_law_script"] (sp__law_start K) := by
  refine F.ok sc__law_start (fun vs H Q E h => by obtain ⟨_, _, rfl, _⟩ := h; rfl) (fun cdv A outer s H vs Q E hr h => ⟨t__law_start K, PSs.nox (by exact (pss_cons (ps_set (i := 1) sc__law_start.nd rfl (Or.inl rfl) pe_int) (pss_cons (ps_for PassesOwn.never rfl (pi_seq (pv 0)) (pg_name (i := 2) sc__law_start.nd rfl (Or.inl rfl)) (pss_one (ps_set (i := 1) sc__law_start.nd rfl (Or.inl rfl) (pe_op op_modU (pe_callTy call_intU (by rfl) T.n_int (by decide +kernel) (pa_cons (pe_op op_addU (pe_op op_mulU (pv 1) pe_int) (pe_callTy call_intU (by rfl) T.n_int (by decide +kernel) (pa_cons (pv 2) pa_nil))) pa_nil)) pe_int)))) (pss_one (ps_ret (pe_lst (pa_cons (pe_lc (own := [("_law_cell", 2)]) (g := gName 2) (tt := tYes) rfl sc__law_start.nd (pi_seq (pv 0)) (blkOk_by (N := N__law_start) (sc := defScope s__law_start) (by decide +kernel)) (fun _ _ _ _ _ => (pg_name (i := 2) sc__law_start.nd rfl (Or.inl rfl))) (fun _ _ _ _ _ => pts_nil) (fun _ _ _ _ _ => (pe_callTy call_intU (by rfl) T.n_int (by decide +kernel) (pa_cons (pv 2) pa_nil)))) (pa_cons pe_int (pa_cons pe_int (pa_cons pe_int (pa_cons (pv 1) pa_nil))))))))))), w__law_start K vs H Q E h⟩)
theorem r__law_start : FnR P w K mg base CX0 1 "_law_start" ["_law_script"] [] (sp__law_start K) := by
  obtain ⟨fd, F⟩ := D.d__law_start
  exact ⟨⟨fd, [], ok__law_start T D F, .nil, F.bindsN (fun _ _ _ _ _ _ us hl => match us, hl with | [_], _ => rfl)⟩, T.g__law_start, F.kp⟩
theorem ok__law_mixed {fd : FuncData} (F : DLH.FnP K "_law_mixed" s__law_mixed [] fd) : FnOk P w K mg base CX0 1 (He.ga K "_law_mixed") fd ["_law_number", "_law_turn"] (sp__law_mixed K) := by
  refine DLH.FunD.ok0 (t := t__law_mixed K) F sc__law_mixed rfl (fun cdv A outer s H E hr => by exact (pss_cons (ps_set (i := 2) sc__law_mixed.nd rfl (Or.inl rfl) (pe_op op_modU (pe_callTy call_intU (by rfl) T.n_int (by decide +kernel) (pa_cons (pe_op op_addU (pe_op op_addU (pe_op op_mulU (pv 0) pe_int) (pe_op op_mulU (pv 1) pe_int)) pe_int) pa_nil)) pe_int)) (pss_cons (ps_set (i := 3) sc__law_mixed.nd rfl (Or.inl rfl) (pe_op op_modU (pe_callTy call_intU (by rfl) T.n_int (by decide +kernel) (pa_cons (pe_op op_addU (pe_op op_addU (pe_op op_mulU (pv 2) (pv 2)) (pe_op op_mulU (pv 1) pe_int)) pe_int) pa_nil)) pe_int)) (pss_one (ps_ret (pe_op op_divU (pe_op op_modU (pe_callTy call_intU (by rfl) T.n_int (by decide +kernel) (pa_cons (pe_op op_addU (pe_op op_mulU (pv 3) (pv 3)) (pe_op op_mulU (pv 2) pe_int)) pa_nil)) pe_int) pe_int)))))) (fun vs H Q E h => pure_T (m := 2) h rfl fun Fm ds Xp P e l pl ht => ?_)
  subst e
  exact w__law_mixed Fm E ds Xp P ht
theorem r__law_mixed : FnR P w K mg base CX0 1 "_law_mixed" ["_law_number", "_law_turn"] [] (sp__law_mixed K) := by
  obtain ⟨fd, F⟩ := D.d__law_mixed
  exact ⟨⟨fd, [], ok__law_mixed T D F, .nil, F.bindsN (fun _ _ _ _ _ _ us hl => match us, hl with | [_, _], _ => rfl)⟩, T.g__law_mixed, F.kp⟩
theorem ok__law_gcd {fd : FuncData} (F : DLH.FnP K "_law_gcd" s__law_gcd [] fd) : FnOk P w K mg base CX0 1 (He.ga K "_law_gcd") fd ["_law_a", "_law_b"] (sp__law_gcd K) := by
  refine DLH.FunD.ok0 (t := t__law_gcd K) F sc__law_gcd rfl (fun cdv A outer s H E hr => by exact (pss_cons (ps_set (i := 0) sc__law_gcd.nd rfl (Or.inl rfl) (pe_callB call_absU (by rfl) T.n_abs (by decide +kernel) (pa_cons (pv 0) pa_nil))) (pss_cons (ps_set (i := 1) sc__law_gcd.nd rfl (Or.inl rfl) (pe_callB call_absU (by rfl) T.n_abs (by decide +kernel) (pa_cons (pv 1) pa_nil))) (pss_cons (ps_for PassesOwn.never rfl (pi_range1 rfl T.n_range (pa_cons pe_int pa_nil)) (pg_name (i := 2) sc__law_gcd.nd rfl (Or.inl rfl)) (pss_cons (ps_if (pt_cmpR (op_eqD hr.units) (pv 1) pe_int (nomark _)) (pss_one ps_break) pss_nil) (pss_one (ps_par rfl sc__law_gcd.nd rfl rfl (by decide) rfl rfl (pa_cons (pv 1) (pa_cons (pe_op op_modU (pe_callTy call_intU (by rfl) T.n_int (by decide +kernel) (pa_cons (pv 0) pa_nil)) (pv 1)) pa_nil)) (by rfl))))) (pss_one (ps_ret (pv 0))))))) (fun vs H Q E h => pure_T (m := 1) h rfl fun Fm ds Xp P e l pl ht => ?_)
  subst e
  exact w__law_gcd Fm E ds Xp P ht
theorem r__law_gcd : FnR P w K mg base CX0 1 "_law_gcd" ["_law_a", "_law_b"] [] (sp__law_gcd K) := by
  obtain ⟨fd, F⟩ := D.d__law_gcd
  exact ⟨⟨fd, [], ok__law_gcd T D F, .nil, F.bindsN (fun _ _ _ _ _ _ us hl => match us, hl with | [_, _], _ => rfl)⟩, T.g__law_gcd, F.kp⟩
theorem ok__law_classes {fd : FuncData} (F : DLH.FnP K "_law_classes" s__law_classes [] fd) : FnOk P w K mg base CX0 1 (He.ga K "_law_classes") fd ["_law_e"] (sp__law_classes K) := by
  refine DLH.FunD.ok0 (t := t__law_classes K) F sc__law_classes rfl (fun cdv A outer s H E hr => by exact (pss_cons (ps_set (i := 1) sc__law_classes.nd rfl (Or.inl rfl) (pe_lst (pa_cons (pe_callB call_isV (by rfl) T.n_isinstance (by decide +kernel) (pa_cons (pv 0) (pa_cons (pe_glob rfl T.g_BadRatio rfl) pa_nil))) (pa_cons (pe_callB call_isV (by rfl) T.n_isinstance (by decide +kernel) (pa_cons (pv 0) (pa_cons (pe_glob rfl T.g_DividedByNought rfl) pa_nil))) (pa_cons (pe_callB call_isV (by rfl) T.n_isinstance (by decide +kernel) (pa_cons (pv 0) (pa_cons (pe_glob rfl T.g_Pole rfl) pa_nil))) (pa_cons (pe_callB call_isV (by rfl) T.n_isinstance (by decide +kernel) (pa_cons (pv 0) (pa_cons (pe_glob rfl T.g_BadElement rfl) pa_nil))) pa_nil)))))) (pss_cons (ps_set (i := 1) sc__law_classes.nd rfl (Or.inl rfl) (pe_op op_addU (pv 1) (pe_lst (pa_cons (pe_callB call_isV (by rfl) T.n_isinstance (by decide +kernel) (pa_cons (pv 0) (pa_cons (pe_glob rfl T.g_BadText rfl) pa_nil))) (pa_cons (pe_callB call_isV (by rfl) T.n_isinstance (by decide +kernel) (pa_cons (pv 0) (pa_cons (pe_glob rfl T.g_BadTower rfl) pa_nil))) (pa_cons (pe_callB call_isV (by rfl) T.n_isinstance (by decide +kernel) (pa_cons (pv 0) (pa_cons (pe_glob rfl T.g_NoPlace rfl) pa_nil))) (pa_cons (pe_callB call_isV (by rfl) T.n_isinstance (by decide +kernel) (pa_cons (pv 0) (pa_cons (pe_glob rfl T.g_NoLetter rfl) pa_nil))) pa_nil))))))) (pss_cons (ps_set (i := 1) sc__law_classes.nd rfl (Or.inl rfl) (pe_op op_addU (pv 1) (pe_lst (pa_cons (pe_callB call_isV (by rfl) T.n_isinstance (by decide +kernel) (pa_cons (pv 0) (pa_cons (pe_glob rfl T.g_BadSystem rfl) pa_nil))) (pa_cons (pe_callB call_isV (by rfl) T.n_isinstance (by decide +kernel) (pa_cons (pv 0) (pa_cons (pe_glob rfl T.g_TooMany rfl) pa_nil))) (pa_cons (pe_callB call_isV (by rfl) T.n_isinstance (by decide +kernel) (pa_cons (pv 0) (pa_cons (pe_glob rfl T.g_OtherLetters rfl) pa_nil))) (pa_cons (pe_callB call_isV (by rfl) T.n_isinstance (by decide +kernel) (pa_cons (pv 0) (pa_cons (pe_glob rfl T.g_NotMonic rfl) pa_nil))) pa_nil))))))) (pss_cons (ps_set (i := 1) sc__law_classes.nd rfl (Or.inl rfl) (pe_op op_addU (pv 1) (pe_lst (pa_cons (pe_callB call_isV (by rfl) T.n_isinstance (by decide +kernel) (pa_cons (pv 0) (pa_cons (pe_glob rfl T.g_ZeroNote rfl) pa_nil))) (pa_cons (pe_callB call_isV (by rfl) T.n_isinstance (by decide +kernel) (pa_cons (pv 0) (pa_cons (pe_glob rfl T.g_HasFree rfl) pa_nil))) (pa_cons (pe_callB call_isV (by rfl) T.n_isinstance (by decide +kernel) (pa_cons (pv 0) (pa_cons (pe_glob rfl T.g_BadProgram rfl) pa_nil))) (pa_cons (pe_callB call_isV (by rfl) T.n_isinstance (by decide +kernel) (pa_cons (pv 0) (pa_cons (pe_glob rfl T.g_BadPoint rfl) pa_nil))) pa_nil))))))) (pss_cons (ps_set (i := 1) sc__law_classes.nd rfl (Or.inl rfl) (pe_op op_addU (pv 1) (pe_lst (pa_cons (pe_callB call_isV (by rfl) T.n_isinstance (by decide +kernel) (pa_cons (pv 0) (pa_cons (pe_glob rfl T.g_LackingLetter rfl) pa_nil))) (pa_cons (pe_callB call_isV (by rfl) T.n_isinstance (by decide +kernel) (pa_cons (pv 0) (pa_cons (pe_glob rfl T.g_NoPoint rfl) pa_nil))) (pa_cons (pe_callB call_isV (by rfl) T.n_isinstance (by decide +kernel) (pa_cons (pv 0) (pa_cons (pe_glob rfl T.g_NotOne rfl) pa_nil))) (pa_cons (pe_callB call_isV (by rfl) T.n_isinstance (by decide +kernel) (pa_cons (pv 0) (pa_cons (pe_glob rfl T.g_NoMark rfl) pa_nil))) pa_nil))))))) (pss_cons (ps_set (i := 1) sc__law_classes.nd rfl (Or.inl rfl) (pe_op op_addU (pv 1) (pe_lst (pa_cons (pe_callB call_isV (by rfl) T.n_isinstance (by decide +kernel) (pa_cons (pv 0) (pa_cons (pe_glob rfl T.g_NoneMarked rfl) pa_nil))) (pa_cons (pe_callB call_isV (by rfl) T.n_isinstance (by decide +kernel) (pa_cons (pv 0) (pa_cons (pe_glob rfl T.g_BadSaying rfl) pa_nil))) (pa_cons (pe_callB call_isV (by rfl) T.n_isinstance (by decide +kernel) (pa_cons (pv 0) (pa_cons (pe_glob rfl T.g_BadPrefix rfl) pa_nil))) (pa_cons (pe_callB call_isV (by rfl) T.n_isinstance (by decide +kernel) (pa_cons (pv 0) (pa_cons (pe_glob rfl T.g_BadLot rfl) pa_nil))) pa_nil))))))) (pss_one (ps_ret (pe_op op_addU (pv 1) (pe_lst (pa_cons (pe_callB call_isV (by rfl) T.n_isinstance (by decide +kernel) (pa_cons (pv 0) (pa_cons (pe_glob rfl T.g_NoFree rfl) pa_nil))) pa_nil)))))))))))) (fun vs H Q E h => pure_T (m := 1) h rfl fun Fm ds Xp P e l pl ht => ?_)
  subst e
  exact w__law_classes Fm T.kit E ds Xp P ht
theorem r__law_classes : FnR P w K mg base CX0 1 "_law_classes" ["_law_e"] [] (sp__law_classes K) := by
  obtain ⟨fd, F⟩ := D.d__law_classes
  exact ⟨⟨fd, [], ok__law_classes T D F, .nil, F.bindsN (fun _ _ _ _ _ _ us hl => match us, hl with | [_], _ => rfl)⟩, T.g__law_classes, F.kp⟩
theorem ok__law_draw {fd : FuncData} (F : DLH.FnP K "_law_draw" s__law_draw [] fd) : FnOk P w K mg base CX0 2 (He.ga K "_law_draw") fd ["_law_hand", "_law_many"] (sp__law_draw K) := by
  have R__law_mixed := @r__law_mixed P w K mg base T D
  refine F.ok sc__law_draw (fun vs H Q E h => by obtain ⟨_, is, _, _, rfl, l, _⟩ := h; show (is.map V.int).length + 1 = _; rw [List.length_map, l] <;> rfl) (fun cdv A outer s H vs Q E hr h => ⟨t__law_draw K, PSs.nox (by exact (pss_cons (ps_asg (pe_op op_addU (pe_ix ix_seq (pv 0) pe_int (fun _ _ => rfl)) pe_int) (pg_sub (pv 0) pe_int set_list)) (pss_cons (ps_if (PW.pt (pw_and (pt_cmpR (op_eqD hr.units) (pe_ix ix_seq (pv 0) pe_int (fun _ _ => rfl)) pe_int (nomark _)) (pw_and1 (pt_cmpR op_lt (pe_ix ix_seq (pv 0) pe_int (fun _ _ => rfl)) (pe_callB call_lenU (by rfl) T.n_len (by decide +kernel) (pa_cons (pe_ix ix_seq (pv 0) pe_int (fun _ _ => rfl)) pa_nil)) (nomark _))))) (pss_cons (ps_set (i := 2) sc__law_draw.nd rfl (Or.inl rfl) (pe_ix ix_seq (pe_ix ix_seq (pv 0) pe_int (fun _ _ => rfl)) (pe_ix ix_seq (pv 0) pe_int (fun _ _ => rfl)) (fun _ _ => rfl))) (pss_cons (ps_asg (pe_op op_addU (pe_ix ix_seq (pv 0) pe_int (fun _ _ => rfl)) pe_int) (pg_sub (pv 0) pe_int set_list)) (pss_cons (ps_if (pt_cmpR op_lt (pe_callB call_absU (by rfl) T.n_abs (by decide +kernel) (pa_cons (pv 2) pa_nil)) (pe_op op_powU pe_int pe_int) (nomark _)) (pss_one (ps_ret (pe_op op_modU (pe_callTy call_intU (by rfl) T.n_int (by decide +kernel) (pa_cons (pe_callF R__law_mixed (hr.mono (by decide)) pass0 (pa_cons (pv 2) (pa_cons (pe_ix ix_seq (pv 0) pe_int (fun _ _ => rfl)) pa_nil))) pa_nil)) (pv 1)))) pss_nil) (pss_one (ps_asg (pe_callB call_absU (by rfl) T.n_abs (by decide +kernel) (pa_cons (pv 2) pa_nil)) (pg_sub (pv 0) pe_int set_list)))))) pss_nil) (pss_cons (ps_if (pt_cmpR op_gt (pe_ix ix_seq (pv 0) pe_int (fun _ _ => rfl)) pe_int (nomark _)) (pss_cons (ps_set (i := 3) sc__law_draw.nd rfl (Or.inl rfl) (pe_op op_modU (pe_callTy call_intU (by rfl) T.n_int (by decide +kernel) (pa_cons (pe_ix ix_seq (pv 0) pe_int (fun _ _ => rfl)) pa_nil)) (pv 1))) (pss_cons (ps_asg (pe_op op_divU (pe_ix ix_seq (pv 0) pe_int (fun _ _ => rfl)) (pv 1)) (pg_sub (pv 0) pe_int set_list)) (pss_one (ps_ret (pv 3))))) pss_nil) (pss_one (ps_ret (pe_op op_modU (pe_callTy call_intU (by rfl) T.n_int (by decide +kernel) (pa_cons (pe_callF R__law_mixed (hr.mono (by decide)) pass0 (pa_cons (pe_ix ix_seq (pv 0) pe_int (fun _ _ => rfl)) (pa_cons (pe_ix ix_seq (pv 0) pe_int (fun _ _ => rfl)) pa_nil))) pa_nil)) (pv 1)))))))), w__law_draw K vs H Q E h⟩)
theorem r__law_draw : FnR P w K mg base CX0 2 "_law_draw" ["_law_hand", "_law_many"] [] (sp__law_draw K) := by
  obtain ⟨fd, F⟩ := D.d__law_draw
  exact ⟨⟨fd, [], ok__law_draw T D F, .nil, F.bindsN (fun _ _ _ _ _ _ us hl => match us, hl with | [_, _], _ => rfl)⟩, T.g__law_draw, F.kp⟩
theorem ok__law_ratio {fd : FuncData} (F : DLH.FnP K "_law_ratio" s__law_ratio [] fd) : FnOk P w K mg base CX0 2 (He.ga K "_law_ratio") fd ["_law_top", "_law_bottom"] (sp__law_ratio K) := by
  have R__law_gcd := @r__law_gcd P w K mg base T D
  refine DLH.FunD.ok0 (t := t__law_ratio K) F sc__law_ratio rfl (fun cdv A outer s H E hr => by exact (pss_cons (ps_if (pt_cmpR op_lt (pv 1) pe_int (nomark _)) (pss_cons (ps_set (i := 0) sc__law_ratio.nd rfl (Or.inl rfl) (pe_un un_neg (pv 0))) (pss_one (ps_set (i := 1) sc__law_ratio.nd rfl (Or.inl rfl) (pe_un un_neg (pv 1))))) pss_nil) (pss_cons (ps_set (i := 2) sc__law_ratio.nd rfl (Or.inl rfl) (pe_callF R__law_gcd (hr.mono (by decide)) pass0 (pa_cons (pv 0) (pa_cons (pv 1) pa_nil)))) (pss_one (ps_ret (pe_tup (pa_cons (pe_op op_divU (pv 0) (pv 2)) (pa_cons (pe_op op_divU (pv 1) (pv 2)) pa_nil)))))))) (fun vs H Q E h => pure_T (m := 1) h rfl fun Fm ds Xp P e l pl ht => ?_)
  subst e
  exact w__law_ratio Fm E ds Xp P ht
theorem r__law_ratio : FnR P w K mg base CX0 2 "_law_ratio" ["_law_top", "_law_bottom"] [] (sp__law_ratio K) := by
  obtain ⟨fd, F⟩ := D.d__law_ratio
  exact ⟨⟨fd, [], ok__law_ratio T D F, .nil, F.bindsN (fun _ _ _ _ _ _ us hl => match us, hl with | [_, _], _ => rfl)⟩, T.g__law_ratio, F.kp⟩
theorem ok__law_small {fd : FuncData} (F : DLH.FnP K "_law_small" s__law_small [] fd) : FnOk P w K mg base CX0 3 (He.ga K "_law_small") fd ["_law_hand"] (sp__law_small K) := by
  have R__law_draw := @r__law_draw P w K mg base T D
  have R__law_ratio := @r__law_ratio P w K mg base T D
  refine F.ok sc__law_small (fun vs H Q E h => by obtain ⟨_, is, _, _, rfl, l, _⟩ := h; show (is.map V.int).length + 1 = _; rw [List.length_map, l] <;> rfl) (fun cdv A outer s H vs Q E hr h => ⟨t__law_small K, PSs.nox (by exact (pss_one (ps_ret (pe_callF R__law_ratio (hr.mono (by decide)) pass0 (pa_cons (pe_op op_subU (pe_callF R__law_draw (hr.mono (by decide)) pass0 (pa_cons (pv 0) (pa_cons pe_int pa_nil))) pe_int) (pa_cons (pe_op op_addU pe_int (pe_callF R__law_draw (hr.mono (by decide)) pass0 (pa_cons (pv 0) (pa_cons pe_int pa_nil)))) pa_nil)))))), w__law_small K vs H Q E h⟩)
theorem r__law_small : FnR P w K mg base CX0 3 "_law_small" ["_law_hand"] [] (sp__law_small K) := by
  obtain ⟨fd, F⟩ := D.d__law_small
  exact ⟨⟨fd, [], ok__law_small T D F, .nil, F.bindsN (fun _ _ _ _ _ _ us hl => match us, hl with | [_], _ => rfl)⟩, T.g__law_small, F.kp⟩
theorem ok__law_word {fd : FuncData} (F : DLH.FnP K "_law_word" s__law_word [] fd) : FnOk P w K mg base CX0 3 (He.ga K "_law_word") fd ["_law_hand"] (sp__law_word K) := by
  have R__law_draw := @r__law_draw P w K mg base T D
  refine F.ok sc__law_word (fun vs H Q E h => by obtain ⟨_, is, _, _, rfl, l, _⟩ := h; show (is.map V.int).length + 1 = _; rw [List.length_map, l] <;> rfl) (fun cdv A outer s H vs Q E hr h => ⟨t__law_word K, PSs.nox (by exact (pss_cons (ps_set (i := 1) sc__law_word.nd rfl (Or.inl rfl) pe_str) (pss_cons (ps_for PassesOwn.never rfl (pi_range1 rfl T.n_range (pa_cons (pe_op op_addU pe_int (pe_callF R__law_draw (hr.mono (by decide)) pass0 (pa_cons (pv 0) (pa_cons pe_int pa_nil)))) pa_nil)) (pg_name (i := 2) sc__law_word.nd rfl (Or.inl rfl)) (pss_one (ps_set (i := 1) sc__law_word.nd rfl (Or.inl rfl) (pe_op op_addU (pv 1) (pe_ix ix_seq pe_str (pe_callF R__law_draw (hr.mono (by decide)) pass0 (pa_cons (pv 0) (pa_cons pe_int pa_nil))) (fun _ _ => rfl)))))) (pss_one (ps_ret (pv 1)))))), w__law_word K vs H Q E h⟩)
theorem r__law_word : FnR P w K mg base CX0 3 "_law_word" ["_law_hand"] [] (sp__law_word K) := by
  obtain ⟨fd, F⟩ := D.d__law_word
  exact ⟨⟨fd, [], ok__law_word T D F, .nil, F.bindsN (fun _ _ _ _ _ _ us hl => match us, hl with | [_], _ => rfl)⟩, T.g__law_word, F.kp⟩
theorem ok__law_first {fd : FuncData} (F : DLH.FnP K "_law_first" s__law_first [] fd) : FnOk P w K mg base CX0 3 (He.ga K "_law_first") fd ["_law_at", "_law_to", "_law_word_here", "_law_ratio_here"] (sp__law_first K) := by
  have R_BadElement := @r_BadElement P w K mg base T D
  have R_BadRatio := @r_BadRatio P w K mg base T D
  have R_BadSystem := @r_BadSystem P w K mg base T D
  have R_BadText := @r_BadText P w K mg base T D
  have R_BadTower := @r_BadTower P w K mg base T D
  have R_NoLetter := @r_NoLetter P w K mg base T D
  have R_NoPlace := @r_NoPlace P w K mg base T D
  have R_Pole := @r_Pole P w K mg base T D
  have R_TooMany := @r_TooMany P w K mg base T D
  refine DLH.FunD.ok0 (t := t__law_first K) F sc__law_first rfl (fun cdv A outer s H E hr => by exact (pss_cons (ps_asg (pe_tup (pa_cons (pe_newXF R_BadRatio (hr.mono (by decide)) (pa_cons (pv 2) pa_nil)) (pa_cons (pe_newXF R_Pole (hr.mono (by decide)) (pa_cons (pv 3) pa_nil)) (pa_cons (pe_newXF R_BadElement (hr.mono (by decide)) (pa_cons (pv 0) pa_nil)) (pa_cons (pe_newXF R_BadText (hr.mono (by decide)) (pa_cons (pv 0) (pa_cons (pv 2) pa_nil))) (pa_cons (pe_newXF R_BadTower (hr.mono (by decide)) (pa_cons (pv 2) (pa_cons (pv 1) pa_nil))) pa_nil)))))) (pg_tup rfl (pgs_cons (pg_name (i := 4) sc__law_first.nd rfl (Or.inl rfl)) (pgs_cons (pg_name (i := 5) sc__law_first.nd rfl (Or.inl rfl)) (pgs_cons (pg_name (i := 6) sc__law_first.nd rfl (Or.inl rfl)) (pgs_cons (pg_name (i := 7) sc__law_first.nd rfl (Or.inl rfl)) (pgs_cons (pg_name (i := 8) sc__law_first.nd rfl (Or.inl rfl)) pgs_nil))))))) (pss_cons (ps_asg (pe_tup (pa_cons (pe_newXF R_NoPlace (hr.mono (by decide)) (pa_cons (pv 0) pa_nil)) (pa_cons (pe_newXF R_NoLetter (hr.mono (by decide)) (pa_cons (pv 2) pa_nil)) (pa_cons (pe_newXF R_BadSystem (hr.mono (by decide)) (pa_cons (pv 2) (pa_cons (pv 0) pa_nil))) (pa_cons (pe_newXF R_TooMany (hr.mono (by decide)) (pa_cons (pv 1) pa_nil)) pa_nil))))) (pg_tup rfl (pgs_cons (pg_name (i := 9) sc__law_first.nd rfl (Or.inl rfl)) (pgs_cons (pg_name (i := 10) sc__law_first.nd rfl (Or.inl rfl)) (pgs_cons (pg_name (i := 11) sc__law_first.nd rfl (Or.inl rfl)) (pgs_cons (pg_name (i := 12) sc__law_first.nd rfl (Or.inl rfl)) pgs_nil)))))) (pss_cons (ps_set (i := 13) sc__law_first.nd rfl (Or.inl rfl) (pe_lst (pa_cons (pe_tup (pa_cons (pv 4) (pa_cons (pe_lst (pa_cons (pe_xat (pv 4)) pa_nil)) (pa_cons (pe_lst (pa_cons (pv 2) pa_nil)) pa_nil)))) (pa_cons (pe_tup (pa_cons (pe_new0 PySem.F.excBase_ValueError T.x_DividedByNought T.g_DividedByNought T.k_DividedByNought (by rfl)) (pa_cons (pe_lst pa_nil) (pa_cons (pe_lst pa_nil) pa_nil)))) (pa_cons (pe_tup (pa_cons (pv 5) (pa_cons (pe_lst (pa_cons (pe_xat (pv 5)) pa_nil)) (pa_cons (pe_lst (pa_cons (pv 3) pa_nil)) pa_nil)))) (pa_cons (pe_tup (pa_cons (pv 6) (pa_cons (pe_lst (pa_cons (pe_xat (pv 6)) pa_nil)) (pa_cons (pe_lst (pa_cons (pv 0) pa_nil)) pa_nil)))) pa_nil)))))) (pss_cons (ps_set (i := 13) sc__law_first.nd rfl (Or.inl rfl) (pe_op op_addU (pv 13) (pe_lst (pa_cons (pe_tup (pa_cons (pv 7) (pa_cons (pe_lst (pa_cons (pe_xat (pv 7)) (pa_cons (pe_xat (pv 7)) pa_nil))) (pa_cons (pe_lst (pa_cons (pv 0) (pa_cons (pv 2) pa_nil))) pa_nil)))) (pa_cons (pe_tup (pa_cons (pv 8) (pa_cons (pe_lst (pa_cons (pe_xat (pv 8)) (pa_cons (pe_xat (pv 8)) pa_nil))) (pa_cons (pe_lst (pa_cons (pv 2) (pa_cons (pv 1) pa_nil))) pa_nil)))) (pa_cons (pe_tup (pa_cons (pv 9) (pa_cons (pe_lst (pa_cons (pe_xat (pv 9)) pa_nil)) (pa_cons (pe_lst (pa_cons (pv 0) pa_nil)) pa_nil)))) pa_nil)))))) (pss_one (ps_ret (pe_op op_addU (pv 13) (pe_lst (pa_cons (pe_tup (pa_cons (pv 10) (pa_cons (pe_lst (pa_cons (pe_xat (pv 10)) pa_nil)) (pa_cons (pe_lst (pa_cons (pv 2) pa_nil)) pa_nil)))) (pa_cons (pe_tup (pa_cons (pv 11) (pa_cons (pe_lst (pa_cons (pe_xat (pv 11)) (pa_cons (pe_xat (pv 11)) pa_nil))) (pa_cons (pe_lst (pa_cons (pv 2) (pa_cons (pv 0) pa_nil))) pa_nil)))) (pa_cons (pe_tup (pa_cons (pv 12) (pa_cons (pe_lst (pa_cons (pe_xat (pv 12)) pa_nil)) (pa_cons (pe_lst (pa_cons (pv 1) pa_nil)) pa_nil)))) pa_nil)))))))))))) (fun vs H Q E h => pure_T (m := 10) h rfl fun Fm ds Xp P e l pl ht => ?_)
  subst e
  exact w__law_first Fm T.kit E ds Xp P ht
theorem r__law_first : FnR P w K mg base CX0 3 "_law_first" ["_law_at", "_law_to", "_law_word_here", "_law_ratio_here"] [] (sp__law_first K) := by
  obtain ⟨fd, F⟩ := D.d__law_first
  exact ⟨⟨fd, [], ok__law_first T D F, .nil, F.bindsN (fun _ _ _ _ _ _ us hl => match us, hl with | [_, _, _, _], _ => rfl)⟩, T.g__law_first, F.kp⟩
theorem ok__law_second {fd : FuncData} (F : DLH.FnP K "_law_second" s__law_second [] fd) : FnOk P w K mg base CX0 3 (He.ga K "_law_second") fd ["_law_at", "_law_to", "_law_word_here", "_law_ratio_here"] (sp__law_second K) := by
  have R_BadLot := @r_BadLot P w K mg base T D
  have R_BadPoint := @r_BadPoint P w K mg base T D
  have R_BadPrefix := @r_BadPrefix P w K mg base T D
  have R_BadProgram := @r_BadProgram P w K mg base T D
  have R_BadSaying := @r_BadSaying P w K mg base T D
  have R_LackingLetter := @r_LackingLetter P w K mg base T D
  have R_NoMark := @r_NoMark P w K mg base T D
  refine DLH.FunD.ok0 (t := t__law_second K) F sc__law_second rfl (fun cdv A outer s H E hr => by exact (pss_cons (ps_asg (pe_tup (pa_cons (pe_newXF R_BadProgram (hr.mono (by decide)) (pa_cons (pv 0) (pa_cons (pv 2) pa_nil))) (pa_cons (pe_newXF R_BadPoint (hr.mono (by decide)) (pa_cons (pv 1) (pa_cons (pv 2) pa_nil))) (pa_cons (pe_newXF R_LackingLetter (hr.mono (by decide)) (pa_cons (pv 2) pa_nil)) (pa_cons (pe_newXF R_NoMark (hr.mono (by decide)) (pa_cons (pv 2) pa_nil)) pa_nil))))) (pg_tup rfl (pgs_cons (pg_name (i := 4) sc__law_second.nd rfl (Or.inl rfl)) (pgs_cons (pg_name (i := 5) sc__law_second.nd rfl (Or.inl rfl)) (pgs_cons (pg_name (i := 6) sc__law_second.nd rfl (Or.inl rfl)) (pgs_cons (pg_name (i := 7) sc__law_second.nd rfl (Or.inl rfl)) pgs_nil)))))) (pss_cons (ps_par3 rfl sc__law_second.nd rfl rfl rfl (by decide) (by decide) (by decide) rfl rfl rfl (pa_cons (pe_newXF R_BadSaying (hr.mono (by decide)) (pa_cons (pv 2) pa_nil)) (pa_cons (pe_newXF R_BadPrefix (hr.mono (by decide)) (pa_cons (pv 0) pa_nil)) (pa_cons (pe_newXF R_BadLot (hr.mono (by decide)) (pa_cons (pv 2) pa_nil)) pa_nil))) (by rfl)) (pss_cons (ps_set (i := 11) sc__law_second.nd rfl (Or.inl rfl) (pe_lst (pa_cons (pe_tup (pa_cons (pe_new0 PySem.F.excBase_ValueError T.x_OtherLetters T.g_OtherLetters T.k_OtherLetters (by rfl)) (pa_cons (pe_lst pa_nil) (pa_cons (pe_lst pa_nil) pa_nil)))) (pa_cons (pe_tup (pa_cons (pe_new0 PySem.F.excBase_ValueError T.x_NotMonic T.g_NotMonic T.k_NotMonic (by rfl)) (pa_cons (pe_lst pa_nil) (pa_cons (pe_lst pa_nil) pa_nil)))) (pa_cons (pe_tup (pa_cons (pe_new0 PySem.F.excBase_ValueError T.x_ZeroNote T.g_ZeroNote T.k_ZeroNote (by rfl)) (pa_cons (pe_lst pa_nil) (pa_cons (pe_lst pa_nil) pa_nil)))) (pa_cons (pe_tup (pa_cons (pe_new0 PySem.F.excBase_ValueError T.x_HasFree T.g_HasFree T.k_HasFree (by rfl)) (pa_cons (pe_lst pa_nil) (pa_cons (pe_lst pa_nil) pa_nil)))) pa_nil)))))) (pss_cons (ps_set (i := 11) sc__law_second.nd rfl (Or.inl rfl) (pe_op op_addU (pv 11) (pe_lst (pa_cons (pe_tup (pa_cons (pv 4) (pa_cons (pe_lst (pa_cons (pe_xat (pv 4)) (pa_cons (pe_xat (pv 4)) pa_nil))) (pa_cons (pe_lst (pa_cons (pv 0) (pa_cons (pv 2) pa_nil))) pa_nil)))) (pa_cons (pe_tup (pa_cons (pv 5) (pa_cons (pe_lst (pa_cons (pe_xat (pv 5)) (pa_cons (pe_xat (pv 5)) pa_nil))) (pa_cons (pe_lst (pa_cons (pv 1) (pa_cons (pv 2) pa_nil))) pa_nil)))) (pa_cons (pe_tup (pa_cons (pv 6) (pa_cons (pe_lst (pa_cons (pe_xat (pv 6)) pa_nil)) (pa_cons (pe_lst (pa_cons (pv 2) pa_nil)) pa_nil)))) pa_nil)))))) (pss_cons (ps_set (i := 11) sc__law_second.nd rfl (Or.inl rfl) (pe_op op_addU (pv 11) (pe_lst (pa_cons (pe_tup (pa_cons (pe_new0 PySem.F.excBase_ValueError T.x_NoPoint T.g_NoPoint T.k_NoPoint (by rfl)) (pa_cons (pe_lst pa_nil) (pa_cons (pe_lst pa_nil) pa_nil)))) (pa_cons (pe_tup (pa_cons (pe_new0 PySem.F.excBase_ValueError T.x_NotOne T.g_NotOne T.k_NotOne (by rfl)) (pa_cons (pe_lst pa_nil) (pa_cons (pe_lst pa_nil) pa_nil)))) (pa_cons (pe_tup (pa_cons (pv 7) (pa_cons (pe_lst (pa_cons (pe_xat (pv 7)) pa_nil)) (pa_cons (pe_lst (pa_cons (pv 2) pa_nil)) pa_nil)))) (pa_cons (pe_tup (pa_cons (pe_new0 PySem.F.excBase_ValueError T.x_NoneMarked T.g_NoneMarked T.k_NoneMarked (by rfl)) (pa_cons (pe_lst pa_nil) (pa_cons (pe_lst pa_nil) pa_nil)))) pa_nil))))))) (pss_one (ps_ret (pe_op op_addU (pv 11) (pe_lst (pa_cons (pe_tup (pa_cons (pv 8) (pa_cons (pe_lst (pa_cons (pe_xat (pv 8)) pa_nil)) (pa_cons (pe_lst (pa_cons (pv 2) pa_nil)) pa_nil)))) (pa_cons (pe_tup (pa_cons (pv 9) (pa_cons (pe_lst (pa_cons (pe_xat (pv 9)) pa_nil)) (pa_cons (pe_lst (pa_cons (pv 0) pa_nil)) pa_nil)))) (pa_cons (pe_tup (pa_cons (pv 10) (pa_cons (pe_lst (pa_cons (pe_xat (pv 10)) pa_nil)) (pa_cons (pe_lst (pa_cons (pv 2) pa_nil)) pa_nil)))) (pa_cons (pe_tup (pa_cons (pe_new0 PySem.F.excBase_ValueError T.x_NoFree T.g_NoFree T.k_NoFree (by rfl)) (pa_cons (pe_lst pa_nil) (pa_cons (pe_lst pa_nil) pa_nil)))) pa_nil)))))))))))))) (fun vs H Q E h => pure_T (m := 8) h rfl fun Fm ds Xp P e l pl ht => ?_)
  subst e
  exact w__law_second Fm T.kit E ds Xp P ht
theorem r__law_second : FnR P w K mg base CX0 3 "_law_second" ["_law_at", "_law_to", "_law_word_here", "_law_ratio_here"] [] (sp__law_second K) := by
  obtain ⟨fd, F⟩ := D.d__law_second
  exact ⟨⟨fd, [], ok__law_second T D F, .nil, F.bindsN (fun _ _ _ _ _ _ us hl => match us, hl with | [_, _, _, _], _ => rfl)⟩, T.g__law_second, F.kp⟩
theorem ok__law_raised {fd : FuncData} (F : DLH.FnP K "_law_raised" s__law_raised [] fd) : FnOk P w K mg base CX0 3 (He.ga K "_law_raised") fd ["_law_at", "_law_to", "_law_word_here"] (sp__law_raised K) := by
  have R_BadTower := @r_BadTower P w K mg base T D
  have RK_BadSystem := @rk_BadSystem P w K mg base T D
  have RK_BadText := @rk_BadText P w K mg base T D
  refine DLH.FunD.ok0 (t := t__law_raised K) F sc__law_raised rfl (fun cdv A outer s H E hr => by exact (pss_cons (ps_try_cls (tb := fun W => tRz W (tMkO (He.ga K "BadTower") (spInit (He.ga K "BadTower") ["what", "place"]) [] (tCons (tVar 2) (tCons (tVar 0) (tNil))))) (Wout := fun _ _ _ _ => False) (cs := [⟨.ref (He.ga K "RootError"), some 3, fun a cls d => tIfS (tOr (tNot (tB (tCB (rIsD K a cls d) (tCons (tVar 3) (tCons (tC (.ref (He.ga K "BadTower"))) (tNil)))))) (tB (tCB (rIsD K a cls d) (tCons (tVar 3) (tCons (tC (.ref (He.ga K "BadSystem"))) (tNil)))))) (tRet (tC (.bl false))) (tNext)⟩]) rfl rfl sc__law_raised.nd takes0 (fun W pn xe tk _ => by exact (pss_one (ps_raise rfl tk (pmk_oexF R_BadTower (hr.mono (by decide)) (pa_cons (pv 2) (pa_cons (pv 0) pa_nil)))))) (.cons (.named ⟨rfl, by decide, Or.inl T.g_RootError⟩ rfl rfl (fun a oe cls d pn hz hf => by exact (pss_one (ps_if (PW.pt (pw_or (pt_not (pt_val (pe_callB (call_isD hz hf) (by rfl) T.n_isinstance (by decide +kernel) (pa_cons (pv 3) (pa_cons (pe_glob rfl T.g_BadTower rfl) pa_nil))))) (pw_or1 (pt_val (pe_callB (call_isD hz hf) (by rfl) T.n_isinstance (by decide +kernel) (pa_cons (pv 3) (pa_cons (pe_glob rfl T.g_BadSystem rfl) pa_nil))))))) (pss_one (ps_ret pe_bl)) pss_nil)))) (.nil))) (pss_cons (ps_try_cls (tb := fun W => tRz W (tMkK (He.ga K "BadText") 2 (spInit (He.ga K "BadText") ["line", "what"]) (fun vs zs => vs ++ zs) (tCons (tVar 0) (tCons (tVar 2) (tNil))))) (Wout := fun _ _ _ _ => False) (cs := [⟨.ref (He.ga K "NoPoint"), none, fun a cls d => tRet (tC (.bl false))⟩, ⟨.ref (He.ga K "BadText"), some 3, fun a cls d => tIfS (tOr (tTest (tOp (rNeD K) (tXf a cls d (He.ga K "BadText") "line" (tVar 3)) (tVar 0))) (tTest (tOp (rNeD K) (tXf a cls d (He.ga K "BadText") "what" (tVar 3)) (tVar 2)))) (tRet (tC (.bl false))) (tNext)⟩]) rfl rfl sc__law_raised.nd takes0 (fun W pn xe tk _ => by exact (pss_one (ps_raise rfl tk (pmk_kwF (ks := ["line", "what"]) RK_BadText (hr.mono (by decide)) (pk_cons (pv 0) (pk_cons (pv 2) pk_nil)))))) (.cons (.plain ⟨rfl, by decide, Or.inl T.g_NoPoint⟩ (fun a oe cls d pn hz hf => by exact (pss_one (ps_ret pe_bl)))) (.cons (.named ⟨rfl, by decide, Or.inl T.g_BadText⟩ rfl rfl (fun a oe cls d pn hz hf => by exact (pss_one (ps_if (PW.pt (pw_or (pt_cmpR (op_neD hr.units) (pe_xf T.xf_BadText T.nf_BadText_line hz hf (pv 3)) (pv 0) (nomark _)) (pw_or1 (pt_cmpR (op_neD hr.units) (pe_xf T.xf_BadText T.nf_BadText_what hz hf (pv 3)) (pv 2) (nomark _))))) (pss_one (ps_ret pe_bl)) pss_nil)))) (.nil)))) (pss_one (ps_try_cls (tb := fun W => tRz W (tMkK (He.ga K "BadSystem") 2 (spInit (He.ga K "BadSystem") ["what", "place"]) (fun vs zs => vs ++ zs.reverse) (tCons (tVar 1) (tCons (tVar 2) (tNil))))) (Wout := fun _ _ _ _ => False) (cs := [⟨.ref (He.ga K "BadTower"), none, fun a cls d => tRet (tC (.bl false))⟩, ⟨.ref (He.ga K "BadSystem"), some 3, fun a cls d => tRet (tAndV (tOp (rEqD K) (tXf a cls d (He.ga K "BadSystem") "what" (tVar 3)) (tVar 2)) (tOp (rEqD K) (tXf a cls d (He.ga K "BadSystem") "place" (tVar 3)) (tVar 1)))⟩]) rfl rfl sc__law_raised.nd takes0 (fun W pn xe tk _ => by exact (pss_one (ps_raise rfl tk (pmk_kwF (ks := ["place", "what"]) RK_BadSystem (hr.mono (by decide)) (pk_cons (pv 1) (pk_cons (pv 2) pk_nil)))))) (.cons (.plain ⟨rfl, by decide, Or.inl T.g_BadTower⟩ (fun a oe cls d pn hz hf => by exact (pss_one (ps_ret pe_bl)))) (.cons (.named ⟨rfl, by decide, Or.inl T.g_BadSystem⟩ rfl rfl (fun a oe cls d pn hz hf => by exact (pss_one (ps_ret (pe_and (pe_cmpR (op_eqD hr.units) (pe_xf T.xf_BadSystem T.nf_BadSystem_what hz hf (pv 3)) (pv 2) (nomark _)) (pe_one (pe_cmpR (op_eqD hr.units) (pe_xf T.xf_BadSystem T.nf_BadSystem_place hz hf (pv 3)) (pv 1) (nomark _)))))))) (.nil)))))))) (fun vs H Q E h => pure_T (m := 1) h rfl fun Fm ds Xp P e l pl ht => ?_)
  subst e
  exact w__law_raised Fm T.kit E ds Xp P ht
theorem r__law_raised : FnR P w K mg base CX0 3 "_law_raised" ["_law_at", "_law_to", "_law_word_here"] [] (sp__law_raised K) := by
  obtain ⟨fd, F⟩ := D.d__law_raised
  exact ⟨⟨fd, [], ok__law_raised T D F, .nil, F.bindsN (fun _ _ _ _ _ _ us hl => match us, hl with | [_, _, _], _ => rfl)⟩, T.g__law_raised, F.kp⟩
theorem ok_law {fd : FuncData} (F : DLH.FnP K "law" s_law [] fd) : FnOk P w K mg base CX0 4 (He.ga K "law") fd ["_law_script"] (sp_law K) := by
  have R__law_classes := @r__law_classes P w K mg base T D
  have R__law_draw := @r__law_draw P w K mg base T D
  have R__law_first := @r__law_first P w K mg base T D
  have R__law_raised := @r__law_raised P w K mg base T D
  have R__law_second := @r__law_second P w K mg base T D
  have R__law_small := @r__law_small P w K mg base T D
  have R__law_start := @r__law_start P w K mg base T D
  have R__law_word := @r__law_word P w K mg base T D
  refine F.ok sc_law (fun vs H Q E h => by obtain ⟨_, _, rfl, _⟩ := h; rfl) (fun cdv A outer s H vs Q E hr h => ⟨law_1 K, PSs.nox (by exact (pss_cons (ps_set (i := 1) sc_law.nd rfl (Or.inl rfl) (pe_callF R__law_start (hr.mono (by decide)) pass0 (pa_cons (pv 0) pa_nil))) (pss_cons (ps_set (i := 2) sc_law.nd rfl (Or.inl rfl) (pe_callF R__law_draw (hr.mono (by decide)) pass0 (pa_cons (pv 1) (pa_cons pe_int pa_nil)))) (pss_cons (ps_if (pt_cmpR op_gt (pe_callB call_lenU (by rfl) T.n_len (by decide +kernel) (pa_cons (pv 0) pa_nil)) pe_int (nomark _)) (pss_one (ps_set (i := 2) sc_law.nd rfl (Or.inl rfl) (pe_op op_mulU (pe_op op_modU (pe_callTy call_intU (by rfl) T.n_int (by decide +kernel) (pa_cons (pe_callB call_absU (by rfl) T.n_abs (by decide +kernel) (pa_cons (pe_callTy call_intU (by rfl) T.n_int (by decide +kernel) (pa_cons (pe_ix ix_seq (pv 0) pe_int (fun _ _ => rfl)) pa_nil)) pa_nil)) pa_nil)) (pe_op op_mulU (pe_op op_mulU (pe_op op_mulU (pe_op op_powU pe_int pe_int) (pe_op op_powU pe_int pe_int)) (pe_op op_powU pe_int pe_int)) (pe_op op_powU pe_int pe_int))) (pe_ifExp (pt_cmpR op_lt (pe_callTy call_intU (by rfl) T.n_int (by decide +kernel) (pa_cons (pe_ix ix_seq (pv 0) pe_int (fun _ _ => rfl)) pa_nil)) pe_int (nomark _)) (pe_un un_neg pe_int) pe_int)))) pss_nil) (pss_cons (ps_set (i := 3) sc_law.nd rfl (Or.inl rfl) (pe_op op_subU (pe_callF R__law_draw (hr.mono (by decide)) pass0 (pa_cons (pv 1) (pa_cons (pe_op op_powU pe_int pe_int) pa_nil))) (pe_op op_powU pe_int pe_int))) (pss_cons (ps_set (i := 4) sc_law.nd rfl (Or.inl rfl) (pe_callF R__law_word (hr.mono (by decide)) pass0 (pa_cons (pv 1) pa_nil))) (pss_cons (ps_set (i := 5) sc_law.nd rfl (Or.inl rfl) (pe_callF R__law_small (hr.mono (by decide)) pass0 (pa_cons (pv 1) pa_nil))) (pss_cons (ps_set (i := 6) sc_law.nd rfl (Or.inl rfl) (pe_op op_addU (pe_callF R__law_first (hr.mono (by decide)) pass0 (pa_cons (pv 2) (pa_cons (pv 3) (pa_cons (pv 4) (pa_cons (pv 5) pa_nil))))) (pe_callF R__law_second (hr.mono (by decide)) pass0 (pa_cons (pv 2) (pa_cons (pv 3) (pa_cons (pv 4) (pa_cons (pv 5) pa_nil))))))) (pss_cons (ps_for PassesOwn.never rfl (pi_range1 rfl T.n_range (pa_cons (pe_callB call_lenU (by rfl) T.n_len (by decide +kernel) (pa_cons (pv 6) pa_nil)) pa_nil)) (pg_name (i := 7) sc_law.nd rfl (Or.inr rfl)) (pss_cons (ps_set (i := 8) sc_law.nd rfl (Or.inl rfl) (pe_ix ix_seq (pe_ix ix_seq (pv 6) (pv 7) (fun _ _ => rfl)) pe_int (fun _ _ => rfl))) (pss_cons (ps_if (PW.pt (pw_or (pt_cmpR (op_neD hr.units) (pe_ix ix_seq (pe_ix ix_seq (pv 6) (pv 7) (fun _ _ => rfl)) pe_int (fun _ _ => rfl)) (pe_ix ix_seq (pe_ix ix_seq (pv 6) (pv 7) (fun _ _ => rfl)) pe_int (fun _ _ => rfl)) (nomark _)) (pw_or (pt_not (pt_val (pe_callB call_isV (by rfl) T.n_isinstance (by decide +kernel) (pa_cons (pv 8) (pa_cons (pe_glob rfl T.g_RootError rfl) pa_nil))))) (pw_or1 (pt_not (pt_val (pe_callB call_isV (by rfl) T.n_isinstance (by decide +kernel) (pa_cons (pv 8) (pa_cons (pe_bltn (v := .ty "ValueError") (by rfl) T.n_ValueError (by decide +kernel) rfl) pa_nil))))))))) (pss_one (ps_ret pe_bl)) pss_nil) (pss_cons (ps_if (PW.pt (pw_or (pt_val (pe_callB call_isV (by rfl) T.n_isinstance (by decide +kernel) (pa_cons (pv 8) (pa_cons (pe_bltn (v := .ty "LookupError") (by rfl) T.n_LookupError (by decide +kernel) rfl) pa_nil)))) (pw_or1 (pt_val (pe_callB call_isV (by rfl) T.n_isinstance (by decide +kernel) (pa_cons (pv 8) (pa_cons (pe_bltn (v := .ty "ArithmeticError") (by rfl) T.n_ArithmeticError (by decide +kernel) rfl) pa_nil))))))) (pss_one (ps_ret pe_bl)) pss_nil) (pss_one (ps_if (pt_cmpR (op_neD hr.units) (pe_callF R__law_classes (hr.mono (by decide)) pass0 (pa_cons (pv 8) pa_nil)) (pe_lc (own := [("_law_step", 10)]) (g := gName 10) (tt := tYes) rfl sc_law.nd (pi_range1 rfl T.n_range (pa_cons (pe_callB call_lenU (by rfl) T.n_len (by decide +kernel) (pa_cons (pv 6) pa_nil)) pa_nil)) (blkOk_by (N := N_law) (sc := defScope s_law) (by decide +kernel)) (fun _ _ _ _ _ => (pg_name (i := 10) sc_law.nd rfl (Or.inl rfl))) (fun _ _ _ _ _ => pts_nil) (fun _ _ _ _ _ => (pe_cmpR (op_eqD hr.units) (pv 7) (pv 10) (nomark _)))) (nomark _)) (pss_one (ps_ret pe_bl)) pss_nil)))))) (pss_cons (ps_set (i := 9) sc_law.nd rfl (Or.inl rfl) (pe_new0 PySem.F.excBase_ValueError T.x_RootError T.g_RootError T.k_RootError (by rfl))) (pss_cons (ps_if (PW.pt (pw_or (pt_not (pt_val (pe_callB call_isV (by rfl) T.n_isinstance (by decide +kernel) (pa_cons (pv 9) (pa_cons (pe_bltn (v := .ty "ValueError") (by rfl) T.n_ValueError (by decide +kernel) rfl) pa_nil))))) (pw_or1 (pt_val (pe_callB (cr_any rfl) (by rfl) T.n_any (by decide +kernel) (pa_cons (pe_callF R__law_classes (hr.mono (by decide)) pass0 (pa_cons (pv 9) pa_nil)) pa_nil)))))) (pss_one (ps_ret pe_bl)) pss_nil) (pss_one (ps_ret (pe_callF R__law_raised (hr.mono (by decide)) pass0 (pa_cons (pv 2) (pa_cons (pv 3) (pa_cons (pv 4) pa_nil))))))))))))))))), pure_law K T.kit vs H Q E h⟩)
end
def exl (K : PySem.W.Frag) : List Bool := [(He.Fa.free "ArithmeticError").ok K, (He.Fa.free "LookupError").ok K, (He.Fa.free "ValueError").ok K, (He.Fa.free "abs").ok K, (He.Fa.free "any").ok K, (He.Fa.free "int").ok K, (He.Fa.free "isinstance").ok K, (He.Fa.free "len").ok K, (He.Fa.free "range").ok K, (He.Fa.glo "BadElement").ok K, (He.Fa.glo "BadLot").ok K, (He.Fa.glo "BadPoint").ok K, (He.Fa.glo "BadPrefix").ok K, (He.Fa.glo "BadProgram").ok K, (He.Fa.glo "BadRatio").ok K, (He.Fa.glo "BadSaying").ok K, (He.Fa.glo "BadSystem").ok K, (He.Fa.glo "BadText").ok K, (He.Fa.glo "BadTower").ok K, (He.Fa.glo "DividedByNought").ok K] ++ [(He.Fa.glo "HasFree").ok K, (He.Fa.glo "LackingLetter").ok K, (He.Fa.glo "NoFree").ok K, (He.Fa.glo "NoLetter").ok K, (He.Fa.glo "NoMark").ok K, (He.Fa.glo "NoPlace").ok K, (He.Fa.glo "NoPoint").ok K, (He.Fa.glo "NoneMarked").ok K, (He.Fa.glo "NotMonic").ok K, (He.Fa.glo "NotOne").ok K, (He.Fa.glo "OtherLetters").ok K, (He.Fa.glo "Pole").ok K, (He.Fa.glo "RootError").ok K, (He.Fa.glo "TooMany").ok K, (He.Fa.glo "ZeroNote").ok K, (He.Fa.glo "_law_classes").ok K, (He.Fa.glo "_law_draw").ok K, (He.Fa.glo "_law_first").ok K, (He.Fa.glo "_law_gcd").ok K, (He.Fa.glo "_law_mixed").ok K] ++ [(He.Fa.glo "_law_raised").ok K, (He.Fa.glo "_law_ratio").ok K, (He.Fa.glo "_law_second").ok K, (He.Fa.glo "_law_small").ok K, (He.Fa.glo "_law_start").ok K, (He.Fa.glo "_law_word").ok K, (He.Fa.glo "law").ok K, (He.Fa.exc "DividedByNought").ok K, (He.Fa.exc "HasFree").ok K, (He.Fa.exc "NoFree").ok K, (He.Fa.exc "NoPoint").ok K, (He.Fa.exc "NoneMarked").ok K, (He.Fa.exc "NotMonic").ok K, (He.Fa.exc "NotOne").ok K, (He.Fa.exc "OtherLetters").ok K, (He.Fa.exc "RootError").ok K, (He.Fa.exc "ZeroNote").ok K, oexB K (He.ga K "BadRatio"), He.eqO (PySem.W.findIn K (.ref (He.ga K "BadRatio")) "__init__") (some (some (.ref (He.ma K (He.ga K "BadRatio") "__init__")))), decide (PySem.W.typeIn K (.ref (He.ma K (He.ga K "BadRatio") "__init__")) = some (.type "function"))] ++ [(He.Fa.noat "BadRatio" "what").ok K, oexB K (He.ga K "Pole"), He.eqO (PySem.W.findIn K (.ref (He.ga K "Pole")) "__init__") (some (some (.ref (He.ma K (He.ga K "Pole") "__init__")))), decide (PySem.W.typeIn K (.ref (He.ma K (He.ga K "Pole") "__init__")) = some (.type "function")), (He.Fa.noat "Pole" "at").ok K, oexB K (He.ga K "BadElement"), He.eqO (PySem.W.findIn K (.ref (He.ga K "BadElement")) "__init__") (some (some (.ref (He.ma K (He.ga K "BadElement") "__init__")))), decide (PySem.W.typeIn K (.ref (He.ma K (He.ga K "BadElement") "__init__")) = some (.type "function")), (He.Fa.noat "BadElement" "index").ok K, oexB K (He.ga K "BadText"), He.eqO (PySem.W.findIn K (.ref (He.ga K "BadText")) "__init__") (some (some (.ref (He.ma K (He.ga K "BadText") "__init__")))), decide (PySem.W.typeIn K (.ref (He.ma K (He.ga K "BadText") "__init__")) = some (.type "function")), (He.Fa.noat "BadText" "line").ok K, (He.Fa.noat "BadText" "what").ok K, oexB K (He.ga K "BadTower"), He.eqO (PySem.W.findIn K (.ref (He.ga K "BadTower")) "__init__") (some (some (.ref (He.ma K (He.ga K "BadTower") "__init__")))), decide (PySem.W.typeIn K (.ref (He.ma K (He.ga K "BadTower") "__init__")) = some (.type "function")), (He.Fa.noat "BadTower" "what").ok K, (He.Fa.noat "BadTower" "place").ok K, oexB K (He.ga K "NoPlace")] ++ [He.eqO (PySem.W.findIn K (.ref (He.ga K "NoPlace")) "__init__") (some (some (.ref (He.ma K (He.ga K "NoPlace") "__init__")))), decide (PySem.W.typeIn K (.ref (He.ma K (He.ga K "NoPlace") "__init__")) = some (.type "function")), (He.Fa.noat "NoPlace" "place").ok K, oexB K (He.ga K "NoLetter"), He.eqO (PySem.W.findIn K (.ref (He.ga K "NoLetter")) "__init__") (some (some (.ref (He.ma K (He.ga K "NoLetter") "__init__")))), decide (PySem.W.typeIn K (.ref (He.ma K (He.ga K "NoLetter") "__init__")) = some (.type "function")), (He.Fa.noat "NoLetter" "letter").ok K, oexB K (He.ga K "BadSystem"), He.eqO (PySem.W.findIn K (.ref (He.ga K "BadSystem")) "__init__") (some (some (.ref (He.ma K (He.ga K "BadSystem") "__init__")))), decide (PySem.W.typeIn K (.ref (He.ma K (He.ga K "BadSystem") "__init__")) = some (.type "function")), (He.Fa.noat "BadSystem" "what").ok K, (He.Fa.noat "BadSystem" "place").ok K, oexB K (He.ga K "TooMany"), He.eqO (PySem.W.findIn K (.ref (He.ga K "TooMany")) "__init__") (some (some (.ref (He.ma K (He.ga K "TooMany") "__init__")))), decide (PySem.W.typeIn K (.ref (He.ma K (He.ga K "TooMany") "__init__")) = some (.type "function")), (He.Fa.noat "TooMany" "most").ok K, oexB K (He.ga K "BadProgram"), He.eqO (PySem.W.findIn K (.ref (He.ga K "BadProgram")) "__init__") (some (some (.ref (He.ma K (He.ga K "BadProgram") "__init__")))), decide (PySem.W.typeIn K (.ref (He.ma K (He.ga K "BadProgram") "__init__")) = some (.type "function")), (He.Fa.noat "BadProgram" "line").ok K] ++ [(He.Fa.noat "BadProgram" "what").ok K, oexB K (He.ga K "BadPoint"), He.eqO (PySem.W.findIn K (.ref (He.ga K "BadPoint")) "__init__") (some (some (.ref (He.ma K (He.ga K "BadPoint") "__init__")))), decide (PySem.W.typeIn K (.ref (He.ma K (He.ga K "BadPoint") "__init__")) = some (.type "function")), (He.Fa.noat "BadPoint" "index").ok K, (He.Fa.noat "BadPoint" "what").ok K, oexB K (He.ga K "LackingLetter"), He.eqO (PySem.W.findIn K (.ref (He.ga K "LackingLetter")) "__init__") (some (some (.ref (He.ma K (He.ga K "LackingLetter") "__init__")))), decide (PySem.W.typeIn K (.ref (He.ma K (He.ga K "LackingLetter") "__init__")) = some (.type "function")), (He.Fa.noat "LackingLetter" "letter").ok K, oexB K (He.ga K "NoMark"), He.eqO (PySem.W.findIn K (.ref (He.ga K "NoMark")) "__init__") (some (some (.ref (He.ma K (He.ga K "NoMark") "__init__")))), decide (PySem.W.typeIn K (.ref (He.ma K (He.ga K "NoMark") "__init__")) = some (.type "function")), (He.Fa.noat "NoMark" "mark").ok K, oexB K (He.ga K "BadSaying"), He.eqO (PySem.W.findIn K (.ref (He.ga K "BadSaying")) "__init__") (some (some (.ref (He.ma K (He.ga K "BadSaying") "__init__")))), decide (PySem.W.typeIn K (.ref (He.ma K (He.ga K "BadSaying") "__init__")) = some (.type "function")), (He.Fa.noat "BadSaying" "what").ok K, oexB K (He.ga K "BadPrefix"), He.eqO (PySem.W.findIn K (.ref (He.ga K "BadPrefix")) "__init__") (some (some (.ref (He.ma K (He.ga K "BadPrefix") "__init__"))))] ++ [decide (PySem.W.typeIn K (.ref (He.ma K (He.ga K "BadPrefix") "__init__")) = some (.type "function")), (He.Fa.noat "BadPrefix" "many").ok K, oexB K (He.ga K "BadLot"), He.eqO (PySem.W.findIn K (.ref (He.ga K "BadLot")) "__init__") (some (some (.ref (He.ma K (He.ga K "BadLot") "__init__")))), decide (PySem.W.typeIn K (.ref (He.ma K (He.ga K "BadLot") "__init__")) = some (.type "function")), (He.Fa.noat "BadLot" "what").ok K, xfB K (He.ga K "BadSystem"), xfB K (He.ga K "BadText"), (kitB K && exmB K)]
def ex (K : PySem.W.Frag) : Bool := (exl K).all id
theorem ex_at {K : PySem.W.Frag} (h : ex K = true) (i : Nat) {b : Bool} (e : (exl K)[i]? = some b) : b = true := List.all_eq_true.mp h b (List.mem_of_getElem? e)
def dd__law_start : He.DefD := ⟨("_law_start", none), "_law_start", "_law_start", defArgs s__law_start, defBody s__law_start, defScope s__law_start, [], []⟩
def dd__law_mixed : He.DefD := ⟨("_law_mixed", none), "_law_mixed", "_law_mixed", defArgs s__law_mixed, defBody s__law_mixed, defScope s__law_mixed, [], []⟩
def dd__law_draw : He.DefD := ⟨("_law_draw", none), "_law_draw", "_law_draw", defArgs s__law_draw, defBody s__law_draw, defScope s__law_draw, [], []⟩
def dd__law_gcd : He.DefD := ⟨("_law_gcd", none), "_law_gcd", "_law_gcd", defArgs s__law_gcd, defBody s__law_gcd, defScope s__law_gcd, [], []⟩
def dd__law_ratio : He.DefD := ⟨("_law_ratio", none), "_law_ratio", "_law_ratio", defArgs s__law_ratio, defBody s__law_ratio, defScope s__law_ratio, [], []⟩
def dd__law_small : He.DefD := ⟨("_law_small", none), "_law_small", "_law_small", defArgs s__law_small, defBody s__law_small, defScope s__law_small, [], []⟩
def dd__law_word : He.DefD := ⟨("_law_word", none), "_law_word", "_law_word", defArgs s__law_word, defBody s__law_word, defScope s__law_word, [], []⟩
def dd__law_first : He.DefD := ⟨("_law_first", none), "_law_first", "_law_first", defArgs s__law_first, defBody s__law_first, defScope s__law_first, [], []⟩
def dd__law_second : He.DefD := ⟨("_law_second", none), "_law_second", "_law_second", defArgs s__law_second, defBody s__law_second, defScope s__law_second, [], []⟩
def dd__law_classes : He.DefD := ⟨("_law_classes", none), "_law_classes", "_law_classes", defArgs s__law_classes, defBody s__law_classes, defScope s__law_classes, [], []⟩
def dd__law_raised : He.DefD := ⟨("_law_raised", none), "_law_raised", "_law_raised", defArgs s__law_raised, defBody s__law_raised, defScope s__law_raised, [], []⟩
def dd_law : He.DefD := ⟨("law", none), "law", "law", defArgs s_law, defBody s_law, defScope s_law, [], []⟩
def dd_i_BadRatio : He.DefD := ⟨("BadRatio", some "__init__"), "__init__", "BadRatio.__init__", defArgs s_i_BadRatio, defBody s_i_BadRatio, defScope s_i_BadRatio, [], []⟩
def dd_i_Pole : He.DefD := ⟨("Pole", some "__init__"), "__init__", "Pole.__init__", defArgs s_i_Pole, defBody s_i_Pole, defScope s_i_Pole, [], []⟩
def dd_i_BadElement : He.DefD := ⟨("BadElement", some "__init__"), "__init__", "BadElement.__init__", defArgs s_i_BadElement, defBody s_i_BadElement, defScope s_i_BadElement, [], []⟩
def dd_i_BadText : He.DefD := ⟨("BadText", some "__init__"), "__init__", "BadText.__init__", defArgs s_i_BadText, defBody s_i_BadText, defScope s_i_BadText, [], []⟩
def dd_i_BadTower : He.DefD := ⟨("BadTower", some "__init__"), "__init__", "BadTower.__init__", defArgs s_i_BadTower, defBody s_i_BadTower, defScope s_i_BadTower, [], []⟩
def dd_i_NoPlace : He.DefD := ⟨("NoPlace", some "__init__"), "__init__", "NoPlace.__init__", defArgs s_i_NoPlace, defBody s_i_NoPlace, defScope s_i_NoPlace, [], []⟩
def dd_i_NoLetter : He.DefD := ⟨("NoLetter", some "__init__"), "__init__", "NoLetter.__init__", defArgs s_i_NoLetter, defBody s_i_NoLetter, defScope s_i_NoLetter, [], []⟩
def dd_i_BadSystem : He.DefD := ⟨("BadSystem", some "__init__"), "__init__", "BadSystem.__init__", defArgs s_i_BadSystem, defBody s_i_BadSystem, defScope s_i_BadSystem, [], []⟩
def dd_i_TooMany : He.DefD := ⟨("TooMany", some "__init__"), "__init__", "TooMany.__init__", defArgs s_i_TooMany, defBody s_i_TooMany, defScope s_i_TooMany, [], []⟩
def dd_i_BadProgram : He.DefD := ⟨("BadProgram", some "__init__"), "__init__", "BadProgram.__init__", defArgs s_i_BadProgram, defBody s_i_BadProgram, defScope s_i_BadProgram, [], []⟩
def dd_i_BadPoint : He.DefD := ⟨("BadPoint", some "__init__"), "__init__", "BadPoint.__init__", defArgs s_i_BadPoint, defBody s_i_BadPoint, defScope s_i_BadPoint, [], []⟩
def dd_i_LackingLetter : He.DefD := ⟨("LackingLetter", some "__init__"), "__init__", "LackingLetter.__init__", defArgs s_i_LackingLetter, defBody s_i_LackingLetter, defScope s_i_LackingLetter, [], []⟩
def dd_i_NoMark : He.DefD := ⟨("NoMark", some "__init__"), "__init__", "NoMark.__init__", defArgs s_i_NoMark, defBody s_i_NoMark, defScope s_i_NoMark, [], []⟩
def dd_i_BadSaying : He.DefD := ⟨("BadSaying", some "__init__"), "__init__", "BadSaying.__init__", defArgs s_i_BadSaying, defBody s_i_BadSaying, defScope s_i_BadSaying, [], []⟩
def dd_i_BadPrefix : He.DefD := ⟨("BadPrefix", some "__init__"), "__init__", "BadPrefix.__init__", defArgs s_i_BadPrefix, defBody s_i_BadPrefix, defScope s_i_BadPrefix, [], []⟩
def dd_i_BadLot : He.DefD := ⟨("BadLot", some "__init__"), "__init__", "BadLot.__init__", defArgs s_i_BadLot, defBody s_i_BadLot, defScope s_i_BadLot, [], []⟩
def fn : List He.DefD := [dd__law_start, dd__law_mixed, dd__law_draw, dd__law_gcd, dd__law_ratio, dd__law_small, dd__law_word, dd__law_first, dd__law_second, dd__law_classes, dd__law_raised, dd_law, dd_i_BadRatio, dd_i_Pole, dd_i_BadElement, dd_i_BadText, dd_i_BadTower, dd_i_NoPlace, dd_i_NoLetter, dd_i_BadSystem] ++ [dd_i_TooMany, dd_i_BadProgram, dd_i_BadPoint, dd_i_LackingLetter, dd_i_NoMark, dd_i_BadSaying, dd_i_BadPrefix, dd_i_BadLot]
theorem txt {K : PySem.W.Frag} {h : Heap} {mg : Str → Option Value} (X : K.In h) (G : h.Ns mainGlobals mg) (c : ex K = true) : Txt K mg where
  n_ArithmeticError := He.free_ok X G (ex_at c 0 rfl)
  n_LookupError := He.free_ok X G (ex_at c 1 rfl)
  n_ValueError := He.free_ok X G (ex_at c 2 rfl)
  n_abs := He.free_ok X G (ex_at c 3 rfl)
  n_any := He.free_ok X G (ex_at c 4 rfl)
  n_int := He.free_ok X G (ex_at c 5 rfl)
  n_isinstance := He.free_ok X G (ex_at c 6 rfl)
  n_len := He.free_ok X G (ex_at c 7 rfl)
  n_range := He.free_ok X G (ex_at c 8 rfl)
  g_BadElement := He.glo_ok X G (ex_at c 9 rfl)
  g_BadLot := He.glo_ok X G (ex_at c 10 rfl)
  g_BadPoint := He.glo_ok X G (ex_at c 11 rfl)
  g_BadPrefix := He.glo_ok X G (ex_at c 12 rfl)
  g_BadProgram := He.glo_ok X G (ex_at c 13 rfl)
  g_BadRatio := He.glo_ok X G (ex_at c 14 rfl)
  g_BadSaying := He.glo_ok X G (ex_at c 15 rfl)
  g_BadSystem := He.glo_ok X G (ex_at c 16 rfl)
  g_BadText := He.glo_ok X G (ex_at c 17 rfl)
  g_BadTower := He.glo_ok X G (ex_at c 18 rfl)
  g_DividedByNought := He.glo_ok X G (ex_at c 19 rfl)
  g_HasFree := He.glo_ok X G (ex_at c 20 rfl)
  g_LackingLetter := He.glo_ok X G (ex_at c 21 rfl)
  g_NoFree := He.glo_ok X G (ex_at c 22 rfl)
  g_NoLetter := He.glo_ok X G (ex_at c 23 rfl)
  g_NoMark := He.glo_ok X G (ex_at c 24 rfl)
  g_NoPlace := He.glo_ok X G (ex_at c 25 rfl)
  g_NoPoint := He.glo_ok X G (ex_at c 26 rfl)
  g_NoneMarked := He.glo_ok X G (ex_at c 27 rfl)
  g_NotMonic := He.glo_ok X G (ex_at c 28 rfl)
  g_NotOne := He.glo_ok X G (ex_at c 29 rfl)
  g_OtherLetters := He.glo_ok X G (ex_at c 30 rfl)
  g_Pole := He.glo_ok X G (ex_at c 31 rfl)
  g_RootError := He.glo_ok X G (ex_at c 32 rfl)
  g_TooMany := He.glo_ok X G (ex_at c 33 rfl)
  g_ZeroNote := He.glo_ok X G (ex_at c 34 rfl)
  g__law_classes := He.glo_ok X G (ex_at c 35 rfl)
  g__law_draw := He.glo_ok X G (ex_at c 36 rfl)
  g__law_first := He.glo_ok X G (ex_at c 37 rfl)
  g__law_gcd := He.glo_ok X G (ex_at c 38 rfl)
  g__law_mixed := He.glo_ok X G (ex_at c 39 rfl)
  g__law_raised := He.glo_ok X G (ex_at c 40 rfl)
  g__law_ratio := He.glo_ok X G (ex_at c 41 rfl)
  g__law_second := He.glo_ok X G (ex_at c 42 rfl)
  g__law_small := He.glo_ok X G (ex_at c 43 rfl)
  g__law_start := He.glo_ok X G (ex_at c 44 rfl)
  g__law_word := He.glo_ok X G (ex_at c 45 rfl)
  g_law := He.glo_ok X G (ex_at c 46 rfl)
  e_DividedByNought := ex_at c 47 rfl
  e_HasFree := ex_at c 48 rfl
  e_NoFree := ex_at c 49 rfl
  e_NoPoint := ex_at c 50 rfl
  e_NoneMarked := ex_at c 51 rfl
  e_NotMonic := ex_at c 52 rfl
  e_NotOne := ex_at c 53 rfl
  e_OtherLetters := ex_at c 54 rfl
  e_RootError := ex_at c 55 rfl
  e_ZeroNote := ex_at c 56 rfl
  o_BadRatio := oexB_ok (ex_at c 57 rfl)
  ini_BadRatio := He.eqO_ok (ex_at c 58 rfl)
  ty_BadRatio := of_decide_eq_true (ex_at c 59 rfl)
  nf_BadRatio_what := He.noat_ok (ex_at c 60 rfl)
  o_Pole := oexB_ok (ex_at c 61 rfl)
  ini_Pole := He.eqO_ok (ex_at c 62 rfl)
  ty_Pole := of_decide_eq_true (ex_at c 63 rfl)
  nf_Pole_at := He.noat_ok (ex_at c 64 rfl)
  o_BadElement := oexB_ok (ex_at c 65 rfl)
  ini_BadElement := He.eqO_ok (ex_at c 66 rfl)
  ty_BadElement := of_decide_eq_true (ex_at c 67 rfl)
  nf_BadElement_index := He.noat_ok (ex_at c 68 rfl)
  o_BadText := oexB_ok (ex_at c 69 rfl)
  ini_BadText := He.eqO_ok (ex_at c 70 rfl)
  ty_BadText := of_decide_eq_true (ex_at c 71 rfl)
  nf_BadText_line := He.noat_ok (ex_at c 72 rfl)
  nf_BadText_what := He.noat_ok (ex_at c 73 rfl)
  o_BadTower := oexB_ok (ex_at c 74 rfl)
  ini_BadTower := He.eqO_ok (ex_at c 75 rfl)
  ty_BadTower := of_decide_eq_true (ex_at c 76 rfl)
  nf_BadTower_what := He.noat_ok (ex_at c 77 rfl)
  nf_BadTower_place := He.noat_ok (ex_at c 78 rfl)
  o_NoPlace := oexB_ok (ex_at c 79 rfl)
  ini_NoPlace := He.eqO_ok (ex_at c 80 rfl)
  ty_NoPlace := of_decide_eq_true (ex_at c 81 rfl)
  nf_NoPlace_place := He.noat_ok (ex_at c 82 rfl)
  o_NoLetter := oexB_ok (ex_at c 83 rfl)
  ini_NoLetter := He.eqO_ok (ex_at c 84 rfl)
  ty_NoLetter := of_decide_eq_true (ex_at c 85 rfl)
  nf_NoLetter_letter := He.noat_ok (ex_at c 86 rfl)
  o_BadSystem := oexB_ok (ex_at c 87 rfl)
  ini_BadSystem := He.eqO_ok (ex_at c 88 rfl)
  ty_BadSystem := of_decide_eq_true (ex_at c 89 rfl)
  nf_BadSystem_what := He.noat_ok (ex_at c 90 rfl)
  nf_BadSystem_place := He.noat_ok (ex_at c 91 rfl)
  o_TooMany := oexB_ok (ex_at c 92 rfl)
  ini_TooMany := He.eqO_ok (ex_at c 93 rfl)
  ty_TooMany := of_decide_eq_true (ex_at c 94 rfl)
  nf_TooMany_most := He.noat_ok (ex_at c 95 rfl)
  o_BadProgram := oexB_ok (ex_at c 96 rfl)
  ini_BadProgram := He.eqO_ok (ex_at c 97 rfl)
  ty_BadProgram := of_decide_eq_true (ex_at c 98 rfl)
  nf_BadProgram_line := He.noat_ok (ex_at c 99 rfl)
  nf_BadProgram_what := He.noat_ok (ex_at c 100 rfl)
  o_BadPoint := oexB_ok (ex_at c 101 rfl)
  ini_BadPoint := He.eqO_ok (ex_at c 102 rfl)
  ty_BadPoint := of_decide_eq_true (ex_at c 103 rfl)
  nf_BadPoint_index := He.noat_ok (ex_at c 104 rfl)
  nf_BadPoint_what := He.noat_ok (ex_at c 105 rfl)
  o_LackingLetter := oexB_ok (ex_at c 106 rfl)
  ini_LackingLetter := He.eqO_ok (ex_at c 107 rfl)
  ty_LackingLetter := of_decide_eq_true (ex_at c 108 rfl)
  nf_LackingLetter_letter := He.noat_ok (ex_at c 109 rfl)
  o_NoMark := oexB_ok (ex_at c 110 rfl)
  ini_NoMark := He.eqO_ok (ex_at c 111 rfl)
  ty_NoMark := of_decide_eq_true (ex_at c 112 rfl)
  nf_NoMark_mark := He.noat_ok (ex_at c 113 rfl)
  o_BadSaying := oexB_ok (ex_at c 114 rfl)
  ini_BadSaying := He.eqO_ok (ex_at c 115 rfl)
  ty_BadSaying := of_decide_eq_true (ex_at c 116 rfl)
  nf_BadSaying_what := He.noat_ok (ex_at c 117 rfl)
  o_BadPrefix := oexB_ok (ex_at c 118 rfl)
  ini_BadPrefix := He.eqO_ok (ex_at c 119 rfl)
  ty_BadPrefix := of_decide_eq_true (ex_at c 120 rfl)
  nf_BadPrefix_many := He.noat_ok (ex_at c 121 rfl)
  o_BadLot := oexB_ok (ex_at c 122 rfl)
  ini_BadLot := He.eqO_ok (ex_at c 123 rfl)
  ty_BadLot := of_decide_eq_true (ex_at c 124 rfl)
  nf_BadLot_what := He.noat_ok (ex_at c 125 rfl)
  xf_BadSystem := xfB_ok (ex_at c 126 rfl)
  xf_BadText := xfB_ok (ex_at c 127 rfl)
  kit := kit_ok2 (ex_at c 128 rfl)
  hd_ := trivial
theorem defs {K : PySem.W.Frag} (c : SaysZ ex fn K) : Defs K where
  d__law_start := c.def_ 0 (d := dd__law_start) rfl
  d__law_mixed := c.def_ 1 (d := dd__law_mixed) rfl
  d__law_draw := c.def_ 2 (d := dd__law_draw) rfl
  d__law_gcd := c.def_ 3 (d := dd__law_gcd) rfl
  d__law_ratio := c.def_ 4 (d := dd__law_ratio) rfl
  d__law_small := c.def_ 5 (d := dd__law_small) rfl
  d__law_word := c.def_ 6 (d := dd__law_word) rfl
  d__law_first := c.def_ 7 (d := dd__law_first) rfl
  d__law_second := c.def_ 8 (d := dd__law_second) rfl
  d__law_classes := c.def_ 9 (d := dd__law_classes) rfl
  d__law_raised := c.def_ 10 (d := dd__law_raised) rfl
  d_law := c.def_ 11 (d := dd_law) rfl
  d_i_BadRatio := c.def_ 12 (d := dd_i_BadRatio) rfl
  d_i_Pole := c.def_ 13 (d := dd_i_Pole) rfl
  d_i_BadElement := c.def_ 14 (d := dd_i_BadElement) rfl
  d_i_BadText := c.def_ 15 (d := dd_i_BadText) rfl
  d_i_BadTower := c.def_ 16 (d := dd_i_BadTower) rfl
  d_i_NoPlace := c.def_ 17 (d := dd_i_NoPlace) rfl
  d_i_NoLetter := c.def_ 18 (d := dd_i_NoLetter) rfl
  d_i_BadSystem := c.def_ 19 (d := dd_i_BadSystem) rfl
  d_i_TooMany := c.def_ 20 (d := dd_i_TooMany) rfl
  d_i_BadProgram := c.def_ 21 (d := dd_i_BadProgram) rfl
  d_i_BadPoint := c.def_ 22 (d := dd_i_BadPoint) rfl
  d_i_LackingLetter := c.def_ 23 (d := dd_i_LackingLetter) rfl
  d_i_NoMark := c.def_ 24 (d := dd_i_NoMark) rfl
  d_i_BadSaying := c.def_ 25 (d := dd_i_BadSaying) rfl
  d_i_BadPrefix := c.def_ 26 (d := dd_i_BadPrefix) rfl
  d_i_BadLot := c.def_ 27 (d := dd_i_BadLot) rfl
def loose : List Str := (["RootError", "BadRatio", "DividedByNought", "Pole", "BadElement", "BadText", "BadTower", "NoPlace", "NoLetter", "BadSystem", "TooMany", "OtherLetters", "NotMonic", "ZeroNote", "HasFree", "BadProgram", "BadPoint", "LackingLetter", "NoPoint", "NotOne"] : List Str) ++ (["NoMark", "NoneMarked", "BadSaying", "BadPrefix", "BadLot", "NoFree", "_law_start", "_law_mixed", "_law_draw", "_law_gcd", "_law_ratio", "_law_small", "_law_word", "_law_first", "_law_second", "_law_classes", "_law_raised"] : List Str)
abbrev R : PySem.W.OpenRow := PySem.W.OpenLaw.row PySem.Challenge.rw_neverfactored_k00_whole_errors_side_by_s
abbrev hk : PySem.W.Hook := hookZ 6 ex fn
def ob (s : PySem.W.SharedT) : He.AlD := obsZG 6 ex fn (HandSHeadRun.getT s)
theorem ob_eq (s : PySem.W.SharedT) : ob s = hk.obs s.abs := obsZG_eq (HandSHeadRun.getT_eq s)
theorem run (w : World) : HandSHeadRun.RunEq R (PySem.W.view R.prog [39]) hk ob 40000 loose w := by
  intro os
  kernel_rfl
theorem facts {P : Program} {w : World} {K : PySem.W.Frag} {h : Heap} {mg : Str → Option Value} {f : Addr} (X : K.In h) (G : h.Ns mainGlobals mg) (hfa : mg ("law" : Str) = some (.ref f)) (c : SaysZ ex fn K) :
    ∃ fd : FuncData, (∀ (s : Shared) (v : Value), BindsTo s fd ⟨[v], []⟩ [("_law_script", v)]) ∧ ∀ base : Heap, K.In base → base.Ns mainGlobals mg → FnOk P w K mg base CX0 4 f fd ["_law_script"] (sp_law K) := by
  have T := txt X G c.fact
  have D := defs c
  obtain ⟨fd, F⟩ := D.d_law
  have e := hfa.symm.trans T.g_law
  cases e
  have b := FunD.bindsA (ps := ["_law_script"]) F fun _ _ _ _ _ _ us hl => match us, hl with | [_], _ => rfl
  exact ⟨fd, fun s v => b s [v] rfl, fun base _ _ => ok_law T D F⟩
end A00
open PySem PySem.W PySem.Calls PyProof.Rows
theorem PySem.Challenge.cw_neverfactored_k00_whole_errors_side_by_s_holds : PySem.Challenge.rw_neverfactored_k00_whole_errors_side_by_s.Holds := by
  w_on; o_law
  refine HandSHeadRun.head_any (r := OpenLaw.row PySem.Challenge.rw_neverfactored_k00_whole_errors_side_by_s) (q := view (OpenLaw.row PySem.Challenge.rw_neverfactored_k00_whole_errors_side_by_s).prog [39]) (H := A00.hk) (ob := A00.ob) (M := 40000) (loose := A00.loose) (d := HandSHeadRun.topDef (OpenLaw.row PySem.Challenge.rw_neverfactored_k00_whole_errors_side_by_s).prog 39) (kwd := []) A00.ob_eq (by kernel_rfl) (fun s => by kernel_rfl) A00.run
    (by kernel_rfl) (by kernel_rfl) (by kernel_rfl) (by rfl) (by first | assumption | decide +kernel) (by decide +kernel) ⟨rfl, rfl, rfl, rfl, rfl, by decide +kernel⟩ ?hw ?hc
  case hw => w_witness2
  case hc =>
    refine L2.walk_ofE (l := PySem.Challenge.rw_neverfactored_k00_whole_errors_side_by_s) (n := 63) (k := 4) (x := "_law_script") (CX := L2.CX0) rfl (by decide) (by kernel_rfl) ⟨rfl, by decide, by decide⟩ ?F (fun _ _ _ _ z => z)
    intro w mg fa h Y G hmg0
    obtain ⟨K, KX, c⟩ := Y
    have hmg : mg ("law" : PySem.Str) = some (.ref fa) := by
      have e : (HandSHeadRun.topDef (OpenLaw.row PySem.Challenge.rw_neverfactored_k00_whole_errors_side_by_s).prog 39).name = ("law" : PySem.Str) := by kernel_rfl
      rw [← e]
      exact hmg0
    obtain ⟨fd, hb, hF⟩ := A00.facts (P := (PySem.Challenge.rw_neverfactored_k00_whole_errors_side_by_s).prog) (w := w) KX G hmg c
    exact ⟨K, fd, K0.sp_law K, KX, hb, fun H a ns hl _ hS => ⟨a, ns, rfl, hS, Nat.le_trans hl (by decide), fun _ => rfl⟩, hF⟩

