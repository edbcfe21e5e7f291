import PyProof.Rows.All
import Wide.All
import OpenK.AllK
import Wide.FinOn
import HandS.ForMost
import HandS.ForExc
import HandS.Evl
import HandS.Wide
import HandS.Style
import HandS.Gcd
import HandS.Defaults
import HandS.CallLocal
import HandS.FStr
import HandS.IsInst
import HandS.ExcInit
import HandS.ExcField
import HandS.Small
import HandS.HeadEnd
import HandS.Head0
import HandS.Head1
import HandS.Head2
import HandS.HeadHook1
import HandS.HeadHook2
import HandS.Head3
import PySem.Challenge.RW_neverfactored_k01_whole_ratios_reckoned
set_option Elab.async false
set_option linter.all false
set_option autoImplicit false
set_option maxRecDepth 100000
set_option exponentiation.threshold 10000
set_option maxHeartbeats 0
/-! # The data layer: what a def does, told by plain data. -/
namespace DL
open PySem L2
open Evl (Ex Ex.refl Ex.trans Ex.new)

/-- data | a value as it stands | an own list that may change | a caught error at a, its fields in the dict at d | whatever stays when the heap grows -/
inductive DV where
  | d (x : PyData)
  | v (u : V)
  | o (xs : List PyData)
  | x (a d : Addr) (fs : List (Str × PyData))
  | p (R : PySem.W.Frag → Hp → V → Prop) (m : ∀ {K : PySem.W.Frag} {H H' : Hp} {u : V}, Ex H H' → R K H u → R K H' u)
abbrev DSt := List (Option DV)
abbrev DI (i : Int) : DV := .d (.int i)
abbrev DB (b : Bool) : DV := .d (.bool b)
abbrev DS (s : Str) : DV := .d (.str s)
abbrev DN : DV := .d .none

theorem dp_mono {K : PySem.W.Frag} {H H' : Hp} (e : Ex H H') : ∀ {u : V} {x : PyData}, Dp K H u x → Dp K H' u x := by
  intro u x h
  refine Dp.rec (motive_1 := fun u x _ => Dp K H' u x) (motive_2 := fun us xs _ => DpAll K H' us xs) ?_ ?_ ?_ ?_ ?_ ?_ ?_ ?_ h
  · exact .non
  · exact fun b => .bl b
  · exact fun i => .int i
  · exact fun s => .str s
  · exact fun hs _ ih => .lst (Evl.ex_l e hs) ih
  · exact fun hs _ ih => .tup (Evl.ex_t e hs) ih
  · exact .nil
  · exact fun _ _ h1 h2 => .cons h1 h2
theorem dpa_mono {K : PySem.W.Frag} {H H' : Hp} (e : Ex H H') : ∀ {us : List V} {xs : List PyData}, DpAll K H us xs → DpAll K H' us xs
  | [], [], _ => .nil
  | _, _, .cons h t => .cons (dp_mono e h) (dpa_mono e t)
theorem dpa_len {K : PySem.W.Frag} {H : Hp} : ∀ {us : List V} {xs : List PyData}, DpAll K H us xs → us.length = xs.length
  | _, _, .nil => rfl
  | _, _, .cons _ t => congrArg Nat.succ (dpa_len t)
theorem dpa_get {K : PySem.W.Frag} {H : Hp} : ∀ {us : List V} {xs : List PyData} {i : Nat} {x : PyData}, DpAll K H us xs → xs[i]? = some x → ∃ u, us[i]? = some u ∧ Dp K H u x
  | _, _, _, _, .nil, e => by simp at e
  | _, _, 0, _, .cons h _, e => by simp at e; subst e; exact ⟨_, rfl, h⟩
  | _, _, i + 1, x, .cons _ t, e => by
    obtain ⟨u, h1, h2⟩ := dpa_get (i := i) (x := x) t (by simpa using e)
    exact ⟨u, by simpa using h1, h2⟩
theorem dpa_get' {K : PySem.W.Frag} {H : Hp} : ∀ {us : List V} {xs : List PyData} {i : Nat} {u : V}, DpAll K H us xs → us[i]? = some u → ∃ x, xs[i]? = some x ∧ Dp K H u x
  | _, _, _, _, .nil, e => by simp at e
  | _, _, 0, _, .cons h _, e => by simp at e; subst e; exact ⟨_, rfl, h⟩
  | _, _, i + 1, u, .cons _ t, e => by
    obtain ⟨x, h1, h2⟩ := dpa_get' (i := i) (u := u) t (by simpa using e)
    exact ⟨x, by simpa using h1, h2⟩
theorem dpa_append {K : PySem.W.Frag} {H : Hp} : ∀ {us ws : List V} {xs ys : List PyData}, DpAll K H us xs → DpAll K H ws ys → DpAll K H (us ++ ws) (xs ++ ys)
  | _, _, _, _, .nil, s => s
  | _, _, _, _, .cons r t, s => .cons r (dpa_append t s)
theorem dpa_take {K : PySem.W.Frag} {H : Hp} : ∀ {us : List V} {xs : List PyData} (n : Nat), DpAll K H us xs → DpAll K H (us.take n) (xs.take n)
  | _, _, 0, _ => .nil
  | _, _, _ + 1, .nil => .nil
  | _, _, n + 1, .cons r t => .cons r (dpa_take n t)
theorem dpa_drop {K : PySem.W.Frag} {H : Hp} : ∀ {us : List V} {xs : List PyData} (n : Nat), DpAll K H us xs → DpAll K H (us.drop n) (xs.drop n)
  | _, _, 0, r => r
  | _, _, _ + 1, .nil => .nil
  | _, _, n + 1, .cons _ t => dpa_drop n t
theorem dpa_set {K : PySem.W.Frag} {H : Hp} {u : V} {x : PyData} (r : Dp K H u x) : ∀ {us : List V} {xs : List PyData} (i : Nat), DpAll K H us xs → DpAll K H (us.set i u) (xs.set i x)
  | _, _, _, .nil => .nil
  | _, _, 0, .cons _ t => .cons r t
  | _, _, i + 1, .cons q t => .cons q (dpa_set r i t)

/-- the heap without what is held back -/
def Rs (S : Addr → Bool) (H : Hp) : Hp := fun b => if S b then none else H b
theorem Rs.sub {S : Addr → Bool} {H : Hp} : Ex (Rs S H) H := fun b o h => by
  unfold Rs at h
  split at h
  · cases h
  · exact h
theorem Rs.mono {S : Addr → Bool} {H H' : Hp} (e : Ex H H') : Ex (Rs S H) (Rs S H') := fun b o h => by
  unfold Rs at h ⊢
  split at h
  · cases h
  · rename_i hs
    rw [if_neg hs]
    exact e b o h

structure Fm where
  K : PySem.W.Frag
  S : Addr → Bool
  old : Addr → Prop
  I : Hp → Prop
  stab : ∀ {H H'}, I H → Ex H H' → I H'
  al : ∀ {H b}, I H → old b → H b ≠ none
  so : ∀ {b}, S b = true → old b
  put : ∀ {H : Hp} {p : Addr} {us us' : List V}, I H → H p = some (.lst us) → ¬ old p → I (upd H p (.lst us'))
/-- the frame of a pure def, called over H -/
def F0 (K : PySem.W.Frag) (H0 : Hp) : Fm where
  K := K
  S := fun _ => false
  old := fun b => H0 b ≠ none
  I := fun H => ∀ b, H0 b ≠ none → H b ≠ none
  stab := fun {H H'} h e b hb => by
    have := h b hb
    cases q : H b with
    | none => exact absurd q this
    | some o =>
      rw [e b o q]
      exact fun z => by cases z
  al := fun h hb => h _ hb
  so := fun h => by cases h
  put := fun {H p us us'} h hp _ b hb => by
    by_cases e : b = p
    · subst e
      rw [upd_same]
      exact fun z => by cases z
    · rw [upd_ne e]
      exact h b hb

structure Stp (F : Fm) (G H G' H' : Hp) : Prop where
  gg : Ex G G'
  gh : Ex G' (Rs F.S H')
  nw : ∀ b, H b ≠ none → G b = none → G' b = none
  hh : Ex (Rs F.S H) (Rs F.S H')
  inv : F.I H'
theorem Stp.al {F : Fm} {G H G' H' : Hp} (s : Stp F G H G' H') {b : Addr} (h : H b ≠ none) : H' b ≠ none := by
  by_cases hs : F.S b = true
  · exact F.al s.inv (F.so hs)
  · cases e : H b with
    | none => exact absurd e h
    | some o =>
      have := s.hh b o (by unfold Rs; rw [if_neg hs]; exact e)
      unfold Rs at this
      rw [if_neg hs] at this
      rw [this]
      exact fun z => by cases z
theorem Stp.trans {F : Fm} {G H G1 H1 G2 H2 : Hp} (a : Stp F G H G1 H1) (b : Stp F G1 H1 G2 H2) : Stp F G H G2 H2 :=
  ⟨a.gg.trans b.gg, b.gh, fun c h g => b.nw c (a.al h) (a.nw c h g), a.hh.trans b.hh, b.inv⟩
theorem Stp.refl {F : Fm} {G H : Hp} (i : F.I H) (g : Ex G (Rs F.S H)) : Stp F G H G H := ⟨Ex.refl G, g, fun _ _ h => h, Ex.refl _, i⟩
theorem rs_ne {S : Addr → Bool} {H : Hp} {b : Addr} (h : S b = false) : Rs S H b = H b := if_neg (by rw [h]; decide)
theorem ex_nm {H H' : Hp} (e : Ex H H') (b : Addr) (h : H b ≠ none) : H' b ≠ none := by
  cases q : H b with
  | none => exact absurd q h
  | some o =>
    rw [e b o q]
    exact fun z => by cases z
/-- a list that is not held back is kept -/
theorem own_keep {F : Fm} {G H G' H' : Hp} (s : Stp F G H G' H') {p : Addr} {us : List V} (hs : ¬ F.old p) (h : H p = some (.lst us)) : H' p = some (.lst us) := by
  have hs : F.S p = false := by
    cases e : F.S p with
    | false => rfl
    | true => exact absurd (F.so e) hs
  have := s.hh p _ ((rs_ne hs).trans h)
  rw [rs_ne hs] at this
  exact this
/-- u stands for x over the frame: an own list is new, and no part of what stays; its address is none of what stays until it is let go -/
def RV (F : Fm) (G H : Hp) : V → DV → Prop
  | u, .d x => Dp F.K G u x
  | u, .v w => u = w
  | u, .o xs => ∃ p us, u = .ref p ∧ H p = some (.lst us) ∧ G p = none ∧ ¬ F.old p ∧ DpAll F.K G us xs
  | u, .x a d fs => u = .ref a ∧ ∃ fv, G d = some (.xd fv) ∧ fv.map (·.1) = fs.map (·.1) ∧ DpAll F.K G (fv.map (·.2)) (fs.map (·.2))
  | u, .p R _ => R F.K G u
theorem RV.d {F : Fm} {G H : Hp} {u : V} {x : PyData} (h : Dp F.K G u x) : RV F G H u (.d x) := h
theorem RV.dp {F : Fm} {G H : Hp} {u : V} {x : PyData} (h : RV F G H u (.d x)) : Dp F.K G u x := h
theorem RV.step {F : Fm} {G H G' H' : Hp} (s : Stp F G H G' H') {u : V} {x : DV} (h : RV F G H u x) : RV F G' H' u x := by
  cases x with
  | d x => exact dp_mono s.gg h
  | v w => exact h
  | o xs =>
    obtain ⟨p, us, e, hp, gp, no, a⟩ := h
    exact ⟨p, us, e, own_keep s no hp, s.nw p (by rw [hp]; exact fun z => by cases z) gp, no, dpa_mono s.gg a⟩
  | x a d fs =>
    obtain ⟨e, fv, hd, hn, ha⟩ := h
    exact ⟨e, fv, s.gg d _ hd, hn, dpa_mono s.gg ha⟩
  | p R m => exact m s.gg h
def RVs (F : Fm) (G H : Hp) : List V → List DV → Prop
  | [], [] => True
  | u :: us, x :: xs => RV F G H u x ∧ RVs F G H us xs
  | _, _ => False
theorem RVs.step {F : Fm} {G H G' H' : Hp} (s : Stp F G H G' H') : ∀ {us : List V} {xs : List DV}, RVs F G H us xs → RVs F G' H' us xs
  | [], [], _ => trivial
  | _ :: _, _ :: _, h => ⟨RV.step s h.1, RVs.step s h.2⟩
  | [], _ :: _, h => h.elim
  | _ :: _, [], h => h.elim
theorem RVs.len {F : Fm} {G H : Hp} : ∀ {us : List V} {xs : List DV}, RVs F G H us xs → us.length = xs.length
  | [], [], _ => rfl
  | _ :: _, _ :: _, h => congrArg Nat.succ (RVs.len h.2)
  | [], _ :: _, h => h.elim
  | _ :: _, [], h => h.elim

/-- the slots -/
structure SL (F : Fm) (G H : Hp) (σ : L2.St) (δ : DSt) : Prop where
  len : σ.length = δ.length
  at_ : ∀ (i : Nat) (x : DV), δ[i]? = some (some x) → ∃ u, σ[i]? = some (some u) ∧ RV F G H u x
  own : ∀ (i j : Nat) (xs ys : List PyData), i ≠ j → δ[i]? = some (some (.o xs)) → δ[j]? = some (some (.o ys)) → σ[i]? ≠ σ[j]?
theorem SL.step {F : Fm} {G H G' H' : Hp} {σ : L2.St} {δ : DSt} (s : Stp F G H G' H') (h : SL F G H σ δ) : SL F G' H' σ δ :=
  ⟨h.len, fun i x e => let ⟨u, a, b⟩ := h.at_ i x e; ⟨u, a, b.step s⟩, h.own⟩

/-- what is wanted of an exception: its class, its fields -/
abbrev XP := Addr → List (Str × DV) → Prop
abbrev X0 : XP := fun _ _ => False
def XS (F : Fm) (X : XK) (G H : Hp) (Xp : XP) : Prop := ∀ C fs G' H', Stp F G H G' H' → Xp C fs →
  (fs = [] → X (.ref C) none H') ∧ ∀ (d : Addr) (fv : List (Str × V)), G' d = some (.xd fv) → (fv.map (·.1) = fs.map (·.1)) → RVs F G' H' (fv.map (·.2)) (fs.map (·.2)) → X (.ref C) (some d) H'
abbrev XW := L2.St → XK
structure Cur (F : Fm) (X : XW) (G H : Hp) (σ : L2.St) (δ : DSt) (Xp : XP) : Prop where
  inv : F.I H
  gh : Ex G (Rs F.S H)
  sl : SL F G H σ δ
  xs : XS F (X σ) G H Xp
theorem Cur.step {F : Fm} {X : XW} {G H G' H' : Hp} {σ : L2.St} {δ : DSt} {Xp : XP} (c : Cur F X G H σ δ Xp) (s : Stp F G H G' H') : Cur F X G' H' σ δ Xp :=
  ⟨s.inv, s.gh, c.sl.step s, fun C fs G2 H2 s2 h => c.xs C fs G2 H2 (s.trans s2) h⟩
theorem Cur.here {F : Fm} {X : XW} {G H : Hp} {σ : L2.St} {δ : DSt} {Xp : XP} (c : Cur F X G H σ δ Xp) : Stp F G H G H := Stp.refl c.inv c.gh

def ED (F : Fm) (X : XW) (te : TE) (δ : DSt) (Xp : XP) (P : DV → Prop) : Prop := ∀ σ H G, Cur F X G H σ δ Xp → ∀ Q : VK, (∀ u x H' G', Stp F G H G' H' → RV F G' H' u x → P x → Q u H') → te σ H Q
def ET (F : Fm) (X : XW) (tt : TT) (δ : DSt) (Xp : XP) (P : Bool → Prop) : Prop := ∀ σ H G, Cur F X G H σ δ Xp → ∀ Q : Bool → Hp → Prop, (∀ b H' G', Stp F G H G' H' → P b → Q b H') → tt σ H Q
def EA (F : Fm) (X : XW) (ta : TA) (δ : DSt) (Xp : XP) (P : List DV → Prop) : Prop := ∀ σ H G, Cur F X G H σ δ Xp → ∀ Q : List V → Hp → Prop, (∀ us xs H' G', Stp F G H G' H' → RVs F G' H' us xs → P xs → Q us H') → ta σ H Q
/-- an operation on two values; on one; a call on values -/
def D2 (F : Fm) (r : R2) (x y : DV) (P : DV → Prop) : Prop := ∀ u w H G, F.I H → Ex G (Rs F.S H) → RV F G H u x → RV F G H w y → ∀ Q : VK, (∀ z c H' G', Stp F G H G' H' → RV F G' H' z c → P c → Q z H') → r u w H Q
def D1 (F : Fm) (r : V → Hp → VK → Prop) (x : DV) (P : DV → Prop) : Prop := ∀ u H G, F.I H → Ex G (Rs F.S H) → RV F G H u x → ∀ Q : VK, (∀ z c H' G', Stp F G H G' H' → RV F G' H' z c → P c → Q z H') → r u H Q
def DC (F : Fm) (r : List V → Hp → VK → Prop) (xs : List DV) (P : DV → Prop) : Prop := ∀ us H G, F.I H → Ex G (Rs F.S H) → RVs F G H us xs → ∀ Q : VK, (∀ z c H' G', Stp F G H G' H' → RV F G' H' z c → P c → Q z H') → r us H Q

section
variable {F : Fm} {X : XW} {δ : DSt} {Xp : XP} {P : DV → Prop} {ta tb te : TE} {t u : TT} {r : R2}
theorem ED.mono {P' : DV → Prop} (h : ED F X te δ Xp P) (k : ∀ x, P x → P' x) : ED F X te δ Xp P' := fun σ H G c Q q => h σ H G c Q fun u x H' G' s rv p => q u x H' G' s rv (k x p)
theorem ed_var {i : Nat} {x : DV} (h : δ[i]? = some (some x)) (p : P x) : ED F X (tVar i) δ Xp P := fun σ H G c Q q =>
  let ⟨u, a, b⟩ := c.sl.at_ i x h
  ⟨u, a, q u x H G c.here b p⟩
theorem ed_int {i : Int} (p : P (DI i)) : ED F X (tC (.int i)) δ Xp P := fun _ H G c _ q => q _ _ H G c.here (.d (.int i)) p
theorem ed_bl {b : Bool} (p : P (DB b)) : ED F X (tC (.bl b)) δ Xp P := fun _ H G c _ q => q _ _ H G c.here (.d (.bl b)) p
theorem ed_non (p : P DN) : ED F X (tC .non) δ Xp P := fun _ H G c _ q => q _ _ H G c.here (.d .non) p
theorem ed_str {s : Str} (p : P (DS s)) : ED F X (tC (.str s)) δ Xp P := fun _ H G c _ q => q _ _ H G c.here (.d (.str s)) p
theorem ed_raw {w : V} (p : P (.v w)) : ED F X (tC w) δ Xp P := fun _ H G c _ q => q w (.v w) H G c.here (rfl : w = w) p
/-- a constant of the module that is data -/
theorem ed_con {w : V} {x : PyData} (hx : ∀ G, Dp F.K G w x) (p : P (.d x)) : ED F X (tC w) δ Xp P := fun _ H G c _ q => q _ _ H G c.here (.d (hx G)) p
theorem ed_op (h : ED F X ta δ Xp fun x => ED F X tb δ Xp fun y => D2 F r x y P) : ED F X (tOp r ta tb) δ Xp P := fun σ H G c Q q =>
  h σ H G c _ fun u x H1 G1 s1 r1 h1 => h1 σ H1 G1 (c.step s1) _ fun w y H2 G2 s2 r2 h2 => h2 u w H2 G2 s2.inv s2.gh (r1.step s2) r2 Q fun z d H3 G3 s3 r3 p => q z d H3 G3 ((s1.trans s2).trans s3) r3 p
theorem ed_un {r : V → Hp → VK → Prop} (h : ED F X ta δ Xp fun x => D1 F r x P) : ED F X (tUn r ta) δ Xp P := fun σ H G c Q q =>
  h σ H G c _ fun u x H1 G1 s1 r1 h1 => h1 u H1 G1 s1.inv s1.gh r1 Q fun z d H2 G2 s2 r2 p => q z d H2 G2 (s1.trans s2) r2 p
theorem ea_nil {P : List DV → Prop} (p : P []) : EA F X tNil δ Xp P := fun _ H G c _ q => q [] [] H G c.here trivial p
theorem ea_cons {tr : TA} {P : List DV → Prop} (h : ED F X ta δ Xp fun x => EA F X tr δ Xp fun xs => P (x :: xs)) : EA F X (tCons ta tr) δ Xp P := fun σ H G c Q q =>
  h σ H G c _ fun u x H1 G1 s1 r1 h1 => h1 σ H1 G1 (c.step s1) _ fun us xs H2 G2 s2 r2 p => q (u :: us) (x :: xs) H2 G2 (s1.trans s2) (show RVs F G2 H2 (u :: us) (x :: xs) from ⟨r1.step s2, r2⟩) p
theorem ed_cb {r : List V → Hp → VK → Prop} {ta : TA} (h : EA F X ta δ Xp fun xs => DC F r xs P) : ED F X (tCB r ta) δ Xp P := fun σ H G c Q q =>
  h σ H G c _ fun us xs H1 G1 s1 r1 h1 => h1 us H1 G1 s1.inv s1.gh r1 Q fun z d H2 G2 s2 r2 p => q z d H2 G2 (s1.trans s2) r2 p
theorem et_tst {Pb : Bool → Prop} (h : ED F X te δ Xp fun x => ∃ b, x = DB b ∧ Pb b) : ET F X (tTest te) δ Xp Pb := fun σ H G c Q q =>
  h σ H G c _ fun u x H1 G1 s1 r1 ⟨b, e, p⟩ => by
    subst e
    cases r1.dp
    exact ⟨b, rfl, q b H1 G1 s1 p⟩
theorem et_b {Pb : Bool → Prop} (h : ED F X te δ Xp fun x => ∃ b, x = DB b ∧ Pb b) : ET F X (tB te) δ Xp Pb := fun σ H G c Q q =>
  h σ H G c _ fun u x H1 G1 s1 r1 ⟨b, e, p⟩ => by
    subst e
    cases r1.dp
    exact ⟨b, rfl, q b H1 G1 s1 p⟩
theorem et_and {Pb : Bool → Prop} (h : ET F X t δ Xp fun a => if a = true then ET F X u δ Xp Pb else Pb false) : ET F X (tAnd t u) δ Xp Pb := fun σ H G c Q q =>
  h σ H G c _ fun a H1 G1 s1 h1 => by
    cases a with
    | true =>
      show u σ H1 Q
      exact (show ET F X u δ Xp Pb from h1) σ H1 G1 (c.step s1) Q fun b H2 G2 s2 p => q b H2 G2 (s1.trans s2) p
    | false => exact q false H1 G1 s1 h1
theorem et_or {Pb : Bool → Prop} (h : ET F X t δ Xp fun a => if a = true then Pb true else ET F X u δ Xp Pb) : ET F X (tOr t u) δ Xp Pb := fun σ H G c Q q =>
  h σ H G c _ fun a H1 G1 s1 h1 => by
    cases a with
    | true => exact q true H1 G1 s1 h1
    | false =>
      show u σ H1 Q
      exact (show ET F X u δ Xp Pb from h1) σ H1 G1 (c.step s1) Q fun b H2 G2 s2 p => q b H2 G2 (s1.trans s2) p
theorem et_not {Pb : Bool → Prop} (h : ET F X t δ Xp fun a => Pb (!a)) : ET F X (tNot t) δ Xp Pb := fun σ H G c Q q => h σ H G c _ fun a H1 G1 s1 p => q (!a) H1 G1 s1 p
theorem ed_andV (h : ED F X ta δ Xp fun x => ∃ a, x = DB a ∧ if a = true then ED F X tb δ Xp P else P (DB false)) : ED F X (tAndV ta tb) δ Xp P := fun σ H G c Q q =>
  h σ H G c _ fun u x H1 G1 s1 r1 ⟨a, e, h1⟩ => by
    subst e
    cases r1.dp
    refine ⟨a, rfl, ?_⟩
    cases a with
    | true =>
      show tb σ H1 Q
      exact (show ED F X tb δ Xp P from h1) σ H1 G1 (c.step s1) Q fun z d H2 G2 s2 r2 p => q z d H2 G2 (s1.trans s2) r2 p
    | false => exact q _ (DB false) H1 G1 s1 (.d (.bl false)) h1
theorem ed_orV (h : ED F X ta δ Xp fun x => ∃ a, x = DB a ∧ if a = true then P (DB true) else ED F X tb δ Xp P) : ED F X (tOrV ta tb) δ Xp P := fun σ H G c Q q =>
  h σ H G c _ fun u x H1 G1 s1 r1 ⟨a, e, h1⟩ => by
    subst e
    cases r1.dp
    refine ⟨a, rfl, ?_⟩
    cases a with
    | true => exact q _ (DB true) H1 G1 s1 (.d (.bl true)) h1
    | false =>
      show tb σ H1 Q
      exact (show ED F X tb δ Xp P from h1) σ H1 G1 (c.step s1) Q fun z d H2 G2 s2 r2 p => q z d H2 G2 (s1.trans s2) r2 p
theorem ed_notV (h : ED F X ta δ Xp fun x => ∃ a, x = DB a ∧ P (DB (!a))) : ED F X (tNotV ta) δ Xp P := fun σ H G c Q q =>
  h σ H G c _ fun u x H1 G1 s1 r1 ⟨a, e, h1⟩ => by
    subst e
    cases r1.dp
    exact ⟨a, rfl, q _ (DB (!a)) H1 G1 s1 (.d (.bl _)) h1⟩
theorem ed_if (h : ET F X t δ Xp fun b => if b = true then ED F X ta δ Xp P else ED F X tb δ Xp P) : ED F X (tIf t ta tb) δ Xp P := fun σ H G c Q q =>
  h σ H G c _ fun b H1 G1 s1 h1 => by
    cases b with
    | true =>
      show ta σ H1 Q
      exact (show ED F X ta δ Xp P from h1) σ H1 G1 (c.step s1) Q fun z d H2 G2 s2 r2 p => q z d H2 G2 (s1.trans s2) r2 p
    | false =>
      show tb σ H1 Q
      exact (show ED F X tb δ Xp P from h1) σ H1 G1 (c.step s1) Q fun z d H2 G2 s2 r2 p => q z d H2 G2 (s1.trans s2) r2 p
/-! ### new tuples and lists -/
/-- the values are data -/
def AllD : List DV → List PyData → Prop
  | [], [] => True
  | .d x :: xs, y :: ys => x = y ∧ AllD xs ys
  | _, _ => False
theorem AllD.dp : ∀ {us : List V} {xs : List DV} {ys : List PyData} {G H : Hp}, RVs F G H us xs → AllD xs ys → DpAll F.K G us ys
  | [], [], [], _, _, _, _ => .nil
  | _ :: _, .d _ :: _, _ :: _, _, _, h, a => by
    obtain ⟨rfl, a2⟩ := a
    exact .cons h.1.dp (AllD.dp h.2 a2)
  | [], [], _ :: _, _, _, _, a => a.elim
  | [], _ :: _, _, _, _, h, _ => h.elim
  | _ :: _, [], _, _, _, h, _ => h.elim
  | _ :: _, .v _ :: _, _, _, _, _, a => a.elim
  | _ :: _, .o _ :: _, _, _, _, _, a => a.elim
  | _ :: _, .x _ _ _ :: _, _, _, _, _, a => a.elim
  | _ :: _, .p _ _ :: _, _, _, _, _, a => a.elim
  | _ :: _, .d _ :: _, [], _, _, _, a => a.elim
theorem stp_new {G H : Hp} {p : Addr} {o : HO} (i : F.I H) (g : Ex G (Rs F.S H)) (h : H p = none) : Stp F G H (upd G p o) (upd H p o) := by
  have gp : G p = none := by
    cases e : G p with
    | none => rfl
    | some u =>
      have := Rs.sub p _ (g p u e)
      rw [h] at this
      cases this
  have sp : F.S p = false := by
    cases e : F.S p with
    | false => rfl
    | true => exact absurd h (F.al i (F.so e))
  refine ⟨Ex.new gp, fun b u e => ?_, fun b hb gb => ?_, Rs.mono (Ex.new h), F.stab i (Ex.new h)⟩
  · by_cases hb : b = p
    · subst hb
      rw [upd_same] at e
      cases e
      rw [rs_ne sp]
      exact upd_same
    · rw [upd_ne hb] at e
      exact Rs.mono (Ex.new h) b u (g b u e)
  · by_cases hbp : b = p
    · subst hbp
      exact absurd h hb
    · rw [upd_ne hbp]
      exact gb
theorem upd_dpa {K : PySem.W.Frag} {G : Hp} {p : Addr} {o : HO} {us : List V} {xs : List PyData} (gp : G p = none) (h : DpAll K G us xs) : DpAll K (upd G p o) us xs := dpa_mono (Ex.new gp) h
theorem g_free {G H : Hp} {p : Addr} (g : Ex G (Rs F.S H)) (h : H p = none) : G p = none := by
  cases e : G p with
  | none => rfl
  | some u =>
    have := Rs.sub p _ (g p u e)
    rw [h] at this
    cases this
theorem new_tup {G H : Hp} {p : Addr} {us : List V} {xs : List PyData} (g : Ex G (Rs F.S H)) (h : H p = none) (a : DpAll F.K G us xs) : RV F (upd G p (.tup us)) (upd H p (.tup us)) (.ref p) (.d (.tuple xs)) :=
  .d (.tup (Evl.st_of upd_same) (upd_dpa (g_free g h) a))
theorem new_lst {G H : Hp} {p : Addr} {us : List V} {xs : List PyData} (g : Ex G (Rs F.S H)) (h : H p = none) (a : DpAll F.K G us xs) : RV F (upd G p (.lst us)) (upd H p (.lst us)) (.ref p) (.d (.list xs)) :=
  .d (.lst (Evl.sq_of upd_same) (upd_dpa (g_free g h) a))
theorem ed_tup {ta : TA} (h : EA F X ta δ Xp fun xs => ∃ ys, AllD xs ys ∧ ys.length ≤ 100000 ∧ P (.d (.tuple ys))) : ED F X (tTup ta) δ Xp P := fun σ H G c Q q =>
  h σ H G c _ fun us xs H1 G1 s1 r1 ⟨ys, a, l, p⟩ =>
    have d := AllD.dp r1 a
    ⟨Evl.sz_of (by rw [dpa_len d]; exact l), fun z hz => q _ _ _ _ (s1.trans (stp_new s1.inv s1.gh hz)) (new_tup s1.gh hz d) p⟩
theorem ed_lst {ta : TA} (h : EA F X ta δ Xp fun xs => ∃ ys, AllD xs ys ∧ ys.length ≤ 100000 ∧ P (.d (.list ys))) : ED F X (tLst ta) δ Xp P := fun σ H G c Q q =>
  h σ H G c _ fun us xs H1 G1 s1 r1 ⟨ys, a, l, p⟩ =>
    have d := AllD.dp r1 a
    ⟨Evl.sz_of (by rw [dpa_len d]; exact l), fun z hz => q _ _ _ _ (s1.trans (stp_new s1.inv s1.gh hz)) (new_lst s1.gh hz d) p⟩

/-! ### promises by plain data -/
/-- what a def does with its arguments, told by plain data: n of them; T: from the data, what is wanted of an exception and of the value -/
abbrev TD := List DV → XP → (DV → Prop) → Prop
/-- not an own list -/
def Plain : DV → Prop
  | .o _ => False
  | _ => True
def Plains (xs : List DV) : Prop := ∀ x ∈ xs, Plain x
theorem plains_nil : Plains [] := fun _ h => by cases h
theorem plains_cons {x : DV} {xs : List DV} (h : Plain x) (t : Plains xs) : Plains (x :: xs) := fun y m => by
  rcases List.mem_cons.mp m with rfl | m
  · exact h
  · exact t y m
def spT (K : PySem.W.Frag) (n : Nat) (T : TD) : Sp := fun vs H Q E => ∃ G ds Xp P, Ex G H ∧ ds.length = n ∧ Plains ds ∧ RVs (F0 K H) G H vs ds ∧ T ds Xp P ∧ XS (F0 K H) E G H Xp ∧
  ∀ u x H' G', Stp (F0 K H) G H G' H' → RV (F0 K H) G' H' u x → P x → Q u H'
theorem spT_len {K : PySem.W.Frag} {n : Nat} {T : TD} {vs : List V} {H : Hp} {Q : VK} {E : XK} (h : spT K n T vs H Q E) : vs.length = n := by
  obtain ⟨G, ds, Xp, P, _, l, _, r, _⟩ := h
  rw [← l]
  exact RVs.len r
theorem rs0 {H : Hp} : Rs (fun _ => false) H = H := by
  funext b
  exact if_neg Bool.false_ne_true
theorem stp_of0 {G H G' H' : Hp} (i : F.I H) (s : Stp (F0 F.K H) G H G' H') (g : Ex G (Rs F.S H)) : Stp F G H G' H' := by
  have hh : Ex H H' := by
    have := s.hh
    show Ex H H'
    have e1 : Rs (F0 F.K H).S H = H := rs0
    have e2 : Rs (F0 F.K H).S H' = H' := rs0
    rw [e1, e2] at this
    exact this
  have gh : Ex G' H' := by
    have := s.gh
    have e2 : Rs (F0 F.K H).S H' = H' := rs0
    rw [e2] at this
    exact this
  refine ⟨s.gg, fun b o e => ?_, s.nw, Rs.mono hh, F.stab i hh⟩
  have hs : F.S b = false := by
    cases e2 : F.S b with
    | false => rfl
    | true =>
      have h1 : G b = none := by
        cases e3 : G b with
        | none => rfl
        | some u =>
          have := g b u e3
          unfold Rs at this
          rw [if_pos e2] at this
          cases this
      have := s.nw b (F.al i (F.so e2)) h1
      rw [this] at e
      cases e
  rw [rs_ne hs]
  exact gh b o e
theorem rv_plain {F' : Fm} {G H H1 : Hp} (k : F'.K = F.K) {u : V} {x : DV} (p : Plain x) (r : RV F G H u x) : RV F' G H1 u x := by
  cases x with
  | d x =>
    show Dp F'.K G u x
    rw [k]
    exact r
  | v w => exact r
  | o xs => exact p.elim
  | x a d fs =>
    show u = .ref a ∧ ∃ fv, G d = some (.xd fv) ∧ fv.map (·.1) = fs.map (·.1) ∧ DpAll F'.K G (fv.map (·.2)) (fs.map (·.2))
    rw [k]
    exact r
  | p R m =>
    show R F'.K G u
    rw [k]
    exact r
theorem rvs_plain {F' : Fm} {G H H1 : Hp} (k : F'.K = F.K) : ∀ {us : List V} {xs : List DV}, Plains xs → RVs F G H us xs → RVs F' G H1 us xs
  | [], [], _, _ => trivial
  | _ :: _, _ :: _, p, h => ⟨rv_plain k (p _ (List.mem_cons_self ..)) h.1, rvs_plain k (fun x m => p x (List.mem_cons_of_mem _ m)) h.2⟩
  | [], _ :: _, _, h => h.elim
  | _ :: _, [], _, h => h.elim
theorem RVs.append {G H : Hp} : ∀ {us ws : List V} {xs ys : List DV}, RVs F G H us xs → RVs F G H ws ys → RVs F G H (us ++ ws) (xs ++ ys)
  | [], _, [], _, _, s => s
  | _ :: _, _, _ :: _, _, h, s => ⟨h.1, RVs.append h.2 s⟩
  | [], _, _ :: _, _, h, _ => h.elim
  | _ :: _, _, [], _, h, _ => h.elim
/-- a call of a def that keeps spT: dvs, its defaults, stand for dds -/
theorem ed_callD {n : Nat} {T : TD} {dvs : List V} {dds : List DV} {E : XK} {ta : TA} (hd : ∀ F' : Fm, F'.K = F.K → ∀ G H, RVs F' G H dvs dds) (hp : Plains dds)
    (h : EA F X ta δ Xp fun xs => (xs ++ dds).length = n ∧ Plains xs ∧ T (xs ++ dds) X0 fun z => Plain z ∧ P z) : ED F X (tCall (spT F.K n T) dvs E ta) δ Xp P := fun σ H G c Q q =>
  h σ H G c _ fun us xs H1 G1 s1 r1 ⟨l, pl, t⟩ => by
    refine ⟨G1, xs ++ dds, X0, _, s1.gh.trans Rs.sub, l, ?_, (rvs_plain (F' := F0 F.K H1) (by rfl) pl r1).append (hd _ (by rfl) G1 H1), t, fun _ _ _ _ _ h => h.elim, fun u x H2 G2 s2 r2 p => ?_⟩
    · intro x m
      rcases List.mem_append.mp m with m | m
      · exact pl x m
      · exact hp x m
    · exact q u x H2 G2 (s1.trans (stp_of0 s1.inv s2 s1.gh)) (rv_plain (by rfl) p.1 r2) p.2
theorem ed_call {n : Nat} {T : TD} {E : XK} {ta : TA} (h : EA F X ta δ Xp fun xs => xs.length = n ∧ Plains xs ∧ T xs X0 fun z => Plain z ∧ P z) : ED F X (tCall (spT F.K n T) [] E ta) δ Xp P :=
  ed_callD (dds := []) (fun _ _ _ _ => trivial) plains_nil (by
    intro σ H G c Q q
    exact h σ H G c Q fun us xs H1 G1 s1 r1 ⟨l, pl, t⟩ => q us xs H1 G1 s1 r1 ⟨by rw [List.append_nil]; exact l, pl, by rw [List.append_nil]; exact t⟩)
/-- a call that may raise, E the wish of the very context -/
theorem ed_callX {n : Nat} {T : TD} {ta : TA} {XE : XK} (h : EA F (fun _ => XE) ta δ Xp fun xs => xs.length = n ∧ Plains xs ∧ T xs (fun C fs => Xp C fs ∧ Plains (fs.map (·.2))) fun z => Plain z ∧ P z) : ED F (fun _ => XE) (tCall (spT F.K n T) [] XE ta) δ Xp P := fun σ H G c Q q =>
  h σ H G c _ fun us xs H1 G1 s1 r1 ⟨l, pl, t⟩ => by
    rw [List.append_nil]
    have c1 := c.step s1
    refine ⟨G1, xs, _, _, s1.gh.trans Rs.sub, l, pl, rvs_plain (by rfl) pl r1, t, fun C fs G2 H2 s2 hx => ?_, fun u x H2 G2 s2 r2 p => ?_⟩
    · have z := c1.xs C fs G2 H2 (stp_of0 s1.inv s2 s1.gh) hx.1
      exact ⟨z.1, fun d fv e1 e2 e3 => z.2 d fv e1 e2 (rvs_plain (by rfl) hx.2 e3)⟩
    · exact q u x H2 G2 (s1.trans (stp_of0 s1.inv s2 s1.gh)) (rv_plain (by rfl) p.1 r2) p.2
/-- the same within a try -/
theorem ed_callS {n : Nat} {T : TD} {ta : TA} (h : EA F X ta δ Xp fun xs => xs.length = n ∧ Plains xs ∧ T xs (fun C fs => Xp C fs ∧ Plains (fs.map (·.2))) fun z => Plain z ∧ P z) : ED F X (tCallS (spT F.K n T) X ta) δ Xp P := fun σ H G c Q q =>
  h σ H G c _ fun us xs H1 G1 s1 r1 ⟨l, pl, t⟩ => by
    have c1 := c.step s1
    refine ⟨G1, xs, _, _, s1.gh.trans Rs.sub, l, pl, rvs_plain (by rfl) pl r1, t, fun C fs G2 H2 s2 hx => ?_, fun u x H2 G2 s2 r2 p => ?_⟩
    · have z := c1.xs C fs G2 H2 (stp_of0 s1.inv s2 s1.gh) hx.1
      exact ⟨z.1, fun d fv e1 e2 e3 => z.2 d fv e1 e2 (rvs_plain (by rfl) hx.2 e3)⟩
    · exact q u x H2 G2 (s1.trans (stp_of0 s1.inv s2 s1.gh)) (rv_plain (by rfl) p.1 r2) p.2
end
end DL

namespace L2
open PySem PySem.Spec PyProof.Rows
section
variable {X : Cx}
/-- list + list, whatever may be read as one -/
def rCatS (K : PySem.W.Frag) : R2 := fun x y H Q => ∃ l b xs zs, x = .ref l ∧ y = .ref b ∧ SqL K H l xs ∧ SqL K H b zs ∧ xs.length + zs.length ≤ sizeLine ∧ ∀ p, H p = none → Q (.ref p) (upd H p (.lst (xs ++ zs)))
theorem op_catS : OpR X (binaryOp .Add) (rCatS X.K) := by
  intro pins s σ H x y v u Q I rx ry h
  obtain ⟨l, b, xs, zs, rfl, rfl, hH, hB, hz, q⟩ := h
  cases rx
  cases ry
  obtain ⟨its, r, ⟨⟨cls, dd, data, sl⟩, n, ho, hc, _, hd⟩, z⟩ := I.list hH
  obtain ⟨its2, r2, ⟨⟨cls2, dd2, data2, sl2⟩, n2, ho2, hc2, _, hd2⟩, z2⟩ := I.list hB
  simp only at hc hd hc2 hd2
  subst hc hd hc2 hd2
  have l1 := r.length
  have l2 := r2.length
  have e : its.toArray ++ its2.toArray = (its ++ its2).toArray := by simp
  refine concat_meets ⟨_, ho, rfl⟩ ⟨_, ho2, rfl⟩ noFill_list_add seq_list_add PySem.F.slot_list_add PySem.F.entry_list_add (PySem.F.args_list_add_2 _ _) (list_addW l b its.toArray its2.toArray n n2 dd dd2 sl sl2 (by simp only [List.size_toArray]; omega)) ⟨ho, ho2, ?_⟩
  rw [e]
  exact ⟨.ref _, _, I.lnew (t' := s.toks) (r.append r2) (by rw [List.length_append]; omega), rfl, q _ I.fresh⟩
def rAddStr : R2 := fun x y H Q => ∃ i j, x = .str i ∧ y = .str j ∧ i.length + j.length ≤ sizeLine ∧ Q (.str (i ++ j)) H
def rAddU (K : PySem.W.Frag) : R2 := fun x y H Q => rI0 (fun i j => .int (i + j)) x y H Q ∨ rAddStr x y H Q ∨ rCatT K x y H Q ∨ rCatS K x y H Q
theorem op_addU : OpR X (binaryOp .Add) (rAddU X.K) := op_add.or (OpR.or op_add_str (op_catT.or op_catS))
def rSubU : R2 := rI0 fun i j => .int (i - j)
theorem op_subU : OpR X (binaryOp .Sub) rSubU := op_sub
def rMulU : R2 := fun x y H Q => rI CMulW (fun i j => .int (i * j)) x y H Q ∨ rI CMul (fun i j => .int (i * j)) x y H Q
theorem op_mulU : OpR X (binaryOp .Mult) rMulU := op_mulW.or op_mul
def rDivU : R2 := rI CDivW fun i j => .int (i / j)
theorem op_divU : OpR X (binaryOp .FloorDiv) rDivU := op_fdivW
def rModU : R2 := rI (fun _ j => 0 < j) fun i j => .int (i % j)
theorem op_modU : OpR X (binaryOp .Mod) rModU := op_mod
def rPowU : R2 := rI CPow fun i j => .int (i ^ j.toNat)
theorem op_powU : OpR X (binaryOp .Pow) rPowU := op_pow
def rLtU : R2 := rI0 fun i j => .bl (decide (i < j))
def rLeU : R2 := rI0 fun i j => .bl (decide (i ≤ j))
def rGtU : R2 := rI0 fun i j => .bl (decide (j < i))
def rGeU : R2 := rI0 fun i j => .bl (decide (j ≤ i))
def rIsU : R2 := fun x y H Q => (y = .non ∧ Q (.bl (decide (x = .non))) H) ∨ rIsB x y H Q
def rIsNU : R2 := fun x y H Q => (y = .non ∧ Q (.bl (!decide (x = .non))) H) ∨ rNotB x y H Q
theorem op_isU : OpR X (compareOp .Is) rIsU := OpR.or op_isN op_isBl
theorem op_isNU : OpR X (compareOp .IsNot) rIsNU := OpR.or op_notN op_notBl
def rNegU : V → Hp → VK → Prop := rU fun i => .int (-i)
def rIntU : List V → Hp → VK → Prop := fun xs H Q => (∃ i, xs = [.int i] ∧ Q (.int i) H) ∨ ∃ k, xs = [.bl k] ∧ Q (.int (if k then 1 else 0)) H
def rAbsU : List V → Hp → VK → Prop := fun xs H Q => ∃ i, xs = [.int i] ∧ Q (.int (if i < 0 then -i else i)) H
def rLenU (K : PySem.W.Frag) : List V → Hp → VK → Prop := fun xs H Q => ∃ x n, xs = [x] ∧ LenV K x H n ∧ Q (.int n) H
theorem call_lenU : CallR X (.builtin "len") (rLenU X.K) := call_len
theorem call_intU : CallR X (.type "int") rIntU := call_int1
theorem call_absU : CallR X (.builtin "abs") rAbsU := call_abs
def rStrU : List V → Hp → VK → Prop := fun xs H Q => ∃ i, xs = [.int i] ∧ i.natAbs.log2 < 1920 ∧ Q (.str (toString i)) H
theorem call_strU : CallR X (.type "str") rStrU := call_str_int
/-- what a for walks: a list or a tuple -/
def iSeq (K : PySem.W.Frag) (tl : TE) : TI := fun σ H R => tl σ H fun x H1 => ∃ a, x = .ref a ∧ (((∃ xs, SqL K H1 a xs) ∧ R (Itl K a) H1) ∨ ((∃ xs, SqT K H1 a xs) ∧ R (Itt K a) H1))
theorem pi_seq {tg l : Expr} {tl : TE} (hl : PE X l tl) : PI X tg l (iSeq X.K tl) := by
  refine ⟨fun pins s σ H R I h => ?_⟩
  refine thn (hl.run pins s σ H _ I h) fun v s1 ⟨x, H1, I1, r1, q1⟩ => ?_
  obtain ⟨a, e, q1⟩ := q1
  subst e
  cases r1
  rcases q1 with ⟨⟨xs, hq⟩, q⟩ | ⟨⟨xs, hq⟩, q⟩
  · obtain ⟨its, rv, p, hz⟩ := I1.list hq
    refine wpAny_pyIter_list p.isList ?_
    refine ⟨s1.heap.objs.size, [s1.heap.objs.size], _, _, H1, rfl, I1.kept (t' := s1.toks) fun b o e => Heap.get?_push_of_some _ e, turn_list a _, ⟨_, Heap.get?_push_size _ rfl, rfl, rfl⟩, fun b hb => ?_, q⟩
    have e : b = s1.heap.objs.size := by simpa using hb
    subst e
    exact I1.fpOk (Nat.le_refl _) (I1.hok.fresh (Nat.le_refl _))
  · obtain ⟨its, rv, p, hz⟩ := I1.tuple hq
    refine wpAny_pyIter_tuple (show s1.heap.IsTuple a its.toArray from p) ?_
    refine ⟨s1.heap.objs.size, [s1.heap.objs.size], _, _, H1, rfl, I1.kept (t' := s1.toks) fun b o e => Heap.get?_push_of_some _ e, turn_tuple a _, ⟨_, Heap.get?_push_size _ rfl, rfl, rfl⟩, fun b hb => ?_, q⟩
    have e : b = s1.heap.objs.size := by simpa using hb
    subst e
    exact I1.fpOk (Nat.le_refl _) (I1.hok.fresh (Nat.le_refl _))
end
end L2

namespace DL
open PySem L2
open Evl (Ex Ex.refl Ex.trans Ex.new)
section
variable {F : Fm} {P : DV → Prop} {i j : Int} {a b : Bool} {s t : Str} {xs ys : List PyData} {x y : PyData} {r r' : R2}
/-- an operation that leaves the heap and gives plain data -/
theorem d2_int {g : Int → Int → V} {c : PyData} (hc : ∀ G, Dp F.K G (g i j) c) (p : P (.d c)) : D2 F (rI0 g) (DI i) (DI j) P := fun u w H G iv g' r1 r2 Q q => by
  cases r1.dp
  cases r2.dp
  exact ⟨i, j, rfl, rfl, q _ _ H G (Stp.refl iv g') (.d (hc G)) p⟩
theorem d2_intC {C : Int → Int → Prop} {g : Int → Int → V} {c : PyData} (hC : C i j) (hc : ∀ G, Dp F.K G (g i j) c) (p : P (.d c)) : D2 F (rI C g) (DI i) (DI j) P := fun u w H G iv g' r1 r2 Q q => by
  cases r1.dp
  cases r2.dp
  exact ⟨i, j, rfl, rfl, hC, q _ _ H G (Stp.refl iv g') (.d (hc G)) p⟩
theorem D2.left {x y : DV} (h : D2 F r x y P) : D2 F (fun x y H Q => r x y H Q ∨ r' x y H Q) x y P := fun u w H G iv g r1 r2 Q q => .inl (h u w H G iv g r1 r2 Q q)
theorem D2.right {x y : DV} (h : D2 F r' x y P) : D2 F (fun x y H Q => r x y H Q ∨ r' x y H Q) x y P := fun u w H G iv g r1 r2 Q q => .inr (h u w H G iv g r1 r2 Q q)
theorem d2_add (p : P (DI (i + j))) : D2 F (rAddU F.K) (DI i) (DI j) P := D2.left (d2_int (fun _ => .int _) p)
theorem d2_addS (hl : s.length + t.length ≤ 100000) (p : P (DS (s ++ t))) : D2 F (rAddU F.K) (DS s) (DS t) P := D2.right (D2.left fun u w H G iv g' r1 r2 Q q => by
  cases r1.dp
  cases r2.dp
  exact ⟨s, t, rfl, rfl, Evl.sz_of hl, q _ _ H G (Stp.refl iv g') (.d (.str _)) p⟩)
theorem sqL_of {G H : Hp} (g : Ex G (Rs F.S H)) {p : Addr} {us : List V} (h : SqL F.K G p us) : SqL F.K H p us := Evl.ex_l (g.trans Rs.sub) h
theorem sqT_of {G H : Hp} (g : Ex G (Rs F.S H)) {p : Addr} {us : List V} (h : SqT F.K G p us) : SqT F.K H p us := Evl.ex_t (g.trans Rs.sub) h
/-- a list, to be read -/
theorem lst_of {G H : Hp} (g : Ex G (Rs F.S H)) {u : V} (h : Dp F.K G u (.list xs)) : ∃ p us, u = .ref p ∧ SqL F.K H p us ∧ DpAll F.K G us xs := by
  cases h with
  | lst hs ha => exact ⟨_, _, rfl, sqL_of g hs, ha⟩
theorem tup_of {G H : Hp} (g : Ex G (Rs F.S H)) {u : V} (h : Dp F.K G u (.tuple xs)) : ∃ p us, u = .ref p ∧ SqT F.K H p us ∧ DpAll F.K G us xs := by
  cases h with
  | tup hs ha => exact ⟨_, _, rfl, sqT_of g hs, ha⟩
theorem own_of {G H : Hp} {u : V} (h : RV F G H u (.o xs)) : ∃ p us, u = .ref p ∧ H p = some (.lst us) ∧ DpAll F.K G us xs := by
  obtain ⟨p, us, e, hp, _, _, a⟩ := h
  exact ⟨p, us, e, hp, a⟩
theorem d2_addL (hl : xs.length + ys.length ≤ 100000) (p : P (.d (.list (xs ++ ys)))) : D2 F (rAddU F.K) (.d (.list xs)) (.d (.list ys)) P := D2.right (D2.right (D2.right fun u w H G iv g r1 r2 Q q => by
  obtain ⟨l, us, rfl, h1, a1⟩ := lst_of g r1.dp
  obtain ⟨b, ws, rfl, h2, a2⟩ := lst_of g r2.dp
  have e1 := dpa_len a1
  have e2 := dpa_len a2
  exact ⟨l, b, us, ws, rfl, rfl, h1, h2, Evl.sz_of (by omega), fun z hz => q _ _ _ _ (stp_new iv g hz) (new_lst g hz (dpa_append a1 a2)) p⟩))
theorem d2_addT (hx : xs ≠ []) (hy : ys ≠ []) (hl : xs.length + ys.length ≤ 100000) (p : P (.d (.tuple (xs ++ ys)))) : D2 F (rAddU F.K) (.d (.tuple xs)) (.d (.tuple ys)) P := D2.right (D2.right (D2.left fun u w H G iv g r1 r2 Q q => by
  obtain ⟨l, us, rfl, h1, a1⟩ := tup_of g r1.dp
  obtain ⟨b, ws, rfl, h2, a2⟩ := tup_of g r2.dp
  have e1 := dpa_len a1
  have e2 := dpa_len a2
  refine ⟨l, b, us, ws, rfl, rfl, h1, h2, fun z => ?_, Evl.sz_of (by omega), fun z => ?_, fun _ z hz => q _ _ _ _ (stp_new iv g hz) (new_tup g hz (dpa_append a1 a2)) p⟩
  · subst z
    exact hx (List.eq_nil_of_length_eq_zero e1.symm)
  · subst z
    exact absurd (List.eq_nil_of_length_eq_zero e2.symm) hy))
theorem d2_sub (p : P (DI (i - j))) : D2 F rSubU (DI i) (DI j) P := d2_int (fun _ => .int _) p
theorem d2_mul (h : CMulW i j) (p : P (DI (i * j))) : D2 F rMulU (DI i) (DI j) P := D2.left (d2_intC h (fun _ => .int _) p)
theorem d2_mulS (h : CMul i j) (p : P (DI (i * j))) : D2 F rMulU (DI i) (DI j) P := D2.right (d2_intC h (fun _ => .int _) p)
theorem d2_div (h : CDivW i j) (p : P (DI (i / j))) : D2 F rDivU (DI i) (DI j) P := d2_intC h (fun _ => .int _) p
theorem d2_mod (h : 0 < j) (p : P (DI (i % j))) : D2 F rModU (DI i) (DI j) P := d2_intC h (fun _ => .int _) p
theorem d2_pow (h : CPow i j) (p : P (DI (i ^ j.toNat))) : D2 F rPowU (DI i) (DI j) P := d2_intC h (fun _ => .int _) p
theorem d2_lt (p : P (DB (decide (i < j)))) : D2 F rLtU (DI i) (DI j) P := d2_int (fun _ => .bl _) p
theorem d2_le (p : P (DB (decide (i ≤ j)))) : D2 F rLeU (DI i) (DI j) P := d2_int (fun _ => .bl _) p
theorem d2_gt (p : P (DB (decide (j < i)))) : D2 F rGtU (DI i) (DI j) P := d2_int (fun _ => .bl _) p
theorem d2_ge (p : P (DB (decide (j ≤ i)))) : D2 F rGeU (DI i) (DI j) P := d2_int (fun _ => .bl _) p
def isNone : PyData → Bool
  | .none => true
  | _ => false
theorem isNone_v {G : Hp} {u : V} (h : Dp F.K G u x) : decide (u = .non) = isNone x := by
  cases h <;> rfl
theorem d2_isN (p : P (DB (isNone x))) : D2 F rIsU (.d x) DN P := fun u w H G iv g r1 r2 Q q => by
  cases r2.dp
  refine .inl ⟨rfl, ?_⟩
  rw [isNone_v r1.dp]
  exact q _ _ H G (Stp.refl iv g) (.d (.bl _)) p
theorem d2_isNN (p : P (DB (!isNone x))) : D2 F rIsNU (.d x) DN P := fun u w H G iv g r1 r2 Q q => by
  cases r2.dp
  refine .inl ⟨rfl, ?_⟩
  rw [isNone_v r1.dp]
  exact q _ _ H G (Stp.refl iv g) (.d (.bl _)) p
theorem d2_isB (p : P (DB (decide (a = b)))) : D2 F rIsU (DB a) (DB b) P := fun u w H G iv g r1 r2 Q q => by
  cases r1.dp
  cases r2.dp
  exact .inr ⟨a, b, rfl, rfl, q _ _ H G (Stp.refl iv g) (.d (.bl _)) p⟩
theorem d2_isNB (p : P (DB (!decide (a = b)))) : D2 F rIsNU (DB a) (DB b) P := fun u w H G iv g r1 r2 Q q => by
  cases r1.dp
  cases r2.dp
  exact .inr ⟨a, b, rfl, rfl, q _ _ H G (Stp.refl iv g) (.d (.bl _)) p⟩
theorem dp_heap {G H : Hp} (g : Ex G (Rs F.S H)) {u : V} (h : Dp F.K G u x) : Dp F.K H u x := dp_mono (g.trans Rs.sub) h
/-- what == sees of a value -/
def seen : DV → Option PyData
  | .d x => some x
  | .o xs => some (.list xs)
  | .v _ => none
  | .x _ _ _ => none
  | .p _ _ => none
theorem seen_dp {G H : Hp} (g : Ex G (Rs F.S H)) {u : V} {c : DV} (h : RV F G H u c) (e : seen c = some x) : Dp F.K H u x := by
  cases c with
  | d y =>
    cases e
    exact dp_heap g h.dp
  | v w => cases e
  | x _ _ _ => cases e
  | p _ _ => cases e
  | o zs =>
    cases e
    obtain ⟨p, us, rfl, hp, a⟩ := own_of h
    exact .lst (Evl.sq_of hp) (dpa_mono (g.trans Rs.sub) a)
theorem d2_eq {c e : DV} (hc : seen c = some x) (he : seen e = some y) (hx : SeqAt.shaped x = true) (hy : SeqAt.shaped y = true) (p : P (DB (PyData.eqv x y))) : D2 F (rEqD F.K) c e P := fun u w H G iv g r1 r2 Q q =>
  ⟨x, y, seen_dp g r1 hc, seen_dp g r2 he, hx, hy, q _ _ H G (Stp.refl iv g) (.d (.bl _)) p⟩
theorem d2_ne {c e : DV} (hc : seen c = some x) (he : seen e = some y) (hx : SeqAt.shaped x = true) (hy : SeqAt.shaped y = true) (p : P (DB (!PyData.eqv x y))) : D2 F (rNeD F.K) c e P := fun u w H G iv g r1 r2 Q q =>
  ⟨x, y, seen_dp g r1 hc, seen_dp g r2 he, hx, hy, q _ _ H G (Stp.refl iv g) (.d (.bl _)) p⟩
theorem atI_dp {G : Hp} {us : List V} (a : DpAll F.K G us xs) (h : atI xs i = some x) : ∃ u, atI us i = some u ∧ Dp F.K G u x := by
  unfold atI at h ⊢
  rw [dpa_len a]
  cases e : ixN xs.length i with
  | none => rw [e] at h; cases h
  | some k =>
    rw [e] at h
    exact dpa_get a h
theorem d2_ixL (h : atI xs i = some x) (p : P (.d x)) : D2 F (rIx F.K) (.d (.list xs)) (DI i) P := fun u w H G iv g r1 r2 Q q => by
  cases r2.dp
  obtain ⟨l, us, rfl, h1, a1⟩ := lst_of g r1.dp
  obtain ⟨z, hz, dz⟩ := atI_dp a1 h
  exact .inl ⟨l, us, i, z, rfl, rfl, h1, hz, q _ _ H G (Stp.refl iv g) (.d dz) p⟩
theorem d2_ixO (h : atI xs i = some x) (p : P (.d x)) : D2 F (rIx F.K) (.o xs) (DI i) P := fun u w H G iv g r1 r2 Q q => by
  cases r2.dp
  obtain ⟨l, us, rfl, h1, a1⟩ := own_of r1
  obtain ⟨z, hz, dz⟩ := atI_dp a1 h
  exact .inl ⟨l, us, i, z, rfl, rfl, Evl.sq_of h1, hz, q _ _ H G (Stp.refl iv g) (.d dz) p⟩
theorem d2_ixT (h : atI xs i = some x) (p : P (.d x)) : D2 F (rIx F.K) (.d (.tuple xs)) (DI i) P := fun u w H G iv g r1 r2 Q q => by
  cases r2.dp
  obtain ⟨l, us, rfl, h1, a1⟩ := tup_of g r1.dp
  obtain ⟨z, hz, dz⟩ := atI_dp a1 h
  exact .inr (.inl ⟨l, us, i, z, rfl, rfl, h1, hz, q _ _ H G (Stp.refl iv g) (.d dz) p⟩)
theorem d2_ixS {c : Nat} (hl : s.length ≤ 100000) (h : atI s.cps.toList i = some c) (p : P (DS ⟨#[c]⟩)) : D2 F (rIx F.K) (DS s) (DI i) P := fun u w H G iv g r1 r2 Q q => by
  cases r2.dp
  cases r1.dp
  exact .inr (.inr ⟨s, i, c, rfl, rfl, Evl.sz_of hl, h, q _ _ H G (Stp.refl iv g) (.d (.str _)) p⟩)
theorem d1_neg (p : P (DI (-i))) : D1 F rNegU (DI i) P := fun u H G iv g r1 Q q => by
  cases r1.dp
  exact ⟨i, rfl, q _ _ H G (Stp.refl iv g) (.d (.int _)) p⟩

/-! ### calls of built-ins -/
theorem rv_one {G H : Hp} {us : List V} {c : DV} (h : RVs F G H us [c]) : ∃ u, us = [u] ∧ RV F G H u c := by
  match us, h with
  | [u], h => exact ⟨u, rfl, h.1⟩
  | [], h => exact h.elim
  | _ :: _ :: _, h => exact h.2.elim
theorem rv_two {G H : Hp} {us : List V} {c e : DV} (h : RVs F G H us [c, e]) : ∃ u w, us = [u, w] ∧ RV F G H u c ∧ RV F G H w e := by
  match us, h with
  | [u, w], h => exact ⟨u, w, rfl, h.1, h.2.1⟩
  | [], h => exact h.elim
  | [_], h => exact h.2.elim
  | _ :: _ :: _ :: _, h => exact h.2.2.elim
theorem dc_int (p : P (DI i)) : DC F rIntU [DI i] P := fun us H G iv g r Q q => by
  obtain ⟨u, rfl, r1⟩ := rv_one r
  cases r1.dp
  exact .inl ⟨i, rfl, q _ _ H G (Stp.refl iv g) (.d (.int _)) p⟩
theorem dc_intB (p : P (DI (if a then 1 else 0))) : DC F rIntU [DB a] P := fun us H G iv g r Q q => by
  obtain ⟨u, rfl, r1⟩ := rv_one r
  cases r1.dp
  exact .inr ⟨a, rfl, q _ _ H G (Stp.refl iv g) (.d (.int _)) p⟩
theorem dc_abs (p : P (DI (if i < 0 then -i else i))) : DC F rAbsU [DI i] P := fun us H G iv g r Q q => by
  obtain ⟨u, rfl, r1⟩ := rv_one r
  cases r1.dp
  exact ⟨i, rfl, q _ _ H G (Stp.refl iv g) (.d (.int _)) p⟩
theorem dc_strI (h : i.natAbs.log2 < 1920) (p : P (DS (toString i))) : DC F rStrU [DI i] P := fun us H G iv g r Q q => by
  obtain ⟨u, rfl, r1⟩ := rv_one r
  cases r1.dp
  exact ⟨i, rfl, h, q _ _ H G (Stp.refl iv g) (.d (.str _)) p⟩
theorem dc_gcd (p : P (DI ((Nat.gcd i.natAbs j.natAbs : Nat) : Int))) : DC F rGcd [DI i, DI j] P := fun us H G iv g r Q q => by
  obtain ⟨u, w, rfl, r1, r2⟩ := rv_two r
  cases r1.dp
  cases r2.dp
  exact ⟨i, j, rfl, q _ _ H G (Stp.refl iv g) (.d (.int _)) p⟩
theorem dc_lenL (p : P (DI (xs.length : Int))) : DC F (rLenU F.K) [.d (.list xs)] P := fun us H G iv g r Q q => by
  obtain ⟨u, rfl, r1⟩ := rv_one r
  obtain ⟨l, us, rfl, h1, a1⟩ := lst_of g r1.dp
  exact ⟨_, xs.length, rfl, .inl ⟨us, h1, (dpa_len a1).symm⟩, q _ _ H G (Stp.refl iv g) (.d (.int _)) p⟩
theorem dc_lenO (p : P (DI (xs.length : Int))) : DC F (rLenU F.K) [.o xs] P := fun us H G iv g r Q q => by
  obtain ⟨u, rfl, r1⟩ := rv_one r
  obtain ⟨l, us, rfl, h1, a1⟩ := own_of r1
  exact ⟨_, xs.length, rfl, .inl ⟨us, Evl.sq_of h1, (dpa_len a1).symm⟩, q _ _ H G (Stp.refl iv g) (.d (.int _)) p⟩
theorem dc_lenT (p : P (DI (xs.length : Int))) : DC F (rLenU F.K) [.d (.tuple xs)] P := fun us H G iv g r Q q => by
  obtain ⟨u, rfl, r1⟩ := rv_one r
  obtain ⟨l, us, rfl, h1, a1⟩ := tup_of g r1.dp
  exact ⟨_, xs.length, rfl, .inr ⟨us, h1, (dpa_len a1).symm⟩, q _ _ H G (Stp.refl iv g) (.d (.int _)) p⟩
theorem dc_lenS (h : s.length ≤ 100000) (p : P (DI (s.length : Int))) : DC F (rLenU F.K) [DS s] P := fun us H G iv g r Q q => by
  obtain ⟨u, rfl, r1⟩ := rv_one r
  cases r1.dp
  exact ⟨_, s.length, rfl, ⟨Evl.sz_of h, rfl⟩, q _ _ H G (Stp.refl iv g) (.d (.int _)) p⟩
/-- the name of a datum's class -/
def tyName : PyData → String
  | .none => "NoneType"
  | .bool _ => "bool"
  | .int _ => "int"
  | .str _ => "str"
  | .list _ => "list"
  | .tuple _ => "tuple"
  | .dict _ => "dict"
theorem tyX_of {H : Hp} {u : V} : ∀ {x : PyData}, Dp F.K H u x → TyX F.K H u (.type (tyName x)) := fun {x} h => by
  cases h with
  | non => exact .base .non
  | bl b => exact .base (.bl b)
  | int i => exact .base (.int i)
  | str x => exact .base (.str x)
  | lst hs ha =>
    rcases hs with (h | ⟨o, h⟩) | ⟨o, its, n, hk, hc, _⟩
    · exact .base (.lst h)
    · exact .base (.frz h)
    · exact .kList hk hc
  | tup hs ha =>
    rcases hs with (h | ⟨o, h⟩) | ⟨o, its, n, hk, hc, _⟩
    · exact .base (.tup h)
    · exact .fTuple h
    · exact .kTuple hk hc
theorem dc_isi {n : String} {r : Bool} (h : kitB (tyName x) n = some r) (p : P (DB r)) : DC F (rIsi F.K) [.d x, .v (.ty n)] P := fun us H G iv g rv Q q => by
  obtain ⟨u, w, rfl, r1, r2⟩ := rv_two rv
  cases (show w = .ty n from r2)
  exact ⟨u, .ty n, _, _, r, rfl, .ty n, tyX_of (dp_heap g r1.dp), kit_ty h, q _ _ H G (Stp.refl iv g) (.d (.bl _)) p⟩
/-- all(a list of bools), any -/
theorem bls_of {G : Hp} : ∀ {us : List V} {bs : List Bool}, DpAll F.K G us (bs.map PyData.bool) → us = bs.map V.bl
  | [], [], _ => rfl
  | _, _ :: _, .cons h t => by
    cases h
    rw [bls_of t] <;> rfl
theorem dc_all {bs : List Bool} (p : P (DB (bs.all id))) : DC F (rAll F.K) [.d (.list (bs.map PyData.bool))] P := fun us H G iv g r Q q => by
  obtain ⟨u, rfl, r1⟩ := rv_one r
  obtain ⟨l, us, rfl, h1, a1⟩ := lst_of g r1.dp
  have e := bls_of a1
  subst e
  exact ⟨l, bs, rfl, h1, q _ _ H G (Stp.refl iv g) (.d (.bl _)) p⟩
theorem dc_any {bs : List Bool} (p : P (DB (bs.any id))) : DC F (rAny F.K) [.d (.list (bs.map PyData.bool))] P := fun us H G iv g r Q q => by
  obtain ⟨u, rfl, r1⟩ := rv_one r
  obtain ⟨l, us, rfl, h1, a1⟩ := lst_of g r1.dp
  have e := bls_of a1
  subst e
  exact ⟨l, bs, rfl, h1, q _ _ H G (Stp.refl iv g) (.d (.bl _)) p⟩
end

/-! ### f-strings -/
section
variable {F : Fm} {X : XW} {δ : DSt} {Xp : XP} {P : DV → Prop} {te : TE}
theorem ed_fmtI (h : ED F X te δ Xp fun x => ∃ i, x = DI i ∧ i.natAbs.log2 < 1920 ∧ P (DS (toString i))) : ED F X (tFmt te) δ Xp P := fun σ H G c Q q =>
  h σ H G c _ fun u x H1 G1 s1 r1 ⟨i, e, hb, p⟩ => by
    subst e
    cases r1.dp
    exact .inr ⟨i, rfl, hb, q _ _ H1 G1 s1 (.d (.str _)) p⟩
theorem ed_fmtS (h : ED F X te δ Xp fun x => ∃ s : Str, x = DS s ∧ s.length ≤ 100000 ∧ P (DS s)) : ED F X (tFmt te) δ Xp P := fun σ H G c Q q =>
  h σ H G c _ fun u x H1 G1 s1 r1 ⟨i, e, hb, p⟩ => by
    subst e
    cases r1.dp
    exact .inl ⟨i, rfl, Evl.sz_of hb, q _ _ H1 G1 s1 (.d (.str _)) p⟩
def EJ (F : Fm) (X : XW) (ts : List TE) (δ : DSt) (Xp : XP) (acc : Str) (P : Str → Prop) : Prop := ∀ σ H G, Cur F X G H σ δ Xp → ∀ Q : Str → Hp → Prop, (∀ s H' G', Stp F G H G' H' → P s → Q s H') → tJs ts acc σ H Q
theorem ej_nil {acc : Str} {P : Str → Prop} (p : P acc) : EJ F X [] δ Xp acc P := fun _ H G c _ q => q acc H G c.here p
theorem ej_cons {ts : List TE} {acc : Str} {P : Str → Prop} (h : ED F X te δ Xp fun x => ∃ y : Str, x = DS y ∧ (acc ++ y).length ≤ 100000 ∧ EJ F X ts δ Xp (acc ++ y) P) : EJ F X (te :: ts) δ Xp acc P := fun σ H G c Q q =>
  h σ H G c _ fun u x H1 G1 s1 r1 ⟨y, e, l, h1⟩ => by
    subst e
    cases r1.dp
    exact ⟨y, rfl, Evl.sz_of l, h1 σ H1 G1 (c.step s1) Q fun s H2 G2 s2 p => q s H2 G2 (s1.trans s2) p⟩
def tJoined (ts : List TE) : TE := fun σ H Q => tJs ts Str.empty σ H fun out H1 => Q (.str out) H1
theorem ed_joined {ts : List TE} (h : EJ F X ts δ Xp Str.empty fun s => P (DS s)) : ED F X (tJoined ts) δ Xp P := fun σ H G c Q q =>
  h σ H G c _ fun s H1 G1 s1 p => q _ _ H1 G1 s1 (.d (.str s)) p
end
end DL

namespace DL
open PySem L2
open Evl (Ex Ex.refl Ex.trans Ex.new)

/-- what is wanted behind a statement, told by plain data -/
structure DE where
  nx : DSt → Prop
  rt : DV → Prop
  bk : DSt → Prop := fun _ => False
  ct : DSt → Prop := fun _ => False
/-- the entry, and what has stayed since some turn -/
structure Bs where
  G : Hp
  H : Hp
  M : Hp
/-- reached from the entry -/
structure Rch (F : Fm) (B : Bs) (G H : Hp) : Prop where
  st : Stp F B.G B.H G H
  gm : Ex B.M G
theorem Rch.go {F : Fm} {B : Bs} {G H G' H' : Hp} (r : Rch F B G H) (s : Stp F G H G' H') : Rch F B G' H' := ⟨r.st.trans s, r.gm.trans s.gg⟩
structure Sat (F : Fm) (B : Bs) (E : DE) (D : Ends) : Prop where
  nx : ∀ σ' δ' H' G', Rch F B G' H' → SL F G' H' σ' δ' → E.nx δ' → D.nx σ' H'
  rt : ∀ u x H' G', Rch F B G' H' → RV F G' H' u x → E.rt x → D.rt u H'
  bk : ∀ σ' δ' H' G', Rch F B G' H' → SL F G' H' σ' δ' → E.bk δ' → D.bk σ' H'
  ct : ∀ σ' δ' H' G', Rch F B G' H' → SL F G' H' σ' δ' → E.ct δ' → D.ct σ' H'
/-- from the entry to here -/
structure Way (F : Fm) (X : XK) (B : Bs) (G H : Hp) (σ : L2.St) (δ : DSt) (Xp : XP) : Prop where
  old : ∀ b, B.H b ≠ none → F.old b
  st : Rch F B G H
  sl : SL F G H σ δ
  xs : XS F X B.G B.H Xp
theorem Way.cur {F : Fm} {X : XK} {B : Bs} {G H : Hp} {σ : L2.St} {δ : DSt} {Xp : XP} (w : Way F X B G H σ δ Xp) : Cur F (fun _ => X) G H σ δ Xp :=
  ⟨w.st.st.inv, w.st.st.gh, w.sl, fun C fs G2 H2 s2 h => w.xs C fs G2 H2 (w.st.st.trans s2) h⟩
theorem Way.go {F : Fm} {X : XK} {B : Bs} {G H G' H' : Hp} {σ σ' : L2.St} {δ δ' : DSt} {Xp : XP} (w : Way F X B G H σ δ Xp) (s : Stp F G H G' H') (l : SL F G' H' σ' δ') : Way F X B G' H' σ' δ' Xp :=
  ⟨w.old, w.st.go s, l, w.xs⟩
/-- jump: a state that the entry leads to -/
theorem Way.to {F : Fm} {X : XK} {B : Bs} {G H G' H' : Hp} {σ σ' : L2.St} {δ δ' : DSt} {Xp : XP} (w : Way F X B G H σ δ Xp) (s : Rch F B G' H') (l : SL F G' H' σ' δ') : Way F X B G' H' σ' δ' Xp :=
  ⟨w.old, s, l, w.xs⟩
def WS (F : Fm) (X : XK) (t : TS) (δ : DSt) (Xp : XP) (E : DE) : Prop := ∀ B σ H G D, Way F X B G H σ δ Xp → Sat F B E D → t D σ H

section
variable {F : Fm} {X : XK} {δ : DSt} {Xp : XP} {E : DE} {te ta tb : TE} {t u : TS} {tt : TT}
theorem ws_seq (h : WS F X t δ Xp { E with nx := fun δ' => WS F X u δ' Xp E }) : WS F X (tSeq t u) δ Xp E := fun B σ H G D w s =>
  h B σ H G _ w ⟨fun σ' δ' H' G' st sl k => k B σ' H' G' D (w.to st sl) s, s.rt, s.bk, s.ct⟩
theorem ws_next (p : E.nx δ) : WS F X tNext δ Xp E := fun B σ H G D w s => s.nx σ δ H G w.st w.sl p
theorem ws_brk (p : E.bk δ) : WS F X tBreak δ Xp E := fun B σ H G D w s => s.bk σ δ H G w.st w.sl p
theorem ws_cont (p : E.ct δ) : WS F X tCont δ Xp E := fun B σ H G D w s => s.ct σ δ H G w.st w.sl p
theorem ws_ret (h : ED F (fun _ => X) te δ Xp E.rt) : WS F X (tRet te) δ Xp E := fun B σ H G D w s => h σ H G w.cur _ fun u x H1 G1 s1 r1 p => s.rt u x H1 G1 (w.st.go s1) r1 p
theorem ws_retN (p : E.rt DN) : WS F X tRetN δ Xp E := fun B σ H G D w s => s.rt .non DN H G w.st (.d .non) p
theorem ws_drop (h : ED F (fun _ => X) te δ Xp fun _ => E.nx δ) : WS F X (tDrop te) δ Xp E := fun B σ H G D w s => h σ H G w.cur _ fun u x H1 G1 s1 r1 p => s.nx σ δ H1 G1 (w.st.go s1) (w.sl.step s1) p
theorem sl_set {G H : Hp} {σ : L2.St} {i : Nat} {u : V} {x : DV} (l : SL F G H σ δ) (p : Plain x) (r : RV F G H u x) : SL F G H (σ.set i (some u)) (δ.set i (some x)) := by
  refine ⟨by rw [List.length_set, List.length_set]; exact l.len, fun k y e => ?_, fun a b xs ys hab ha hb => ?_⟩
  · by_cases hk : i = k
    · subst hk
      by_cases hi : i < δ.length
      · rw [List.getElem?_set_self hi] at e
        cases e
        exact ⟨u, List.getElem?_set_self (by rw [l.len]; exact hi), r⟩
      · rw [List.getElem?_eq_none (by rw [List.length_set]; omega)] at e
        cases e
    · rw [List.getElem?_set_ne hk] at e ⊢
      exact l.at_ k y e
  · have na : i ≠ a := fun z => by
      subst z
      by_cases hi : i < δ.length
      · rw [List.getElem?_set_self hi] at ha
        cases ha
        exact p.elim
      · rw [List.getElem?_eq_none (by rw [List.length_set]; omega)] at ha
        cases ha
    have nb : i ≠ b := fun z => by
      subst z
      by_cases hi : i < δ.length
      · rw [List.getElem?_set_self hi] at hb
        cases hb
        exact p.elim
      · rw [List.getElem?_eq_none (by rw [List.length_set]; omega)] at hb
        cases hb
    rw [List.getElem?_set_ne na] at ha
    rw [List.getElem?_set_ne nb] at hb
    rw [List.getElem?_set_ne na, List.getElem?_set_ne nb]
    exact l.own a b xs ys hab ha hb
theorem ws_asg {i : Nat} (h : ED F (fun _ => X) te δ Xp fun x => Plain x ∧ E.nx (δ.set i (some x))) : WS F X (tAsg te (gName i)) δ Xp E := fun B σ H G D w s =>
  h σ H G w.cur _ fun u x H1 G1 s1 r1 p => s.nx _ _ H1 G1 (w.st.go s1) (sl_set (w.sl.step s1) p.1 r1) p.2
/-- a, b = (..), the tuple's items to two slots -/
theorem rv_item {G : Hp} {us : List V} {xs : List PyData} {n : Nat} (a : DpAll F.K G us xs) (h : xs.length = n) : us.length = n := (dpa_len a).trans h
theorem ws_asgT2 {i j : Nat} {n : Nat} (hn : n = 2) (h : ED F (fun _ => X) te δ Xp fun c => ∃ x y, c = .d (.tuple [x, y]) ∧ E.nx ((δ.set i (some (.d x))).set j (some (.d y)))) : WS F X (tAsg te (gTup F.K n (gCons (gName i) (gCons (gName j) gNil)))) δ Xp E := fun B σ H G D w s =>
  h σ H G w.cur _ fun u c H1 G1 s1 r1 ⟨x, y, e, p⟩ => by
    subst e hn
    obtain ⟨l, us, rfl, h1, a1⟩ := tup_of s1.gh r1.dp
    cases a1 with
    | cons d1 t1 =>
      cases t1 with
      | cons d2 t2 =>
        cases t2
        exact ⟨l, _, rfl, h1, rfl, _, _, rfl, _, _, rfl, rfl, s.nx _ _ H1 G1 (w.st.go s1) (sl_set (sl_set (w.sl.step s1) (x := .d x) trivial d1) (x := .d y) trivial d2) p⟩
theorem ws_par {i j : Nat} {ta : TA} (h : EA F (fun _ => X) ta δ Xp fun xs => ∃ x y, xs = [x, y] ∧ Plain x ∧ Plain y ∧ E.nx ((δ.set i (some x)).set j (some y))) : WS F X (tPar i j ta) δ Xp E := fun B σ H G D w s =>
  h σ H G w.cur _ fun us xs H1 G1 s1 r1 ⟨x, y, e, px, py, p⟩ => by
    subst e
    obtain ⟨u, v, rfl, r2, r3⟩ := rv_two r1
    exact ⟨u, v, rfl, s.nx _ _ H1 G1 (w.st.go s1) (sl_set (sl_set (w.sl.step s1) px r2) py r3) p⟩
theorem ws_if (h : ET F (fun _ => X) tt δ Xp fun b => if b = true then WS F X t δ Xp E else WS F X u δ Xp E) : WS F X (tIfS tt t u) δ Xp E := fun B σ H G D w s =>
  h σ H G w.cur _ fun b H1 G1 s1 k => by
    cases b with
    | true =>
      show t D σ H1
      exact (show WS F X t δ Xp E from k) B σ H1 G1 D (w.go s1 (w.sl.step s1)) s
    | false =>
      show u D σ H1
      exact (show WS F X u δ Xp E from k) B σ H1 G1 D (w.go s1 (w.sl.step s1)) s
/-- a += b at a name -/
def rAugU (r : R2) : TIp := fun x y H Q => r x y H Q
theorem ws_aug {i : Nat} {r : R2} (h : ∃ x, δ[i]? = some (some x) ∧ ED F (fun _ => X) te δ Xp fun y => D2 F r x y fun z => Plain z ∧ E.nx (δ.set i (some z))) : WS F X (tAug i te r) δ Xp E := fun B σ H G D w s => by
  obtain ⟨x, hx, h⟩ := h
  obtain ⟨v, hv, rx⟩ := w.sl.at_ i x hx
  exact ⟨v, hv, h σ H G w.cur _ fun y c H1 G1 s1 r1 k => k v y H1 G1 s1.inv s1.gh (rx.step s1) r1 _ fun z e H2 G2 s2 r2 p => s.nx _ _ H2 G2 ((w.st.go s1).go s2) (sl_set (w.sl.step (s1.trans s2)) p.1 r2) p.2⟩

/-! ### new lists that a name owns -/
def EN (F : Fm) (X : XW) (te : TE) (δ : DSt) (Xp : XP) (P : List PyData → Prop) : Prop := ∀ σ H G, Cur F X G H σ δ Xp → ∀ Q : VK, (∀ p us xs H' G', Stp F G H G' H' → H p = none → H' p = some (.lst us) → G' p = none → DpAll F.K G' us xs → P xs → Q (.ref p) H') → te σ H Q
theorem stp_own {G H : Hp} {p : Addr} {o : HO} (i : F.I H) (g : Ex G (Rs F.S H)) (h : H p = none) : Stp F G H G (upd H p o) :=
  ⟨Ex.refl G, g.trans (Rs.mono (Ex.new h)), fun _ _ z => z, Rs.mono (Ex.new h), F.stab i (Ex.new h)⟩
theorem en_lst {X : XW} {ta : TA} {P : List PyData → Prop} (h : EA F X ta δ Xp fun xs => ∃ ys, AllD xs ys ∧ ys.length ≤ 100000 ∧ P ys) : EN F X (tLst ta) δ Xp P := fun σ H G c Q q =>
  h σ H G c _ fun us xs H1 G1 s1 r1 ⟨ys, a, l, p⟩ => by
    have d := AllD.dp r1 a
    refine ⟨Evl.sz_of (by rw [dpa_len d]; exact l), fun z hz => ?_⟩
    have hz0 : H z = none := by
      cases e : H z with
      | none => rfl
      | some o => exact absurd hz (s1.al (by rw [e]; exact fun k => by cases k))
    exact q z us ys _ G1 (s1.trans (stp_own s1.inv s1.gh hz)) hz0 upd_same (g_free s1.gh hz) d p
theorem old_free {B : Bs} {G H : Hp} {σ : L2.St} (w : Way F X B G H σ δ Xp) {p : Addr} (h : H p = none) : ¬ F.old p := fun z => F.al w.st.st.inv z h
theorem ws_own {i : Nat} (h : EN F (fun _ => X) te δ Xp fun xs => E.nx (δ.set i (some (.o xs)))) : WS F X (tAsg te (gName i)) δ Xp E := fun B σ H G D w s =>
  h σ H G w.cur _ fun p us xs H1 G1 s1 hp h1 g1 a k => by
    refine s.nx _ _ H1 G1 (w.st.go s1) ?_ k
    have l := w.sl.step s1
    have r : RV F G1 H1 (.ref p) (.o xs) := ⟨p, us, rfl, h1, g1, old_free w hp, a⟩
    have nw : ∀ (k : Nat) (zs : List PyData), δ[k]? = some (some (DV.o zs)) → σ[k]? ≠ some (some (V.ref p)) := fun k zs e z => by
      obtain ⟨v, e1, p2, us2, rfl, hp2, _⟩ := w.sl.at_ k _ e
      rw [e1] at z
      cases z
      rw [hp] at hp2
      cases hp2
    refine ⟨by rw [List.length_set, List.length_set]; exact l.len, fun k y e => ?_, fun a b xs ys hab ha hb => ?_⟩
    · by_cases hk : i = k
      · subst hk
        by_cases hi : i < δ.length
        · rw [List.getElem?_set_self hi] at e
          cases e
          exact ⟨.ref p, List.getElem?_set_self (by rw [l.len]; exact hi), r⟩
        · rw [List.getElem?_eq_none (by rw [List.length_set]; omega)] at e
          cases e
      · rw [List.getElem?_set_ne hk] at e ⊢
        exact l.at_ k y e
    · by_cases ia : i = a
      · subst ia
        have ib : i ≠ b := hab
        rw [List.getElem?_set_ne ib] at hb ⊢
        by_cases hi : i < δ.length
        · rw [List.getElem?_set_self (by rw [l.len]; exact hi)]
          exact fun z => nw b ys hb z.symm
        · rw [List.getElem?_eq_none (by rw [List.length_set]; omega)] at ha
          cases ha
      · rw [List.getElem?_set_ne ia] at ha ⊢
        by_cases ib : i = b
        · subst ib
          by_cases hi : i < δ.length
          · rw [List.getElem?_set_self (by rw [l.len]; exact hi)]
            exact fun z => nw a xs ha z
          · rw [List.getElem?_eq_none (by rw [List.length_set]; omega)] at hb
            cases hb
        · rw [List.getElem?_set_ne ib] at hb ⊢
          exact l.own a b xs ys hab ha hb
/-- the name's own list is changed: p, its address -/
theorem sl_put {G H : Hp} {σ : L2.St} {i : Nat} {p : Addr} {us us' : List V} {xs xs' : List PyData} (l : SL F G H σ δ) (hi : δ[i]? = some (some (.o xs))) (hs : σ[i]? = some (some (.ref p))) (hp : H p = some (.lst us)) (gp : G p = none) (no : ¬ F.old p)
    (a : DpAll F.K G us' xs') : SL F G (upd H p (.lst us')) σ (δ.set i (some (.o xs'))) := by
  have hlt : i < δ.length := by
    by_cases h : i < δ.length
    · exact h
    · rw [List.getElem?_eq_none (by omega)] at hi
      cases hi
  refine ⟨by rw [List.length_set]; exact l.len, fun k y e => ?_, fun b c zs ys hbc hb hc => ?_⟩
  · by_cases hk : i = k
    · subst hk
      rw [List.getElem?_set_self hlt] at e
      cases e
      exact ⟨.ref p, hs, p, us', rfl, upd_same, gp, no, a⟩
    · rw [List.getElem?_set_ne hk] at e
      obtain ⟨v, e1, r⟩ := l.at_ k y e
      refine ⟨v, e1, ?_⟩
      cases y with
      | d y => exact r
      | v w => exact r
      | x _ _ _ => exact r
      | p _ _ => exact r
      | o ys =>
        obtain ⟨q, ws, rfl, hq, gq, nq, aq⟩ := r
        have ne : q ≠ p := fun z => by
          subst z
          exact l.own i k xs ys hk hi e (by rw [hs, e1])
        exact ⟨q, ws, rfl, by rw [upd_ne ne]; exact hq, gq, nq, aq⟩
  · have fix : ∀ (k : Nat) (zs : List PyData), (δ.set i (some (DV.o xs')))[k]? = some (some (DV.o zs)) → ∃ zs' : List PyData, δ[k]? = some (some (DV.o zs')) := fun k zs e => by
      by_cases hk : i = k
      · subst hk
        exact ⟨xs, hi⟩
      · rw [List.getElem?_set_ne hk] at e
        exact ⟨zs, e⟩
    obtain ⟨zs', e1⟩ := fix b zs hb
    obtain ⟨ys', e2⟩ := fix c ys hc
    exact l.own b c zs' ys' hbc e1 e2
theorem stp_put {G H : Hp} {p : Addr} {us us' : List V} {G0 H0 : Hp} (s : Stp F G0 H0 G H) (old : ∀ b, H0 b ≠ none → F.old b) (hp : H p = some (.lst us)) (gp : G p = none) (no : ¬ F.old p) : Stp F G0 H0 G (upd H p (.lst us')) := by
  have h0 : H0 p = none := by
    cases e : H0 p with
    | none => rfl
    | some o => exact absurd (old p (by rw [e]; exact fun z => by cases z)) no
  have sp : F.S p = false := by
    cases e : F.S p with
    | false => rfl
    | true => exact absurd (F.so e) no
  refine ⟨s.gg, fun b o e => ?_, s.nw, fun b o e => ?_, ?_⟩
  · have ne : b ≠ p := fun z => by
      subst z
      rw [gp] at e
      cases e
    have := s.gh b o e
    unfold Rs at this ⊢
    rw [upd_ne ne]
    exact this
  · have ne : b ≠ p := fun z => by
      subst z
      unfold Rs at e
      rw [h0] at e
      split at e <;> cases e
    have := s.hh b o e
    unfold Rs at this ⊢
    rw [upd_ne ne]
    exact this
  · exact F.put s.inv hp no
theorem rch_put {G H : Hp} {p : Addr} {us us' : List V} {B : Bs} (s : Rch F B G H) (old : ∀ b, B.H b ≠ none → F.old b) (hp : H p = some (.lst us)) (gp : G p = none) (no : ¬ F.old p) : Rch F B G (upd H p (.lst us')) :=
  ⟨stp_put s.st old hp gp no, s.gm⟩
/-- x.append(e), x a name with its own list -/
theorem ws_app {i : Nat} (h : ∃ xs : List PyData, δ[i]? = some (some (.o xs)) ∧ xs.length < 100000 ∧ ED F (fun _ => X) te δ Xp fun y => ∃ x, y = .d x ∧ E.nx (δ.set i (some (.o (xs ++ [x]))))) : WS F X (tDrop (tBM F.K "list" rAppend (tVar i) (tCons te tNil))) δ Xp E := fun B σ H G D w s => by
  obtain ⟨xs, hi, hz, h⟩ := h
  obtain ⟨v, hv, p, us, rfl, hp, gp, no, a⟩ := w.sl.at_ i _ hi
  refine ⟨.ref p, hv, .inl ⟨rfl, us, Evl.sq_of hp⟩, ?_⟩
  refine h σ H G w.cur _ fun u y H1 G1 s1 r1 ⟨x, e, k⟩ => ?_
  subst e
  have hp1 := own_keep s1 no hp
  have gp1 := s1.nw p (by rw [hp]; exact fun z => by cases z) gp
  have l := dpa_len a
  refine ⟨p, us, u, rfl, rfl, hp1, Evl.sz_lt (by omega), ?_⟩
  exact s.nx _ _ _ G1 (rch_put (w.st.go s1) w.old hp1 gp1 no) (sl_put (w.sl.step s1) hi hv hp1 gp1 no (dpa_append (dpa_mono s1.gg a) (.cons r1.dp .nil))) k
/-- x[e] = f, x a name with its own list -/
theorem ws_setL {i : Nat} (h : ∃ xs : List PyData, δ[i]? = some (some (.o xs)) ∧ ED F (fun _ => X) te δ Xp fun y => ∃ x, y = .d x ∧ ED F (fun _ => X) ta δ Xp fun z => ∃ k j, z = DI k ∧ ixN xs.length k = some j ∧ E.nx (δ.set i (some (.o (xs.set j x))))) : WS F X (tAsg te (gSub (tVar i) ta rSetL)) δ Xp E := fun B σ H G D w s => by
  obtain ⟨xs, hi, h⟩ := h
  refine h σ H G w.cur _ fun u y H1 G1 s1 r1 ⟨x, e, h2⟩ => ?_
  subst e
  obtain ⟨v, hv, p, us, rfl, hp, gp, no, a⟩ := w.sl.at_ i _ hi
  refine ⟨.ref p, hv, ?_⟩
  refine h2 σ H1 G1 (w.cur.step s1) _ fun z y H2 G2 s2 r2 ⟨k, j, e, hj, q⟩ => ?_
  subst e
  cases r2.dp
  have s12 := s1.trans s2
  have hp1 := own_keep s12 no hp
  have gp1 := s12.nw p (by rw [hp]; exact fun z => by cases z) gp
  refine ⟨p, us, k, j, rfl, rfl, hp1, by rw [dpa_len a]; exact hj, ?_⟩
  exact s.nx _ _ _ G2 (rch_put (w.st.go s12) w.old hp1 gp1 no) (sl_put (w.sl.step s12) hi hv hp1 gp1 no (dpa_set (dp_mono s2.gg r1.dp) j (dpa_mono s12.gg a))) q
/-- x.pop(), its value dropped -/
theorem dpa_dropLast {K : PySem.W.Frag} {H : Hp} : ∀ {us : List V} {xs : List PyData}, DpAll K H us xs → DpAll K H us.dropLast xs.dropLast
  | _, _, .nil => .nil
  | _, _, .cons r .nil => .nil
  | _, _, .cons r (.cons q t) => .cons r (dpa_dropLast (.cons q t))
theorem ws_pop {i : Nat} (h : ∃ (xs : List PyData), δ[i]? = some (some (.o xs)) ∧ xs ≠ [] ∧ E.nx (δ.set i (some (.o xs.dropLast)))) : WS F X (tDrop (tBM0 F.K "list" rPop (tVar i))) δ Xp E := fun B σ H G D w s => by
  obtain ⟨xs, hi, hx, q⟩ := h
  obtain ⟨v, hv, p, us, rfl, hp, gp, no, a⟩ := w.sl.at_ i _ hi
  refine ⟨.ref p, hv, .inl ⟨rfl, us, Evl.sq_of hp⟩, ?_⟩
  have l := dpa_len a
  have h0 : xs.length ≠ 0 := fun z => hx (List.eq_nil_of_length_eq_zero z)
  refine ⟨p, us, us[us.length - 1]'(by omega), rfl, rfl, hp, List.getElem?_eq_getElem (by omega), ?_⟩
  exact s.nx _ _ _ G (rch_put w.st w.old hp gp no) (sl_put w.sl hi hv hp gp no (dpa_dropLast a)) q
/-- a name's own list is let go: from here on it is data -/
theorem ws_let {i : Nat} {xs : List PyData} (hi : δ[i]? = some (some (.o xs))) (h : WS F X t (δ.set i (some (.d (.list xs)))) Xp E) : WS F X t δ Xp E := fun B σ H G D w s => by
  obtain ⟨v, hv, p, us, rfl, hp, gp, no, a⟩ := w.sl.at_ i _ hi
  have hlt : i < δ.length := by
    by_cases h : i < δ.length
    · exact h
    · rw [List.getElem?_eq_none (by omega)] at hi
      cases hi
  have sp : F.S p = false := by
    cases e : F.S p with
    | false => rfl
    | true => exact absurd (F.so e) no
  have h0 : B.H p = none := by
    cases e : B.H p with
    | none => rfl
    | some o => exact absurd (w.old p (by rw [e]; exact fun z => by cases z)) no
  have gg : Ex G (upd G p (.lst us)) := Ex.new gp
  have st : Rch F B (upd G p (.lst us)) H := by
    refine ⟨⟨w.st.st.gg.trans gg, fun b o e => ?_, fun b hb g => ?_, w.st.st.hh, w.st.st.inv⟩, w.st.gm.trans gg⟩
    · by_cases hb : b = p
      · subst hb
        rw [upd_same] at e
        cases e
        rw [rs_ne sp]
        exact hp
      · rw [upd_ne hb] at e
        exact w.st.st.gh b o e
    · have ne : b ≠ p := fun z => by
        subst z
        exact hb h0
      rw [upd_ne ne]
      exact w.st.st.nw b hb g
  have r : RV F (upd G p (.lst us)) H (.ref p) (.d (.list xs)) := .d (.lst (Evl.sq_of upd_same) (dpa_mono gg a))
  refine h B σ H _ D (w.to st ?_) s
  refine ⟨by rw [List.length_set]; exact w.sl.len, fun k y e => ?_, fun b c zs ys hbc hb hc => ?_⟩
  · by_cases hk : i = k
    · subst hk
      rw [List.getElem?_set_self hlt] at e
      cases e
      exact ⟨.ref p, hv, r⟩
    · rw [List.getElem?_set_ne hk] at e
      obtain ⟨v, e1, rr⟩ := w.sl.at_ k y e
      refine ⟨v, e1, ?_⟩
      cases y with
      | d y => exact dp_mono gg rr
      | v w => exact rr
      | x a d fs =>
        obtain ⟨e, fv, hd, hn, ha⟩ := rr
        exact ⟨e, fv, gg d _ hd, hn, dpa_mono gg ha⟩
      | p R m => exact m gg rr
      | o ys =>
        obtain ⟨q, ws, rfl, hq, gq, nq, aq⟩ := rr
        have ne : q ≠ p := fun z => by
          subst z
          exact w.sl.own i k xs ys hk hi e (by rw [hv, e1])
        exact ⟨q, ws, rfl, hq, by rw [upd_ne ne]; exact gq, nq, dpa_mono gg aq⟩
  · have ib : i ≠ b := fun z => by
      subst z
      rw [List.getElem?_set_self hlt] at hb
      cases hb
    have ic : i ≠ c := fun z => by
      subst z
      rw [List.getElem?_set_self hlt] at hc
      cases hc
    rw [List.getElem?_set_ne ib] at hb
    rw [List.getElem?_set_ne ic] at hc
    exact w.sl.own b c zs ys hbc hb hc

/-! ### targets -/
def DG (F : Fm) (g : TG) (x : DV) (δ : DSt) (K : DSt → Prop) : Prop := ∀ σ H G u, F.I H → Ex G (Rs F.S H) → SL F G H σ δ → RV F G H u x → ∀ Q : L2.St → Hp → Prop, (∀ σ' δ', SL F G H σ' δ' → K δ' → Q σ' H) → g u σ H Q
def DGs (F : Fm) (g : TGs) (xs : List PyData) (δ : DSt) (K : DSt → Prop) : Prop := ∀ σ H G us, F.I H → Ex G (Rs F.S H) → SL F G H σ δ → DpAll F.K G us xs → ∀ Q : L2.St → Hp → Prop, (∀ σ' δ', SL F G H σ' δ' → K δ' → Q σ' H) → g us σ H Q
theorem dg_name {i : Nat} {x : DV} {K : DSt → Prop} (px : Plain x) (k : K (δ.set i (some x))) : DG F (gName i) x δ K := fun σ H G u iv g l r Q q => q _ _ (sl_set l px r) k
theorem dgs_nil {K : DSt → Prop} (k : K δ) : DGs F gNil [] δ K := fun σ H G us iv g l a Q q => by
  cases a
  exact ⟨rfl, q _ _ l k⟩
theorem dgs_cons {g : TG} {gs : TGs} {x : PyData} {xs : List PyData} {K : DSt → Prop} (h : DG F g (.d x) δ fun δ' => DGs F gs xs δ' K) : DGs F (gCons g gs) (x :: xs) δ K := fun σ H G us iv gg l a Q q => by
  cases a with
  | cons d t => exact ⟨_, _, rfl, h σ H G _ iv gg l d _ fun σ' δ' l' k => k σ' H G _ iv gg l' t Q q⟩
theorem dg_tup {gs : TGs} {n : Nat} {xs : List PyData} {K : DSt → Prop} (hn : xs.length = n) (h : DGs F gs xs δ K) : DG F (gTup F.K n gs) (.d (.tuple xs)) δ K := fun σ H G u iv g l r Q q => by
  obtain ⟨p, us, rfl, h1, a⟩ := tup_of g r.dp
  exact ⟨p, us, rfl, h1, (dpa_len a).trans hn, h σ H G us iv g l a Q q⟩
theorem ws_asgG {g : TG} (h : ED F (fun _ => X) te δ Xp fun x => DG F g x δ E.nx) : WS F X (tAsg te g) δ Xp E := fun B σ H G D w s =>
  h σ H G w.cur _ fun u x H1 G1 s1 r1 k => k σ H1 G1 u s1.inv s1.gh (w.sl.step s1) r1 _ fun σ' δ' l' p => s.nx σ' δ' H1 G1 (w.st.go s1) l' p

/-! ### loops -/
abbrev turnE (E : DE) (N : DSt → Prop) : DE := { nx := N, rt := E.rt, bk := E.nx, ct := N }
/-- the word of a loop over the heap: the slots stand for some data of which Pv holds -/
def Wd (F : Fm) (X : XK) (B : Bs) (M : Hp) (Xp : XP) (Pv : DSt → Prop) (σ : L2.St) (H : Hp) : Prop := ∃ δ G, Way F X ⟨B.G, B.H, M⟩ G H σ δ Xp ∧ Pv δ
theorem sat_turn {B : Bs} {M : Hp} {D : Ends} {N : DSt → Prop} {N' : L2.St → Hp → Prop} (s : Sat F B E D) (hm : Ex B.M M) (hN : ∀ σ' δ' H' G', Rch F ⟨B.G, B.H, M⟩ G' H' → SL F G' H' σ' δ' → N δ' → N' σ' H') : Sat F ⟨B.G, B.H, M⟩ (turnE E N) { D with nx := N', ct := N', bk := D.nx } :=
  ⟨hN, fun u x H' G' r => s.rt u x H' G' ⟨r.st, hm.trans r.gm⟩, fun σ' δ' H' G' r => s.nx σ' δ' H' G' ⟨r.st, hm.trans r.gm⟩, hN⟩
/-- a turn's heap-level work, for any source -/
theorem turn_ok {B : Bs} {M : Hp} {D : Ends} {g : TG} {x : PyData} {u : V} {N : DSt → Prop} {N' : L2.St → Hp → Prop} {G H : Hp} {σ : L2.St} (s : Sat F B E D) (hm : Ex B.M M) (w : Way F X ⟨B.G, B.H, M⟩ G H σ δ Xp) (hx : Dp F.K G u x)
    (h : DG F g (.d x) δ fun δ' => WS F X t δ' Xp (turnE E N)) (hN : ∀ σ' δ' H' G', Way F X ⟨B.G, B.H, M⟩ G' H' σ' δ' Xp → N δ' → N' σ' H') : g u σ H fun σ2 H2 => t { D with nx := N', ct := N', bk := D.nx } σ2 H2 :=
  h σ H G u w.st.st.inv w.st.st.gh w.sl hx _ fun σ' δ' l' k => k ⟨B.G, B.H, M⟩ σ' H G _ (w.to w.st l') (sat_turn s hm fun σ2 δ2 H2 G2 r2 l2 n => hN σ2 δ2 H2 G2 (w.to r2 l2) n)
/-- from a word at the turn's start to the work -/
theorem wd_turn {B : Bs} {M : Hp} {D : Ends} {g : TG} {x : PyData} {u : V} {Pi N : DSt → Prop} {H : Hp} {σ : L2.St} (s : Sat F B E D) (hm : Ex B.M M) (w : Wd F X B M Xp Pi σ H) (hx : ∀ G, Ex M G → Dp F.K G u x)
    (h : ∀ δ', Pi δ' → DG F g (.d x) δ' fun δ2 => WS F X t δ2 Xp (turnE E N)) : g u σ H fun σ2 H2 => t { D with nx := Wd F X B M Xp N, ct := Wd F X B M Xp N, bk := D.nx } σ2 H2 := by
  obtain ⟨δ', G, w', p⟩ := w
  exact turn_ok s hm w' (hx G w'.st.gm) (h δ' p) fun σ2 δ2 H2 G2 w2 n => ⟨δ2, G2, w2, n⟩
theorem wd_end {B : Bs} {M : Hp} {D : Ends} {Pi : DSt → Prop} {H : Hp} {σ : L2.St} (s : Sat F B E D) (hm : Ex B.M M) (w : Wd F X B M Xp Pi σ H) (h : ∀ δ', Pi δ' → E.nx δ') : D.nx σ H := by
  obtain ⟨δ', G, w', p⟩ := w
  exact s.nx σ δ' H G ⟨w'.st.st, hm.trans w'.st.gm⟩ w'.sl (h δ' p)
theorem wd_l {B : Bs} {M : Hp} {Pi : DSt → Prop} {H : Hp} {σ : L2.St} {a : Addr} {us : List V} (w : Wd F X B M Xp Pi σ H) (h : SqL F.K M a us) : SqL F.K H a us := by
  obtain ⟨δ', G, w', p⟩ := w
  exact Evl.ex_l ((w'.st.gm.trans w'.st.st.gh).trans Rs.sub) h
theorem wd_t {B : Bs} {M : Hp} {Pi : DSt → Prop} {H : Hp} {σ : L2.St} {a : Addr} {us : List V} (w : Wd F X B M Xp Pi σ H) (h : SqT F.K M a us) : SqT F.K H a us := by
  obtain ⟨δ', G, w', p⟩ := w
  exact Evl.ex_t ((w'.st.gm.trans w'.st.st.gh).trans Rs.sub) h
/-- a loop over xs by the word Pv -/
def Loop (F : Fm) (X : XK) (g : TG) (t : TS) (Xp : XP) (E : DE) (δ : DSt) (xs : List PyData) : Prop := ∃ Pv : Nat → DSt → Prop, Pv 0 δ ∧
  (∀ i x δ', xs[i]? = some x → Pv i δ' → DG F g (.d x) δ' fun δ2 => WS F X t δ2 Xp (turnE E (Pv (i + 1)))) ∧ (∀ δ', Pv xs.length δ' → E.nx δ')
theorem ws_forSeq {g : TG} (h : ED F (fun _ => X) te δ Xp fun c => ∃ xs : List PyData, (c = .d (.list xs) ∨ c = .d (.tuple xs)) ∧ Loop F X g t Xp E δ xs) : WS F X (tFor (iSeq F.K te) g t) δ Xp E := fun B σ H G D w s =>
  h σ H G w.cur _ fun u c H1 G1 s1 r1 ⟨xs, hc, Pv, h0, hs, hd⟩ => by
    have hm : Ex B.M G1 := (w.st.go s1).gm
    have w0 : Wd F X B G1 Xp (Pv 0) σ H1 := ⟨δ, G1, ⟨w.old, ⟨w.st.st.trans s1, Ex.refl G1⟩, w.sl.step s1, w.xs⟩, h0⟩
    have dd : ∀ σ' H', Wd F X B G1 Xp (Pv xs.length) σ' H' → D.nx σ' H' := fun σ' H' w' => wd_end s hm w' hd
    rcases hc with rfl | rfl
    · cases r1.dp with
      | lst hq ha =>
        rename_i a us
        have el := dpa_len ha
        refine ⟨a, rfl, .inl ⟨⟨us, sqL_of s1.gh hq⟩, ?_⟩⟩
        refine for_list (xs := us) (fun i => Wd F X B G1 Xp (Pv i)) w0 (fun i σ' H' _ w' => wd_l w' hq) (fun i y σ' H' e w' => ?_) (by rw [el]; exact dd)
        obtain ⟨x, ex, dx⟩ := dpa_get' ha e
        exact wd_turn s hm w' (fun G2 e2 => dp_mono e2 dx) fun δ' p => hs i x δ' ex p
    · cases r1.dp with
      | tup hq ha =>
        rename_i a us
        have el := dpa_len ha
        refine ⟨a, rfl, .inr ⟨⟨us, sqT_of s1.gh hq⟩, ?_⟩⟩
        refine for_tup (xs := us) (fun i => Wd F X B G1 Xp (Pv i)) w0 (fun i σ' H' _ w' => wd_t w' hq) (fun i y σ' H' e w' => ?_) (by rw [el]; exact dd)
        obtain ⟨x, ex, dx⟩ := dpa_get' ha e
        exact wd_turn s hm w' (fun G2 e2 => dp_mono e2 dx) fun δ' p => hs i x δ' ex p
/-- over a range -/
def LoopR (F : Fm) (X : XK) (g : TG) (t : TS) (Xp : XP) (E : DE) (δ : DSt) (lo : Int) (n : Nat) : Prop := ∃ Pv : Nat → DSt → Prop, Pv 0 δ ∧
  (∀ (i : Nat) δ', i < n → Pv i δ' → DG F g (DI (lo + i)) δ' fun δ2 => WS F X t δ2 Xp (turnE E (Pv (i + 1)))) ∧ (∀ δ', Pv n δ' → E.nx δ')
theorem loopR_ok {g : TG} {B : Bs} {D : Ends} {lo : Int} {n : Nat} {G H : Hp} {σ : L2.St} (w : Way F X B G H σ δ Xp) (s : Sat F B E D) (h : LoopR F X g t Xp E δ lo n) :
    ∃ W : Nat → Nat → L2.St → Hp → Prop, (∃ m, W 0 m σ H) ∧ ∀ i m σ H, W i m σ H →
      ((Itr lo n).stop i H ∧ D.nx σ H) ∨ ((Itr lo n).go i H ∧ ∃ N : L2.St → Hp → Prop, (∀ σ' H', N σ' H' → ∃ m', m' < m ∧ W (i + 1) m' σ' H') ∧ ∀ x H', (Itr lo n).yld i H x H' → g x σ H' fun σ2 H2 => t { D with nx := N, ct := N, bk := D.nx } σ2 H2) := by
  obtain ⟨Pv, h0, hs, hd⟩ := h
  have hm : Ex B.M G := w.st.gm
  refine for_range (fun i => Wd F X B G Xp (Pv i)) ⟨δ, G, ⟨w.old, ⟨w.st.st, Ex.refl G⟩, w.sl, w.xs⟩, h0⟩ (fun i σ' H' hi w' => ?_) (fun σ' H' w' => wd_end s hm w' hd)
  exact wd_turn s hm w' (fun G2 _ => .int _) fun δ' p => hs i δ' hi p
theorem ws_forR1 {g : TG} {ta : TA} (h : EA F (fun _ => X) ta δ Xp fun xs => ∃ n : Int, xs = [DI n] ∧ n < 2 ^ 62 ∧ -(2 ^ 62) ≤ n ∧ LoopR F X g t Xp E δ 0 n.toNat) : WS F X (tFor (iRng1 ta) g t) δ Xp E := fun B σ H G D w s =>
  h σ H G w.cur _ fun us xs H1 G1 s1 r1 ⟨n, e, h1, h2, l⟩ => by
    subst e
    obtain ⟨u, rfl, r⟩ := rv_one r1
    cases r.dp
    exact ⟨n, rfl, h2, h1, loopR_ok (w.go s1 (w.sl.step s1)) s l⟩
theorem ws_forR2 {g : TG} {ta : TA} (h : EA F (fun _ => X) ta δ Xp fun xs => ∃ lo n : Int, xs = [DI lo, DI n] ∧ (-(2 ^ 62) ≤ lo ∧ lo < 2 ^ 62 ∧ -(2 ^ 62) ≤ n ∧ n < 2 ^ 62) ∧ LoopR F X g t Xp E δ lo (n - lo).toNat) : WS F X (tFor (iRng2 ta) g t) δ Xp E := fun B σ H G D w s =>
  h σ H G w.cur _ fun us xs H1 G1 s1 r1 ⟨lo, n, e, hb, l⟩ => by
    subst e
    obtain ⟨u, v, rfl, r, r'⟩ := rv_two r1
    cases r.dp
    cases r'.dp
    exact ⟨lo, n, rfl, hb, loopR_ok (w.go s1 (w.sl.step s1)) s l⟩
/-- a while, by a word with a number that falls -/
theorem ws_while (W : Nat → DSt → Prop) (m0 : Nat) (h0 : W m0 δ)
    (hs : ∀ m δ', W m δ' → ET F (fun _ => X) tt δ' Xp fun b => if b = true then WS F X t δ' Xp (turnE E fun δ2 => ∃ m', m' < m ∧ W m' δ2) else E.nx δ') : WS F X (tWhile tt t) δ Xp E := fun B σ H G D w s => by
  refine ⟨fun m σ' H' => Wd F X B G Xp (W m) σ' H', ⟨m0, δ, G, ⟨w.old, ⟨w.st.st, Ex.refl G⟩, w.sl, w.xs⟩, h0⟩, fun m σ' H' w' => ?_⟩
  obtain ⟨δ', G', w', p⟩ := w'
  refine hs m δ' p σ' H' G' w'.cur _ fun b H1 G1 s1 k => ?_
  have w1 := w'.go s1 (w'.sl.step s1)
  cases b with
  | true =>
    refine ⟨fun σ2 H2 => Wd F X B G Xp (fun δ2 => ∃ m', m' < m ∧ W m' δ2) σ2 H2, fun σ2 H2 ⟨δ2, G2, w2, m', hl, q⟩ => ⟨m', hl, δ2, G2, w2, q⟩, ?_⟩
    exact (show WS F X t δ' Xp _ from k) ⟨B.G, B.H, G⟩ σ' H1 G1 _ w1 (sat_turn s w.st.gm fun σ2 δ2 H2 G2 r2 l2 n => ⟨δ2, G2, w1.to r2 l2, n⟩)
  | false => exact s.nx σ' δ' H1 G1 ⟨w1.st.st, w.st.gm.trans w1.st.gm⟩ w1.sl (show E.nx δ' from k)

end
/-! ### comprehensions -/
section
variable {F : Fm} {X : XK} {δ : DSt} {Xp : XP} {E : DE} {te ta tb : TE} {t u : TS} {tt : TT}
def wipeD (δ : DSt) : List Nat → DSt
  | [] => δ
  | v :: vs => (wipeD δ vs).set v none
theorem sl_wipe1 {G H : Hp} {σ : L2.St} {v : Nat} (l : SL F G H σ δ) : SL F G H (σ.set v none) (δ.set v none) := by
  refine ⟨by rw [List.length_set, List.length_set]; exact l.len, fun k y e => ?_, fun a b xs ys hab ha hb => ?_⟩
  · by_cases hk : v = k
    · subst hk
      by_cases hi : v < δ.length
      · rw [List.getElem?_set_self hi] at e
        cases e
      · rw [List.getElem?_eq_none (by rw [List.length_set]; omega)] at e
        cases e
    · rw [List.getElem?_set_ne hk] at e ⊢
      exact l.at_ k y e
  · have na : ∀ (c : Nat) (zs : List PyData), (δ.set v none)[c]? = some (some (DV.o zs)) → v ≠ c := fun c zs e z => by
      subst z
      by_cases hi : v < δ.length
      · rw [List.getElem?_set_self hi] at e
        cases e
      · rw [List.getElem?_eq_none (by rw [List.length_set]; omega)] at e
        cases e
    have n1 := na a xs ha
    have n2 := na b ys hb
    rw [List.getElem?_set_ne n1] at ha
    rw [List.getElem?_set_ne n2] at hb
    rw [List.getElem?_set_ne n1, List.getElem?_set_ne n2]
    exact l.own a b xs ys hab ha hb
theorem sl_wipe {G H : Hp} {σ : L2.St} (l : SL F G H σ δ) : ∀ vs : List Nat, SL F G H (wipe σ vs) (wipeD δ vs)
  | [] => l
  | v :: vs => sl_wipe1 (δ := wipeD δ vs) (sl_wipe l vs)
/-- what the comprehension's turn keeps: the list so far at D -/
def Cw (F : Fm) (X : XK) (Xp : XP) (G1 H1 : Hp) (Dl : Addr) (ys : List PyData) (H : Hp) : Prop := ∃ G us, Stp F G1 H1 G H ∧ H1 Dl = none ∧ H Dl = some (.lst us) ∧ G Dl = none ∧ DpAll F.K G us ys
theorem cw_new {G1 H1 : Hp} {Dl : Addr} (i : F.I H1) (g : Ex G1 (Rs F.S H1)) (h : H1 Dl = none) : Cw F X Xp G1 H1 Dl [] (upd H1 Dl (.lst [])) :=
  ⟨G1, [], stp_own i g h, h, upd_same, g_free g h, .nil⟩
theorem stp_grow {G1 H1 G H : Hp} {Dl : Addr} {us us' : List V} (i1 : F.I H1) (s : Stp F G1 H1 G H) (h1 : H1 Dl = none) (hp : H Dl = some (.lst us)) (gp : G Dl = none) : Stp F G1 H1 G (upd H Dl (.lst us')) := by
  refine ⟨s.gg, fun b o e => ?_, s.nw, fun b o e => ?_, ?_⟩
  · have ne : b ≠ Dl := fun z => by
      subst z
      rw [gp] at e
      cases e
    have := s.gh b o e
    unfold Rs at this ⊢
    rw [upd_ne ne]
    exact this
  · have ne : b ≠ Dl := fun z => by
      subst z
      unfold Rs at e
      rw [h1] at e
      split at e <;> cases e
    have := s.hh b o e
    unfold Rs at this ⊢
    rw [upd_ne ne]
    exact this
  · exact F.put s.inv hp fun z => F.al i1 z h1
/-- the list is done: it is data -/
theorem cw_data {G1 H1 H : Hp} {Dl : Addr} {ys : List PyData} (w : Cw F X Xp G1 H1 Dl ys H) (iv : F.I H1) : ∃ G', Stp F G1 H1 G' H ∧ RV F G' H (.ref Dl) (.d (.list ys)) := by
  obtain ⟨G, us, s, h1, hp, gp, a⟩ := w
  have sp : F.S Dl = false := by
    cases e : F.S Dl with
    | false => rfl
    | true => exact absurd h1 (F.al iv (F.so e))
  have gg : Ex G (upd G Dl (.lst us)) := Ex.new gp
  refine ⟨upd G Dl (.lst us), ⟨s.gg.trans gg, fun b o e => ?_, fun b hb g => ?_, s.hh, s.inv⟩, .d (.lst (Evl.sq_of upd_same) (dpa_mono gg a))⟩
  · by_cases hb : b = Dl
    · subst hb
      rw [upd_same] at e
      cases e
      rw [rs_ne sp]
      exact hp
    · rw [upd_ne hb] at e
      exact s.gh b o e
  · have ne : b ≠ Dl := fun z => by
      subst z
      exact hb h1
    rw [upd_ne ne]
    exact s.nw b hb g
/-- a target's names are the comprehension's own -/
def TgOk (g : TG) (vs : List Nat) : Prop := ∀ (σ : L2.St) (u : V) (H : Hp) (Q : L2.St → Hp → Prop), g u (wipe σ vs) H Q → g u (wipe σ vs) H fun σ2 H2 => wipe σ2 vs = wipe σ vs ∧ Q σ2 H2
theorem wipe_set : ∀ (vs : List Nat) (σ : L2.St) (i : Nat) (x : Option V), i ∈ vs → wipe (σ.set i x) vs = wipe σ vs
  | [], _, _, _, h => by cases h
  | v :: vs, σ, i, x, h => by
    show (wipe (σ.set i x) vs).set v none = (wipe σ vs).set v none
    by_cases hi : i ∈ vs
    · rw [wipe_set vs σ i x hi]
    · have e : i = v := by
        rcases List.mem_cons.mp h with e | e
        · exact e
        · exact absurd e hi
      subst e
      have comm : ∀ (ws : List Nat) (τ : L2.St), i ∉ ws → wipe (τ.set i x) ws = (wipe τ ws).set i x := by
        intro ws
        induction ws with
        | nil => intro τ _; rfl
        | cons a ws ih =>
          intro τ hn
          have h1 : i ≠ a := fun z => hn (z ▸ List.mem_cons_self ..)
          have h2 : i ∉ ws := fun z => hn (List.mem_cons_of_mem _ z)
          show (wipe (τ.set i x) ws).set a none = ((wipe τ ws).set a none).set i x
          rw [ih τ h2, List.set_comm _ _ h1]
      rw [comm vs σ hi, List.set_set]
theorem wipe_wipe (vs : List Nat) : ∀ (ws : List Nat) (σ : L2.St), (∀ i ∈ ws, i ∈ vs) → wipe (wipe σ ws) vs = wipe σ vs
  | [], _, _ => rfl
  | w :: ws, σ, h => by
    show wipe ((wipe σ ws).set w none) vs = wipe σ vs
    rw [wipe_set vs _ w none (h w (List.mem_cons_self ..))]
    exact wipe_wipe vs ws σ fun i m => h i (List.mem_cons_of_mem _ m)
theorem tgOk_name {i : Nat} {vs : List Nat} (h : i ∈ vs) : TgOk (gName i) vs := fun σ u H Q q => ⟨by rw [wipe_set vs _ i _ h, wipe_wipe vs vs σ fun _ m => m], q⟩
theorem tgOk_tup2 {K : PySem.W.Frag} {i j : Nat} {n : Nat} {vs : List Nat} (h : i ∈ vs) (h2 : j ∈ vs) : TgOk (gTup K n (gCons (gName i) (gCons (gName j) gNil))) vs := fun σ u H Q q => by
  obtain ⟨a, xs, e, hq, hl, v, r, e1, v2, r2, e2, e3, k⟩ := q
  refine ⟨a, xs, e, hq, hl, v, r, e1, v2, r2, e2, e3, ?_, k⟩
  rw [wipe_set vs _ j _ h2, wipe_set vs _ i _ h, wipe_wipe vs vs σ fun _ m => m]
/-- one turn of a comprehension -/
theorem cw_turn {G1 H1 H : Hp} {Dl : Addr} {ys : List PyData} {σ : L2.St} {g : TG} {vs : List Nat} {u : V} {x y : PyData} {b : Bool} {N : Hp → Prop} (c : Cur F (fun _ => X) G1 H1 σ δ Xp) (w : Cw F X Xp G1 H1 Dl ys H) (hg : TgOk g vs) (hz : ys.length < 100000) (hx : ∀ G, Ex G1 G → Dp F.K G u x)
    (h : DG F g (.d x) (wipeD δ vs) fun δ2 => ET F (fun _ => X) tt δ2 Xp fun b' => b' = b ∧ (b = true → ED F (fun _ => X) te δ2 Xp fun z => z = .d y)) (hN : ∀ H', Cw F X Xp G1 H1 Dl (if b = true then ys ++ [y] else ys) H' → N H') :
    g u (wipe σ vs) H fun σ2 H2 => wipe σ2 vs = wipe σ vs ∧ tt σ2 H2 fun b H3 => if b = true then te σ2 H3 fun y H4 => ∃ acc, H4 Dl = some (.lst acc) ∧ acc.length < sizeLine ∧ N (upd H4 Dl (.lst (acc ++ [y]))) else N H3 := by
  obtain ⟨G, us, s, h1, hp, gp, a⟩ := w
  have iv := c.inv
  have no : ¬ F.old Dl := fun z => F.al iv z h1
  have cs := c.step s
  refine hg σ u H _ (h (wipe σ vs) H G u s.inv s.gh (sl_wipe cs.sl vs) (hx G s.gg) _ fun σ2 δ2 l2 k => ?_)
  have c2 : Cur F (fun _ => X) G H σ2 δ2 Xp := ⟨s.inv, s.gh, l2, cs.xs⟩
  refine k σ2 H G c2 _ fun b' H3 G3 s3 ⟨eb, k2⟩ => ?_
  subst eb
  have s13 := s.trans s3
  have hp3 := own_keep s3 no hp
  have gp3 := s3.nw Dl (by rw [hp]; exact fun z => by cases z) gp
  cases b' with
  | false => exact hN H3 ⟨G3, us, s13, h1, hp3, gp3, dpa_mono s3.gg a⟩
  | true =>
    refine (k2 rfl) σ2 H3 G3 (c2.step s3) _ fun z e H4 G4 s4 r4 ey => ?_
    subst ey
    have hp4 := own_keep s4 no hp3
    have gp4 := s4.nw Dl (by rw [hp3]; exact fun z => by cases z) gp3
    have l := dpa_len a
    refine ⟨us, hp4, Evl.sz_lt (by omega), hN _ ⟨G4, us ++ [z], stp_grow iv (s13.trans s4) h1 hp4 gp4, h1, upd_same, gp4, dpa_append (dpa_mono (s3.trans s4).gg a) (.cons r4.dp .nil)⟩⟩
/-- what a comprehension makes of the items so far -/
def lcOf (xs : List PyData) (f : PyData → Bool) (v : PyData → PyData) : List PyData := (xs.filter f).map v
theorem lcOf_more {xs : List PyData} {f : PyData → Bool} {v : PyData → PyData} {i : Nat} {x : PyData} (h : xs[i]? = some x) : lcOf (xs.take (i + 1)) f v = if f x = true then lcOf (xs.take i) f v ++ [v x] else lcOf (xs.take i) f v := by
  have e : xs.take (i + 1) = xs.take i ++ [x] := by
    rw [List.take_add_one, h] <;> rfl
  unfold lcOf
  rw [e, List.filter_append, List.map_append]
  by_cases hf : f x = true
  · rw [if_pos hf]
    simp [hf]
  · rw [if_neg hf]
    simp [hf]
theorem lcOf_len (xs : List PyData) (f : PyData → Bool) (v : PyData → PyData) : (lcOf xs f v).length ≤ xs.length := by
  unfold lcOf
  rw [List.length_map]
  exact List.length_filter_le f xs
/-- a comprehension over a list or a tuple -/
def Comp (F : Fm) (X : XK) (g : TG) (tt : TT) (te : TE) (vs : List Nat) (Xp : XP) (δ : DSt) (xs : List PyData) (f : PyData → Bool) (v : PyData → PyData) : Prop :=
  ∀ x, x ∈ xs → DG F g (.d x) (wipeD δ vs) fun δ2 => ET F (fun _ => X) tt δ2 Xp fun b => b = f x ∧ (f x = true → ED F (fun _ => X) te δ2 Xp fun z => z = .d (v x))
theorem lc_core {tl : TE} {g : TG} {vs : List Nat} {σ : L2.St} {H G : Hp} {Q : VK} (hg : TgOk g vs) (c : Cur F (fun _ => X) G H σ δ Xp) (hP : ED F (fun _ => X) tl δ Xp fun c => ∃ xs : List PyData, (c = .d (.list xs) ∨ c = .d (.tuple xs)) ∧ xs.length < 100000 ∧ ∃ f v, Comp F X g tt te vs Xp δ xs f v ∧
      ∀ Dl H1 G1 H', Stp F G H G1 H1 → Cw F X Xp G1 H1 Dl (lcOf xs f v) H' → Q (.ref Dl) H') : tLc (iSeq F.K tl) g tt te vs σ H Q :=
  hP σ H G c _ fun u cc H1 G1 s1 r1 ⟨xs, hc, hz, f, v, hs, q⟩ => by
    have c1 := c.step s1
    have key : ∀ (us : List V), DpAll F.K G1 us xs → ∀ (Dl : Addr) (i : Nat) (w : V) (H' : Hp), us[i]? = some w → Cw F X Xp G1 H1 Dl (lcOf (xs.take i) f v) H' →
        g w (wipe σ vs) H' fun σ2 H2 => wipe σ2 vs = wipe σ vs ∧ tt σ2 H2 fun b H3 => if b = true then te σ2 H3 fun y H4 => ∃ acc, H4 Dl = some (.lst acc) ∧ acc.length < sizeLine ∧ Cw F X Xp G1 H1 Dl (lcOf (xs.take (i + 1)) f v) (upd H4 Dl (.lst (acc ++ [y]))) else Cw F X Xp G1 H1 Dl (lcOf (xs.take (i + 1)) f v) H3 := by
      intro us ha Dl i w H' e p
      obtain ⟨x, ex, dx⟩ := dpa_get' ha e
      have lz := lcOf_len (xs.take i) f v
      rw [List.length_take] at lz
      refine cw_turn (y := v x) (b := f x) c1 p hg (by omega) (fun G2 e2 => dp_mono e2 dx) (hs x (List.mem_of_getElem? ex)) fun H2 w2 => ?_
      rw [lcOf_more ex]
      exact w2
    have fin : ∀ (us : List V), DpAll F.K G1 us xs → ∀ (Dl : Addr) (H' : Hp), Cw F X Xp G1 H1 Dl (lcOf (xs.take us.length) f v) H' → Q (.ref Dl) H' := fun us ha Dl H' p => by
      rw [dpa_len ha, List.take_length] at p
      exact q Dl H1 G1 H' s1 p
    have stay : ∀ (Dl : Addr) (i : Nat) (H' : Hp), Cw F X Xp G1 H1 Dl (lcOf (xs.take i) f v) H' → Ex G1 H' := fun Dl i H' ⟨G2, us2, s2, _⟩ => (s2.gg.trans s2.gh).trans Rs.sub
    rcases hc with rfl | rfl
    · cases r1.dp with
      | lst hq ha =>
        rename_i a us
        refine ⟨a, rfl, .inl ⟨⟨us, sqL_of s1.gh hq⟩, fun Dl hD => ?_⟩⟩
        exact lc_list (xs := us) (fun i H' => Cw F X Xp G1 H1 Dl (lcOf (xs.take i) f v) H') (cw_new s1.inv s1.gh hD) (fun i H' _ p => Evl.ex_l (stay Dl i H' p) hq) (fun i w H' e p => key us ha Dl i w H' e p) fun H' p => fin us ha Dl H' p
    · cases r1.dp with
      | tup hq ha =>
        rename_i a us
        refine ⟨a, rfl, .inr ⟨⟨us, sqT_of s1.gh hq⟩, fun Dl hD => ?_⟩⟩
        exact lc_tup (xs := us) (fun i H' => Cw F X Xp G1 H1 Dl (lcOf (xs.take i) f v) H') (cw_new s1.inv s1.gh hD) (fun i H' _ p => Evl.ex_t (stay Dl i H' p) hq) (fun i w H' e p => key us ha Dl i w H' e p) fun H' p => fin us ha Dl H' p
theorem ed_lc {tl : TE} {g : TG} {vs : List Nat} {P : DV → Prop} (hg : TgOk g vs) (h : ED F (fun _ => X) tl δ Xp fun c => ∃ xs : List PyData, (c = .d (.list xs) ∨ c = .d (.tuple xs)) ∧ xs.length < 100000 ∧ ∃ f v, Comp F X g tt te vs Xp δ xs f v ∧ P (.d (.list (lcOf xs f v)))) :
    ED F (fun _ => X) (tLc (iSeq F.K tl) g tt te vs) δ Xp P := fun σ H G c Q q =>
  lc_core hg c (h.mono fun x ⟨xs, hc, hz, f, v, hs, p⟩ => ⟨xs, hc, hz, f, v, hs, fun Dl H1 G1 H' s1 w => by
    obtain ⟨G', s', r'⟩ := cw_data w s1.inv
    exact q _ _ H' G' (s1.trans s') r' p⟩)
theorem en_lc {tl : TE} {g : TG} {vs : List Nat} {P : List PyData → Prop} (hg : TgOk g vs) (h : ED F (fun _ => X) tl δ Xp fun c => ∃ xs : List PyData, (c = .d (.list xs) ∨ c = .d (.tuple xs)) ∧ xs.length < 100000 ∧ ∃ f v, Comp F X g tt te vs Xp δ xs f v ∧ P (lcOf xs f v)) :
    EN F (fun _ => X) (tLc (iSeq F.K tl) g tt te vs) δ Xp P := fun σ H G c Q q =>
  lc_core hg c (h.mono fun x ⟨xs, hc, hz, f, v, hs, p⟩ => ⟨xs, hc, hz, f, v, hs, fun Dl H1 G1 H' s1 w => by
    obtain ⟨G2, us, s2, h1, hp, gp, a⟩ := w
    have hd : H Dl = none := by
      cases e : H Dl with
      | none => rfl
      | some o => exact absurd h1 (s1.al (by rw [e]; exact fun k => by cases k))
    exact q Dl us _ H' G2 (s1.trans s2) hd hp gp a p⟩)
/-- over a range -/
def lcR (n : Nat) (f : Nat → Bool) (v : Nat → PyData) : List PyData := ((List.range n).filter f).map v
theorem lcR_more {n : Nat} {f : Nat → Bool} {v : Nat → PyData} : lcR (n + 1) f v = if f n = true then lcR n f v ++ [v n] else lcR n f v := by
  unfold lcR
  rw [List.range_succ, List.filter_append, List.map_append]
  by_cases hf : f n = true
  · rw [if_pos hf]
    simp [hf]
  · rw [if_neg hf]
    simp [hf]
theorem lcR_len (n : Nat) (f : Nat → Bool) (v : Nat → PyData) : (lcR n f v).length ≤ n := by
  unfold lcR
  rw [List.length_map]
  have := List.length_filter_le f (List.range n)
  rw [List.length_range] at this
  exact this
def CompR (F : Fm) (X : XK) (g : TG) (tt : TT) (te : TE) (vs : List Nat) (Xp : XP) (δ : DSt) (n : Nat) (f : Nat → Bool) (v : Nat → PyData) : Prop :=
  ∀ i : Nat, i < n → DG F g (DI i) (wipeD δ vs) fun δ2 => ET F (fun _ => X) tt δ2 Xp fun b => b = f i ∧ (f i = true → ED F (fun _ => X) te δ2 Xp fun z => z = .d (v i))
theorem lcR_core {ta : TA} {g : TG} {vs : List Nat} {σ : L2.St} {H G : Hp} {Q : VK} (hg : TgOk g vs) (c : Cur F (fun _ => X) G H σ δ Xp) (hP : EA F (fun _ => X) ta δ Xp fun xs => ∃ n : Int, xs = [DI n] ∧ 0 ≤ n ∧ n < 100000 ∧ ∃ f v, CompR F X g tt te vs Xp δ n.toNat f v ∧
      ∀ Dl H1 G1 H', Stp F G H G1 H1 → Cw F X Xp G1 H1 Dl (lcR n.toNat f v) H' → Q (.ref Dl) H') : tLc (iRng1 ta) g tt te vs σ H Q :=
  hP σ H G c _ fun us xs H1 G1 s1 r1 ⟨n, e, h0, hz, f, v, hs, q⟩ => by
    subst e
    obtain ⟨u, rfl, r⟩ := rv_one r1
    cases r.dp
    have c1 := c.step s1
    refine ⟨n, rfl, by omega, by omega, fun Dl hD => ?_⟩
    refine lc_range (lo := 0) (n := n.toNat) (fun i H' => Cw F X Xp G1 H1 Dl (lcR i f v) H') (cw_new s1.inv s1.gh hD) (fun i H' hi p => ?_) fun H' p => q Dl H1 G1 H' s1 p
    have lz := lcR_len i f v
    have e0 : (0 : Int) + (i : Int) = (i : Int) := Int.zero_add _
    rw [e0]
    refine cw_turn (x := .int (i : Int)) (y := v i) (b := f i) c1 p hg (by omega) (fun G2 e2 => .int _) (hs i hi) fun H2 w2 => ?_
    rw [lcR_more]
    exact w2
theorem ed_lcR {ta : TA} {g : TG} {vs : List Nat} {P : DV → Prop} (hg : TgOk g vs) (h : EA F (fun _ => X) ta δ Xp fun xs => ∃ n : Int, xs = [DI n] ∧ 0 ≤ n ∧ n < 100000 ∧ ∃ f v, CompR F X g tt te vs Xp δ n.toNat f v ∧ P (.d (.list (lcR n.toNat f v)))) :
    ED F (fun _ => X) (tLc (iRng1 ta) g tt te vs) δ Xp P := fun σ H G c Q q =>
  lcR_core hg c (fun σ' H' G' c' Q' q' => h σ' H' G' c' Q' fun us xs H1 G1 s1 r1 ⟨n, e, h0, hz, f, v, hs, p⟩ => q' us xs H1 G1 s1 r1 ⟨n, e, h0, hz, f, v, hs, fun Dl H2 G2 H3 s2 w => by
    obtain ⟨G', s', r'⟩ := cw_data w s2.inv
    exact q _ _ H3 G' (s2.trans s') r' p⟩)
end
end DL

namespace L2
open PySem PySem.Spec PyProof.Rows
section
variable {X : Cx} {C : Addr} {bmB : List Value} {B newId initId : String}
/-- X(), X an own exception class without own __init__ -/
theorem pmk_own0 {x : Str} {p pos : Pos} (F : ExcBaseFacts B newId initId bmB) (q : PySem.W.excIn X.K C bmB newId = true) (gC : X.mg x = some (.ref C)) (kC : PySem.W.keepIn X.K (.ref C) = true) (r : Raises X (.ref C)) (hg : Gl X x)
    (hdb : (x == ("__debug__" : Str)) = false := by decide) : PMk X (.Call (.Name x p) [] [] pos) (fun _ H Q => Q (.ref C) none H) := by
  intro pins s σ H Q I h
  refine wpAny_Call_Name_kw (ld_glob I hg gC ?_ hdb)
  refine PySem.W.callWith_K0 I.kIn kC ?_
  show wpAny _ _ (call (.ref C) []) _ _ _
  obtain ⟨bm, N, nm, qn, bs, hdct, sn, sub, ab, col, dd, k0, k1, k2, k3, k5, mN, hC, hN, hni, T⟩ := exc_obj I.kIn q
  refine wpAny_call_exc_subT F T hC hN hni (fun h' e hm => ?_) (Nat.zero_le _)
  exact mk_of I hm r h (I.hok.gone hm.new)
end
end L2
namespace DL
open PySem L2
open Evl (Ex Ex.refl Ex.trans Ex.new)

/-! ### from a promise to its body -/
def startD (m : Nat) (ds : List DV) : DSt := ds.map some ++ List.replicate m none
theorem getD_map {ds : List DV} {m i : Nat} {x : DV} (h : (startD m ds)[i]? = some (some x)) : ds[i]? = some x := by
  unfold startD at h
  by_cases hi : i < ds.length
  · rw [List.getElem?_append_left (by rw [List.length_map]; exact hi), List.getElem?_map] at h
    cases e : ds[i]? with
    | none => rw [e] at h; cases h
    | some y => rw [e] at h; cases h; rfl
  · rw [List.getElem?_append_right (by rw [List.length_map]; omega), List.length_map, List.getElem?_replicate] at h
    split at h <;> cases h
theorem RVs.get {F : Fm} {G H : Hp} : ∀ {us : List V} {xs : List DV} {i : Nat} {x : DV}, RVs F G H us xs → xs[i]? = some x → ∃ u, us[i]? = some u ∧ RV F G H u x
  | [], [], _, _, _, e => by simp at e
  | _ :: _, _ :: _, 0, _, h, e => by simp at e; subst e; exact ⟨_, rfl, h.1⟩
  | _ :: _, _ :: _, i + 1, x, h, e => by
    obtain ⟨u, h1, h2⟩ := RVs.get (i := i) (x := x) h.2 (by simpa using e)
    exact ⟨u, by simpa using h1, h2⟩
  | [], _ :: _, _, _, h, _ => h.elim
  | _ :: _, [], _, _, h, _ => h.elim
theorem sl_start {F : Fm} {G H : Hp} {N : List Str} {us : List V} {ds : List DV} {m : Nat} (r : RVs F G H us ds) (p : Plains ds) (hm : N.length = ds.length + m) : SL F G H (L2.start N us) (startD m ds) := by
  have l := RVs.len r
  refine ⟨?_, fun i x e => ?_, fun a b xs ys _ ha _ => ?_⟩
  · unfold L2.start startD
    rw [List.length_append, List.length_append, List.length_map, List.length_map, List.length_replicate, List.length_replicate]
    omega
  · obtain ⟨u, h1, h2⟩ := RVs.get r (getD_map e)
    refine ⟨u, ?_, h2⟩
    unfold L2.start
    have hi : i < us.length := by
      by_cases h : i < us.length
      · exact h
      · rw [List.getElem?_eq_none (by omega)] at h1
        cases h1
    rw [List.getElem?_append_left (by rw [List.length_map]; exact hi), List.getElem?_map, h1] <;> rfl
  · have := p _ (List.mem_of_getElem? (getD_map ha))
    exact this.elim
/-- the body of a def that keeps spT -/
theorem pure_T {K : PySem.W.Frag} {n : Nat} {T : TD} {N : List Str} {m : Nat} {vs : List V} {H : Hp} {Q : VK} {E : XK} {t : TS} (h : spT K n T vs H Q E) (hm : N.length = n + m)
    (w : ∀ (F : Fm) (ds : List DV) (Xp : XP) (P : DV → Prop), F.K = K → ds.length = n → Plains ds → T ds Xp P → WS F E t (startD m ds) Xp { nx := fun _ => P DN, rt := P }) : t { nx := fun _ H' => Q .non H', rt := Q } (L2.start N vs) H := by
  obtain ⟨G, ds, Xp, P, g, l, pl, r, ht, xs, q⟩ := h
  have gh : Ex G (Rs (F0 K H).S H) := by
    show Ex G (Rs (fun _ => false) H)
    rw [rs0]
    exact g
  have iv : (F0 K H).I H := fun _ h => h
  refine w (F0 K H) ds Xp P rfl l pl ht ⟨G, H, G⟩ (L2.start N vs) H G _ ⟨fun _ h => h, ⟨Stp.refl iv gh, Ex.refl G⟩, sl_start r pl (by rw [l]; exact hm), xs⟩ ?_
  exact ⟨fun σ' δ' H' G' r' _ p => q .non DN H' G' r'.st (.d .non) p, fun u x H' G' r' rv p => q u x H' G' r'.st rv p, fun _ _ _ _ _ _ p => p.elim, fun _ _ _ _ _ _ p => p.elim⟩

section
variable {F : Fm} {X : XW} {δ : DSt} {Xp : XP} {P : DV → Prop} {te : TE}
theorem et_yes {Pb : Bool → Prop} (p : Pb true) : ET F X tYes δ Xp Pb := fun σ H G c Q q => q true H G c.here p
theorem et_true {Pb : Bool → Prop} (h : ED F X te δ Xp fun x => ∃ b, (∀ G H u, Ex G (Rs F.S H) → RV F G H u x → TruV F.K u H b) ∧ Pb b) : ET F X (fun σ H Q => te σ H fun x H' => ∃ k, TruV F.K x H' k ∧ Q k H') δ Xp Pb := fun σ H G c Q q =>
  h σ H G c _ fun u x H1 G1 s1 r1 ⟨b, hb, p⟩ => ⟨b, hb G1 H1 u s1.gh r1, q b H1 G1 s1 p⟩
end

/-! ### exceptions -/
/-- raise of a made exception -/
abbrev tRz (W : WX) (t : L2.St → Hp → XK → Prop) : TS := fun _ σ H => t σ H fun cls d H' => W cls d σ H'
section
variable {F : Fm} {X : XK} {δ : DSt} {Xp : XP} {E : DE} {ta : TA}
/-- raise C() -/
def tMk0 (C : Addr) : L2.St → Hp → XK → Prop := fun _ H Q => Q (.ref C) none H
theorem ws_raise0 {C : Addr} (p : Xp C []) : WS F X (tRz (fun cls d _ H => X cls d H) (tMk0 C)) δ Xp E := fun B σ H G D w s => (w.xs C [] G H w.st.st p).1 rfl
/-- an own __init__ that stores its arguments under these names, in order -/
def spInit (C : Addr) (names : List Str) : Sp := fun vs H Q _ => ∃ (a : Addr) (ys : List V), vs = .ref a :: ys ∧ ys.length = names.length ∧ H a = some (exo a C none) ∧
  ∀ dx, H dx = none → dx ≠ a → ∀ H', H' a = some (exo a C (some dx)) → H' dx = some (exd dx (names.zip ys).reverse) → (∀ b, b ≠ a → b ≠ dx → H' b = H b) → Q .non H'
theorem ws_raiseI {C : Addr} {names : List Str} (hn : names.length ≤ 1000) (h : EA F (fun _ => X) ta δ Xp fun xs => xs.length = names.length ∧ Xp C (names.zip xs).reverse) : WS F X (tRz (fun cls d _ H => X cls d H) (tMkO C (spInit C names) [] ta)) δ Xp E := fun B σ H G D w s =>
  h σ H G w.cur _ fun us xs H1 G1 s1 r1 ⟨l, p⟩ => by
    have lu := RVs.len r1
    refine ⟨by omega, fun a ha => ?_⟩
    rw [List.append_nil]
    refine ⟨a, us, rfl, by omega, upd_same, fun dx hd hda H2 e1 e2 e3 => ⟨rfl, dx, _, e1, e2, ?_, ?_⟩⟩
    · rw [upd_ne hda] at hd
      exact hd
    · rw [upd_ne hda] at hd
      have eq : upd (del H2 a) dx (.xd (names.zip us).reverse) = upd H1 dx (.xd (names.zip us).reverse) := by
        funext b
        by_cases hb : b = dx
        · subst hb
          rw [upd_same, upd_same]
        · rw [upd_ne hb, upd_ne hb]
          by_cases hba : b = a
          · subst hba
            rw [del_same, ha]
          · rw [del_ne hba, e3 b hba hb, upd_ne hba]
      rw [eq]
      have s2 : Stp F G1 H1 (upd G1 dx (.xd (names.zip us).reverse)) (upd H1 dx (.xd (names.zip us).reverse)) := stp_new s1.inv s1.gh hd
      refine (w.xs C _ _ _ (w.st.st.trans (s1.trans s2)) p).2 dx _ upd_same ?_ ?_
      · rw [List.map_reverse, List.map_reverse, List.map_fst_zip (by omega), List.map_fst_zip (by omega)]
      · rw [List.map_reverse, List.map_reverse, List.map_snd_zip (by omega), List.map_snd_zip (by omega)]
        have rev : ∀ {G' H' : Hp} {us : List V} {xs : List DV}, RVs F G' H' us xs → RVs F G' H' us.reverse xs.reverse := by
          intro G' H' us
          induction us with
          | nil =>
            intro xs r
            cases xs with
            | nil => exact r
            | cons _ _ => exact r.elim
          | cons u us ih =>
            intro xs r
            cases xs with
            | nil => exact r.elim
            | cons x xs =>
              rw [List.reverse_cons, List.reverse_cons]
              exact (ih r.2).append ⟨r.1, trivial⟩
        exact rev (r1.step s2)
end
/-- the fields that an error bears, read off its dict -/
theorem lookup_rv {F : Fm} {G H : Hp} {f : Str} : ∀ {fv : List (Str × V)} {fs : List (Str × DV)} {x : DV}, fv.map (·.1) = fs.map (·.1) → RVs F G H (fv.map (·.2)) (fs.map (·.2)) → fs.lookup f = some x → ∃ u, fv.lookup f = some u ∧ RV F G H u x
  | [], [], _, _, _, h => by cases h
  | (g, u) :: fv, (g', y) :: fs, x, e, r, h => by
    have e' : g = g' ∧ fv.map (·.1) = fs.map (·.1) := by simpa using e
    obtain ⟨rfl, e2⟩ := e'
    have r' : RV F G H u y ∧ RVs F G H (fv.map (·.2)) (fs.map (·.2)) := r
    by_cases hf : f == g
    · have h' : some y = some x := by simpa [List.lookup, hf] using h
      cases h'
      exact ⟨u, by simp [List.lookup, hf], r'.1⟩
    · have hf' : (f == g) = false := by simpa using hf
      have h' : fs.lookup f = some x := by simpa [List.lookup, hf'] using h
      obtain ⟨w, h1, h2⟩ := lookup_rv e2 r'.2 h'
      exact ⟨w, by simp [List.lookup, hf', h1], h2⟩
  | [], _ :: _, _, e, _, _ => by simp at e
  | _ :: _, [], _, e, _, _ => by simp at e
end DL

/-! # The head's facts by one test of the written part -/
namespace DLH
open PySem PySem.Spec PyProof.Rows L2 He
def obsZ (ex : PySem.W.Frag → Bool) (fn : List DefD) (K : PySem.W.Frag) : AlD := (ex K && fn.all fun d => d.ok K, fn.map fun d => fnW K d.at_)
def SaysZ (ex : PySem.W.Frag → Bool) (fn : List DefD) (K : PySem.W.Frag) : Prop := obsZ ex fn K = valD fn
def obsZG (n : Nat) (ex : PySem.W.Frag → Bool) (fn : List DefD) (g : Addr → Option Obj) : AlD := obsZ ex fn (frG g (asD g n))
def hookZ (n : Nat) (ex : PySem.W.Frag → Bool) (fn : List DefD) : PySem.W.Hook where
  α := AlD
  obs := fun s => obsZG n ex fn s.heap.get?
  val := fun _ => valD fn
  says := fun _ h => ∃ K : PySem.W.Frag, K.In h ∧ SaysZ ex fn K
  of := fun _ _ e => ⟨_, frG_in, e⟩
  keeps := fun _ _ _ ⟨K, hK, c⟩ k => ⟨K, PySem.W.Frag.In.keeps hK k, c⟩
theorem obsZG_eq {n : Nat} {ex : PySem.W.Frag → Bool} {fn : List DefD} {g : Addr → Option Obj} {s : Shared} (h : ∀ a, g a = s.heap.get? a) : obsZG n ex fn g = (hookZ n ex fn).obs s := by
  have e : g = s.heap.get? := funext h
  rw [e] <;> rfl
section
variable {exF : PySem.W.Frag → Bool} {fn : List DefD} {K : PySem.W.Frag}
theorem SaysZ.fact (c : SaysZ exF fn K) : exF K = true := (ba (show (exF K && fn.all fun d => d.ok K) = true from congrArg (fun z : AlD => z.1) c)).1
theorem SaysZ.def_ (c : SaysZ exF fn K) (i : Nat) {d : DefD} (h : fn[i]? = some d := by rfl) : ∃ fd, FunD K d.name d.qual d.params d.body d.scope (d.dvs K) (d.kws K) (fAd K d.at_) fd := by
  have c2 := (ba (show (exF K && fn.all fun d => d.ok K) = true from congrArg (fun z : AlD => z.1) c)).2
  have e : fn.map (fun d => fnW K d.at_) = fn.map DefD.val := congrArg (fun z : AlD => z.2) c
  have e2 : (fn.map fun d => fnW K d.at_)[i]? = (fn.map DefD.val)[i]? := by rw [e]
  rw [List.getElem?_map, List.getElem?_map, h] at e2
  exact DefD.funD (Option.some.inj e2) (List.all_eq_true.mp c2 d (List.mem_of_getElem? h))
end
def binB (K : PySem.W.Frag) (x : Str) (id : String) : Bool := match PySem.W.nsIn K mainGlobals x with
  | some (some (.builtin i)) => decide (i = id)
  | _ => false
theorem binB_ok {K : PySem.W.Frag} {h : Heap} {mg : Str → Option Value} (X : K.In h) (G : h.Ns mainGlobals mg) {x : Str} {id : String} (c : binB K x id = true) : mg x = some (.builtin id) := by
  unfold binB at c
  cases e : PySem.W.nsIn K mainGlobals x with
  | none =>
    rw [e] at c
    cases c
  | some r =>
    cases r with
    | none =>
      rw [e] at c
      cases c
    | some u =>
      rw [e] at c
      cases u with
      | builtin i =>
        have e2 : i = id := of_decide_eq_true c
        subst e2
        exact PySem.W.mg_of X G e
      | _ => cases c
/-- an error class with an own __init__ -/
def oexB (K : PySem.W.Frag) (C : Addr) : Bool := (match K.lookup C with
  | some ⟨.type "type", _, .cls cd, sl⟩ => (match cd.mro, sl.toList with
    | .ref C' :: bm, [_, _, _, _, some (.builtin n), _] => C' == C && (n == "ValueError.__new__" && (!cd.hasDel && (cd.hasDict && PySem.HandSPX.refsVE bm)))
    | _, _ => false)
  | _ => false) && (eqO (PySem.W.findIn K (.ref C) "__setattr__") (some (some (.builtin "object.__setattr__"))) && (decide (PySem.W.subIn K (.ref C) (.type "BaseException") = some true) && (decide (PySem.W.typeIn K (.ref C) = some (.type "type")) && PySem.W.keepIn K (.ref C))))
theorem oexB_ok {K : PySem.W.Frag} {C : Addr} (h : oexB K C = true) : OexC K C := by
  obtain ⟨h1, h⟩ := ba h
  obtain ⟨h2, h⟩ := ba h
  obtain ⟨h3, h⟩ := ba h
  obtain ⟨h4, h5⟩ := ba h
  refine ⟨?_, eqO_ok h2, of_decide_eq_true h3, of_decide_eq_true h4, h5⟩
  split at h1
  · rename_i dd cd sl ho
    split at h1
    · rename_i C' bm k0 k1 k2 k3 n k5 hm hs
      simp only [Bool.and_eq_true, beq_iff_eq, Bool.not_eq_true'] at h1
      obtain ⟨rfl, rfl, hdel, hdc, hve⟩ := h1
      obtain ⟨nm, bs, mro, ns, qn, hd, sn, sub, ab, col, del⟩ := cd
      dsimp only at hm hdel hdc
      subst hm hdel hdc
      have hsl : sl = #[k0, k1, k2, k3, some (.builtin "ValueError.__new__"), k5] := by
        obtain ⟨l⟩ := sl
        simp only at hs
        rw [hs]
      subst hsl
      exact ⟨nm, qn, ns, bs, bm, sn, sub, ab, col, dd, k0, k1, k2, k3, k5, ho, hve⟩
    · cases h1
  · cases h1
end DLH

namespace DLH
open PySem PySem.Spec PyProof.Rows L2 He
/-- a def of the module, its promise, how its arguments bind: dvs, the defaults that fill up -/
structure FnR (P : Program) (w : World) (K : PySem.W.Frag) (mg : Str → Option Value) (base : Heap) (CX : CXT) (k : Nat) (x : Str) (ps : List Str) (dvs : List V) (sp : Sp) : Prop where
  ex : ∃ fd ds, FnOk P w K mg base CX k (ga K x) fd ps sp ∧ Vals dvs ds ∧ Binds K fd ps ds
  gm : mg x = some (.ref (ga K x))
  kp : PySem.W.keepIn K (.ref (ga K x)) = true
/-- the same with keywords -/
structure FnN (P : Program) (w : World) (K : PySem.W.Frag) (mg : Str → Option Value) (base : Heap) (CX : CXT) (k : Nat) (x : Str) (ps : List Str) (n : Nat) (ks : List Str) (gV : List V → List V → List V) (sp : Sp) : Prop where
  ex : ∃ fd g, FnOk P w K mg base CX k (ga K x) fd ps sp ∧ KBn K fd ps n ks g gV
  gm : mg x = some (.ref (ga K x))
  kp : PySem.W.keepIn K (.ref (ga K x)) = true
/-- an error class whose __init__ stores its arguments -/
structure FnI (P : Program) (w : World) (K : PySem.W.Frag) (mg : Str → Option Value) (base : Heap) (k : Nat) (x : Str) (names : List Str) : Prop where
  cls : OexC K (ga K x)
  ini : PySem.W.findIn K (.ref (ga K x)) "__init__" = some (some (.ref (ma K (ga K x) "__init__")))
  ty : PySem.W.typeIn K (.ref (ma K (ga K x) "__init__")) = some (.type "function")
  gm : mg x = some (.ref (ga K x))
  ex : ∃ fd, FnOk P w K mg base CX0 k (ma K (ga K x) "__init__") fd ("self" :: names) (DL.spInit (ga K x) names) ∧ Binds K fd ("self" :: names) []
section
variable {X : Cx} {CX : CXT} {k : Nat} {ps : List Str} {sp : Sp} {dvs : List V} {E : XK} {x : Str} {p pos : Pos} {e : Expr} {es : List Expr} {t : TA}
theorem pe_callF (R : FnR X.prog X.w X.K X.mg X.base CX k x ps dvs sp) (hr : Room k X.A) (hx : Passes CX X E) (ha : PA X (e :: es) t) (hg : Gl X x := by rfl) (hdb : (x == ("__debug__" : Str)) = false := by decide)
    (he : starEach (e :: es) X.env = (false, eval e X.env) :: starEach es X.env := by rfl) (hpl : (backTo pos (starEach es X.env)).any (·.1) = false := by rfl) : PE X (.Call (.Name x p) (e :: es) [] pos) (tCall sp dvs E t) := by
  obtain ⟨fd, ds, F, v, b⟩ := R.ex
  exact pe_call F hr hg R.gm R.kp b v hx ha hdb he hpl
theorem pe_callF0 (R : FnR X.prog X.w X.K X.mg X.base CX k x ps dvs sp) (hr : Room k X.A) (hx : Passes CX X E) (hg : Gl X x := by rfl) (hdb : (x == ("__debug__" : Str)) = false := by decide) : PE X (.Call (.Name x p) [] [] pos) (tCall sp dvs E tNil) := by
  obtain ⟨fd, ds, F, v, b⟩ := R.ex
  exact pe_call0 F hr hg R.gm R.kp b v hx hdb
theorem pe_callSF {Es : L2.St → XK} (R : FnR X.prog X.w X.K X.mg X.base CX k x ps [] sp) (hr : Room k X.A) (hx : ∀ σ, PassesAt CX X σ (Es σ)) (ha : PA X (e :: es) t) (hg : Gl X x := by rfl) (hdb : (x == ("__debug__" : Str)) = false := by decide)
    (he : starEach (e :: es) X.env = (false, eval e X.env) :: starEach es X.env := by rfl) (hpl : (backTo pos (starEach es X.env)).any (·.1) = false := by rfl) : PE X (.Call (.Name x p) (e :: es) [] pos) (tCallS sp Es t) := by
  obtain ⟨fd, ds, F, v, b⟩ := R.ex
  cases v
  exact pe_callS F hr hg R.gm R.kp b hx ha hdb he hpl
theorem pe_callKF {n : Nat} {ks : List Str} {gV : List V → List V → List V} {kws : List Keyword} {tk : TA} (R : FnN X.prog X.w X.K X.mg X.base CX k x ps n ks gV sp) (hr : Room k X.A) (hx : Passes CX X E) (ha : PA X (e :: es) t) (hkw : PK X kws tk) (hg : Gl X x := by rfl)
    (hall : (backToKw pos (keywordEach kws X.env)).all (·.1.isSome) = true := by rfl) (hks : (backToKw pos (keywordEach kws X.env)).filterMap (·.1) = ks := by rfl)
    (hdb : (x == ("__debug__" : Str)) = false := by decide) (he : starEach (e :: es) X.env = (false, eval e X.env) :: starEach es X.env := by rfl)
    (hpl : ((backTo pos (starEach (e :: es) X.env)).any (·.1) || (backToKw pos (keywordEach kws X.env)).any (·.1.isNone)) = false := by rfl) :
    PE X (.Call (.Name x p) (e :: es) kws pos) (tCallN n ks.length sp gV E t tk) := by
  obtain ⟨fd, g, F, b⟩ := R.ex
  exact pe_callN F hr hg R.gm R.kp b hx ha hkw hall hks hdb he hpl
theorem pmk_oexF {names : List Str} (R : FnI X.prog X.w X.K X.mg X.base k x names) (hr : Room (k + 1) X.A) (ha : PA X (e :: es) t) (hg : Gl X x := by rfl) (hdb : (x == ("__debug__" : Str)) = false := by decide)
    (he : starEach (e :: es) X.env = (false, eval e X.env) :: starEach es X.env := by rfl) (hpl : (backTo pos (starEach es X.env)).any (·.1) = false := by rfl) :
    PMk X (.Call (.Name x p) (e :: es) [] pos) (tMkO (ga X.K x) (DL.spInit (ga X.K x) names) [] t) := by
  obtain ⟨fd, F, b⟩ := R.ex
  exact pmk_oex (CX := CX0) R.cls R.ini R.ty F hr b .nil pass0 hg R.gm ha hdb he hpl
end
abbrev FnP (K : PySem.W.Frag) (x : Str) (st : Stmt) (dvs : List V) (fd : FuncData) : Prop := FunD K x x (defArgs st) (defBody st) (defScope st) dvs [] (ga K x) fd
/-- the body of a def that nothing leaves -/
theorem FunD.ok0 {P : Program} {w : World} {K : PySem.W.Frag} {mg : Str → Option Value} {base : Heap} {x qual : Str} {params : Arguments} {body : List Stmt} {scope : Scope} {dvs : List V} {kws : List (Str × V)} {f : Addr} {fd : FuncData} {N ps : List Str} {k n : Nat} {T : DL.TD} {t : TS}
    (F : FunD K x qual params body scope dvs kws f fd) (S : FnScope N ps scope) (hn : n = ps.length) (ht : ∀ (cdv : Value) (A : Around) (outer : List Env) (s : Shared) (H : Hp) (E : XK), Room k (A.deeper (envOfC qual scope s.heap.objs.size f cdv)) → PSs (cxOf CX0 P w K mg base N qual scope f cdv A outer s H E).nox body t)
    (hw : ∀ (vs : List V) (H : Hp) (Q : VK) (E : XK), DL.spT K n T vs H Q E → t { nx := fun _ H' => Q .non H', rt := Q } (start N vs) H) : FnOk P w K mg base CX0 (k + 1) f fd ps (DL.spT K n T) := by
  refine FunD.ok F S (fun vs H Q E h => by rw [← hn]; exact DL.spT_len h) (fun cdv A outer s H vs Q E hr h => ⟨t, PSs.nox (ht cdv A outer s H E hr), hw vs H Q E h⟩)
/-- the body of a def that may raise -/
theorem FunD.okX {P : Program} {w : World} {K : PySem.W.Frag} {mg : Str → Option Value} {base : Heap} {x qual : Str} {params : Arguments} {body : List Stmt} {scope : Scope} {dvs : List V} {kws : List (Str × V)} {f : Addr} {fd : FuncData} {N ps : List Str} {k n : Nat} {T : DL.TD} {t : XK → TS}
    (F : FunD K x qual params body scope dvs kws f fd) (S : FnScope N ps scope) (hn : n = ps.length) (ht : ∀ (cdv : Value) (A : Around) (outer : List Env) (s : Shared) (H : Hp) (E : XK), Room k (A.deeper (envOfC qual scope s.heap.objs.size f cdv)) → PSs (cxOf (L2.CX P w) P w K mg base N qual scope f cdv A outer s H E) body (t E))
    (hw : ∀ (vs : List V) (H : Hp) (Q : VK) (E : XK), DL.spT K n T vs H Q E → t E { nx := fun _ H' => Q .non H', rt := Q } (start N vs) H) : FnOk P w K mg base (L2.CX P w) (k + 1) f fd ps (DL.spT K n T) := by
  refine FunD.ok F S (fun vs H Q E h => by rw [← hn]; exact DL.spT_len h) (fun cdv A outer s H vs Q E hr h => ⟨t E, ht cdv A outer s H E hr, hw vs H Q E h⟩)
end DLH

namespace DL
open PySem L2
open Evl (Ex Ex.refl Ex.trans Ex.new)
section
variable {F : Fm} {X : XW} {δ : DSt} {Xp : XP} {P : DV → Prop}
/-- a call of a name that holds a def -/
theorem ed_callA {i n : Nat} {f : Addr} {S : Addr → Option Sp} {T : TD} {ta : TA} (h : δ[i]? = some (some (.v (.ref f)))) (hS : S f = some (spT F.K n T)) (ht : EA F X ta δ Xp fun xs => xs.length = n ∧ Plains xs ∧ T xs X0 fun z => Plain z ∧ P z) : ED F X (tCallA i S ta) δ Xp P := fun σ H G c Q q => by
  obtain ⟨u, hu, r⟩ := c.sl.at_ i _ h
  obtain rfl : u = .ref f := r
  refine ⟨f, _, hu, hS, ?_⟩
  have k := ed_call (E := fun _ _ _ => False) ht σ H G c Q q
  have e0 : (fun (vs : List V) (H1 : Hp) => spT F.K n T (vs ++ []) H1 Q (fun _ _ _ => False)) = fun vs H1 => spT F.K n T vs H1 Q (fun _ _ _ => False) := by
    funext vs H1
    rw [List.append_nil]
  have k' : ta σ H (fun (vs : List V) (H1 : Hp) => spT F.K n T (vs ++ []) H1 Q (fun _ _ _ => False)) := k
  rw [e0] at k'
  exact k'
/-- keywords: gV puts the values in the parameters' order; gD the same of data -/
theorem ed_callN {n m k : Nat} {T : TD} {gV : List V → List V → List V} {gD : List DV → List DV → List DV} {E : XK} {ta tk : TA} (hg : ∀ F' : Fm, F'.K = F.K → ∀ G H us xs ws ys, RVs F' G H us xs → RVs F' G H ws ys → RVs F' G H (gV us ws) (gD xs ys))
    (h : EA F X ta δ Xp fun xs => EA F X tk δ Xp fun ys => xs.length = n ∧ ys.length = m ∧ (gD xs ys).length = k ∧ Plains xs ∧ Plains ys ∧ Plains (gD xs ys) ∧ T (gD xs ys) X0 fun z => Plain z ∧ P z) : ED F X (tCallN n m (spT F.K k T) gV E ta tk) δ Xp P := fun σ H G c Q q =>
  h σ H G c _ fun us xs H1 G1 s1 r1 h1 => h1 σ H1 G1 (c.step s1) _ fun ws ys H2 G2 s2 r2 ⟨l1, l2, l3, p1, p2, p3, t⟩ => by
    refine ⟨(RVs.len r1).trans l1, (RVs.len r2).trans l2, ?_⟩
    refine ⟨G2, gD xs ys, X0, _, s2.gh.trans Rs.sub, l3, p3, hg (F0 F.K H2) rfl G2 H2 us xs ws ys (rvs_plain (F' := F0 F.K H2) (by rfl) p1 (r1.step s2)) (rvs_plain (by rfl) p2 r2), t, fun _ _ _ _ _ h => h.elim, fun u x H3 G3 s3 r3 p => ?_⟩
    exact q u x H3 G3 ((s1.trans s2).trans (stp_of0 s2.inv s3 s2.gh)) (rv_plain (by rfl) p.1 r3) p.2
/-- e.f, e a caught error's name -/
theorem ed_xf {i : Nat} {a d C : Addr} {fs : List (Str × PyData)} {f : Str} {y : PyData} (h : δ[i]? = some (some (.x a d fs))) (hf : fs.lookup f = some y) (p : P (.d y)) : ED F X (tXf a (.ref C) (some d) C f (tVar i)) δ Xp P := fun σ H G c Q q => by
  obtain ⟨u, hu, rfl, fv, hd, hn, ha⟩ := c.sl.at_ i _ h
  have hd' := Rs.sub d _ (c.gh d _ hd)
  have look : ∀ {fv : List (Str × V)} {fs : List (Str × PyData)}, fv.map (·.1) = fs.map (·.1) → DpAll F.K G (fv.map (·.2)) (fs.map (·.2)) → fs.lookup f = some y → ∃ u, fv.lookup f = some u ∧ Dp F.K G u y := by
    intro fv
    induction fv with
    | nil =>
      intro fs e _ l
      cases fs with
      | nil => cases l
      | cons _ _ => simp at e
    | cons g fv ih =>
      intro fs e a l
      cases fs with
      | nil => simp at e
      | cons g' fs =>
        obtain ⟨g, v⟩ := g
        obtain ⟨g', z⟩ := g'
        have e' : g = g' ∧ fv.map (·.1) = fs.map (·.1) := by simpa using e
        obtain ⟨rfl, e2⟩ := e'
        cases a with
        | cons a1 a2 =>
          by_cases hfg : f == g
          · have h' : some z = some y := by simpa [List.lookup, hfg] using l
            cases h'
            exact ⟨v, by simp [List.lookup, hfg], a1⟩
          · have hf' : (f == g) = false := by simpa using hfg
            have h' : fs.lookup f = some y := by simpa [List.lookup, hf'] using l
            obtain ⟨w, h1, h2⟩ := ih e2 a2 h'
            exact ⟨w, by simp [List.lookup, hf', h1], h2⟩
  obtain ⟨v, hv, dv⟩ := look hn ha hf
  exact ⟨_, hu, rfl, rfl, d, fv, v, rfl, hd', hv, q v _ H G c.here (.d dv) p⟩
end
section
variable {F : Fm} {X : XK} {δ : DSt} {Xp : XP} {E : DE}
theorem xs_x {C : Addr} {fs : List (Str × PyData)} {G H : Hp} {a d : Addr} {fv : List (Str × V)} (hd : G d = some (.xd fv)) (hn : fv.map (·.1) = (fs.map fun q => (q.1, DV.d q.2)).map (·.1)) (hr : RVs F G H (fv.map (·.2)) ((fs.map fun q => (q.1, DV.d q.2)).map (·.2))) : RV F G H (.ref a) (.x a d fs) := by
  refine ⟨rfl, fv, hd, by rw [hn, List.map_map] <;> rfl, ?_⟩
  have : ∀ {us : List V} {ys : List PyData}, RVs F G H us (ys.map DV.d) → DpAll F.K G us ys := by
    intro us
    induction us with
    | nil =>
      intro ys r
      cases ys with
      | nil => exact .nil
      | cons _ _ => exact r.elim
    | cons u us ih =>
      intro ys r
      cases ys with
      | nil => exact r.elim
      | cons y ys => exact .cons r.1 (ih r.2)
  refine this ?_
  have e : (fs.map fun q => (q.1, DV.d q.2)).map (·.2) = (fs.map (·.2)).map DV.d := by simp
  rw [e] at hr
  exact hr
/-- try: return e  except C as n: suite -/
theorem ws_tryAsR {i : Nat} {c : Value} {te : WX → TE} {ts : Addr → Value → Option Addr → TS} {Wout : WX} (Xe : XP) (hb : ∀ W : WX, ED F (fun σ cls d H => W cls d σ H) (te W) δ Xe E.rt)
    (hh : ∀ C fs, Xe C fs → PySem.W.exmOne F.K (.ref C) c = some true ∧ ∃ fsD : List (Str × PyData), fs = fsD.map (fun q => (q.1, DV.d q.2)) ∧ fs ≠ [] ∧
      ∀ a d, WS F X (ts a (.ref C) (some d)) (δ.set i (some (.x a d fsD))) Xp { nx := fun δ' => E.nx (δ'.set i none), rt := E.rt, bk := fun δ' => E.bk (δ'.set i none), ct := fun δ' => E.ct (δ'.set i none) }) :
    WS F X (fun D σ H => tRet (te (wAs F.K c i ts Wout D)) D σ H) δ Xp E := fun B σ H G D w s => by
  refine hb _ σ H G ⟨w.st.st.inv, w.st.st.gh, w.sl, fun C fs G' H' st hx => ?_⟩ _ fun u x H1 G1 s1 r1 p => s.rt u x H1 G1 (w.st.go s1) r1 p
  obtain ⟨he, fsD, e, ne, k⟩ := hh C fs hx
  refine ⟨fun z => absurd z ne, fun d fv hd hn hr => ⟨true, he, fun _ a ha => ?_, fun z => by cases z⟩⟩
  subst e
  have rx : RV F G' H' (.ref a) (.x a d fsD) := xs_x (C := C) hd hn hr
  refine k a d B (σ.set i (some (.ref a))) H' G' _ (w.go st (sl_set (w.sl.step st) (x := .x a d fsD) trivial rx)) ?_
  exact ⟨fun σ' δ' H2 G2 r2 l2 p => s.nx _ _ H2 G2 r2 (sl_wipe1 l2) p, s.rt, fun σ' δ' H2 G2 r2 l2 p => s.bk _ _ H2 G2 r2 (sl_wipe1 l2) p, fun σ' δ' H2 G2 r2 l2 p => s.ct _ _ H2 G2 r2 (sl_wipe1 l2) p⟩
/-- try: return e  except C: suite -/
theorem ws_tryOnlyR {c : Value} {te : WX → TE} {ts : Addr → Value → Option Addr → TS} {Wout : WX} (Xe : XP) (hb : ∀ W : WX, ED F (fun σ cls d H => W cls d σ H) (te W) δ Xe E.rt)
    (hh : ∀ C fs, Xe C fs → PySem.W.exmOne F.K (.ref C) c = some true ∧ ∀ a d, WS F X (ts a (.ref C) d) δ Xp E) :
    WS F X (fun D σ H => tRet (te (wOnly F.K c ts Wout D)) D σ H) δ Xp E := fun B σ H G D w s => by
  refine hb _ σ H G ⟨w.st.st.inv, w.st.st.gh, w.sl, fun C fs G' H' st hx => ?_⟩ _ fun u x H1 G1 s1 r1 p => s.rt u x H1 G1 (w.st.go s1) r1 p
  obtain ⟨he, k⟩ := hh C fs hx
  exact ⟨fun _ => ⟨true, he, fun _ a ha => k a none B σ H' G' D (w.go st (w.sl.step st)) s, fun z => by cases z⟩,
    fun d fv hd hn hr => ⟨true, he, fun _ a ha => k a (some d) B σ H' G' D (w.go st (w.sl.step st)) s, fun z => by cases z⟩⟩
end
end DL

namespace DL
open PySem L2
open Evl (Ex Ex.refl Ex.trans Ex.new)
section
variable {A B : Prop}
theorem if_dec {c : Prop} [Decidable c] (h1 : c → A) (h2 : ¬ c → B) : if decide c = true then A else B := by
  by_cases h : c
  · rw [if_pos (decide_eq_true h)]
    exact h1 h
  · rw [if_neg (by rw [decide_eq_false h]; decide)]
    exact h2 h
theorem if_ndec {c : Prop} [Decidable c] (h1 : ¬ c → A) (h2 : c → B) : if (!decide c) = true then A else B := by
  by_cases h : c
  · rw [if_neg (by rw [decide_eq_true h]; decide)]
    exact h2 h
  · rw [if_pos (by rw [decide_eq_false h]; rfl)]
    exact h1 h
theorem if_t (h : A) : if true = true then A else B := by rw [if_pos rfl]; exact h
theorem if_f (h : B) : if false = true then A else B := by rw [if_neg Bool.false_ne_true]; exact h
theorem if_nt (h : B) : if (!true) = true then A else B := if_f h
theorem if_nf (h : A) : if (!false) = true then A else B := if_t h
theorem if_bool {b : Bool} (h1 : b = true → A) (h2 : b = false → B) : if b = true then A else B := by
  cases b with
  | true => exact if_t (h1 rfl)
  | false => exact if_f (h2 rfl)
end
section
variable {F : Fm} {P : DV → Prop} {i j : Int} {a b : Bool} {s t : Str} {xs ys : List PyData} {x y : PyData}
theorem eqv_int : PyData.eqv (.int i) (.int j) = decide (i = j) := by
  show (i == j) = decide (i = j)
  rfl
theorem eqv_str : PyData.eqv (.str s) (.str t) = decide (s = t) := by
  show (s == t) = decide (s = t)
  by_cases h : s = t
  · subst h; simp
  · simp [h]
theorem d2_eqI (p : P (DB (decide (i = j)))) : D2 F (rEqD F.K) (DI i) (DI j) P := d2_eq rfl rfl rfl rfl (by rw [eqv_int]; exact p)
theorem d2_neI (p : P (DB (!decide (i = j)))) : D2 F (rNeD F.K) (DI i) (DI j) P := d2_ne rfl rfl rfl rfl (by rw [eqv_int]; exact p)
theorem d2_eqG {c e : DV} (p : P (DB (PyData.eqv x y))) (hc : seen c = some x) (he : seen e = some y) (hx : SeqAt.shaped x = true) (hy : SeqAt.shaped y = true) : D2 F (rEqD F.K) c e P := d2_eq hc he hx hy p
theorem d2_neG {c e : DV} (p : P (DB (!PyData.eqv x y))) (hc : seen c = some x) (he : seen e = some y) (hx : SeqAt.shaped x = true) (hy : SeqAt.shaped y = true) : D2 F (rNeD F.K) c e P := d2_ne hc he hx hy p
theorem d2_mul' (p : P (DI (i * j))) (h : CMulW i j) : D2 F rMulU (DI i) (DI j) P := d2_mul h p
theorem d2_mulS' (p : P (DI (i * j))) (h : CMul i j) : D2 F rMulU (DI i) (DI j) P := d2_mulS h p
theorem d2_div' (p : P (DI (i / j))) (h : CDivW i j) : D2 F rDivU (DI i) (DI j) P := d2_div h p
theorem d2_mod' (p : P (DI (i % j))) (h : 0 < j) : D2 F rModU (DI i) (DI j) P := d2_mod h p
theorem d2_pow' (p : P (DI (i ^ j.toNat))) (h : CPow i j) : D2 F rPowU (DI i) (DI j) P := d2_pow h p
theorem d2_addS' (p : P (DS (s ++ t))) (h : s.length + t.length ≤ 100000) : D2 F (rAddU F.K) (DS s) (DS t) P := d2_addS h p
theorem d2_addL' (p : P (.d (.list (xs ++ ys)))) (h : xs.length + ys.length ≤ 100000) : D2 F (rAddU F.K) (.d (.list xs)) (.d (.list ys)) P := d2_addL h p
theorem dc_strI' (p : P (DS (toString i))) (h : i.natAbs.log2 < 1920) : DC F rStrU [DI i] P := dc_strI h p
theorem dc_isi' {n : String} {r : Bool} (p : P (DB r)) (h : kitB (tyName x) n = some r) : DC F (rIsi F.K) [.d x, .v (.ty n)] P := dc_isi h p
theorem ed_fmtI' {X : XW} {te : TE} {δ : DSt} {Xp : XP} (h : ED F X te δ Xp fun x => ∃ i, x = DI i ∧ P (DS (toString i)) ∧ i.natAbs.log2 < 1920) : ED F X (tFmt te) δ Xp P :=
  ed_fmtI (h.mono fun x ⟨i, e, p, b⟩ => ⟨i, e, b, p⟩)
/-- the ints ask of a product: both below bounds by powers of two -/
theorem cmul_of {a b : Nat} (ha : i.natAbs < 2 ^ a) (hb : j.natAbs < 2 ^ b) (h0 : 0 < a := by decide) (h1 : 0 < b := by decide) (h : a + b ≤ 1000000 := by decide) : CMulW i j := wide_mul ha hb h0 h1 h
theorem cdiv_of {b : Nat} (h : 0 < j) (hb : j.natAbs < 2 ^ b) (h0 : 0 < b := by decide) (h9 : b ≤ 9000 := by decide) : CDivW i j := wide_div h hb h0 h9
theorem and_pl {A : Prop} (h : A) : Plain (.d x) ∧ A := ⟨trivial, h⟩
theorem and_plv {A : Prop} {w : V} (h : A) : Plain (.v w) ∧ A := ⟨trivial, h⟩
theorem plains_d {zs : List DV} (h : Plains zs) : Plains (.d x :: zs) := plains_cons trivial h
theorem plains_v {zs : List DV} {w : V} (h : Plains zs) : Plains (.v w :: zs) := plains_cons trivial h
theorem plains1 {c : DV} (h : Plain c) : Plains [c] := plains_cons h plains_nil
/-- the data of plain values -/
def toD : List DV → Option (List PyData)
  | [] => some []
  | .d x :: xs => (toD xs).map (x :: ·)
  | _ => none
theorem allD_of : ∀ {xs : List DV} {ys : List PyData}, toD xs = some ys → AllD xs ys
  | [], ys, h => by
    cases h
    trivial
  | .d x :: xs, ys, h => by
    have h' : (toD xs).map (x :: ·) = some ys := h
    cases e : toD xs with
    | none => rw [e] at h'; cases h'
    | some zs =>
      rw [e] at h'
      cases h'
      exact ⟨rfl, allD_of e⟩
  | .v _ :: _, _, h => by cases h
  | .o _ :: _, _, h => by cases h
  | .x _ _ _ :: _, _, h => by cases h
  | .p _ _ :: _, _, h => by cases h
theorem tup_fin {xs : List DV} {ys : List PyData} (h : toD xs = some ys) (p : P (.d (.tuple ys))) (l : ys.length ≤ 100000) : ∃ ys, AllD xs ys ∧ ys.length ≤ 100000 ∧ P (.d (.tuple ys)) := ⟨ys, allD_of h, l, p⟩
theorem lst_fin {xs : List DV} {ys : List PyData} (h : toD xs = some ys) (p : P (.d (.list ys))) (l : ys.length ≤ 100000) : ∃ ys, AllD xs ys ∧ ys.length ≤ 100000 ∧ P (.d (.list ys)) := ⟨ys, allD_of h, l, p⟩
end
/-! ### isinstance of data -/
section
variable {F : Fm} {P : DV → Prop}
theorem ed_ref {X : XW} {δ : DSt} {Xp : XP} {a : Addr} (p : P (.v (.ref a))) : ED F X (tC (.ref a)) δ Xp P := ed_raw p
theorem ed_ty {X : XW} {δ : DSt} {Xp : XP} {n : String} (p : P (.v (.ty n))) : ED F X (tC (.ty n)) δ Xp P := ed_raw p
theorem dc_isi_i_int {i : Int} (p : P (DB true)) : DC F (rIsi F.K) [.d (.int i), .v (.ty "int")] P := dc_isi' p (show kitB "int" "int" = some true by decide +kernel)
theorem dc_isi_i_bool {i : Int} (p : P (DB false)) : DC F (rIsi F.K) [.d (.int i), .v (.ty "bool")] P := dc_isi' p (show kitB "int" "bool" = some false by decide +kernel)
theorem dc_isi_i_str {i : Int} (p : P (DB false)) : DC F (rIsi F.K) [.d (.int i), .v (.ty "str")] P := dc_isi' p (show kitB "int" "str" = some false by decide +kernel)
theorem dc_isi_i_list {i : Int} (p : P (DB false)) : DC F (rIsi F.K) [.d (.int i), .v (.ty "list")] P := dc_isi' p (show kitB "int" "list" = some false by decide +kernel)
theorem dc_isi_i_tuple {i : Int} (p : P (DB false)) : DC F (rIsi F.K) [.d (.int i), .v (.ty "tuple")] P := dc_isi' p (show kitB "int" "tuple" = some false by decide +kernel)
theorem dc_isi_b_int {b : Bool} (p : P (DB true)) : DC F (rIsi F.K) [.d (.bool b), .v (.ty "int")] P := dc_isi' p (show kitB "bool" "int" = some true by decide +kernel)
theorem dc_isi_b_bool {b : Bool} (p : P (DB true)) : DC F (rIsi F.K) [.d (.bool b), .v (.ty "bool")] P := dc_isi' p (show kitB "bool" "bool" = some true by decide +kernel)
theorem dc_isi_b_str {b : Bool} (p : P (DB false)) : DC F (rIsi F.K) [.d (.bool b), .v (.ty "str")] P := dc_isi' p (show kitB "bool" "str" = some false by decide +kernel)
theorem dc_isi_b_list {b : Bool} (p : P (DB false)) : DC F (rIsi F.K) [.d (.bool b), .v (.ty "list")] P := dc_isi' p (show kitB "bool" "list" = some false by decide +kernel)
theorem dc_isi_b_tuple {b : Bool} (p : P (DB false)) : DC F (rIsi F.K) [.d (.bool b), .v (.ty "tuple")] P := dc_isi' p (show kitB "bool" "tuple" = some false by decide +kernel)
theorem dc_isi_n_int  (p : P (DB false)) : DC F (rIsi F.K) [.d .none, .v (.ty "int")] P := dc_isi' p (show kitB "NoneType" "int" = some false by decide +kernel)
theorem dc_isi_n_bool  (p : P (DB false)) : DC F (rIsi F.K) [.d .none, .v (.ty "bool")] P := dc_isi' p (show kitB "NoneType" "bool" = some false by decide +kernel)
theorem dc_isi_n_str  (p : P (DB false)) : DC F (rIsi F.K) [.d .none, .v (.ty "str")] P := dc_isi' p (show kitB "NoneType" "str" = some false by decide +kernel)
theorem dc_isi_n_list  (p : P (DB false)) : DC F (rIsi F.K) [.d .none, .v (.ty "list")] P := dc_isi' p (show kitB "NoneType" "list" = some false by decide +kernel)
theorem dc_isi_n_tuple  (p : P (DB false)) : DC F (rIsi F.K) [.d .none, .v (.ty "tuple")] P := dc_isi' p (show kitB "NoneType" "tuple" = some false by decide +kernel)
theorem dc_isi_s_int {s : Str} (p : P (DB false)) : DC F (rIsi F.K) [.d (.str s), .v (.ty "int")] P := dc_isi' p (show kitB "str" "int" = some false by decide +kernel)
theorem dc_isi_s_bool {s : Str} (p : P (DB false)) : DC F (rIsi F.K) [.d (.str s), .v (.ty "bool")] P := dc_isi' p (show kitB "str" "bool" = some false by decide +kernel)
theorem dc_isi_s_str {s : Str} (p : P (DB true)) : DC F (rIsi F.K) [.d (.str s), .v (.ty "str")] P := dc_isi' p (show kitB "str" "str" = some true by decide +kernel)
theorem dc_isi_s_list {s : Str} (p : P (DB false)) : DC F (rIsi F.K) [.d (.str s), .v (.ty "list")] P := dc_isi' p (show kitB "str" "list" = some false by decide +kernel)
theorem dc_isi_s_tuple {s : Str} (p : P (DB false)) : DC F (rIsi F.K) [.d (.str s), .v (.ty "tuple")] P := dc_isi' p (show kitB "str" "tuple" = some false by decide +kernel)
theorem dc_isi_l_int {xs : List PyData} (p : P (DB false)) : DC F (rIsi F.K) [.d (.list xs), .v (.ty "int")] P := dc_isi' p (show kitB "list" "int" = some false by decide +kernel)
theorem dc_isi_l_bool {xs : List PyData} (p : P (DB false)) : DC F (rIsi F.K) [.d (.list xs), .v (.ty "bool")] P := dc_isi' p (show kitB "list" "bool" = some false by decide +kernel)
theorem dc_isi_l_str {xs : List PyData} (p : P (DB false)) : DC F (rIsi F.K) [.d (.list xs), .v (.ty "str")] P := dc_isi' p (show kitB "list" "str" = some false by decide +kernel)
theorem dc_isi_l_list {xs : List PyData} (p : P (DB true)) : DC F (rIsi F.K) [.d (.list xs), .v (.ty "list")] P := dc_isi' p (show kitB "list" "list" = some true by decide +kernel)
theorem dc_isi_l_tuple {xs : List PyData} (p : P (DB false)) : DC F (rIsi F.K) [.d (.list xs), .v (.ty "tuple")] P := dc_isi' p (show kitB "list" "tuple" = some false by decide +kernel)
theorem dc_isi_t_int {xs : List PyData} (p : P (DB false)) : DC F (rIsi F.K) [.d (.tuple xs), .v (.ty "int")] P := dc_isi' p (show kitB "tuple" "int" = some false by decide +kernel)
theorem dc_isi_t_bool {xs : List PyData} (p : P (DB false)) : DC F (rIsi F.K) [.d (.tuple xs), .v (.ty "bool")] P := dc_isi' p (show kitB "tuple" "bool" = some false by decide +kernel)
theorem dc_isi_t_str {xs : List PyData} (p : P (DB false)) : DC F (rIsi F.K) [.d (.tuple xs), .v (.ty "str")] P := dc_isi' p (show kitB "tuple" "str" = some false by decide +kernel)
theorem dc_isi_t_list {xs : List PyData} (p : P (DB false)) : DC F (rIsi F.K) [.d (.tuple xs), .v (.ty "list")] P := dc_isi' p (show kitB "tuple" "list" = some false by decide +kernel)
theorem dc_isi_t_tuple {xs : List PyData} (p : P (DB true)) : DC F (rIsi F.K) [.d (.tuple xs), .v (.ty "tuple")] P := dc_isi' p (show kitB "tuple" "tuple" = some true by decide +kernel)
theorem dc_isi_d_int {kvs : List (PyData × PyData)} (p : P (DB false)) : DC F (rIsi F.K) [.d (.dict kvs), .v (.ty "int")] P := dc_isi' p (show kitB "dict" "int" = some false by decide +kernel)
theorem dc_isi_d_bool {kvs : List (PyData × PyData)} (p : P (DB false)) : DC F (rIsi F.K) [.d (.dict kvs), .v (.ty "bool")] P := dc_isi' p (show kitB "dict" "bool" = some false by decide +kernel)
theorem dc_isi_d_str {kvs : List (PyData × PyData)} (p : P (DB false)) : DC F (rIsi F.K) [.d (.dict kvs), .v (.ty "str")] P := dc_isi' p (show kitB "dict" "str" = some false by decide +kernel)
theorem dc_isi_d_list {kvs : List (PyData × PyData)} (p : P (DB false)) : DC F (rIsi F.K) [.d (.dict kvs), .v (.ty "list")] P := dc_isi' p (show kitB "dict" "list" = some false by decide +kernel)
theorem dc_isi_d_tuple {kvs : List (PyData × PyData)} (p : P (DB false)) : DC F (rIsi F.K) [.d (.dict kvs), .v (.ty "tuple")] P := dc_isi' p (show kitB "dict" "tuple" = some false by decide +kernel)
end
section
variable {F : Fm} {P : DV → Prop}
theorem d2_isN_i {i : Int} (p : P (DB false)) : D2 F rIsU (.d (.int i)) DN P := d2_isN p
theorem d2_isNN_i {i : Int} (p : P (DB true)) : D2 F rIsNU (.d (.int i)) DN P := d2_isNN p
theorem d2_isN_b {b : Bool} (p : P (DB false)) : D2 F rIsU (.d (.bool b)) DN P := d2_isN p
theorem d2_isNN_b {b : Bool} (p : P (DB true)) : D2 F rIsNU (.d (.bool b)) DN P := d2_isNN p
theorem d2_isN_n  (p : P (DB true)) : D2 F rIsU (.d .none) DN P := d2_isN p
theorem d2_isNN_n  (p : P (DB false)) : D2 F rIsNU (.d .none) DN P := d2_isNN p
theorem d2_isN_s {s : Str} (p : P (DB false)) : D2 F rIsU (.d (.str s)) DN P := d2_isN p
theorem d2_isNN_s {s : Str} (p : P (DB true)) : D2 F rIsNU (.d (.str s)) DN P := d2_isNN p
theorem d2_isN_l {xs : List PyData} (p : P (DB false)) : D2 F rIsU (.d (.list xs)) DN P := d2_isN p
theorem d2_isNN_l {xs : List PyData} (p : P (DB true)) : D2 F rIsNU (.d (.list xs)) DN P := d2_isNN p
theorem d2_isN_t {xs : List PyData} (p : P (DB false)) : D2 F rIsU (.d (.tuple xs)) DN P := d2_isN p
theorem d2_isNN_t {xs : List PyData} (p : P (DB true)) : D2 F rIsNU (.d (.tuple xs)) DN P := d2_isNN p
end
end DL

/-! # The law's hand: drawn numbers -/
namespace DL
open PySem L2
open Evl (Ex Ex.refl Ex.trans Ex.new)
local macro_rules | `(tactic| walk_at "dl-call") => `(tactic| fail)
local macro_rules | `(tactic| walk_at "dl-pl") => `(tactic| (repeat' (first | exact plains_nil | refine plains_cons trivial ?_)))
local macro_rules | `(tactic| walk_at "dl-ws") => `(tactic| first
  | with_reducible refine ws_seq ?_
  | with_reducible refine ws_asg ?_
  | with_reducible refine ws_ret ?_
  | with_reducible refine ws_if ?_
  | with_reducible refine ws_next ?_
  | with_reducible refine ws_asgG ?_
  | with_reducible refine ws_par ?_
  | with_reducible refine ws_drop ?_
  | with_reducible refine ws_brk ?_)
local macro_rules | `(tactic| walk_at "dl-ed") => `(tactic| first
  | with_reducible refine ed_var rfl ?_
  | with_reducible refine ed_int ?_
  | with_reducible refine ed_op ?_
  | with_reducible refine ed_call ?_
  | with_reducible refine ed_tup ?_
  | with_reducible refine ed_cb ?_
  | with_reducible refine ed_un ?_
  | with_reducible refine ed_lst ?_
  | with_reducible refine ed_str ?_
  | with_reducible refine ed_bl ?_
  | with_reducible refine ed_non ?_
  | with_reducible refine ed_if ?_
  | with_reducible refine ed_andV ?_
  | with_reducible refine ed_orV ?_
  | with_reducible refine ed_notV ?_
  | with_reducible refine ed_ref ?_
  | with_reducible refine ed_ty ?_
  | with_reducible refine ed_fmtI' ?_
  | with_reducible refine ed_joined ?_)
local macro_rules | `(tactic| walk_at "dl-ea") => `(tactic| first
  | with_reducible refine ea_cons ?_
  | with_reducible refine ea_nil ?_)
local macro_rules | `(tactic| walk_at "dl-et") => `(tactic| first
  | with_reducible refine et_tst ?_
  | with_reducible refine et_b ?_
  | with_reducible refine et_and ?_
  | with_reducible refine et_or ?_
  | with_reducible refine et_not ?_
  | with_reducible refine et_yes ?_)
local macro_rules | `(tactic| walk_at "dl-d2") => `(tactic| first
  | with_reducible refine d2_add ?_
  | with_reducible refine d2_ixT rfl ?_
  | with_reducible refine d2_ixL rfl ?_
  | with_reducible refine d2_eqI ?_
  | with_reducible refine d2_neI ?_
  | with_reducible refine d2_lt ?_
  | with_reducible refine d2_le ?_
  | with_reducible refine d2_gt ?_
  | with_reducible refine d2_ge ?_
  | with_reducible refine d2_sub ?_
  | with_reducible refine d2_mulS' ?_ ?_
  | with_reducible refine d2_div' ?_ ?_
  | with_reducible refine d2_mod' ?_ ?_
  | with_reducible refine d2_isN_i ?_
  | with_reducible refine d2_isNN_i ?_
  | with_reducible refine d2_isN_b ?_
  | with_reducible refine d2_isNN_b ?_
  | with_reducible refine d2_isN_n ?_
  | with_reducible refine d2_isNN_n ?_
  | with_reducible refine d2_isN_s ?_
  | with_reducible refine d2_isNN_s ?_
  | with_reducible refine d2_isN_l ?_
  | with_reducible refine d2_isNN_l ?_
  | with_reducible refine d2_isN_t ?_
  | with_reducible refine d2_isNN_t ?_
  | with_reducible refine d2_isB ?_
  | with_reducible refine d2_isNB ?_
  | with_reducible refine d2_addS' ?_ ?_
  | with_reducible refine d2_addL' ?_ ?_
  | with_reducible refine d2_isN ?_
  | with_reducible refine d2_isNN ?_)
local macro_rules | `(tactic| walk_at "dl-isi") => `(tactic| first
  | with_reducible refine dc_isi_i_int ?_
  | with_reducible refine dc_isi_i_bool ?_
  | with_reducible refine dc_isi_i_str ?_
  | with_reducible refine dc_isi_i_list ?_
  | with_reducible refine dc_isi_i_tuple ?_
  | with_reducible refine dc_isi_b_int ?_
  | with_reducible refine dc_isi_b_bool ?_
  | with_reducible refine dc_isi_b_str ?_
  | with_reducible refine dc_isi_b_list ?_
  | with_reducible refine dc_isi_b_tuple ?_
  | with_reducible refine dc_isi_n_int ?_
  | with_reducible refine dc_isi_n_bool ?_
  | with_reducible refine dc_isi_n_str ?_
  | with_reducible refine dc_isi_n_list ?_
  | with_reducible refine dc_isi_n_tuple ?_
  | with_reducible refine dc_isi_s_int ?_
  | with_reducible refine dc_isi_s_bool ?_
  | with_reducible refine dc_isi_s_str ?_
  | with_reducible refine dc_isi_s_list ?_
  | with_reducible refine dc_isi_s_tuple ?_
  | with_reducible refine dc_isi_l_int ?_
  | with_reducible refine dc_isi_l_bool ?_
  | with_reducible refine dc_isi_l_str ?_
  | with_reducible refine dc_isi_l_list ?_
  | with_reducible refine dc_isi_l_tuple ?_
  | with_reducible refine dc_isi_t_int ?_
  | with_reducible refine dc_isi_t_bool ?_
  | with_reducible refine dc_isi_t_str ?_
  | with_reducible refine dc_isi_t_list ?_
  | with_reducible refine dc_isi_t_tuple ?_
  | with_reducible refine dc_isi_d_int ?_
  | with_reducible refine dc_isi_d_bool ?_
  | with_reducible refine dc_isi_d_str ?_
  | with_reducible refine dc_isi_d_list ?_
  | with_reducible refine dc_isi_d_tuple ?_)
local macro_rules | `(tactic| walk_at "dl-dc") => `(tactic| first
  | with_reducible refine dc_int ?_
  | with_reducible refine dc_abs ?_
  | with_reducible refine dc_gcd ?_
  | with_reducible refine dc_lenT ?_
  | with_reducible refine dc_lenL ?_
  | with_reducible refine dc_strI' ?_ ?_
  | walk_at "dl-isi")
local macro_rules | `(tactic| walk_at "dl1") => `(tactic| first
  | (with_reducible show ED _ _ _ _ _ _; walk_at "dl-ed")
  | (with_reducible show WS _ _ _ _ _ _; walk_at "dl-ws")
  | (with_reducible show EA _ _ _ _ _ _; walk_at "dl-ea")
  | (with_reducible show D2 _ _ _ _ _; walk_at "dl-d2")
  | (with_reducible refine ⟨_, rfl, ?_⟩)
  | (with_reducible show ET _ _ _ _ _ _; walk_at "dl-et")
  | (with_reducible show DC _ _ _ _; walk_at "dl-dc")
  | with_reducible refine if_t ?_
  | with_reducible refine if_f ?_
  | with_reducible refine if_nt ?_
  | with_reducible refine if_nf ?_
  | with_reducible refine and_pl ?_
  | (with_reducible refine if_dec (fun _ => ?_) (fun _ => ?_))
  | (with_reducible refine if_ndec (fun _ => ?_) (fun _ => ?_))
  | (with_reducible refine if_bool (fun _ => ?_) (fun _ => ?_))
  | with_reducible refine d1_neg ?_
  | (refine tup_fin (by rfl) ?_ (Nat.le_of_ble_eq_true rfl))
  | (refine lst_fin (by rfl) ?_ (Nat.le_of_ble_eq_true rfl))
  | (with_reducible refine ⟨rfl, (by repeat (first | exact plains_nil | refine plains_d ?_ | refine plains_v ?_)), ?_⟩; walk_at "dl-call")
  | with_reducible refine and_plv ?_
  | with_reducible refine ej_cons ?_
  | with_reducible refine ej_nil ?_
  | (dsimp only [List.set]))
local macro_rules | `(tactic| walk_at "dl") => `(tactic| (walk_at "dl1" <;> try (walk_at "dl")))

/-! ### readings as they stand -/
section
variable {σ : L2.St} {H : Hp} {Q : VK} {te ta tb : TE} {t u : TS} {tt tu : TT} {D : Ends} {r : R2} {w : V} {g : TG} {tl : TA} {ts : TSet} {A : Prop}
theorem rw_var {i : Nat} {w : V} (h : σ[i]? = some (some w)) (q : Q w H) : tVar i σ H Q := ⟨w, h, q⟩
theorem rw_con (q : Q w H) : tC w σ H Q := q
theorem rw_op (h : ta σ H fun x H1 => tb σ H1 fun y H2 => r x y H2 Q) : tOp r ta tb σ H Q := h
theorem rw_cb {r : List V → Hp → VK → Prop} (h : tl σ H fun vs H1 => r vs H1 Q) : tCB r tl σ H Q := h
theorem rw_call {sp : Sp} {dvs : List V} {E : XK} (h : tl σ H fun vs H1 => sp (vs ++ dvs) H1 Q E) : tCall sp dvs E tl σ H Q := h
theorem rw_nil {Q : List V → Hp → Prop} (q : Q [] H) : tNil σ H Q := q
theorem rw_cons {Q : List V → Hp → Prop} (h : ta σ H fun x H1 => tl σ H1 fun xs H2 => Q (x :: xs) H2) : tCons ta tl σ H Q := h
theorem rw_lst (h : tl σ H fun xs H1 => xs.length ≤ sizeLine ∧ ∀ p, H1 p = none → Q (.ref p) (upd H1 p (.lst xs))) : tLst tl σ H Q := h
theorem rw_seq (h : t { D with nx := u D } σ H) : tSeq t u D σ H := h
theorem rw_asg (h : te σ H fun x H1 => g x σ H1 D.nx) : tAsg te g D σ H := h
theorem rw_name {i : Nat} {Q : L2.St → Hp → Prop} (q : Q (σ.set i (some w)) H) : gName i w σ H Q := q
theorem rw_sub {Q : L2.St → Hp → Prop} (h : ta σ H fun o H1 => tb σ H1 fun i H2 => ts o i w H2 fun H3 => Q σ H3) : gSub ta tb ts w σ H Q := h
theorem rw_ret (h : te σ H D.rt) : tRet te D σ H := h
theorem rw_next (h : D.nx σ H) : tNext D σ H := h
theorem rw_if (h : tt σ H fun b H1 => if b = true then t D σ H1 else u D σ H1) : tIfS tt t u D σ H := h
theorem rw_tst {Q : Bool → Hp → Prop} (h : te σ H fun x H' => ∃ k, x = .bl k ∧ Q k H') : tTest te σ H Q := h
theorem rw_and {Q : Bool → Hp → Prop} (h : tt σ H fun c H1 => if c = true then tu σ H1 Q else Q false H1) : tAnd tt tu σ H Q := h
variable {i j : Int} {K : PySem.W.Frag}
theorem rw_add (q : Q (.int (i + j)) H) : rAddU K (.int i) (.int j) H Q := .inl ⟨i, j, rfl, rfl, q⟩
theorem rw_sub2 (q : Q (.int (i - j)) H) : rSubU (.int i) (.int j) H Q := ⟨i, j, rfl, rfl, q⟩
theorem rw_eqI (q : Q (.bl (decide (i = j))) H) : rEqD K (.int i) (.int j) H Q := ⟨.int i, .int j, .int i, .int j, rfl, rfl, by rw [eqv_int]; exact q⟩
theorem rw_lt (q : Q (.bl (decide (i < j))) H) : rLtU (.int i) (.int j) H Q := ⟨i, j, rfl, rfl, q⟩
theorem rw_gt (q : Q (.bl (decide (j < i))) H) : rGtU (.int i) (.int j) H Q := ⟨i, j, rfl, rfl, q⟩
theorem rw_mod (q : Q (.int (i % j)) H) (h : 0 < j) : rModU (.int i) (.int j) H Q := ⟨i, j, rfl, rfl, h, q⟩
theorem rw_div (q : Q (.int (i / j)) H) (h : CDivW i j) : rDivU (.int i) (.int j) H Q := ⟨i, j, rfl, rfl, h, q⟩
theorem rw_pow (q : Q (.int (i ^ j.toNat)) H) (h : CPow i j) : rPowU (.int i) (.int j) H Q := ⟨i, j, rfl, rfl, h, q⟩
theorem rw_int (q : Q (.int i) H) : rIntU [.int i] H Q := .inl ⟨i, rfl, q⟩
theorem rw_abs (q : Q (.int (if i < 0 then -i else i)) H) : rAbsU [.int i] H Q := ⟨i, rfl, q⟩
theorem rw_len {p : Addr} {us : List V} (q : Q (.int us.length) H) (h : H p = some (.lst us)) : rLenU K [.ref p] H Q := ⟨_, us.length, rfl, .inl ⟨us, SqL.of h, rfl⟩, q⟩
theorem rw_ix {p : Addr} {us : List V} {z : V} (q : Q z H) (h : H p = some (.lst us)) (hz : atI us i = some z) : rIx K (.ref p) (.int i) H Q := .inl ⟨p, us, i, z, rfl, rfl, SqL.of h, hz, q⟩
theorem rw_set {p : Addr} {us : List V} {j : Nat} {Q : Hp → Prop} (q : Q (upd H p (.lst (us.set j w)))) (h : H p = some (.lst us)) (hz : ixN us.length i = some j) : rSetL (.ref p) (.int i) w H Q := ⟨p, us, i, j, rfl, rfl, h, hz, q⟩
theorem rw_bl {b : Bool} {Q : Bool → Prop} (q : Q b) : ∃ k, V.bl b = V.bl k ∧ Q k := ⟨b, rfl, q⟩
theorem rw_T2 {n : Nat} {T : TD} {E : XK} {i j : Int} {P : Int → Prop} (hn : n = 2) (ht : T [DI i, DI j] X0 fun z => ∃ k, z = DI k ∧ P k) (q : ∀ k H', Ex H H' → P k → Q (.int k) H') : spT K n T [.int i, .int j] H Q E := by
  subst hn
  refine ⟨H, [DI i, DI j], X0, _, Ex.refl H, rfl, plains_d (plains_d plains_nil), ⟨.int i, .int j, trivial⟩, ht, fun _ _ _ _ _ h => h.elim, fun u x H' G' s r ⟨k, e, p⟩ => ?_⟩
  subst e
  cases r.dp
  have h0 := s.gg.trans (s.gh.trans Rs.sub)
  exact q k H' h0 p
end
local macro_rules | `(tactic| walk_at "rw1") => `(tactic| first
  | with_reducible refine rw_seq ?_
  | with_reducible refine rw_asg ?_
  | with_reducible refine rw_ret ?_
  | with_reducible refine rw_next ?_
  | with_reducible refine rw_if ?_
  | with_reducible refine rw_op ?_
  | with_reducible refine rw_cb ?_
  | with_reducible refine rw_call ?_
  | with_reducible refine rw_nil ?_
  | with_reducible refine rw_cons ?_
  | with_reducible refine rw_con ?_
  | with_reducible refine rw_name ?_
  | with_reducible refine rw_sub ?_
  | with_reducible refine rw_tst ?_
  | with_reducible refine rw_and ?_
  | with_reducible refine rw_var rfl ?_
  | with_reducible refine rw_add ?_
  | with_reducible refine rw_sub2 ?_
  | with_reducible refine rw_eqI ?_
  | with_reducible refine rw_lt ?_
  | with_reducible refine rw_gt ?_
  | with_reducible refine rw_int ?_
  | with_reducible refine rw_abs ?_
  | with_reducible refine rw_bl ?_
  | with_reducible refine if_t ?_
  | with_reducible refine if_f ?_
  | (with_reducible refine if_dec (fun _ => ?_) (fun _ => ?_))
  | with_reducible refine rw_mod ?_ ?_
  | with_reducible refine rw_div ?_ ?_
  | with_reducible refine rw_pow ?_ ?_
  | fail)
local macro_rules | `(tactic| walk_at "rw") => `(tactic| (walk_at "rw1" <;> try (walk_at "rw")))
/-! ### the mixing -/
def T__law_mixed : TD := fun ds Xp P => ∃ a t : Int, ds = [DI a, DI t] ∧ ∀ x : Int, 0 ≤ x → x < 2147483648 → P (DI x)
abbrev sp__law_mixed (K : PySem.W.Frag) : Sp := spT K 2 T__law_mixed
def t__law_mixed (K : PySem.W.Frag) : TS := tSeq (tAsg (tOp (rModU) (tCB (rIntU) (tCons (tOp (rAddU K) (tOp (rAddU K) (tOp (rMulU) (tVar 0) (tC (.int 48271))) (tOp (rMulU) (tVar 1) (tC (.int 69621)))) (tC (.int 17))) (tNil))) (tC (.int 2147483647))) (gName 2)) (tSeq (tAsg (tOp (rModU) (tCB (rIntU) (tCons (tOp (rAddU K) (tOp (rAddU K) (tOp (rMulU) (tVar 2) (tVar 2)) (tOp (rMulU) (tVar 1) (tC (.int 40692)))) (tC (.int 5))) (tNil))) (tC (.int 2147483399))) (gName 3)) (tRet (tOp (rDivU) (tOp (rModU) (tCB (rIntU) (tCons (tOp (rAddU K) (tOp (rMulU) (tVar 3) (tVar 3)) (tOp (rMulU) (tVar 2) (tC (.int 16807)))) (tNil))) (tC (.int 2147483563))) (tC (.int 32)))))
theorem cmul_r {i j : Int} (h1 : -(2 ^ 64) < j) (h2 : j < 2 ^ 64) : CMul i j := .inr ⟨h1, h2⟩
theorem w__law_mixed (F : Fm) (X : XK) (ds : List DV) (Xp : XP) (P : DV → Prop) (h : T__law_mixed ds Xp P) : WS F X (t__law_mixed F.K) (startD 2 ds) Xp { nx := fun _ => P DN, rt := P } := by
  obtain ⟨a, t, rfl, hP⟩ := h
  show WS F X _ [some (DI a), some (DI t), none, none] Xp _
  unfold t__law_mixed
  walk_at "dl"
  · refine hP _ ?_ ?_ <;> omega
  all_goals first | exact cmul_r (by omega) (by omega) | omega | exact ⟨by omega, by decide⟩
/-! ### the hand -/
structure Hd where
  ph : Addr
  l0 : Addr
  cs : List Int
structure Hnd (h : Hd) (H : Hp) : Prop where
  ne : h.l0 ≠ h.ph
  l : H h.l0 = some (.lst (h.cs.map V.int))
  ex : ∃ p q r s : Int, H h.ph = some (.lst [.ref h.l0, .int p, .int q, .int r, .int s]) ∧ 0 ≤ p ∧ 0 ≤ q
def Off (p : Addr) (H H' : Hp) : Prop := ∀ b o, b ≠ p → H b = some o → H' b = some o
theorem Off.of {p : Addr} {H H' : Hp} (e : Ex H H') : Off p H H' := fun b o _ h => e b o h
theorem Off.trans {p : Addr} {H H' H2 : Hp} (a : Off p H H') (b : Off p H' H2) : Off p H H2 := fun c o n h => b c o n (a c o n h)
theorem Off.upd {p : Addr} {H : Hp} {o : HO} : Off p H (upd H p o) := fun b u n h => (upd_ne n).trans h
/-- a def that draws from the hand: the whole numbers behind it; its value -/
abbrev TH := List Int → (Int → Prop) → Prop
def spH (K : PySem.W.Frag) (n : Nat) (T : TH) : Sp := fun vs H Q _ => ∃ (h : Hd) (is : List Int) (P : Int → Prop), Hnd h H ∧ vs = .ref h.ph :: is.map V.int ∧ is.length = n ∧ T is P ∧ ∀ x H', Off h.ph H H' → Hnd h H' → P x → Q (.int x) H'
def T__law_draw : TH := fun is P => ∃ m : Int, is = [m] ∧ (∀ x, 0 ≤ x → x < m → P x) ∧ 0 < m ∧ m.natAbs < 2 ^ 64
abbrev sp__law_draw (K : PySem.W.Frag) : Sp := spH K 1 T__law_draw
def t__law_draw (K : PySem.W.Frag) : TS := tSeq (tAsg (tOp (rAddU K) (tOp (rIx K) (tVar 0) (tC (.int 3))) (tC (.int 1))) (gSub (tVar 0) (tC (.int 3)) rSetL)) (tSeq (tIfS (tAnd (tTest (tOp (rEqD K) (tOp (rIx K) (tVar 0) (tC (.int 2))) (tC (.int 0)))) (tTest (tOp (rLtU) (tOp (rIx K) (tVar 0) (tC (.int 1))) (tCB (rLenU K) (tCons (tOp (rIx K) (tVar 0) (tC (.int 0))) (tNil)))))) (tSeq (tAsg (tOp (rIx K) (tOp (rIx K) (tVar 0) (tC (.int 0))) (tOp (rIx K) (tVar 0) (tC (.int 1)))) (gName 2)) (tSeq (tAsg (tOp (rAddU K) (tOp (rIx K) (tVar 0) (tC (.int 1))) (tC (.int 1))) (gSub (tVar 0) (tC (.int 1)) rSetL)) (tSeq (tIfS (tTest (tOp (rLtU) (tCB (rAbsU) (tCons (tVar 2) (tNil))) (tOp (rPowU) (tC (.int 10)) (tC (.int 18))))) (tRet (tOp (rModU) (tCB (rIntU) (tCons (tCall (sp__law_mixed K) [] E0 (tCons (tVar 2) (tCons (tOp (rIx K) (tVar 0) (tC (.int 3))) (tNil)))) (tNil))) (tVar 1))) (tNext)) (tAsg (tCB (rAbsU) (tCons (tVar 2) (tNil))) (gSub (tVar 0) (tC (.int 2)) rSetL))))) (tNext)) (tSeq (tIfS (tTest (tOp (rGtU) (tOp (rIx K) (tVar 0) (tC (.int 2))) (tC (.int 0)))) (tSeq (tAsg (tOp (rModU) (tCB (rIntU) (tCons (tOp (rIx K) (tVar 0) (tC (.int 2))) (tNil))) (tVar 1)) (gName 3)) (tSeq (tAsg (tOp (rDivU) (tOp (rIx K) (tVar 0) (tC (.int 2))) (tVar 1)) (gSub (tVar 0) (tC (.int 2)) rSetL)) (tRet (tVar 3)))) (tNext)) (tRet (tOp (rModU) (tCB (rIntU) (tCons (tCall (sp__law_mixed K) [] E0 (tCons (tOp (rIx K) (tVar 0) (tC (.int 4))) (tCons (tOp (rIx K) (tVar 0) (tC (.int 3))) (tNil)))) (tNil))) (tVar 1)))))
theorem Hnd.ex_ {h : Hd} {H H' : Hp} (k : Hnd h H) (e : Ex H H') : Hnd h H' := by
  obtain ⟨p, q, r, s, hp, h1, h2⟩ := k.ex
  exact ⟨k.ne, e _ _ k.l, p, q, r, s, e _ _ hp, h1, h2⟩
theorem hnd_upd {h : Hd} {H : Hp} {p q r s : Int} (ne : h.l0 ≠ h.ph) (l : H h.l0 = some (.lst (h.cs.map V.int))) (hp : 0 ≤ p) (hq : 0 ≤ q) : Hnd h (upd H h.ph (.lst [.ref h.l0, .int p, .int q, .int r, .int s])) :=
  ⟨ne, (upd_ne ne).trans l, p, q, r, s, upd_same, hp, hq⟩
theorem abs_nn (i : Int) : 0 ≤ (if i < 0 then -i else i) := by split <;> omega
def draw_tail (K : PySem.W.Frag) : TS := tSeq (tIfS (tTest (tOp (rGtU) (tOp (rIx K) (tVar 0) (tC (.int 2))) (tC (.int 0)))) (tSeq (tAsg (tOp (rModU) (tCB (rIntU) (tCons (tOp (rIx K) (tVar 0) (tC (.int 2))) (tNil))) (tVar 1)) (gName 3)) (tSeq (tAsg (tOp (rDivU) (tOp (rIx K) (tVar 0) (tC (.int 2))) (tVar 1)) (gSub (tVar 0) (tC (.int 2)) rSetL)) (tRet (tVar 3)))) (tNext)) (tRet (tOp (rModU) (tCB (rIntU) (tCons (tCall (sp__law_mixed K) [] E0 (tCons (tOp (rIx K) (tVar 0) (tC (.int 4))) (tCons (tOp (rIx K) (tVar 0) (tC (.int 3))) (tNil)))) (tNil))) (tVar 1)))
theorem draw_end {K : PySem.W.Frag} {Q : VK} {ph l0 : Addr} {cs : List Int} {m q r s p : Int} {c : Option V} {H : Hp} (hp : H ph = some (.lst [.ref l0, .int p, .int q, .int r, .int s])) (l : H l0 = some (.lst (cs.map V.int))) (ne : l0 ≠ ph) (h1 : 0 ≤ p) (h2 : 0 ≤ q) (hm : 0 < m) (hz : m.natAbs < 2 ^ 64)
    (hQ : ∀ x H', Off ph H H' → Hnd ⟨ph, l0, cs⟩ H' → 0 ≤ x → x < m → Q (.int x) H') : draw_tail K { nx := fun _ H' => Q .non H', rt := Q } [some (.ref ph), some (.int m), c, none] H := by
  unfold draw_tail
  have m1 : 0 ≤ q % m := Int.emod_nonneg _ (by omega)
  have m2 : q % m < m := Int.emod_lt_of_pos _ hm
  have m3 : 0 ≤ q / m := Int.ediv_nonneg h2 (by omega)
  walk_at "rw"
  refine rw_ix ?_ hp rfl
  walk_at "rw"
  · refine rw_ix ?_ hp rfl
    walk_at "rw"
    · refine rw_ix ?_ hp rfl
      walk_at "rw"
      · refine rw_set (j := 2) ?_ hp rfl
        walk_at "rw"
        exact hQ _ _ Off.upd (hnd_upd (h := ⟨ph, l0, cs⟩) ne l h1 m3) m1 m2
      · exact cdiv_of (b := 64) hm hz
    · exact hm
  · refine rw_ix ?_ hp rfl
    walk_at "rw"
    refine rw_ix ?_ hp rfl
    walk_at "rw"
    refine rw_T2 (P := fun x => 0 ≤ x) rfl ⟨_, _, rfl, fun x hx _ => ⟨x, rfl, hx⟩⟩ fun x H' e hx => ?_
    walk_at "rw"
    · exact hQ _ _ (Off.of e) (Hnd.ex_ ⟨ne, l, p, q, r, s, hp, h1, h2⟩ e) (Int.emod_nonneg _ (by omega)) (Int.emod_lt_of_pos _ hm)
    · exact hm
theorem w__law_draw (K : PySem.W.Frag) (vs : List V) (H : Hp) (Q : VK) (E : XK) (h : sp__law_draw K vs H Q E) : t__law_draw K { nx := fun _ H' => Q .non H', rt := Q } (L2.start ["_law_hand", "_law_many", "_law_cell", "_law_digit"] vs) H := by
  obtain ⟨h, is, P, hh, rfl, hl, ⟨m, rfl, hP, hm, hz⟩, hQ⟩ := h
  obtain ⟨p, q, r, s, hp, h1, h2⟩ := hh.ex
  have ne := hh.ne
  have l := hh.l
  obtain ⟨ph, l0, cs⟩ := h
  dsimp only at hp ne l hQ
  show (tSeq _ (tSeq _ (draw_tail K))) _ [some (.ref ph), some (.int m), none, none] H
  walk_at "rw"
  refine rw_ix ?_ hp rfl
  walk_at "rw"
  refine rw_set (j := 3) ?_ hp rfl
  dsimp only [List.set]
  have hp1 : upd H ph (.lst [.ref l0, .int p, .int q, .int (r + 1), .int s]) ph = some (.lst [.ref l0, .int p, .int q, .int (r + 1), .int s]) := upd_same
  have l1 : upd H ph (.lst [.ref l0, .int p, .int q, .int (r + 1), .int s]) l0 = some (.lst (cs.map V.int)) := (upd_ne ne).trans l
  have o1 : Off ph H (upd H ph (.lst [.ref l0, .int p, .int q, .int (r + 1), .int s])) := Off.upd
  generalize upd H ph (.lst [.ref l0, .int p, .int q, .int (r + 1), .int s]) = H1 at hp1 l1 o1 ⊢
  have hQ1 : ∀ x H', Off ph H1 H' → Hnd ⟨ph, l0, cs⟩ H' → 0 ≤ x → x < m → Q (.int x) H' := fun x H' o k a b => hQ x H' (o1.trans o) k (hP x a b)
  walk_at "rw"
  refine rw_ix ?_ hp1 rfl
  walk_at "rw"
  · refine rw_ix ?_ hp1 rfl
    walk_at "rw"
    refine rw_ix ?_ hp1 rfl
    walk_at "rw"
    refine rw_len ?_ l1
    walk_at "rw"
    · rename_i hlt
      refine rw_ix ?_ hp1 rfl
      walk_at "rw"
      refine rw_ix ?_ hp1 rfl
      have hk : p.toNat < cs.length := by
        rw [List.length_map] at hlt
        omega
      refine rw_ix (z := .int cs[p.toNat]) ?_ l1 ?_
      · walk_at "rw"
        refine rw_ix ?_ hp1 rfl
        walk_at "rw"
        refine rw_set (j := 1) ?_ hp1 rfl
        dsimp only [List.set]
        have hp2 : upd H1 ph (.lst [.ref l0, .int (p + 1), .int q, .int (r + 1), .int s]) ph = some (.lst [.ref l0, .int (p + 1), .int q, .int (r + 1), .int s]) := upd_same
        have l2 : upd H1 ph (.lst [.ref l0, .int (p + 1), .int q, .int (r + 1), .int s]) l0 = some (.lst (cs.map V.int)) := (upd_ne ne).trans l1
        have o2 : Off ph H1 (upd H1 ph (.lst [.ref l0, .int (p + 1), .int q, .int (r + 1), .int s])) := Off.upd
        generalize upd H1 ph (.lst [.ref l0, .int (p + 1), .int q, .int (r + 1), .int s]) = H2 at hp2 l2 o2 ⊢
        generalize cs[p.toNat] = cell at *
        walk_at "rw"
        · refine rw_ix ?_ hp2 rfl
          walk_at "rw"
          refine rw_T2 (P := fun x => 0 ≤ x) rfl ⟨_, _, rfl, fun x hx _ => ⟨x, rfl, hx⟩⟩ fun x H' e hx => ?_
          walk_at "rw"
          · exact hQ1 _ _ (o2.trans (Off.of e)) (Hnd.ex_ ⟨ne, l2, p + 1, q, r + 1, s, hp2, by omega, h2⟩ e) (Int.emod_nonneg _ (by omega)) (Int.emod_lt_of_pos _ hm)
          · exact hm
        · refine rw_set (j := 2) ?_ hp2 rfl
          dsimp only [List.set]
          refine draw_end (p := p + 1) (r := r + 1) (s := s) (q := if cell < 0 then -cell else cell) upd_same ((upd_ne ne).trans l2) ne (by omega) (abs_nn cell) hm hz fun x H' o k a b => hQ1 x H' (o2.trans (Off.upd.trans o)) k a b
        · exact ⟨by decide, by decide, by decide⟩
      · unfold atI ixN
        rw [if_pos h1, List.length_map, if_pos (by omega)]
        simp [hk]
    · exact draw_end hp1 l1 ne h1 h2 hm hz hQ1
  · exact draw_end hp1 l1 ne h1 h2 hm hz hQ1
/-! ### the frame with a hand -/
abbrev FH (K : PySem.W.Frag) (H0 : Hp) (h : Hd) (a0 : H0 h.ph ≠ none) (b0 : H0 h.l0 ≠ none) : Fm where
  K := K
  S := fun b => decide (b = h.ph)
  old := fun b => H0 b ≠ none
  I := fun H => (∀ b, H0 b ≠ none → H b ≠ none) ∧ Hnd h H
  stab := fun i e => ⟨fun b hb => ex_nm e b (i.1 b hb), i.2.ex_ e⟩
  al := fun i hb => i.1 _ hb
  so := fun {b} e => by
    have : b = h.ph := of_decide_eq_true e
    rw [this]
    exact a0
  put := fun {H p us us'} i hp no => by
    have n1 : h.ph ≠ p := fun e => no (e ▸ a0)
    have n2 : h.l0 ≠ p := fun e => no (e ▸ b0)
    obtain ⟨p', q, r, s, e, h1, h2⟩ := i.2.ex
    refine ⟨fun b hb => ?_, i.2.ne, (upd_ne n2).trans i.2.l, p', q, r, s, (upd_ne n1).trans e, h1, h2⟩
    by_cases e : b = p
    · subst e
      rw [upd_same]
      exact fun z => by cases z
    · rw [upd_ne e]
      exact i.1 b hb
section
variable {K : PySem.W.Frag} {H0 : Hp} {h : Hd} {a0 : H0 h.ph ≠ none} {b0 : H0 h.l0 ≠ none} {X : XW} {δ : DSt} {Xp : XP} {P : DV → Prop}
theorem fh_stp {G H H' : Hp} (iv : (FH K H0 h a0 b0).I H) (g : Ex G (Rs (FH K H0 h a0 b0).S H)) (o : Off h.ph H H') (k : Hnd h H') : Stp (FH K H0 h a0 b0) G H G H' := by
  have hh : Ex (Rs (FH K H0 h a0 b0).S H) (Rs (FH K H0 h a0 b0).S H') := fun b u e => by
    unfold Rs at e ⊢
    split at e
    · cases e
    · rename_i hs
      rw [if_neg hs]
      exact o b u (fun z => hs (decide_eq_true z)) e
  refine ⟨Ex.refl G, g.trans hh, fun _ _ z => z, hh, fun b hb => ?_, k⟩
  by_cases e : b = h.ph
  · obtain ⟨p, q, r, s, e2, _⟩ := k.ex
    rw [e, e2]
    exact fun z => by cases z
  · cases e2 : H b with
    | none => exact absurd e2 (iv.1 b hb)
    | some u =>
      rw [o b u e e2]
      exact fun z => by cases z
theorem rvs_ints {F : Fm} {G H : Hp} : ∀ {us : List V} {is : List Int}, RVs F G H us (is.map DI) → us = is.map V.int
  | [], [], _ => rfl
  | _ :: _, _ :: _, r => by
    have e := rvs_ints r.2
    cases r.1.dp
    rw [e] <;> rfl
  | [], _ :: _, r => r.elim
  | _ :: _, [], r => r.elim
theorem rvs_of_ints {F : Fm} {G H : Hp} : ∀ {is : List Int}, RVs F G H (is.map V.int) (is.map DI)
  | [] => trivial
  | i :: is => ⟨.int i, rvs_of_ints⟩
theorem ed_hand {n : Nat} {T : TH} {E : XK} {ta : TA} (ht : EA (FH K H0 h a0 b0) X ta δ Xp fun xs => ∃ is : List Int, xs = .v (.ref h.ph) :: is.map DI ∧ is.length = n ∧ T is fun x => P (DI x)) : ED (FH K H0 h a0 b0) X (tCall (spH K n T) [] E ta) δ Xp P := fun σ H G c Q q =>
  ht σ H G c _ fun us xs H1 G1 s1 r1 ⟨is, e, l, t⟩ => by
    subst e
    have eu : us = .ref h.ph :: is.map V.int := by
      cases us with
      | nil => exact r1.elim
      | cons u us =>
        obtain ⟨r, r2⟩ := r1
        obtain rfl : u = .ref h.ph := r
        rw [rvs_ints r2]
    subst eu
    refine ⟨h, is, _, s1.inv.2, by rw [List.append_nil], l, t, fun x H' o k p => ?_⟩
    exact q (.int x) (DI x) H' G1 (s1.trans (fh_stp s1.inv s1.gh o k)) (.d (.int x)) p
theorem ed_draw {E : XK} {ta : TA} (ht : EA (FH K H0 h a0 b0) X ta δ Xp fun xs => ∃ m, xs = [.v (.ref h.ph), DI m] ∧ (∀ x, 0 ≤ x → x < m → P (DI x)) ∧ 0 < m ∧ m.natAbs < 2 ^ 64) : ED (FH K H0 h a0 b0) X (tCall (sp__law_draw K) [] E ta) δ Xp P :=
  ed_hand fun σ H G c Q q => ht σ H G c Q fun us xs H1 G1 s1 r1 ⟨m, e, p, h1, h2⟩ => q us xs H1 G1 s1 r1 ⟨[m], e, rfl, m, rfl, p, h1, h2⟩
/-- from a promise over the hand to its body -/
theorem pure_H {n m : Nat} {T : TH} {N : List Str} {vs : List V} {H : Hp} {Q : VK} {E : XK} {t : TS} (hs : spH K n T vs H Q E) (hm : N.length = n + 1 + m)
    (w : ∀ (H0 : Hp) (h : Hd) (a0 : H0 h.ph ≠ none) (b0 : H0 h.l0 ≠ none) (is : List Int) (P : Int → Prop), is.length = n → T is P → WS (FH K H0 h a0 b0) E t (startD m (.v (.ref h.ph) :: is.map DI)) X0 { nx := fun _ => False, rt := fun z => ∃ x, z = DI x ∧ P x }) : t { nx := fun _ H' => Q .non H', rt := Q } (L2.start N vs) H := by
  obtain ⟨h, is, P, hh, rfl, l, ht, q⟩ := hs
  have a0 : H h.ph ≠ none := by
    obtain ⟨p, q, r, s, e, _⟩ := hh.ex
    rw [e]
    exact fun z => by cases z
  have b0 : H h.l0 ≠ none := by
    rw [hh.l]
    exact fun z => by cases z
  have g0 : Ex (fun _ => none) (Rs (FH K H h a0 b0).S H) := fun _ _ z => by cases z
  have iv : (FH K H h a0 b0).I H := ⟨fun _ z => z, hh⟩
  have pl : Plains (.v (.ref h.ph) :: is.map DI) := plains_v (fun x hx => by
    obtain ⟨i, _, rfl⟩ := List.mem_map.mp hx
    trivial)
  have r : RVs (FH K H h a0 b0) (fun _ => none) H (.ref h.ph :: is.map V.int) (.v (.ref h.ph) :: is.map DI) := ⟨rfl, rvs_of_ints⟩
  refine w H h a0 b0 is P l ht ⟨fun _ => none, H, fun _ => none⟩ _ H (fun _ => none) _ ⟨fun _ z => z, ⟨Stp.refl iv g0, Ex.refl _⟩, sl_start r pl (by rw [List.length_cons, List.length_map, l]; exact hm), fun _ _ _ _ _ z => z.elim⟩ ?_
  refine ⟨fun _ _ _ _ _ _ z => z.elim, fun u x H' G' r' rv ⟨x', e, p⟩ => ?_, fun _ _ _ _ _ _ z => z.elim, fun _ _ _ _ _ _ z => z.elim⟩
  subst e
  cases rv.dp
  refine q x' H' (fun b o nb hb => ?_) r'.st.inv.2 p
  have := r'.st.hh b o (by unfold Rs; rw [if_neg (by simpa using nb)]; exact hb)
  exact Rs.sub _ _ this
end
/-! ### the start -/
theorem dpa_ints {K : PySem.W.Frag} {G : Hp} : ∀ {us : List V} {is : List Int}, DpAll K G us (is.map PyData.int) → us = is.map V.int
  | _, [], .nil => rfl
  | _, _ :: _, .cons (.int _) t => congrArg _ (dpa_ints t)
theorem dpa_of_ints {K : PySem.W.Frag} {G : Hp} : ∀ {is : List Int}, DpAll K G (is.map V.int) (is.map PyData.int)
  | [] => .nil
  | i :: _ => .cons (.int i) dpa_of_ints
def sp__law_start (K : PySem.W.Frag) : Sp := fun vs H Q _ => ∃ (a : Addr) (ns : List Int), vs = [.ref a] ∧ SqL K H a (ns.map V.int) ∧ ns.length ≤ 1000 ∧ ∀ (h : Hd) H', Ex H H' → H h.ph = none → H h.l0 = none → Hnd h H' → Q (.ref h.ph) H'
def t__law_start (K : PySem.W.Frag) : TS := tSeq (tAsg (tC (.int 0)) (gName 1)) (tSeq (tFor (iSeq K (tVar 0)) (gName 2) (tAsg (tOp (rModU) (tCB (rIntU) (tCons (tOp (rAddU K) (tOp (rMulU) (tVar 1) (tC (.int 37))) (tCB (rIntU) (tCons (tVar 2) (tNil)))) (tNil))) (tC (.int 2147483629))) (gName 1))) (tRet (tLst (tCons (tLc (iSeq K (tVar 0)) (gName 2) (tYes) (tCB (rIntU) (tCons (tVar 2) (tNil))) [2]) (tCons (tC (.int 0)) (tCons (tC (.int 0)) (tCons (tC (.int 0)) (tCons (tVar 1) (tNil)))))))))
local macro_rules | `(tactic| walk_at "dl-ws") => `(tactic| first
  | with_reducible refine ws_forSeq ?_
  | fail)
theorem start_ws (F : Fm) (X : XK) (ns : List Int) : WS F X (tSeq (tAsg (tC (.int 0)) (gName 1)) (tFor (iSeq F.K (tVar 0)) (gName 2) (tAsg (tOp (rModU) (tCB (rIntU) (tCons (tOp (rAddU F.K) (tOp (rMulU) (tVar 1) (tC (.int 37))) (tCB (rIntU) (tCons (tVar 2) (tNil)))) (tNil))) (tC (.int 2147483629))) (gName 1)))) [some (.d (.list (ns.map PyData.int))), none, none] X0 { nx := fun δ' => ∃ t z, δ' = [some (.d (.list (ns.map PyData.int))), some (DI t), z], rt := fun _ => False } := by
  walk_at "dl"
  refine ⟨_, .inl rfl, fun i δ' => ∃ t z, δ' = [some (.d (.list (ns.map PyData.int))), some (DI t), z], ⟨_, _, rfl⟩, ?_, fun δ' h => h⟩
  rintro i x δ' hx ⟨t, z, rfl⟩
  obtain ⟨n, hn, rfl⟩ : ∃ n, ns[i]? = some n ∧ PyData.int n = x := by
    rw [List.getElem?_map] at hx
    cases e : ns[i]? with
    | none => rw [e] at hx; cases hx
    | some n => rw [e] at hx; exact ⟨n, rfl, by simpa using hx⟩
  refine dg_name trivial ?_
  walk_at "dl"
  · exact ⟨_, _, rfl⟩
  · omega
  · exact cmul_r (by decide) (by decide)
theorem start_lc (F : Fm) (X : XK) (ns : List Int) (δ : DSt) (hd : δ[0]? = some (some (.d (.list (ns.map PyData.int))))) (h3 : δ.length = 3) (hl : ns.length ≤ 1000) : EN F (fun _ => X) (tLc (iSeq F.K (tVar 0)) (gName 2) (tYes) (tCB (rIntU) (tCons (tVar 2) (tNil))) [2]) δ X0 fun ys => ys = ns.map PyData.int := by
  refine en_lc (tgOk_name (by decide)) (ed_var hd ⟨ns.map PyData.int, .inl rfl, by rw [List.length_map]; omega, fun _ => true, fun x => x, ?_, ?_⟩)
  · intro x hx
    obtain ⟨n, _, rfl⟩ := List.mem_map.mp hx
    refine dg_name trivial ?_
    refine et_yes ⟨rfl, fun _ => ?_⟩
    match δ, h3 with
    | [a, b, c], _ =>
      dsimp only [wipeD, List.set]
      walk_at "dl"
  · show lcOf (ns.map PyData.int) (fun _ => true) (fun x => x) = _
    unfold lcOf
    rw [List.filter_eq_self.mpr (fun _ _ => rfl), List.map_id']
theorem w__law_start (K : PySem.W.Frag) (vs : List V) (H : Hp) (Q : VK) (E : XK) (hs : sp__law_start K vs H Q E) : t__law_start K { nx := fun _ H' => Q .non H', rt := Q } (L2.start ["_law_script", "_law_total", "_law_cell"] vs) H := by
  obtain ⟨a, ns, rfl, hq, hl, q⟩ := hs
  show t__law_start K _ [some (.ref a), none, none] H
  have gh : Ex H (Rs (F0 K H).S H) := by
    show Ex H (Rs (fun _ => false) H)
    rw [rs0]
    exact Ex.refl H
  have iv : (F0 K H).I H := fun _ h => h
  have sl : SL (F0 K H) H H [some (.ref a), none, none] [some (.d (.list (ns.map PyData.int))), none, none] :=
    sl_start (F := F0 K H) (N := ["_law_script", "_law_total", "_law_cell"]) (us := [.ref a]) (ds := [.d (.list (ns.map PyData.int))]) (m := 2) ⟨.lst hq dpa_of_ints, trivial⟩ (plains_d plains_nil) rfl
  have w1 : Way (F0 K H) E ⟨H, H, H⟩ H H [some (.ref a), none, none] [some (.d (.list (ns.map PyData.int))), none, none] X0 := ⟨fun _ h => h, ⟨Stp.refl iv gh, Ex.refl H⟩, sl, fun _ _ _ _ _ z => z.elim⟩
  have hw := start_ws (F0 K H) E ns
  refine hw ⟨H, H, H⟩ _ H H { nx := fun σ' H' => tRet (tLst (tCons (tLc (iSeq K (tVar 0)) (gName 2) (tYes) (tCB (rIntU) (tCons (tVar 2) (tNil))) [2]) (tCons (tC (.int 0)) (tCons (tC (.int 0)) (tCons (tC (.int 0)) (tCons (tVar 1) (tNil))))))) { nx := fun _ H' => Q .non H', rt := Q } σ' H', rt := Q, bk := fun _ _ => False, ct := fun _ _ => False } w1 ⟨?_, fun _ _ _ _ _ _ z => z.elim, fun _ _ _ _ _ _ z => z.elim, fun _ _ _ _ _ _ z => z.elim⟩
  rintro σ' δ' H1 G1 r1 sl1 ⟨t, z, rfl⟩
  have w2 := w1.to r1 sl1
  have ts := sl1.at_ 1 _ rfl
  dsimp only
  refine rw_ret ?_
  refine rw_lst (rw_cons ?_)
  refine start_lc (F0 K H) E ns _ rfl rfl hl σ' H1 G1 w2.cur _ ?_
  intro l us xs H2 G2 s2 l1 l2 l3 da e
  subst e
  obtain rfl := dpa_ints da
  walk_at "rw"
  obtain ⟨u, hu, ru⟩ := ts
  cases ru.dp
  refine rw_var hu ?_
  walk_at "rw"
  refine ⟨Evl.sz_of (by show 5 ≤ _; decide), fun z hz => ?_⟩
  have hl2 : l ≠ z := fun e => by
    subst e
    rw [hz] at l2
    cases l2
  have e1 : Ex H H1 := by
    have := r1.st.hh
    have e1 : Rs (F0 K H).S H = H := rs0
    have e2 : Rs (F0 K H).S H1 = H1 := rs0
    rw [e1, e2] at this
    exact this
  have e2 : Ex H H2 := e1.trans (by
    have := s2.hh
    have e1 : Rs (F0 K H).S H1 = H1 := rs0
    have e2 : Rs (F0 K H).S H2 = H2 := rs0
    rw [e1, e2] at this
    exact this)
  have nn : ∀ {A B : Hp} {b : Addr}, Ex A B → B b = none → A b = none := fun {A B b} e h => by
    cases e3 : A b with
    | none => rfl
    | some o => rw [e b o e3] at h; cases h
  refine q ⟨z, l, ns⟩ _ (e2.trans (Ex.new hz)) (nn e2 hz) (nn e1 l1) ⟨hl2, (upd_ne hl2).trans l2, 0, 0, 0, t, upd_same, by decide, by decide⟩
/-! ### a number of either sign -/
def T__law_number : TH := fun is P => is = [] ∧ ∀ x : Int, x.natAbs < 2 ^ 100 → P x
abbrev sp__law_number (K : PySem.W.Frag) : Sp := spH K 0 T__law_number
def t__law_number (K : PySem.W.Frag) : TS := tSeq (tAsg (tCall (sp__law_draw K) [] E0 (tCons (tVar 0) (tCons (tC (.int 4)) (tNil)))) (gName 1)) (tSeq (tAsg (tOp (rSubU) (tC (.int 1)) (tOp (rMulU) (tC (.int 2)) (tCall (sp__law_draw K) [] E0 (tCons (tVar 0) (tCons (tC (.int 2)) (tNil)))))) (gName 2)) (tSeq (tIfS (tTest (tOp (rEqD K) (tVar 1) (tC (.int 0)))) (tRet (tOp (rMulU) (tVar 2) (tCall (sp__law_draw K) [] E0 (tCons (tVar 0) (tCons (tC (.int 3)) (tNil)))))) (tNext)) (tSeq (tIfS (tTest (tOp (rEqD K) (tVar 1) (tC (.int 1)))) (tRet (tOp (rMulU) (tVar 2) (tCall (sp__law_draw K) [] E0 (tCons (tVar 0) (tCons (tC (.int 13)) (tNil)))))) (tNext)) (tSeq (tIfS (tTest (tOp (rEqD K) (tVar 1) (tC (.int 2)))) (tRet (tOp (rMulU) (tVar 2) (tCall (sp__law_draw K) [] E0 (tCons (tVar 0) (tCons (tOp (rPowU) (tC (.int 10)) (tC (.int 6))) (tNil)))))) (tNext)) (tRet (tOp (rMulU) (tVar 2) (tOp (rAddU K) (tOp (rMulU) (tCall (sp__law_draw K) [] E0 (tCons (tVar 0) (tCons (tOp (rPowU) (tC (.int 10)) (tC (.int 15))) (tNil)))) (tOp (rPowU) (tC (.int 10)) (tC (.int 15)))) (tCall (sp__law_draw K) [] E0 (tCons (tVar 0) (tCons (tOp (rPowU) (tC (.int 10)) (tC (.int 15))) (tNil)))))))))))
theorem ed_number {K : PySem.W.Frag} {H0 : Hp} {h : Hd} {a0 : H0 h.ph ≠ none} {b0 : H0 h.l0 ≠ none} {X : XW} {δ : DSt} {Xp : XP} {P : DV → Prop} {E : XK} {ta : TA} (ht : EA (FH K H0 h a0 b0) X ta δ Xp fun xs => xs = [.v (.ref h.ph)] ∧ ∀ x : Int, x.natAbs < 2 ^ 100 → P (DI x)) : ED (FH K H0 h a0 b0) X (tCall (sp__law_number K) [] E ta) δ Xp P :=
  ed_hand fun σ H G c Q q => ht σ H G c Q fun us xs H1 G1 s1 r1 ⟨e, p⟩ => q us xs H1 G1 s1 r1 ⟨[], e, rfl, rfl, p⟩
theorem draw_and {A : Int → Prop} {m : Int} (h : ∀ x, 0 ≤ x → x < m → A x) (h1 : 0 < m) (h2 : m.natAbs < 2 ^ 64) : (∀ x, 0 ≤ x → x < m → A x) ∧ 0 < m ∧ m.natAbs < 2 ^ 64 := ⟨h, h1, h2⟩
theorem num_and {A : Int → Prop} {xs ys : List DV} (e : xs = ys) (h : ∀ x : Int, x.natAbs < 2 ^ 100 → A x) : xs = ys ∧ ∀ x : Int, x.natAbs < 2 ^ 100 → A x := ⟨e, h⟩
local macro_rules | `(tactic| walk_at "dl1") => `(tactic| first
  | with_reducible refine draw_and (fun _ _ _ => ?_) ?_ ?_
  | with_reducible refine num_and rfl (fun _ _ => ?_)
  | fail)
local macro_rules | `(tactic| walk_at "dl-ed") => `(tactic| first
  | with_reducible refine ed_draw ?_
  | with_reducible refine ed_number ?_
  | fail)
local macro_rules | `(tactic| walk_at "dl-d2") => `(tactic| first
  | with_reducible refine d2_pow' ?_ ?_
  | fail)
theorem sg_lt {s x : Int} (h0 : 0 ≤ s) (h1 : s < 2) (hx : x.natAbs < 2 ^ 100) : ((1 - 2 * s) * x).natAbs < 2 ^ 100 := by
  have : s = 0 ∨ s = 1 := by omega
  rcases this with rfl | rfl
  · simpa using hx
  · have : (1 - 2 * 1) * x = -x := by omega
    rw [this, Int.natAbs_neg]
    exact hx
theorem w__law_number (K : PySem.W.Frag) (H0 : Hp) (h : Hd) (a0 : H0 h.ph ≠ none) (b0 : H0 h.l0 ≠ none) (X : XK) (P : Int → Prop) (hP : ∀ x : Int, x.natAbs < 2 ^ 100 → P x) : WS (FH K H0 h a0 b0) X (t__law_number K) [some (.v (.ref h.ph)), none, none] X0 { nx := fun _ => False, rt := fun z => ∃ x, z = DI x ∧ P x } := by
  unfold t__law_number
  walk_at "dl"
  all_goals (try have e6 : (10 : Int) ^ Int.toNat 6 = 1000000 := by decide)
  all_goals (try have e15 : (10 : Int) ^ Int.toNat 15 = 1000000000000000 := by decide)
  all_goals (try simp only [e6, e15] at *)
  all_goals first
    | (refine ⟨_, rfl, hP _ (sg_lt (by assumption) (by assumption) ?_)⟩; omega)
    | (refine hP _ (sg_lt (by assumption) (by assumption) ?_); omega)
    | decide
    | exact ⟨by decide, by decide, by decide⟩
    | exact .inl ⟨by omega, by omega⟩
    | exact .inr ⟨by omega, by omega⟩
    | trace_state
theorem ok__law_number (K : PySem.W.Frag) (vs : List V) (H : Hp) (Q : VK) (E : XK) (h : sp__law_number K vs H Q E) : t__law_number K { nx := fun _ H' => Q .non H', rt := Q } (L2.start ["_law_hand", "_law_pick", "_law_sign"] vs) H :=
  pure_H (m := 2) h rfl fun H0 h a0 b0 is P _ ⟨e, hP⟩ => by
    subst e
    exact w__law_number K H0 h a0 b0 E P hP
end DL

namespace DL
open PySem PySem.Spec PyProof.Rows L2
theorem init_ok1 {K : PySem.W.Frag} {C : Addr} {f g g2 : Str} {vs : List V} {H : Hp} {Q : VK} {E : XK} (o : OexC K C) (n : PySem.W.findIn K (.ref C) f = some none) (h : DL.spInit C [f] vs H Q E) : tOst K f (tVar 0) (tVar 1) { nx := fun _ H' => Q .non H', rt := Q } (L2.start [g, g2] vs) H := by
  obtain ⟨a, ys, rfl, l, ha, q⟩ := h
  match ys, l with
  | [y], _ =>
    show tOst K f (tVar 0) (tVar 1) _ [some (.ref a), some y] H
    refine ⟨y, rfl, .ref a, rfl, a, C, rfl, o, n, .inl ⟨ha, fun dx h1 h2 => q dx h1 h2 _ upd_same ?_ fun b hb hd => ?_⟩⟩
    · rw [upd_ne h2, upd_same] <;> rfl
    · rw [upd_ne hb, upd_ne hd]
end DL
namespace DLH
open PySem PySem.Spec PyProof.Rows L2
/-- a call with keywords, no keyword-only parameters: g puts the positional values, all defaults and the keywords' values in the parameters' order -/
theorem kbinds1 {K : PySem.W.Frag} {x qual : Str} {params : Arguments} {body : List Stmt} {scope : Scope} {dvs : List V} {kws : List (Str × V)} {f : Addr} {fd : FuncData} {ps : List Str} (F : FunD K x qual params body scope dvs kws f fd) (n : Nat) (ks : List Str) (g : {α : Type} → List α → List α → List α → List α) (hd : dvs ≠ [])
    (hrel : ∀ {vs ds zs : List V} {us its ws : List Value}, Vals vs us → Vals ds its → Vals zs ws → Vals (g vs ds zs) (g us its ws))
    (h : ∀ (T : Addr) (kV doc pm : Value) (an : Option Addr) (cdv ct : Value) (us its ws : List Value), us.length = n → its.length = dvs.length → ws.length = ks.length →
      ∃ k, bindArgs (PySem.W.fnOf x qual params body scope (.ref T) kV doc pm an cdv ct) ⟨us, ks.zip ws⟩ = seqItems? (.ref T) >>= k ∧ k (some its.toArray) = pure (ps.zip (g us its ws))) :
    ∃ its : List Value, KBn K fd ps n ks (fun us ws => g us its ws) (fun vs zs => g vs dvs zs) := by
  obtain ⟨oc, od, dV, kV, doc, pm, an, cdv, ct, osl, rfl, lk, hcd, hD, hK⟩ := F.ex
  rcases hD with ⟨e, _⟩ | ⟨_, T, o, its, m, rfl, lT, oT, rT⟩
  · exact absurd e hd
  · refine ⟨its, ⟨fun s us ws X l1 l2 => ?_, fun r1 r2 => hrel r1 rT r2⟩⟩
    obtain ⟨k, e1, e2⟩ := h T kV doc pm an cdv ct us its ws l1 rT.length.symm l2
    refine BindsTo.of_looks fun M => ?_
    rw [e1]
    exact looks_items X lT oT (.of_pure e2)
end DLH

namespace NF
open PySem L2 DL
local macro_rules | `(tactic| walk_at "dl-call") => `(tactic| fail)
local macro_rules | `(tactic| walk_at "dl-pl") => `(tactic| (repeat' (first | exact plains_nil | refine plains_cons trivial ?_)))
local macro_rules | `(tactic| walk_at "dl-ws") => `(tactic| first
  | with_reducible refine ws_seq ?_
  | with_reducible refine ws_asg ?_
  | with_reducible refine ws_ret ?_
  | with_reducible refine ws_if ?_
  | with_reducible refine ws_next ?_
  | with_reducible refine ws_asgG ?_
  | with_reducible refine ws_par ?_
  | with_reducible refine ws_drop ?_
  | with_reducible refine ws_brk ?_)
local macro_rules | `(tactic| walk_at "dl-ed") => `(tactic| first
  | with_reducible refine ed_var rfl ?_
  | with_reducible refine ed_int ?_
  | with_reducible refine ed_op ?_
  | with_reducible refine ed_call ?_
  | with_reducible refine ed_tup ?_
  | with_reducible refine ed_cb ?_
  | with_reducible refine ed_un ?_
  | with_reducible refine ed_lst ?_
  | with_reducible refine ed_str ?_
  | with_reducible refine ed_bl ?_
  | with_reducible refine ed_non ?_
  | with_reducible refine ed_if ?_
  | with_reducible refine ed_andV ?_
  | with_reducible refine ed_orV ?_
  | with_reducible refine ed_notV ?_
  | with_reducible refine ed_ref ?_
  | with_reducible refine ed_ty ?_
  | with_reducible refine ed_fmtI' ?_
  | with_reducible refine ed_joined ?_)
local macro_rules | `(tactic| walk_at "dl-ea") => `(tactic| first
  | with_reducible refine ea_cons ?_
  | with_reducible refine ea_nil ?_)
local macro_rules | `(tactic| walk_at "dl-et") => `(tactic| first
  | with_reducible refine et_tst ?_
  | with_reducible refine et_b ?_
  | with_reducible refine et_and ?_
  | with_reducible refine et_or ?_
  | with_reducible refine et_not ?_
  | with_reducible refine et_yes ?_)
local macro_rules | `(tactic| walk_at "dl-d2") => `(tactic| first
  | with_reducible refine d2_add ?_
  | with_reducible refine d2_ixT rfl ?_
  | with_reducible refine d2_ixL rfl ?_
  | with_reducible refine d2_eqI ?_
  | with_reducible refine d2_neI ?_
  | with_reducible refine d2_lt ?_
  | with_reducible refine d2_le ?_
  | with_reducible refine d2_gt ?_
  | with_reducible refine d2_ge ?_
  | with_reducible refine d2_sub ?_
  | with_reducible refine d2_mulS' ?_ ?_
  | with_reducible refine d2_div' ?_ ?_
  | with_reducible refine d2_mod' ?_ ?_
  | with_reducible refine d2_isN_i ?_
  | with_reducible refine d2_isNN_i ?_
  | with_reducible refine d2_isN_b ?_
  | with_reducible refine d2_isNN_b ?_
  | with_reducible refine d2_isN_n ?_
  | with_reducible refine d2_isNN_n ?_
  | with_reducible refine d2_isN_s ?_
  | with_reducible refine d2_isNN_s ?_
  | with_reducible refine d2_isN_l ?_
  | with_reducible refine d2_isNN_l ?_
  | with_reducible refine d2_isN_t ?_
  | with_reducible refine d2_isNN_t ?_
  | with_reducible refine d2_isB ?_
  | with_reducible refine d2_isNB ?_
  | with_reducible refine d2_addS' ?_ ?_
  | with_reducible refine d2_addL' ?_ ?_
  | with_reducible refine d2_isN ?_
  | with_reducible refine d2_isNN ?_)
local macro_rules | `(tactic| walk_at "dl-isi") => `(tactic| first
  | with_reducible refine dc_isi_i_int ?_
  | with_reducible refine dc_isi_i_bool ?_
  | with_reducible refine dc_isi_i_str ?_
  | with_reducible refine dc_isi_i_list ?_
  | with_reducible refine dc_isi_i_tuple ?_
  | with_reducible refine dc_isi_b_int ?_
  | with_reducible refine dc_isi_b_bool ?_
  | with_reducible refine dc_isi_b_str ?_
  | with_reducible refine dc_isi_b_list ?_
  | with_reducible refine dc_isi_b_tuple ?_
  | with_reducible refine dc_isi_n_int ?_
  | with_reducible refine dc_isi_n_bool ?_
  | with_reducible refine dc_isi_n_str ?_
  | with_reducible refine dc_isi_n_list ?_
  | with_reducible refine dc_isi_n_tuple ?_
  | with_reducible refine dc_isi_s_int ?_
  | with_reducible refine dc_isi_s_bool ?_
  | with_reducible refine dc_isi_s_str ?_
  | with_reducible refine dc_isi_s_list ?_
  | with_reducible refine dc_isi_s_tuple ?_
  | with_reducible refine dc_isi_l_int ?_
  | with_reducible refine dc_isi_l_bool ?_
  | with_reducible refine dc_isi_l_str ?_
  | with_reducible refine dc_isi_l_list ?_
  | with_reducible refine dc_isi_l_tuple ?_
  | with_reducible refine dc_isi_t_int ?_
  | with_reducible refine dc_isi_t_bool ?_
  | with_reducible refine dc_isi_t_str ?_
  | with_reducible refine dc_isi_t_list ?_
  | with_reducible refine dc_isi_t_tuple ?_
  | with_reducible refine dc_isi_d_int ?_
  | with_reducible refine dc_isi_d_bool ?_
  | with_reducible refine dc_isi_d_str ?_
  | with_reducible refine dc_isi_d_list ?_
  | with_reducible refine dc_isi_d_tuple ?_)
local macro_rules | `(tactic| walk_at "dl-dc") => `(tactic| first
  | with_reducible refine dc_int ?_
  | with_reducible refine dc_abs ?_
  | with_reducible refine dc_gcd ?_
  | with_reducible refine dc_lenT ?_
  | with_reducible refine dc_lenL ?_
  | with_reducible refine dc_strI' ?_ ?_
  | walk_at "dl-isi")
local macro_rules | `(tactic| walk_at "dl1") => `(tactic| first
  | (with_reducible show ED _ _ _ _ _ _; walk_at "dl-ed")
  | (with_reducible show WS _ _ _ _ _ _; walk_at "dl-ws")
  | (with_reducible show EA _ _ _ _ _ _; walk_at "dl-ea")
  | (with_reducible show D2 _ _ _ _ _; walk_at "dl-d2")
  | (with_reducible refine ⟨_, rfl, ?_⟩)
  | (with_reducible show ET _ _ _ _ _ _; walk_at "dl-et")
  | (with_reducible show DC _ _ _ _; walk_at "dl-dc")
  | with_reducible refine if_t ?_
  | with_reducible refine if_f ?_
  | with_reducible refine if_nt ?_
  | with_reducible refine if_nf ?_
  | with_reducible refine and_pl ?_
  | (with_reducible refine if_dec (fun _ => ?_) (fun _ => ?_))
  | (with_reducible refine if_ndec (fun _ => ?_) (fun _ => ?_))
  | (with_reducible refine if_bool (fun _ => ?_) (fun _ => ?_))
  | with_reducible refine d1_neg ?_
  | (refine tup_fin (by rfl) ?_ (Nat.le_of_ble_eq_true rfl))
  | (refine lst_fin (by rfl) ?_ (Nat.le_of_ble_eq_true rfl))
  | (with_reducible refine ⟨rfl, (by repeat (first | exact plains_nil | refine plains_d ?_ | refine plains_v ?_)), ?_⟩; walk_at "dl-call")
  | with_reducible refine and_plv ?_
  | with_reducible refine ej_cons ?_
  | with_reducible refine ej_nil ?_
  | (dsimp only [List.set]))
local macro_rules | `(tactic| walk_at "dl") => `(tactic| (walk_at "dl1" <;> try (walk_at "dl")))

/-! ## ratios -/
abbrev Rt := Int × Int
abbrev rt (p : Rt) : PyData := .tuple [.int p.1, .int p.2]
def low (t b : Int) : Rt := (t / ((Nat.gcd t.natAbs b.natAbs : Nat) : Int), b / ((Nat.gcd t.natAbs b.natAbs : Nat) : Int))
def T_lowest_terms : TD := fun ds Xp P => ∃ t b : Int, ds = [DI t, DI b] ∧ P (.d (rt (low t b))) ∧ 0 < b ∧ b.natAbs < 2 ^ 8000
abbrev sp_lowest_terms (K : PySem.W.Frag) : Sp := spT K 2 T_lowest_terms
theorem u_lowest_terms {t b : Int} {Xp : XP} {P : DV → Prop} (p : P (.d (rt (low t b)))) (hb : 0 < b) (hz : b.natAbs < 2 ^ 8000) : T_lowest_terms [DI t, DI b] Xp P := ⟨t, b, rfl, p, hb, hz⟩
def t_lowest_terms (K : PySem.W.Frag) : TS := tSeq (tAsg (tCB rGcd (tCons (tVar 0) (tCons (tVar 1) (tNil)))) (gName 2)) (tSeq (tIfS (tTest (tOp (rEqD K) (tVar 2) (tC (.int 1)))) (tRet (tTup (tCons (tVar 0) (tCons (tVar 1) (tNil))))) (tNext)) (tRet (tTup (tCons (tOp (rDivU) (tVar 0) (tVar 2)) (tCons (tOp (rDivU) (tVar 1) (tVar 2)) (tNil))))))
theorem w_lowest_terms (F : Fm) (X : XK) (ds : List DV) (Xp : XP) (P : DV → Prop) (h : T_lowest_terms ds Xp P) : WS F X (t_lowest_terms F.K) (startD 1 ds) Xp { nx := fun _ => P DN, rt := P } := by
  obtain ⟨t, b, rfl, hP, hb, hz⟩ := h
  show WS F X _ [some (DI t), some (DI b), none] Xp _
  unfold t_lowest_terms
  have hg : 0 < Nat.gcd t.natAbs b.natAbs := Nat.gcd_pos_of_pos_right _ (by omega)
  have hle : Nat.gcd t.natAbs b.natAbs ≤ b.natAbs := Nat.gcd_le_right _ (by omega)
  walk_at "dl"
  · rename_i h1
    have e : low t b = (t, b) := by unfold low; rw [h1, Int.ediv_one, Int.ediv_one]
    rw [e] at hP
    exact hP
  · exact hP
  · exact cdiv_of (b := 8000) (by omega) (by omega)
  · exact cdiv_of (b := 8000) (by omega) (by omega)
local macro_rules | `(tactic| walk_at "dl-call") => `(tactic| first | refine u_lowest_terms ?_ ?_ ?_ | fail)
theorem fin {P : DV → Prop} {x y : DV} (h : P x) (e : x = y) : P y := e ▸ h
/-! whole numbers -/
def isWh : PyData → Option Int → Option Int → Bool
  | .int i, lo, hi => lo.all (fun l => decide (l ≤ i)) && hi.all (fun h => decide (i ≤ h))
  | _, _, _ => false
def optD : Option Int → DV
  | none => DN
  | some i => DI i
def T_is_whole : TD := fun ds Xp P => ∃ (x : PyData) (lo hi : Option Int), ds = [.d x, optD lo, optD hi] ∧ P (DB (isWh x lo hi))
abbrev sp_is_whole (K : PySem.W.Frag) : Sp := spT K 3 T_is_whole
def t_is_whole (K : PySem.W.Frag) : TS := tSeq (tIfS (tOr (tNot (tB (tCB (rIsi K) (tCons (tVar 0) (tCons (tC (.ty "int")) (tNil)))))) (tB (tCB (rIsi K) (tCons (tVar 0) (tCons (tC (.ty "bool")) (tNil)))))) (tRet (tC (.bl false))) (tNext)) (tRet (tAndV (tOrV (tOp (rIsU) (tVar 1) (tC .non)) (tOp (rGeU) (tVar 0) (tVar 1))) (tOrV (tOp (rIsU) (tVar 2) (tC .non)) (tOp (rLeU) (tVar 0) (tVar 2)))))
theorem w_is_whole (F : Fm) (X : XK) (ds : List DV) (Xp : XP) (P : DV → Prop) (h : T_is_whole ds Xp P) : WS F X (t_is_whole F.K) (startD 0 ds) Xp { nx := fun _ => P DN, rt := P } := by
  obtain ⟨x, lo, hi, rfl, hP⟩ := h
  show WS F X _ [some (.d x), some (optD lo), some (optD hi)] Xp _
  unfold t_is_whole
  cases x with
  | int i =>
    cases lo with
    | none =>
      cases hi with
      | none => simp only [optD]; walk_at "dl"; exact hP
      | some h => simp only [optD]; walk_at "dl"; exact hP
    | some l =>
      cases hi with
      | none =>
        simp only [optD]
        walk_at "dl" <;> refine fin hP ?_ <;> simp [isWh] <;> omega
      | some h =>
        simp only [optD]
        walk_at "dl" <;> refine fin hP ?_ <;> simp [isWh] <;> omega
  | none => walk_at "dl"; exact hP
  | bool b => walk_at "dl"; exact hP
  | str s => walk_at "dl"; exact hP
  | list xs => walk_at "dl"; exact hP
  | tuple xs => walk_at "dl"; exact hP
  | dict xs => walk_at "dl"; exact hP
/-- the calls of is_whole with one, two arguments -/
theorem ed_wh1 {F : Fm} {X : XW} {δ : DSt} {Xp : XP} {P : DV → Prop} {E : XK} {ta : TA} (h : EA F X ta δ Xp fun xs => ∃ x, xs = [.d x] ∧ P (DB (isWh x none none))) : ED F X (tCall (sp_is_whole F.K) [.non, .non] E ta) δ Xp P :=
  ed_callD (dds := [DN, DN]) (fun _ _ _ _ => ⟨.non, .non, trivial⟩) (plains_cons trivial (plains_cons trivial plains_nil)) (by
    intro σ H G c Q q
    exact h σ H G c Q fun us xs H1 G1 s1 r1 ⟨x, e, p⟩ => q us xs H1 G1 s1 r1 (by subst e; exact ⟨rfl, plains_cons trivial plains_nil, x, none, none, rfl, trivial, p⟩))
theorem ed_wh2 {F : Fm} {X : XW} {δ : DSt} {Xp : XP} {P : DV → Prop} {E : XK} {ta : TA} (h : EA F X ta δ Xp fun xs => ∃ x l, xs = [.d x, DI l] ∧ P (DB (isWh x (some l) none))) : ED F X (tCall (sp_is_whole F.K) [.non] E ta) δ Xp P :=
  ed_callD (dds := [DN]) (fun _ _ _ _ => ⟨.non, trivial⟩) (plains_cons trivial plains_nil) (by
    intro σ H G c Q q
    exact h σ H G c Q fun us xs H1 G1 s1 r1 ⟨x, l, e, p⟩ => q us xs H1 G1 s1 r1 (by subst e; exact ⟨rfl, plains_cons trivial (plains_cons trivial plains_nil), x, some l, none, rfl, trivial, p⟩))
local macro_rules | `(tactic| walk_at "dl-ed") => `(tactic| first
  | with_reducible refine ed_wh1 ?_
  | with_reducible refine ed_wh2 ?_
  | fail)
local macro_rules | `(tactic| walk_at "dl1") => `(tactic| first | refine ⟨_, _, rfl, ?_⟩ | fail)
/-! ratios of any kind -/
def isRat : PyData → Bool
  | .tuple [.int t, .int b] => decide (1 ≤ b) && decide (((Nat.gcd t.natAbs b.natAbs : Nat) : Int) = 1)
  | _ => false
def T_is_ratio : TD := fun ds Xp P => ∃ x : PyData, ds = [.d x] ∧ P (DB (isRat x))
abbrev sp_is_ratio (K : PySem.W.Frag) : Sp := spT K 1 T_is_ratio
def t_is_ratio (K : PySem.W.Frag) : TS := tSeq (tIfS (tOr (tNot (tB (tCB (rIsi K) (tCons (tVar 0) (tCons (tC (.ty "tuple")) (tNil)))))) (tTest (tOp (rNeD K) (tCB (rLenU K) (tCons (tVar 0) (tNil))) (tC (.int 2))))) (tRet (tC (.bl false))) (tNext)) (tSeq (tAsg (tVar 0) (gTup K 2 (gCons (gName 1) (gCons (gName 2) (gNil))))) (tRet (tAndV (tCall (sp_is_whole K) [.non, .non] E0 (tCons (tVar 1) (tNil))) (tAndV (tCall (sp_is_whole K) [.non] E0 (tCons (tVar 2) (tCons (tC (.int 1)) (tNil)))) (tOp (rEqD K) (tCB rGcd (tCons (tVar 1) (tCons (tVar 2) (tNil)))) (tC (.int 1)))))))
theorem isRat_ne {y z : PyData} (h : isWh y none none = false ∨ isWh z (some 1) none = false) : isRat (.tuple [y, z]) = false := by
  cases y with
  | int t =>
    cases z with
    | int b =>
      rcases h with h | h
      · simp [isWh] at h
      · simp [isWh] at h
        simp [isRat]
        omega
    | _ => rfl
  | _ => rfl
theorem w_is_ratio (F : Fm) (X : XK) (ds : List DV) (Xp : XP) (P : DV → Prop) (h : T_is_ratio ds Xp P) : WS F X (t_is_ratio F.K) (startD 2 ds) Xp { nx := fun _ => P DN, rt := P } := by
  obtain ⟨x, rfl, hP⟩ := h
  show WS F X _ [some (.d x), none, none] Xp _
  unfold t_is_ratio
  cases x with
  | tuple xs =>
    walk_at "dl"
    · rename_i h
      refine fin hP (congrArg DB ?_)
      match xs, h with
      | [], _ => rfl
      | [_], _ => simp [isRat]
      | [_, _], h => exact absurd rfl h
      | _ :: _ :: _ :: _, _ => simp [isRat]
    · rename_i h
      match xs, h with
      | [y, z], _ =>
        refine dg_tup rfl (dgs_cons (dg_name trivial (dgs_cons (dg_name trivial (dgs_nil ?_)))))
        walk_at "dl"
        · rename_i h1 h2
          cases y with
          | int t =>
            cases z with
            | int b =>
              walk_at "dl"
              refine fin hP (congrArg DB ?_)
              simp [isWh] at h2
              simp [isRat, h2]
            | _ => simp [isWh] at h2
          | _ => simp [isWh] at h1
        · rename_i h1 h2
          exact fin hP (congrArg DB (isRat_ne (.inr h2)))
        · rename_i h1
          exact fin hP (congrArg DB (isRat_ne (.inl h1)))
      | [], h => exact absurd (by simp : ((0 : Nat) : Int) ≠ 2) (by simpa using h)
      | [_], h => simp at h
      | _ :: _ :: _ :: _, h => simp at h; omega
  | none => walk_at "dl"; exact hP
  | bool b => walk_at "dl"; exact hP
  | str s => walk_at "dl"; exact hP
  | list xs => walk_at "dl"; exact hP
  | int xs => walk_at "dl"; exact hP
  | dict xs => walk_at "dl"; exact hP
/-! making -/
def mk (t b : Int) : Rt := if b < 0 then low (-t) (-b) else low t b
def T_make_ratio (K : PySem.W.Frag) : TD := fun ds Xp P => ∃ x y : PyData, ds = [.d x, .d y] ∧ ((isWh x none none = false ∧ Xp (He.ga K "BadRatio") [("what", DS "top")]) ∨
  (isWh x none none = true ∧ (isWh y none none = false ∨ y = .int 0) ∧ Xp (He.ga K "BadRatio") [("what", DS "bottom")]) ∨ ∃ t b, x = .int t ∧ y = .int b ∧ P (.d (rt (mk t b))) ∧ b ≠ 0 ∧ b.natAbs < 2 ^ 8000)
abbrev sp_make_ratio (K : PySem.W.Frag) : Sp := spT K 2 (T_make_ratio K)
def t_make_ratio (K : PySem.W.Frag) (E : XK) : TS := tSeq (tIfS (tNot (tB (tCall (sp_is_whole K) [.non, .non] E0 (tCons (tVar 0) (tNil))))) (tRz (fun cls d _ H => E cls d H) (tMkO (He.ga K "BadRatio") (spInit (He.ga K "BadRatio") ["what"]) [] (tCons (tC (.str "top")) (tNil)))) (tNext)) (tSeq (tIfS (tOr (tNot (tB (tCall (sp_is_whole K) [.non, .non] E0 (tCons (tVar 1) (tNil))))) (tTest (tOp (rEqD K) (tVar 1) (tC (.int 0))))) (tRz (fun cls d _ H => E cls d H) (tMkO (He.ga K "BadRatio") (spInit (He.ga K "BadRatio") ["what"]) [] (tCons (tC (.str "bottom")) (tNil)))) (tNext)) (tSeq (tIfS (tTest (tOp (rLtU) (tVar 1) (tC (.int 0)))) (tRet (tCall (sp_lowest_terms K) [] E0 (tCons (tUn rNegU (tVar 0)) (tCons (tUn rNegU (tVar 1)) (tNil))))) (tNext)) (tRet (tCall (sp_lowest_terms K) [] E0 (tCons (tVar 0) (tCons (tVar 1) (tNil)))))))
theorem isWh_int {x : PyData} (h : isWh x none none = true) : ∃ i, x = .int i := by
  cases x with
  | int i => exact ⟨i, rfl⟩
  | _ => simp [isWh] at h
local macro_rules | `(tactic| walk_at "dl-ws") => `(tactic| first
  | with_reducible refine ws_raiseI (by decide) ?_
  | fail)
theorem bool_nt {b : Bool} (h : (!b) = true) : b = false := by cases b <;> simp_all
theorem bool_nf {b : Bool} (h : (!b) = false) : b = true := by cases b <;> simp_all
theorem w_make_ratio (F : Fm) (X : XK) (ds : List DV) (Xp : XP) (P : DV → Prop) (h : T_make_ratio F.K ds Xp P) : WS F X (t_make_ratio F.K X) (startD 0 ds) Xp { nx := fun _ => P DN, rt := P } := by
  obtain ⟨x, y, rfl, h⟩ := h
  show WS F X _ [some (.d x), some (.d y)] Xp _
  unfold t_make_ratio
  rcases h with ⟨h1, hX⟩ | ⟨h1, h2, hX⟩ | ⟨t, b, rfl, rfl, hP, hb, hz⟩
  · walk_at "dl"
    · exact ⟨rfl, hX⟩
    all_goals (exfalso; simp_all)
  · obtain ⟨t, rfl⟩ := isWh_int h1
    rcases h2 with h2 | rfl
    · walk_at "dl"
      · exfalso; simp_all
      · exact ⟨rfl, hX⟩
      all_goals (exfalso; simp_all)
    · walk_at "dl"
      · exfalso; simp_all
      · exact ⟨rfl, hX⟩
      · exact ⟨rfl, hX⟩
      all_goals (exfalso; simp_all)
  · walk_at "dl"
    · rename_i h; simp [isWh] at h
    · rename_i h; simp [isWh] at h
    · rename_i h; exact absurd h hb
    · rename_i h
      have e : mk t b = low (-t) (-b) := if_pos h
      rw [e] at hP
      exact hP
    · omega
    · omega
    · rename_i h
      have e : mk t b = low t b := if_neg h
      rw [e] at hP
      exact hP
    · omega
    · omega
theorem u_make_ratio {K : PySem.W.Frag} {t b : Int} {Xp : XP} {P : DV → Prop} (p : P (.d (rt (mk t b)))) (hb : b ≠ 0) (hz : b.natAbs < 2 ^ 8000) : T_make_ratio K [DI t, DI b] Xp P := ⟨_, _, rfl, .inr (.inr ⟨t, b, rfl, rfl, p, hb, hz⟩)⟩
local macro_rules | `(tactic| walk_at "dl-call") => `(tactic| first | refine u_make_ratio ?_ ?_ ?_ | fail)
/-! reckoning; each number below 2 ^ 1500 -/
structure RB (p : Rt) : Prop where
  pos : 0 < p.2
  top : p.1.natAbs < 2 ^ 1500
  bot : p.2.natAbs < 2 ^ 1500
theorem mul_lt {a b : Int} (ha : a.natAbs < 2 ^ 1500) (hb : b.natAbs < 2 ^ 1500) : (a * b).natAbs < 2 ^ 3000 := wide_lt ha hb
theorem mul_ok {a b : Int} (ha : a.natAbs < 2 ^ 1500) (hb : b.natAbs < 2 ^ 1500) : CMulW a b := cmul_of ha hb
theorem z8000 {a : Int} (h : a.natAbs < 2 ^ 3000) : a.natAbs < 2 ^ 8000 := Nat.lt_of_lt_of_le h (Nat.pow_le_pow_right (by decide) (by decide))
def plusR (p q : Rt) : Rt := low (p.1 * q.2 + q.1 * p.2) (p.2 * q.2)
def minusR (p q : Rt) : Rt := low (p.1 * q.2 - q.1 * p.2) (p.2 * q.2)
def timesR (p q : Rt) : Rt := low (p.1 * q.1) (p.2 * q.2)
abbrev T_2 (f : Rt → Rt → Rt) : TD := fun ds Xp P => ∃ p q : Rt, ds = [.d (rt p), .d (rt q)] ∧ P (.d (rt (f p q))) ∧ RB p ∧ RB q
def T_ratio_plus : TD := T_2 plusR
def T_ratio_minus : TD := T_2 minusR
def T_ratio_times : TD := T_2 timesR
abbrev sp_ratio_plus (K : PySem.W.Frag) : Sp := spT K 2 T_ratio_plus
abbrev sp_ratio_minus (K : PySem.W.Frag) : Sp := spT K 2 T_ratio_minus
abbrev sp_ratio_times (K : PySem.W.Frag) : Sp := spT K 2 T_ratio_times
def t_ratio_plus (K : PySem.W.Frag) : TS := tRet (tCall (sp_lowest_terms K) [] E0 (tCons (tOp (rAddU K) (tOp (rMulU) (tOp (rIx K) (tVar 0) (tC (.int 0))) (tOp (rIx K) (tVar 1) (tC (.int 1)))) (tOp (rMulU) (tOp (rIx K) (tVar 1) (tC (.int 0))) (tOp (rIx K) (tVar 0) (tC (.int 1))))) (tCons (tOp (rMulU) (tOp (rIx K) (tVar 0) (tC (.int 1))) (tOp (rIx K) (tVar 1) (tC (.int 1)))) (tNil))))
def t_ratio_minus (K : PySem.W.Frag) : TS := tRet (tCall (sp_lowest_terms K) [] E0 (tCons (tOp (rSubU) (tOp (rMulU) (tOp (rIx K) (tVar 0) (tC (.int 0))) (tOp (rIx K) (tVar 1) (tC (.int 1)))) (tOp (rMulU) (tOp (rIx K) (tVar 1) (tC (.int 0))) (tOp (rIx K) (tVar 0) (tC (.int 1))))) (tCons (tOp (rMulU) (tOp (rIx K) (tVar 0) (tC (.int 1))) (tOp (rIx K) (tVar 1) (tC (.int 1)))) (tNil))))
def t_ratio_times (K : PySem.W.Frag) : TS := tRet (tCall (sp_lowest_terms K) [] E0 (tCons (tOp (rMulU) (tOp (rIx K) (tVar 0) (tC (.int 0))) (tOp (rIx K) (tVar 1) (tC (.int 0)))) (tCons (tOp (rMulU) (tOp (rIx K) (tVar 0) (tC (.int 1))) (tOp (rIx K) (tVar 1) (tC (.int 1)))) (tNil))))
local macro_rules | `(tactic| walk_at "dl-d2") => `(tactic| first
  | with_reducible refine d2_mul' ?_ ?_
  | fail)
theorem w_ratio_plus (F : Fm) (X : XK) (ds : List DV) (Xp : XP) (P : DV → Prop) (h : T_ratio_plus ds Xp P) : WS F X (t_ratio_plus F.K) (startD 0 ds) Xp { nx := fun _ => P DN, rt := P } := by
  obtain ⟨⟨a, b⟩, ⟨c, d⟩, rfl, hP, hp, hq⟩ := h
  obtain ⟨p1, p2, p3⟩ := hp
  obtain ⟨q1, q2, q3⟩ := hq
  dsimp only at *
  show WS F X _ [some (.d (rt (a, b))), some (.d (rt (c, d)))] Xp _
  unfold t_ratio_plus
  walk_at "dl"
  · exact hP
  · exact Int.mul_pos p1 q1
  · exact z8000 (mul_lt p3 q3)
  all_goals exact mul_ok (by assumption) (by assumption)
theorem w_ratio_minus (F : Fm) (X : XK) (ds : List DV) (Xp : XP) (P : DV → Prop) (h : T_ratio_minus ds Xp P) : WS F X (t_ratio_minus F.K) (startD 0 ds) Xp { nx := fun _ => P DN, rt := P } := by
  obtain ⟨⟨a, b⟩, ⟨c, d⟩, rfl, hP, hp, hq⟩ := h
  obtain ⟨p1, p2, p3⟩ := hp
  obtain ⟨q1, q2, q3⟩ := hq
  dsimp only at *
  show WS F X _ [some (.d (rt (a, b))), some (.d (rt (c, d)))] Xp _
  unfold t_ratio_minus
  walk_at "dl"
  · exact hP
  · exact Int.mul_pos p1 q1
  · exact z8000 (mul_lt p3 q3)
  all_goals exact mul_ok (by assumption) (by assumption)
theorem w_ratio_times (F : Fm) (X : XK) (ds : List DV) (Xp : XP) (P : DV → Prop) (h : T_ratio_times ds Xp P) : WS F X (t_ratio_times F.K) (startD 0 ds) Xp { nx := fun _ => P DN, rt := P } := by
  obtain ⟨⟨a, b⟩, ⟨c, d⟩, rfl, hP, hp, hq⟩ := h
  obtain ⟨p1, p2, p3⟩ := hp
  obtain ⟨q1, q2, q3⟩ := hq
  dsimp only at *
  show WS F X _ [some (.d (rt (a, b))), some (.d (rt (c, d)))] Xp _
  unfold t_ratio_times
  walk_at "dl"
  · exact hP
  · exact Int.mul_pos p1 q1
  · exact z8000 (mul_lt p3 q3)
  all_goals exact mul_ok (by assumption) (by assumption)
theorem u_ratio_plus {p q : Rt} {Xp : XP} {P : DV → Prop} (h : P (.d (rt (plusR p q)))) (hp : RB p) (hq : RB q) : T_ratio_plus [.d (rt p), .d (rt q)] Xp P := ⟨p, q, rfl, h, hp, hq⟩
theorem u_ratio_minus {p q : Rt} {Xp : XP} {P : DV → Prop} (h : P (.d (rt (minusR p q)))) (hp : RB p) (hq : RB q) : T_ratio_minus [.d (rt p), .d (rt q)] Xp P := ⟨p, q, rfl, h, hp, hq⟩
theorem u_ratio_times {p q : Rt} {Xp : XP} {P : DV → Prop} (h : P (.d (rt (timesR p q)))) (hp : RB p) (hq : RB q) : T_ratio_times [.d (rt p), .d (rt q)] Xp P := ⟨p, q, rfl, h, hp, hq⟩
local macro_rules | `(tactic| walk_at "dl-call") => `(tactic| first | refine u_ratio_plus ?_ ?_ ?_ | refine u_ratio_minus ?_ ?_ ?_ | refine u_ratio_times ?_ ?_ ?_ | fail)
/-! division -/
def overR (p q : Rt) : Rt := mk (p.1 * q.2) (p.2 * q.1)
def T_ratio_over (K : PySem.W.Frag) : TD := fun ds Xp P => ∃ p q : Rt, ds = [.d (rt p), .d (rt q)] ∧ ((q.1 = 0 ∧ Xp (He.ga K "DividedByNought") []) ∨ (q.1 ≠ 0 ∧ P (.d (rt (overR p q))))) ∧ RB p ∧ RB q
abbrev sp_ratio_over (K : PySem.W.Frag) : Sp := spT K 2 (T_ratio_over K)
def t_ratio_over (K : PySem.W.Frag) (E : XK) : TS := tSeq (tIfS (tTest (tOp (rEqD K) (tOp (rIx K) (tVar 1) (tC (.int 0))) (tC (.int 0)))) (tRz (fun cls d _ H => E cls d H) (tMk0 (He.ga K "DividedByNought"))) (tNext)) (tRet (tCall (sp_make_ratio K) [] E0 (tCons (tOp (rMulU) (tOp (rIx K) (tVar 0) (tC (.int 0))) (tOp (rIx K) (tVar 1) (tC (.int 1)))) (tCons (tOp (rMulU) (tOp (rIx K) (tVar 0) (tC (.int 1))) (tOp (rIx K) (tVar 1) (tC (.int 0)))) (tNil)))))
local macro_rules | `(tactic| walk_at "dl-ws") => `(tactic| first
  | with_reducible refine ws_raise0 ?_
  | fail)
theorem w_ratio_over (F : Fm) (X : XK) (ds : List DV) (Xp : XP) (P : DV → Prop) (h : T_ratio_over F.K ds Xp P) : WS F X (t_ratio_over F.K X) (startD 0 ds) Xp { nx := fun _ => P DN, rt := P } := by
  obtain ⟨⟨a, b⟩, ⟨c, d⟩, rfl, hP, hp, hq⟩ := h
  obtain ⟨p1, p2, p3⟩ := hp
  obtain ⟨q1, q2, q3⟩ := hq
  dsimp only at *
  show WS F X _ [some (.d (rt (a, b))), some (.d (rt (c, d)))] Xp _
  unfold t_ratio_over
  walk_at "dl"
  · rename_i h
    rcases hP with ⟨_, hP⟩ | ⟨h2, _⟩
    · exact hP
    · exact absurd h h2
  · rename_i h
    rcases hP with ⟨h2, _⟩ | ⟨_, hP⟩
    · exact absurd h2 h
    · exact hP
  · rename_i h
    exact Int.mul_ne_zero (by omega) h
  · exact z8000 (mul_lt p3 q2)
  all_goals exact mul_ok (by assumption) (by assumption)
/-! the negative one, the order, the text -/
def T_ratio_negative : TD := fun ds Xp P => ∃ p : Rt, ds = [.d (rt p)] ∧ P (.d (rt (-p.1, p.2)))
abbrev sp_ratio_negative (K : PySem.W.Frag) : Sp := spT K 1 T_ratio_negative
def t_ratio_negative (K : PySem.W.Frag) : TS := tRet (tTup (tCons (tUn rNegU (tOp (rIx K) (tVar 0) (tC (.int 0)))) (tCons (tOp (rIx K) (tVar 0) (tC (.int 1))) (tNil))))
theorem w_ratio_negative (F : Fm) (X : XK) (ds : List DV) (Xp : XP) (P : DV → Prop) (h : T_ratio_negative ds Xp P) : WS F X (t_ratio_negative F.K) (startD 0 ds) Xp { nx := fun _ => P DN, rt := P } := by
  obtain ⟨⟨a, b⟩, rfl, hP⟩ := h
  show WS F X _ [some (.d (rt (a, b)))] Xp _
  unfold t_ratio_negative
  walk_at "dl"
  exact hP
def cmpR (p q : Rt) : Int := if p.1 * q.2 = q.1 * p.2 then 0 else if p.1 * q.2 < q.1 * p.2 then -1 else 1
def T_ratio_compare : TD := fun ds Xp P => ∃ p q : Rt, ds = [.d (rt p), .d (rt q)] ∧ P (DI (cmpR p q)) ∧ RB p ∧ RB q
abbrev sp_ratio_compare (K : PySem.W.Frag) : Sp := spT K 2 T_ratio_compare
def t_ratio_compare (K : PySem.W.Frag) : TS := tSeq (tAsg (tOp (rMulU) (tOp (rIx K) (tVar 0) (tC (.int 0))) (tOp (rIx K) (tVar 1) (tC (.int 1)))) (gName 2)) (tSeq (tAsg (tOp (rMulU) (tOp (rIx K) (tVar 1) (tC (.int 0))) (tOp (rIx K) (tVar 0) (tC (.int 1)))) (gName 3)) (tSeq (tIfS (tTest (tOp (rEqD K) (tVar 2) (tVar 3))) (tRet (tC (.int 0))) (tNext)) (tRet (tIf (tTest (tOp (rLtU) (tVar 2) (tVar 3))) (tUn rNegU (tC (.int 1))) (tC (.int 1))))))
theorem w_ratio_compare (F : Fm) (X : XK) (ds : List DV) (Xp : XP) (P : DV → Prop) (h : T_ratio_compare ds Xp P) : WS F X (t_ratio_compare F.K) (startD 2 ds) Xp { nx := fun _ => P DN, rt := P } := by
  obtain ⟨⟨a, b⟩, ⟨c, d⟩, rfl, hP, hp, hq⟩ := h
  obtain ⟨p1, p2, p3⟩ := hp
  obtain ⟨q1, q2, q3⟩ := hq
  dsimp only at *
  show WS F X _ [some (.d (rt (a, b))), some (.d (rt (c, d))), none, none] Xp _
  unfold t_ratio_compare
  walk_at "dl"
  · rename_i h
    exact fin hP (congrArg DI (if_pos h))
  · rename_i h h2
    exact fin hP (congrArg DI ((if_neg h).trans (if_pos h2)))
  · rename_i h h2
    exact fin hP (congrArg DI ((if_neg h).trans (if_neg h2)))
  all_goals exact mul_ok (by assumption) (by assumption)
theorem str_len {a b : Str} : (a ++ b).length = a.length + b.length := Array.size_append ..
def textR (p : Rt) : Str := if p.2 = 1 then toString p.1 else ((Str.empty ++ (toString p.1 : Str)) ++ ("/" : Str)) ++ (toString p.2 : Str)
theorem log_lt {a : Int} (h : a.natAbs < 2 ^ 1500) : a.natAbs.log2 < 1920 := Nat.lt_of_lt_of_le (PySem.Flt.log2_lt_of (by decide) h) (by decide)
def T_ratio_text : TD := fun ds Xp P => ∃ p : Rt, ds = [.d (rt p)] ∧ P (DS (textR p)) ∧ RB p
abbrev sp_ratio_text (K : PySem.W.Frag) : Sp := spT K 1 T_ratio_text
def t_ratio_text (K : PySem.W.Frag) : TS := tSeq (tAsg (tVar 0) (gTup K 2 (gCons (gName 1) (gCons (gName 2) (gNil))))) (tRet (tIf (tTest (tOp (rEqD K) (tVar 2) (tC (.int 1)))) (tCB (rStrU) (tCons (tVar 1) (tNil))) (tJoined [tFmt (tVar 1), tC (.str "/"), tFmt (tVar 2)])))
theorem w_ratio_text (F : Fm) (X : XK) (ds : List DV) (Xp : XP) (P : DV → Prop) (h : T_ratio_text ds Xp P) : WS F X (t_ratio_text F.K) (startD 2 ds) Xp { nx := fun _ => P DN, rt := P } := by
  obtain ⟨⟨a, b⟩, rfl, hP, hp⟩ := h
  obtain ⟨p1, p2, p3⟩ := hp
  dsimp only at *
  show WS F X _ [some (.d (rt (a, b))), none, none] Xp _
  unfold t_ratio_text
  walk_at "dl"
  refine dg_tup rfl (dgs_cons (dg_name trivial (dgs_cons (dg_name trivial (dgs_nil ?_)))))
  walk_at "dl"
  · rename_i h
    exact fin hP (congrArg DS (if_pos h))
  · exact log_lt p2
  · rename_i h
    have l1 : (Str.ofString (toString a)).length ≤ 1921 := PyProof.Rows.int_text_len_1921 (log_lt p2)
    have l2 : (Str.ofString (toString b)).length ≤ 1921 := PyProof.Rows.int_text_len_1921 (log_lt p3)
    refine ⟨⟨_, rfl, by rw [str_len]; show 0 + _ ≤ _; omega, ?_⟩, log_lt p2⟩
    walk_at "dl"
    refine ⟨by rw [str_len, str_len]; show 0 + _ + 1 ≤ _; omega, ?_⟩
    walk_at "dl"
    refine ⟨⟨_, rfl, by rw [str_len, str_len, str_len]; show 0 + _ + 1 + _ ≤ _; omega, ej_nil ?_⟩, log_lt p3⟩
    exact fin hP (congrArg DS (if_neg h))
theorem u_ratio_text {p : Rt} {Xp : XP} {P : DV → Prop} (h : P (DS (textR p))) (hp : RB p) : T_ratio_text [.d (rt p)] Xp P := ⟨p, rfl, h, hp⟩
theorem u_ratio_compare {p q : Rt} {Xp : XP} {P : DV → Prop} (h : P (DI (cmpR p q))) (hp : RB p) (hq : RB q) : T_ratio_compare [.d (rt p), .d (rt q)] Xp P := ⟨p, q, rfl, h, hp, hq⟩
theorem u_ratio_negative {p : Rt} {Xp : XP} {P : DV → Prop} (h : P (.d (rt (-p.1, p.2)))) : T_ratio_negative [.d (rt p)] Xp P := ⟨p, rfl, h⟩
theorem u_is_ratio {x : PyData} {Xp : XP} {P : DV → Prop} (h : P (DB (isRat x))) : T_is_ratio [.d x] Xp P := ⟨x, rfl, h⟩
/-! powers by squaring, of any product -/
def powL (mul : PyData → PyData → PyData) : Nat → Nat → PyData → PyData → PyData
  | 0, _, f, _ => f
  | _ + 1, 0, f, _ => f
  | k + 1, n + 1, f, s => powL mul k ((n + 1) / 2) (if (n + 1) % 2 = 1 then mul f s else f) (if (n + 1) / 2 > 0 then mul s s else s)
/-- the product at hand may be reckoned on the way of powL -/
def PowOk (Tf : TD) (mul : PyData → PyData → PyData) : Nat → Nat → PyData → PyData → Prop
  | 0, n, _, _ => n = 0
  | k + 1, n, f, s => n = 0 ∨ ((n % 2 = 1 → ∀ P : DV → Prop, P (.d (mul f s)) → Tf [.d f, .d s] X0 P) ∧ (n / 2 > 0 → ∀ P : DV → Prop, P (.d (mul s s)) → Tf [.d s, .d s] X0 P) ∧
      PowOk Tf mul k (n / 2) (if n % 2 = 1 then mul f s else f) (if n / 2 > 0 then mul s s else s))
theorem powL_zero {mul : PyData → PyData → PyData} : ∀ (k : Nat) (f s : PyData), powL mul k 0 f s = f
  | 0, _, _ => rfl
  | _ + 1, _, _ => rfl
theorem powL_step {mul : PyData → PyData → PyData} {k n : Nat} (f s : PyData) (h : n ≠ 0) : powL mul (k + 1) n f s = powL mul k (n / 2) (if n % 2 = 1 then mul f s else f) (if n / 2 > 0 then mul s s else s) := by
  cases n with
  | zero => exact absurd rfl h
  | succ n => rfl
def T_power_by (S : Addr → Option Sp) (K : PySem.W.Frag) : TD := fun ds Xp P => ∃ (f : Addr) (u b : PyData) (n k : Nat) (Tf : TD) (mul : PyData → PyData → PyData), ds = [.v (.ref f), .d u, .d b, DI n] ∧ S f = some (spT K 2 Tf) ∧ PowOk Tf mul k n u b ∧ P (.d (powL mul k n u b))
abbrev sp_power_by (S : PySem.W.Frag → Addr → Option Sp) (K : PySem.W.Frag) : Sp := spT K 4 (T_power_by (S K) K)
def t_power_by (K : PySem.W.Frag) (S_power : PySem.W.Frag → Addr → Option Sp) : TS := tSeq (tAsg (tVar 1) (gName 4)) (tSeq (tAsg (tVar 2) (gName 5)) (tSeq (tWhile (tTest (tOp (rGtU) (tVar 3) (tC (.int 0)))) (tSeq (tIfS (tTest (tOp (rEqD K) (tOp (rModU) (tVar 3) (tC (.int 2))) (tC (.int 1)))) (tAsg (tCallA 0 (S_power K) (tCons (tVar 4) (tCons (tVar 5) (tNil)))) (gName 4)) (tNext)) (tSeq (tAsg (tOp (rDivU) (tVar 3) (tC (.int 2))) (gName 3)) (tIfS (tTest (tOp (rGtU) (tVar 3) (tC (.int 0)))) (tAsg (tCallA 0 (S_power K) (tCons (tVar 5) (tCons (tVar 5) (tNil)))) (gName 5)) (tNext))))) (tRet (tVar 4))))
theorem w_power_by (S : PySem.W.Frag → Addr → Option Sp) (F : Fm) (X : XK) (ds : List DV) (Xp : XP) (P : DV → Prop) (h : T_power_by (S F.K) F.K ds Xp P) : WS F X (t_power_by F.K S) (startD 2 ds) Xp { nx := fun _ => P DN, rt := P } := by
  obtain ⟨f, u, b, n, k, Tf, mul, rfl, hS, hO, hP⟩ := h
  show WS F X _ [some (.v (.ref f)), some (.d u), some (.d b), some (DI n), none, none] Xp _
  unfold t_power_by
  walk_at "dl"
  refine ws_while (fun m δ' => ∃ (n' : Nat) (g s : PyData), δ' = [some (.v (.ref f)), some (.d u), some (.d b), some (DI n'), some (.d g), some (.d s)] ∧ PowOk Tf mul m n' g s ∧ powL mul m n' g s = powL mul k n u b) k ⟨n, u, b, rfl, hO, rfl⟩ ?_
  rintro m δ' ⟨n', g, s, rfl, hO', e⟩
  have key : n' ≠ 0 → ∃ m0, m = m0 + 1 ∧ (n' % 2 = 1 → ∀ P : DV → Prop, P (.d (mul g s)) → Tf [.d g, .d s] X0 P) ∧ (n' / 2 > 0 → ∀ P : DV → Prop, P (.d (mul s s)) → Tf [.d s, .d s] X0 P) ∧
      PowOk Tf mul m0 (n' / 2) (if n' % 2 = 1 then mul g s else g) (if n' / 2 > 0 then mul s s else s) ∧ powL mul m0 (n' / 2) (if n' % 2 = 1 then mul g s else g) (if n' / 2 > 0 then mul s s else s) = powL mul k n u b := by
    intro hn
    cases m with
    | zero => exact absurd hO' hn
    | succ m =>
      rcases hO' with h | ⟨o1, o2, o3⟩
      · exact absurd h hn
      · rw [powL_step g s hn] at e
        exact ⟨m, rfl, o1, o2, o3, e⟩
  walk_at "dl"
  · rename_i h0 h1
    have hn : n' ≠ 0 := by omega
    obtain ⟨m0, hm0, o1, o2, o3, e3⟩ := key hn
    subst hm0
    have hm : n' % 2 = 1 := by omega
    refine ed_callA rfl hS (ea_cons (ed_var rfl (ea_cons (ed_var rfl (ea_nil ⟨rfl, plains_d (plains_d plains_nil), o1 hm _ ⟨trivial, ?_⟩⟩)))))
    rw [if_pos hm] at o3 e3
    walk_at "dl"
    · rename_i h2
      have h2' : n' / 2 > 0 := by omega
      refine ed_callA rfl hS (ea_cons (ed_var rfl (ea_cons (ed_var rfl (ea_nil ⟨rfl, plains_d (plains_d plains_nil), o2 h2' _ ⟨trivial, ?_⟩⟩)))))
      rw [if_pos h2'] at o3 e3
      walk_at "dl"
      exact ⟨m0, Nat.lt_succ_self m0, n' / 2, _, _, rfl, o3, e3⟩
    · rename_i h2
      have h2' : ¬ n' / 2 > 0 := by omega
      rw [if_neg h2'] at o3 e3
      exact ⟨m0, Nat.lt_succ_self m0, n' / 2, _, _, rfl, o3, e3⟩
    · exact ⟨by decide, by decide⟩
  · rename_i h0 h1 h2
    have hn : n' ≠ 0 := by omega
    obtain ⟨m0, hm0, o1, o2, o3, e3⟩ := key hn
    subst hm0
    have hm : ¬ n' % 2 = 1 := by omega
    have h2' : n' / 2 > 0 := by omega
    refine ed_callA rfl hS (ea_cons (ed_var rfl (ea_cons (ed_var rfl (ea_nil ⟨rfl, plains_d (plains_d plains_nil), o2 h2' _ ⟨trivial, ?_⟩⟩)))))
    rw [if_neg hm, if_pos h2'] at o3 e3
    walk_at "dl"
    exact ⟨m0, Nat.lt_succ_self m0, n' / 2, _, _, rfl, o3, e3⟩
  · rename_i h0 h1 h2
    have hn : n' ≠ 0 := by omega
    obtain ⟨m0, hm0, o1, o2, o3, e3⟩ := key hn
    subst hm0
    have hm : ¬ n' % 2 = 1 := by omega
    have h2' : ¬ n' / 2 > 0 := by omega
    rw [if_neg hm, if_neg h2'] at o3 e3
    exact ⟨m0, Nat.lt_succ_self m0, n' / 2, _, _, rfl, o3, e3⟩
  · exact ⟨by decide, by decide⟩
  · decide
  · rename_i h0
    have hn : n' = 0 := by omega
    subst hn
    rw [powL_zero] at e
    exact fin hP (congrArg DV.d e.symm)
theorem u_power_by {S : Addr → Option Sp} {K : PySem.W.Frag} {f : Addr} {u b : PyData} {Tf : TD} {Xp : XP} {P : DV → Prop} (n k : Nat) (mul : PyData → PyData → PyData) {i : Int} (hi : i = (n : Int)) (hS : S f = some (spT K 2 Tf)) (hO : PowOk Tf mul k n u b) (p : P (.d (powL mul k n u b))) : T_power_by S K [.v (.ref f), .d u, .d b, DI i] Xp P := ⟨f, u, b, n, k, Tf, mul, by rw [hi], hS, hO, p⟩
end NF

namespace NF
open PySem L2 DL
local macro_rules | `(tactic| walk_at "dl-call") => `(tactic| fail)
local macro_rules | `(tactic| walk_at "dl-pl") => `(tactic| (repeat' (first | exact plains_nil | refine plains_cons trivial ?_)))
local macro_rules | `(tactic| walk_at "dl-ws") => `(tactic| first
  | with_reducible refine ws_seq ?_
  | with_reducible refine ws_asg ?_
  | with_reducible refine ws_ret ?_
  | with_reducible refine ws_if ?_
  | with_reducible refine ws_next ?_
  | with_reducible refine ws_asgG ?_
  | with_reducible refine ws_par ?_
  | with_reducible refine ws_drop ?_
  | with_reducible refine ws_brk ?_)
local macro_rules | `(tactic| walk_at "dl-ed") => `(tactic| first
  | with_reducible refine ed_var rfl ?_
  | with_reducible refine ed_int ?_
  | with_reducible refine ed_op ?_
  | with_reducible refine ed_call ?_
  | with_reducible refine ed_tup ?_
  | with_reducible refine ed_cb ?_
  | with_reducible refine ed_un ?_
  | with_reducible refine ed_lst ?_
  | with_reducible refine ed_str ?_
  | with_reducible refine ed_bl ?_
  | with_reducible refine ed_non ?_
  | with_reducible refine ed_if ?_
  | with_reducible refine ed_andV ?_
  | with_reducible refine ed_orV ?_
  | with_reducible refine ed_notV ?_
  | with_reducible refine ed_ref ?_
  | with_reducible refine ed_ty ?_
  | with_reducible refine ed_fmtI' ?_
  | with_reducible refine ed_joined ?_)
local macro_rules | `(tactic| walk_at "dl-ea") => `(tactic| first
  | with_reducible refine ea_cons ?_
  | with_reducible refine ea_nil ?_)
local macro_rules | `(tactic| walk_at "dl-et") => `(tactic| first
  | with_reducible refine et_tst ?_
  | with_reducible refine et_b ?_
  | with_reducible refine et_and ?_
  | with_reducible refine et_or ?_
  | with_reducible refine et_not ?_
  | with_reducible refine et_yes ?_)
local macro_rules | `(tactic| walk_at "dl-d2") => `(tactic| first
  | with_reducible refine d2_add ?_
  | with_reducible refine d2_ixT rfl ?_
  | with_reducible refine d2_ixL rfl ?_
  | with_reducible refine d2_eqI ?_
  | with_reducible refine d2_neI ?_
  | with_reducible refine d2_lt ?_
  | with_reducible refine d2_le ?_
  | with_reducible refine d2_gt ?_
  | with_reducible refine d2_ge ?_
  | with_reducible refine d2_sub ?_
  | with_reducible refine d2_mulS' ?_ ?_
  | with_reducible refine d2_div' ?_ ?_
  | with_reducible refine d2_mod' ?_ ?_
  | with_reducible refine d2_isN_i ?_
  | with_reducible refine d2_isNN_i ?_
  | with_reducible refine d2_isN_b ?_
  | with_reducible refine d2_isNN_b ?_
  | with_reducible refine d2_isN_n ?_
  | with_reducible refine d2_isNN_n ?_
  | with_reducible refine d2_isN_s ?_
  | with_reducible refine d2_isNN_s ?_
  | with_reducible refine d2_isN_l ?_
  | with_reducible refine d2_isNN_l ?_
  | with_reducible refine d2_isN_t ?_
  | with_reducible refine d2_isNN_t ?_
  | with_reducible refine d2_isB ?_
  | with_reducible refine d2_isNB ?_
  | with_reducible refine d2_addS' ?_ ?_
  | with_reducible refine d2_addL' ?_ ?_
  | with_reducible refine d2_isN ?_
  | with_reducible refine d2_isNN ?_)
local macro_rules | `(tactic| walk_at "dl-isi") => `(tactic| first
  | with_reducible refine dc_isi_i_int ?_
  | with_reducible refine dc_isi_i_bool ?_
  | with_reducible refine dc_isi_i_str ?_
  | with_reducible refine dc_isi_i_list ?_
  | with_reducible refine dc_isi_i_tuple ?_
  | with_reducible refine dc_isi_b_int ?_
  | with_reducible refine dc_isi_b_bool ?_
  | with_reducible refine dc_isi_b_str ?_
  | with_reducible refine dc_isi_b_list ?_
  | with_reducible refine dc_isi_b_tuple ?_
  | with_reducible refine dc_isi_n_int ?_
  | with_reducible refine dc_isi_n_bool ?_
  | with_reducible refine dc_isi_n_str ?_
  | with_reducible refine dc_isi_n_list ?_
  | with_reducible refine dc_isi_n_tuple ?_
  | with_reducible refine dc_isi_s_int ?_
  | with_reducible refine dc_isi_s_bool ?_
  | with_reducible refine dc_isi_s_str ?_
  | with_reducible refine dc_isi_s_list ?_
  | with_reducible refine dc_isi_s_tuple ?_
  | with_reducible refine dc_isi_l_int ?_
  | with_reducible refine dc_isi_l_bool ?_
  | with_reducible refine dc_isi_l_str ?_
  | with_reducible refine dc_isi_l_list ?_
  | with_reducible refine dc_isi_l_tuple ?_
  | with_reducible refine dc_isi_t_int ?_
  | with_reducible refine dc_isi_t_bool ?_
  | with_reducible refine dc_isi_t_str ?_
  | with_reducible refine dc_isi_t_list ?_
  | with_reducible refine dc_isi_t_tuple ?_
  | with_reducible refine dc_isi_d_int ?_
  | with_reducible refine dc_isi_d_bool ?_
  | with_reducible refine dc_isi_d_str ?_
  | with_reducible refine dc_isi_d_list ?_
  | with_reducible refine dc_isi_d_tuple ?_)
local macro_rules | `(tactic| walk_at "dl-dc") => `(tactic| first
  | with_reducible refine dc_int ?_
  | with_reducible refine dc_abs ?_
  | with_reducible refine dc_gcd ?_
  | with_reducible refine dc_lenT ?_
  | with_reducible refine dc_lenL ?_
  | with_reducible refine dc_strI' ?_ ?_
  | walk_at "dl-isi")
local macro_rules | `(tactic| walk_at "dl1") => `(tactic| first
  | (with_reducible show ED _ _ _ _ _ _; walk_at "dl-ed")
  | (with_reducible show WS _ _ _ _ _ _; walk_at "dl-ws")
  | (with_reducible show EA _ _ _ _ _ _; walk_at "dl-ea")
  | (with_reducible show D2 _ _ _ _ _; walk_at "dl-d2")
  | (with_reducible refine ⟨_, rfl, ?_⟩)
  | (with_reducible show ET _ _ _ _ _ _; walk_at "dl-et")
  | (with_reducible show DC _ _ _ _; walk_at "dl-dc")
  | with_reducible refine if_t ?_
  | with_reducible refine if_f ?_
  | with_reducible refine if_nt ?_
  | with_reducible refine if_nf ?_
  | with_reducible refine and_pl ?_
  | (with_reducible refine if_dec (fun _ => ?_) (fun _ => ?_))
  | (with_reducible refine if_ndec (fun _ => ?_) (fun _ => ?_))
  | (with_reducible refine if_bool (fun _ => ?_) (fun _ => ?_))
  | with_reducible refine d1_neg ?_
  | (refine tup_fin (by rfl) ?_ (Nat.le_of_ble_eq_true rfl))
  | (refine lst_fin (by rfl) ?_ (Nat.le_of_ble_eq_true rfl))
  | (with_reducible refine ⟨rfl, (by repeat (first | exact plains_nil | refine plains_d ?_ | refine plains_v ?_)), ?_⟩; walk_at "dl-call")
  | with_reducible refine and_plv ?_
  | with_reducible refine ej_cons ?_
  | with_reducible refine ej_nil ?_
  | (dsimp only [List.set]))
local macro_rules | `(tactic| walk_at "dl") => `(tactic| (walk_at "dl1" <;> try (walk_at "dl")))

local macro_rules | `(tactic| walk_at "dl-call") => `(tactic| first | refine u_lowest_terms ?_ ?_ ?_ | refine u_make_ratio ?_ ?_ ?_ | refine u_ratio_plus ?_ ?_ ?_ | refine u_ratio_minus ?_ ?_ ?_ | refine u_ratio_times ?_ ?_ ?_ | refine u_ratio_text ?_ ?_ | refine u_ratio_compare ?_ ?_ ?_ | refine u_ratio_negative ?_ | refine u_is_ratio ?_ | fail)
local macro_rules | `(tactic| walk_at "dl-ed") => `(tactic| first
  | with_reducible refine ed_wh1 ?_
  | with_reducible refine ed_wh2 ?_
  | with_reducible refine ed_draw ?_
  | with_reducible refine ed_number ?_
  | fail)
local macro_rules | `(tactic| walk_at "dl-ws") => `(tactic| first
  | with_reducible refine ws_raiseI (by decide) ?_
  | with_reducible refine ws_raise0 ?_
  | with_reducible refine ws_forSeq ?_
  | with_reducible refine ws_forR1 ?_
  | fail)
local macro_rules | `(tactic| walk_at "dl-d2") => `(tactic| first
  | with_reducible refine d2_mul' ?_ ?_
  | with_reducible refine d2_pow' ?_ ?_
  | fail)
local macro_rules | `(tactic| walk_at "dl1") => `(tactic| first
  | with_reducible refine draw_and (fun _ _ _ => ?_) ?_ ?_
  | with_reducible refine num_and rfl (fun _ _ => ?_)
  | refine ⟨_, _, rfl, ?_⟩
  | fail)

theorem seq_fin {xs : List DV} {ys : List PyData} {R : List PyData → Prop} (h : toD xs = some ys) (p : R ys) (l : ys.length ≤ 100000) : ∃ ys, AllD xs ys ∧ ys.length ≤ 100000 ∧ R ys := ⟨ys, allD_of h, l, p⟩
theorem if_tr {A B : Prop} {b : Bool} (e : b = true) (h : A) : if b = true then A else B := by rw [if_pos e]; exact h
theorem if_fr {A B : Prop} {b : Bool} (e : b = false) (h : B) : if b = true then A else B := by subst e; rw [if_neg Bool.false_ne_true]; exact h
local macro_rules | `(tactic| walk_at "dl1") => `(tactic| first
  | (refine seq_fin (by rfl) ?_ (Nat.le_of_ble_eq_true rfl))
  | (refine if_tr (by rfl) ?_)
  | (refine if_fr (by rfl) ?_)
  | fail)
theorem rvs_app {F : Fm} {G H : Hp} : ∀ {us : List V} {xs : List DV} {ws : List V} {ys : List DV}, RVs F G H us xs → RVs F G H ws ys → RVs F G H (us ++ ws) (xs ++ ys)
  | [], [], _, _, _, h => h
  | _ :: _, _ :: _, _, _, a, h => ⟨a.1, rvs_app a.2 h⟩
  | [], _ :: _, _, _, a, _ => a.elim
  | _ :: _, [], _, _, a, _ => a.elim
theorem ed_whLH {F : Fm} {X : XW} {δ : DSt} {Xp : XP} {P : DV → Prop} {E : XK} {ta tk : TA} (h : EA F X ta δ Xp fun xs => EA F X tk δ Xp fun ys => ∃ x l hh, xs = [.d x] ∧ ys = [DI l, DI hh] ∧ P (DB (isWh x (some l) (some hh)))) : ED F X (tCallN 1 2 (sp_is_whole F.K) (fun vs zs => vs ++ zs) E ta tk) δ Xp P :=
  ed_callN (gD := fun xs ys => xs ++ ys) (fun _ _ _ _ _ _ _ _ a b => rvs_app a b) (by
    intro σ H G c Q q
    exact h σ H G c Q fun us xs H1 G1 s1 r1 k => q us xs H1 G1 s1 r1 (by
      intro σ H G c Q q
      exact k σ H G c Q fun us xs H1 G1 s1 r1 ⟨x, l, hh, e1, e2, p⟩ => q us xs H1 G1 s1 r1 (by
        subst e1 e2
        exact ⟨rfl, rfl, rfl, plains_d plains_nil, plains_d (plains_d plains_nil), plains_d (plains_d (plains_d plains_nil)), x, some l, some hh, rfl, trivial, p⟩)))
theorem ed_whH {F : Fm} {X : XW} {δ : DSt} {Xp : XP} {P : DV → Prop} {E : XK} {ta tk : TA} (h : EA F X ta δ Xp fun xs => EA F X tk δ Xp fun ys => ∃ x hh, xs = [.d x] ∧ ys = [DI hh] ∧ P (DB (isWh x none (some hh)))) : ED F X (tCallN 1 1 (sp_is_whole F.K) (fun vs zs => vs ++ V.non :: zs) E ta tk) δ Xp P :=
  ed_callN (gD := fun xs ys => xs ++ DN :: ys) (fun _ _ _ _ _ _ _ _ a b => rvs_app a (show RVs _ _ _ (V.non :: _) (DN :: _) from ⟨.non, b⟩)) (by
    intro σ H G c Q q
    exact h σ H G c Q fun us xs H1 G1 s1 r1 k => q us xs H1 G1 s1 r1 (by
      intro σ H G c Q q
      exact k σ H G c Q fun us xs H1 G1 s1 r1 ⟨x, hh, e1, e2, p⟩ => q us xs H1 G1 s1 r1 (by
        subst e1 e2
        exact ⟨rfl, rfl, rfl, plains_d plains_nil, plains_d plains_nil, plains_d (plains_d (plains_d plains_nil)), x, none, some hh, rfl, trivial, p⟩)))
theorem u_wh_nh {x : PyData} {h : Int} {Xp : XP} {P : DV → Prop} (p : P (DB (isWh x none (some h)))) : T_is_whole [.d x, DN, DI h] Xp P := ⟨x, none, some h, rfl, p⟩
theorem u_wh_lh {x : PyData} {l h : Int} {Xp : XP} {P : DV → Prop} (p : P (DB (isWh x (some l) (some h)))) : T_is_whole [.d x, DI l, DI h] Xp P := ⟨x, some l, some h, rfl, p⟩
local macro_rules | `(tactic| walk_at "dl-ed") => `(tactic| first
  | with_reducible refine ed_whLH ?_
  | with_reducible refine ed_whH ?_
  | fail)
local macro_rules | `(tactic| walk_at "dl-call") => `(tactic| first | refine u_wh_nh ?_ | refine u_wh_lh ?_ | fail)
local macro_rules | `(tactic| walk_at "dl1") => `(tactic| first
  | refine ⟨_, _, _, rfl, rfl, ?_⟩
  | refine ⟨_, _, rfl, rfl, ?_⟩
  | fail)
/-! ## the law's own reckoning -/
def T__law_gcd : TD := fun ds Xp P => ∃ a b : Int, ds = [DI a, DI b] ∧ P (DI ((Nat.gcd a.natAbs b.natAbs : Nat) : Int)) ∧ a.natAbs < 2 ^ 4000 ∧ b.natAbs < 2 ^ 4000
abbrev sp__law_gcd (K : PySem.W.Frag) : Sp := spT K 2 T__law_gcd
def t__law_gcd (K : PySem.W.Frag) : TS := tSeq (tAsg (tCB (rAbsU) (tCons (tVar 0) (tNil))) (gName 0)) (tSeq (tAsg (tCB (rAbsU) (tCons (tVar 1) (tNil))) (gName 1)) (tSeq (tFor (iRng1 (tCons (tC (.int 9000)) (tNil))) (gName 2) (tSeq (tIfS (tTest (tOp (rEqD K) (tVar 1) (tC (.int 0)))) (tBreak) (tNext)) (tPar 0 1 (tCons (tVar 1) (tCons (tOp (rModU) (tCB (rIntU) (tCons (tVar 0) (tNil))) (tVar 1)) (tNil)))))) (tRet (tVar 0))))
theorem gcd_turn {x y : Nat} (hy : y ≠ 0) : Nat.gcd y (x % y) = Nat.gcd x y := by
  rw [Nat.gcd_comm y, ← Nat.gcd_rec, Nat.gcd_comm]
/-- y left over after n turns, as the product falls -/
theorem gcd_fall {x y : Nat} {k : Nat} (hy : y ≠ 0) (h : y < x) (hb : x * y * 2 ^ k < 2 ^ 8000) : x % y < y ∧ y * (x % y) * 2 ^ (k + 1) < 2 ^ 8000 := by
  have h1 : x % y < y := Nat.mod_lt _ (by omega)
  have h2 : y + x % y ≤ x := by
    have := Nat.div_add_mod x y
    have h3 : 1 ≤ x / y := (Nat.one_le_div_iff (by omega)).mpr (by omega)
    have h4 : y * 1 ≤ y * (x / y) := Nat.mul_le_mul_left y h3
    omega
  refine ⟨h1, Nat.lt_of_le_of_lt ?_ hb⟩
  rw [Nat.pow_succ]
  have h5 : y * (x % y) * 2 ≤ x * y := by
    have : (x % y) * 2 ≤ x := by omega
    calc y * (x % y) * 2 = y * ((x % y) * 2) := Nat.mul_assoc ..
      _ ≤ y * x := Nat.mul_le_mul_left y this
      _ = x * y := Nat.mul_comm ..
  calc y * (x % y) * (2 ^ k * 2) = y * (x % y) * 2 * 2 ^ k := by rw [Nat.mul_comm (2 ^ k), ← Nat.mul_assoc]
    _ ≤ x * y * 2 ^ k := Nat.mul_le_mul_right _ h5
def gInv (g : Nat) (i : Nat) (δ : DSt) : Prop := ∃ (x y : Nat) (z : Option DV), δ = [some (DI x), some (DI y), z] ∧ Nat.gcd x y = g ∧ (i = 0 ∨ y < x ∨ x = 0 ∧ y = 0) ∧ x * y * 2 ^ (i - 1) < 2 ^ 8000
theorem w__law_gcd (F : Fm) (X : XK) (ds : List DV) (Xp : XP) (P : DV → Prop) (h : T__law_gcd ds Xp P) : WS F X (t__law_gcd F.K) (startD 1 ds) Xp { nx := fun _ => P DN, rt := P } := by
  obtain ⟨a, b, rfl, hP, ha, hb⟩ := h
  show WS F X _ [some (DI a), some (DI b), none] Xp _
  unfold t__law_gcd
  walk_at "dl"
  have na : (if a < 0 then -a else a) = ((a.natAbs : Nat) : Int) := by split <;> omega
  have nb : (if b < 0 then -b else b) = ((b.natAbs : Nat) : Int) := by split <;> omega
  have fin : ∀ (x : Nat) (z : Option DV), Nat.gcd x 0 = Nat.gcd a.natAbs b.natAbs → WS F X (tRet (tVar 0)) [some (DI x), some (DI ((0 : Nat) : Int)), z] Xp { nx := fun _ => P DN, rt := P } := fun x z e => by
    rw [Nat.gcd_zero_right] at e
    subst e
    walk_at "dl"
    exact hP
  refine ⟨by decide, by decide, gInv (Nat.gcd a.natAbs b.natAbs), ⟨a.natAbs, b.natAbs, none, by rw [na, nb], rfl, .inl rfl, ?_⟩, ?_, ?_⟩
  · rw [Nat.zero_sub, Nat.pow_zero, Nat.mul_one]
    calc a.natAbs * b.natAbs < 2 ^ 4000 * 2 ^ 4000 := Nat.mul_lt_mul'' ha hb
      _ = 2 ^ 8000 := by rw [← Nat.pow_add]
  · rintro i δ' hi ⟨x, y, z, rfl, hg, hxy, hp⟩
    refine dg_name trivial ?_
    dsimp only [List.set]
    walk_at "dl"
    · rename_i h
      have hy : y = 0 := by omega
      subst hy
      rw [Nat.gcd_zero_right] at hg
      rw [hg]
      exact hP
    · rename_i h
      have hy : y ≠ 0 := by omega
      refine ⟨y, x % y, _, rfl, (gcd_turn hy).trans hg, .inr (.inl (Nat.mod_lt _ (by omega))), ?_⟩
      rcases hxy with rfl | hxy | ⟨rfl, rfl⟩
      · refine Nat.lt_of_le_of_lt ?_ hp
        rw [Nat.zero_sub, Nat.zero_add, Nat.sub_self, Nat.pow_zero, Nat.mul_one, Nat.mul_one, Nat.mul_comm x y]
        exact Nat.mul_le_mul_left y (Nat.mod_le x y)
      · by_cases h0 : i = 0
        · subst h0
          refine Nat.lt_of_le_of_lt ?_ hp
          rw [Nat.zero_sub, Nat.zero_add, Nat.sub_self, Nat.pow_zero, Nat.mul_one, Nat.mul_one, Nat.mul_comm x y]
          exact Nat.mul_le_mul_left y (Nat.mod_le x y)
        · have := (gcd_fall hy hxy hp).2
          rw [show i - 1 + 1 = i + 1 - 1 by omega] at this
          exact this
      · exact absurd rfl hy
    · rename_i h
      omega
  · rintro δ' ⟨x, y, z, rfl, hg, hxy, hp⟩
    have hy : y = 0 := by
      rcases hxy with h | h | h
      · exact absurd h (by decide)
      · cases y with
        | zero => rfl
        | succ y =>
          exfalso
          have h1 : 1 ≤ x * (y + 1) := Nat.mul_pos (by omega) (by omega)
          have h2 : 1 * 2 ^ 8999 ≤ x * (y + 1) * 2 ^ 8999 := Nat.mul_le_mul_right _ h1
          have h3 : x * (y + 1) * 2 ^ 8999 < 2 ^ 8000 := hp
          have h4 : (2 : Nat) ^ 8000 ≤ 2 ^ 8999 := Nat.pow_le_pow_right (by decide) (by decide)
          rw [Nat.one_mul] at h2
          exact absurd (Nat.lt_of_le_of_lt (Nat.le_trans h4 h2) h3) (Nat.lt_irrefl _)
      · exact h.2
    subst hy
    exact fin x _ hg
theorem u__law_gcd {a b : Int} {Xp : XP} {P : DV → Prop} (p : P (DI ((Nat.gcd a.natAbs b.natAbs : Nat) : Int))) (ha : a.natAbs < 2 ^ 4000) (hb : b.natAbs < 2 ^ 4000) : T__law_gcd [DI a, DI b] Xp P := ⟨a, b, rfl, p, ha, hb⟩
local macro_rules | `(tactic| walk_at "dl-call") => `(tactic| first | refine u__law_gcd ?_ ?_ ?_ | fail)
def T__law_ratio : TD := fun ds Xp P => ∃ t b : Int, ds = [DI t, DI b] ∧ P (.d (rt (mk t b))) ∧ b ≠ 0 ∧ t.natAbs < 2 ^ 4000 ∧ b.natAbs < 2 ^ 4000
abbrev sp__law_ratio (K : PySem.W.Frag) : Sp := spT K 2 T__law_ratio
def t__law_ratio (K : PySem.W.Frag) : TS := tSeq (tIfS (tTest (tOp (rLtU) (tVar 1) (tC (.int 0)))) (tSeq (tAsg (tUn rNegU (tVar 0)) (gName 0)) (tAsg (tUn rNegU (tVar 1)) (gName 1))) (tNext)) (tSeq (tAsg (tCall (sp__law_gcd K) [] E0 (tCons (tVar 0) (tCons (tVar 1) (tNil)))) (gName 2)) (tRet (tTup (tCons (tOp (rDivU) (tVar 0) (tVar 2)) (tCons (tOp (rDivU) (tVar 1) (tVar 2)) (tNil))))))
theorem w__law_ratio (F : Fm) (X : XK) (ds : List DV) (Xp : XP) (P : DV → Prop) (h : T__law_ratio ds Xp P) : WS F X (t__law_ratio F.K) (startD 1 ds) Xp { nx := fun _ => P DN, rt := P } := by
  obtain ⟨t, b, rfl, hP, h0, ht, hb⟩ := h
  show WS F X _ [some (DI t), some (DI b), none] Xp _
  unfold t__law_ratio
  have hg : 0 < Nat.gcd t.natAbs b.natAbs := Nat.gcd_pos_of_pos_right _ (by omega)
  have hle : Nat.gcd t.natAbs b.natAbs ≤ b.natAbs := Nat.gcd_le_right _ (by omega)
  walk_at "dl"
  all_goals (try simp only [Int.natAbs_neg])
  · rename_i h
    have e : mk t b = low (-t) (-b) := if_pos h
    rw [e] at hP
    unfold low at hP
    rw [Int.natAbs_neg, Int.natAbs_neg] at hP
    exact hP
  · refine cdiv_of (b := 4000) (by omega) (Nat.lt_of_le_of_lt ?_ hb); omega
  · refine cdiv_of (b := 4000) (by omega) (Nat.lt_of_le_of_lt ?_ hb); omega
  · exact ht
  · exact hb
  · rename_i h
    have e : mk t b = low t b := if_neg h
    rw [e] at hP
    exact hP
  · refine cdiv_of (b := 4000) (by omega) (Nat.lt_of_le_of_lt ?_ hb); omega
  · refine cdiv_of (b := 4000) (by omega) (Nat.lt_of_le_of_lt ?_ hb); omega
  · exact ht
  · exact hb
theorem u__law_ratio {t b : Int} {Xp : XP} {P : DV → Prop} (p : P (.d (rt (mk t b)))) (h0 : b ≠ 0) (ht : t.natAbs < 2 ^ 4000) (hb : b.natAbs < 2 ^ 4000) : T__law_ratio [DI t, DI b] Xp P := ⟨t, b, rfl, p, h0, ht, hb⟩
local macro_rules | `(tactic| walk_at "dl-call") => `(tactic| first | refine u__law_ratio ?_ ?_ ?_ ?_ | fail)
theorem z4000 {a : Int} (h : a.natAbs < 2 ^ 3001) : a.natAbs < 2 ^ 4000 := Nat.lt_of_lt_of_le h (Nat.pow_le_pow_right (by decide) (by decide))
theorem add_lt {a b : Int} {k : Nat} (ha : a.natAbs < 2 ^ k) (hb : b.natAbs < 2 ^ k) : (a + b).natAbs < 2 ^ (k + 1) := by
  rw [Nat.pow_succ]
  generalize 2 ^ k = B at *
  omega
theorem z3001 {a : Int} (h : a.natAbs < 2 ^ 3000) : a.natAbs < 2 ^ 3001 := Nat.lt_of_lt_of_le h (Nat.pow_le_pow_right (by decide) (by decide))
theorem mk_pos {t b : Int} (h : 0 < b) : mk t b = low t b := if_neg (by omega)
abbrev sp__law_plus (K : PySem.W.Frag) : Sp := spT K 2 T_ratio_plus
abbrev sp__law_times (K : PySem.W.Frag) : Sp := spT K 2 T_ratio_times
def t__law_plus (K : PySem.W.Frag) : TS := tRet (tCall (sp__law_ratio K) [] E0 (tCons (tOp (rAddU K) (tOp (rMulU) (tOp (rIx K) (tVar 0) (tC (.int 0))) (tOp (rIx K) (tVar 1) (tC (.int 1)))) (tOp (rMulU) (tOp (rIx K) (tVar 1) (tC (.int 0))) (tOp (rIx K) (tVar 0) (tC (.int 1))))) (tCons (tOp (rMulU) (tOp (rIx K) (tVar 0) (tC (.int 1))) (tOp (rIx K) (tVar 1) (tC (.int 1)))) (tNil))))
def t__law_times (K : PySem.W.Frag) : TS := tRet (tCall (sp__law_ratio K) [] E0 (tCons (tOp (rMulU) (tOp (rIx K) (tVar 0) (tC (.int 0))) (tOp (rIx K) (tVar 1) (tC (.int 0)))) (tCons (tOp (rMulU) (tOp (rIx K) (tVar 0) (tC (.int 1))) (tOp (rIx K) (tVar 1) (tC (.int 1)))) (tNil))))
theorem w__law_plus (F : Fm) (X : XK) (ds : List DV) (Xp : XP) (P : DV → Prop) (h : T_ratio_plus ds Xp P) : WS F X (t__law_plus F.K) (startD 0 ds) Xp { nx := fun _ => P DN, rt := P } := by
  obtain ⟨⟨a, b⟩, ⟨c, d⟩, rfl, hP, hp, hq⟩ := h
  obtain ⟨p1, p2, p3⟩ := hp
  obtain ⟨q1, q2, q3⟩ := hq
  dsimp only at *
  show WS F X _ [some (.d (rt (a, b))), some (.d (rt (c, d)))] Xp _
  unfold t__law_plus
  have hbd : 0 < b * d := Int.mul_pos p1 q1
  walk_at "dl"
  · rw [mk_pos hbd]; exact hP
  · omega
  · exact z4000 (add_lt (mul_lt p2 q3) (mul_lt q2 p3))
  · exact z4000 (z3001 (mul_lt p3 q3))
  all_goals exact mul_ok (by assumption) (by assumption)
theorem w__law_times (F : Fm) (X : XK) (ds : List DV) (Xp : XP) (P : DV → Prop) (h : T_ratio_times ds Xp P) : WS F X (t__law_times F.K) (startD 0 ds) Xp { nx := fun _ => P DN, rt := P } := by
  obtain ⟨⟨a, b⟩, ⟨c, d⟩, rfl, hP, hp, hq⟩ := h
  obtain ⟨p1, p2, p3⟩ := hp
  obtain ⟨q1, q2, q3⟩ := hq
  dsimp only at *
  show WS F X _ [some (.d (rt (a, b))), some (.d (rt (c, d)))] Xp _
  unfold t__law_times
  have hbd : 0 < b * d := Int.mul_pos p1 q1
  walk_at "dl"
  · rw [mk_pos hbd]; exact hP
  · omega
  · exact z4000 (z3001 (mul_lt p2 q2))
  · exact z4000 (z3001 (mul_lt p3 q3))
  all_goals exact mul_ok (by assumption) (by assumption)
/-! is it a ratio of two whole numbers -/
def T__law_is_ratio : TD := fun ds Xp P => ∃ p : Rt, ds = [.d (rt p)] ∧ P (DB true)
abbrev sp__law_is_ratio (K : PySem.W.Frag) : Sp := spT K 1 T__law_is_ratio
def t__law_is_ratio (K : PySem.W.Frag) : TS := tSeq (tIfS (tOr (tNot (tB (tCB (rIsi K) (tCons (tVar 0) (tCons (tC (.ty "tuple")) (tNil)))))) (tTest (tOp (rNeD K) (tCB (rLenU K) (tCons (tVar 0) (tNil))) (tC (.int 2))))) (tRet (tC (.bl false))) (tNext)) (tRet (tCB (rAll K) (tCons (tLc (iSeq K (tVar 0)) (gName 1) (tYes) (tAndV (tCB (rIsi K) (tCons (tVar 1) (tCons (tC (.ty "int")) (tNil)))) (tNotV (tCB (rIsi K) (tCons (tVar 1) (tCons (tC (.ty "bool")) (tNil)))))) [1]) (tNil))))
theorem w__law_is_ratio (F : Fm) (X : XK) (ds : List DV) (Xp : XP) (P : DV → Prop) (h : T__law_is_ratio ds Xp P) : WS F X (t__law_is_ratio F.K) (startD 1 ds) Xp { nx := fun _ => P DN, rt := P } := by
  obtain ⟨⟨a, b⟩, rfl, hP⟩ := h
  show WS F X _ [some (.d (rt (a, b))), none] Xp _
  unfold t__law_is_ratio
  walk_at "dl"
  · refine ed_lc (tgOk_name (List.mem_singleton.mpr rfl)) (ed_var rfl ⟨[.int a, .int b], .inr rfl, (by show 2 < 100000; decide), fun _ => true, fun _ => .bool true, ?_, ea_nil ?_⟩)
    · intro x hx
      refine dg_name trivial (et_yes ⟨rfl, fun _ => ?_⟩)
      dsimp only [wipeD, List.set]
      have : ∃ i, x = .int i := by
        simp at hx
        rcases hx with rfl | rfl <;> exact ⟨_, rfl⟩
      obtain ⟨i, rfl⟩ := this
      walk_at "dl"
      rfl
    · exact dc_all (bs := [true, true]) hP
def T__law_told : TD := fun ds Xp P => ∃ f d : Bool, ds = [DB f, DB d] ∧ P (DB (f == d))
abbrev sp__law_told (K : PySem.W.Frag) : Sp := spT K 2 T__law_told
def t__law_told (K : PySem.W.Frag) : TS := tRet (tIf (tB (tVar 1)) (tOp (rIsU) (tVar 0) (tC (.bl true))) (tOp (rIsU) (tVar 0) (tC (.bl false))))
theorem w__law_told (F : Fm) (X : XK) (ds : List DV) (Xp : XP) (P : DV → Prop) (h : T__law_told ds Xp P) : WS F X (t__law_told F.K) (startD 0 ds) Xp { nx := fun _ => P DN, rt := P } := by
  obtain ⟨f, d, rfl, hP⟩ := h
  show WS F X _ [some (DB f), some (DB d)] Xp _
  unfold t__law_told
  cases f <;> cases d <;> walk_at "dl" <;> exact hP
theorem u__law_told {f d : Bool} {Xp : XP} {P : DV → Prop} (h : P (DB true)) (e : f = d) : T__law_told [DB f, DB d] Xp P := ⟨f, d, rfl, by subst e; rw [beq_self_eq_true]; exact h⟩
theorem u__law_is_ratio {p : Rt} {Xp : XP} {P : DV → Prop} (h : P (DB true)) : T__law_is_ratio [.d (rt p)] Xp P := ⟨p, rfl, h⟩
abbrev sp__law_text (K : PySem.W.Frag) : Sp := spT K 1 T_ratio_text
def t__law_text (K : PySem.W.Frag) : TS := tRet (tIf (tTest (tOp (rEqD K) (tOp (rIx K) (tVar 0) (tC (.int 1))) (tC (.int 1)))) (tCB (rStrU) (tCons (tOp (rIx K) (tVar 0) (tC (.int 0))) (tNil))) (tOp (rAddU K) (tOp (rAddU K) (tCB (rStrU) (tCons (tOp (rIx K) (tVar 0) (tC (.int 0))) (tNil))) (tC (.str "/"))) (tCB (rStrU) (tCons (tOp (rIx K) (tVar 0) (tC (.int 1))) (tNil)))))
theorem str_nil {a : Str} : Str.empty ++ a = a := by
  show (⟨#[] ++ a.cps⟩ : Str) = a
  rw [Array.empty_append]
theorem w__law_text (F : Fm) (X : XK) (ds : List DV) (Xp : XP) (P : DV → Prop) (h : T_ratio_text ds Xp P) : WS F X (t__law_text F.K) (startD 0 ds) Xp { nx := fun _ => P DN, rt := P } := by
  obtain ⟨⟨a, b⟩, rfl, hP, hp⟩ := h
  obtain ⟨p1, p2, p3⟩ := hp
  dsimp only at *
  show WS F X _ [some (.d (rt (a, b)))] Xp _
  unfold t__law_text
  have l1 : (Str.ofString (toString a)).length ≤ 1921 := PyProof.Rows.int_text_len_1921 (log_lt p2)
  have l2 : (Str.ofString (toString b)).length ≤ 1921 := PyProof.Rows.int_text_len_1921 (log_lt p3)
  walk_at "dl"
  · rename_i h; exact fin hP (congrArg DS (if_pos h))
  · exact log_lt p2
  · rename_i h
    refine fin hP (congrArg DS ((if_neg h).trans ?_))
    rw [str_nil]
  · rw [str_len]; show _ + 1 + _ ≤ _; omega
  · exact log_lt p3
  · show _ + 1 ≤ _; omega
  · exact log_lt p2
/-! powers -/
def pw (p : Rt) (i : Nat) : Rt := (p.1 ^ i, p.2 ^ i)
structure CP (p : Rt) : Prop where
  pos : 0 < p.2
  co : Nat.gcd p.1.natAbs p.2.natAbs = 1
  top : p.1.natAbs < 2 ^ 101
  bot : p.2.natAbs < 2 ^ 101
theorem low_one {t b : Int} (h : Nat.gcd t.natAbs b.natAbs = 1) : low t b = (t, b) := by
  unfold low
  rw [h]
  simp
theorem pw_gcd {p : Rt} (h : CP p) (i j : Nat) : Nat.gcd (p.1 ^ i * p.1 ^ j).natAbs (p.2 ^ i * p.2 ^ j).natAbs = 1 := by
  rw [← Int.pow_add, ← Int.pow_add, Int.natAbs_pow, Int.natAbs_pow]
  exact Nat.Coprime.pow _ _ h.co
theorem times_pw {p : Rt} (h : CP p) (i j : Nat) : timesR (pw p i) (pw p j) = pw p (i + j) := by
  show low (p.1 ^ i * p.1 ^ j) (p.2 ^ i * p.2 ^ j) = _
  rw [low_one (pw_gcd h i j), ← Int.pow_add, ← Int.pow_add] <;> rfl
theorem pw_lt {a : Int} (h : a.natAbs < 2 ^ 101) {i : Nat} (hi : i ≤ 5) : (a ^ i).natAbs < 2 ^ 1500 := by
  rw [Int.natAbs_pow]
  have h1 : a.natAbs ^ i ≤ (2 ^ 101) ^ i := Nat.pow_le_pow_left (Nat.le_of_lt h) i
  have h2 : (2 ^ 101 : Nat) ^ i ≤ (2 ^ 101) ^ 5 := Nat.pow_le_pow_right (by decide) hi
  have h3 : ((2 ^ 101 : Nat) ^ 5) < 2 ^ 1500 := by
    rw [← Nat.pow_mul]
    exact Nat.pow_lt_pow_right (by decide) (by decide)
  exact Nat.lt_of_le_of_lt (Nat.le_trans h1 h2) h3
theorem pw_rb {p : Rt} (h : CP p) {i : Nat} (hi : i ≤ 5) : RB (pw p i) := ⟨Int.pow_pos h.pos, pw_lt h.top hi, pw_lt h.bot hi⟩
def timesD : PyData → PyData → PyData
  | .tuple [.int a, .int b], .tuple [.int c, .int d] => rt (timesR (a, b) (c, d))
  | _, _ => .none
theorem timesD_pw {p : Rt} (h : CP p) (i j : Nat) : timesD (rt (pw p i)) (rt (pw p j)) = rt (pw p (i + j)) := congrArg rt (times_pw h i j)
theorem pow_ok {p : Rt} (h : CP p) : ∀ (k n i j : Nat), n < 2 ^ k → i + n * j ≤ 5 → j ≤ 5 → PowOk T_ratio_times timesD k n (rt (pw p i)) (rt (pw p j)) ∧ powL timesD k n (rt (pw p i)) (rt (pw p j)) = rt (pw p (i + n * j))
  | 0, n, i, j, hn, _, _ => by
    have : n = 0 := by simpa using hn
    subst this
    exact ⟨rfl, by rw [Nat.zero_mul]; rfl⟩
  | k + 1, n, i, j, hn, hb, hj => by
    by_cases h0 : n = 0
    · subst h0
      exact ⟨.inl rfl, by rw [powL_zero, Nat.zero_mul]; rfl⟩
    have hm : n = 2 * (n / 2) + n % 2 := (Nat.div_add_mod n 2).symm
    have hle : i ≤ 5 := by omega
    have hjn : j ≤ n * j := Nat.le_mul_of_pos_left j (by omega)
    have hf : (if n % 2 = 1 then timesD (rt (pw p i)) (rt (pw p j)) else rt (pw p i)) = rt (pw p (if n % 2 = 1 then i + j else i)) := by
      split
      · exact timesD_pw h i j
      · rfl
    have hs : (if n / 2 > 0 then timesD (rt (pw p j)) (rt (pw p j)) else rt (pw p j)) = rt (pw p (if n / 2 > 0 then j + j else j)) := by
      split
      · exact timesD_pw h j j
      · rfl
    have hsum : (if n % 2 = 1 then i + j else i) + n / 2 * (if n / 2 > 0 then j + j else j) = i + n * j := by
      have e : n * j = n / 2 * (j + j) + n % 2 * j := by
        conv => lhs; rw [hm]
        rw [Nat.add_mul, ← Nat.two_mul, Nat.mul_comm 2 (n / 2), Nat.mul_assoc]
      rw [e]
      have h2 : n % 2 = 0 ∨ n % 2 = 1 := by omega
      by_cases h3 : n / 2 > 0
      · rw [if_pos h3]
        rcases h2 with h2 | h2 <;> simp [h2] <;> omega
      · have h4 : n / 2 = 0 := by omega
        rw [h4]
        rcases h2 with h2 | h2 <;> simp [h2]
    have hj2 : (if n / 2 > 0 then j + j else j) ≤ 5 := by
      split
      · rename_i h3
        have : n / 2 * (j + j) ≤ n * j := by
          conv => rhs; rw [hm]
          rw [Nat.add_mul, ← Nat.two_mul, Nat.mul_comm 2 (n / 2), Nat.mul_assoc]
          exact Nat.le_add_right _ _
        have := Nat.le_mul_of_pos_left (j + j) h3
        omega
      · exact hj
    have ih := pow_ok h k (n / 2) (if n % 2 = 1 then i + j else i) (if n / 2 > 0 then j + j else j) (by rw [Nat.pow_succ] at hn; omega) (by rw [hsum]; exact hb) hj2
    rw [hsum] at ih
    refine ⟨.inr ⟨fun _ P q => ⟨pw p i, pw p j, rfl, q, pw_rb h hle, pw_rb h hj⟩, fun _ P q => ⟨pw p j, pw p j, rfl, q, pw_rb h hj, pw_rb h hj⟩, ?_⟩, ?_⟩
    · rw [hf, hs]
      exact ih.1
    · rw [powL_step _ _ h0, hf, hs]
      exact ih.2
def S_power (K : PySem.W.Frag) (a : Addr) : Option Sp := if a = He.ga K "ratio_times" then some (sp_ratio_times K) else none
def T_ratio_power : TD := fun ds Xp P => ∃ (p : Rt) (n : Nat), ds = [.d (rt p), DI n] ∧ n ≤ 5 ∧ CP p ∧ P (.d (rt (pw p n)))
abbrev sp_ratio_power (K : PySem.W.Frag) : Sp := spT K 2 T_ratio_power
def t_ratio_power (K : PySem.W.Frag) : TS := tRet (tCall (sp_power_by S_power K) [] E0 (tCons (tC (.ref (He.ga K "ratio_times"))) (tCons (tC (.ref (He.ga K "ONE"))) (tCons (tVar 0) (tCons (tVar 1) (tNil))))))
theorem w_ratio_power (F : Fm) (hone : ∀ G, Dp F.K G (.ref (He.ga F.K "ONE")) (.tuple [.int 1, .int 1])) (X : XK) (ds : List DV) (Xp : XP) (P : DV → Prop) (h : T_ratio_power ds Xp P) : WS F X (t_ratio_power F.K) (startD 0 ds) Xp { nx := fun _ => P DN, rt := P } := by
  obtain ⟨p, n, rfl, hn, hp, hP⟩ := h
  show WS F X _ [some (.d (rt p)), some (DI n)] Xp _
  unfold t_ratio_power
  have e1 : rt (pw p 1) = rt p := by
    show rt (p.1 ^ 1, p.2 ^ 1) = rt p
    rw [Int.pow_succ, Int.pow_succ, Int.pow_zero, Int.pow_zero, Int.one_mul, Int.one_mul]
  have k := pow_ok hp 3 n 0 1 (by omega) (by omega) (by omega)
  have e0 : rt (pw p 0) = .tuple [.int 1, .int 1] := by
    show rt (p.1 ^ 0, p.2 ^ 0) = _
    rw [Int.pow_zero, Int.pow_zero]
  rw [e1, e0, Nat.zero_add, Nat.mul_one] at k
  refine ws_ret (ed_call (ea_cons (ed_raw (ea_cons (ed_con hone (ea_cons (ed_var rfl (ea_cons (ed_var rfl (ea_nil ⟨rfl, plains_v (plains_d (plains_d (plains_d plains_nil))), ?_⟩))))))))))
  exact u_power_by n 3 timesD rfl (if_pos rfl) k.1 (by rw [k.2]; exact ⟨trivial, hP⟩)
theorem u_ratio_power {p : Rt} {n : Nat} {i : Int} {Xp : XP} {P : DV → Prop} (h : P (.d (rt (pw p n)))) (e : i = (n : Int)) (hn : n ≤ 5) (hp : CP p) : T_ratio_power [.d (rt p), DI i] Xp P := ⟨p, n, by rw [e], hn, hp, h⟩
/-! equal things -/
theorem ok_of (s : String) : PyData.strOk (Str.ofString s) = true := by
  rw [Str.ofString_eq_toList]
  unfold PyData.strOk
  rw [Array.all_eq_true_iff_forall_mem]
  intro n hn
  have hn : n ∈ s.toList.map Char.toNat := by simpa using hn
  obtain ⟨c, _, rfl⟩ := List.mem_map.mp hn
  rcases c.valid with h | h
  · exact decide_eq_true (by have : c.toNat < 0xD800 := h; omega)
  · exact decide_eq_true h.2
theorem ok_app (a b : Str) : PyData.strOk (a ++ b) = (PyData.strOk a && PyData.strOk b) := by
  show Array.all (a.cps ++ b.cps) _ = _
  rw [Array.all_append] <;> rfl
local macro_rules | `(tactic| walk_at "sh_tac") => `(tactic| simp [SeqAt.shaped, PyData.canLay0, PyData.canLayAll0, PyData.depth, PyData.depthAll, ok_of, ok_app])
theorem eqv_self {x : PyData} (h : SeqAt.shaped x = true) : PyData.eqv x x = true := by
  unfold SeqAt.shaped at h
  rw [Bool.and_eq_true] at h
  exact SeqAt.eqv_refl x h.1
theorem d2_eqR {F : Fm} {P : DV → Prop} {c e : DV} {x : PyData} (hc : seen c = some x) (he : seen e = some x) (p : P (DB true)) (hx : SeqAt.shaped x = true) : D2 F (rEqD F.K) c e P := d2_eq hc he hx hx (by rw [eqv_self hx]; exact p)
theorem d2_neR {F : Fm} {P : DV → Prop} {c e : DV} {x : PyData} (hc : seen c = some x) (he : seen e = some x) (p : P (DB false)) (hx : SeqAt.shaped x = true) : D2 F (rNeD F.K) c e P := d2_ne hc he hx hx (by rw [eqv_self hx]; exact p)
local macro_rules | `(tactic| walk_at "dl-d2") => `(tactic| first
  | with_unfolding_all refine d2_eqR rfl (by rfl) ?_ (by walk_at "sh_tac")
  | with_unfolding_all refine d2_neR rfl (by rfl) ?_ (by walk_at "sh_tac")
  | fail)
/-! making, with refusals -/
abbrev refusedD (w : Str) : PyData := .tuple [.str "refused", .str w]
abbrev madeD (x : PyData) : PyData := .tuple [.str "made", x]
def T__law_made : TD := fun ds Xp P => ∃ x y : PyData, ds = [.d x, .d y] ∧ ((isWh x none none = false ∧ P (.d (refusedD "top"))) ∨
  (isWh x none none = true ∧ (isWh y none none = false ∨ y = .int 0) ∧ P (.d (refusedD "bottom"))) ∨ ∃ t b, x = .int t ∧ y = .int b ∧ P (.d (madeD (rt (mk t b)))) ∧ b ≠ 0 ∧ b.natAbs < 2 ^ 8000)
abbrev sp__law_made (K : PySem.W.Frag) : Sp := spT K 2 T__law_made
def t__law_made (K : PySem.W.Frag) : TS := fun D σ H => (fun W => tRet (tTup (tCons (tC (.str "made")) (tCons (tCallS (sp_make_ratio K) (WE W) (tCons (tVar 0) (tCons (tVar 1) (tNil)))) (tNil))))) (wAs K (.ref (He.ga K "BadRatio")) 2 (fun a cls d => tRet (tTup (tCons (tC (.str "refused")) (tCons (tXf a cls d (He.ga K "BadRatio") "what" (tVar 2)) (tNil))))) (fun _ _ _ _ => False) D) D σ H
theorem plains_what {w : Str} : Plains (([(("what" : Str), DS w)] : List (Str × DV)).map (·.2)) := plains_cons trivial plains_nil
theorem w__law_made (F : Fm) (hx : PySem.W.exmOne F.K (.ref (He.ga F.K "BadRatio")) (.ref (He.ga F.K "BadRatio")) = some true) (X : XK) (ds : List DV) (Xp : XP) (P : DV → Prop) (h : T__law_made ds Xp P) : WS F X (t__law_made F.K) (startD 1 ds) Xp { nx := fun _ => P DN, rt := P } := by
  obtain ⟨x, y, rfl, h⟩ := h
  show WS F X _ [some (.d x), some (.d y), none] Xp _
  unfold t__law_made
  refine ws_tryAsR (c := .ref (He.ga F.K "BadRatio")) (te := fun W => tTup (tCons (tC (.str "made")) (tCons (tCallS (sp_make_ratio F.K) (WE W) (tCons (tVar 0) (tCons (tVar 1) (tNil)))) (tNil)))) (fun C fs => C = He.ga F.K "BadRatio" ∧ ∃ w, fs = [(("what" : Str), DS w)] ∧ P (.d (refusedD w))) ?_ ?_
  · intro W
    refine ed_tup (ea_cons (ed_str (ea_cons (ed_callS (ea_cons (ed_var rfl (ea_cons (ed_var rfl (ea_nil ⟨rfl, plains_d (plains_d plains_nil), x, y, rfl, ?_⟩)))))))))
    rcases h with ⟨h1, p⟩ | ⟨h1, h2, p⟩ | ⟨t, b, rfl, rfl, p, h1, h2⟩
    · exact .inl ⟨h1, ⟨rfl, _, rfl, p⟩, plains_what⟩
    · exact .inr (.inl ⟨h1, h2, ⟨rfl, _, rfl, p⟩, plains_what⟩)
    · exact .inr (.inr ⟨t, b, rfl, rfl, ⟨trivial, ea_nil (tup_fin rfl p (by show 2 ≤ 100000; decide))⟩, h1, h2⟩)
  · rintro C fs ⟨rfl, w, rfl, p⟩
    refine ⟨hx, [(("what" : Str), .str w)], rfl, (fun z => by cases z), fun a d => ?_⟩
    exact ws_ret (ed_tup (ea_cons (ed_str (ea_cons (ed_xf rfl rfl (ea_nil (tup_fin rfl p (by show 2 ≤ 100000; decide))))))))
def T__law_divided : TD := fun ds Xp P => ∃ p q : Rt, ds = [.d (rt p), .d (rt q)] ∧ P (.d (if q.1 = 0 then refusedD "" else madeD (rt (overR p q)))) ∧ RB p ∧ RB q
abbrev sp__law_divided (K : PySem.W.Frag) : Sp := spT K 2 T__law_divided
def t__law_divided (K : PySem.W.Frag) : TS := fun D σ H => (fun W => tRet (tTup (tCons (tC (.str "made")) (tCons (tCallS (sp_ratio_over K) (WE W) (tCons (tVar 0) (tCons (tVar 1) (tNil)))) (tNil))))) (wOnly K (.ref (He.ga K "DividedByNought")) (fun a cls d => tRet (tTup (tCons (tC (.str "refused")) (tCons (tC (.str "")) (tNil))))) (fun _ _ _ _ => False) D) D σ H
theorem w__law_divided (F : Fm) (hx : PySem.W.exmOne F.K (.ref (He.ga F.K "DividedByNought")) (.ref (He.ga F.K "DividedByNought")) = some true) (X : XK) (ds : List DV) (Xp : XP) (P : DV → Prop) (h : T__law_divided ds Xp P) : WS F X (t__law_divided F.K) (startD 0 ds) Xp { nx := fun _ => P DN, rt := P } := by
  obtain ⟨p, q, rfl, h, hp, hq⟩ := h
  show WS F X _ [some (.d (rt p)), some (.d (rt q))] Xp _
  unfold t__law_divided
  refine ws_tryOnlyR (c := .ref (He.ga F.K "DividedByNought")) (te := fun W => tTup (tCons (tC (.str "made")) (tCons (tCallS (sp_ratio_over F.K) (WE W) (tCons (tVar 0) (tCons (tVar 1) (tNil)))) (tNil)))) (fun C fs => C = He.ga F.K "DividedByNought" ∧ fs = [] ∧ P (.d (refusedD ""))) ?_ ?_
  · intro W
    refine ed_tup (ea_cons (ed_str (ea_cons (ed_callS (ea_cons (ed_var rfl (ea_cons (ed_var rfl (ea_nil ⟨rfl, plains_d (plains_d plains_nil), p, q, rfl, ?_, hp, hq⟩)))))))))
    by_cases h0 : q.1 = 0
    · rw [if_pos h0] at h
      exact .inl ⟨h0, ⟨rfl, rfl, h⟩, plains_nil⟩
    · rw [if_neg h0] at h
      exact .inr ⟨h0, trivial, ea_nil (tup_fin rfl h (by show 2 ≤ 100000; decide))⟩
  · rintro C fs ⟨rfl, rfl, p⟩
    refine ⟨hx, fun a d => ?_⟩
    exact ws_ret (ed_tup (ea_cons (ed_str (ea_cons (ed_str (ea_nil (tup_fin rfl p (by show 2 ≤ 100000; decide))))))))
theorem u__law_divided {p q : Rt} {Xp : XP} {P : DV → Prop} (h : P (.d (if q.1 = 0 then refusedD "" else madeD (rt (overR p q))))) (hp : RB p) (hq : RB q) : T__law_divided [.d (rt p), .d (rt q)] Xp P := ⟨p, q, rfl, h, hp, hq⟩
theorem u__law_made_t {x y : PyData} {Xp : XP} {P : DV → Prop} (h : isWh x none none = false) (p : P (.d (refusedD "top"))) : T__law_made [.d x, .d y] Xp P := ⟨x, y, rfl, .inl ⟨h, p⟩⟩
theorem u__law_made_b {x y : PyData} {Xp : XP} {P : DV → Prop} (h : isWh x none none = true) (h2 : isWh y none none = false ∨ y = .int 0) (p : P (.d (refusedD "bottom"))) : T__law_made [.d x, .d y] Xp P := ⟨x, y, rfl, .inr (.inl ⟨h, h2, p⟩)⟩
theorem u__law_made {t b : Int} {Xp : XP} {P : DV → Prop} (p : P (.d (madeD (rt (mk t b))))) (h1 : b ≠ 0) (h2 : b.natAbs < 2 ^ 8000) : T__law_made [DI t, DI b] Xp P := ⟨_, _, rfl, .inr (.inr ⟨t, b, rfl, rfl, p, h1, h2⟩)⟩
/-! made rightly -/
def T__law_made_rightly : TD := fun ds Xp P => ∃ a b : Int, ds = [DI a, DI b] ∧ P (DB true) ∧ a.natAbs < 2 ^ 100 ∧ b.natAbs < 2 ^ 100
abbrev sp__law_made_rightly (K : PySem.W.Frag) : Sp := spT K 2 T__law_made_rightly
def t__law_made_rightly (K : PySem.W.Frag) : TS := tSeq (tIfS (tTest (tOp (rEqD K) (tVar 1) (tC (.int 0)))) (tRet (tOp (rEqD K) (tCall (sp__law_made K) [] E0 (tCons (tVar 0) (tCons (tVar 1) (tNil)))) (tTup (tCons (tC (.str "refused")) (tCons (tC (.str "bottom")) (tNil)))))) (tNext)) (tSeq (tAsg (tCall (sp__law_made K) [] E0 (tCons (tVar 0) (tCons (tVar 1) (tNil)))) (gName 2)) (tRet (tAndV (tOp (rEqD K) (tVar 2) (tTup (tCons (tC (.str "made")) (tCons (tCall (sp__law_ratio K) [] E0 (tCons (tVar 0) (tCons (tVar 1) (tNil)))) (tNil))))) (tCall (sp__law_is_ratio K) [] E0 (tCons (tOp (rIx K) (tVar 2) (tC (.int 1))) (tNil))))))
theorem z100 {a : Int} {k : Nat} (h : a.natAbs < 2 ^ 100) (hk : 100 ≤ k := by decide) : a.natAbs < 2 ^ k := Nat.lt_of_lt_of_le h (Nat.pow_le_pow_right (by decide) hk)
local macro_rules | `(tactic| walk_at "dl-call") => `(tactic| first | refine u__law_is_ratio ?_ | refine u__law_told ?_ ?_ | refine u__law_divided ?_ ?_ ?_ | fail)
theorem w__law_made_rightly (F : Fm) (X : XK) (ds : List DV) (Xp : XP) (P : DV → Prop) (h : T__law_made_rightly ds Xp P) : WS F X (t__law_made_rightly F.K) (startD 1 ds) Xp { nx := fun _ => P DN, rt := P } := by
  obtain ⟨a, b, rfl, hP, ha, hb⟩ := h
  show WS F X _ [some (DI a), some (DI b), none] Xp _
  unfold t__law_made_rightly
  walk_at "dl"
  · rename_i h
    refine ⟨rfl, plains_d (plains_d plains_nil), u__law_made_b rfl (.inr (congrArg PyData.int h)) ⟨trivial, ?_⟩⟩
    walk_at "dl"
    exact hP
  · rename_i h
    refine ⟨rfl, plains_d (plains_d plains_nil), u__law_made ⟨trivial, trivial, ?_⟩ h (z100 hb)⟩
    walk_at "dl"
    · exact hP
    · exact h
    · exact z100 ha
    · exact z100 hb
def T__law_whole_rightly : TD := fun ds Xp P => ∃ a l h : Int, ds = [DI a, DI l, DI h] ∧ P (DB true)
abbrev sp__law_whole_rightly (K : PySem.W.Frag) : Sp := spT K 3 T__law_whole_rightly
def t__law_whole_rightly (K : PySem.W.Frag) : TS := tSeq (tIfS (tOr (tTest (tOp (rIsNU) (tCall (sp_is_whole K) [.non, .non] E0 (tCons (tVar 0) (tNil))) (tC (.bl true)))) (tNot (tB (tCall (sp__law_told K) [] E0 (tCons (tCall (sp_is_whole K) [.non] E0 (tCons (tVar 0) (tCons (tVar 1) (tNil)))) (tCons (tOp (rLeU) (tVar 1) (tVar 0)) (tNil))))))) (tRet (tC (.bl false))) (tNext)) (tSeq (tIfS (tNot (tB (tCall (sp__law_told K) [] E0 (tCons (tCall (sp_is_whole K) [] E0 (tCons (tVar 0) (tCons (tC .non) (tCons (tVar 2) (tNil))))) (tCons (tOp (rLeU) (tVar 0) (tVar 2)) (tNil)))))) (tRet (tC (.bl false))) (tNext)) (tSeq (tIfS (tNot (tB (tCall (sp__law_told K) [] E0 (tCons (tCallN 1 2 (sp_is_whole K) ((fun vs zs => vs ++ zs)) E0 (tCons (tVar 0) (tNil)) (tCons (tVar 1) (tCons (tVar 2) (tNil)))) (tCons (tAndV (tOp (rLeU) (tVar 1) (tVar 0)) (tOp (rLeU) (tVar 0) (tVar 2))) (tNil)))))) (tRet (tC (.bl false))) (tNext)) (tRet (tAndV (tOp (rIsU) (tCall (sp_is_whole K) [] E0 (tCons (tVar 0) (tCons (tVar 0) (tCons (tVar 0) (tNil))))) (tC (.bl true))) (tAndV (tOp (rIsU) (tCall (sp_is_whole K) [.non] E0 (tCons (tVar 0) (tCons (tOp (rAddU K) (tVar 0) (tC (.int 1))) (tNil)))) (tC (.bl false))) (tOp (rIsU) (tCallN 1 1 (sp_is_whole K) ((fun vs zs => vs ++ (V.non :: zs))) E0 (tCons (tVar 0) (tNil)) (tCons (tOp (rSubU) (tVar 0) (tC (.int 1))) (tNil))) (tC (.bl false))))))))
theorem w__law_whole_rightly (F : Fm) (X : XK) (ds : List DV) (Xp : XP) (P : DV → Prop) (h : T__law_whole_rightly ds Xp P) : WS F X (t__law_whole_rightly F.K) (startD 0 ds) Xp { nx := fun _ => P DN, rt := P } := by
  obtain ⟨a, l, h, rfl, hP⟩ := h
  show WS F X _ [some (DI a), some (DI l), some (DI h)] Xp _
  unfold t__law_whole_rightly
  have i1 : isWh (PyData.int a) (some (a + 1)) none = false := by simp [isWh]; omega
  have i2 : isWh (PyData.int a) (some a) (some a) = true := by simp [isWh]
  have i3 : isWh (PyData.int a) none (some (a - 1)) = false := by simp [isWh]; omega
  walk_at "dl"
  all_goals first
    | (rw [i3]; exact hP)
    | (exfalso; simp_all; done)
    | (simp [isWh]; done)
    | (simp [isWh]; omega)
    | skip
  all_goals trace_state
end NF

namespace NF
open PySem L2 DL
local macro_rules | `(tactic| walk_at "dl-call") => `(tactic| fail)
local macro_rules | `(tactic| walk_at "dl-pl") => `(tactic| (repeat' (first | exact plains_nil | refine plains_cons trivial ?_)))
local macro_rules | `(tactic| walk_at "dl-ws") => `(tactic| first
  | with_reducible refine ws_seq ?_
  | with_reducible refine ws_asg ?_
  | with_reducible refine ws_ret ?_
  | with_reducible refine ws_if ?_
  | with_reducible refine ws_next ?_
  | with_reducible refine ws_asgG ?_
  | with_reducible refine ws_par ?_
  | with_reducible refine ws_drop ?_
  | with_reducible refine ws_brk ?_)
local macro_rules | `(tactic| walk_at "dl-ed") => `(tactic| first
  | with_reducible refine ed_var rfl ?_
  | with_reducible refine ed_int ?_
  | with_reducible refine ed_op ?_
  | with_reducible refine ed_call ?_
  | with_reducible refine ed_tup ?_
  | with_reducible refine ed_cb ?_
  | with_reducible refine ed_un ?_
  | with_reducible refine ed_lst ?_
  | with_reducible refine ed_str ?_
  | with_reducible refine ed_bl ?_
  | with_reducible refine ed_non ?_
  | with_reducible refine ed_if ?_
  | with_reducible refine ed_andV ?_
  | with_reducible refine ed_orV ?_
  | with_reducible refine ed_notV ?_
  | with_reducible refine ed_ref ?_
  | with_reducible refine ed_ty ?_
  | with_reducible refine ed_fmtI' ?_
  | with_reducible refine ed_joined ?_)
local macro_rules | `(tactic| walk_at "dl-ea") => `(tactic| first
  | with_reducible refine ea_cons ?_
  | with_reducible refine ea_nil ?_)
local macro_rules | `(tactic| walk_at "dl-et") => `(tactic| first
  | with_reducible refine et_tst ?_
  | with_reducible refine et_b ?_
  | with_reducible refine et_and ?_
  | with_reducible refine et_or ?_
  | with_reducible refine et_not ?_
  | with_reducible refine et_yes ?_)
local macro_rules | `(tactic| walk_at "dl-d2") => `(tactic| first
  | with_reducible refine d2_add ?_
  | with_reducible refine d2_ixT rfl ?_
  | with_reducible refine d2_ixL rfl ?_
  | with_reducible refine d2_eqI ?_
  | with_reducible refine d2_neI ?_
  | with_reducible refine d2_lt ?_
  | with_reducible refine d2_le ?_
  | with_reducible refine d2_gt ?_
  | with_reducible refine d2_ge ?_
  | with_reducible refine d2_sub ?_
  | with_reducible refine d2_mulS' ?_ ?_
  | with_reducible refine d2_div' ?_ ?_
  | with_reducible refine d2_mod' ?_ ?_
  | with_reducible refine d2_isN_i ?_
  | with_reducible refine d2_isNN_i ?_
  | with_reducible refine d2_isN_b ?_
  | with_reducible refine d2_isNN_b ?_
  | with_reducible refine d2_isN_n ?_
  | with_reducible refine d2_isNN_n ?_
  | with_reducible refine d2_isN_s ?_
  | with_reducible refine d2_isNN_s ?_
  | with_reducible refine d2_isN_l ?_
  | with_reducible refine d2_isNN_l ?_
  | with_reducible refine d2_isN_t ?_
  | with_reducible refine d2_isNN_t ?_
  | with_reducible refine d2_isB ?_
  | with_reducible refine d2_isNB ?_
  | with_reducible refine d2_addS' ?_ ?_
  | with_reducible refine d2_addL' ?_ ?_
  | with_reducible refine d2_isN ?_
  | with_reducible refine d2_isNN ?_)
local macro_rules | `(tactic| walk_at "dl-isi") => `(tactic| first
  | with_reducible refine dc_isi_i_int ?_
  | with_reducible refine dc_isi_i_bool ?_
  | with_reducible refine dc_isi_i_str ?_
  | with_reducible refine dc_isi_i_list ?_
  | with_reducible refine dc_isi_i_tuple ?_
  | with_reducible refine dc_isi_b_int ?_
  | with_reducible refine dc_isi_b_bool ?_
  | with_reducible refine dc_isi_b_str ?_
  | with_reducible refine dc_isi_b_list ?_
  | with_reducible refine dc_isi_b_tuple ?_
  | with_reducible refine dc_isi_n_int ?_
  | with_reducible refine dc_isi_n_bool ?_
  | with_reducible refine dc_isi_n_str ?_
  | with_reducible refine dc_isi_n_list ?_
  | with_reducible refine dc_isi_n_tuple ?_
  | with_reducible refine dc_isi_s_int ?_
  | with_reducible refine dc_isi_s_bool ?_
  | with_reducible refine dc_isi_s_str ?_
  | with_reducible refine dc_isi_s_list ?_
  | with_reducible refine dc_isi_s_tuple ?_
  | with_reducible refine dc_isi_l_int ?_
  | with_reducible refine dc_isi_l_bool ?_
  | with_reducible refine dc_isi_l_str ?_
  | with_reducible refine dc_isi_l_list ?_
  | with_reducible refine dc_isi_l_tuple ?_
  | with_reducible refine dc_isi_t_int ?_
  | with_reducible refine dc_isi_t_bool ?_
  | with_reducible refine dc_isi_t_str ?_
  | with_reducible refine dc_isi_t_list ?_
  | with_reducible refine dc_isi_t_tuple ?_
  | with_reducible refine dc_isi_d_int ?_
  | with_reducible refine dc_isi_d_bool ?_
  | with_reducible refine dc_isi_d_str ?_
  | with_reducible refine dc_isi_d_list ?_
  | with_reducible refine dc_isi_d_tuple ?_)
local macro_rules | `(tactic| walk_at "dl-dc") => `(tactic| first
  | with_reducible refine dc_int ?_
  | with_reducible refine dc_abs ?_
  | with_reducible refine dc_gcd ?_
  | with_reducible refine dc_lenT ?_
  | with_reducible refine dc_lenL ?_
  | with_reducible refine dc_strI' ?_ ?_
  | walk_at "dl-isi")
local macro_rules | `(tactic| walk_at "dl1") => `(tactic| first
  | (with_reducible show ED _ _ _ _ _ _; walk_at "dl-ed")
  | (with_reducible show WS _ _ _ _ _ _; walk_at "dl-ws")
  | (with_reducible show EA _ _ _ _ _ _; walk_at "dl-ea")
  | (with_reducible show D2 _ _ _ _ _; walk_at "dl-d2")
  | (with_reducible refine ⟨_, rfl, ?_⟩)
  | (with_reducible show ET _ _ _ _ _ _; walk_at "dl-et")
  | (with_reducible show DC _ _ _ _; walk_at "dl-dc")
  | with_reducible refine if_t ?_
  | with_reducible refine if_f ?_
  | with_reducible refine if_nt ?_
  | with_reducible refine if_nf ?_
  | with_reducible refine and_pl ?_
  | (with_reducible refine if_dec (fun _ => ?_) (fun _ => ?_))
  | (with_reducible refine if_ndec (fun _ => ?_) (fun _ => ?_))
  | (with_reducible refine if_bool (fun _ => ?_) (fun _ => ?_))
  | with_reducible refine d1_neg ?_
  | (refine tup_fin (by rfl) ?_ (Nat.le_of_ble_eq_true rfl))
  | (refine lst_fin (by rfl) ?_ (Nat.le_of_ble_eq_true rfl))
  | (with_reducible refine ⟨rfl, (by repeat (first | exact plains_nil | refine plains_d ?_ | refine plains_v ?_)), ?_⟩; walk_at "dl-call")
  | with_reducible refine and_plv ?_
  | with_reducible refine ej_cons ?_
  | with_reducible refine ej_nil ?_
  | (dsimp only [List.set]))
local macro_rules | `(tactic| walk_at "dl") => `(tactic| (walk_at "dl1" <;> try (walk_at "dl")))

local macro_rules | `(tactic| walk_at "dl-call") => `(tactic| first | refine u_lowest_terms ?_ ?_ ?_ | refine u_make_ratio ?_ ?_ ?_ | refine u_ratio_plus ?_ ?_ ?_ | refine u_ratio_minus ?_ ?_ ?_ | refine u_ratio_times ?_ ?_ ?_ | refine u_ratio_text ?_ ?_ | refine u_ratio_compare ?_ ?_ ?_ | refine u_ratio_negative ?_ | refine u_is_ratio ?_ | fail)
local macro_rules | `(tactic| walk_at "dl-ed") => `(tactic| first
  | with_reducible refine ed_wh1 ?_
  | with_reducible refine ed_wh2 ?_
  | with_reducible refine ed_draw ?_
  | with_reducible refine ed_number ?_
  | fail)
local macro_rules | `(tactic| walk_at "dl-ws") => `(tactic| first
  | with_reducible refine ws_raiseI (by decide) ?_
  | with_reducible refine ws_raise0 ?_
  | with_reducible refine ws_forSeq ?_
  | with_reducible refine ws_forR1 ?_
  | fail)
local macro_rules | `(tactic| walk_at "dl-d2") => `(tactic| first
  | with_reducible refine d2_mul' ?_ ?_
  | with_reducible refine d2_pow' ?_ ?_
  | fail)
local macro_rules | `(tactic| walk_at "dl1") => `(tactic| first
  | with_reducible refine draw_and (fun _ _ _ => ?_) ?_ ?_
  | with_reducible refine num_and rfl (fun _ _ => ?_)
  | refine ⟨_, _, rfl, ?_⟩
  | fail)

local macro_rules | `(tactic| walk_at "dl1") => `(tactic| first
  | (refine seq_fin (by rfl) ?_ (Nat.le_of_ble_eq_true rfl))
  | (refine if_tr (by rfl) ?_)
  | (refine if_fr (by rfl) ?_)
  | fail)
local macro_rules | `(tactic| walk_at "dl-ed") => `(tactic| first
  | with_reducible refine ed_whLH ?_
  | with_reducible refine ed_whH ?_
  | fail)
local macro_rules | `(tactic| walk_at "dl-call") => `(tactic| first | refine u_wh_nh ?_ | refine u_wh_lh ?_ | fail)
local macro_rules | `(tactic| walk_at "dl1") => `(tactic| first
  | refine ⟨_, _, _, rfl, rfl, ?_⟩
  | refine ⟨_, _, rfl, rfl, ?_⟩
  | fail)
local macro_rules | `(tactic| walk_at "dl-call") => `(tactic| first | refine u__law_gcd ?_ ?_ ?_ | fail)
local macro_rules | `(tactic| walk_at "dl-call") => `(tactic| first | refine u__law_ratio ?_ ?_ ?_ ?_ | fail)
local macro_rules | `(tactic| walk_at "sh_tac") => `(tactic| simp [SeqAt.shaped, PyData.canLay0, PyData.canLayAll0, PyData.depth, PyData.depthAll, ok_of, ok_app])
local macro_rules | `(tactic| walk_at "dl-d2") => `(tactic| first
  | with_unfolding_all refine d2_eqR rfl (by rfl) ?_ (by walk_at "sh_tac")
  | with_unfolding_all refine d2_neR rfl (by rfl) ?_ (by walk_at "sh_tac")
  | fail)
local macro_rules | `(tactic| walk_at "dl-call") => `(tactic| first | refine u__law_is_ratio ?_ | refine u__law_told ?_ ?_ | refine u__law_divided ?_ ?_ ?_ | fail)

def T__law_odd_rightly : TD := fun ds Xp P => ∃ a b : Int, ds = [DI a, DI b] ∧ P (DB true) ∧ a.natAbs < 2 ^ 100 ∧ b.natAbs < 2 ^ 100
abbrev sp__law_odd_rightly (K : PySem.W.Frag) : Sp := spT K 2 T__law_odd_rightly
def t__law_odd_rightly (K : PySem.W.Frag) : TS := tSeq (tAsg (tLst (tCons (tC (.bl true)) (tCons (tC .non) (tCons (tC (.str "1")) (tCons (tTup (tCons (tC (.int 1)) (tNil))) (tCons (tLst (tCons (tC (.int 1)) (tNil))) (tNil))))))) (gName 2)) (tSeq (tFor (iSeq K (tVar 2)) (gName 3) (tSeq (tIfS (tOr (tTest (tOp (rNeD K) (tCall (sp__law_made K) [] E0 (tCons (tVar 3) (tCons (tC (.int 0)) (tNil)))) (tTup (tCons (tC (.str "refused")) (tCons (tC (.str "top")) (tNil)))))) (tTest (tOp (rNeD K) (tCall (sp__law_made K) [] E0 (tCons (tVar 0) (tCons (tVar 3) (tNil)))) (tTup (tCons (tC (.str "refused")) (tCons (tC (.str "bottom")) (tNil))))))) (tRet (tC (.bl false))) (tNext)) (tSeq (tIfS (tOr (tTest (tOp (rIsNU) (tCall (sp_is_whole K) [.non, .non] E0 (tCons (tVar 3) (tNil))) (tC (.bl false)))) (tOr (tTest (tOp (rIsNU) (tCall (sp_is_ratio K) [] E0 (tCons (tVar 3) (tNil))) (tC (.bl false)))) (tTest (tOp (rIsNU) (tCall (sp_is_ratio K) [] E0 (tCons (tTup (tCons (tVar 0) (tCons (tVar 3) (tNil)))) (tNil))) (tC (.bl false)))))) (tRet (tC (.bl false))) (tNext)) (tIfS (tOr (tTest (tOp (rIsNU) (tCall (sp_is_ratio K) [] E0 (tCons (tTup (tCons (tVar 3) (tCons (tC (.int 1)) (tNil)))) (tNil))) (tC (.bl false)))) (tTest (tOp (rIsNU) (tCall (sp_is_whole K) [.non] E0 (tCons (tVar 3) (tCons (tC (.int 0)) (tNil)))) (tC (.bl false))))) (tRet (tC (.bl false))) (tNext))))) (tSeq (tAsg (tAndV (tOp (rGeU) (tVar 1) (tC (.int 1))) (tOp (rEqD K) (tCall (sp__law_gcd K) [] E0 (tCons (tVar 0) (tCons (tVar 1) (tNil)))) (tC (.int 1)))) (gName 4)) (tSeq (tIfS (tOr (tNot (tB (tCall (sp__law_told K) [] E0 (tCons (tCall (sp_is_ratio K) [] E0 (tCons (tTup (tCons (tVar 0) (tCons (tVar 1) (tNil)))) (tNil))) (tCons (tVar 4) (tNil)))))) (tOr (tTest (tOp (rIsNU) (tCall (sp_is_ratio K) [] E0 (tCons (tLst (tCons (tVar 0) (tCons (tVar 1) (tNil)))) (tNil))) (tC (.bl false)))) (tTest (tOp (rIsNU) (tCall (sp_is_ratio K) [] E0 (tCons (tTup (tCons (tVar 0) (tCons (tVar 1) (tCons (tC (.int 1)) (tNil))))) (tNil))) (tC (.bl false)))))) (tRet (tC (.bl false))) (tNext)) (tRet (tAndV (tOp (rIsU) (tCall (sp_is_ratio K) [] E0 (tCons (tTup (tCons (tVar 0) (tCons (tC (.int 1)) (tNil)))) (tNil))) (tC (.bl true))) (tAndV (tOp (rIsU) (tCall (sp_is_ratio K) [] E0 (tCons (tTup (tCons (tVar 0) (tCons (tUn rNegU (tC (.int 1))) (tNil)))) (tNil))) (tC (.bl false))) (tOp (rIsU) (tCall (sp_is_ratio K) [] E0 (tCons (tTup (tCons (tOp (rMulU) (tC (.int 2)) (tVar 0)) (tCons (tC (.int 2)) (tNil)))) (tNil))) (tC (.bl false)))))))))
def oddDs : List PyData := [.bool true, .none, .str "1", .tuple [.int 1], .list [.int 1]]
structure Odd (a : Int) (x : PyData) : Prop where
  w : isWh x none none = false
  r : isRat x = false
  r1 : isRat (.tuple [.int a, x]) = false
  r2 : isRat (.tuple [x, .int 1]) = false
  w0 : isWh x (some 0) none = false
theorem odd_of {a : Int} {x : PyData} (h : x ∈ oddDs) : Odd a x := by
  simp [oddDs] at h
  rcases h with rfl | rfl | rfl | rfl | rfl <;> exact ⟨rfl, rfl, rfl, rfl, rfl⟩
theorem w__law_odd_rightly (F : Fm) (X : XK) (ds : List DV) (Xp : XP) (P : DV → Prop) (h : T__law_odd_rightly ds Xp P) : WS F X (t__law_odd_rightly F.K) (startD 3 ds) Xp { nx := fun _ => P DN, rt := P } := by
  obtain ⟨a, b, rfl, hP, ha, hb⟩ := h
  show WS F X _ [some (DI a), some (DI b), none, none, none] Xp _
  unfold t__law_odd_rightly
  walk_at "dl"
  refine ⟨oddDs, .inl rfl, fun i δ' => ∃ z, δ' = [some (DI a), some (DI b), some (.d (.list oddDs)), z, none], ⟨_, rfl⟩, ?_, ?_⟩
  · rintro i x δ' hx ⟨z, rfl⟩
    have o := odd_of (a := a) (List.mem_of_getElem? hx)
    obtain ⟨o1, o2, o3, o4, o5⟩ := o
    refine dg_name trivial ?_
    dsimp only [List.set]
    walk_at "dl"
    refine ⟨rfl, plains_d (plains_d plains_nil), u__law_made_t o1 ⟨trivial, ?_⟩⟩
    walk_at "dl"
    refine ⟨rfl, plains_d (plains_d plains_nil), u__law_made_b rfl (.inl o1) ⟨trivial, ?_⟩⟩
    walk_at "dl"
    all_goals (try simp only [o1, o2, o3, o4, o5])
    all_goals first
      | exact ⟨_, rfl⟩
      | (exfalso; simp_all; done)
      | skip
    all_goals trace_state
  · rintro δ' ⟨z, rfl⟩
    have r22 : isRat (.tuple [.int (2 * a), .int 2]) = false := by
      have e : Nat.gcd (2 * a).natAbs (2 : Int).natAbs = 2 := Nat.gcd_eq_right (by rw [Int.natAbs_mul]; exact Nat.dvd_mul_right _ _)
      show (decide ((1 : Int) ≤ 2) && decide (((Nat.gcd (2 * a).natAbs (2 : Int).natAbs : Nat) : Int) = 1)) = false
      rw [e]
      decide
    have r11 : isRat (.tuple [.int a, .int 1]) = true := by simp [isRat]
    walk_at "dl"
    all_goals first
      | exact z100 ha
      | exact z100 hb
      | (rw [r22]; exact hP)
      | exact cmul_of (a := 2) (b := 100) (by decide) ha
      | (exfalso; simp_all; done)
      | (rename_i h; simp [isRat, h]; done)
      | (rename_i h; simp [isRat]; omega)
      | skip
    all_goals trace_state
theorem u__law_made_rightly {a b : Int} {Xp : XP} {P : DV → Prop} (h : P (DB true)) (ha : a.natAbs < 2 ^ 100) (hb : b.natAbs < 2 ^ 100) : T__law_made_rightly [DI a, DI b] Xp P := ⟨a, b, rfl, h, ha, hb⟩
theorem u__law_odd_rightly {a b : Int} {Xp : XP} {P : DV → Prop} (h : P (DB true)) (ha : a.natAbs < 2 ^ 100) (hb : b.natAbs < 2 ^ 100) : T__law_odd_rightly [DI a, DI b] Xp P := ⟨a, b, rfl, h, ha, hb⟩
theorem u__law_whole_rightly {a b c : Int} {Xp : XP} {P : DV → Prop} (h : P (DB true)) : T__law_whole_rightly [DI a, DI b, DI c] Xp P := ⟨a, b, c, rfl, h⟩
end NF

namespace NF
open PySem L2 DL
local macro_rules | `(tactic| walk_at "dl-call") => `(tactic| fail)
local macro_rules | `(tactic| walk_at "dl-pl") => `(tactic| (repeat' (first | exact plains_nil | refine plains_cons trivial ?_)))
local macro_rules | `(tactic| walk_at "dl-ws") => `(tactic| first
  | with_reducible refine ws_seq ?_
  | with_reducible refine ws_asg ?_
  | with_reducible refine ws_ret ?_
  | with_reducible refine ws_if ?_
  | with_reducible refine ws_next ?_
  | with_reducible refine ws_asgG ?_
  | with_reducible refine ws_par ?_
  | with_reducible refine ws_drop ?_
  | with_reducible refine ws_brk ?_)
local macro_rules | `(tactic| walk_at "dl-ed") => `(tactic| first
  | with_reducible refine ed_var rfl ?_
  | with_reducible refine ed_int ?_
  | with_reducible refine ed_op ?_
  | with_reducible refine ed_call ?_
  | with_reducible refine ed_tup ?_
  | with_reducible refine ed_cb ?_
  | with_reducible refine ed_un ?_
  | with_reducible refine ed_lst ?_
  | with_reducible refine ed_str ?_
  | with_reducible refine ed_bl ?_
  | with_reducible refine ed_non ?_
  | with_reducible refine ed_if ?_
  | with_reducible refine ed_andV ?_
  | with_reducible refine ed_orV ?_
  | with_reducible refine ed_notV ?_
  | with_reducible refine ed_ref ?_
  | with_reducible refine ed_ty ?_
  | with_reducible refine ed_fmtI' ?_
  | with_reducible refine ed_joined ?_)
local macro_rules | `(tactic| walk_at "dl-ea") => `(tactic| first
  | with_reducible refine ea_cons ?_
  | with_reducible refine ea_nil ?_)
local macro_rules | `(tactic| walk_at "dl-et") => `(tactic| first
  | with_reducible refine et_tst ?_
  | with_reducible refine et_b ?_
  | with_reducible refine et_and ?_
  | with_reducible refine et_or ?_
  | with_reducible refine et_not ?_
  | with_reducible refine et_yes ?_)
local macro_rules | `(tactic| walk_at "dl-d2") => `(tactic| first
  | with_reducible refine d2_add ?_
  | with_reducible refine d2_ixT rfl ?_
  | with_reducible refine d2_ixL rfl ?_
  | with_reducible refine d2_eqI ?_
  | with_reducible refine d2_neI ?_
  | with_reducible refine d2_lt ?_
  | with_reducible refine d2_le ?_
  | with_reducible refine d2_gt ?_
  | with_reducible refine d2_ge ?_
  | with_reducible refine d2_sub ?_
  | with_reducible refine d2_mulS' ?_ ?_
  | with_reducible refine d2_div' ?_ ?_
  | with_reducible refine d2_mod' ?_ ?_
  | with_reducible refine d2_isN_i ?_
  | with_reducible refine d2_isNN_i ?_
  | with_reducible refine d2_isN_b ?_
  | with_reducible refine d2_isNN_b ?_
  | with_reducible refine d2_isN_n ?_
  | with_reducible refine d2_isNN_n ?_
  | with_reducible refine d2_isN_s ?_
  | with_reducible refine d2_isNN_s ?_
  | with_reducible refine d2_isN_l ?_
  | with_reducible refine d2_isNN_l ?_
  | with_reducible refine d2_isN_t ?_
  | with_reducible refine d2_isNN_t ?_
  | with_reducible refine d2_isB ?_
  | with_reducible refine d2_isNB ?_
  | with_reducible refine d2_addS' ?_ ?_
  | with_reducible refine d2_addL' ?_ ?_
  | with_reducible refine d2_isN ?_
  | with_reducible refine d2_isNN ?_)
local macro_rules | `(tactic| walk_at "dl-isi") => `(tactic| first
  | with_reducible refine dc_isi_i_int ?_
  | with_reducible refine dc_isi_i_bool ?_
  | with_reducible refine dc_isi_i_str ?_
  | with_reducible refine dc_isi_i_list ?_
  | with_reducible refine dc_isi_i_tuple ?_
  | with_reducible refine dc_isi_b_int ?_
  | with_reducible refine dc_isi_b_bool ?_
  | with_reducible refine dc_isi_b_str ?_
  | with_reducible refine dc_isi_b_list ?_
  | with_reducible refine dc_isi_b_tuple ?_
  | with_reducible refine dc_isi_n_int ?_
  | with_reducible refine dc_isi_n_bool ?_
  | with_reducible refine dc_isi_n_str ?_
  | with_reducible refine dc_isi_n_list ?_
  | with_reducible refine dc_isi_n_tuple ?_
  | with_reducible refine dc_isi_s_int ?_
  | with_reducible refine dc_isi_s_bool ?_
  | with_reducible refine dc_isi_s_str ?_
  | with_reducible refine dc_isi_s_list ?_
  | with_reducible refine dc_isi_s_tuple ?_
  | with_reducible refine dc_isi_l_int ?_
  | with_reducible refine dc_isi_l_bool ?_
  | with_reducible refine dc_isi_l_str ?_
  | with_reducible refine dc_isi_l_list ?_
  | with_reducible refine dc_isi_l_tuple ?_
  | with_reducible refine dc_isi_t_int ?_
  | with_reducible refine dc_isi_t_bool ?_
  | with_reducible refine dc_isi_t_str ?_
  | with_reducible refine dc_isi_t_list ?_
  | with_reducible refine dc_isi_t_tuple ?_
  | with_reducible refine dc_isi_d_int ?_
  | with_reducible refine dc_isi_d_bool ?_
  | with_reducible refine dc_isi_d_str ?_
  | with_reducible refine dc_isi_d_list ?_
  | with_reducible refine dc_isi_d_tuple ?_)
local macro_rules | `(tactic| walk_at "dl-dc") => `(tactic| first
  | with_reducible refine dc_int ?_
  | with_reducible refine dc_abs ?_
  | with_reducible refine dc_gcd ?_
  | with_reducible refine dc_lenT ?_
  | with_reducible refine dc_lenL ?_
  | with_reducible refine dc_strI' ?_ ?_
  | walk_at "dl-isi")
local macro_rules | `(tactic| walk_at "dl1") => `(tactic| first
  | (with_reducible show ED _ _ _ _ _ _; walk_at "dl-ed")
  | (with_reducible show WS _ _ _ _ _ _; walk_at "dl-ws")
  | (with_reducible show EA _ _ _ _ _ _; walk_at "dl-ea")
  | (with_reducible show D2 _ _ _ _ _; walk_at "dl-d2")
  | (with_reducible refine ⟨_, rfl, ?_⟩)
  | (with_reducible show ET _ _ _ _ _ _; walk_at "dl-et")
  | (with_reducible show DC _ _ _ _; walk_at "dl-dc")
  | with_reducible refine if_t ?_
  | with_reducible refine if_f ?_
  | with_reducible refine if_nt ?_
  | with_reducible refine if_nf ?_
  | with_reducible refine and_pl ?_
  | (with_reducible refine if_dec (fun _ => ?_) (fun _ => ?_))
  | (with_reducible refine if_ndec (fun _ => ?_) (fun _ => ?_))
  | (with_reducible refine if_bool (fun _ => ?_) (fun _ => ?_))
  | with_reducible refine d1_neg ?_
  | (refine tup_fin (by rfl) ?_ (Nat.le_of_ble_eq_true rfl))
  | (refine lst_fin (by rfl) ?_ (Nat.le_of_ble_eq_true rfl))
  | (with_reducible refine ⟨rfl, (by repeat (first | exact plains_nil | refine plains_d ?_ | refine plains_v ?_)), ?_⟩; walk_at "dl-call")
  | with_reducible refine and_plv ?_
  | with_reducible refine ej_cons ?_
  | with_reducible refine ej_nil ?_
  | (dsimp only [List.set]))
local macro_rules | `(tactic| walk_at "dl") => `(tactic| (walk_at "dl1" <;> try (walk_at "dl")))

local macro_rules | `(tactic| walk_at "dl-call") => `(tactic| first | refine u_lowest_terms ?_ ?_ ?_ | refine u_make_ratio ?_ ?_ ?_ | refine u_ratio_plus ?_ ?_ ?_ | refine u_ratio_minus ?_ ?_ ?_ | refine u_ratio_times ?_ ?_ ?_ | refine u_ratio_text ?_ ?_ | refine u_ratio_compare ?_ ?_ ?_ | refine u_ratio_negative ?_ | refine u_is_ratio ?_ | fail)
local macro_rules | `(tactic| walk_at "dl-ed") => `(tactic| first
  | with_reducible refine ed_wh1 ?_
  | with_reducible refine ed_wh2 ?_
  | with_reducible refine ed_draw ?_
  | with_reducible refine ed_number ?_
  | fail)
local macro_rules | `(tactic| walk_at "dl-ws") => `(tactic| first
  | with_reducible refine ws_raiseI (by decide) ?_
  | with_reducible refine ws_raise0 ?_
  | with_reducible refine ws_forSeq ?_
  | with_reducible refine ws_forR1 ?_
  | fail)
local macro_rules | `(tactic| walk_at "dl-d2") => `(tactic| first
  | with_reducible refine d2_mul' ?_ ?_
  | with_reducible refine d2_pow' ?_ ?_
  | fail)
local macro_rules | `(tactic| walk_at "dl1") => `(tactic| first
  | with_reducible refine draw_and (fun _ _ _ => ?_) ?_ ?_
  | with_reducible refine num_and rfl (fun _ _ => ?_)
  | refine ⟨_, _, rfl, ?_⟩
  | fail)

local macro_rules | `(tactic| walk_at "dl1") => `(tactic| first
  | (refine seq_fin (by rfl) ?_ (Nat.le_of_ble_eq_true rfl))
  | (refine if_tr (by rfl) ?_)
  | (refine if_fr (by rfl) ?_)
  | fail)
local macro_rules | `(tactic| walk_at "dl-ed") => `(tactic| first
  | with_reducible refine ed_whLH ?_
  | with_reducible refine ed_whH ?_
  | fail)
local macro_rules | `(tactic| walk_at "dl-call") => `(tactic| first | refine u_wh_nh ?_ | refine u_wh_lh ?_ | fail)
local macro_rules | `(tactic| walk_at "dl1") => `(tactic| first
  | refine ⟨_, _, _, rfl, rfl, ?_⟩
  | refine ⟨_, _, rfl, rfl, ?_⟩
  | fail)
local macro_rules | `(tactic| walk_at "dl-call") => `(tactic| first | refine u__law_gcd ?_ ?_ ?_ | fail)
local macro_rules | `(tactic| walk_at "dl-call") => `(tactic| first | refine u__law_ratio ?_ ?_ ?_ ?_ | fail)
local macro_rules | `(tactic| walk_at "sh_tac") => `(tactic| simp [SeqAt.shaped, PyData.canLay0, PyData.canLayAll0, PyData.depth, PyData.depthAll, ok_of, ok_app])
local macro_rules | `(tactic| walk_at "dl-d2") => `(tactic| first
  | with_unfolding_all refine d2_eqR rfl (by rfl) ?_ (by walk_at "sh_tac")
  | with_unfolding_all refine d2_neR rfl (by rfl) ?_ (by walk_at "sh_tac")
  | fail)
local macro_rules | `(tactic| walk_at "dl-call") => `(tactic| first | refine u__law_is_ratio ?_ | refine u__law_told ?_ ?_ | refine u__law_divided ?_ ?_ ?_ | fail)

local macro_rules | `(tactic| walk_at "dl-call") => `(tactic| first | refine u__law_made_rightly ?_ ?_ ?_ | refine u__law_odd_rightly ?_ ?_ ?_ | refine u__law_whole_rightly ?_ | fail)
def law_24 (K : PySem.W.Frag) : TS := tRet (tAndV (tOp (rEqD K) (tCall (sp_ratio_text K) [] E0 (tCons (tVar 7) (tNil))) (tCall (sp__law_text K) [] E0 (tCons (tVar 7) (tNil)))) (tOp (rEqD K) (tCall (sp_ratio_text K) [] E0 (tCons (tVar 8) (tNil))) (tCall (sp__law_text K) [] E0 (tCons (tVar 8) (tNil)))))
def law_23 (K : PySem.W.Frag) : TS := tSeq (tIfS (tOr (tTest (tOp (rNeD K) (tCall (sp_ratio_compare K) [] E0 (tCons (tVar 7) (tCons (tVar 8) (tNil)))) (tVar 15))) (tOr (tTest (tOp (rNeD K) (tCall (sp_ratio_compare K) [] E0 (tCons (tVar 8) (tCons (tVar 7) (tNil)))) (tUn rNegU (tVar 15)))) (tTest (tOp (rNeD K) (tCall (sp_ratio_compare K) [] E0 (tCons (tVar 7) (tCons (tVar 7) (tNil)))) (tC (.int 0)))))) (tRet (tC (.bl false))) (tNext)) (law_24 K)
def law_22 (K : PySem.W.Frag) : TS := tSeq (tIfS (tTest (tOp (rNeD K) (tVar 14) (tC (.int 0)))) (tAsg (tIf (tTest (tOp (rGtU) (tVar 14) (tC (.int 0)))) (tC (.int 1)) (tUn rNegU (tC (.int 1)))) (gName 15)) (tNext)) (law_23 K)
def law_21 (K : PySem.W.Frag) : TS := tSeq (tAsg (tC (.int 0)) (gName 15)) (law_22 K)
def law_20 (K : PySem.W.Frag) : TS := tSeq (tAsg (tOp (rSubU) (tOp (rMulU) (tOp (rIx K) (tVar 7) (tC (.int 0))) (tOp (rIx K) (tVar 8) (tC (.int 1)))) (tOp (rMulU) (tOp (rIx K) (tVar 8) (tC (.int 0))) (tOp (rIx K) (tVar 7) (tC (.int 1))))) (gName 14)) (law_21 K)
def law_19 (K : PySem.W.Frag) : TS := tSeq (tIfS (tTest (tOp (rEqD K) (tOp (rIx K) (tVar 8) (tC (.int 0))) (tC (.int 0)))) (tIfS (tTest (tOp (rNeD K) (tCall (sp__law_divided K) [] E0 (tCons (tVar 7) (tCons (tVar 8) (tNil)))) (tTup (tCons (tC (.str "refused")) (tCons (tC (.str "")) (tNil)))))) (tRet (tC (.bl false))) (tNext)) (tIfS (tTest (tOp (rNeD K) (tCall (sp__law_divided K) [] E0 (tCons (tVar 7) (tCons (tVar 8) (tNil)))) (tTup (tCons (tC (.str "made")) (tCons (tCall (sp__law_ratio K) [] E0 (tCons (tOp (rMulU) (tOp (rIx K) (tVar 7) (tC (.int 0))) (tOp (rIx K) (tVar 8) (tC (.int 1)))) (tCons (tOp (rMulU) (tOp (rIx K) (tVar 7) (tC (.int 1))) (tOp (rIx K) (tVar 8) (tC (.int 0)))) (tNil)))) (tNil)))))) (tRet (tC (.bl false))) (tNext))) (law_20 K)
def law_18 (K : PySem.W.Frag) : TS := tSeq (tIfS (tOr (tTest (tOp (rNeD K) (tVar 10) (tVar 11))) (tNot (tB (tCB (rAll K) (tCons (tLc (iSeq K (tVar 10)) (gName 16) (tYes) (tCall (sp__law_is_ratio K) [] E0 (tCons (tVar 16) (tNil))) [16]) (tNil)))))) (tRet (tC (.bl false))) (tNext)) (law_19 K)
def law_17 (K : PySem.W.Frag) : TS := tSeq (tDrop (tBM K "list" rAppend (tVar 11) (tCons (tVar 12) (tNil)))) (law_18 K)
def law_16 (K : PySem.W.Frag) : TS := tSeq (tFor (iRng1 (tCons (tVar 6) (tNil))) (gName 13) (tAsg (tCall (sp__law_times K) [] E0 (tCons (tVar 12) (tCons (tVar 7) (tNil)))) (gName 12))) (law_17 K)
def law_15 (K : PySem.W.Frag) : TS := tSeq (tAsg (tTup (tCons (tC (.int 1)) (tCons (tC (.int 1)) (tNil)))) (gName 12)) (law_16 K)
def law_14 (K : PySem.W.Frag) : TS := tSeq (tAsg (tLst (tCons (tCall (sp__law_plus K) [] E0 (tCons (tVar 7) (tCons (tVar 8) (tNil)))) (tCons (tCall (sp__law_plus K) [] E0 (tCons (tVar 7) (tCons (tVar 9) (tNil)))) (tCons (tCall (sp__law_times K) [] E0 (tCons (tVar 7) (tCons (tVar 8) (tNil)))) (tCons (tTup (tCons (tUn rNegU (tOp (rIx K) (tVar 7) (tC (.int 0)))) (tCons (tOp (rIx K) (tVar 7) (tC (.int 1))) (tNil)))) (tNil)))))) (gName 11)) (law_15 K)
def law_13 (K : PySem.W.Frag) : TS := tSeq (tDrop (tBM K "list" rAppend (tVar 10) (tCons (tCall (sp_ratio_power K) [] E0 (tCons (tVar 7) (tCons (tVar 6) (tNil)))) (tNil)))) (law_14 K)
def law_12 (K : PySem.W.Frag) : TS := tSeq (tAsg (tLst (tCons (tCall (sp_ratio_plus K) [] E0 (tCons (tVar 7) (tCons (tVar 8) (tNil)))) (tCons (tCall (sp_ratio_minus K) [] E0 (tCons (tVar 7) (tCons (tVar 8) (tNil)))) (tCons (tCall (sp_ratio_times K) [] E0 (tCons (tVar 7) (tCons (tVar 8) (tNil)))) (tCons (tCall (sp_ratio_negative K) [] E0 (tCons (tVar 7) (tNil))) (tNil)))))) (gName 10)) (law_13 K)
def law_11 (K : PySem.W.Frag) : TS := tSeq (tAsg (tTup (tCons (tUn rNegU (tOp (rIx K) (tVar 8) (tC (.int 0)))) (tCons (tOp (rIx K) (tVar 8) (tC (.int 1))) (tNil)))) (gName 9)) (law_12 K)
def law_10 (K : PySem.W.Frag) : TS := tSeq (tAsg (tCall (sp__law_ratio K) [] E0 (tCons (tVar 4) (tCons (tIf (tTest (tOp (rNeD K) (tVar 5) (tC (.int 0)))) (tVar 5) (tC (.int 1))) (tNil)))) (gName 8)) (law_11 K)
def law_9 (K : PySem.W.Frag) : TS := tSeq (tAsg (tCall (sp__law_ratio K) [] E0 (tCons (tVar 2) (tCons (tIf (tTest (tOp (rNeD K) (tVar 3) (tC (.int 0)))) (tVar 3) (tC (.int 1))) (tNil)))) (gName 7)) (law_10 K)
def law_8 (K : PySem.W.Frag) : TS := tSeq (tIfS (tOr (tNot (tB (tCall (sp__law_whole_rightly K) [] E0 (tCons (tVar 2) (tCons (tVar 4) (tCons (tVar 5) (tNil))))))) (tOr (tTest (tOp (rNeD K) (tCall (sp_make_ratio K) [.int 1] E0 (tCons (tVar 4) (tNil))) (tTup (tCons (tVar 4) (tCons (tC (.int 1)) (tNil)))))) (tOr (tTest (tOp (rNeD K) (tC (.ref (He.ga K "ZERO"))) (tTup (tCons (tC (.int 0)) (tCons (tC (.int 1)) (tNil)))))) (tTest (tOp (rNeD K) (tC (.ref (He.ga K "ONE"))) (tTup (tCons (tC (.int 1)) (tCons (tC (.int 1)) (tNil))))))))) (tRet (tC (.bl false))) (tNext)) (law_9 K)
def law_7 (K : PySem.W.Frag) : TS := tSeq (tIfS (tOr (tNot (tB (tCall (sp__law_made_rightly K) [] E0 (tCons (tVar 2) (tCons (tVar 3) (tNil)))))) (tOr (tNot (tB (tCall (sp__law_made_rightly K) [] E0 (tCons (tVar 4) (tCons (tVar 5) (tNil)))))) (tNot (tB (tCall (sp__law_odd_rightly K) [] E0 (tCons (tVar 2) (tCons (tVar 3) (tNil)))))))) (tRet (tC (.bl false))) (tNext)) (law_8 K)
def law_6 (K : PySem.W.Frag) : TS := tSeq (tAsg (tCall (sp__law_draw K) [] E0 (tCons (tVar 1) (tCons (tC (.int 6)) (tNil)))) (gName 6)) (law_7 K)
def law_5 (K : PySem.W.Frag) : TS := tSeq (tAsg (tCall (sp__law_number K) [] E0 (tCons (tVar 1) (tNil))) (gName 5)) (law_6 K)
def law_4 (K : PySem.W.Frag) : TS := tSeq (tAsg (tCall (sp__law_number K) [] E0 (tCons (tVar 1) (tNil))) (gName 4)) (law_5 K)
def law_3 (K : PySem.W.Frag) : TS := tSeq (tAsg (tCall (sp__law_number K) [] E0 (tCons (tVar 1) (tNil))) (gName 3)) (law_4 K)
def law_2 (K : PySem.W.Frag) : TS := tSeq (tAsg (tCall (sp__law_number K) [] E0 (tCons (tVar 1) (tNil))) (gName 2)) (law_3 K)
def law_1 (K : PySem.W.Frag) : TS := tSeq (tAsg (tCall (sp__law_start K) [] E0 (tCons (tVar 0) (tNil))) (gName 1)) (law_2 K)
theorem cp_rb {p : Rt} (h : CP p) : RB p := ⟨h.pos, Nat.lt_of_lt_of_le h.top (Nat.pow_le_pow_right (by decide) (by decide)), Nat.lt_of_lt_of_le h.bot (Nat.pow_le_pow_right (by decide) (by decide))⟩
theorem low_cp {t b : Int} (hb : 0 < b) (ht : t.natAbs < 2 ^ 100) (hb2 : b.natAbs < 2 ^ 100) : CP (low t b) := by
  have hg : 0 < Nat.gcd t.natAbs b.natAbs := Nat.gcd_pos_of_pos_right _ (by omega)
  have e1 : (t / ((Nat.gcd t.natAbs b.natAbs : Nat) : Int)).natAbs = t.natAbs / Nat.gcd t.natAbs b.natAbs := by
    rw [Int.natAbs_ediv_of_dvd (Int.ofNat_dvd_left.mpr (Nat.gcd_dvd_left _ _)), Int.natAbs_natCast]
  have e2 : (b / ((Nat.gcd t.natAbs b.natAbs : Nat) : Int)).natAbs = b.natAbs / Nat.gcd t.natAbs b.natAbs := by
    rw [Int.natAbs_ediv_of_dvd (Int.ofNat_dvd_left.mpr (Nat.gcd_dvd_right _ _)), Int.natAbs_natCast]
  have l : (2 : Nat) ^ 100 ≤ 2 ^ 101 := Nat.pow_le_pow_right (by decide) (by decide)
  refine ⟨?_, ?_, ?_, ?_⟩
  · exact Int.ediv_pos_of_pos_of_dvd hb (by omega) (Int.ofNat_dvd_left.mpr (Nat.gcd_dvd_right _ _))
  · show Nat.gcd (t / _).natAbs (b / _).natAbs = 1
    rw [e1, e2]
    rw [Nat.gcd_div (Nat.gcd_dvd_left _ _) (Nat.gcd_dvd_right _ _)]
    exact Nat.div_self hg
  · show (t / _).natAbs < _
    rw [e1]
    exact Nat.lt_of_le_of_lt (Nat.div_le_self _ _) (Nat.lt_of_lt_of_le ht l)
  · show (b / _).natAbs < _
    rw [e2]
    exact Nat.lt_of_le_of_lt (Nat.div_le_self _ _) (Nat.lt_of_lt_of_le hb2 l)
theorem mk_cp {t b : Int} (hb : b ≠ 0) (ht : t.natAbs < 2 ^ 100) (hb2 : b.natAbs < 2 ^ 100) : CP (mk t b) := by
  unfold mk
  split
  · exact low_cp (by omega) (by rw [Int.natAbs_neg]; exact ht) (by rw [Int.natAbs_neg]; exact hb2)
  · exact low_cp (by omega) ht hb2
theorem mk_one (c : Int) : mk c 1 = (c, 1) := by
  rw [mk_pos (by decide), low_one (by simp)]
def nz (b : Int) : Int := if b ≠ 0 then b else 1
theorem nz_ne (b : Int) : nz b ≠ 0 := by unfold nz; split <;> omega
theorem nz_lt {b : Int} (h : b.natAbs < 2 ^ 100) : (nz b).natAbs < 2 ^ 100 := by unfold nz; split <;> omega
theorem ed_nz {F : Fm} {X : XW} {δ : DSt} {Xp : XP} {P : DV → Prop} {i : Nat} {b : Int} (h : δ[i]? = some (some (DI b))) (p : P (DI (nz b))) : ED F X (tIf (tTest (tOp (rNeD F.K) (tVar i) (tC (.int 0)))) (tVar i) (tC (.int 1))) δ Xp P := by
  refine ed_if (et_tst (ed_op (ed_var h (ed_int (d2_neI ⟨_, rfl, ?_⟩)))))
  refine if_ndec (fun h0 => ed_var h ?_) (fun h0 => ed_int ?_)
  · rw [show nz b = b from if_pos h0] at p
    exact p
  · rw [show nz b = 1 from if_neg (fun z => z h0)] at p
    exact p
theorem ed_mr1 {F : Fm} {X : XW} {δ : DSt} {Xp : XP} {P : DV → Prop} {E : XK} {ta : TA} (h : EA F X ta δ Xp fun xs => ∃ t, xs = [DI t] ∧ P (.d (.tuple [.int t, .int 1]))) : ED F X (tCall (sp_make_ratio F.K) [.int 1] E ta) δ Xp P :=
  ed_callD (dds := [DI 1]) (fun _ _ _ _ => ⟨.int 1, trivial⟩) (plains_cons trivial plains_nil) (by
    intro σ H G c Q q
    exact h σ H G c Q fun us xs H1 G1 s1 r1 ⟨t, e, p⟩ => q us xs H1 G1 s1 r1 (by
      subst e
      refine ⟨rfl, plains_d plains_nil, u_make_ratio ⟨trivial, ?_⟩ (by decide) (by decide +kernel)⟩
      rw [mk_one]
      exact p))
theorem ws_ownL {F : Fm} {X : XK} {δ : DSt} {Xp : XP} {E : DE} {i : Nat} {ta : TA} (h : EA F (fun _ => X) ta δ Xp fun xs => ∃ ys, AllD xs ys ∧ ys.length ≤ 100000 ∧ E.nx (δ.set i (some (.o ys)))) : WS F X (tAsg (tLst ta) (gName i)) δ Xp E := ws_own (en_lst h)
theorem rb_neg {q : Rt} (h : RB q) : RB (-q.1, q.2) := ⟨h.pos, by rw [Int.natAbs_neg]; exact h.top, h.bot⟩
theorem plus_neg {p q : Rt} : plusR p (-q.1, q.2) = minusR p q := by
  unfold plusR minusR
  rw [Int.neg_mul, ← Int.sub_eq_add_neg]
theorem u_plus_less {p q : Rt} {Xp : XP} {P : DV → Prop} (h : P (.d (rt (minusR p q)))) (hp : RB p) (hq : RB q) : T_ratio_plus [.d (rt p), .d (.tuple [.int (-q.1), .int q.2])] Xp P := ⟨p, (-q.1, q.2), rfl, by rw [plus_neg]; exact h, hp, rb_neg hq⟩
theorem app_go {F : Fm} {X : XK} {δ : DSt} {Xp : XP} {E : DE} {i : Nat} {te : TE} {xs : List PyData} (hi : δ[i]? = some (some (.o xs))) (h : ED F (fun _ => X) te δ Xp fun y => ∃ x, y = .d x ∧ E.nx (δ.set i (some (.o (xs ++ [x]))))) (hl : xs.length < 100000) : WS F X (tDrop (tBM F.K "list" rAppend (tVar i) (tCons te tNil))) δ Xp E := ws_app ⟨xs, hi, hl, h⟩
local macro_rules | `(tactic| walk_at "dl-ed") => `(tactic| first
  | with_reducible refine ed_nz rfl ?_
  | with_reducible refine ed_mr1 ?_
  | (refine ed_con (by assumption) ?_)
  | fail)
local macro_rules | `(tactic| walk_at "dl-ws") => `(tactic| first
  | with_reducible refine ws_ownL ?_
  | refine app_go rfl ?_ (Nat.le_of_ble_eq_true rfl)
  | fail)
local macro_rules | `(tactic| walk_at "dl-call") => `(tactic| first | refine u_plus_less ?_ ?_ ?_ | refine u_ratio_power ?_ rfl ?_ ?_ | fail)
theorem tx_ok (p : Rt) : PyData.strOk (textR p) = true := by
  unfold textR
  split
  · exact ok_of _
  · rw [ok_app, ok_app, ok_app, ok_of, ok_of, ok_of, show PyData.strOk Str.empty = true by decide +kernel] <;> rfl
local macro_rules | `(tactic| walk_at "sh_tac2") => `(tactic| simp [SeqAt.shaped, PyData.canLay0, PyData.canLayAll0, PyData.depth, PyData.depthAll, ok_of, ok_app, tx_ok])
local macro_rules | `(tactic| walk_at "dl-d2") => `(tactic| first
  | with_unfolding_all refine d2_eqR rfl (by rfl) ?_ (by walk_at "sh_tac2")
  | with_unfolding_all refine d2_neR rfl (by rfl) ?_ (by walk_at "sh_tac2")
  | fail)
theorem cmp_swap (p q : Rt) : cmpR q p = -cmpR p q := by
  unfold cmpR
  by_cases h : p.1 * q.2 = q.1 * p.2
  · rw [if_pos h, if_pos h.symm] <;> rfl
  · rw [if_neg h, if_neg (fun z => h z.symm)]
    by_cases h2 : p.1 * q.2 < q.1 * p.2
    · rw [if_pos h2, if_neg (by omega)] <;> rfl
    · rw [if_neg h2, if_pos (by omega)]
theorem cmp_self (p : Rt) : cmpR p p = 0 := if_pos rfl
section
variable (F : Fm) (X : XK) (P : DV → Prop) (N : DSt → Prop) (hP : P (DB true)) {p q : Rt} (hp : CP p) (hq : CP q)
include hP hp hq
theorem w24 {x0 x1 x2 x3 x4 x5 x6 x9 x10 x11 x12 x13 x14 x15 x16 : Option DV} : WS F X (law_24 F.K) [x0, x1, x2, x3, x4, x5, x6, some (.d (rt p)), some (.d (rt q)), x9, x10, x11, x12, x13, x14, x15, x16] X0 { nx := N, rt := P } := by
  have rp := cp_rb hp
  have rq := cp_rb hq
  unfold law_24
  walk_at "dl"
  all_goals first | exact hP | assumption
theorem w23 {x0 x1 x2 x3 x4 x5 x6 x9 x10 x11 x12 x13 x14 x16 : Option DV} : WS F X (law_23 F.K) [x0, x1, x2, x3, x4, x5, x6, some (.d (rt p)), some (.d (rt q)), x9, x10, x11, x12, x13, x14, some (DI (cmpR p q)), x16] X0 { nx := N, rt := P } := by
  have rp := cp_rb hp
  have rq := cp_rb hq
  unfold law_23
  have c1 := cmp_swap p q
  have c2 := cmp_self p
  walk_at "dl"
  all_goals first
    | exact w24 F X P N hP hp hq
    | assumption
    | (exfalso; simp_all; done)
    | trace_state
theorem w20 {x0 x1 x2 x3 x4 x5 x6 x9 x10 x11 x12 x13 x14 x15 x16 : Option DV} : WS F X (law_20 F.K) [x0, x1, x2, x3, x4, x5, x6, some (.d (rt p)), some (.d (rt q)), x9, x10, x11, x12, x13, x14, x15, x16] X0 { nx := N, rt := P } := by
  have rp := cp_rb hp
  have rq := cp_rb hq
  obtain ⟨p1, p2, p3⟩ := rp
  obtain ⟨q1, q2, q3⟩ := rq
  unfold law_20
  walk_at "dl"
  · unfold law_21
    walk_at "dl"
    unfold law_22
    walk_at "dl"
    · rename_i h1 h2
      have e : cmpR p q = 1 := (if_neg (by omega)).trans (if_neg (by omega))
      rw [← e]
      exact w23 F X P N hP hp hq
    · rename_i h1 h2
      have e : cmpR p q = -1 := (if_neg (by omega)).trans (if_pos (by omega))
      rw [← e]
      exact w23 F X P N hP hp hq
    · rename_i h1
      have e : cmpR p q = 0 := if_pos (by omega)
      rw [← e]
      exact w23 F X P N hP hp hq
  all_goals exact mul_ok (by assumption) (by assumption)
theorem w19 {x0 x1 x2 x3 x4 x5 x6 x9 x10 x11 x12 x13 x14 x15 x16 : Option DV} : WS F X (law_19 F.K) [x0, x1, x2, x3, x4, x5, x6, some (.d (rt p)), some (.d (rt q)), x9, x10, x11, x12, x13, x14, x15, x16] X0 { nx := N, rt := P } := by
  have rp := cp_rb hp
  have rq := cp_rb hq
  unfold law_19
  walk_at "dl"
  all_goals first
    | exact rp
    | exact rq
    | skip
  · rename_i h
    rw [if_pos h]
    walk_at "dl"
    exact w20 F X P N hP hp hq
  · rename_i h
    rw [if_neg h]
    walk_at "dl"
    exact w20 F X P N hP hp hq
  · rename_i h
    exact Int.mul_ne_zero (by have := hp.pos; omega) h
  · exact z4000 (z3001 (mul_lt rp.top rq.bot))
  · exact z4000 (z3001 (mul_lt rp.bot rq.top))
  · exact mul_ok rp.bot rq.top
  · exact mul_ok rp.top rq.bot
theorem w17 {n : Nat} (hn : n ≤ 5) {x0 x1 x2 x3 x4 x5 x6 x9 x13 x14 x15 x16 : Option DV} : WS F X (law_17 F.K) [x0, x1, x2, x3, x4, x5, x6, some (.d (rt p)), some (.d (rt q)), x9, some (.o [rt (plusR p q), rt (minusR p q), rt (timesR p q), .tuple [.int (-p.1), .int p.2], rt (pw p n)]), some (.o [rt (plusR p q), rt (minusR p q), rt (timesR p q), .tuple [.int (-p.1), .int p.2]]), some (.d (rt (pw p n))), x13, x14, x15, x16] X0 { nx := N, rt := P } := by
  unfold law_17
  walk_at "dl"
  dsimp only [List.set, List.cons_append, List.nil_append]
  unfold law_18
  refine ws_let (i := 10) rfl ?_
  refine ws_let (i := 11) rfl ?_
  dsimp only [List.set]
  walk_at "dl"
  refine ed_lc (tgOk_name (List.mem_singleton.mpr rfl)) (ed_var rfl ⟨_, .inl rfl, Nat.le_of_ble_eq_true rfl, fun _ => true, fun _ => .bool true, ?_, ea_nil ?_⟩)
  · intro x hx
    refine dg_name trivial (et_yes ⟨rfl, fun _ => ?_⟩)
    dsimp only [wipeD, List.set]
    have : ∃ r : Rt, x = rt r := by
      simp only [List.mem_cons, List.not_mem_nil, or_false] at hx
      rcases hx with rfl | rfl | rfl | rfl | rfl <;> exact ⟨(_, _), rfl⟩
    obtain ⟨r, rfl⟩ := this
    walk_at "dl"
  · refine dc_all (bs := [true, true, true, true, true]) ?_
    walk_at "dl"
    exact w19 F X P N hP hp hq
theorem w14 {n : Nat} (hn : n ≤ 5) {x0 x1 x2 x3 x4 x5 x11 x12 x13 x14 x15 x16 : Option DV} : WS F X (law_14 F.K) [x0, x1, x2, x3, x4, x5, some (DI n), some (.d (rt p)), some (.d (rt q)), some (.d (.tuple [.int (-q.1), .int q.2])), some (.o [rt (plusR p q), rt (minusR p q), rt (timesR p q), .tuple [.int (-p.1), .int p.2], rt (pw p n)]), x11, x12, x13, x14, x15, x16] X0 { nx := N, rt := P } := by
  have rp := cp_rb hp
  have rq := cp_rb hq
  unfold law_14
  walk_at "dl"
  · unfold law_15
    walk_at "dl"
    unfold law_16
    walk_at "dl"
    have e0 : rt (pw p 0) = .tuple [.int 1, .int 1] := by
      show rt (p.1 ^ 0, p.2 ^ 0) = _
      rw [Int.pow_zero, Int.pow_zero]
    have e1 : ∀ i, timesR (pw p i) p = pw p (i + 1) := fun i => by
      have := times_pw hp i 1
      rw [show pw p 1 = p by show (p.1 ^ 1, p.2 ^ 1) = p; rw [Int.pow_succ, Int.pow_succ, Int.pow_zero, Int.pow_zero, Int.one_mul, Int.one_mul]] at this
      exact this
    rw [← e0, Int.toNat_natCast]
    refine ⟨by omega, by omega, fun i δ' => ∃ z, δ' = [x0, x1, x2, x3, x4, x5, some (DI n), some (.d (rt p)), some (.d (rt q)), some (.d (.tuple [.int (-q.1), .int q.2])), some (.o [rt (plusR p q), rt (minusR p q), rt (timesR p q), .tuple [.int (-p.1), .int p.2], rt (pw p n)]), some (.o [rt (plusR p q), rt (minusR p q), rt (timesR p q), .tuple [.int (-p.1), .int p.2]]), some (.d (rt (pw p i))), z, x14, x15, x16], ⟨_, rfl⟩, ?_, ?_⟩
    · rintro i δ' hi ⟨z, rfl⟩
      refine dg_name trivial ?_
      dsimp only [List.set]
      walk_at "dl"
      · rw [e1]
        exact ⟨_, rfl⟩
      · exact pw_rb hp (by omega)
      · exact rp
    · rintro δ' ⟨z, rfl⟩
      exact w17 F X P N hP hp hq hn
  all_goals first
    | exact rp
    | exact rq
theorem w11 (hone : ∀ G, Dp F.K G (.ref (He.ga F.K "ONE")) (.tuple [.int 1, .int 1])) {n : Nat} (hn : n ≤ 5) {x0 x1 x2 x3 x4 x5 x9 x10 x11 x12 x13 x14 x15 x16 : Option DV} : WS F X (law_11 F.K) [x0, x1, x2, x3, x4, x5, some (DI n), some (.d (rt p)), some (.d (rt q)), x9, x10, x11, x12, x13, x14, x15, x16] X0 { nx := N, rt := P } := by
  have rp := cp_rb hp
  have rq := cp_rb hq
  unfold law_11
  walk_at "dl"
  unfold law_12
  walk_at "dl"
  all_goals first
    | exact rp
    | exact rq
    | skip
  unfold law_13
  walk_at "dl"
  all_goals first
    | exact hp
    | exact hn
    | skip
  exact w14 F X P N hP hp hq hn
end
section
variable (F : Fm) (X : XK) (P : DV → Prop) (N : DSt → Prop) (hP : P (DB true)) (hone : ∀ G, Dp F.K G (.ref (He.ga F.K "ONE")) (.tuple [.int 1, .int 1])) (hzero : ∀ G, Dp F.K G (.ref (He.ga F.K "ZERO")) (.tuple [.int 0, .int 1]))
include hP hone hzero
theorem w7 {a b c d : Int} (ha : a.natAbs < 2 ^ 100) (hb : b.natAbs < 2 ^ 100) (hc : c.natAbs < 2 ^ 100) (hd : d.natAbs < 2 ^ 100) {n : Nat} (hn : n ≤ 5) {x0 x1 x7 x8 x9 x10 x11 x12 x13 x14 x15 x16 : Option DV} : WS F X (law_7 F.K) [x0, x1, some (DI a), some (DI b), some (DI c), some (DI d), some (DI n), x7, x8, x9, x10, x11, x12, x13, x14, x15, x16] X0 { nx := N, rt := P } := by
  unfold law_7
  walk_at "dl"
  all_goals first
    | exact ha
    | exact hb
    | exact hc
    | exact hd
    | skip
  unfold law_8
  walk_at "dl"
  unfold law_9
  walk_at "dl"
  all_goals first
    | exact nz_ne b
    | exact z100 ha
    | exact z100 (nz_lt hb)
    | skip
  unfold law_10
  walk_at "dl"
  all_goals first
    | exact nz_ne d
    | exact z100 hc
    | exact z100 (nz_lt hd)
    | skip
  exact w11 F X P N hP (mk_cp (nz_ne b) ha (nz_lt hb)) (mk_cp (nz_ne d) hc (nz_lt hd)) hone hn
end
def sp_law (K : PySem.W.Frag) : Sp := fun vs H Q _ => ∃ (a : Addr) (ns : List Int), vs = [.ref a] ∧ SqL K H a (ns.map V.int) ∧ ns.length ≤ 1000 ∧ ∀ H', Q (.bl true) H'
theorem law_hand (K : PySem.W.Frag) (hone : ∀ G, Dp K G (.ref (He.ga K "ONE")) (.tuple [.int 1, .int 1])) (hzero : ∀ G, Dp K G (.ref (He.ga K "ZERO")) (.tuple [.int 0, .int 1])) (X : XK) (P : DV → Prop) (N : DSt → Prop) (hP : P (DB true)) (H0 : Hp) (h : Hd) (a0 : H0 h.ph ≠ none) (b0 : H0 h.l0 ≠ none) {x0 : Option DV} :
    WS (FH K H0 h a0 b0) X (law_2 K) [x0, some (.v (.ref h.ph)), none, none, none, none, none, none, none, none, none, none, none, none, none, none, none] X0 { nx := N, rt := P } := by
  unfold law_2
  walk_at "dl"
  unfold law_3
  walk_at "dl"
  unfold law_4
  walk_at "dl"
  unfold law_5
  walk_at "dl"
  unfold law_6
  walk_at "dl"
  · rename_i a ha b hb c hc d hd n h0 h1
    obtain ⟨n', rfl⟩ : ∃ m : Nat, n = m := ⟨n.toNat, by omega⟩
    exact w7 (FH K H0 h a0 b0) X P N hP hone hzero ha hb hc hd (by omega)
  · decide
  · decide
theorem pure_law (K : PySem.W.Frag) (hone : ∀ G, Dp K G (.ref (He.ga K "ONE")) (.tuple [.int 1, .int 1])) (hzero : ∀ G, Dp K G (.ref (He.ga K "ZERO")) (.tuple [.int 0, .int 1])) (vs : List V) (H : Hp) (Q : VK) (E : XK) (hs : sp_law K vs H Q E) :
    law_1 K { nx := fun _ H' => Q .non H', rt := Q } (L2.start ["_law_script", "_law_hand", "_law_a", "_law_b", "_law_c", "_law_d", "_law_power", "_law_one", "_law_other", "_law_less", "_law_found", "_law_due", "_law_whole", "_law_step", "_law_gap", "_law_order", "_law_item"] vs) H := by
  obtain ⟨a, ns, rfl, hq, hl, q⟩ := hs
  show law_1 K _ [some (.ref a), none, none, none, none, none, none, none, none, none, none, none, none, none, none, none, none] H
  unfold law_1
  refine rw_seq (rw_asg (rw_call (rw_cons (rw_var rfl (rw_nil ?_)))))
  refine ⟨a, ns, rfl, hq, hl, fun h H' e h1 h2 k => ?_⟩
  refine rw_name ?_
  have a0 : H' h.ph ≠ none := by
    obtain ⟨p, q, r, s, e, _⟩ := k.ex
    rw [e]
    exact fun z => by cases z
  have b0 : H' h.l0 ≠ none := by
    rw [k.l]
    exact fun z => by cases z
  have g0 : Evl.Ex (fun _ => none) (Rs (FH K H' h a0 b0).S H') := fun _ _ z => by cases z
  have iv : (FH K H' h a0 b0).I H' := ⟨fun _ z => z, k⟩
  refine law_hand K hone hzero E (fun z => z = DB true) (fun _ => False) rfl H' h a0 b0 (x0 := some (.v (.ref a))) ⟨fun _ => none, H', fun _ => none⟩ _ H' (fun _ => none) _ ⟨fun _ z => z, ⟨Stp.refl iv g0, Evl.Ex.refl _⟩, ?_, fun _ _ _ _ _ z => z.elim⟩ ?_
  · exact sl_start (F := FH K H' h a0 b0) (N := ["_law_script", "_law_hand", "_law_a", "_law_b", "_law_c", "_law_d", "_law_power", "_law_one", "_law_other", "_law_less", "_law_found", "_law_due", "_law_whole", "_law_step", "_law_gap", "_law_order", "_law_item"]) (us := [.ref a, .ref h.ph]) (ds := [.v (.ref a), .v (.ref h.ph)]) (m := 15) ⟨rfl, rfl, trivial⟩ (plains_v (plains_v plains_nil)) rfl
  · refine ⟨fun _ _ _ _ _ _ z => z.elim, fun u x H' G' r' rv e => ?_, fun _ _ _ _ _ _ z => z.elim, fun _ _ _ _ _ _ z => z.elim⟩
    subst e
    cases rv.dp
    exact q H'
end NF

namespace A01
open PySem PySem.Spec PyProof.Rows L2 DL DLH NF
def clsB : Stmt → List Stmt
  | .ClassDef (body := b) .. => b
  | _ => []
def top (i : Nat) : Stmt := PySem.Challenge.pw_neverfactored_k01_whole_ratios_reckoned.main.body.getD i (.Pass ⟨0, 0, 0, 0⟩)
abbrev s_power_by : Stmt := top 6
abbrev s_is_whole : Stmt := top 10
abbrev s_is_ratio : Stmt := top 11
abbrev s_make_ratio : Stmt := top 12
abbrev s_lowest_terms : Stmt := top 13
abbrev s_ratio_plus : Stmt := top 14
abbrev s_ratio_minus : Stmt := top 15
abbrev s_ratio_times : Stmt := top 16
abbrev s_ratio_over : Stmt := top 17
abbrev s_ratio_negative : Stmt := top 18
abbrev s_ratio_power : Stmt := top 19
abbrev s_ratio_compare : Stmt := top 20
abbrev s_ratio_text : Stmt := top 21
abbrev s__law_start : Stmt := top 23
abbrev s__law_mixed : Stmt := top 24
abbrev s__law_draw : Stmt := top 25
abbrev s__law_gcd : Stmt := top 26
abbrev s__law_ratio : Stmt := top 27
abbrev s__law_plus : Stmt := top 28
abbrev s__law_times : Stmt := top 29
abbrev s__law_is_ratio : Stmt := top 30
abbrev s__law_told : Stmt := top 31
abbrev s__law_number : Stmt := top 32
abbrev s__law_made : Stmt := top 33
abbrev s__law_divided : Stmt := top 34
abbrev s__law_text : Stmt := top 35
abbrev s__law_made_rightly : Stmt := top 36
abbrev s__law_odd_rightly : Stmt := top 37
abbrev s__law_whole_rightly : Stmt := top 38
abbrev s_law : Stmt := top 39
abbrev s_i_BadRatio : Stmt := (clsB (top 3)).getD 0 (.Pass ⟨0, 0, 0, 0⟩)
abbrev N_power_by : List Str := ["times", "unit", "base", "power", "found", "square"]
theorem sc_power_by : FnScope N_power_by ["times", "unit", "base", "power"] (defScope s_power_by) := ⟨rfl, rfl, rfl, by decide +kernel, rfl, by decide +kernel, by decide +kernel⟩
abbrev N_is_whole : List Str := ["thing", "low", "high"]
theorem sc_is_whole : FnScope N_is_whole ["thing", "low", "high"] (defScope s_is_whole) := ⟨rfl, rfl, rfl, by decide +kernel, rfl, by decide +kernel, by decide +kernel⟩
abbrev N_is_ratio : List Str := ["thing", "top", "bottom"]
theorem sc_is_ratio : FnScope N_is_ratio ["thing"] (defScope s_is_ratio) := ⟨rfl, rfl, rfl, by decide +kernel, rfl, by decide +kernel, by decide +kernel⟩
abbrev N_make_ratio : List Str := ["top", "bottom"]
theorem sc_make_ratio : FnScope N_make_ratio ["top", "bottom"] (defScope s_make_ratio) := ⟨rfl, rfl, rfl, by decide +kernel, rfl, by decide +kernel, by decide +kernel⟩
abbrev N_lowest_terms : List Str := ["top", "bottom", "shared"]
theorem sc_lowest_terms : FnScope N_lowest_terms ["top", "bottom"] (defScope s_lowest_terms) := ⟨rfl, rfl, rfl, by decide +kernel, rfl, by decide +kernel, by decide +kernel⟩
abbrev N_ratio_plus : List Str := ["one", "other"]
theorem sc_ratio_plus : FnScope N_ratio_plus ["one", "other"] (defScope s_ratio_plus) := ⟨rfl, rfl, rfl, by decide +kernel, rfl, by decide +kernel, by decide +kernel⟩
abbrev N_ratio_minus : List Str := ["one", "other"]
theorem sc_ratio_minus : FnScope N_ratio_minus ["one", "other"] (defScope s_ratio_minus) := ⟨rfl, rfl, rfl, by decide +kernel, rfl, by decide +kernel, by decide +kernel⟩
abbrev N_ratio_times : List Str := ["one", "other"]
theorem sc_ratio_times : FnScope N_ratio_times ["one", "other"] (defScope s_ratio_times) := ⟨rfl, rfl, rfl, by decide +kernel, rfl, by decide +kernel, by decide +kernel⟩
abbrev N_ratio_over : List Str := ["one", "other"]
theorem sc_ratio_over : FnScope N_ratio_over ["one", "other"] (defScope s_ratio_over) := ⟨rfl, rfl, rfl, by decide +kernel, rfl, by decide +kernel, by decide +kernel⟩
abbrev N_ratio_negative : List Str := ["one"]
theorem sc_ratio_negative : FnScope N_ratio_negative ["one"] (defScope s_ratio_negative) := ⟨rfl, rfl, rfl, by decide +kernel, rfl, by decide +kernel, by decide +kernel⟩
abbrev N_ratio_power : List Str := ["one", "power"]
theorem sc_ratio_power : FnScope N_ratio_power ["one", "power"] (defScope s_ratio_power) := ⟨rfl, rfl, rfl, by decide +kernel, rfl, by decide +kernel, by decide +kernel⟩
abbrev N_ratio_compare : List Str := ["one", "other", "left", "right"]
theorem sc_ratio_compare : FnScope N_ratio_compare ["one", "other"] (defScope s_ratio_compare) := ⟨rfl, rfl, rfl, by decide +kernel, rfl, by decide +kernel, by decide +kernel⟩
abbrev N_ratio_text : List Str := ["one", "top", "bottom"]
theorem sc_ratio_text : FnScope N_ratio_text ["one"] (defScope s_ratio_text) := ⟨rfl, rfl, rfl, by decide +kernel, rfl, by decide +kernel, by decide +kernel⟩
abbrev N__law_start : List Str := ["_law_script", "_law_total", "_law_cell"]
theorem sc__law_start : FnScope N__law_start ["_law_script"] (defScope s__law_start) := ⟨rfl, rfl, rfl, by decide +kernel, rfl, by decide +kernel, by decide +kernel⟩
abbrev N__law_mixed : List Str := ["_law_number_here", "_law_turn", "_law_here", "_law_there"]
theorem sc__law_mixed : FnScope N__law_mixed ["_law_number_here", "_law_turn"] (defScope s__law_mixed) := ⟨rfl, rfl, rfl, by decide +kernel, rfl, by decide +kernel, by decide +kernel⟩
abbrev N__law_draw : List Str := ["_law_hand", "_law_many", "_law_cell", "_law_digit"]
theorem sc__law_draw : FnScope N__law_draw ["_law_hand", "_law_many"] (defScope s__law_draw) := ⟨rfl, rfl, rfl, by decide +kernel, rfl, by decide +kernel, by decide +kernel⟩
abbrev N__law_gcd : List Str := ["_law_a", "_law_b", "_law_step"]
theorem sc__law_gcd : FnScope N__law_gcd ["_law_a", "_law_b"] (defScope s__law_gcd) := ⟨rfl, rfl, rfl, by decide +kernel, rfl, by decide +kernel, by decide +kernel⟩
abbrev N__law_ratio : List Str := ["_law_top", "_law_bottom", "_law_part"]
theorem sc__law_ratio : FnScope N__law_ratio ["_law_top", "_law_bottom"] (defScope s__law_ratio) := ⟨rfl, rfl, rfl, by decide +kernel, rfl, by decide +kernel, by decide +kernel⟩
abbrev N__law_plus : List Str := ["_law_a", "_law_b"]
theorem sc__law_plus : FnScope N__law_plus ["_law_a", "_law_b"] (defScope s__law_plus) := ⟨rfl, rfl, rfl, by decide +kernel, rfl, by decide +kernel, by decide +kernel⟩
abbrev N__law_times : List Str := ["_law_a", "_law_b"]
theorem sc__law_times : FnScope N__law_times ["_law_a", "_law_b"] (defScope s__law_times) := ⟨rfl, rfl, rfl, by decide +kernel, rfl, by decide +kernel, by decide +kernel⟩
abbrev N__law_is_ratio : List Str := ["_law_thing", "_law_item"]
theorem sc__law_is_ratio : FnScope N__law_is_ratio ["_law_thing"] (defScope s__law_is_ratio) := ⟨rfl, rfl, rfl, by decide +kernel, rfl, by decide +kernel, by decide +kernel⟩
abbrev N__law_told : List Str := ["_law_found", "_law_due"]
theorem sc__law_told : FnScope N__law_told ["_law_found", "_law_due"] (defScope s__law_told) := ⟨rfl, rfl, rfl, by decide +kernel, rfl, by decide +kernel, by decide +kernel⟩
abbrev N__law_number : List Str := ["_law_hand", "_law_pick", "_law_sign"]
theorem sc__law_number : FnScope N__law_number ["_law_hand"] (defScope s__law_number) := ⟨rfl, rfl, rfl, by decide +kernel, rfl, by decide +kernel, by decide +kernel⟩
abbrev N__law_made : List Str := ["_law_top", "_law_bottom", "e"]
theorem sc__law_made : FnScope N__law_made ["_law_top", "_law_bottom"] (defScope s__law_made) := ⟨rfl, rfl, rfl, by decide +kernel, rfl, by decide +kernel, by decide +kernel⟩
abbrev N__law_divided : List Str := ["_law_one", "_law_other"]
theorem sc__law_divided : FnScope N__law_divided ["_law_one", "_law_other"] (defScope s__law_divided) := ⟨rfl, rfl, rfl, by decide +kernel, rfl, by decide +kernel, by decide +kernel⟩
abbrev N__law_text : List Str := ["_law_one"]
theorem sc__law_text : FnScope N__law_text ["_law_one"] (defScope s__law_text) := ⟨rfl, rfl, rfl, by decide +kernel, rfl, by decide +kernel, by decide +kernel⟩
abbrev N__law_made_rightly : List Str := ["_law_a", "_law_b", "_law_found"]
theorem sc__law_made_rightly : FnScope N__law_made_rightly ["_law_a", "_law_b"] (defScope s__law_made_rightly) := ⟨rfl, rfl, rfl, by decide +kernel, rfl, by decide +kernel, by decide +kernel⟩
abbrev N__law_odd_rightly : List Str := ["_law_a", "_law_b", "_law_odd", "_law_thing", "_law_good"]
theorem sc__law_odd_rightly : FnScope N__law_odd_rightly ["_law_a", "_law_b"] (defScope s__law_odd_rightly) := ⟨rfl, rfl, rfl, by decide +kernel, rfl, by decide +kernel, by decide +kernel⟩
abbrev N__law_whole_rightly : List Str := ["_law_a", "_law_low", "_law_high"]
theorem sc__law_whole_rightly : FnScope N__law_whole_rightly ["_law_a", "_law_low", "_law_high"] (defScope s__law_whole_rightly) := ⟨rfl, rfl, rfl, by decide +kernel, rfl, by decide +kernel, by decide +kernel⟩
abbrev N_law : List Str := ["_law_script", "_law_hand", "_law_a", "_law_b", "_law_c", "_law_d", "_law_power", "_law_one", "_law_other", "_law_less", "_law_found", "_law_due", "_law_whole", "_law_step", "_law_gap", "_law_order", "_law_item"]
theorem sc_law : FnScope N_law ["_law_script"] (defScope s_law) := ⟨rfl, rfl, rfl, by decide +kernel, rfl, by decide +kernel, by decide +kernel⟩
theorem sc_i_BadRatio : FnScope ["self", "what"] ["self", "what"] (defScope s_i_BadRatio) := ⟨rfl, rfl, rfl, by decide +kernel, rfl, by decide +kernel, by decide +kernel⟩
structure Txt (K : PySem.W.Frag) (mg : Str → Option Value) : Prop where
  n_abs : mg "abs" = none
  n_all : mg "all" = none
  n_bool : mg "bool" = none
  n_int : mg "int" = none
  n_isinstance : mg "isinstance" = none
  n_len : mg "len" = none
  n_range : mg "range" = none
  n_str : mg "str" = none
  n_tuple : mg "tuple" = none
  b_gcd : mg "gcd" = some (.builtin "math.gcd")
  g_BadRatio : mg "BadRatio" = some (.ref (He.ga K "BadRatio"))
  g_DividedByNought : mg "DividedByNought" = some (.ref (He.ga K "DividedByNought"))
  g_ONE : mg "ONE" = some (.ref (He.ga K "ONE"))
  g_ZERO : mg "ZERO" = some (.ref (He.ga K "ZERO"))
  g__law_divided : mg "_law_divided" = some (.ref (He.ga K "_law_divided"))
  g__law_draw : mg "_law_draw" = some (.ref (He.ga K "_law_draw"))
  g__law_gcd : mg "_law_gcd" = some (.ref (He.ga K "_law_gcd"))
  g__law_is_ratio : mg "_law_is_ratio" = some (.ref (He.ga K "_law_is_ratio"))
  g__law_made : mg "_law_made" = some (.ref (He.ga K "_law_made"))
  g__law_made_rightly : mg "_law_made_rightly" = some (.ref (He.ga K "_law_made_rightly"))
  g__law_mixed : mg "_law_mixed" = some (.ref (He.ga K "_law_mixed"))
  g__law_number : mg "_law_number" = some (.ref (He.ga K "_law_number"))
  g__law_odd_rightly : mg "_law_odd_rightly" = some (.ref (He.ga K "_law_odd_rightly"))
  g__law_plus : mg "_law_plus" = some (.ref (He.ga K "_law_plus"))
  g__law_ratio : mg "_law_ratio" = some (.ref (He.ga K "_law_ratio"))
  g__law_start : mg "_law_start" = some (.ref (He.ga K "_law_start"))
  g__law_text : mg "_law_text" = some (.ref (He.ga K "_law_text"))
  g__law_times : mg "_law_times" = some (.ref (He.ga K "_law_times"))
  g__law_told : mg "_law_told" = some (.ref (He.ga K "_law_told"))
  g__law_whole_rightly : mg "_law_whole_rightly" = some (.ref (He.ga K "_law_whole_rightly"))
  g_is_ratio : mg "is_ratio" = some (.ref (He.ga K "is_ratio"))
  g_is_whole : mg "is_whole" = some (.ref (He.ga K "is_whole"))
  g_law : mg "law" = some (.ref (He.ga K "law"))
  g_lowest_terms : mg "lowest_terms" = some (.ref (He.ga K "lowest_terms"))
  g_make_ratio : mg "make_ratio" = some (.ref (He.ga K "make_ratio"))
  g_power_by : mg "power_by" = some (.ref (He.ga K "power_by"))
  g_ratio_compare : mg "ratio_compare" = some (.ref (He.ga K "ratio_compare"))
  g_ratio_minus : mg "ratio_minus" = some (.ref (He.ga K "ratio_minus"))
  g_ratio_negative : mg "ratio_negative" = some (.ref (He.ga K "ratio_negative"))
  g_ratio_over : mg "ratio_over" = some (.ref (He.ga K "ratio_over"))
  g_ratio_plus : mg "ratio_plus" = some (.ref (He.ga K "ratio_plus"))
  g_ratio_power : mg "ratio_power" = some (.ref (He.ga K "ratio_power"))
  g_ratio_text : mg "ratio_text" = some (.ref (He.ga K "ratio_text"))
  g_ratio_times : mg "ratio_times" = some (.ref (He.ga K "ratio_times"))
  e_DividedByNought : (He.Fa.exc "DividedByNought").ok K = true
  o_BadRatio : OexC K (He.ga K "BadRatio")
  ini_BadRatio : PySem.W.findIn K (.ref (He.ga K "BadRatio")) "__init__" = some (some (.ref (He.ma K (He.ga K "BadRatio") "__init__")))
  ty_BadRatio : PySem.W.typeIn K (.ref (He.ma K (He.ga K "BadRatio") "__init__")) = some (.type "function")
  nf_BadRatio_what : PySem.W.findIn K (.ref (He.ga K "BadRatio")) "what" = some none
  xf_BadRatio : XfC K (He.ga K "BadRatio")
  em_BadRatio : PySem.W.exmOne K (.ref (He.ga K "BadRatio")) (.ref (He.ga K "BadRatio")) = some true
  em_DividedByNought : PySem.W.exmOne K (.ref (He.ga K "DividedByNought")) (.ref (He.ga K "DividedByNought")) = some true
  t_ZERO : ∀ G, Dp K G (.ref (He.ga K "ZERO")) (.tuple [.int 0, .int 1])
  t_ONE : ∀ G, Dp K G (.ref (He.ga K "ONE")) (.tuple [.int 1, .int 1])
  hd_ : True
section
variable {K : PySem.W.Frag} {mg : Str → Option Value} (T : Txt K mg)
include T
theorem Txt.x_DividedByNought : PySem.W.excIn K (He.ga K "DividedByNought") He.veBase "ValueError.__new__" = true := (He.exc_ok T.e_DividedByNought).1
theorem Txt.k_DividedByNought : PySem.W.keepIn K (.ref (He.ga K "DividedByNought")) = true := (He.exc_ok T.e_DividedByNought).2.1
theorem Txt.r_DividedByNought {X : Cx} (e : X.K = K := by rfl) : Raises X (.ref (He.ga K "DividedByNought")) := raises_own (by rw [e]; exact (He.exc_ok T.e_DividedByNought).2.2.1) (by rw [e]; exact (He.exc_ok T.e_DividedByNought).2.2.2)
end
structure Defs (K : PySem.W.Frag) : Prop where
  d_power_by : ∃ fd, DLH.FnP K "power_by" s_power_by [] fd
  d_is_whole : ∃ fd, DLH.FnP K "is_whole" s_is_whole [.non, .non] fd
  d_is_ratio : ∃ fd, DLH.FnP K "is_ratio" s_is_ratio [] fd
  d_make_ratio : ∃ fd, DLH.FnP K "make_ratio" s_make_ratio [.int 1] fd
  d_lowest_terms : ∃ fd, DLH.FnP K "lowest_terms" s_lowest_terms [] fd
  d_ratio_plus : ∃ fd, DLH.FnP K "ratio_plus" s_ratio_plus [] fd
  d_ratio_minus : ∃ fd, DLH.FnP K "ratio_minus" s_ratio_minus [] fd
  d_ratio_times : ∃ fd, DLH.FnP K "ratio_times" s_ratio_times [] fd
  d_ratio_over : ∃ fd, DLH.FnP K "ratio_over" s_ratio_over [] fd
  d_ratio_negative : ∃ fd, DLH.FnP K "ratio_negative" s_ratio_negative [] fd
  d_ratio_power : ∃ fd, DLH.FnP K "ratio_power" s_ratio_power [] fd
  d_ratio_compare : ∃ fd, DLH.FnP K "ratio_compare" s_ratio_compare [] fd
  d_ratio_text : ∃ fd, DLH.FnP K "ratio_text" s_ratio_text [] fd
  d__law_start : ∃ fd, DLH.FnP K "_law_start" s__law_start [] fd
  d__law_mixed : ∃ fd, DLH.FnP K "_law_mixed" s__law_mixed [] fd
  d__law_draw : ∃ fd, DLH.FnP K "_law_draw" s__law_draw [] fd
  d__law_gcd : ∃ fd, DLH.FnP K "_law_gcd" s__law_gcd [] fd
  d__law_ratio : ∃ fd, DLH.FnP K "_law_ratio" s__law_ratio [] fd
  d__law_plus : ∃ fd, DLH.FnP K "_law_plus" s__law_plus [] fd
  d__law_times : ∃ fd, DLH.FnP K "_law_times" s__law_times [] fd
  d__law_is_ratio : ∃ fd, DLH.FnP K "_law_is_ratio" s__law_is_ratio [] fd
  d__law_told : ∃ fd, DLH.FnP K "_law_told" s__law_told [] fd
  d__law_number : ∃ fd, DLH.FnP K "_law_number" s__law_number [] fd
  d__law_made : ∃ fd, DLH.FnP K "_law_made" s__law_made [] fd
  d__law_divided : ∃ fd, DLH.FnP K "_law_divided" s__law_divided [] fd
  d__law_text : ∃ fd, DLH.FnP K "_law_text" s__law_text [] fd
  d__law_made_rightly : ∃ fd, DLH.FnP K "_law_made_rightly" s__law_made_rightly [] fd
  d__law_odd_rightly : ∃ fd, DLH.FnP K "_law_odd_rightly" s__law_odd_rightly [] fd
  d__law_whole_rightly : ∃ fd, DLH.FnP K "_law_whole_rightly" s__law_whole_rightly [] fd
  d_law : ∃ fd, DLH.FnP K "law" s_law [] fd
  d_i_BadRatio : ∃ fd, FunD K "__init__" "BadRatio.__init__" (defArgs s_i_BadRatio) (defBody s_i_BadRatio) (defScope s_i_BadRatio) [] [] (He.ma K (He.ga K "BadRatio") "__init__") fd
section
variable {P : Program} {w : World} {K : PySem.W.Frag} {mg : Str → Option Value} {base : Heap} (T : Txt K mg) (D : Defs K)
include T D
theorem r_BadRatio : FnI P w K mg base 1 "BadRatio" ["what"] := by
  obtain ⟨fd, F⟩ := D.d_i_BadRatio
  refine ⟨T.o_BadRatio, T.ini_BadRatio, T.ty_BadRatio, T.g_BadRatio, fd, ?_, F.bindsN (fun _ _ _ _ _ _ us hl => match us, hl with | [_, _], _ => rfl)⟩
  refine F.ok sc_i_BadRatio (fun vs H Q E h => ?_) (fun cdv A outer s H vs Q E hr h => ⟨tOst K "what" (tVar 0) (tVar 1), PSs.nox (pss_one (ps_ost (pv 0) (pv 1))), ?_⟩)
  · obtain ⟨a, ys, rfl, l, _⟩ := h
    show ys.length + 1 = _
    rw [l] <;> rfl
  · exact init_ok1 T.o_BadRatio T.nf_BadRatio_what h
theorem ok_is_whole {fd : FuncData} (F : DLH.FnP K "is_whole" s_is_whole [.non, .non] fd) : FnOk P w K mg base CX0 1 (He.ga K "is_whole") fd ["thing", "low", "high"] (sp_is_whole K) := by
  refine DLH.FunD.ok0 (t := t_is_whole K) F sc_is_whole rfl (fun cdv A outer s H E hr => by exact (pss_cons (ps_if (PW.pt (pw_or (pt_not (pt_val (pe_callB call_isi (by rfl) T.n_isinstance (by decide +kernel) (pa_cons (pv 0) (pa_cons (pe_bltn (v := .ty "int") (by rfl) T.n_int (by decide +kernel) rfl) pa_nil))))) (pw_or1 (pt_val (pe_callB call_isi (by rfl) T.n_isinstance (by decide +kernel) (pa_cons (pv 0) (pa_cons (pe_bltn (v := .ty "bool") (by rfl) T.n_bool (by decide +kernel) rfl) pa_nil))))))) (pss_one (ps_ret pe_bl)) pss_nil) (pss_one (ps_ret (pe_and (pe_or (pe_cmpR op_isU (pv 1) pe_non (nomark _)) (pe_one (pe_cmpR op_ge (pv 0) (pv 1) (nomark _)))) (pe_one (pe_or (pe_cmpR op_isU (pv 2) pe_non (nomark _)) (pe_one (pe_cmpR op_le (pv 0) (pv 2) (nomark _)))))))))) (fun vs H Q E h => pure_T (m := 0) h rfl fun Fm ds Xp P e l pl ht => ?_)
  subst e
  exact w_is_whole Fm E ds Xp P ht
theorem r_is_whole_2 : FnR P w K mg base CX0 1 "is_whole" ["thing", "low", "high"] [.non] (sp_is_whole K) := by
  obtain ⟨fd, F⟩ := D.d_is_whole
  obtain ⟨ds, v, b⟩ := F.binds1 (ps := ["thing", "low", "high"]) 2 1 (by decide) (by decide) (fun T kV doc pm an cdv ct us its h1 h2 => match us, its, h1, h2 with | [_, _], [_, _], _, _ => ⟨_, rfl, rfl⟩)
  exact ⟨⟨fd, ds, ok_is_whole T D F, v, b⟩, T.g_is_whole, F.kp⟩
theorem r_is_whole_1 : FnR P w K mg base CX0 1 "is_whole" ["thing", "low", "high"] [.non, .non] (sp_is_whole K) := by
  obtain ⟨fd, F⟩ := D.d_is_whole
  obtain ⟨ds, v, b⟩ := F.binds1 (ps := ["thing", "low", "high"]) 1 0 (by decide) (by decide) (fun T kV doc pm an cdv ct us its h1 h2 => match us, its, h1, h2 with | [_], [_, _], _, _ => ⟨_, rfl, rfl⟩)
  exact ⟨⟨fd, ds, ok_is_whole T D F, v, b⟩, T.g_is_whole, F.kp⟩
theorem r_is_whole : FnR P w K mg base CX0 1 "is_whole" ["thing", "low", "high"] [] (sp_is_whole K) := by
  obtain ⟨fd, F⟩ := D.d_is_whole
  obtain ⟨ds, v, b⟩ := F.binds1 (ps := ["thing", "low", "high"]) 3 2 (by decide) (by decide) (fun T kV doc pm an cdv ct us its h1 h2 => match us, its, h1, h2 with | [_, _, _], [_, _], _, _ => ⟨_, rfl, rfl⟩)
  exact ⟨⟨fd, ds, ok_is_whole T D F, v, b⟩, T.g_is_whole, F.kp⟩
theorem r_is_whole_kLH : FnN P w K mg base CX0 1 "is_whole" ["thing", "low", "high"] 1 ["low", "high"] (fun vs zs => vs ++ zs) (sp_is_whole K) := by
  obtain ⟨fd, F⟩ := D.d_is_whole
  obtain ⟨its, b⟩ := kbinds1 (ps := ["thing", "low", "high"]) F 1 ["low", "high"] (fun {_} vs ds zs => vs ++ zs) (by decide) (fun r1 _ r3 => r1.append r3) (fun T kV doc pm an cdv ct us its ws h1 h2 h3 => match us, its, ws, h1, h2, h3 with | [_], [_, _], [_, _], _, _, _ => ⟨_, rfl, rfl⟩)
  exact ⟨⟨fd, _, ok_is_whole T D F, b⟩, T.g_is_whole, F.kp⟩
theorem r_is_whole_kH : FnN P w K mg base CX0 1 "is_whole" ["thing", "low", "high"] 1 ["high"] (fun vs zs => vs ++ (V.non :: zs)) (sp_is_whole K) := by
  obtain ⟨fd, F⟩ := D.d_is_whole
  obtain ⟨its, b⟩ := kbinds1 (ps := ["thing", "low", "high"]) F 1 ["high"] (fun {_} vs ds zs => vs ++ (ds.take 1 ++ zs)) (by decide) (fun r1 r2 r3 => r1.append ((r2.take 1).append r3)) (fun T kV doc pm an cdv ct us its ws h1 h2 h3 => match us, its, ws, h1, h2, h3 with | [_], [_, _], [_], _, _, _ => ⟨_, rfl, rfl⟩)
  exact ⟨⟨fd, _, ok_is_whole T D F, b⟩, T.g_is_whole, F.kp⟩
theorem ok_lowest_terms {fd : FuncData} (F : DLH.FnP K "lowest_terms" s_lowest_terms [] fd) : FnOk P w K mg base CX0 1 (He.ga K "lowest_terms") fd ["top", "bottom"] (sp_lowest_terms K) := by
  refine DLH.FunD.ok0 (t := t_lowest_terms K) F sc_lowest_terms rfl (fun cdv A outer s H E hr => by exact (pss_cons (ps_set (i := 2) sc_lowest_terms.nd rfl (Or.inl rfl) (pe_callBfun cr_gcd (by rfl) T.b_gcd (pa_cons (pv 0) (pa_cons (pv 1) pa_nil)))) (pss_cons (ps_if (pt_cmpR (op_eqD hr.units) (pv 2) pe_int (nomark _)) (pss_one (ps_ret (pe_tup (pa_cons (pv 0) (pa_cons (pv 1) pa_nil))))) pss_nil) (pss_one (ps_ret (pe_tup (pa_cons (pe_op op_divU (pv 0) (pv 2)) (pa_cons (pe_op op_divU (pv 1) (pv 2)) pa_nil)))))))) (fun vs H Q E h => pure_T (m := 1) h rfl fun Fm ds Xp P e l pl ht => ?_)
  subst e
  exact w_lowest_terms Fm E ds Xp P ht
theorem r_lowest_terms : FnR P w K mg base CX0 1 "lowest_terms" ["top", "bottom"] [] (sp_lowest_terms K) := by
  obtain ⟨fd, F⟩ := D.d_lowest_terms
  exact ⟨⟨fd, [], ok_lowest_terms T D F, .nil, F.bindsN (fun _ _ _ _ _ _ us hl => match us, hl with | [_, _], _ => rfl)⟩, T.g_lowest_terms, F.kp⟩
theorem ok_ratio_negative {fd : FuncData} (F : DLH.FnP K "ratio_negative" s_ratio_negative [] fd) : FnOk P w K mg base CX0 1 (He.ga K "ratio_negative") fd ["one"] (sp_ratio_negative K) := by
  refine DLH.FunD.ok0 (t := t_ratio_negative K) F sc_ratio_negative rfl (fun cdv A outer s H E hr => by exact (pss_one (ps_ret (pe_tup (pa_cons (pe_un un_neg (pe_ix ix_seq (pv 0) pe_int (fun _ _ => rfl))) (pa_cons (pe_ix ix_seq (pv 0) pe_int (fun _ _ => rfl)) pa_nil)))))) (fun vs H Q E h => pure_T (m := 0) h rfl fun Fm ds Xp P e l pl ht => ?_)
  subst e
  exact w_ratio_negative Fm E ds Xp P ht
theorem r_ratio_negative : FnR P w K mg base CX0 1 "ratio_negative" ["one"] [] (sp_ratio_negative K) := by
  obtain ⟨fd, F⟩ := D.d_ratio_negative
  exact ⟨⟨fd, [], ok_ratio_negative T D F, .nil, F.bindsN (fun _ _ _ _ _ _ us hl => match us, hl with | [_], _ => rfl)⟩, T.g_ratio_negative, F.kp⟩
theorem ok_ratio_compare {fd : FuncData} (F : DLH.FnP K "ratio_compare" s_ratio_compare [] fd) : FnOk P w K mg base CX0 1 (He.ga K "ratio_compare") fd ["one", "other"] (sp_ratio_compare K) := by
  refine DLH.FunD.ok0 (t := t_ratio_compare K) F sc_ratio_compare rfl (fun cdv A outer s H E hr => by exact (pss_cons (ps_set (i := 2) sc_ratio_compare.nd rfl (Or.inl rfl) (pe_op op_mulU (pe_ix ix_seq (pv 0) pe_int (fun _ _ => rfl)) (pe_ix ix_seq (pv 1) pe_int (fun _ _ => rfl)))) (pss_cons (ps_set (i := 3) sc_ratio_compare.nd rfl (Or.inl rfl) (pe_op op_mulU (pe_ix ix_seq (pv 1) pe_int (fun _ _ => rfl)) (pe_ix ix_seq (pv 0) pe_int (fun _ _ => rfl)))) (pss_cons (ps_if (pt_cmpR (op_eqD hr.units) (pv 2) (pv 3) (nomark _)) (pss_one (ps_ret pe_int)) pss_nil) (pss_one (ps_ret (pe_ifExp (pt_cmpR op_lt (pv 2) (pv 3) (nomark _)) (pe_un un_neg pe_int) pe_int))))))) (fun vs H Q E h => pure_T (m := 2) h rfl fun Fm ds Xp P e l pl ht => ?_)
  subst e
  exact w_ratio_compare Fm E ds Xp P ht
theorem r_ratio_compare : FnR P w K mg base CX0 1 "ratio_compare" ["one", "other"] [] (sp_ratio_compare K) := by
  obtain ⟨fd, F⟩ := D.d_ratio_compare
  exact ⟨⟨fd, [], ok_ratio_compare T D F, .nil, F.bindsN (fun _ _ _ _ _ _ us hl => match us, hl with | [_, _], _ => rfl)⟩, T.g_ratio_compare, F.kp⟩
theorem ok_ratio_text {fd : FuncData} (F : DLH.FnP K "ratio_text" s_ratio_text [] fd) : FnOk P w K mg base CX0 1 (He.ga K "ratio_text") fd ["one"] (sp_ratio_text K) := by
  refine DLH.FunD.ok0 (t := t_ratio_text K) F sc_ratio_text rfl (fun cdv A outer s H E hr => by exact (pss_cons (ps_asg (pv 0) (pg_tup rfl (pgs_cons (pg_name (i := 1) sc_ratio_text.nd rfl (Or.inl rfl)) (pgs_cons (pg_name (i := 2) sc_ratio_text.nd rfl (Or.inl rfl)) pgs_nil)))) (pss_one (ps_ret (pe_ifExp (pt_cmpR (op_eqD hr.units) (pv 2) pe_int (nomark _)) (pe_callTy call_strU (by rfl) T.n_str (by decide +kernel) (pa_cons (pv 1) pa_nil)) (pe_joined (PJ.cons (pe_fmt (pv 1)) (PJ.cons pe_str (PJ.cons (pe_fmt (pv 2)) PJ.nil))))))))) (fun vs H Q E h => pure_T (m := 2) h rfl fun Fm ds Xp P e l pl ht => ?_)
  subst e
  exact w_ratio_text Fm E ds Xp P ht
theorem r_ratio_text : FnR P w K mg base CX0 1 "ratio_text" ["one"] [] (sp_ratio_text K) := by
  obtain ⟨fd, F⟩ := D.d_ratio_text
  exact ⟨⟨fd, [], ok_ratio_text T D F, .nil, F.bindsN (fun _ _ _ _ _ _ us hl => match us, hl with | [_], _ => rfl)⟩, T.g_ratio_text, F.kp⟩
theorem ok__law_start {fd : FuncData} (F : DLH.FnP K "_law_start" s__law_start [] fd) : FnOk P w K mg base CX0 1 (He.ga K "_law_start") fd ["_law_script"] (sp__law_start K) := by
  refine F.ok sc__law_start (fun vs H Q E h => by obtain ⟨_, _, rfl, _⟩ := h; rfl) (fun cdv A outer s H vs Q E hr h => ⟨t__law_start K, PSs.nox (by exact (pss_cons (ps_set (i := 1) sc__law_start.nd rfl (Or.inl rfl) pe_int) (pss_cons (ps_for PassesOwn.never rfl (pi_seq (pv 0)) (pg_name (i := 2) sc__law_start.nd rfl (Or.inl rfl)) (pss_one (ps_set (i := 1) sc__law_start.nd rfl (Or.inl rfl) (pe_op op_modU (pe_callTy call_intU (by rfl) T.n_int (by decide +kernel) (pa_cons (pe_op op_addU (pe_op op_mulU (pv 1) pe_int) (pe_callTy call_intU (by rfl) T.n_int (by decide +kernel) (pa_cons (pv 2) pa_nil))) pa_nil)) pe_int)))) (pss_one (ps_ret (pe_lst (pa_cons (pe_lc (own := [("_law_cell", 2)]) (g := gName 2) (tt := tYes) rfl sc__law_start.nd (pi_seq (pv 0)) (blkOk_by (N := N__law_start) (sc := defScope s__law_start) (by decide +kernel)) (fun _ _ _ _ _ => (pg_name (i := 2) sc__law_start.nd rfl (Or.inl rfl))) (fun _ _ _ _ _ => pts_nil) (fun _ _ _ _ _ => (pe_callTy call_intU (by rfl) T.n_int (by decide +kernel) (pa_cons (pv 2) pa_nil)))) (pa_cons pe_int (pa_cons pe_int (pa_cons pe_int (pa_cons (pv 1) pa_nil))))))))))), w__law_start K vs H Q E h⟩)
theorem r__law_start : FnR P w K mg base CX0 1 "_law_start" ["_law_script"] [] (sp__law_start K) := by
  obtain ⟨fd, F⟩ := D.d__law_start
  exact ⟨⟨fd, [], ok__law_start T D F, .nil, F.bindsN (fun _ _ _ _ _ _ us hl => match us, hl with | [_], _ => rfl)⟩, T.g__law_start, F.kp⟩
theorem ok__law_mixed {fd : FuncData} (F : DLH.FnP K "_law_mixed" s__law_mixed [] fd) : FnOk P w K mg base CX0 1 (He.ga K "_law_mixed") fd ["_law_number_here", "_law_turn"] (sp__law_mixed K) := by
  refine DLH.FunD.ok0 (t := t__law_mixed K) F sc__law_mixed rfl (fun cdv A outer s H E hr => by exact (pss_cons (ps_set (i := 2) sc__law_mixed.nd rfl (Or.inl rfl) (pe_op op_modU (pe_callTy call_intU (by rfl) T.n_int (by decide +kernel) (pa_cons (pe_op op_addU (pe_op op_addU (pe_op op_mulU (pv 0) pe_int) (pe_op op_mulU (pv 1) pe_int)) pe_int) pa_nil)) pe_int)) (pss_cons (ps_set (i := 3) sc__law_mixed.nd rfl (Or.inl rfl) (pe_op op_modU (pe_callTy call_intU (by rfl) T.n_int (by decide +kernel) (pa_cons (pe_op op_addU (pe_op op_addU (pe_op op_mulU (pv 2) (pv 2)) (pe_op op_mulU (pv 1) pe_int)) pe_int) pa_nil)) pe_int)) (pss_one (ps_ret (pe_op op_divU (pe_op op_modU (pe_callTy call_intU (by rfl) T.n_int (by decide +kernel) (pa_cons (pe_op op_addU (pe_op op_mulU (pv 3) (pv 3)) (pe_op op_mulU (pv 2) pe_int)) pa_nil)) pe_int) pe_int)))))) (fun vs H Q E h => pure_T (m := 2) h rfl fun Fm ds Xp P e l pl ht => ?_)
  subst e
  exact w__law_mixed Fm E ds Xp P ht
theorem r__law_mixed : FnR P w K mg base CX0 1 "_law_mixed" ["_law_number_here", "_law_turn"] [] (sp__law_mixed K) := by
  obtain ⟨fd, F⟩ := D.d__law_mixed
  exact ⟨⟨fd, [], ok__law_mixed T D F, .nil, F.bindsN (fun _ _ _ _ _ _ us hl => match us, hl with | [_, _], _ => rfl)⟩, T.g__law_mixed, F.kp⟩
theorem ok__law_gcd {fd : FuncData} (F : DLH.FnP K "_law_gcd" s__law_gcd [] fd) : FnOk P w K mg base CX0 1 (He.ga K "_law_gcd") fd ["_law_a", "_law_b"] (sp__law_gcd K) := by
  refine DLH.FunD.ok0 (t := t__law_gcd K) F sc__law_gcd rfl (fun cdv A outer s H E hr => by exact (pss_cons (ps_set (i := 0) sc__law_gcd.nd rfl (Or.inl rfl) (pe_callB call_absU (by rfl) T.n_abs (by decide +kernel) (pa_cons (pv 0) pa_nil))) (pss_cons (ps_set (i := 1) sc__law_gcd.nd rfl (Or.inl rfl) (pe_callB call_absU (by rfl) T.n_abs (by decide +kernel) (pa_cons (pv 1) pa_nil))) (pss_cons (ps_for PassesOwn.never rfl (pi_range1 rfl T.n_range (pa_cons pe_int pa_nil)) (pg_name (i := 2) sc__law_gcd.nd rfl (Or.inl rfl)) (pss_cons (ps_if (pt_cmpR (op_eqD hr.units) (pv 1) pe_int (nomark _)) (pss_one ps_break) pss_nil) (pss_one (ps_par rfl sc__law_gcd.nd rfl rfl (by decide) rfl rfl (pa_cons (pv 1) (pa_cons (pe_op op_modU (pe_callTy call_intU (by rfl) T.n_int (by decide +kernel) (pa_cons (pv 0) pa_nil)) (pv 1)) pa_nil)) (by rfl))))) (pss_one (ps_ret (pv 0))))))) (fun vs H Q E h => pure_T (m := 1) h rfl fun Fm ds Xp P e l pl ht => ?_)
  subst e
  exact w__law_gcd Fm E ds Xp P ht
theorem r__law_gcd : FnR P w K mg base CX0 1 "_law_gcd" ["_law_a", "_law_b"] [] (sp__law_gcd K) := by
  obtain ⟨fd, F⟩ := D.d__law_gcd
  exact ⟨⟨fd, [], ok__law_gcd T D F, .nil, F.bindsN (fun _ _ _ _ _ _ us hl => match us, hl with | [_, _], _ => rfl)⟩, T.g__law_gcd, F.kp⟩
theorem ok__law_is_ratio {fd : FuncData} (F : DLH.FnP K "_law_is_ratio" s__law_is_ratio [] fd) : FnOk P w K mg base CX0 1 (He.ga K "_law_is_ratio") fd ["_law_thing"] (sp__law_is_ratio K) := by
  refine DLH.FunD.ok0 (t := t__law_is_ratio K) F sc__law_is_ratio rfl (fun cdv A outer s H E hr => by exact (pss_cons (ps_if (PW.pt (pw_or (pt_not (pt_val (pe_callB call_isi (by rfl) T.n_isinstance (by decide +kernel) (pa_cons (pv 0) (pa_cons (pe_bltn (v := .ty "tuple") (by rfl) T.n_tuple (by decide +kernel) rfl) pa_nil))))) (pw_or1 (pt_cmpR (op_neD hr.units) (pe_callB call_lenU (by rfl) T.n_len (by decide +kernel) (pa_cons (pv 0) pa_nil)) pe_int (nomark _))))) (pss_one (ps_ret pe_bl)) pss_nil) (pss_one (ps_ret (pe_callB (cr_all rfl) (by rfl) T.n_all (by decide +kernel) (pa_cons (pe_lc (own := [("_law_item", 1)]) (g := gName 1) (tt := tYes) rfl sc__law_is_ratio.nd (pi_seq (pv 0)) (blkOk_by (N := N__law_is_ratio) (sc := defScope s__law_is_ratio) (by decide +kernel)) (fun _ _ _ _ _ => (pg_name (i := 1) sc__law_is_ratio.nd rfl (Or.inl rfl))) (fun _ _ _ _ _ => pts_nil) (fun _ _ _ _ _ => (pe_and (pe_callB call_isi (by rfl) T.n_isinstance (by decide +kernel) (pa_cons (pv 1) (pa_cons (pe_bltn (v := .ty "int") (by rfl) T.n_int (by decide +kernel) rfl) pa_nil))) (pe_one (pe_not (pe_callB call_isi (by rfl) T.n_isinstance (by decide +kernel) (pa_cons (pv 1) (pa_cons (pe_bltn (v := .ty "bool") (by rfl) T.n_bool (by decide +kernel) rfl) pa_nil)))))))) pa_nil)))))) (fun vs H Q E h => pure_T (m := 1) h rfl fun Fm ds Xp P e l pl ht => ?_)
  subst e
  exact w__law_is_ratio Fm E ds Xp P ht
theorem r__law_is_ratio : FnR P w K mg base CX0 1 "_law_is_ratio" ["_law_thing"] [] (sp__law_is_ratio K) := by
  obtain ⟨fd, F⟩ := D.d__law_is_ratio
  exact ⟨⟨fd, [], ok__law_is_ratio T D F, .nil, F.bindsN (fun _ _ _ _ _ _ us hl => match us, hl with | [_], _ => rfl)⟩, T.g__law_is_ratio, F.kp⟩
theorem ok__law_told {fd : FuncData} (F : DLH.FnP K "_law_told" s__law_told [] fd) : FnOk P w K mg base CX0 1 (He.ga K "_law_told") fd ["_law_found", "_law_due"] (sp__law_told K) := by
  refine DLH.FunD.ok0 (t := t__law_told K) F sc__law_told rfl (fun cdv A outer s H E hr => by exact (pss_one (ps_ret (pe_ifExp (pt_val (pv 1)) (pe_cmpR op_isU (pv 0) pe_bl (nomark _)) (pe_cmpR op_isU (pv 0) pe_bl (nomark _)))))) (fun vs H Q E h => pure_T (m := 0) h rfl fun Fm ds Xp P e l pl ht => ?_)
  subst e
  exact w__law_told Fm E ds Xp P ht
theorem r__law_told : FnR P w K mg base CX0 1 "_law_told" ["_law_found", "_law_due"] [] (sp__law_told K) := by
  obtain ⟨fd, F⟩ := D.d__law_told
  exact ⟨⟨fd, [], ok__law_told T D F, .nil, F.bindsN (fun _ _ _ _ _ _ us hl => match us, hl with | [_, _], _ => rfl)⟩, T.g__law_told, F.kp⟩
theorem ok__law_text {fd : FuncData} (F : DLH.FnP K "_law_text" s__law_text [] fd) : FnOk P w K mg base CX0 1 (He.ga K "_law_text") fd ["_law_one"] (sp__law_text K) := by
  refine DLH.FunD.ok0 (t := t__law_text K) F sc__law_text rfl (fun cdv A outer s H E hr => by exact (pss_one (ps_ret (pe_ifExp (pt_cmpR (op_eqD hr.units) (pe_ix ix_seq (pv 0) pe_int (fun _ _ => rfl)) pe_int (nomark _)) (pe_callTy call_strU (by rfl) T.n_str (by decide +kernel) (pa_cons (pe_ix ix_seq (pv 0) pe_int (fun _ _ => rfl)) pa_nil)) (pe_op op_addU (pe_op op_addU (pe_callTy call_strU (by rfl) T.n_str (by decide +kernel) (pa_cons (pe_ix ix_seq (pv 0) pe_int (fun _ _ => rfl)) pa_nil)) pe_str) (pe_callTy call_strU (by rfl) T.n_str (by decide +kernel) (pa_cons (pe_ix ix_seq (pv 0) pe_int (fun _ _ => rfl)) pa_nil))))))) (fun vs H Q E h => pure_T (m := 0) h rfl fun Fm ds Xp P e l pl ht => ?_)
  subst e
  exact w__law_text Fm E ds Xp P ht
theorem r__law_text : FnR P w K mg base CX0 1 "_law_text" ["_law_one"] [] (sp__law_text K) := by
  obtain ⟨fd, F⟩ := D.d__law_text
  exact ⟨⟨fd, [], ok__law_text T D F, .nil, F.bindsN (fun _ _ _ _ _ _ us hl => match us, hl with | [_], _ => rfl)⟩, T.g__law_text, F.kp⟩
theorem ok_is_ratio {fd : FuncData} (F : DLH.FnP K "is_ratio" s_is_ratio [] fd) : FnOk P w K mg base CX0 2 (He.ga K "is_ratio") fd ["thing"] (sp_is_ratio K) := by
  have R_is_whole_1 := @r_is_whole_1 P w K mg base T D
  have R_is_whole_2 := @r_is_whole_2 P w K mg base T D
  refine DLH.FunD.ok0 (t := t_is_ratio K) F sc_is_ratio rfl (fun cdv A outer s H E hr => by exact (pss_cons (ps_if (PW.pt (pw_or (pt_not (pt_val (pe_callB call_isi (by rfl) T.n_isinstance (by decide +kernel) (pa_cons (pv 0) (pa_cons (pe_bltn (v := .ty "tuple") (by rfl) T.n_tuple (by decide +kernel) rfl) pa_nil))))) (pw_or1 (pt_cmpR (op_neD hr.units) (pe_callB call_lenU (by rfl) T.n_len (by decide +kernel) (pa_cons (pv 0) pa_nil)) pe_int (nomark _))))) (pss_one (ps_ret pe_bl)) pss_nil) (pss_cons (ps_asg (pv 0) (pg_tup rfl (pgs_cons (pg_name (i := 1) sc_is_ratio.nd rfl (Or.inl rfl)) (pgs_cons (pg_name (i := 2) sc_is_ratio.nd rfl (Or.inl rfl)) pgs_nil)))) (pss_one (ps_ret (pe_and (pe_callF R_is_whole_1 (hr.mono (by decide)) pass0 (pa_cons (pv 1) pa_nil)) (pe_and (pe_callF R_is_whole_2 (hr.mono (by decide)) pass0 (pa_cons (pv 2) (pa_cons pe_int pa_nil))) (pe_one (pe_cmpR (op_eqD hr.units) (pe_callBfun cr_gcd (by rfl) T.b_gcd (pa_cons (pv 1) (pa_cons (pv 2) pa_nil))) pe_int (nomark _)))))))))) (fun vs H Q E h => pure_T (m := 2) h rfl fun Fm ds Xp P e l pl ht => ?_)
  subst e
  exact w_is_ratio Fm E ds Xp P ht
theorem r_is_ratio : FnR P w K mg base CX0 2 "is_ratio" ["thing"] [] (sp_is_ratio K) := by
  obtain ⟨fd, F⟩ := D.d_is_ratio
  exact ⟨⟨fd, [], ok_is_ratio T D F, .nil, F.bindsN (fun _ _ _ _ _ _ us hl => match us, hl with | [_], _ => rfl)⟩, T.g_is_ratio, F.kp⟩
theorem ok_ratio_plus {fd : FuncData} (F : DLH.FnP K "ratio_plus" s_ratio_plus [] fd) : FnOk P w K mg base CX0 2 (He.ga K "ratio_plus") fd ["one", "other"] (sp_ratio_plus K) := by
  have R_lowest_terms := @r_lowest_terms P w K mg base T D
  refine DLH.FunD.ok0 (t := t_ratio_plus K) F sc_ratio_plus rfl (fun cdv A outer s H E hr => by exact (pss_one (ps_ret (pe_callF R_lowest_terms (hr.mono (by decide)) pass0 (pa_cons (pe_op op_addU (pe_op op_mulU (pe_ix ix_seq (pv 0) pe_int (fun _ _ => rfl)) (pe_ix ix_seq (pv 1) pe_int (fun _ _ => rfl))) (pe_op op_mulU (pe_ix ix_seq (pv 1) pe_int (fun _ _ => rfl)) (pe_ix ix_seq (pv 0) pe_int (fun _ _ => rfl)))) (pa_cons (pe_op op_mulU (pe_ix ix_seq (pv 0) pe_int (fun _ _ => rfl)) (pe_ix ix_seq (pv 1) pe_int (fun _ _ => rfl))) pa_nil)))))) (fun vs H Q E h => pure_T (m := 0) h rfl fun Fm ds Xp P e l pl ht => ?_)
  subst e
  exact w_ratio_plus Fm E ds Xp P ht
theorem r_ratio_plus : FnR P w K mg base CX0 2 "ratio_plus" ["one", "other"] [] (sp_ratio_plus K) := by
  obtain ⟨fd, F⟩ := D.d_ratio_plus
  exact ⟨⟨fd, [], ok_ratio_plus T D F, .nil, F.bindsN (fun _ _ _ _ _ _ us hl => match us, hl with | [_, _], _ => rfl)⟩, T.g_ratio_plus, F.kp⟩
theorem ok_ratio_minus {fd : FuncData} (F : DLH.FnP K "ratio_minus" s_ratio_minus [] fd) : FnOk P w K mg base CX0 2 (He.ga K "ratio_minus") fd ["one", "other"] (sp_ratio_minus K) := by
  have R_lowest_terms := @r_lowest_terms P w K mg base T D
  refine DLH.FunD.ok0 (t := t_ratio_minus K) F sc_ratio_minus rfl (fun cdv A outer s H E hr => by exact (pss_one (ps_ret (pe_callF R_lowest_terms (hr.mono (by decide)) pass0 (pa_cons (pe_op op_subU (pe_op op_mulU (pe_ix ix_seq (pv 0) pe_int (fun _ _ => rfl)) (pe_ix ix_seq (pv 1) pe_int (fun _ _ => rfl))) (pe_op op_mulU (pe_ix ix_seq (pv 1) pe_int (fun _ _ => rfl)) (pe_ix ix_seq (pv 0) pe_int (fun _ _ => rfl)))) (pa_cons (pe_op op_mulU (pe_ix ix_seq (pv 0) pe_int (fun _ _ => rfl)) (pe_ix ix_seq (pv 1) pe_int (fun _ _ => rfl))) pa_nil)))))) (fun vs H Q E h => pure_T (m := 0) h rfl fun Fm ds Xp P e l pl ht => ?_)
  subst e
  exact w_ratio_minus Fm E ds Xp P ht
theorem r_ratio_minus : FnR P w K mg base CX0 2 "ratio_minus" ["one", "other"] [] (sp_ratio_minus K) := by
  obtain ⟨fd, F⟩ := D.d_ratio_minus
  exact ⟨⟨fd, [], ok_ratio_minus T D F, .nil, F.bindsN (fun _ _ _ _ _ _ us hl => match us, hl with | [_, _], _ => rfl)⟩, T.g_ratio_minus, F.kp⟩
theorem ok_ratio_times {fd : FuncData} (F : DLH.FnP K "ratio_times" s_ratio_times [] fd) : FnOk P w K mg base CX0 2 (He.ga K "ratio_times") fd ["one", "other"] (sp_ratio_times K) := by
  have R_lowest_terms := @r_lowest_terms P w K mg base T D
  refine DLH.FunD.ok0 (t := t_ratio_times K) F sc_ratio_times rfl (fun cdv A outer s H E hr => by exact (pss_one (ps_ret (pe_callF R_lowest_terms (hr.mono (by decide)) pass0 (pa_cons (pe_op op_mulU (pe_ix ix_seq (pv 0) pe_int (fun _ _ => rfl)) (pe_ix ix_seq (pv 1) pe_int (fun _ _ => rfl))) (pa_cons (pe_op op_mulU (pe_ix ix_seq (pv 0) pe_int (fun _ _ => rfl)) (pe_ix ix_seq (pv 1) pe_int (fun _ _ => rfl))) pa_nil)))))) (fun vs H Q E h => pure_T (m := 0) h rfl fun Fm ds Xp P e l pl ht => ?_)
  subst e
  exact w_ratio_times Fm E ds Xp P ht
theorem r_ratio_times : FnR P w K mg base CX0 2 "ratio_times" ["one", "other"] [] (sp_ratio_times K) := by
  obtain ⟨fd, F⟩ := D.d_ratio_times
  exact ⟨⟨fd, [], ok_ratio_times T D F, .nil, F.bindsN (fun _ _ _ _ _ _ us hl => match us, hl with | [_, _], _ => rfl)⟩, T.g_ratio_times, F.kp⟩
theorem held_power (f : Addr) (sp : Sp) (h : S_power K f = some sp) : Held P w K mg base 2 f sp := by
  unfold S_power at h
  split at h
  · rename_i e
    subst e
    cases h
    obtain ⟨fd, F⟩ := D.d_ratio_times
    exact ⟨⟨fd, _, ok_ratio_times T D F, F.kp, F.bindsN (fun _ _ _ _ _ _ us hl => match us, hl with | [_, _], _ => rfl)⟩⟩
  · cases h
theorem ok__law_draw {fd : FuncData} (F : DLH.FnP K "_law_draw" s__law_draw [] fd) : FnOk P w K mg base CX0 2 (He.ga K "_law_draw") fd ["_law_hand", "_law_many"] (sp__law_draw K) := by
  have R__law_mixed := @r__law_mixed P w K mg base T D
  refine F.ok sc__law_draw (fun vs H Q E h => by obtain ⟨_, is, _, _, rfl, l, _⟩ := h; show (is.map V.int).length + 1 = _; rw [List.length_map, l] <;> rfl) (fun cdv A outer s H vs Q E hr h => ⟨t__law_draw K, PSs.nox (by exact (pss_cons (ps_asg (pe_op op_addU (pe_ix ix_seq (pv 0) pe_int (fun _ _ => rfl)) pe_int) (pg_sub (pv 0) pe_int set_list)) (pss_cons (ps_if (PW.pt (pw_and (pt_cmpR (op_eqD hr.units) (pe_ix ix_seq (pv 0) pe_int (fun _ _ => rfl)) pe_int (nomark _)) (pw_and1 (pt_cmpR op_lt (pe_ix ix_seq (pv 0) pe_int (fun _ _ => rfl)) (pe_callB call_lenU (by rfl) T.n_len (by decide +kernel) (pa_cons (pe_ix ix_seq (pv 0) pe_int (fun _ _ => rfl)) pa_nil)) (nomark _))))) (pss_cons (ps_set (i := 2) sc__law_draw.nd rfl (Or.inl rfl) (pe_ix ix_seq (pe_ix ix_seq (pv 0) pe_int (fun _ _ => rfl)) (pe_ix ix_seq (pv 0) pe_int (fun _ _ => rfl)) (fun _ _ => rfl))) (pss_cons (ps_asg (pe_op op_addU (pe_ix ix_seq (pv 0) pe_int (fun _ _ => rfl)) pe_int) (pg_sub (pv 0) pe_int set_list)) (pss_cons (ps_if (pt_cmpR op_lt (pe_callB call_absU (by rfl) T.n_abs (by decide +kernel) (pa_cons (pv 2) pa_nil)) (pe_op op_powU pe_int pe_int) (nomark _)) (pss_one (ps_ret (pe_op op_modU (pe_callTy call_intU (by rfl) T.n_int (by decide +kernel) (pa_cons (pe_callF R__law_mixed (hr.mono (by decide)) pass0 (pa_cons (pv 2) (pa_cons (pe_ix ix_seq (pv 0) pe_int (fun _ _ => rfl)) pa_nil))) pa_nil)) (pv 1)))) pss_nil) (pss_one (ps_asg (pe_callB call_absU (by rfl) T.n_abs (by decide +kernel) (pa_cons (pv 2) pa_nil)) (pg_sub (pv 0) pe_int set_list)))))) pss_nil) (pss_cons (ps_if (pt_cmpR op_gt (pe_ix ix_seq (pv 0) pe_int (fun _ _ => rfl)) pe_int (nomark _)) (pss_cons (ps_set (i := 3) sc__law_draw.nd rfl (Or.inl rfl) (pe_op op_modU (pe_callTy call_intU (by rfl) T.n_int (by decide +kernel) (pa_cons (pe_ix ix_seq (pv 0) pe_int (fun _ _ => rfl)) pa_nil)) (pv 1))) (pss_cons (ps_asg (pe_op op_divU (pe_ix ix_seq (pv 0) pe_int (fun _ _ => rfl)) (pv 1)) (pg_sub (pv 0) pe_int set_list)) (pss_one (ps_ret (pv 3))))) pss_nil) (pss_one (ps_ret (pe_op op_modU (pe_callTy call_intU (by rfl) T.n_int (by decide +kernel) (pa_cons (pe_callF R__law_mixed (hr.mono (by decide)) pass0 (pa_cons (pe_ix ix_seq (pv 0) pe_int (fun _ _ => rfl)) (pa_cons (pe_ix ix_seq (pv 0) pe_int (fun _ _ => rfl)) pa_nil))) pa_nil)) (pv 1)))))))), w__law_draw K vs H Q E h⟩)
theorem r__law_draw : FnR P w K mg base CX0 2 "_law_draw" ["_law_hand", "_law_many"] [] (sp__law_draw K) := by
  obtain ⟨fd, F⟩ := D.d__law_draw
  exact ⟨⟨fd, [], ok__law_draw T D F, .nil, F.bindsN (fun _ _ _ _ _ _ us hl => match us, hl with | [_, _], _ => rfl)⟩, T.g__law_draw, F.kp⟩
theorem ok__law_ratio {fd : FuncData} (F : DLH.FnP K "_law_ratio" s__law_ratio [] fd) : FnOk P w K mg base CX0 2 (He.ga K "_law_ratio") fd ["_law_top", "_law_bottom"] (sp__law_ratio K) := by
  have R__law_gcd := @r__law_gcd P w K mg base T D
  refine DLH.FunD.ok0 (t := t__law_ratio K) F sc__law_ratio rfl (fun cdv A outer s H E hr => by exact (pss_cons (ps_if (pt_cmpR op_lt (pv 1) pe_int (nomark _)) (pss_cons (ps_set (i := 0) sc__law_ratio.nd rfl (Or.inl rfl) (pe_un un_neg (pv 0))) (pss_one (ps_set (i := 1) sc__law_ratio.nd rfl (Or.inl rfl) (pe_un un_neg (pv 1))))) pss_nil) (pss_cons (ps_set (i := 2) sc__law_ratio.nd rfl (Or.inl rfl) (pe_callF R__law_gcd (hr.mono (by decide)) pass0 (pa_cons (pv 0) (pa_cons (pv 1) pa_nil)))) (pss_one (ps_ret (pe_tup (pa_cons (pe_op op_divU (pv 0) (pv 2)) (pa_cons (pe_op op_divU (pv 1) (pv 2)) pa_nil)))))))) (fun vs H Q E h => pure_T (m := 1) h rfl fun Fm ds Xp P e l pl ht => ?_)
  subst e
  exact w__law_ratio Fm E ds Xp P ht
theorem r__law_ratio : FnR P w K mg base CX0 2 "_law_ratio" ["_law_top", "_law_bottom"] [] (sp__law_ratio K) := by
  obtain ⟨fd, F⟩ := D.d__law_ratio
  exact ⟨⟨fd, [], ok__law_ratio T D F, .nil, F.bindsN (fun _ _ _ _ _ _ us hl => match us, hl with | [_, _], _ => rfl)⟩, T.g__law_ratio, F.kp⟩
theorem ok__law_whole_rightly {fd : FuncData} (F : DLH.FnP K "_law_whole_rightly" s__law_whole_rightly [] fd) : FnOk P w K mg base CX0 2 (He.ga K "_law_whole_rightly") fd ["_law_a", "_law_low", "_law_high"] (sp__law_whole_rightly K) := by
  have R__law_told := @r__law_told P w K mg base T D
  have R_is_whole := @r_is_whole P w K mg base T D
  have R_is_whole_1 := @r_is_whole_1 P w K mg base T D
  have R_is_whole_2 := @r_is_whole_2 P w K mg base T D
  have R_is_whole_kH := @r_is_whole_kH P w K mg base T D
  have R_is_whole_kLH := @r_is_whole_kLH P w K mg base T D
  refine DLH.FunD.ok0 (t := t__law_whole_rightly K) F sc__law_whole_rightly rfl (fun cdv A outer s H E hr => by exact (pss_cons (ps_if (PW.pt (pw_or (pt_cmpR op_isNU (pe_callF R_is_whole_1 (hr.mono (by decide)) pass0 (pa_cons (pv 0) pa_nil)) pe_bl (nomark _)) (pw_or1 (pt_not (pt_val (pe_callF R__law_told (hr.mono (by decide)) pass0 (pa_cons (pe_callF R_is_whole_2 (hr.mono (by decide)) pass0 (pa_cons (pv 0) (pa_cons (pv 1) pa_nil))) (pa_cons (pe_cmpR op_le (pv 1) (pv 0) (nomark _)) pa_nil)))))))) (pss_one (ps_ret pe_bl)) pss_nil) (pss_cons (ps_if (pt_not (pt_val (pe_callF R__law_told (hr.mono (by decide)) pass0 (pa_cons (pe_callF R_is_whole (hr.mono (by decide)) pass0 (pa_cons (pv 0) (pa_cons pe_non (pa_cons (pv 2) pa_nil)))) (pa_cons (pe_cmpR op_le (pv 0) (pv 2) (nomark _)) pa_nil))))) (pss_one (ps_ret pe_bl)) pss_nil) (pss_cons (ps_if (pt_not (pt_val (pe_callF R__law_told (hr.mono (by decide)) pass0 (pa_cons (pe_callKF (ks := ["low", "high"]) R_is_whole_kLH (hr.mono (by decide)) pass0 (pa_cons (pv 0) pa_nil) (pk_cons (pv 1) (pk_cons (pv 2) pk_nil))) (pa_cons (pe_and (pe_cmpR op_le (pv 1) (pv 0) (nomark _)) (pe_one (pe_cmpR op_le (pv 0) (pv 2) (nomark _)))) pa_nil))))) (pss_one (ps_ret pe_bl)) pss_nil) (pss_one (ps_ret (pe_and (pe_cmpR op_isU (pe_callF R_is_whole (hr.mono (by decide)) pass0 (pa_cons (pv 0) (pa_cons (pv 0) (pa_cons (pv 0) pa_nil)))) pe_bl (nomark _)) (pe_and (pe_cmpR op_isU (pe_callF R_is_whole_2 (hr.mono (by decide)) pass0 (pa_cons (pv 0) (pa_cons (pe_op op_addU (pv 0) pe_int) pa_nil))) pe_bl (nomark _)) (pe_one (pe_cmpR op_isU (pe_callKF (ks := ["high"]) R_is_whole_kH (hr.mono (by decide)) pass0 (pa_cons (pv 0) pa_nil) (pk_cons (pe_op op_subU (pv 0) pe_int) pk_nil)) pe_bl (nomark _))))))))))) (fun vs H Q E h => pure_T (m := 0) h rfl fun Fm ds Xp P e l pl ht => ?_)
  subst e
  exact w__law_whole_rightly Fm E ds Xp P ht
theorem r__law_whole_rightly : FnR P w K mg base CX0 2 "_law_whole_rightly" ["_law_a", "_law_low", "_law_high"] [] (sp__law_whole_rightly K) := by
  obtain ⟨fd, F⟩ := D.d__law_whole_rightly
  exact ⟨⟨fd, [], ok__law_whole_rightly T D F, .nil, F.bindsN (fun _ _ _ _ _ _ us hl => match us, hl with | [_, _, _], _ => rfl)⟩, T.g__law_whole_rightly, F.kp⟩
theorem ok_power_by {fd : FuncData} (F : DLH.FnP K "power_by" s_power_by [] fd) : FnOk P w K mg base CX0 3 (He.ga K "power_by") fd ["times", "unit", "base", "power"] (sp_power_by S_power K) := by
  have SA := @held_power P w K mg base T D
  refine DLH.FunD.ok0 (t := t_power_by K S_power) F sc_power_by rfl (fun cdv A outer s H E hr => by have hr1 := hr.mono (show 2 ≤ 2 by decide); exact (pss_cons (ps_set (i := 4) sc_power_by.nd rfl (Or.inl rfl) (pv 1)) (pss_cons (ps_set (i := 5) sc_power_by.nd rfl (Or.inl rfl) (pv 2)) (pss_cons (ps_while PassesOwn.never (pt_cmpR op_gt (pv 3) pe_int (nomark _)) (pss_cons (ps_if (pt_cmpR (op_eqD hr.units) (pe_op op_modU (pv 3) pe_int) pe_int (nomark _)) (pss_one (ps_set (i := 4) sc_power_by.nd rfl (Or.inl rfl) (pe_callA SA hr1 rfl (Or.inl rfl) (pa_cons (pv 4) (pa_cons (pv 5) pa_nil))))) pss_nil) (pss_cons (ps_set (i := 3) sc_power_by.nd rfl (Or.inl rfl) (pe_op op_divU (pv 3) pe_int)) (pss_one (ps_if (pt_cmpR op_gt (pv 3) pe_int (nomark _)) (pss_one (ps_set (i := 5) sc_power_by.nd rfl (Or.inl rfl) (pe_callA SA hr1 rfl (Or.inl rfl) (pa_cons (pv 5) (pa_cons (pv 5) pa_nil))))) pss_nil))))) (pss_one (ps_ret (pv 4))))))) (fun vs H Q E h => pure_T (m := 2) h rfl fun Fm ds Xp P e l pl ht => ?_)
  subst e
  exact w_power_by S_power Fm E ds Xp P ht
theorem r_power_by : FnR P w K mg base CX0 3 "power_by" ["times", "unit", "base", "power"] [] (sp_power_by S_power K) := by
  obtain ⟨fd, F⟩ := D.d_power_by
  exact ⟨⟨fd, [], ok_power_by T D F, .nil, F.bindsN (fun _ _ _ _ _ _ us hl => match us, hl with | [_, _, _, _], _ => rfl)⟩, T.g_power_by, F.kp⟩
theorem ok_make_ratio {fd : FuncData} (F : DLH.FnP K "make_ratio" s_make_ratio [.int 1] fd) : FnOk P w K mg base (L2.CX P w) 3 (He.ga K "make_ratio") fd ["top", "bottom"] (sp_make_ratio K) := by
  have R_BadRatio := @r_BadRatio P w K mg base T D
  have R_is_whole_1 := @r_is_whole_1 P w K mg base T D
  have R_lowest_terms := @r_lowest_terms P w K mg base T D
  refine DLH.FunD.okX (t := fun E => t_make_ratio K E) F sc_make_ratio rfl (fun cdv A outer s H E hr => by exact (pss_cons (ps_if (pt_not (pt_val (pe_callF R_is_whole_1 (hr.mono (by decide)) pass0 (pa_cons (pv 0) pa_nil)))) (pss_one (ps_raise rfl (takes_of rfl rfl rfl rfl) (pmk_oexF R_BadRatio (hr.mono (by decide)) (pa_cons pe_str pa_nil)))) pss_nil) (pss_cons (ps_if (PW.pt (pw_or (pt_not (pt_val (pe_callF R_is_whole_1 (hr.mono (by decide)) pass0 (pa_cons (pv 1) pa_nil)))) (pw_or1 (pt_cmpR (op_eqD hr.units) (pv 1) pe_int (nomark _))))) (pss_one (ps_raise rfl (takes_of rfl rfl rfl rfl) (pmk_oexF R_BadRatio (hr.mono (by decide)) (pa_cons pe_str pa_nil)))) pss_nil) (pss_cons (ps_if (pt_cmpR op_lt (pv 1) pe_int (nomark _)) (pss_one (ps_ret (pe_callF R_lowest_terms (hr.mono (by decide)) pass0 (pa_cons (pe_un un_neg (pv 0)) (pa_cons (pe_un un_neg (pv 1)) pa_nil))))) pss_nil) (pss_one (ps_ret (pe_callF R_lowest_terms (hr.mono (by decide)) pass0 (pa_cons (pv 0) (pa_cons (pv 1) pa_nil))))))))) (fun vs H Q E h => pure_T (m := 0) h rfl fun Fm ds Xp P e l pl ht => ?_)
  subst e
  exact w_make_ratio Fm E ds Xp P ht
theorem r_make_ratio : FnR P w K mg base (L2.CX P w) 3 "make_ratio" ["top", "bottom"] [] (sp_make_ratio K) := by
  obtain ⟨fd, F⟩ := D.d_make_ratio
  obtain ⟨ds, v, b⟩ := F.binds1 (ps := ["top", "bottom"]) 2 1 (by decide) (by decide) (fun T kV doc pm an cdv ct us its h1 h2 => match us, its, h1, h2 with | [_, _], [_], _, _ => ⟨_, rfl, rfl⟩)
  exact ⟨⟨fd, ds, ok_make_ratio T D F, v, b⟩, T.g_make_ratio, F.kp⟩
theorem r_make_ratio_1 : FnR P w K mg base (L2.CX P w) 3 "make_ratio" ["top", "bottom"] [.int 1] (sp_make_ratio K) := by
  obtain ⟨fd, F⟩ := D.d_make_ratio
  obtain ⟨ds, v, b⟩ := F.binds1 (ps := ["top", "bottom"]) 1 0 (by decide) (by decide) (fun T kV doc pm an cdv ct us its h1 h2 => match us, its, h1, h2 with | [_], [_], _, _ => ⟨_, rfl, rfl⟩)
  exact ⟨⟨fd, ds, ok_make_ratio T D F, v, b⟩, T.g_make_ratio, F.kp⟩
theorem ok__law_plus {fd : FuncData} (F : DLH.FnP K "_law_plus" s__law_plus [] fd) : FnOk P w K mg base CX0 3 (He.ga K "_law_plus") fd ["_law_a", "_law_b"] (sp__law_plus K) := by
  have R__law_ratio := @r__law_ratio P w K mg base T D
  refine DLH.FunD.ok0 (t := t__law_plus K) F sc__law_plus rfl (fun cdv A outer s H E hr => by exact (pss_one (ps_ret (pe_callF R__law_ratio (hr.mono (by decide)) pass0 (pa_cons (pe_op op_addU (pe_op op_mulU (pe_ix ix_seq (pv 0) pe_int (fun _ _ => rfl)) (pe_ix ix_seq (pv 1) pe_int (fun _ _ => rfl))) (pe_op op_mulU (pe_ix ix_seq (pv 1) pe_int (fun _ _ => rfl)) (pe_ix ix_seq (pv 0) pe_int (fun _ _ => rfl)))) (pa_cons (pe_op op_mulU (pe_ix ix_seq (pv 0) pe_int (fun _ _ => rfl)) (pe_ix ix_seq (pv 1) pe_int (fun _ _ => rfl))) pa_nil)))))) (fun vs H Q E h => pure_T (m := 0) h rfl fun Fm ds Xp P e l pl ht => ?_)
  subst e
  exact w__law_plus Fm E ds Xp P ht
theorem r__law_plus : FnR P w K mg base CX0 3 "_law_plus" ["_law_a", "_law_b"] [] (sp__law_plus K) := by
  obtain ⟨fd, F⟩ := D.d__law_plus
  exact ⟨⟨fd, [], ok__law_plus T D F, .nil, F.bindsN (fun _ _ _ _ _ _ us hl => match us, hl with | [_, _], _ => rfl)⟩, T.g__law_plus, F.kp⟩
theorem ok__law_times {fd : FuncData} (F : DLH.FnP K "_law_times" s__law_times [] fd) : FnOk P w K mg base CX0 3 (He.ga K "_law_times") fd ["_law_a", "_law_b"] (sp__law_times K) := by
  have R__law_ratio := @r__law_ratio P w K mg base T D
  refine DLH.FunD.ok0 (t := t__law_times K) F sc__law_times rfl (fun cdv A outer s H E hr => by exact (pss_one (ps_ret (pe_callF R__law_ratio (hr.mono (by decide)) pass0 (pa_cons (pe_op op_mulU (pe_ix ix_seq (pv 0) pe_int (fun _ _ => rfl)) (pe_ix ix_seq (pv 1) pe_int (fun _ _ => rfl))) (pa_cons (pe_op op_mulU (pe_ix ix_seq (pv 0) pe_int (fun _ _ => rfl)) (pe_ix ix_seq (pv 1) pe_int (fun _ _ => rfl))) pa_nil)))))) (fun vs H Q E h => pure_T (m := 0) h rfl fun Fm ds Xp P e l pl ht => ?_)
  subst e
  exact w__law_times Fm E ds Xp P ht
theorem r__law_times : FnR P w K mg base CX0 3 "_law_times" ["_law_a", "_law_b"] [] (sp__law_times K) := by
  obtain ⟨fd, F⟩ := D.d__law_times
  exact ⟨⟨fd, [], ok__law_times T D F, .nil, F.bindsN (fun _ _ _ _ _ _ us hl => match us, hl with | [_, _], _ => rfl)⟩, T.g__law_times, F.kp⟩
theorem ok__law_number {fd : FuncData} (F : DLH.FnP K "_law_number" s__law_number [] fd) : FnOk P w K mg base CX0 3 (He.ga K "_law_number") fd ["_law_hand"] (sp__law_number K) := by
  have R__law_draw := @r__law_draw P w K mg base T D
  refine F.ok sc__law_number (fun vs H Q E h => by obtain ⟨_, is, _, _, rfl, l, _⟩ := h; show (is.map V.int).length + 1 = _; rw [List.length_map, l] <;> rfl) (fun cdv A outer s H vs Q E hr h => ⟨t__law_number K, PSs.nox (by exact (pss_cons (ps_set (i := 1) sc__law_number.nd rfl (Or.inl rfl) (pe_callF R__law_draw (hr.mono (by decide)) pass0 (pa_cons (pv 0) (pa_cons pe_int pa_nil)))) (pss_cons (ps_set (i := 2) sc__law_number.nd rfl (Or.inl rfl) (pe_op op_subU pe_int (pe_op op_mulU pe_int (pe_callF R__law_draw (hr.mono (by decide)) pass0 (pa_cons (pv 0) (pa_cons pe_int pa_nil)))))) (pss_cons (ps_if (pt_cmpR (op_eqD hr.units) (pv 1) pe_int (nomark _)) (pss_one (ps_ret (pe_op op_mulU (pv 2) (pe_callF R__law_draw (hr.mono (by decide)) pass0 (pa_cons (pv 0) (pa_cons pe_int pa_nil)))))) pss_nil) (pss_cons (ps_if (pt_cmpR (op_eqD hr.units) (pv 1) pe_int (nomark _)) (pss_one (ps_ret (pe_op op_mulU (pv 2) (pe_callF R__law_draw (hr.mono (by decide)) pass0 (pa_cons (pv 0) (pa_cons pe_int pa_nil)))))) pss_nil) (pss_cons (ps_if (pt_cmpR (op_eqD hr.units) (pv 1) pe_int (nomark _)) (pss_one (ps_ret (pe_op op_mulU (pv 2) (pe_callF R__law_draw (hr.mono (by decide)) pass0 (pa_cons (pv 0) (pa_cons (pe_op op_powU pe_int pe_int) pa_nil)))))) pss_nil) (pss_one (ps_ret (pe_op op_mulU (pv 2) (pe_op op_addU (pe_op op_mulU (pe_callF R__law_draw (hr.mono (by decide)) pass0 (pa_cons (pv 0) (pa_cons (pe_op op_powU pe_int pe_int) pa_nil))) (pe_op op_powU pe_int pe_int)) (pe_callF R__law_draw (hr.mono (by decide)) pass0 (pa_cons (pv 0) (pa_cons (pe_op op_powU pe_int pe_int) pa_nil))))))))))))), DL.ok__law_number K vs H Q E h⟩)
theorem r__law_number : FnR P w K mg base CX0 3 "_law_number" ["_law_hand"] [] (sp__law_number K) := by
  obtain ⟨fd, F⟩ := D.d__law_number
  exact ⟨⟨fd, [], ok__law_number T D F, .nil, F.bindsN (fun _ _ _ _ _ _ us hl => match us, hl with | [_], _ => rfl)⟩, T.g__law_number, F.kp⟩
theorem ok_ratio_over {fd : FuncData} (F : DLH.FnP K "ratio_over" s_ratio_over [] fd) : FnOk P w K mg base (L2.CX P w) 4 (He.ga K "ratio_over") fd ["one", "other"] (sp_ratio_over K) := by
  have R_make_ratio := @r_make_ratio P w K mg base T D
  refine DLH.FunD.okX (t := fun E => t_ratio_over K E) F sc_ratio_over rfl (fun cdv A outer s H E hr => by exact (pss_cons (ps_if (pt_cmpR (op_eqD hr.units) (pe_ix ix_seq (pv 1) pe_int (fun _ _ => rfl)) pe_int (nomark _)) (pss_one (ps_raise rfl (takes_of rfl rfl rfl rfl) (pmk_own0 PySem.F.excBase_ValueError T.x_DividedByNought T.g_DividedByNought T.k_DividedByNought T.r_DividedByNought (by rfl)))) pss_nil) (pss_one (ps_ret (pe_callF R_make_ratio (hr.mono (by decide)) passL (pa_cons (pe_op op_mulU (pe_ix ix_seq (pv 0) pe_int (fun _ _ => rfl)) (pe_ix ix_seq (pv 1) pe_int (fun _ _ => rfl))) (pa_cons (pe_op op_mulU (pe_ix ix_seq (pv 0) pe_int (fun _ _ => rfl)) (pe_ix ix_seq (pv 1) pe_int (fun _ _ => rfl))) pa_nil))))))) (fun vs H Q E h => pure_T (m := 0) h rfl fun Fm ds Xp P e l pl ht => ?_)
  subst e
  exact w_ratio_over Fm E ds Xp P ht
theorem r_ratio_over : FnR P w K mg base (L2.CX P w) 4 "ratio_over" ["one", "other"] [] (sp_ratio_over K) := by
  obtain ⟨fd, F⟩ := D.d_ratio_over
  exact ⟨⟨fd, [], ok_ratio_over T D F, .nil, F.bindsN (fun _ _ _ _ _ _ us hl => match us, hl with | [_, _], _ => rfl)⟩, T.g_ratio_over, F.kp⟩
theorem ok_ratio_power {fd : FuncData} (F : DLH.FnP K "ratio_power" s_ratio_power [] fd) : FnOk P w K mg base CX0 4 (He.ga K "ratio_power") fd ["one", "power"] (sp_ratio_power K) := by
  have R_power_by := @r_power_by P w K mg base T D
  refine DLH.FunD.ok0 (t := t_ratio_power K) F sc_ratio_power rfl (fun cdv A outer s H E hr => by exact (pss_one (ps_ret (pe_callF R_power_by (hr.mono (by decide)) pass0 (pa_cons (pe_glob rfl T.g_ratio_times rfl) (pa_cons (pe_glob rfl T.g_ONE rfl) (pa_cons (pv 0) (pa_cons (pv 1) pa_nil)))))))) (fun vs H Q E h => pure_T (m := 0) h rfl fun Fm ds Xp P e l pl ht => ?_)
  subst e
  exact w_ratio_power Fm T.t_ONE E ds Xp P ht
theorem r_ratio_power : FnR P w K mg base CX0 4 "ratio_power" ["one", "power"] [] (sp_ratio_power K) := by
  obtain ⟨fd, F⟩ := D.d_ratio_power
  exact ⟨⟨fd, [], ok_ratio_power T D F, .nil, F.bindsN (fun _ _ _ _ _ _ us hl => match us, hl with | [_, _], _ => rfl)⟩, T.g_ratio_power, F.kp⟩
theorem ok__law_made {fd : FuncData} (F : DLH.FnP K "_law_made" s__law_made [] fd) : FnOk P w K mg base CX0 4 (He.ga K "_law_made") fd ["_law_top", "_law_bottom"] (sp__law_made K) := by
  have R_make_ratio := @r_make_ratio P w K mg base T D
  refine DLH.FunD.ok0 (t := t__law_made K) F sc__law_made rfl (fun cdv A outer s H E hr => by exact (pss_one (ps_try_as (i := 2) (tb := fun W => tRet (tTup (tCons (tC (.str "made")) (tCons (tCallS (sp_make_ratio K) (WE W) (tCons (tVar 0) (tCons (tVar 1) (tNil)))) (tNil))))) (ts := fun a cls d => tRet (tTup (tCons (tC (.str "refused")) (tCons (tXf a cls d (He.ga K "BadRatio") "what" (tVar 2)) (tNil))))) (Wout := fun _ _ _ _ => False) rfl rfl sc__law_made.nd rfl rfl ⟨rfl, by decide, Or.inl T.g_BadRatio⟩ takes0 (fun W pn xe tk _ => by exact (pss_one (ps_ret (pe_tup (pa_cons pe_str (pa_cons (pe_callSF R_make_ratio (hr.mono (by decide)) (fun σ => passAt tk σ) (pa_cons (pv 0) (pa_cons (pv 1) pa_nil))) pa_nil)))))) (fun a oe cls d pn hz hf => by exact (pss_one (ps_ret (pe_tup (pa_cons pe_str (pa_cons (pe_xf T.xf_BadRatio T.nf_BadRatio_what hz hf (pv 2)) pa_nil))))))))) (fun vs H Q E h => pure_T (m := 1) h rfl fun Fm ds Xp P e l pl ht => ?_)
  subst e
  exact w__law_made Fm T.em_BadRatio E ds Xp P ht
theorem r__law_made : FnR P w K mg base CX0 4 "_law_made" ["_law_top", "_law_bottom"] [] (sp__law_made K) := by
  obtain ⟨fd, F⟩ := D.d__law_made
  exact ⟨⟨fd, [], ok__law_made T D F, .nil, F.bindsN (fun _ _ _ _ _ _ us hl => match us, hl with | [_, _], _ => rfl)⟩, T.g__law_made, F.kp⟩
theorem ok__law_divided {fd : FuncData} (F : DLH.FnP K "_law_divided" s__law_divided [] fd) : FnOk P w K mg base CX0 5 (He.ga K "_law_divided") fd ["_law_one", "_law_other"] (sp__law_divided K) := by
  have R_ratio_over := @r_ratio_over P w K mg base T D
  refine DLH.FunD.ok0 (t := t__law_divided K) F sc__law_divided rfl (fun cdv A outer s H E hr => by exact (pss_one (ps_try_only (tb := fun W => tRet (tTup (tCons (tC (.str "made")) (tCons (tCallS (sp_ratio_over K) (WE W) (tCons (tVar 0) (tCons (tVar 1) (tNil)))) (tNil))))) (ts := fun a cls d => tRet (tTup (tCons (tC (.str "refused")) (tCons (tC (.str "")) (tNil))))) (Wout := fun _ _ _ _ => False) rfl rfl ⟨rfl, by decide, Or.inl T.g_DividedByNought⟩ takes0 (fun W pn xe tk _ => by exact (pss_one (ps_ret (pe_tup (pa_cons pe_str (pa_cons (pe_callSF R_ratio_over (hr.mono (by decide)) (fun σ => passAt tk σ) (pa_cons (pv 0) (pa_cons (pv 1) pa_nil))) pa_nil)))))) (fun a oe cls d pn hz hf => by exact (pss_one (ps_ret (pe_tup (pa_cons pe_str (pa_cons pe_str pa_nil))))))))) (fun vs H Q E h => pure_T (m := 0) h rfl fun Fm ds Xp P e l pl ht => ?_)
  subst e
  exact w__law_divided Fm T.em_DividedByNought E ds Xp P ht
theorem r__law_divided : FnR P w K mg base CX0 5 "_law_divided" ["_law_one", "_law_other"] [] (sp__law_divided K) := by
  obtain ⟨fd, F⟩ := D.d__law_divided
  exact ⟨⟨fd, [], ok__law_divided T D F, .nil, F.bindsN (fun _ _ _ _ _ _ us hl => match us, hl with | [_, _], _ => rfl)⟩, T.g__law_divided, F.kp⟩
theorem ok__law_made_rightly {fd : FuncData} (F : DLH.FnP K "_law_made_rightly" s__law_made_rightly [] fd) : FnOk P w K mg base CX0 5 (He.ga K "_law_made_rightly") fd ["_law_a", "_law_b"] (sp__law_made_rightly K) := by
  have R__law_is_ratio := @r__law_is_ratio P w K mg base T D
  have R__law_made := @r__law_made P w K mg base T D
  have R__law_ratio := @r__law_ratio P w K mg base T D
  refine DLH.FunD.ok0 (t := t__law_made_rightly K) F sc__law_made_rightly rfl (fun cdv A outer s H E hr => by exact (pss_cons (ps_if (pt_cmpR (op_eqD hr.units) (pv 1) pe_int (nomark _)) (pss_one (ps_ret (pe_cmpR (op_eqD hr.units) (pe_callF R__law_made (hr.mono (by decide)) pass0 (pa_cons (pv 0) (pa_cons (pv 1) pa_nil))) (pe_tup (pa_cons pe_str (pa_cons pe_str pa_nil))) (nomark _)))) pss_nil) (pss_cons (ps_set (i := 2) sc__law_made_rightly.nd rfl (Or.inl rfl) (pe_callF R__law_made (hr.mono (by decide)) pass0 (pa_cons (pv 0) (pa_cons (pv 1) pa_nil)))) (pss_one (ps_ret (pe_and (pe_cmpR (op_eqD hr.units) (pv 2) (pe_tup (pa_cons pe_str (pa_cons (pe_callF R__law_ratio (hr.mono (by decide)) pass0 (pa_cons (pv 0) (pa_cons (pv 1) pa_nil))) pa_nil))) (nomark _)) (pe_one (pe_callF R__law_is_ratio (hr.mono (by decide)) pass0 (pa_cons (pe_ix ix_seq (pv 2) pe_int (fun _ _ => rfl)) pa_nil))))))))) (fun vs H Q E h => pure_T (m := 1) h rfl fun Fm ds Xp P e l pl ht => ?_)
  subst e
  exact w__law_made_rightly Fm E ds Xp P ht
theorem r__law_made_rightly : FnR P w K mg base CX0 5 "_law_made_rightly" ["_law_a", "_law_b"] [] (sp__law_made_rightly K) := by
  obtain ⟨fd, F⟩ := D.d__law_made_rightly
  exact ⟨⟨fd, [], ok__law_made_rightly T D F, .nil, F.bindsN (fun _ _ _ _ _ _ us hl => match us, hl with | [_, _], _ => rfl)⟩, T.g__law_made_rightly, F.kp⟩
theorem ok__law_odd_rightly {fd : FuncData} (F : DLH.FnP K "_law_odd_rightly" s__law_odd_rightly [] fd) : FnOk P w K mg base CX0 5 (He.ga K "_law_odd_rightly") fd ["_law_a", "_law_b"] (sp__law_odd_rightly K) := by
  have R__law_gcd := @r__law_gcd P w K mg base T D
  have R__law_made := @r__law_made P w K mg base T D
  have R__law_told := @r__law_told P w K mg base T D
  have R_is_ratio := @r_is_ratio P w K mg base T D
  have R_is_whole_1 := @r_is_whole_1 P w K mg base T D
  have R_is_whole_2 := @r_is_whole_2 P w K mg base T D
  refine DLH.FunD.ok0 (t := t__law_odd_rightly K) F sc__law_odd_rightly rfl (fun cdv A outer s H E hr => by exact (pss_cons (ps_set (i := 2) sc__law_odd_rightly.nd rfl (Or.inl rfl) (pe_lst (pa_cons pe_bl (pa_cons pe_non (pa_cons pe_str (pa_cons (pe_tup (pa_cons pe_int pa_nil)) (pa_cons (pe_lst (pa_cons pe_int pa_nil)) pa_nil))))))) (pss_cons (ps_for PassesOwn.never rfl (pi_seq (pv 2)) (pg_name (i := 3) sc__law_odd_rightly.nd rfl (Or.inl rfl)) (pss_cons (ps_if (PW.pt (pw_or (pt_cmpR (op_neD hr.units) (pe_callF R__law_made (hr.mono (by decide)) pass0 (pa_cons (pv 3) (pa_cons pe_int pa_nil))) (pe_tup (pa_cons pe_str (pa_cons pe_str pa_nil))) (nomark _)) (pw_or1 (pt_cmpR (op_neD hr.units) (pe_callF R__law_made (hr.mono (by decide)) pass0 (pa_cons (pv 0) (pa_cons (pv 3) pa_nil))) (pe_tup (pa_cons pe_str (pa_cons pe_str pa_nil))) (nomark _))))) (pss_one (ps_ret pe_bl)) pss_nil) (pss_cons (ps_if (PW.pt (pw_or (pt_cmpR op_isNU (pe_callF R_is_whole_1 (hr.mono (by decide)) pass0 (pa_cons (pv 3) pa_nil)) pe_bl (nomark _)) (pw_or (pt_cmpR op_isNU (pe_callF R_is_ratio (hr.mono (by decide)) pass0 (pa_cons (pv 3) pa_nil)) pe_bl (nomark _)) (pw_or1 (pt_cmpR op_isNU (pe_callF R_is_ratio (hr.mono (by decide)) pass0 (pa_cons (pe_tup (pa_cons (pv 0) (pa_cons (pv 3) pa_nil))) pa_nil)) pe_bl (nomark _)))))) (pss_one (ps_ret pe_bl)) pss_nil) (pss_one (ps_if (PW.pt (pw_or (pt_cmpR op_isNU (pe_callF R_is_ratio (hr.mono (by decide)) pass0 (pa_cons (pe_tup (pa_cons (pv 3) (pa_cons pe_int pa_nil))) pa_nil)) pe_bl (nomark _)) (pw_or1 (pt_cmpR op_isNU (pe_callF R_is_whole_2 (hr.mono (by decide)) pass0 (pa_cons (pv 3) (pa_cons pe_int pa_nil))) pe_bl (nomark _))))) (pss_one (ps_ret pe_bl)) pss_nil))))) (pss_cons (ps_set (i := 4) sc__law_odd_rightly.nd rfl (Or.inl rfl) (pe_and (pe_cmpR op_ge (pv 1) pe_int (nomark _)) (pe_one (pe_cmpR (op_eqD hr.units) (pe_callF R__law_gcd (hr.mono (by decide)) pass0 (pa_cons (pv 0) (pa_cons (pv 1) pa_nil))) pe_int (nomark _))))) (pss_cons (ps_if (PW.pt (pw_or (pt_not (pt_val (pe_callF R__law_told (hr.mono (by decide)) pass0 (pa_cons (pe_callF R_is_ratio (hr.mono (by decide)) pass0 (pa_cons (pe_tup (pa_cons (pv 0) (pa_cons (pv 1) pa_nil))) pa_nil)) (pa_cons (pv 4) pa_nil))))) (pw_or (pt_cmpR op_isNU (pe_callF R_is_ratio (hr.mono (by decide)) pass0 (pa_cons (pe_lst (pa_cons (pv 0) (pa_cons (pv 1) pa_nil))) pa_nil)) pe_bl (nomark _)) (pw_or1 (pt_cmpR op_isNU (pe_callF R_is_ratio (hr.mono (by decide)) pass0 (pa_cons (pe_tup (pa_cons (pv 0) (pa_cons (pv 1) (pa_cons pe_int pa_nil)))) pa_nil)) pe_bl (nomark _)))))) (pss_one (ps_ret pe_bl)) pss_nil) (pss_one (ps_ret (pe_and (pe_cmpR op_isU (pe_callF R_is_ratio (hr.mono (by decide)) pass0 (pa_cons (pe_tup (pa_cons (pv 0) (pa_cons pe_int pa_nil))) pa_nil)) pe_bl (nomark _)) (pe_and (pe_cmpR op_isU (pe_callF R_is_ratio (hr.mono (by decide)) pass0 (pa_cons (pe_tup (pa_cons (pv 0) (pa_cons (pe_un un_neg pe_int) pa_nil))) pa_nil)) pe_bl (nomark _)) (pe_one (pe_cmpR op_isU (pe_callF R_is_ratio (hr.mono (by decide)) pass0 (pa_cons (pe_tup (pa_cons (pe_op op_mulU pe_int (pv 0)) (pa_cons pe_int pa_nil))) pa_nil)) pe_bl (nomark _)))))))))))) (fun vs H Q E h => pure_T (m := 3) h rfl fun Fm ds Xp P e l pl ht => ?_)
  subst e
  exact w__law_odd_rightly Fm E ds Xp P ht
theorem r__law_odd_rightly : FnR P w K mg base CX0 5 "_law_odd_rightly" ["_law_a", "_law_b"] [] (sp__law_odd_rightly K) := by
  obtain ⟨fd, F⟩ := D.d__law_odd_rightly
  exact ⟨⟨fd, [], ok__law_odd_rightly T D F, .nil, F.bindsN (fun _ _ _ _ _ _ us hl => match us, hl with | [_, _], _ => rfl)⟩, T.g__law_odd_rightly, F.kp⟩
theorem ok_law {fd : FuncData} (F : DLH.FnP K "law" s_law [] fd) : FnOk P w K mg base CX0 6 (He.ga K "law") fd ["_law_script"] (sp_law K) := by
  have R__law_divided := @r__law_divided P w K mg base T D
  have R__law_draw := @r__law_draw P w K mg base T D
  have R__law_is_ratio := @r__law_is_ratio P w K mg base T D
  have R__law_made_rightly := @r__law_made_rightly P w K mg base T D
  have R__law_number := @r__law_number P w K mg base T D
  have R__law_odd_rightly := @r__law_odd_rightly P w K mg base T D
  have R__law_plus := @r__law_plus P w K mg base T D
  have R__law_ratio := @r__law_ratio P w K mg base T D
  have R__law_start := @r__law_start P w K mg base T D
  have R__law_text := @r__law_text P w K mg base T D
  have R__law_times := @r__law_times P w K mg base T D
  have R__law_whole_rightly := @r__law_whole_rightly P w K mg base T D
  have R_make_ratio_1 := @r_make_ratio_1 P w K mg base T D
  have R_ratio_compare := @r_ratio_compare P w K mg base T D
  have R_ratio_minus := @r_ratio_minus P w K mg base T D
  have R_ratio_negative := @r_ratio_negative P w K mg base T D
  have R_ratio_plus := @r_ratio_plus P w K mg base T D
  have R_ratio_power := @r_ratio_power P w K mg base T D
  have R_ratio_text := @r_ratio_text P w K mg base T D
  have R_ratio_times := @r_ratio_times P w K mg base T D
  refine F.ok sc_law (fun vs H Q E h => by obtain ⟨_, _, rfl, _⟩ := h; rfl) (fun cdv A outer s H vs Q E hr h => ⟨law_1 K, PSs.nox (by exact (pss_cons (ps_set (i := 1) sc_law.nd rfl (Or.inl rfl) (pe_callF R__law_start (hr.mono (by decide)) pass0 (pa_cons (pv 0) pa_nil))) (pss_cons (ps_set (i := 2) sc_law.nd rfl (Or.inl rfl) (pe_callF R__law_number (hr.mono (by decide)) pass0 (pa_cons (pv 1) pa_nil))) (pss_cons (ps_set (i := 3) sc_law.nd rfl (Or.inl rfl) (pe_callF R__law_number (hr.mono (by decide)) pass0 (pa_cons (pv 1) pa_nil))) (pss_cons (ps_set (i := 4) sc_law.nd rfl (Or.inl rfl) (pe_callF R__law_number (hr.mono (by decide)) pass0 (pa_cons (pv 1) pa_nil))) (pss_cons (ps_set (i := 5) sc_law.nd rfl (Or.inl rfl) (pe_callF R__law_number (hr.mono (by decide)) pass0 (pa_cons (pv 1) pa_nil))) (pss_cons (ps_set (i := 6) sc_law.nd rfl (Or.inl rfl) (pe_callF R__law_draw (hr.mono (by decide)) pass0 (pa_cons (pv 1) (pa_cons pe_int pa_nil)))) (pss_cons (ps_if (PW.pt (pw_or (pt_not (pt_val (pe_callF R__law_made_rightly (hr.mono (by decide)) pass0 (pa_cons (pv 2) (pa_cons (pv 3) pa_nil))))) (pw_or (pt_not (pt_val (pe_callF R__law_made_rightly (hr.mono (by decide)) pass0 (pa_cons (pv 4) (pa_cons (pv 5) pa_nil))))) (pw_or1 (pt_not (pt_val (pe_callF R__law_odd_rightly (hr.mono (by decide)) pass0 (pa_cons (pv 2) (pa_cons (pv 3) pa_nil))))))))) (pss_one (ps_ret pe_bl)) pss_nil) (pss_cons (ps_if (PW.pt (pw_or (pt_not (pt_val (pe_callF R__law_whole_rightly (hr.mono (by decide)) pass0 (pa_cons (pv 2) (pa_cons (pv 4) (pa_cons (pv 5) pa_nil)))))) (pw_or (pt_cmpR (op_neD hr.units) (pe_callF R_make_ratio_1 (hr.mono (by decide)) passL (pa_cons (pv 4) pa_nil)) (pe_tup (pa_cons (pv 4) (pa_cons pe_int pa_nil))) (nomark _)) (pw_or (pt_cmpR (op_neD hr.units) (pe_glob rfl T.g_ZERO rfl) (pe_tup (pa_cons pe_int (pa_cons pe_int pa_nil))) (nomark _)) (pw_or1 (pt_cmpR (op_neD hr.units) (pe_glob rfl T.g_ONE rfl) (pe_tup (pa_cons pe_int (pa_cons pe_int pa_nil))) (nomark _))))))) (pss_one (ps_ret pe_bl)) pss_nil) (pss_cons (ps_set (i := 7) sc_law.nd rfl (Or.inl rfl) (pe_callF R__law_ratio (hr.mono (by decide)) pass0 (pa_cons (pv 2) (pa_cons (pe_ifExp (pt_cmpR (op_neD hr.units) (pv 3) pe_int (nomark _)) (pv 3) pe_int) pa_nil)))) (pss_cons (ps_set (i := 8) sc_law.nd rfl (Or.inl rfl) (pe_callF R__law_ratio (hr.mono (by decide)) pass0 (pa_cons (pv 4) (pa_cons (pe_ifExp (pt_cmpR (op_neD hr.units) (pv 5) pe_int (nomark _)) (pv 5) pe_int) pa_nil)))) (pss_cons (ps_set (i := 9) sc_law.nd rfl (Or.inl rfl) (pe_tup (pa_cons (pe_un un_neg (pe_ix ix_seq (pv 8) pe_int (fun _ _ => rfl))) (pa_cons (pe_ix ix_seq (pv 8) pe_int (fun _ _ => rfl)) pa_nil)))) (pss_cons (ps_set (i := 10) sc_law.nd rfl (Or.inl rfl) (pe_lst (pa_cons (pe_callF R_ratio_plus (hr.mono (by decide)) pass0 (pa_cons (pv 7) (pa_cons (pv 8) pa_nil))) (pa_cons (pe_callF R_ratio_minus (hr.mono (by decide)) pass0 (pa_cons (pv 7) (pa_cons (pv 8) pa_nil))) (pa_cons (pe_callF R_ratio_times (hr.mono (by decide)) pass0 (pa_cons (pv 7) (pa_cons (pv 8) pa_nil))) (pa_cons (pe_callF R_ratio_negative (hr.mono (by decide)) pass0 (pa_cons (pv 7) pa_nil)) pa_nil)))))) (pss_cons (ps_expr (pe_bm PySem.F.plainAttrs_list PySem.F.slot_list_append PySem.F.type_list_append mt_append (pv 10) (pa_cons (pe_callF R_ratio_power (hr.mono (by decide)) pass0 (pa_cons (pv 7) (pa_cons (pv 6) pa_nil))) pa_nil))) (pss_cons (ps_set (i := 11) sc_law.nd rfl (Or.inl rfl) (pe_lst (pa_cons (pe_callF R__law_plus (hr.mono (by decide)) pass0 (pa_cons (pv 7) (pa_cons (pv 8) pa_nil))) (pa_cons (pe_callF R__law_plus (hr.mono (by decide)) pass0 (pa_cons (pv 7) (pa_cons (pv 9) pa_nil))) (pa_cons (pe_callF R__law_times (hr.mono (by decide)) pass0 (pa_cons (pv 7) (pa_cons (pv 8) pa_nil))) (pa_cons (pe_tup (pa_cons (pe_un un_neg (pe_ix ix_seq (pv 7) pe_int (fun _ _ => rfl))) (pa_cons (pe_ix ix_seq (pv 7) pe_int (fun _ _ => rfl)) pa_nil))) pa_nil)))))) (pss_cons (ps_set (i := 12) sc_law.nd rfl (Or.inl rfl) (pe_tup (pa_cons pe_int (pa_cons pe_int pa_nil)))) (pss_cons (ps_for PassesOwn.never rfl (pi_range1 rfl T.n_range (pa_cons (pv 6) pa_nil)) (pg_name (i := 13) sc_law.nd rfl (Or.inl rfl)) (pss_one (ps_set (i := 12) sc_law.nd rfl (Or.inl rfl) (pe_callF R__law_times (hr.mono (by decide)) pass0 (pa_cons (pv 12) (pa_cons (pv 7) pa_nil)))))) (pss_cons (ps_expr (pe_bm PySem.F.plainAttrs_list PySem.F.slot_list_append PySem.F.type_list_append mt_append (pv 11) (pa_cons (pv 12) pa_nil))) (pss_cons (ps_if (PW.pt (pw_or (pt_cmpR (op_neD hr.units) (pv 10) (pv 11) (nomark _)) (pw_or1 (pt_not (pt_val (pe_callB (cr_all rfl) (by rfl) T.n_all (by decide +kernel) (pa_cons (pe_lc (own := [("_law_item", 16)]) (g := gName 16) (tt := tYes) rfl sc_law.nd (pi_seq (pv 10)) (blkOk_by (N := N_law) (sc := defScope s_law) (by decide +kernel)) (fun _ _ _ _ _ => (pg_name (i := 16) sc_law.nd rfl (Or.inl rfl))) (fun _ _ _ _ _ => pts_nil) (fun _ _ _ _ _ => (pe_callF R__law_is_ratio (hr.mono (by decide)) pass0 (pa_cons (pv 16) pa_nil)))) pa_nil))))))) (pss_one (ps_ret pe_bl)) pss_nil) (pss_cons (ps_if (pt_cmpR (op_eqD hr.units) (pe_ix ix_seq (pv 8) pe_int (fun _ _ => rfl)) pe_int (nomark _)) (pss_one (ps_if (pt_cmpR (op_neD hr.units) (pe_callF R__law_divided (hr.mono (by decide)) pass0 (pa_cons (pv 7) (pa_cons (pv 8) pa_nil))) (pe_tup (pa_cons pe_str (pa_cons pe_str pa_nil))) (nomark _)) (pss_one (ps_ret pe_bl)) pss_nil)) (pss_one (ps_if (pt_cmpR (op_neD hr.units) (pe_callF R__law_divided (hr.mono (by decide)) pass0 (pa_cons (pv 7) (pa_cons (pv 8) pa_nil))) (pe_tup (pa_cons pe_str (pa_cons (pe_callF R__law_ratio (hr.mono (by decide)) pass0 (pa_cons (pe_op op_mulU (pe_ix ix_seq (pv 7) pe_int (fun _ _ => rfl)) (pe_ix ix_seq (pv 8) pe_int (fun _ _ => rfl))) (pa_cons (pe_op op_mulU (pe_ix ix_seq (pv 7) pe_int (fun _ _ => rfl)) (pe_ix ix_seq (pv 8) pe_int (fun _ _ => rfl))) pa_nil))) pa_nil))) (nomark _)) (pss_one (ps_ret pe_bl)) pss_nil))) (pss_cons (ps_set (i := 14) sc_law.nd rfl (Or.inl rfl) (pe_op op_subU (pe_op op_mulU (pe_ix ix_seq (pv 7) pe_int (fun _ _ => rfl)) (pe_ix ix_seq (pv 8) pe_int (fun _ _ => rfl))) (pe_op op_mulU (pe_ix ix_seq (pv 8) pe_int (fun _ _ => rfl)) (pe_ix ix_seq (pv 7) pe_int (fun _ _ => rfl))))) (pss_cons (ps_set (i := 15) sc_law.nd rfl (Or.inl rfl) pe_int) (pss_cons (ps_if (pt_cmpR (op_neD hr.units) (pv 14) pe_int (nomark _)) (pss_one (ps_set (i := 15) sc_law.nd rfl (Or.inl rfl) (pe_ifExp (pt_cmpR op_gt (pv 14) pe_int (nomark _)) pe_int (pe_un un_neg pe_int)))) pss_nil) (pss_cons (ps_if (PW.pt (pw_or (pt_cmpR (op_neD hr.units) (pe_callF R_ratio_compare (hr.mono (by decide)) pass0 (pa_cons (pv 7) (pa_cons (pv 8) pa_nil))) (pv 15) (nomark _)) (pw_or (pt_cmpR (op_neD hr.units) (pe_callF R_ratio_compare (hr.mono (by decide)) pass0 (pa_cons (pv 8) (pa_cons (pv 7) pa_nil))) (pe_un un_neg (pv 15)) (nomark _)) (pw_or1 (pt_cmpR (op_neD hr.units) (pe_callF R_ratio_compare (hr.mono (by decide)) pass0 (pa_cons (pv 7) (pa_cons (pv 7) pa_nil))) pe_int (nomark _)))))) (pss_one (ps_ret pe_bl)) pss_nil) (pss_one (ps_ret (pe_and (pe_cmpR (op_eqD hr.units) (pe_callF R_ratio_text (hr.mono (by decide)) pass0 (pa_cons (pv 7) pa_nil)) (pe_callF R__law_text (hr.mono (by decide)) pass0 (pa_cons (pv 7) pa_nil)) (nomark _)) (pe_one (pe_cmpR (op_eqD hr.units) (pe_callF R_ratio_text (hr.mono (by decide)) pass0 (pa_cons (pv 8) pa_nil)) (pe_callF R__law_text (hr.mono (by decide)) pass0 (pa_cons (pv 8) pa_nil)) (nomark _)))))))))))))))))))))))))))))), pure_law K T.t_ONE T.t_ZERO vs H Q E h⟩)
end
def exl (K : PySem.W.Frag) : List Bool := [(He.Fa.free "abs").ok K, (He.Fa.free "all").ok K, (He.Fa.free "bool").ok K, (He.Fa.free "int").ok K, (He.Fa.free "isinstance").ok K, (He.Fa.free "len").ok K, (He.Fa.free "range").ok K, (He.Fa.free "str").ok K, (He.Fa.free "tuple").ok K, binB K "gcd" "math.gcd", (He.Fa.glo "BadRatio").ok K, (He.Fa.glo "DividedByNought").ok K, (He.Fa.glo "ONE").ok K, (He.Fa.glo "ZERO").ok K, (He.Fa.glo "_law_divided").ok K, (He.Fa.glo "_law_draw").ok K, (He.Fa.glo "_law_gcd").ok K, (He.Fa.glo "_law_is_ratio").ok K, (He.Fa.glo "_law_made").ok K, (He.Fa.glo "_law_made_rightly").ok K] ++ [(He.Fa.glo "_law_mixed").ok K, (He.Fa.glo "_law_number").ok K, (He.Fa.glo "_law_odd_rightly").ok K, (He.Fa.glo "_law_plus").ok K, (He.Fa.glo "_law_ratio").ok K, (He.Fa.glo "_law_start").ok K, (He.Fa.glo "_law_text").ok K, (He.Fa.glo "_law_times").ok K, (He.Fa.glo "_law_told").ok K, (He.Fa.glo "_law_whole_rightly").ok K, (He.Fa.glo "is_ratio").ok K, (He.Fa.glo "is_whole").ok K, (He.Fa.glo "law").ok K, (He.Fa.glo "lowest_terms").ok K, (He.Fa.glo "make_ratio").ok K, (He.Fa.glo "power_by").ok K, (He.Fa.glo "ratio_compare").ok K, (He.Fa.glo "ratio_minus").ok K, (He.Fa.glo "ratio_negative").ok K, (He.Fa.glo "ratio_over").ok K] ++ [(He.Fa.glo "ratio_plus").ok K, (He.Fa.glo "ratio_power").ok K, (He.Fa.glo "ratio_text").ok K, (He.Fa.glo "ratio_times").ok K, (He.Fa.exc "DividedByNought").ok K, oexB K (He.ga K "BadRatio"), He.eqO (PySem.W.findIn K (.ref (He.ga K "BadRatio")) "__init__") (some (some (.ref (He.ma K (He.ga K "BadRatio") "__init__")))), decide (PySem.W.typeIn K (.ref (He.ma K (He.ga K "BadRatio") "__init__")) = some (.type "function")), (He.Fa.noat "BadRatio" "what").ok K, xfB K (He.ga K "BadRatio"), (He.Fa.exm "BadRatio" "BadRatio" true).ok K, (He.Fa.exm "DividedByNought" "DividedByNought" true).ok K, He.tupB K "ZERO" [.int 0, .int 1], He.tupB K "ONE" [.int 1, .int 1]]
def ex (K : PySem.W.Frag) : Bool := (exl K).all id
theorem ex_at {K : PySem.W.Frag} (h : ex K = true) (i : Nat) {b : Bool} (e : (exl K)[i]? = some b) : b = true := List.all_eq_true.mp h b (List.mem_of_getElem? e)
def dd_power_by : He.DefD := ⟨("power_by", none), "power_by", "power_by", defArgs s_power_by, defBody s_power_by, defScope s_power_by, [], []⟩
def dd_is_whole : He.DefD := ⟨("is_whole", none), "is_whole", "is_whole", defArgs s_is_whole, defBody s_is_whole, defScope s_is_whole, [.non, .non], []⟩
def dd_is_ratio : He.DefD := ⟨("is_ratio", none), "is_ratio", "is_ratio", defArgs s_is_ratio, defBody s_is_ratio, defScope s_is_ratio, [], []⟩
def dd_make_ratio : He.DefD := ⟨("make_ratio", none), "make_ratio", "make_ratio", defArgs s_make_ratio, defBody s_make_ratio, defScope s_make_ratio, [.int 1], []⟩
def dd_lowest_terms : He.DefD := ⟨("lowest_terms", none), "lowest_terms", "lowest_terms", defArgs s_lowest_terms, defBody s_lowest_terms, defScope s_lowest_terms, [], []⟩
def dd_ratio_plus : He.DefD := ⟨("ratio_plus", none), "ratio_plus", "ratio_plus", defArgs s_ratio_plus, defBody s_ratio_plus, defScope s_ratio_plus, [], []⟩
def dd_ratio_minus : He.DefD := ⟨("ratio_minus", none), "ratio_minus", "ratio_minus", defArgs s_ratio_minus, defBody s_ratio_minus, defScope s_ratio_minus, [], []⟩
def dd_ratio_times : He.DefD := ⟨("ratio_times", none), "ratio_times", "ratio_times", defArgs s_ratio_times, defBody s_ratio_times, defScope s_ratio_times, [], []⟩
def dd_ratio_over : He.DefD := ⟨("ratio_over", none), "ratio_over", "ratio_over", defArgs s_ratio_over, defBody s_ratio_over, defScope s_ratio_over, [], []⟩
def dd_ratio_negative : He.DefD := ⟨("ratio_negative", none), "ratio_negative", "ratio_negative", defArgs s_ratio_negative, defBody s_ratio_negative, defScope s_ratio_negative, [], []⟩
def dd_ratio_power : He.DefD := ⟨("ratio_power", none), "ratio_power", "ratio_power", defArgs s_ratio_power, defBody s_ratio_power, defScope s_ratio_power, [], []⟩
def dd_ratio_compare : He.DefD := ⟨("ratio_compare", none), "ratio_compare", "ratio_compare", defArgs s_ratio_compare, defBody s_ratio_compare, defScope s_ratio_compare, [], []⟩
def dd_ratio_text : He.DefD := ⟨("ratio_text", none), "ratio_text", "ratio_text", defArgs s_ratio_text, defBody s_ratio_text, defScope s_ratio_text, [], []⟩
def dd__law_start : He.DefD := ⟨("_law_start", none), "_law_start", "_law_start", defArgs s__law_start, defBody s__law_start, defScope s__law_start, [], []⟩
def dd__law_mixed : He.DefD := ⟨("_law_mixed", none), "_law_mixed", "_law_mixed", defArgs s__law_mixed, defBody s__law_mixed, defScope s__law_mixed, [], []⟩
def dd__law_draw : He.DefD := ⟨("_law_draw", none), "_law_draw", "_law_draw", defArgs s__law_draw, defBody s__law_draw, defScope s__law_draw, [], []⟩
def dd__law_gcd : He.DefD := ⟨("_law_gcd", none), "_law_gcd", "_law_gcd", defArgs s__law_gcd, defBody s__law_gcd, defScope s__law_gcd, [], []⟩
def dd__law_ratio : He.DefD := ⟨("_law_ratio", none), "_law_ratio", "_law_ratio", defArgs s__law_ratio, defBody s__law_ratio, defScope s__law_ratio, [], []⟩
def dd__law_plus : He.DefD := ⟨("_law_plus", none), "_law_plus", "_law_plus", defArgs s__law_plus, defBody s__law_plus, defScope s__law_plus, [], []⟩
def dd__law_times : He.DefD := ⟨("_law_times", none), "_law_times", "_law_times", defArgs s__law_times, defBody s__law_times, defScope s__law_times, [], []⟩
def dd__law_is_ratio : He.DefD := ⟨("_law_is_ratio", none), "_law_is_ratio", "_law_is_ratio", defArgs s__law_is_ratio, defBody s__law_is_ratio, defScope s__law_is_ratio, [], []⟩
def dd__law_told : He.DefD := ⟨("_law_told", none), "_law_told", "_law_told", defArgs s__law_told, defBody s__law_told, defScope s__law_told, [], []⟩
def dd__law_number : He.DefD := ⟨("_law_number", none), "_law_number", "_law_number", defArgs s__law_number, defBody s__law_number, defScope s__law_number, [], []⟩
def dd__law_made : He.DefD := ⟨("_law_made", none), "_law_made", "_law_made", defArgs s__law_made, defBody s__law_made, defScope s__law_made, [], []⟩
def dd__law_divided : He.DefD := ⟨("_law_divided", none), "_law_divided", "_law_divided", defArgs s__law_divided, defBody s__law_divided, defScope s__law_divided, [], []⟩
def dd__law_text : He.DefD := ⟨("_law_text", none), "_law_text", "_law_text", defArgs s__law_text, defBody s__law_text, defScope s__law_text, [], []⟩
def dd__law_made_rightly : He.DefD := ⟨("_law_made_rightly", none), "_law_made_rightly", "_law_made_rightly", defArgs s__law_made_rightly, defBody s__law_made_rightly, defScope s__law_made_rightly, [], []⟩
def dd__law_odd_rightly : He.DefD := ⟨("_law_odd_rightly", none), "_law_odd_rightly", "_law_odd_rightly", defArgs s__law_odd_rightly, defBody s__law_odd_rightly, defScope s__law_odd_rightly, [], []⟩
def dd__law_whole_rightly : He.DefD := ⟨("_law_whole_rightly", none), "_law_whole_rightly", "_law_whole_rightly", defArgs s__law_whole_rightly, defBody s__law_whole_rightly, defScope s__law_whole_rightly, [], []⟩
def dd_law : He.DefD := ⟨("law", none), "law", "law", defArgs s_law, defBody s_law, defScope s_law, [], []⟩
def dd_i_BadRatio : He.DefD := ⟨("BadRatio", some "__init__"), "__init__", "BadRatio.__init__", defArgs s_i_BadRatio, defBody s_i_BadRatio, defScope s_i_BadRatio, [], []⟩
def fn : List He.DefD := [dd_power_by, dd_is_whole, dd_is_ratio, dd_make_ratio, dd_lowest_terms, dd_ratio_plus, dd_ratio_minus, dd_ratio_times, dd_ratio_over, dd_ratio_negative, dd_ratio_power, dd_ratio_compare, dd_ratio_text, dd__law_start, dd__law_mixed, dd__law_draw, dd__law_gcd, dd__law_ratio, dd__law_plus, dd__law_times] ++ [dd__law_is_ratio, dd__law_told, dd__law_number, dd__law_made, dd__law_divided, dd__law_text, dd__law_made_rightly, dd__law_odd_rightly, dd__law_whole_rightly, dd_law, dd_i_BadRatio]
theorem txt {K : PySem.W.Frag} {h : Heap} {mg : Str → Option Value} (X : K.In h) (G : h.Ns mainGlobals mg) (c : ex K = true) : Txt K mg where
  n_abs := He.free_ok X G (ex_at c 0 rfl)
  n_all := He.free_ok X G (ex_at c 1 rfl)
  n_bool := He.free_ok X G (ex_at c 2 rfl)
  n_int := He.free_ok X G (ex_at c 3 rfl)
  n_isinstance := He.free_ok X G (ex_at c 4 rfl)
  n_len := He.free_ok X G (ex_at c 5 rfl)
  n_range := He.free_ok X G (ex_at c 6 rfl)
  n_str := He.free_ok X G (ex_at c 7 rfl)
  n_tuple := He.free_ok X G (ex_at c 8 rfl)
  b_gcd := binB_ok X G (ex_at c 9 rfl)
  g_BadRatio := He.glo_ok X G (ex_at c 10 rfl)
  g_DividedByNought := He.glo_ok X G (ex_at c 11 rfl)
  g_ONE := He.glo_ok X G (ex_at c 12 rfl)
  g_ZERO := He.glo_ok X G (ex_at c 13 rfl)
  g__law_divided := He.glo_ok X G (ex_at c 14 rfl)
  g__law_draw := He.glo_ok X G (ex_at c 15 rfl)
  g__law_gcd := He.glo_ok X G (ex_at c 16 rfl)
  g__law_is_ratio := He.glo_ok X G (ex_at c 17 rfl)
  g__law_made := He.glo_ok X G (ex_at c 18 rfl)
  g__law_made_rightly := He.glo_ok X G (ex_at c 19 rfl)
  g__law_mixed := He.glo_ok X G (ex_at c 20 rfl)
  g__law_number := He.glo_ok X G (ex_at c 21 rfl)
  g__law_odd_rightly := He.glo_ok X G (ex_at c 22 rfl)
  g__law_plus := He.glo_ok X G (ex_at c 23 rfl)
  g__law_ratio := He.glo_ok X G (ex_at c 24 rfl)
  g__law_start := He.glo_ok X G (ex_at c 25 rfl)
  g__law_text := He.glo_ok X G (ex_at c 26 rfl)
  g__law_times := He.glo_ok X G (ex_at c 27 rfl)
  g__law_told := He.glo_ok X G (ex_at c 28 rfl)
  g__law_whole_rightly := He.glo_ok X G (ex_at c 29 rfl)
  g_is_ratio := He.glo_ok X G (ex_at c 30 rfl)
  g_is_whole := He.glo_ok X G (ex_at c 31 rfl)
  g_law := He.glo_ok X G (ex_at c 32 rfl)
  g_lowest_terms := He.glo_ok X G (ex_at c 33 rfl)
  g_make_ratio := He.glo_ok X G (ex_at c 34 rfl)
  g_power_by := He.glo_ok X G (ex_at c 35 rfl)
  g_ratio_compare := He.glo_ok X G (ex_at c 36 rfl)
  g_ratio_minus := He.glo_ok X G (ex_at c 37 rfl)
  g_ratio_negative := He.glo_ok X G (ex_at c 38 rfl)
  g_ratio_over := He.glo_ok X G (ex_at c 39 rfl)
  g_ratio_plus := He.glo_ok X G (ex_at c 40 rfl)
  g_ratio_power := He.glo_ok X G (ex_at c 41 rfl)
  g_ratio_text := He.glo_ok X G (ex_at c 42 rfl)
  g_ratio_times := He.glo_ok X G (ex_at c 43 rfl)
  e_DividedByNought := ex_at c 44 rfl
  o_BadRatio := oexB_ok (ex_at c 45 rfl)
  ini_BadRatio := He.eqO_ok (ex_at c 46 rfl)
  ty_BadRatio := of_decide_eq_true (ex_at c 47 rfl)
  nf_BadRatio_what := He.noat_ok (ex_at c 48 rfl)
  xf_BadRatio := xfB_ok (ex_at c 49 rfl)
  em_BadRatio := He.exm_ok (ex_at c 50 rfl)
  em_DividedByNought := He.exm_ok (ex_at c 51 rfl)
  t_ZERO := fun Gh => .tup (He.tupB_ok (ex_at c 52 rfl) Gh) (dpa_of_ints (is := [0, 1]))
  t_ONE := fun Gh => .tup (He.tupB_ok (ex_at c 53 rfl) Gh) (dpa_of_ints (is := [1, 1]))
  hd_ := trivial
theorem defs {K : PySem.W.Frag} (c : SaysZ ex fn K) : Defs K where
  d_power_by := c.def_ 0 (d := dd_power_by) rfl
  d_is_whole := c.def_ 1 (d := dd_is_whole) rfl
  d_is_ratio := c.def_ 2 (d := dd_is_ratio) rfl
  d_make_ratio := c.def_ 3 (d := dd_make_ratio) rfl
  d_lowest_terms := c.def_ 4 (d := dd_lowest_terms) rfl
  d_ratio_plus := c.def_ 5 (d := dd_ratio_plus) rfl
  d_ratio_minus := c.def_ 6 (d := dd_ratio_minus) rfl
  d_ratio_times := c.def_ 7 (d := dd_ratio_times) rfl
  d_ratio_over := c.def_ 8 (d := dd_ratio_over) rfl
  d_ratio_negative := c.def_ 9 (d := dd_ratio_negative) rfl
  d_ratio_power := c.def_ 10 (d := dd_ratio_power) rfl
  d_ratio_compare := c.def_ 11 (d := dd_ratio_compare) rfl
  d_ratio_text := c.def_ 12 (d := dd_ratio_text) rfl
  d__law_start := c.def_ 13 (d := dd__law_start) rfl
  d__law_mixed := c.def_ 14 (d := dd__law_mixed) rfl
  d__law_draw := c.def_ 15 (d := dd__law_draw) rfl
  d__law_gcd := c.def_ 16 (d := dd__law_gcd) rfl
  d__law_ratio := c.def_ 17 (d := dd__law_ratio) rfl
  d__law_plus := c.def_ 18 (d := dd__law_plus) rfl
  d__law_times := c.def_ 19 (d := dd__law_times) rfl
  d__law_is_ratio := c.def_ 20 (d := dd__law_is_ratio) rfl
  d__law_told := c.def_ 21 (d := dd__law_told) rfl
  d__law_number := c.def_ 22 (d := dd__law_number) rfl
  d__law_made := c.def_ 23 (d := dd__law_made) rfl
  d__law_divided := c.def_ 24 (d := dd__law_divided) rfl
  d__law_text := c.def_ 25 (d := dd__law_text) rfl
  d__law_made_rightly := c.def_ 26 (d := dd__law_made_rightly) rfl
  d__law_odd_rightly := c.def_ 27 (d := dd__law_odd_rightly) rfl
  d__law_whole_rightly := c.def_ 28 (d := dd__law_whole_rightly) rfl
  d_law := c.def_ 29 (d := dd_law) rfl
  d_i_BadRatio := c.def_ 30 (d := dd_i_BadRatio) rfl
def loose : List Str := (["gcd", "RootError", "BadRatio", "DividedByNought", "ZERO", "ONE", "power_by", "is_whole", "is_ratio", "make_ratio", "lowest_terms", "ratio_plus", "ratio_minus", "ratio_times", "ratio_over", "ratio_negative", "ratio_power", "ratio_compare", "ratio_text", "_law_start"] : List Str) ++ (["_law_mixed", "_law_draw", "_law_gcd", "_law_ratio", "_law_plus", "_law_times", "_law_is_ratio", "_law_told", "_law_number", "_law_made", "_law_divided", "_law_text", "_law_made_rightly", "_law_odd_rightly", "_law_whole_rightly"] : List Str)
abbrev R : PySem.W.OpenRow := PySem.W.OpenLaw.row PySem.Challenge.rw_neverfactored_k01_whole_ratios_reckoned
abbrev hk : PySem.W.Hook := hookZ 6 ex fn
def ob (s : PySem.W.SharedT) : He.AlD := obsZG 6 ex fn (HandSHeadRun.getT s)
theorem ob_eq (s : PySem.W.SharedT) : ob s = hk.obs s.abs := obsZG_eq (HandSHeadRun.getT_eq s)
theorem run (w : World) : HandSHeadRun.RunEqI R (PySem.W.view R.prog [0, 39]) hk ob 2000 loose w := by
  unfold HandSHeadRun.RunEqI
  kernel_rfl
theorem facts {P : Program} {w : World} {K : PySem.W.Frag} {h : Heap} {mg : Str → Option Value} {f : Addr} (X : K.In h) (G : h.Ns mainGlobals mg) (hfa : mg ("law" : Str) = some (.ref f)) (c : SaysZ ex fn K) :
    ∃ fd : FuncData, (∀ (s : Shared) (v : Value), BindsTo s fd ⟨[v], []⟩ [("_law_script", v)]) ∧ ∀ base : Heap, K.In base → base.Ns mainGlobals mg → FnOk P w K mg base CX0 6 f fd ["_law_script"] (sp_law K) := by
  have T := txt X G c.fact
  have D := defs c
  obtain ⟨fd, F⟩ := D.d_law
  have e := hfa.symm.trans T.g_law
  cases e
  have b := FunD.bindsA (ps := ["_law_script"]) F fun _ _ _ _ _ _ us hl => match us, hl with | [_], _ => rfl
  exact ⟨fd, fun s v => b s [v] rfl, fun base _ _ => ok_law T D F⟩
end A01
open PySem PySem.W PySem.Calls PyProof.Rows
theorem PySem.Challenge.cw_neverfactored_k01_whole_ratios_reckoned_holds : PySem.Challenge.rw_neverfactored_k01_whole_ratios_reckoned.Holds := by
  w_on; o_law
  refine HandSHeadRun.head_imp (r := OpenLaw.row PySem.Challenge.rw_neverfactored_k01_whole_ratios_reckoned) (q := view (OpenLaw.row PySem.Challenge.rw_neverfactored_k01_whole_ratios_reckoned).prog [0, 39]) (H := A01.hk) (ob := A01.ob) (M := 2000) (loose := A01.loose) (d := HandSHeadRun.topDef (OpenLaw.row PySem.Challenge.rw_neverfactored_k01_whole_ratios_reckoned).prog 39) (kwd := []) A01.ob_eq A01.run
    (by kernel_rfl) (by kernel_rfl) (by kernel_rfl) (by rfl) (by first | assumption | decide +kernel) (by decide +kernel) ⟨rfl, rfl, rfl, rfl, rfl, by decide +kernel⟩ ?hw ?hc
  case hw => w_witness2
  case hc =>
    refine L2.walk_ofE (l := PySem.Challenge.rw_neverfactored_k01_whole_ratios_reckoned) (n := 63) (k := 6) (x := "_law_script") (CX := L2.CX0) rfl (by decide) (by kernel_rfl) ⟨rfl, by decide, by decide⟩ ?F (fun _ _ _ _ z => z)
    intro w mg fa h Y G hmg0
    obtain ⟨K, KX, c⟩ := Y
    have hmg : mg ("law" : PySem.Str) = some (.ref fa) := by
      have e : (HandSHeadRun.topDef (OpenLaw.row PySem.Challenge.rw_neverfactored_k01_whole_ratios_reckoned).prog 39).name = ("law" : PySem.Str) := by kernel_rfl
      rw [← e]
      exact hmg0
    obtain ⟨fd, hb, hF⟩ := A01.facts (P := (PySem.Challenge.rw_neverfactored_k01_whole_ratios_reckoned).prog) (w := w) KX G hmg c
    exact ⟨K, fd, NF.sp_law K, KX, hb, fun H a ns hl _ hS => ⟨a, ns, rfl, hS, Nat.le_trans hl (by decide), fun _ => rfl⟩, hF⟩

