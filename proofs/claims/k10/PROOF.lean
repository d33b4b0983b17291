import PyProof.Rows.All
import Wide.All
import OpenK.AllK
import Wide.FinOn
import HandS.ForMost
import HandS.IsInst
import HandS.Wide
import HandS.Gcd
import HandS.Zip
import HandS.TupAny
import HandS.DictTup
import HandS.TryOnly
import HandS.Style
import PySem.Challenge.RW_everypath_k10_strips_told
set_option Elab.async false
set_option linter.all false
set_option maxRecDepth 100000
set_option maxHeartbeats 4000000
/-! Ev: values without addresses. A def of the text is read as a plain Lean function from data to data (and the law's stream of draws); one theorem a construct says that the def does what the function says. -/
namespace L2.Ev
open PySem PySem.Spec PyProof.Rows

/-! ### data -/
inductive D where
  | non | bl (b : Bool) | int (i : Int) | str (x : Str)
  | lst (ds : List D) | tup (ds : List D) | dct (kvs : List (D × D)) | strm
  deriving Inhabited

/-- the stream of a law: the cells that are left, the digits that are left, how many draws, what is mixed -/
structure Strm where
  cells : List Int
  dig : Int
  cnt : Nat
  mix : Int
  hm : 0 ≤ mix ∧ mix < 2147483647

def kD : Key → D
  | .inl i => .int i
  | .inr x => .str x

mutual
/-- the value v of the base B stands for d; p: where the stream stands -/
inductive Rp (K : PySem.W.Frag) (p : Addr) (B : Hp) : V → D → Prop
  | non : Rp K p B .non .non
  | bl (b : Bool) : Rp K p B (.bl b) (.bl b)
  | int (i : Int) : Rp K p B (.int i) (.int i)
  | str (x : Str) : Rp K p B (.str x) (.str x)
  | lst {a : Addr} {xs : List V} {ds : List D} : B a = some (.lst xs) → RpAll K p B xs ds → Rp K p B (.ref a) (.lst ds)
  | tup {a : Addr} {xs : List V} {ds : List D} : SqT K B a xs → RpAll K p B xs ds → Rp K p B (.ref a) (.tup ds)
  | dK {a : Addr} {kvs : List (Key × V)} {ds : List (D × D)} : B a = some (.dK kvs) → RpK K p B kvs ds → Rp K p B (.ref a) (.dct ds)
  | strm : Rp K p B (.ref p) .strm
inductive RpAll (K : PySem.W.Frag) (p : Addr) (B : Hp) : List V → List D → Prop
  | nil : RpAll K p B [] []
  | cons {v : V} {vs : List V} {d : D} {ds : List D} : Rp K p B v d → RpAll K p B vs ds → RpAll K p B (v :: vs) (d :: ds)
inductive RpK (K : PySem.W.Frag) (p : Addr) (B : Hp) : List (Key × V) → List (D × D) → Prop
  | nil : RpK K p B [] []
  | cons {k : Key} {v : V} {vs : List (Key × V)} {d : D} {ds : List (D × D)} : Rp K p B v d → RpK K p B vs ds → RpK K p B ((k, v) :: vs) ((kD k, d) :: ds)
end

theorem sqT_same {K : PySem.W.Frag} {H H' : Hp} {a : Addr} {xs : List V} (e : Same H H') (h : SqT K H a xs) : SqT K H' a xs := by
  rcases h with (h | ⟨o, h⟩) | h
  · exact .inl (.inl (e _ _ h))
  · exact .inl (.inr ⟨o, e _ _ h⟩)
  · exact .inr h
theorem rd_same {H H' : Hp} {a : Addr} {u : HO} (e : Same H H') (h : Rd H a u) : Rd H' a u := by
  rcases h with h | ⟨o, h⟩
  · exact .inl (e _ _ h)
  · exact .inr ⟨o, e _ _ h⟩
section
variable {K : PySem.W.Frag} {p : Addr} {B B' : Hp}
mutual
theorem Rp.mono (e : Same B B') : ∀ {v : V} {d : D}, Rp K p B v d → Rp K p B' v d
  | _, _, .non => .non
  | _, _, .bl b => .bl b
  | _, _, .int i => .int i
  | _, _, .str x => .str x
  | _, _, .lst h r => .lst (e _ _ h) (RpAll.mono e r)
  | _, _, .tup h r => .tup (sqT_same e h) (RpAll.mono e r)
  | _, _, .dK h r => .dK (e _ _ h) (RpK.mono e r)
  | _, _, .strm => .strm
theorem RpAll.mono (e : Same B B') : ∀ {vs : List V} {ds : List D}, RpAll K p B vs ds → RpAll K p B' vs ds
  | _, _, .nil => .nil
  | _, _, .cons h r => .cons (Rp.mono e h) (RpAll.mono e r)
theorem RpK.mono (e : Same B B') : ∀ {vs : List (Key × V)} {ds : List (D × D)}, RpK K p B vs ds → RpK K p B' vs ds
  | _, _, .nil => .nil
  | _, _, .cons h r => .cons (Rp.mono e h) (RpK.mono e r)
end
theorem RpAll.length : ∀ {vs : List V} {ds : List D}, RpAll K p B vs ds → vs.length = ds.length
  | _, _, .nil => rfl
  | _, _, .cons _ r => congrArg (· + 1) r.length
theorem RpAll.get : ∀ {vs : List V} {ds : List D} {i : Nat} {d : D}, RpAll K p B vs ds → ds[i]? = some d → ∃ v, vs[i]? = some v ∧ Rp K p B v d
  | _, _, _, _, .nil, e => by simp at e
  | _, _, 0, _, .cons h _, e => ⟨_, rfl, by simp at e; rw [← e]; exact h⟩
  | _, _, i + 1, _, .cons _ r, e => by
    obtain ⟨v, h1, h2⟩ := RpAll.get (i := i) r (by simpa using e)
    exact ⟨v, by simpa using h1, h2⟩
theorem RpAll.append : ∀ {vs ws : List V} {ds es : List D}, RpAll K p B vs ds → RpAll K p B ws es → RpAll K p B (vs ++ ws) (ds ++ es)
  | _, _, _, _, .nil, s => s
  | _, _, _, _, .cons h r, s => .cons h (r.append s)
theorem RpAll.drop : ∀ {vs : List V} {ds : List D} (n : Nat), RpAll K p B vs ds → RpAll K p B (vs.drop n) (ds.drop n)
  | _, _, 0, r => r
  | _, _, _ + 1, .nil => .nil
  | _, _, n + 1, .cons _ r => RpAll.drop n r
theorem RpAll.take : ∀ {vs : List V} {ds : List D} (n : Nat), RpAll K p B vs ds → RpAll K p B (vs.take n) (ds.take n)
  | _, _, 0, _ => .nil
  | _, _, _ + 1, .nil => .nil
  | _, _, n + 1, .cons h r => .cons h (RpAll.take n r)
theorem RpAll.eraseIdx : ∀ {vs : List V} {ds : List D} (n : Nat), RpAll K p B vs ds → RpAll K p B (vs.eraseIdx n) (ds.eraseIdx n)
  | _, _, _, .nil => .nil
  | _, _, 0, .cons _ r => r
  | _, _, n + 1, .cons h r => .cons h (RpAll.eraseIdx n r)
theorem RpAll.set {v : V} {d : D} (h : Rp K p B v d) : ∀ {vs : List V} {ds : List D} (n : Nat), RpAll K p B vs ds → RpAll K p B (vs.set n v) (ds.set n d)
  | _, _, _, .nil => .nil
  | _, _, 0, .cons _ r => .cons h r
  | _, _, n + 1, .cons g r => .cons g (RpAll.set h n r)
theorem RpAll.one {v : V} {d : D} (h : Rp K p B v d) : RpAll K p B [v] [d] := .cons h .nil
theorem Rp.int_inv {v : V} {i : Int} (h : Rp K p B v (.int i)) : v = .int i := by cases h; rfl
theorem Rp.bl_inv {v : V} {b : Bool} (h : Rp K p B v (.bl b)) : v = .bl b := by cases h; rfl
theorem Rp.str_inv {v : V} {x : Str} (h : Rp K p B v (.str x)) : v = .str x := by cases h; rfl
theorem Rp.non_inv {v : V} (h : Rp K p B v .non) : v = .non := by cases h; rfl
theorem Rp.strm_inv {v : V} (h : Rp K p B v .strm) : v = .ref p := by cases h; rfl
theorem Rp.lst_inv {v : V} {ds : List D} (h : Rp K p B v (.lst ds)) : ∃ a xs, v = .ref a ∧ B a = some (.lst xs) ∧ RpAll K p B xs ds := by
  cases h with
  | lst h r => exact ⟨_, _, rfl, h, r⟩
theorem Rp.tup_inv {v : V} {ds : List D} (h : Rp K p B v (.tup ds)) : ∃ a xs, v = .ref a ∧ SqT K B a xs ∧ RpAll K p B xs ds := by
  cases h with
  | tup h r => exact ⟨_, _, rfl, h, r⟩
theorem Rp.dct_inv {v : V} {ds : List (D × D)} (h : Rp K p B v (.dct ds)) : ∃ a kvs, v = .ref a ∧ B a = some (.dK kvs) ∧ RpK K p B kvs ds := by
  cases h with
  | dK h r => exact ⟨_, _, rfl, h, r⟩
/-- v is none just if d is -/
theorem Rp.non_iff {v : V} {d : D} (h : Rp K p B v d) : (v = .non) ↔ (d = .non) := by
  cases h <;> constructor <;> intro e <;> first | rfl | cases e
end

/-! ### steps -/
/-- the stream stands at p, its cells at q -/
structure StrmAt (H : Hp) (p q : Addr) (S : Strm) : Prop where
  hp : H p = some (.lst [.ref q, .int S.dig, .int S.cnt, .int S.mix])
  hq : H q = some (.lst (S.cells.map V.int))
/-- from base and heap to base and heap: nothing but the stream has changed -/
structure Step (p q : Addr) (B H B' H' : Hp) (S' : Strm) : Prop where
  bb : Same B B'
  hh : ∀ a o, a ≠ p → a ≠ q → H a = some o → H' a = some o
  nw : ∀ a o, B' a = some o → B a = none → H a = none
  sub : Same B' H'
  np : B' p = none
  nq : B' q = none
  pq : p ≠ q
  st : StrmAt H' p q S'
section
variable {p q : Addr} {B H B1 H1 B2 H2 : Hp} {S S1 S2 : Strm}
theorem Step.self (h : Step p q B H B1 H1 S) : Step p q B1 H1 B1 H1 S :=
  ⟨fun _ _ e => e, fun _ _ _ _ e => e, fun a o e n => (by rw [e] at n; cases n), h.sub, h.np, h.nq, h.pq, h.st⟩
theorem Step.trans (h : Step p q B H B1 H1 S1) (g : Step p q B1 H1 B2 H2 S2) : Step p q B H B2 H2 S2 := by
  refine ⟨h.bb.trans g.bb, fun a o hp hq e => g.hh a o hp hq (h.hh a o hp hq e), fun a o e n => ?_, g.sub, g.np, g.nq, g.pq, g.st⟩
  cases e1 : B1 a with
  | some u => exact h.nw a u e1 n
  | none =>
    have e2 := g.nw a o e e1
    cases e3 : H a with
    | none => rfl
    | some u =>
      by_cases hp : a = p
      · subst hp; rw [g.np] at e; cases e
      by_cases hq : a = q
      · subst hq; rw [g.nq] at e; cases e
      rw [h.hh a u hp hq e3] at e2; cases e2
/-- a new object, known -/
theorem Step.alloc {r : Addr} {o : HO} (h : Step p q B H B1 H1 S) (n : H1 r = none) : Step p q B H (upd B1 r o) (upd H1 r o) S := by
  have hrp : r ≠ p := fun e => by subst e; rw [h.st.hp] at n; cases n
  have hrq : r ≠ q := fun e => by subst e; rw [h.st.hq] at n; cases n
  have nb : B1 r = none := h.sub.free n
  refine h.trans ⟨fun a u e => ?_, fun a u _ _ e => ?_, fun a u e n' => ?_, fun a u e => ?_, ?_, ?_, h.pq, ⟨?_, ?_⟩⟩
  · rw [upd_ne (ne_of_none e nb)]; exact e
  · rw [upd_ne (ne_of_none e n)]; exact e
  · by_cases ha : a = r
    · subst ha; exact n
    · rw [upd_ne ha, n'] at e; cases e
  · by_cases ha : a = r
    · subst ha; rw [upd_same] at e ⊢; exact e
    · rw [upd_ne ha] at e ⊢; exact h.sub a u e
  · rw [upd_ne hrp.symm]; exact h.np
  · rw [upd_ne hrq.symm]; exact h.nq
  · rw [upd_ne hrp.symm]; exact h.st.hp
  · rw [upd_ne hrq.symm]; exact h.st.hq
/-- a new object, not known yet -/
theorem Step.hid {r : Addr} {o : HO} (h : Step p q B H B1 H1 S) (n : H1 r = none) : Step p q B H B1 (upd H1 r o) S := by
  have hrp : r ≠ p := fun e => by subst e; rw [h.st.hp] at n; cases n
  have hrq : r ≠ q := fun e => by subst e; rw [h.st.hq] at n; cases n
  have nb : B1 r = none := h.sub.free n
  refine h.trans ⟨fun a u e => e, fun a u _ _ e => ?_, fun a u e n' => (by rw [n'] at e; cases e), fun a u e => ?_, h.np, h.nq, h.pq, ⟨?_, ?_⟩⟩
  · rw [upd_ne (ne_of_none e n)]; exact e
  · rw [upd_ne (ne_of_none e nb)]; exact h.sub a u e
  · rw [upd_ne hrp.symm]; exact h.st.hp
  · rw [upd_ne hrq.symm]; exact h.st.hq
/-- an object that is new since (B, H) and not known: it becomes known -/
theorem Step.know {r : Addr} {o : HO} (h : Step p q B H B1 H1 S) (e : H1 r = some o) (n : H r = none) (hp : r ≠ p) (hq : r ≠ q) (nb : B1 r = none) : Step p q B H (upd B1 r o) H1 S := by
  refine ⟨fun a u e' => ?_, h.hh, fun a u e' n' => ?_, fun a u e' => ?_, ?_, ?_, h.pq, h.st⟩
  · have e1 := h.bb a u e'
    rw [upd_ne (ne_of_none e1 nb)]; exact e1
  · by_cases ha : a = r
    · subst ha; exact n
    · rw [upd_ne ha] at e'; exact h.nw a u e' n'
  · by_cases ha : a = r
    · subst ha; rw [upd_same] at e'; rw [e]; exact e'
    · rw [upd_ne ha] at e'; exact h.sub a u e'
  · rw [upd_ne (Ne.symm hp)]; exact h.np
  · rw [upd_ne (Ne.symm hq)]; exact h.nq
/-- an object that is new since (B, H) and not known is changed -/
theorem Step.mut {r : Addr} {o : HO} (h : Step p q B H B1 H1 S) (n : H r = none) (hp : r ≠ p) (hq : r ≠ q) (nb : B1 r = none) : Step p q B H B1 (upd H1 r o) S := by
  refine ⟨h.bb, fun a u hp' hq' e' => ?_, h.nw, fun a u e' => ?_, h.np, h.nq, h.pq, ⟨?_, ?_⟩⟩
  · rw [upd_ne (ne_of_none e' n)]; exact h.hh a u hp' hq' e'
  · rw [upd_ne (ne_of_none e' nb)]; exact h.sub a u e'
  · rw [upd_ne (Ne.symm hp)]; exact h.st.hp
  · rw [upd_ne (Ne.symm hq)]; exact h.st.hq
end

/-! ### the frame -/
inductive Ent where
  | sh (d : D)
  /-- a list of this frame's alone -/
  | ol (ds : List D)
abbrev En := List (Option Ent)
/-- the state at a def's entry: its base, its heap; the stream's places; how many slots -/
structure Cfg where
  K : PySem.W.Frag
  p : Addr
  q : Addr
  B0 : Hp
  H0 : Hp
  n : Nat
def SlotOk (K : PySem.W.Frag) (p : Addr) (B : Hp) (O : Nat → Option Addr) (σ : St) (H : Hp) (i : Nat) : Ent → Prop
  | .sh d => ∃ v, σ[i]? = some (some v) ∧ Rp K p B v d
  | .ol ds => ∃ a vs, O i = some a ∧ σ[i]? = some (some (.ref a)) ∧ H a = some (.lst vs) ∧ RpAll K p B vs ds
structure Rl (C : Cfg) (ρ : En) (S : Strm) (B : Hp) (O : Nat → Option Addr) (σ : St) (H : Hp) : Prop where
  wd : Step C.p C.q C.B0 C.H0 B H S
  len : σ.length = C.n
  lenE : ρ.length = C.n
  slots : ∀ (i : Nat) e, ρ[i]? = some (some e) → SlotOk C.K C.p B O σ H i e
  own : ∀ i a, O i = some a → B a = none ∧ C.H0 a = none ∧ a ≠ C.p ∧ a ≠ C.q ∧ ∃ o, H a = some o
  inj : ∀ i j a, O i = some a → O j = some a → i = j
section
variable {C : Cfg} {ρ : En} {S S' : Strm} {B B' : Hp} {O : Nat → Option Addr} {σ : St} {H H' : Hp}
theorem Rl.self (R : Rl C ρ S B O σ H) : Step C.p C.q B H B H S := R.wd.self
theorem Rl.step (R : Rl C ρ S B O σ H) (t : Step C.p C.q B H B' H' S') : Rl C ρ S' B' O σ H' := by
  refine ⟨R.wd.trans t, R.len, R.lenE, fun i e h => ?_, fun i a h => ?_, R.inj⟩
  · have q := R.slots i e h
    cases e with
    | sh d => obtain ⟨v, h1, h2⟩ := q; exact ⟨v, h1, h2.mono t.bb⟩
    | ol ds =>
      obtain ⟨a, vs, h0, h1, h2, h3⟩ := q
      obtain ⟨_, _, n1, n2, _⟩ := R.own i a h0
      exact ⟨a, vs, h0, h1, t.hh a _ n1 n2 h2, h3.mono t.bb⟩
  · obtain ⟨h1, h2, h3, h4, o, h5⟩ := R.own i a h
    refine ⟨?_, h2, h3, h4, o, t.hh a o h3 h4 h5⟩
    cases e : B' a with
    | none => rfl
    | some u => have z := t.nw a u e h1; rw [h5] at z; cases z
/-- a name gets a value that is known -/
theorem Rl.set (R : Rl C ρ S B O σ H) {i : Nat} {v : V} {d : D} (hi : i < C.n) (r : Rp C.K C.p B v d) : Rl C (ρ.set i (some (.sh d))) S B O (σ.set i (some v)) H := by
  refine ⟨R.wd, by rw [List.length_set]; exact R.len, by rw [List.length_set]; exact R.lenE, fun j e h => ?_, R.own, R.inj⟩
  by_cases hj : i = j
  · subst hj
    rw [List.getElem?_set_self (by rw [R.lenE]; exact hi)] at h
    cases h
    exact ⟨v, List.getElem?_set_self (by rw [R.len]; exact hi), r⟩
  · rw [List.getElem?_set_ne hj] at h
    have q := R.slots j e h
    cases e with
    | sh d => obtain ⟨w, h1, h2⟩ := q; exact ⟨w, by rw [List.getElem?_set_ne hj]; exact h1, h2⟩
    | ol ds => obtain ⟨a, vs, h0, h1, h2, h3⟩ := q; exact ⟨a, vs, h0, by rw [List.getElem?_set_ne hj]; exact h1, h2, h3⟩
def upO (O : Nat → Option Addr) (i : Nat) (a : Option Addr) : Nat → Option Addr := fun j => if j = i then a else O j
/-- a name gets a list that is the frame's alone -/
theorem Rl.setOwn (R : Rl C ρ S B O σ H) {i : Nat} {a : Addr} {vs : List V} {ds : List D} (hi : i < C.n) (e : H a = some (.lst vs)) (nb : B a = none) (n0 : C.H0 a = none) (hp : a ≠ C.p) (hq : a ≠ C.q) (no : ∀ j, O j ≠ some a)
    (r : RpAll C.K C.p B vs ds) : Rl C (ρ.set i (some (.ol ds))) S B (upO O i (some a)) (σ.set i (some (.ref a))) H := by
  refine ⟨R.wd, by rw [List.length_set]; exact R.len, by rw [List.length_set]; exact R.lenE, fun j e' h => ?_, fun j b h => ?_, fun j k b h1 h2 => ?_⟩
  · by_cases hj : i = j
    · subst hj
      rw [List.getElem?_set_self (by rw [R.lenE]; exact hi)] at h
      cases h
      exact ⟨a, vs, by unfold upO; rw [if_pos rfl], List.getElem?_set_self (by rw [R.len]; exact hi), e, r⟩
    · rw [List.getElem?_set_ne hj] at h
      have q := R.slots j e' h
      cases e' with
      | sh d => obtain ⟨w, h1, h2⟩ := q; exact ⟨w, by rw [List.getElem?_set_ne hj]; exact h1, h2⟩
      | ol ds => obtain ⟨b, ws, h0, h1, h2, h3⟩ := q; exact ⟨b, ws, by unfold upO; rw [if_neg (Ne.symm hj)]; exact h0, by rw [List.getElem?_set_ne hj]; exact h1, h2, h3⟩
  · unfold upO at h
    split at h
    · cases h; exact ⟨nb, n0, hp, hq, _, e⟩
    · exact R.own j b h
  · unfold upO at h1 h2
    split at h1 <;> split at h2
    · rename_i x y; rw [x, y]
    · cases h1; exact absurd h2 (no k)
    · cases h2; exact absurd h1 (no j)
    · exact R.inj j k b h1 h2
/-- the frame's own list changes -/
theorem Rl.mut (R : Rl C ρ S B O σ H) {i : Nat} {a : Addr} {vs : List V} {ds : List D} (hi : i < C.n) (h0 : O i = some a) (hs : σ[i]? = some (some (.ref a))) (r : RpAll C.K C.p B vs ds) :
    Rl C (ρ.set i (some (.ol ds))) S B O σ (upd H a (.lst vs)) := by
  obtain ⟨nb, n0, hp, hq, o, e⟩ := R.own i a h0
  refine ⟨R.wd.mut n0 hp hq nb, R.len, by rw [List.length_set]; exact R.lenE, fun j e' h => ?_, fun j b h => ?_, R.inj⟩
  · by_cases hj : i = j
    · subst hj
      rw [List.getElem?_set_self (by rw [R.lenE]; exact hi)] at h
      cases h
      exact ⟨a, vs, h0, hs, upd_same, r⟩
    · rw [List.getElem?_set_ne hj] at h
      have q := R.slots j e' h
      cases e' with
      | sh d => exact q
      | ol ds =>
        obtain ⟨b, ws, h0', h1, h2, h3⟩ := q
        refine ⟨b, ws, h0', h1, ?_, h3⟩
        rw [upd_ne (fun z => hj (R.inj i j a h0 (by rw [← z]; exact h0')))]; exact h2
  · obtain ⟨h1, h2, h3, h4, u, h5⟩ := R.own j b h
    refine ⟨h1, h2, h3, h4, ?_⟩
    by_cases hb : b = a
    · subst hb; exact ⟨_, upd_same⟩
    · exact ⟨u, by rw [upd_ne hb]; exact h5⟩
/-- the frame's own list becomes known -/
theorem Rl.freeze (R : Rl C ρ S B O σ H) {i : Nat} {ds : List D} (h : ρ[i]? = some (some (.ol ds))) : ∃ a vs, σ[i]? = some (some (.ref a)) ∧ H a = some (.lst vs) ∧ B a = none ∧ RpAll C.K C.p B vs ds ∧
    Rl C (ρ.set i (some (.sh (.lst ds)))) S (upd B a (.lst vs)) (upO O i none) σ H := by
  obtain ⟨a, vs, h0, h1, h2, h3⟩ := R.slots i _ h
  obtain ⟨nb, n0, hp, hq, o, e⟩ := R.own i a h0
  have sm : Same B (upd B a (.lst vs)) := fun b u e' => by rw [upd_ne (ne_of_none e' nb)]; exact e'
  have hi : i < C.n := by rw [← R.lenE]; exact (List.getElem?_eq_some_iff.mp h).1
  refine ⟨a, vs, h1, h2, nb, h3, R.wd.know h2 n0 hp hq nb, R.len, by rw [List.length_set]; exact R.lenE, fun j e' h' => ?_, fun j b h' => ?_, fun j k b h1 h2 => ?_⟩
  · by_cases hj : i = j
    · subst hj
      rw [List.getElem?_set_self (by rw [R.lenE]; exact hi)] at h'
      cases h'
      exact ⟨_, h1, .lst upd_same (h3.mono sm)⟩
    · rw [List.getElem?_set_ne hj] at h'
      have q := R.slots j e' h'
      cases e' with
      | sh d => obtain ⟨w, h1, h2⟩ := q; exact ⟨w, h1, h2.mono sm⟩
      | ol ds => obtain ⟨b, ws, g0, g1, g2, g3⟩ := q; exact ⟨b, ws, by unfold upO; rw [if_neg (Ne.symm hj)]; exact g0, g1, g2, g3.mono sm⟩
  · unfold upO at h'
    split at h'
    · cases h'
    · rename_i hji
      obtain ⟨g1, g2, g3, g4, g5⟩ := R.own j b h'
      refine ⟨?_, g2, g3, g4, g5⟩
      rw [upd_ne (fun z => hji (R.inj j i a (by rw [← z]; exact h') h0))]; exact g1
  · unfold upO at h1 h2
    split at h1
    · cases h1
    · split at h2
      · cases h2
      · exact R.inj j k b h1 h2
/-- a name is forgotten -/
theorem Rl.drop (R : Rl C ρ S B O σ H) (i : Nat) : Rl C (ρ.set i none) S B O σ H := by
  refine ⟨R.wd, R.len, by rw [List.length_set]; exact R.lenE, fun j e' h' => ?_, R.own, R.inj⟩
  by_cases hj : i = j
  · subst hj
    by_cases hi : i < ρ.length
    · rw [List.getElem?_set_self hi] at h'; cases h'
    · rw [List.getElem?_eq_none (by rw [List.length_set]; omega)] at h'; cases h'
  · rw [List.getElem?_set_ne hj] at h'
    exact R.slots j e' h'
end
end L2.Ev
namespace L2.Ev
open PySem PySem.Spec PyProof.Rows

/-! ### readings -/
def LIM : Nat := 2 ^ 800000
abbrev M (α : Type) := En → Strm → Option (α × Strm)
abbrev ME := M D
/-- at most k draws -/
def Cst {α : Type} (k : Nat) (g : M α) : Prop := ∀ ρ S d S', g ρ S = some (d, S') → S.cnt ≤ S'.cnt ∧ S'.cnt ≤ S.cnt + k
section
variable {α β γ : Type}
def mPure (o : Option α) : M α := fun _ S => o.map fun a => (a, S)
def mBind (a : M α) (f : α → M β) : M β := fun ρ S => (a ρ S).bind fun x => f x.1 ρ x.2
def mFail : M α := fun _ _ => none
theorem cst_pure {o : Option α} : Cst 0 (mPure o) := fun ρ S d S' e => by
  unfold mPure at e
  cases o with
  | none => cases e
  | some a => cases e; exact ⟨Nat.le_refl _, Nat.le_refl _⟩
theorem cst_fail : Cst 0 (mFail : M α) := fun _ _ _ _ e => by cases e
theorem mBind_some {a : M α} {f : α → M β} {ρ : En} {S S' : Strm} {d : β} (e : mBind a f ρ S = some (d, S')) : ∃ x S1, a ρ S = some (x, S1) ∧ f x ρ S1 = some (d, S') := by
  unfold mBind at e
  cases h : a ρ S with
  | none => rw [h] at e; cases e
  | some x => rw [h] at e; exact ⟨x.1, x.2, rfl, e⟩
theorem mPure_some {o : Option α} {ρ : En} {S S' : Strm} {d : α} (e : mPure o ρ S = some (d, S')) : o = some d ∧ S' = S := by
  unfold mPure at e
  cases o with
  | none => cases e
  | some a => cases e; exact ⟨rfl, rfl⟩
theorem cst_bind {a : M α} {f : α → M β} {k l : Nat} (ha : Cst k a) (hf : ∀ x, Cst l (f x)) : Cst (k + l) (mBind a f) := fun ρ S d S' e => by
  obtain ⟨x, S1, e1, e2⟩ := mBind_some e
  obtain ⟨h1, h2⟩ := ha _ _ _ _ e1
  obtain ⟨h3, h4⟩ := hf x _ _ _ _ e2
  omega
theorem cst_mono {a : M α} {k l : Nat} (ha : Cst k a) (h : k ≤ l) : Cst l a := fun ρ S d S' e => by
  obtain ⟨h1, h2⟩ := ha _ _ _ _ e
  omega
end

def tPu (C : Cfg) (g : ME) : TE := fun σ H Q => ∃ ρ S B O, Rl C ρ S B O σ H ∧ ∃ d S', g ρ S = some (d, S') ∧ S'.cnt ≤ LIM ∧ ∀ v B' H', Step C.p C.q B H B' H' S' → Rp C.K C.p B' v d → Q v H'
def tPuT (C : Cfg) (g : M Bool) : TT := fun σ H Q => ∃ ρ S B O, Rl C ρ S B O σ H ∧ ∃ b S', g ρ S = some (b, S') ∧ S'.cnt ≤ LIM ∧ ∀ B' H', Step C.p C.q B H B' H' S' → Q b H'
def tPuA (C : Cfg) (g : M (List D)) : TA := fun σ H Q => ∃ ρ S B O, Rl C ρ S B O σ H ∧ ∃ ds S', g ρ S = some (ds, S') ∧ S'.cnt ≤ LIM ∧ ∀ vs B' H', Step C.p C.q B H B' H' S' → RpAll C.K C.p B' vs ds → Q vs H'
/-- a list that is new and nobody's yet -/
def tPuF (C : Cfg) (g : M (List D)) : TE := fun σ H Q => ∃ ρ S B O, Rl C ρ S B O σ H ∧ ∃ ds S', g ρ S = some (ds, S') ∧ S'.cnt ≤ LIM ∧
  ∀ a vs B' H', Step C.p C.q B H B' H' S' → H a = none → B' a = none → H' a = some (.lst vs) → RpAll C.K C.p B' vs ds → Q (.ref a) H'
structure PuE (X : Cx) (e : Expr) (g : ME) (k : Nat) : Prop where
  cst : Cst k g
  run : ∀ C : Cfg, C.K = X.K → C.n = X.N.length → PE X e (tPu C g)
structure PuT (X : Cx) (e : Expr) (g : M Bool) (k : Nat) : Prop where
  cst : Cst k g
  run : ∀ C : Cfg, C.K = X.K → C.n = X.N.length → PT X e (tPuT C g)
/-- a test whatever its 'whole' is -/
structure PuW (X : Cx) (e : Expr) (g : M Bool) (k : Nat) : Prop where
  cst : Cst k g
  run : ∀ C : Cfg, C.K = X.K → C.n = X.N.length → PW X e (tPuT C g)
structure PuA (X : Cx) (es : List Expr) (g : M (List D)) (k : Nat) : Prop where
  cst : Cst k g
  len : ∀ ρ S ds S', g ρ S = some (ds, S') → ds.length = es.length
  run : ∀ C : Cfg, C.K = X.K → C.n = X.N.length → PA X es (tPuA C g)
structure PuK (X : Cx) (es : List Keyword) (g : M (List D)) (k : Nat) : Prop where
  cst : Cst k g
  len : ∀ ρ S ds S', g ρ S = some (ds, S') → ds.length = es.length
  run : ∀ C : Cfg, C.K = X.K → C.n = X.N.length → PK X es (tPuA C g)
structure PuF (X : Cx) (e : Expr) (g : M (List D)) (k : Nat) : Prop where
  cst : Cst k g
  run : ∀ C : Cfg, C.K = X.K → C.n = X.N.length → PE X e (tPuF C g)

section
variable {X : Cx} {e a b c : Expr} {ga gb gc : ME} {k ka kb kc : Nat}
theorem pe_imp {t t' : TE} (h : PE X e t) (hi : ∀ σ H Q, t' σ H Q → t σ H Q) : PE X e t' := ⟨fun pins s σ H Q I q => h.run pins s σ H Q I (hi _ _ _ q)⟩
theorem pt_imp {t t' : TT} (h : PT X e t) (hi : ∀ σ H Q, t' σ H Q → t σ H Q) : PT X e t' := ⟨fun pins s σ H Q I q => h.run pins s σ H Q I (hi _ _ _ q)⟩
theorem pw_imp {t t' : TT} (h : PW X e t) (hi : ∀ σ H Q, t' σ H Q → t σ H Q) : PW X e t' := ⟨fun wh pins s σ H Q I q => h.run wh pins s σ H Q I (hi _ _ _ q)⟩
theorem pa_imp {es : List Expr} {t t' : TA} (h : PA X es t) (hi : ∀ σ H Q, t' σ H Q → t σ H Q) : PA X es t' := ⟨fun pos pins s σ H Q I q => h.run pos pins s σ H Q I (hi _ _ _ q)⟩
theorem pk_imp {es : List Keyword} {t t' : TA} (h : PK X es t) (hi : ∀ σ H Q, t' σ H Q → t σ H Q) : PK X es t' := ⟨fun pos pins s σ H Q I q => h.run pos pins s σ H Q I (hi _ _ _ q)⟩

/-! ### names, constants -/
def mVar (i : Nat) : ME := fun ρ S => match ρ[i]? with
  | some (some (.sh d)) => some (d, S)
  | _ => none
def mC (d : D) : ME := fun _ S => some (d, S)
theorem cst_var {i : Nat} : Cst 0 (mVar i) := fun ρ S d S' e => by
  unfold mVar at e
  split at e
  · cases e; exact ⟨Nat.le_refl _, Nat.le_refl _⟩
  · cases e
theorem cst_c {d : D} : Cst 0 (mC d) := fun ρ S d S' e => by cases e; exact ⟨Nat.le_refl _, Nat.le_refl _⟩
theorem pu_of_var {i : Nat} (h : PE X e (tVar i)) : PuE X e (mVar i) 0 := ⟨cst_var, fun C hK hn => pe_imp h fun σ H Q ⟨ρ, S, B, O, R, d, S', eg, lim, q⟩ => by
  unfold mVar at eg
  split at eg
  · rename_i d' hd
    cases eg
    obtain ⟨v, h1, h2⟩ := R.slots i _ hd
    exact ⟨v, h1, q v B H R.self h2⟩
  · cases eg⟩
theorem pu_var (i : Nat) {x : Str} {pos : Pos} (hN : X.N[i]? = some x := by rfl) (hv : Vis X.env.scope x := by first | exact Or.inl rfl | exact Or.inr (Or.inl rfl) | exact Or.inr (Or.inr rfl)) (hd : (x == ("__debug__" : Str)) = false := by decide)
    (hcd : (x == ("__classdict__" : Str)) = false := by decide) : PuE X (.Name x pos) (mVar i) 0 := pu_of_var (pv i hN hv hd hcd)
theorem pu_of_c {v : V} {d : D} (h : PE X e (tC v)) (r : ∀ K p B, Rp K p B v d) : PuE X e (mC d) 0 := ⟨cst_c, fun C hK hn => pe_imp h fun σ H Q ⟨ρ, S, B, O, R, d', S', eg, lim, q⟩ => by
  cases eg
  exact q v B H R.self (r _ _ _)⟩
theorem pu_int {i : Int} {j : Nat} {pos : Pos} : PuE X (.Constant (.int i) j pos) (mC (.int i)) 0 := pu_of_c pe_int fun _ _ _ => .int i
theorem pu_bl {b : Bool} {j : Nat} {pos : Pos} : PuE X (.Constant (.bool b) j pos) (mC (.bl b)) 0 := pu_of_c pe_bl fun _ _ _ => .bl b
theorem pu_non {j : Nat} {pos : Pos} : PuE X (.Constant .none j pos) (mC .non) 0 := pu_of_c pe_non fun _ _ _ => .non
theorem pu_str {x : Str} {j : Nat} {pos : Pos} : PuE X (.Constant (.str x) j pos) (mC (.str x)) 0 := pu_of_c pe_str fun _ _ _ => .str x

/-! ### operations of one, two values -/
def Op2 (K : PySem.W.Frag) (r : R2) (f : D → D → Option D) : Prop := ∀ (p q : Addr) (B H : Hp) (S : Strm) (x y : V) (a b d : D) (Q : VK), Step p q B H B H S → Rp K p B x a → Rp K p B y b → f a b = some d →
  (∀ v B' H', Step p q B H B' H' S → Rp K p B' v d → Q v H') → r x y H Q
def Op1 (K : PySem.W.Frag) (r : V → Hp → VK → Prop) (f : D → Option D) : Prop := ∀ (p q : Addr) (B H : Hp) (S : Strm) (x : V) (a d : D) (Q : VK), Step p q B H B H S → Rp K p B x a → f a = some d →
  (∀ v B' H', Step p q B H B' H' S → Rp K p B' v d → Q v H') → r x H Q
def mOp2 (f : D → D → Option D) (ga gb : ME) : ME := mBind ga fun x => mBind gb fun y => mPure (f x y)
def mOp1 (f : D → Option D) (ga : ME) : ME := mBind ga fun x => mPure (f x)
theorem cst_op2 {f : D → D → Option D} (ha : Cst ka ga) (hb : Cst kb gb) : Cst (ka + kb) (mOp2 f ga gb) := cst_bind ha fun x => cst_bind hb fun y => cst_pure
theorem cst_op1 {f : D → Option D} (ha : Cst ka ga) : Cst ka (mOp1 f ga) := cst_bind ha fun x => cst_pure
theorem pu_op2 {r : R2} {f : D → D → Option D} (mk : ∀ ta tb, PE X a ta → PE X b tb → PE X e (tOp r ta tb)) (ho : Op2 X.K r f) (ha : PuE X a ga ka) (hb : PuE X b gb kb) : PuE X e (mOp2 f ga gb) (ka + kb) := by
  refine ⟨cst_op2 ha.cst hb.cst, fun C hK hn => pe_imp (mk _ _ (ha.run C hK hn) (hb.run C hK hn)) fun σ H Q ⟨ρ, S, B, O, R, d, S', eg, lim, q⟩ => ?_⟩
  obtain ⟨x, S1, e1, eg⟩ := mBind_some eg
  obtain ⟨y, S2, e2, eg⟩ := mBind_some eg
  obtain ⟨ef, rfl⟩ := mPure_some eg
  have l2 := hb.cst _ _ _ _ e2
  refine ⟨ρ, S, B, O, R, x, S1, e1, Nat.le_trans l2.1 lim, fun v B1 H1 t1 r1 => ?_⟩
  refine ⟨ρ, S1, B1, O, R.step t1, y, S', e2, lim, fun u B2 H2 t2 r2 => ?_⟩
  exact ho C.p C.q B2 H2 S' v u x y d Q t2.self (hK ▸ r1.mono t2.bb) (hK ▸ r2) ef fun w B3 H3 t3 r3 => q w B3 H3 ((t1.trans t2).trans t3) (hK ▸ r3)
theorem pu_op1 {r : V → Hp → VK → Prop} {f : D → Option D} (mk : ∀ ta, PE X a ta → PE X e (fun σ H Q => ta σ H fun x H1 => r x H1 Q)) (ho : Op1 X.K r f) (ha : PuE X a ga ka) : PuE X e (mOp1 f ga) ka := by
  refine ⟨cst_op1 ha.cst, fun C hK hn => pe_imp (mk _ (ha.run C hK hn)) fun σ H Q ⟨ρ, S, B, O, R, d, S', eg, lim, q⟩ => ?_⟩
  obtain ⟨x, S1, e1, eg⟩ := mBind_some eg
  obtain ⟨ef, rfl⟩ := mPure_some eg
  refine ⟨ρ, S, B, O, R, x, S', e1, lim, fun v B1 H1 t1 r1 => ?_⟩
  exact ho C.p C.q B1 H1 S' v x d Q t1.self (hK ▸ r1) ef fun w B3 H3 t3 r3 => q w B3 H3 (t1.trans t3) (hK ▸ r3)
theorem pu_bin {op : Operator} {r : R2} {f : D → D → Option D} {pos : Pos} (ho : OpR X (binaryOp op) r) (hf : Op2 X.K r f) (ha : PuE X a ga ka) (hb : PuE X b gb kb) : PuE X (.BinOp a op b pos) (mOp2 f ga gb) (ka + kb) :=
  pu_op2 (fun _ _ h1 h2 => pe_op ho h1 h2) hf ha hb
theorem pu_cmp {op : CmpOp} {r : R2} {f : D → D → Option D} {pos : Pos} (ho : OpR X (compareOp op) r) (hf : Op2 X.K r f) (ha : PuE X a ga ka) (hb : PuE X b gb kb) (hm : behindInMarks op b = false := by first | exact nomark _ | rfl) : PuE X (.Compare a [op] [b] pos) (mOp2 f ga gb) (ka + kb) :=
  pu_op2 (fun _ _ h1 h2 => pe_cmpR ho h1 h2 hm) hf ha hb
theorem pu_ix {r : R2} {f : D → D → Option D} {pos : Pos} (hr : IxR X r) (hf : Op2 X.K r f) (ha : PuE X a ga ka) (hb : PuE X b gb kb) (hs : PlainIx b := by exact fun _ _ => rfl) : PuE X (.Subscript a b pos) (mOp2 f ga gb) (ka + kb) :=
  pu_op2 (fun _ _ h1 h2 => pe_ix hr h1 h2 hs) hf ha hb

/-- scalars: nothing is laid -/
theorem op2_int {K : PySem.W.Frag} {C : Int → Int → Prop} {g : Int → Int → V} {f : D → D → Option D} (h : ∀ a b d, f a b = some d → ∃ i j, a = .int i ∧ b = .int j ∧ C i j ∧ ∀ K p B, Rp K p B (g i j) d) : Op2 K (rI C g) f := by
  intro p q B H S x y a b d Q t r1 r2 e k
  obtain ⟨i, j, rfl, rfl, hc, r⟩ := h a b d e
  exact ⟨i, j, r1.int_inv, r2.int_inv, hc, k _ B H t (r _ _ _)⟩
theorem op2_int0 {K : PySem.W.Frag} {g : Int → Int → V} {f : D → D → Option D} (h : ∀ a b d, f a b = some d → ∃ i j, a = .int i ∧ b = .int j ∧ ∀ K p B, Rp K p B (g i j) d) : Op2 K (rI0 g) f := by
  intro p q B H S x y a b d Q t r1 r2 e k
  obtain ⟨i, j, rfl, rfl, r⟩ := h a b d e
  exact ⟨i, j, r1.int_inv, r2.int_inv, k _ B H t (r _ _ _)⟩
theorem Op2.or1 {K : PySem.W.Frag} {r r' : R2} {f : D → D → Option D} (h : Op2 K r f) : Op2 K (fun x y H Q => r x y H Q ∨ r' x y H Q) f := fun p q B H S x y a b d Q t r1 r2 e k => .inl (h p q B H S x y a b d Q t r1 r2 e k)
theorem Op2.or2 {K : PySem.W.Frag} {r r' : R2} {f : D → D → Option D} (h : Op2 K r' f) : Op2 K (fun x y H Q => r x y H Q ∨ r' x y H Q) f := fun p q B H S x y a b d Q t r1 r2 e k => .inr (h p q B H S x y a b d Q t r1 r2 e k)

/-! ### arithmetic -/
def dSub : D → D → Option D
  | .int i, .int j => some (.int (i - j))
  | _, _ => none
def dMul : D → D → Option D
  | .int i, .int j => if i.natAbs.log2 + j.natAbs.log2 < 1000000 then some (.int (i * j)) else none
  | _, _ => none
def dDiv : D → D → Option D
  | .int i, .int j => if 0 < j ∧ j.natAbs.log2 < 9000 then some (.int (i / j)) else none
  | _, _ => none
def dMod : D → D → Option D
  | .int i, .int j => if 0 < j then some (.int (i % j)) else none
  | _, _ => none
def dPow : D → D → Option D
  | .int i, .int j => if 0 ≤ j ∧ j ≤ 1000000 ∧ i.natAbs < 2 ^ 64 then some (.int (i ^ j.toNat)) else none
  | _, _ => none
def dLt : D → D → Option D
  | .int i, .int j => some (.bl (decide (i < j)))
  | _, _ => none
def dLe : D → D → Option D
  | .int i, .int j => some (.bl (decide (i ≤ j)))
  | _, _ => none
def dGt : D → D → Option D
  | .int i, .int j => some (.bl (decide (j < i)))
  | _, _ => none
def dGe : D → D → Option D
  | .int i, .int j => some (.bl (decide (j ≤ i)))
  | _, _ => none
def dNeg : D → Option D
  | .int i => some (.int (-i))
  | _ => none
def dNot : D → Option D
  | .bl b => some (.bl (!b))
  | _ => none
theorem f_sub {K : PySem.W.Frag} : Op2 K (rI0 fun i j => .int (i - j)) dSub := op2_int0 fun a b d e => by
  unfold dSub at e; split at e
  · cases e; exact ⟨_, _, rfl, rfl, fun _ _ _ => .int _⟩
  · cases e
theorem f_mul {K : PySem.W.Frag} : Op2 K (rI CMulW fun i j => .int (i * j)) dMul := op2_int fun a b d e => by
  unfold dMul at e; split at e
  · split at e
    · rename_i h; cases e; exact ⟨_, _, rfl, rfl, h, fun _ _ _ => .int _⟩
    · cases e
  · cases e
theorem f_div {K : PySem.W.Frag} : Op2 K (rI CDivW fun i j => .int (i / j)) dDiv := op2_int fun a b d e => by
  unfold dDiv at e; split at e
  · split at e
    · rename_i h; cases e; exact ⟨_, _, rfl, rfl, h, fun _ _ _ => .int _⟩
    · cases e
  · cases e
theorem f_mod {K : PySem.W.Frag} : Op2 K (rI (fun _ j => 0 < j) fun i j => .int (i % j)) dMod := op2_int fun a b d e => by
  unfold dMod at e; split at e
  · split at e
    · rename_i h; cases e; exact ⟨_, _, rfl, rfl, h, fun _ _ _ => .int _⟩
    · cases e
  · cases e
theorem f_pow {K : PySem.W.Frag} : Op2 K (rI CPow fun i j => .int (i ^ j.toNat)) dPow := op2_int fun a b d e => by
  unfold dPow at e; split at e
  · split at e
    · rename_i h; cases e; exact ⟨_, _, rfl, rfl, h, fun _ _ _ => .int _⟩
    · cases e
  · cases e
theorem f_lt {K : PySem.W.Frag} : Op2 K (rI0 fun i j => .bl (decide (i < j))) dLt := op2_int0 fun a b d e => by
  unfold dLt at e; split at e
  · cases e; exact ⟨_, _, rfl, rfl, fun _ _ _ => .bl _⟩
  · cases e
theorem f_le {K : PySem.W.Frag} : Op2 K (rI0 fun i j => .bl (decide (i ≤ j))) dLe := op2_int0 fun a b d e => by
  unfold dLe at e; split at e
  · cases e; exact ⟨_, _, rfl, rfl, fun _ _ _ => .bl _⟩
  · cases e
theorem f_gt {K : PySem.W.Frag} : Op2 K (rI0 fun i j => .bl (decide (j < i))) dGt := op2_int0 fun a b d e => by
  unfold dGt at e; split at e
  · cases e; exact ⟨_, _, rfl, rfl, fun _ _ _ => .bl _⟩
  · cases e
theorem f_ge {K : PySem.W.Frag} : Op2 K (rI0 fun i j => .bl (decide (j ≤ i))) dGe := op2_int0 fun a b d e => by
  unfold dGe at e; split at e
  · cases e; exact ⟨_, _, rfl, rfl, fun _ _ _ => .bl _⟩
  · cases e
variable {pos : Pos}
theorem pu_sub (ha : PuE X a ga ka) (hb : PuE X b gb kb) : PuE X (.BinOp a .Sub b pos) (mOp2 dSub ga gb) (ka + kb) := pu_bin op_sub f_sub ha hb
theorem pu_mul (ha : PuE X a ga ka) (hb : PuE X b gb kb) : PuE X (.BinOp a .Mult b pos) (mOp2 dMul ga gb) (ka + kb) := pu_bin op_mulW f_mul ha hb
theorem pu_div (ha : PuE X a ga ka) (hb : PuE X b gb kb) : PuE X (.BinOp a .FloorDiv b pos) (mOp2 dDiv ga gb) (ka + kb) := pu_bin op_fdivW f_div ha hb
theorem pu_mod (ha : PuE X a ga ka) (hb : PuE X b gb kb) : PuE X (.BinOp a .Mod b pos) (mOp2 dMod ga gb) (ka + kb) := pu_bin op_mod f_mod ha hb
theorem pu_pow (ha : PuE X a ga ka) (hb : PuE X b gb kb) : PuE X (.BinOp a .Pow b pos) (mOp2 dPow ga gb) (ka + kb) := pu_bin op_pow f_pow ha hb
theorem pu_lt (ha : PuE X a ga ka) (hb : PuE X b gb kb) : PuE X (.Compare a [.Lt] [b] pos) (mOp2 dLt ga gb) (ka + kb) := pu_cmp op_lt f_lt ha hb
theorem pu_le (ha : PuE X a ga ka) (hb : PuE X b gb kb) : PuE X (.Compare a [.LtE] [b] pos) (mOp2 dLe ga gb) (ka + kb) := pu_cmp op_le f_le ha hb
theorem pu_gt (ha : PuE X a ga ka) (hb : PuE X b gb kb) : PuE X (.Compare a [.Gt] [b] pos) (mOp2 dGt ga gb) (ka + kb) := pu_cmp op_gt f_gt ha hb
theorem pu_ge (ha : PuE X a ga ka) (hb : PuE X b gb kb) : PuE X (.Compare a [.GtE] [b] pos) (mOp2 dGe ga gb) (ka + kb) := pu_cmp op_ge f_ge ha hb
theorem f_neg {K : PySem.W.Frag} : Op1 K (rU fun i => .int (-i)) dNeg := fun p q B H S x a d Q t r e k => by
  unfold dNeg at e; split at e
  · cases e; exact ⟨_, r.int_inv, k _ B H t (.int _)⟩
  · cases e
theorem pu_neg (ha : PuE X a ga ka) : PuE X (.UnaryOp .USub a pos) (mOp1 dNeg ga) ka := pu_op1 (fun _ h => pe_un un_neg h) f_neg ha
theorem pu_not (ha : PuE X a ga ka) : PuE X (.UnaryOp .Not a pos) (mOp1 dNot ga) ka :=
  pu_op1 (r := fun x H Q => ∃ c, x = .bl c ∧ Q (.bl (!c)) H) (fun _ h => pe_not h) (fun p q B H S x a d Q t r e k => by
    unfold dNot at e; split at e
    · cases e; exact ⟨_, r.bl_inv, k _ B H t (.bl _)⟩
    · cases e) ha
/-- is None -/
def dIsN : D → Option D
  | .non => some (.bl true)
  | _ => some (.bl false)
def dNotN : D → Option D
  | .non => some (.bl false)
  | _ => some (.bl true)
theorem dIsN_eq (d : D) : dIsN d = some (.bl true) ∧ d = .non ∨ dIsN d = some (.bl false) ∧ d ≠ .non := by
  cases d <;> first | exact .inl ⟨rfl, rfl⟩ | exact .inr ⟨rfl, fun h => by cases h⟩
theorem dNotN_eq (d : D) : dNotN d = some (.bl false) ∧ d = .non ∨ dNotN d = some (.bl true) ∧ d ≠ .non := by
  cases d <;> first | exact .inl ⟨rfl, rfl⟩ | exact .inr ⟨rfl, fun h => by cases h⟩
theorem f_isN {K : PySem.W.Frag} : Op1 K (fun x H Q => Q (.bl (decide (x = .non))) H) dIsN := fun p q B H S x a d Q t r e k => by
  rcases dIsN_eq a with ⟨h, h'⟩ | ⟨h, h'⟩
  · rw [h] at e; cases e
    rw [decide_eq_true (r.non_iff.mpr h')]
    exact k _ B H t (.bl _)
  · rw [h] at e; cases e
    rw [decide_eq_false (fun z => h' (r.non_iff.mp z))]
    exact k _ B H t (.bl _)
theorem f_notN {K : PySem.W.Frag} : Op1 K (fun x H Q => Q (.bl (!decide (x = .non))) H) dNotN := fun p q B H S x a d Q t r e k => by
  rcases dNotN_eq a with ⟨h, h'⟩ | ⟨h, h'⟩
  · rw [h] at e; cases e
    rw [decide_eq_true (r.non_iff.mpr h')]
    exact k _ B H t (.bl _)
  · rw [h] at e; cases e
    rw [decide_eq_false (fun z => h' (r.non_iff.mp z))]
    exact k _ B H t (.bl _)
theorem pu_isN {j : Nat} {pos' : Pos} (ha : PuE X a ga ka) : PuE X (.Compare a [.Is] [.Constant .none j pos'] pos) (mOp1 dIsN ga) ka := pu_op1 (fun _ h => pe_cmp (pc_isN h)) f_isN ha
theorem pu_notN {j : Nat} {pos' : Pos} (ha : PuE X a ga ka) : PuE X (.Compare a [.IsNot] [.Constant .none j pos'] pos) (mOp1 dNotN ga) ka := pu_op1 (fun _ h => pe_cmp (pc_notN h)) f_notN ha

/-! ### truth -/
def dTru : D → Option Bool
  | .bl b => some b
  | _ => none
def mTru (g : ME) : M Bool := mBind g fun d => mPure (dTru d)
theorem pu_tB (h : ∀ t, PE X e t → PT X e (tB t)) (ha : PuE X e ga ka) : PuT X e (mTru ga) ka := by
  refine ⟨cst_bind ha.cst fun _ => cst_pure, fun C hK hn => pt_imp (h _ (ha.run C hK hn)) fun σ H Q ⟨ρ, S, B, O, R, d, S', eg, lim, q⟩ => ?_⟩
  obtain ⟨x, S1, e1, eg⟩ := mBind_some eg
  obtain ⟨ef, rfl⟩ := mPure_some eg
  refine ⟨ρ, S, B, O, R, x, S', e1, lim, fun v B1 H1 t1 r1 => ?_⟩
  unfold dTru at ef
  split at ef
  · cases ef
    exact ⟨_, r1.bl_inv, q B1 H1 t1⟩
  · cases ef
theorem put_val (ha : PuE X e ga ka) (he : ∀ whole, isTrue e X.env whole = (do let v ← whole; standAt e.pos; holding [v] (truthy v)) := by intro _; rfl) : PuT X e (mTru ga) ka := pu_tB (fun _ h => pt_val h he) ha
/-- a comparison as a test -/
theorem put_op2 {r : R2} {f : D → D → Option D} (mk : ∀ ta tb, PE X a ta → PE X b tb → PT X e (tTest (tOp r ta tb))) (ho : Op2 X.K r f) (ha : PuE X a ga ka) (hb : PuE X b gb kb) : PuT X e (mTru (mOp2 f ga gb)) (ka + kb) := by
  refine ⟨cst_bind (k := ka + kb) (l := 0) (cst_op2 ha.cst hb.cst) fun _ => cst_pure, fun C hK hn => pt_imp (mk _ _ (ha.run C hK hn) (hb.run C hK hn)) fun σ H Q ⟨ρ, S, B, O, R, d, S', eg, lim, q⟩ => ?_⟩
  obtain ⟨z, Sz, ez, eg⟩ := mBind_some eg
  obtain ⟨et, rfl⟩ := mPure_some eg
  obtain ⟨x, S1, e1, eg⟩ := mBind_some ez
  obtain ⟨y, S2, e2, eg⟩ := mBind_some eg
  obtain ⟨ef, rfl⟩ := mPure_some eg
  have l2 := hb.cst _ _ _ _ e2
  refine ⟨ρ, S, B, O, R, x, S1, e1, Nat.le_trans l2.1 lim, fun v B1 H1 t1 r1 => ?_⟩
  refine ⟨ρ, S1, B1, O, R.step t1, y, S', e2, lim, fun u B2 H2 t2 r2 => ?_⟩
  refine ho C.p C.q B2 H2 S' v u x y z _ t2.self (hK ▸ r1.mono t2.bb) (hK ▸ r2) ef fun w B3 H3 t3 r3 => ?_
  unfold dTru at et
  split at et
  · cases et
    exact ⟨_, r3.bl_inv, q B3 H3 ((t1.trans t2).trans t3)⟩
  · cases et
theorem put_op1 {r : V → Hp → VK → Prop} {f : D → Option D} (mk : ∀ ta, PE X a ta → PT X e (tB fun σ H Q => ta σ H fun x H1 => r x H1 Q)) (ho : Op1 X.K r f) (ha : PuE X a ga ka) : PuT X e (mTru (mOp1 f ga)) ka := by
  refine ⟨cst_bind (cst_op1 ha.cst) fun _ => cst_pure, fun C hK hn => pt_imp (mk _ (ha.run C hK hn)) fun σ H Q ⟨ρ, S, B, O, R, d, S', eg, lim, q⟩ => ?_⟩
  obtain ⟨z, Sz, ez, eg⟩ := mBind_some eg
  obtain ⟨et, rfl⟩ := mPure_some eg
  obtain ⟨x, S1, e1, eg⟩ := mBind_some ez
  obtain ⟨ef, rfl⟩ := mPure_some eg
  refine ⟨ρ, S, B, O, R, x, S', e1, lim, fun v B1 H1 t1 r1 => ?_⟩
  refine ho C.p C.q B1 H1 S' v x z _ t1.self (hK ▸ r1) ef fun w B3 H3 t3 r3 => ?_
  unfold dTru at et
  split at et
  · cases et
    exact ⟨_, r3.bl_inv, q B3 H3 (t1.trans t3)⟩
  · cases et
theorem put_cmp {op : CmpOp} {r : R2} {f : D → D → Option D} (ho : OpR X (compareOp op) r) (hf : Op2 X.K r f) (ha : PuE X a ga ka) (hb : PuE X b gb kb) (hm : behindInMarks op b = false := by first | exact nomark _ | rfl) : PuT X (.Compare a [op] [b] pos) (mTru (mOp2 f ga gb)) (ka + kb) :=
  put_op2 (fun _ _ h1 h2 => pt_cmpR ho h1 h2 hm) hf ha hb
theorem put_lt (ha : PuE X a ga ka) (hb : PuE X b gb kb) : PuT X (.Compare a [.Lt] [b] pos) (mTru (mOp2 dLt ga gb)) (ka + kb) := put_cmp op_lt f_lt ha hb
theorem put_le (ha : PuE X a ga ka) (hb : PuE X b gb kb) : PuT X (.Compare a [.LtE] [b] pos) (mTru (mOp2 dLe ga gb)) (ka + kb) := put_cmp op_le f_le ha hb
theorem put_gt (ha : PuE X a ga ka) (hb : PuE X b gb kb) : PuT X (.Compare a [.Gt] [b] pos) (mTru (mOp2 dGt ga gb)) (ka + kb) := put_cmp op_gt f_gt ha hb
theorem put_ge (ha : PuE X a ga ka) (hb : PuE X b gb kb) : PuT X (.Compare a [.GtE] [b] pos) (mTru (mOp2 dGe ga gb)) (ka + kb) := put_cmp op_ge f_ge ha hb
theorem put_isN {j : Nat} {pos' : Pos} (ha : PuE X a ga ka) : PuT X (.Compare a [.Is] [.Constant .none j pos'] pos) (mTru (mOp1 dIsN ga)) ka := put_op1 (fun _ h => pt_cmp (pc_isN h)) f_isN ha
theorem put_notN {j : Nat} {pos' : Pos} (ha : PuE X a ga ka) : PuT X (.Compare a [.IsNot] [.Constant .none j pos'] pos) (mTru (mOp1 dNotN ga)) ka := put_op1 (fun _ h => pt_cmp (pc_notN h)) f_notN ha

/-! ### not, and, or, a if c else b -/
variable {ta tb : M Bool} {rest : List Expr}
def mNotT (t : M Bool) : M Bool := mBind t fun b => mPure (some (!b))
def mAndT (t u : M Bool) : M Bool := mBind t fun b => if b then u else mPure (some false)
def mOrT (t u : M Bool) : M Bool := mBind t fun b => if b then mPure (some true) else u
theorem cst_if {α : Type} {b : Bool} {g h : M α} {k l : Nat} (hg : Cst k g) (hh : Cst l h) : Cst (k + l) (if b then g else h) := by
  cases b with
  | true => exact cst_mono hg (by omega)
  | false => exact cst_mono hh (by omega)
theorem put_not (ha : PuT X a ta ka) : PuT X (.UnaryOp .Not a pos) (mNotT ta) ka := by
  refine ⟨cst_bind ha.cst fun _ => cst_pure, fun C hK hn => pt_imp (pt_not (ha.run C hK hn)) fun σ H Q ⟨ρ, S, B, O, R, d, S', eg, lim, q⟩ => ?_⟩
  obtain ⟨x, S1, e1, eg⟩ := mBind_some eg
  obtain ⟨ef, rfl⟩ := mPure_some eg
  cases ef
  exact ⟨ρ, S, B, O, R, x, S', e1, lim, q⟩
theorem puw_and1 (ha : PuT X a ta ka) : PuW X (.BoolOp .And [a] pos) ta ka := ⟨ha.cst, fun C hK hn => pw_and1 (ha.run C hK hn)⟩
theorem puw_or1 (ha : PuT X a ta ka) : PuW X (.BoolOp .Or [a] pos) ta ka := ⟨ha.cst, fun C hK hn => pw_or1 (ha.run C hK hn)⟩
theorem puw_and (ha : PuT X a ta ka) (hb : PuW X (.BoolOp .And (b :: rest) pos) tb kb) : PuW X (.BoolOp .And (a :: b :: rest) pos) (mAndT ta tb) (ka + (kb + 0)) := by
  refine ⟨cst_bind ha.cst fun _ => cst_if hb.cst cst_pure, fun C hK hn => pw_imp (pw_and (ha.run C hK hn) (hb.run C hK hn)) fun σ H Q ⟨ρ, S, B, O, R, d, S', eg, lim, q⟩ => ?_⟩
  obtain ⟨x, S1, e1, eg⟩ := mBind_some eg
  cases x with
  | true =>
    have l2 := hb.cst _ _ _ _ eg
    refine ⟨ρ, S, B, O, R, true, S1, e1, Nat.le_trans l2.1 lim, fun B1 H1 t1 => ?_⟩
    exact ⟨ρ, S1, B1, O, R.step t1, d, S', eg, lim, fun B2 H2 t2 => q B2 H2 (t1.trans t2)⟩
  | false =>
    obtain ⟨ef, rfl⟩ := mPure_some (ρ := ρ) eg
    cases ef
    exact ⟨ρ, S, B, O, R, false, S', e1, lim, fun B1 H1 t1 => q B1 H1 t1⟩
theorem puw_or (ha : PuT X a ta ka) (hb : PuW X (.BoolOp .Or (b :: rest) pos) tb kb) : PuW X (.BoolOp .Or (a :: b :: rest) pos) (mOrT ta tb) (ka + (0 + kb)) := by
  refine ⟨cst_bind ha.cst fun _ => cst_if cst_pure hb.cst, fun C hK hn => pw_imp (pw_or (ha.run C hK hn) (hb.run C hK hn)) fun σ H Q ⟨ρ, S, B, O, R, d, S', eg, lim, q⟩ => ?_⟩
  obtain ⟨x, S1, e1, eg⟩ := mBind_some eg
  cases x with
  | false =>
    have l2 := hb.cst _ _ _ _ eg
    refine ⟨ρ, S, B, O, R, false, S1, e1, Nat.le_trans l2.1 lim, fun B1 H1 t1 => ?_⟩
    exact ⟨ρ, S1, B1, O, R.step t1, d, S', eg, lim, fun B2 H2 t2 => q B2 H2 (t1.trans t2)⟩
  | true =>
    obtain ⟨ef, rfl⟩ := mPure_some (ρ := ρ) eg
    cases ef
    exact ⟨ρ, S, B, O, R, true, S', e1, lim, fun B1 H1 t1 => q B1 H1 t1⟩
theorem PuW.pt (h : PuW X e ta ka) : PuT X e ta ka := ⟨h.cst, fun C hK hn => (h.run C hK hn).pt⟩
/-- as values: the left side a bool -/
def mAnd (ga gb : ME) : ME := mBind (mTru ga) fun b => if b then gb else mC (.bl false)
def mOr (ga gb : ME) : ME := mBind (mTru ga) fun b => if b then mC (.bl true) else gb
theorem pu_one {op} (ha : PuE X a ga ka) : PuE X (.BoolOp op [a] pos) ga ka := ⟨ha.cst, fun C hK hn => pe_one (ha.run C hK hn)⟩
end
end L2.Ev
namespace L2.Ev
open PySem PySem.Spec PyProof.Rows

section
variable {X : Cx} {e a b c : Expr} {ga gb gc : ME} {k ka kb kc : Nat} {ta tb : M Bool} {rest es : List Expr} {pos : Pos} {gs : M (List D)}

/-! ### and, or as values; a if c else b -/
theorem pu_and (ha : PuE X a ga ka) (hb : PuE X (.BoolOp .And (b :: rest) pos) gb kb) : PuE X (.BoolOp .And (a :: b :: rest) pos) (mAnd ga gb) (ka + (kb + 0)) := by
  refine ⟨cst_bind (k := ka) (l := kb + 0) (cst_bind (k := ka) (l := 0) ha.cst fun _ => cst_pure) fun _ => cst_if hb.cst cst_c, fun C hK hn => pe_imp (pe_and (ha.run C hK hn) (hb.run C hK hn)) fun σ H Q ⟨ρ, S, B, O, R, d, S', eg, lim, q⟩ => ?_⟩
  obtain ⟨z, S1, ez, eg⟩ := mBind_some eg
  obtain ⟨x, S2, e1, et⟩ := mBind_some ez
  obtain ⟨et, rfl⟩ := mPure_some et
  have l1 : S1.cnt ≤ S'.cnt := by
    cases z with
    | true => exact (hb.cst _ _ _ _ eg).1
    | false => exact (cst_c (d := .bl false) ρ _ _ _ eg).1
  refine ⟨ρ, S, B, O, R, x, S1, e1, Nat.le_trans l1 lim, fun v B1 H1 t1 r1 => ?_⟩
  unfold dTru at et
  split at et
  · cases et
    refine ⟨z, r1.bl_inv, ?_⟩
    cases z with
    | true =>
      rw [if_pos rfl]
      exact ⟨ρ, S1, B1, O, R.step t1, d, S', eg, lim, fun w B2 H2 t2 r2 => q w B2 H2 (t1.trans t2) r2⟩
    | false =>
      cases eg
      rw [if_neg Bool.false_ne_true]
      exact q _ B1 H1 t1 (.bl _)
  · cases et
theorem pu_or (ha : PuE X a ga ka) (hb : PuE X (.BoolOp .Or (b :: rest) pos) gb kb) : PuE X (.BoolOp .Or (a :: b :: rest) pos) (mOr ga gb) (ka + (0 + kb)) := by
  refine ⟨cst_bind (k := ka) (l := 0 + kb) (cst_bind (k := ka) (l := 0) ha.cst fun _ => cst_pure) fun _ => cst_if cst_c hb.cst, fun C hK hn => pe_imp (pe_or (ha.run C hK hn) (hb.run C hK hn)) fun σ H Q ⟨ρ, S, B, O, R, d, S', eg, lim, q⟩ => ?_⟩
  obtain ⟨z, S1, ez, eg⟩ := mBind_some eg
  obtain ⟨x, S2, e1, et⟩ := mBind_some ez
  obtain ⟨et, rfl⟩ := mPure_some et
  have l1 : S1.cnt ≤ S'.cnt := by
    cases z with
    | false => exact (hb.cst _ _ _ _ eg).1
    | true => exact (cst_c (d := .bl true) ρ _ _ _ eg).1
  refine ⟨ρ, S, B, O, R, x, S1, e1, Nat.le_trans l1 lim, fun v B1 H1 t1 r1 => ?_⟩
  unfold dTru at et
  split at et
  · cases et
    refine ⟨z, r1.bl_inv, ?_⟩
    cases z with
    | false =>
      rw [if_neg Bool.false_ne_true]
      exact ⟨ρ, S1, B1, O, R.step t1, d, S', eg, lim, fun w B2 H2 t2 r2 => q w B2 H2 (t1.trans t2) r2⟩
    | true =>
      cases eg
      rw [if_pos rfl]
      exact q _ B1 H1 t1 (.bl _)
  · cases et
def mIte {α : Type} (c : M Bool) (g h : M α) : M α := mBind c fun b => if b then g else h
theorem pu_ite {tc : M Bool} (hc : PuT X c tc kc) (ha : PuE X a ga ka) (hb : PuE X b gb kb) : PuE X (.IfExp c a b pos) (mIte tc ga gb) (kc + (ka + kb)) := by
  refine ⟨cst_bind hc.cst fun _ => cst_if ha.cst hb.cst, fun C hK hn => pe_imp (pe_ifExp (hc.run C hK hn) (ha.run C hK hn) (hb.run C hK hn)) fun σ H Q ⟨ρ, S, B, O, R, d, S', eg, lim, q⟩ => ?_⟩
  obtain ⟨z, S1, ez, eg⟩ := mBind_some eg
  have l1 : S1.cnt ≤ S'.cnt := by
    cases z with
    | true => exact (ha.cst _ _ _ _ eg).1
    | false => exact (hb.cst _ _ _ _ eg).1
  refine ⟨ρ, S, B, O, R, z, S1, ez, Nat.le_trans l1 lim, fun B1 H1 t1 => ?_⟩
  cases z with
  | true =>
    rw [if_pos rfl]
    exact ⟨ρ, S1, B1, O, R.step t1, d, S', eg, lim, fun w B2 H2 t2 r2 => q w B2 H2 (t1.trans t2) r2⟩
  | false =>
    rw [if_neg Bool.false_ne_true]
    exact ⟨ρ, S1, B1, O, R.step t1, d, S', eg, lim, fun w B2 H2 t2 r2 => q w B2 H2 (t1.trans t2) r2⟩

/-! ### what is never reached -/
theorem pu_never : PuE X e mFail 0 := ⟨cst_fail, fun _ _ _ => ⟨fun _ _ _ _ _ _ ⟨_, _, _, _, _, _, _, eg, _⟩ => by cases eg⟩⟩
theorem puf_never : PuF X e mFail 0 := ⟨cst_fail, fun _ _ _ => ⟨fun _ _ _ _ _ _ ⟨_, _, _, _, _, _, _, eg, _⟩ => by cases eg⟩⟩
theorem put_never : PuT X e mFail 0 := ⟨cst_fail, fun _ _ _ => ⟨fun _ _ _ _ _ _ ⟨_, _, _, _, _, _, _, eg, _⟩ => by cases eg⟩⟩

/-! ### lists of expressions -/
def mNil : M (List D) := fun _ S => some ([], S)
def mCons (g : ME) (h : M (List D)) : M (List D) := mBind g fun x => mBind h fun xs => mPure (some (x :: xs))
theorem cst_nil : Cst 0 mNil := fun ρ S d S' e => by cases e; exact ⟨Nat.le_refl _, Nat.le_refl _⟩
theorem cst_cons (ha : Cst ka ga) (hs : Cst k gs) : Cst (ka + (k + 0)) (mCons ga gs) := cst_bind ha fun _ => cst_bind hs fun _ => cst_pure
theorem len_cons {n : Nat} (h : ∀ ρ S ds S', gs ρ S = some (ds, S') → ds.length = n) : ∀ ρ S ds S', mCons ga gs ρ S = some (ds, S') → ds.length = n + 1 := fun ρ S ds S' e => by
  obtain ⟨x, S1, e1, eg⟩ := mBind_some e
  obtain ⟨y, S2, e2, eg⟩ := mBind_some eg
  obtain ⟨ef, rfl⟩ := mPure_some eg
  cases ef
  rw [List.length_cons, h _ _ _ _ e2]
theorem run_cons {C : Cfg} {ga : ME} {gs : M (List D)} (cs : ∀ ρ S d S', gs ρ S = some (d, S') → S.cnt ≤ S'.cnt) {σ : St} {H : Hp} {Q : List V → Hp → Prop} (h : tPuA C (mCons ga gs) σ H Q) : tCons (tPu C ga) (tPuA C gs) σ H Q := by
  obtain ⟨ρ, S, B, O, R, ds, S', eg, lim, q⟩ := h
  obtain ⟨x, S1, e1, eg⟩ := mBind_some eg
  obtain ⟨y, S2, e2, eg⟩ := mBind_some eg
  obtain ⟨ef, rfl⟩ := mPure_some eg
  cases ef
  refine ⟨ρ, S, B, O, R, x, S1, e1, Nat.le_trans (cs _ _ _ _ e2) lim, fun v B1 H1 t1 r1 => ?_⟩
  exact ⟨ρ, S1, B1, O, R.step t1, y, S', e2, lim, fun vs B2 H2 t2 r2 => q _ B2 H2 (t1.trans t2) (.cons (r1.mono t2.bb) r2)⟩
theorem pua_nil : PuA X [] mNil 0 := ⟨cst_nil, fun ρ S ds S' e => by cases e; rfl, fun C hK hn => pa_imp pa_nil fun σ H Q ⟨ρ, S, B, O, R, ds, S', eg, lim, q⟩ => by
  cases eg
  exact q [] B H R.self .nil⟩
theorem pua_cons (ha : PuE X e ga ka) (hs : PuA X es gs k) (hst : starEach (e :: es) X.env = (false, eval e X.env) :: starEach es X.env := by rfl) : PuA X (e :: es) (mCons ga gs) (ka + (k + 0)) :=
  ⟨cst_cons ha.cst hs.cst, len_cons hs.len, fun C hK hn => pa_imp (pa_cons (ha.run C hK hn) (hs.run C hK hn) hst) fun σ H Q h => run_cons (fun ρ S d S' e => (hs.cst ρ S d S' e).1) h⟩
theorem puk_nil : PuK X [] mNil 0 := ⟨cst_nil, fun ρ S ds S' e => by cases e; rfl, fun C hK hn => pk_imp pk_nil fun σ H Q ⟨ρ, S, B, O, R, ds, S', eg, lim, q⟩ => by
  cases eg
  exact q [] B H R.self .nil⟩
theorem puk_cons {nm : Option Str} {kpos : Pos} {kws : List Keyword} (ha : PuE X e ga ka) (hs : PuK X kws gs k) : PuK X (⟨nm, e, kpos⟩ :: kws) (mCons ga gs) (ka + (k + 0)) :=
  ⟨cst_cons ha.cst hs.cst, len_cons hs.len, fun C hK hn => pk_imp (pk_cons (ha.run C hK hn) (hs.run C hK hn)) fun σ H Q h => run_cons (fun ρ S d S' e => (hs.cst ρ S d S' e).1) h⟩

/-! ### tuples, lists -/
def mTup (g : M (List D)) : ME := mBind g fun ds => mPure (some (.tup ds))
def mLst (g : M (List D)) : ME := mBind g fun ds => mPure (some (.lst ds))
theorem pu_tup {x1} (hs : PuA X es gs k) (hl : es.length ≤ sizeLine := by decide) : PuE X (.Tuple es x1 pos) (mTup gs) k := by
  refine ⟨cst_bind (k := k) (l := 0) hs.cst fun _ => cst_pure, fun C hK hn => pe_imp (pe_tup (hs.run C hK hn)) fun σ H Q ⟨ρ, S, B, O, R, d, S', eg, lim, q⟩ => ?_⟩
  obtain ⟨ds, S1, e1, eg⟩ := mBind_some eg
  obtain ⟨ef, rfl⟩ := mPure_some eg
  cases ef
  refine ⟨ρ, S, B, O, R, ds, S', e1, lim, fun vs B1 H1 t1 r1 => ⟨?_, fun r nr => ?_⟩⟩
  · rw [r1.length, hs.len _ _ _ _ e1]; exact hl
  · have nb : B1 r = none := t1.sub.free nr
    exact q _ _ _ (t1.alloc nr) (.tup (.inl (.inl upd_same)) (r1.mono fun b u e' => by rw [upd_ne (ne_of_none e' nb)]; exact e'))
theorem puf_lst (hs : PuA X es gs k) (hl : es.length ≤ sizeLine := by decide) : PuF X (.List es pos) gs k := by
  refine ⟨hs.cst, fun C hK hn => pe_imp (pe_lst (hs.run C hK hn)) fun σ H Q ⟨ρ, S, B, O, R, ds, S', e1, lim, q⟩ => ?_⟩
  refine ⟨ρ, S, B, O, R, ds, S', e1, lim, fun vs B1 H1 t1 r1 => ⟨?_, fun r nr => ?_⟩⟩
  · rw [r1.length, hs.len _ _ _ _ e1]; exact hl
  · have nH : H r = none := by
      cases z : H r with
      | none => rfl
      | some u =>
        by_cases hp : r = C.p
        · rw [hp, t1.st.hp] at nr; cases nr
        by_cases hq : r = C.q
        · rw [hq, t1.st.hq] at nr; cases nr
        rw [t1.hh r u hp hq z] at nr; cases nr
    exact q r vs B1 _ (t1.hid nr) nH (t1.sub.free nr) upd_same r1
/-- a new list, known -/
theorem pu_fresh (h : PuF X e gs k) : PuE X e (mLst gs) k := by
  refine ⟨cst_bind (k := k) (l := 0) h.cst fun _ => cst_pure, fun C hK hn => pe_imp (h.run C hK hn) fun σ H Q ⟨ρ, S, B, O, R, d, S', eg, lim, q⟩ => ?_⟩
  obtain ⟨ds, S1, e1, eg⟩ := mBind_some eg
  obtain ⟨ef, rfl⟩ := mPure_some eg
  cases ef
  refine ⟨ρ, S, B, O, R, ds, S', e1, lim, fun a vs B1 H1 t1 nH nB eH r1 => ?_⟩
  have hp : a ≠ C.p := fun z => by rw [z, R.wd.st.hp] at nH; cases nH
  have hq : a ≠ C.q := fun z => by rw [z, R.wd.st.hq] at nH; cases nH
  exact q _ _ _ (t1.know eH nH hp hq nB) (.lst upd_same (r1.mono fun b u e' => by rw [upd_ne (ne_of_none e' nB)]; exact e'))

/-! ### calls of defs -/
abbrev FN := List D → Strm → Option (D × Strm)
def CstF (k : Nat) (F : FN) : Prop := ∀ ds S d S', F ds S = some (d, S') → S.cnt ≤ S'.cnt ∧ S'.cnt ≤ S.cnt + k
/-- the promise of a def that does what F says -/
def spPu (K : PySem.W.Frag) (np : Nat) (F : FN) : Sp := fun vs H Q _ => ∃ (p q : Addr) (B : Hp) (ds : List D) (S : Strm), vs.length = np ∧ Step p q B H B H S ∧ RpAll K p B vs ds ∧ ∃ d S', F ds S = some (d, S') ∧ S'.cnt ≤ LIM ∧
  ∀ v B' H', Step p q B H B' H' S' → Rp K p B' v d → Q v H'
structure FnPu (P : Program) (w : World) (K : PySem.W.Frag) (mg : Str → Option Value) (base : Heap) (n : Nat) (f : Addr) (fd : FuncData) (ps : List Str) (F : FN) (k : Nat) : Prop where
  ok : FnOk P w K mg base CX0 n f fd ps (spPu K ps.length F)
  cst : CstF k F
def mCall (F : FN) (g : M (List D)) : ME := mBind g fun ds => fun _ S => F ds S
theorem cst_call {F : FN} (hF : CstF ka F) (hs : Cst k gs) : Cst (k + ka) (mCall F gs) := cst_bind hs fun ds => fun ρ S d S' e => hF ds S d S' e
theorem run_call {C : Cfg} {K : PySem.W.Frag} (hK : C.K = K) {np : Nat} {F : FN} (hF : CstF ka F) (hl : ∀ ρ S ds S', gs ρ S = some (ds, S') → ds.length = np) {σ : St} {H : Hp} {Q : VK} (h : tPu C (mCall F gs) σ H Q) : tPuA C gs σ H fun vs H1 => spPu K np F vs H1 Q E0 := by
  obtain ⟨ρ, S, B, O, R, d, S', eg, lim, q⟩ := h
  obtain ⟨ds, S1, e1, eg⟩ := mBind_some eg
  refine ⟨ρ, S, B, O, R, ds, S1, e1, Nat.le_trans (hF _ _ _ _ eg).1 lim, fun vs B1 H1 t1 r1 => ?_⟩
  refine ⟨C.p, C.q, B1, ds, S1, by rw [r1.length]; exact hl _ _ _ _ e1, t1.self, hK ▸ r1, d, S', eg, lim, fun v B2 H2 t2 r2 => q v B2 H2 (t1.trans t2) (hK ▸ r2)⟩
theorem pu_call {n : Nat} {f : Addr} {fd : FuncData} {ps : List Str} {F : FN} {x : Str} {p : Pos} (hF : FnPu X.prog X.w X.K X.mg X.base n f fd ps F ka) (hr : Room n X.A) (hm : X.mg x = some (.ref f)) (hk : PySem.W.keepIn X.K (.ref f) = true) (hb : Binds X.K fd ps [])
    (ha : PuA X (e :: es) gs k) (hg : Gl X x := by rfl) (hl : (e :: es).length = ps.length := by rfl) (hdb : (x == ("__debug__" : Str)) = false := by decide) (he : starEach (e :: es) X.env = (false, eval e X.env) :: starEach es X.env := by rfl) (hpl : (backTo pos (starEach es X.env)).any (·.1) = false := by rfl) :
    PuE X (.Call (.Name x p) (e :: es) [] pos) (mCall F gs) (k + ka) :=
  ⟨cst_call hF.cst ha.cst, fun C hK hn => pe_imp (pe_call hF.ok hr hg hm hk hb .nil pass0 (ha.run C hK hn) hdb he hpl) fun σ H Q h => by
    have q := run_call hK hF.cst (fun ρ S ds S' e => (ha.len ρ S ds S' e).trans hl) h
    show tPuA C gs σ H fun vs H1 => spPu X.K ps.length F (vs ++ []) H1 Q E0
    simpa only [List.append_nil] using q⟩
theorem pu_call0 {n : Nat} {f : Addr} {fd : FuncData} {ps : List Str} {F : FN} {x : Str} {p : Pos} (hF : FnPu X.prog X.w X.K X.mg X.base n f fd ps F ka) (hr : Room n X.A) (hm : X.mg x = some (.ref f)) (hk : PySem.W.keepIn X.K (.ref f) = true) (hb : Binds X.K fd ps [])
    (hg : Gl X x := by rfl) (hl : 0 = ps.length := by rfl) (hdb : (x == ("__debug__" : Str)) = false := by decide) : PuE X (.Call (.Name x p) [] [] pos) (mCall F mNil) (0 + ka) :=
  ⟨cst_call hF.cst cst_nil, fun C hK hn => pe_imp (pe_call0 hF.ok hr hg hm hk hb .nil pass0 hdb) fun σ H Q h => by
    obtain ⟨ρ, S, B, O, R, ds, S1, e1, lim, q⟩ := run_call (np := ps.length) hK hF.cst (fun ρ S ds S' e => by cases e; exact hl) h
    cases e1
    show spPu X.K ps.length F ([] ++ []) H Q E0
    exact q [] B H R.self .nil⟩
/-- arguments by names alone: perm puts them in the parameters' order -/
def mPerm (perm : List Nat) (g : M (List D)) : M (List D) := mBind g fun ds => mPure (some (perm.map fun i => ds.getD i .non))
theorem run_fnk0 {n : Nat} {CX : CXT} {f : Addr} {fd : FuncData} {ps ks : List Str} {sp : Sp} {g : List Value → List Value → List Value} {gV : List V → List V → List V} {x : Str} {p : Pos} {kws : List Keyword} {tk : TA} {E : XK} (F : FnOk X.prog X.w X.K X.mg X.base CX n f fd ps sp) (hr : Room n X.A) (hg : Gl X x) (hm : X.mg x = some (.ref f)) (hk : PySem.W.keepIn X.K (.ref f) = true) (hb : KBinds X.K fd ps ks g gV) (hx : Passes CX X E)
    (hkw : PK X kws tk) (hall : (backToKw pos (keywordEach kws X.env)).all (·.1.isSome) = true := by rfl) (hks : (backToKw pos (keywordEach kws X.env)).filterMap (·.1) = ks := by rfl)
    (hdb : (x == ("__debug__" : Str)) = false := by decide) (hpl : ((backTo pos (starEach [] X.env)).any (·.1) || (backToKw pos (keywordEach kws X.env)).any (·.1.isNone)) = false := by rfl) :
    PE X (.Call (.Name x p) [] kws pos) (fun σ H Q => tk σ H fun zs H2 => sp (gV [] zs) H2 Q E) := by
  refine ⟨fun pins s σ H Q I h => ?_⟩
  refine wpAny_Call_Name_kw (ld_glob I hg hm ?_ hdb)
  refine PySem.W.callWith_KW0 (h₀ := X.base) I.ok.mod.kin hk hall (thn (hkw.run pos pins s σ H _ I h) fun ws s2 ⟨zs, H2, I2, rz, q2⟩ => ⟨I2.kIn, ?_⟩) hpl
  rw [hks]
  exact run_fnk (us := []) F hr hb hx I2 .nil rz q2
theorem RpAll.perm {K : PySem.W.Frag} {p : Addr} {B : Hp} {vs : List V} {ds : List D} (h : RpAll K p B vs ds) : ∀ (perm : List Nat), (∀ i ∈ perm, i < ds.length) → RpAll K p B (perm.map fun i => vs.getD i .non) (perm.map fun i => ds.getD i .non)
  | [], _ => .nil
  | i :: r, hi => by
    have h1 : i < ds.length := hi i List.mem_cons_self
    obtain ⟨v, e1, e2⟩ := h.get (List.getElem?_eq_getElem h1)
    refine .cons ?_ (RpAll.perm h r fun j hj => hi j (List.mem_cons_of_mem _ hj))
    show Rp K p B (vs.getD i .non) (ds.getD i .non)
    rw [List.getD_eq_getElem?_getD, List.getD_eq_getElem?_getD, e1, List.getElem?_eq_getElem h1]
    exact e2
theorem vals_perm {vs : List V} {us : List Value} (h : Vals vs us) : ∀ (perm : List Nat), Vals (perm.map fun i => vs.getD i .non) (perm.map fun i => us.getD i .none)
  | [] => .nil
  | i :: r => by
    refine .cons ?_ (vals_perm h r)
    show RelV (vs.getD i .non) (us.getD i .none)
    rw [List.getD_eq_getElem?_getD, List.getD_eq_getElem?_getD]
    cases e : vs[i]? with
    | none => rw [h.none_of e]; exact rfl
    | some v =>
      obtain ⟨u, e1, e2⟩ := h.get e
      rw [e1]
      exact e2
theorem pu_callK {n : Nat} {f : Addr} {fd : FuncData} {ps ks : List Str} {F : FN} {x : Str} {p : Pos} {kws : List Keyword} (perm : List Nat) (hF : FnPu X.prog X.w X.K X.mg X.base n f fd ps F ka) (hr : Room n X.A) (hm : X.mg x = some (.ref f)) (hk : PySem.W.keepIn X.K (.ref f) = true)
    (hb : ∀ (s : Shared) (ws : List Value), ws.length = ks.length → BindsTo s fd ⟨[], ks.zip ws⟩ (ps.zip (perm.map fun i => ws.getD i .none))) (ha : PuK X kws gs k) (hg : Gl X x := by rfl) (hl : perm.length = ps.length := by rfl) (hlk : kws.length = ks.length := by rfl) (hpm : ∀ i ∈ perm, i < kws.length := by decide)
    (hall : (backToKw pos (keywordEach kws X.env)).all (·.1.isSome) = true := by rfl) (hks : (backToKw pos (keywordEach kws X.env)).filterMap (·.1) = ks := by rfl)
    (hdb : (x == ("__debug__" : Str)) = false := by decide) (hpl : ((backTo pos (starEach [] X.env)).any (·.1) || (backToKw pos (keywordEach kws X.env)).any (·.1.isNone)) = false := by rfl) :
    PuE X (.Call (.Name x p) [] kws pos) (mCall F (mPerm perm gs)) (k + 0 + ka) := by
  refine ⟨cst_call hF.cst (cst_bind ha.cst fun _ => cst_pure), fun C hK hn => ⟨fun pins s σ H Q I h => ?_⟩⟩
  refine wpAny_Call_Name_kw (ld_glob I hg hm ?_ hdb)
  obtain ⟨ρ, S, B, O, R, d, S', eg, lim, q⟩ := h
  obtain ⟨zs, S1, e1, eg⟩ := mBind_some eg
  obtain ⟨ds, S2, e2, ep⟩ := mBind_some e1
  obtain ⟨ep, rfl⟩ := mPure_some ep
  cases ep
  have h : tPuA C gs σ H fun vs H1 => vs.length = kws.length ∧ spPu X.K ps.length F (perm.map fun i => vs.getD i .non) H1 Q E0 := by
    refine ⟨ρ, S, B, O, R, ds, S1, e2, Nat.le_trans (hF.cst _ _ _ _ eg).1 lim, fun vs B1 H1 t1 r1 => ?_⟩
    have hd : ds.length = kws.length := ha.len _ _ _ _ e2
    refine ⟨r1.length.trans hd, C.p, C.q, B1, _, S1, by rw [List.length_map]; exact hl, t1.self, hK ▸ r1.perm perm (fun i hi => by rw [hd]; exact hpm i hi), d, S', eg, lim, fun v B2 H2 t2 r2 => q v B2 H2 (t1.trans t2) (hK ▸ r2)⟩
  refine PySem.W.callWith_KW0 (h₀ := X.base) I.ok.mod.kin hk hall (thn ((ha.run C hK hn).run pos pins s σ H _ I h) fun ws s2 ⟨zs, H2, I2, rz, hlen, q2⟩ => ⟨I2.kIn, ?_⟩) hpl
  rw [hks]
  have hw : ws.length = ks.length := rz.length.symm.trans (hlen.trans hlk)
  refine wpAny_call (codeAny_mono (hF.ok.run X.A X.stack s2 H2 ⟨[], ks.zip ws⟩ (perm.map fun i => ws.getD i .none) (perm.map fun i => zs.getD i .non) Q E0 hr I2.env0 (hb s2 ws hw) (vals_perm rz perm) q2) fun r s' hq => ?_)
  cases r with
  | error e => exact hq.elim
  | ok fl =>
    cases fl with
    | ret u => exact I2.after hq
    | next => exact False.elim hq
    | brk => exact False.elim hq
    | cont => exact False.elim hq

/-! ### calls of what is built in -/
def OpN (K : PySem.W.Frag) (r : List V → Hp → VK → Prop) (f : List D → Option D) : Prop := ∀ (p q : Addr) (B H : Hp) (S : Strm) (xs : List V) (as : List D) (d : D) (Q : VK), Step p q B H B H S → RpAll K p B xs as → f as = some d →
  (∀ v B' H', Step p q B H B' H' S → Rp K p B' v d → Q v H') → r xs H Q
/-- the same where a new list is made -/
def OpF (K : PySem.W.Frag) (r : List V → Hp → VK → Prop) (f : List D → Option (List D)) : Prop := ∀ (p q : Addr) (B H : Hp) (S : Strm) (xs : List V) (as ds : List D) (Q : VK), Step p q B H B H S → RpAll K p B xs as → f as = some ds →
  (∀ a vs, H a = none → RpAll K p B vs ds → Q (.ref a) (upd H a (.lst vs))) → r xs H Q
def mBi (f : List D → Option D) (g : M (List D)) : ME := mBind g fun ds => mPure (f ds)
def mBiF (f : List D → Option (List D)) (g : M (List D)) : M (List D) := mBind g fun ds => mPure (f ds)
theorem pu_bi {r : List V → Hp → VK → Prop} {f : List D → Option D} (mk : ∀ t, PA X es t → PE X e (tCB r t)) (ho : OpN X.K r f) (ha : PuA X es gs k) : PuE X e (mBi f gs) k := by
  refine ⟨cst_bind (k := k) (l := 0) ha.cst fun _ => cst_pure, fun C hK hn => pe_imp (mk _ (ha.run C hK hn)) fun σ H Q ⟨ρ, S, B, O, R, d, S', eg, lim, q⟩ => ?_⟩
  obtain ⟨ds, S1, e1, eg⟩ := mBind_some eg
  obtain ⟨ef, rfl⟩ := mPure_some eg
  refine ⟨ρ, S, B, O, R, ds, S', e1, lim, fun vs B1 H1 t1 r1 => ?_⟩
  exact ho C.p C.q B1 H1 S' vs ds d Q t1.self (hK ▸ r1) ef fun w B3 H3 t3 r3 => q w B3 H3 (t1.trans t3) (hK ▸ r3)
theorem puf_bi {r : List V → Hp → VK → Prop} {f : List D → Option (List D)} (mk : ∀ t, PA X es t → PE X e (tCB r t)) (ho : OpF X.K r f) (ha : PuA X es gs k) : PuF X e (mBiF f gs) k := by
  refine ⟨cst_bind (k := k) (l := 0) ha.cst fun _ => cst_pure, fun C hK hn => pe_imp (mk _ (ha.run C hK hn)) fun σ H Q ⟨ρ, S, B, O, R, d, S', eg, lim, q⟩ => ?_⟩
  obtain ⟨ds, S1, e1, eg⟩ := mBind_some eg
  obtain ⟨ef, rfl⟩ := mPure_some eg
  refine ⟨ρ, S, B, O, R, ds, S', e1, lim, fun vs B1 H1 t1 r1 => ?_⟩
  refine ho C.p C.q B1 H1 S' vs ds d Q t1.self (hK ▸ r1) ef fun r ws nr r3 => ?_
  have nH : H r = none := by
    cases z : H r with
    | none => rfl
    | some u =>
      by_cases hp : r = C.p
      · rw [hp, t1.st.hp] at nr; cases nr
      by_cases hq : r = C.q
      · rw [hq, t1.st.hq] at nr; cases nr
      rw [t1.hh r u hp hq z] at nr; cases nr
  exact q r ws B1 _ (t1.hid nr) nH (t1.sub.free nr) upd_same (hK ▸ r3)
end
end L2.Ev
namespace L2.Ev
open PySem PySem.Spec PyProof.Rows

section
variable {X : Cx} {e a b c : Expr} {ga gb gc : ME} {k ka kb kc : Nat} {es : List Expr} {pos p : Pos} {gs : M (List D)}

/-! ### ==, != -/
mutual
def D.py : D → PyData
  | .non => .none | .bl b => .bool b | .int i => .int i | .str x => .str x
  | .lst ds => .list (D.pyAll ds) | .tup ds => .tuple (D.pyAll ds) | .dct _ => .none | .strm => .none
def D.pyAll : List D → List PyData
  | [] => [] | d :: ds => D.py d :: D.pyAll ds
end
mutual
/-- data without dicts -/
def D.okc : D → Bool
  | .non => true | .bl _ => true | .int _ => true | .str x => PyData.strOk x
  | .lst ds => D.okcAll ds | .tup ds => D.okcAll ds | .dct _ => false | .strm => false
def D.okcAll : List D → Bool
  | [] => true | d :: ds => D.okc d && D.okcAll ds
end
mutual
def D.dep : D → Nat
  | .lst ds => D.depAll ds + 1 | .tup ds => D.depAll ds + 1
  | .non => 0 | .bl _ => 0 | .int _ => 0 | .str _ => 0 | .dct _ => 0 | .strm => 0
def D.depAll : List D → Nat
  | [] => 0 | d :: ds => max (D.dep d) (D.depAll ds)
end
mutual
theorem D.py_lay : ∀ d : D, d.okc = true → d.py.canLay0 = true ∧ d.py.depth = d.dep
  | .non, _ => ⟨by simp [D.py, PyData.canLay0], by simp [D.py, PyData.depth, D.dep]⟩
  | .bl _, _ => ⟨by simp [D.py, PyData.canLay0], by simp [D.py, PyData.depth, D.dep]⟩
  | .int _, _ => ⟨by simp [D.py, PyData.canLay0], by simp [D.py, PyData.depth, D.dep]⟩
  | .str x, h => ⟨by simp only [D.py, PyData.canLay0]; simpa [D.okc] using h, by simp [D.py, PyData.depth, D.dep]⟩
  | .lst ds, h => by
    obtain ⟨h1, h2⟩ := D.pyAll_lay ds (by simpa [D.okc] using h)
    exact ⟨by simp only [D.py, PyData.canLay0]; exact h1, by simp only [D.py, PyData.depth, D.dep]; rw [h2]⟩
  | .tup ds, h => by
    obtain ⟨h1, h2⟩ := D.pyAll_lay ds (by simpa [D.okc] using h)
    exact ⟨by simp only [D.py, PyData.canLay0]; exact h1, by simp only [D.py, PyData.depth, D.dep]; rw [h2]⟩
  | .dct _, h => by simp [D.okc] at h
  | .strm, h => by simp [D.okc] at h
theorem D.pyAll_lay : ∀ ds : List D, D.okcAll ds = true → PyData.canLayAll0 (D.pyAll ds) = true ∧ PyData.depthAll (D.pyAll ds) = D.depAll ds
  | [], _ => ⟨by simp [D.pyAll, PyData.canLayAll0], by simp [D.pyAll, PyData.depthAll, D.depAll]⟩
  | d :: ds, h => by
    have h : (D.okc d && D.okcAll ds) = true := by simpa [D.okcAll] using h
    rw [Bool.and_eq_true] at h
    obtain ⟨a1, a2⟩ := D.py_lay d h.1
    obtain ⟨b1, b2⟩ := D.pyAll_lay ds h.2
    exact ⟨by simp only [D.pyAll, PyData.canLayAll0]; rw [a1, b1]; rfl, by simp only [D.pyAll, PyData.depthAll, D.depAll]; rw [a2, b2]⟩
end
mutual
theorem Rp.dp {K : PySem.W.Frag} {pp : Addr} {B H : Hp} (s : Same B H) : ∀ {d : D} {v : V}, Rp K pp B v d → d.okc = true → Dp K H v d.py
  | .non, _, h, _ => by rw [h.non_inv]; simp only [D.py]; exact .non
  | .bl b, _, h, _ => by rw [h.bl_inv]; simp only [D.py]; exact .bl b
  | .int i, _, h, _ => by rw [h.int_inv]; simp only [D.py]; exact .int i
  | .str x, _, h, _ => by rw [h.str_inv]; simp only [D.py]; exact .str x
  | .lst ds, _, h, o => by
    obtain ⟨a, xs, rfl, h1, h2⟩ := h.lst_inv
    simp only [D.py]
    exact .lst (.inl (.inl (s _ _ h1))) (RpAll.dp s h2 (by simpa [D.okc] using o))
  | .tup ds, _, h, o => by
    obtain ⟨a, xs, rfl, h1, h2⟩ := h.tup_inv
    simp only [D.py]
    exact .tup (sqT_same s h1) (RpAll.dp s h2 (by simpa [D.okc] using o))
  | .dct _, _, _, o => by simp [D.okc] at o
  | .strm, _, _, o => by simp [D.okc] at o
theorem RpAll.dp {K : PySem.W.Frag} {pp : Addr} {B H : Hp} (s : Same B H) : ∀ {ds : List D} {vs : List V}, RpAll K pp B vs ds → D.okcAll ds = true → DpAll K H vs (D.pyAll ds)
  | [], _, h, _ => by cases h; simp only [D.pyAll]; exact .nil
  | d :: ds, _, h, o => by
    cases h with
    | cons h1 h2 =>
      have o : (D.okc d && D.okcAll ds) = true := by simpa [D.okcAll] using o
      rw [Bool.and_eq_true] at o
      simp only [D.pyAll]
      exact .cons (Rp.dp s h1 o.1) (RpAll.dp s h2 o.2)
end
def D.fit (d : D) : Bool := d.okc && decide (d.dep ≤ 64)
def D.eqv (a b : D) : Bool := PyData.eqv a.py b.py
def dEq (a b : D) : Option D := if (a.fit && b.fit) = true then some (.bl (D.eqv a b)) else none
def dNe (a b : D) : Option D := if (a.fit && b.fit) = true then some (.bl (!D.eqv a b)) else none
theorem shaped_of {d : D} (h : d.fit = true) : SeqAt.shaped d.py = true := by
  unfold D.fit at h
  rw [Bool.and_eq_true] at h
  obtain ⟨h1, h2⟩ := D.py_lay d h.1
  unfold SeqAt.shaped
  rw [h1, h2, h.2]
  rfl
theorem okc_of {d : D} (h : d.fit = true) : d.okc = true := by
  unfold D.fit at h
  rw [Bool.and_eq_true] at h
  exact h.1
theorem f_eq {K : PySem.W.Frag} : Op2 K (rEqD K) dEq := fun p q B H S x y a b d Q t r1 r2 e k => by
  unfold dEq at e
  split at e
  · rename_i h
    rw [Bool.and_eq_true] at h
    cases e
    exact ⟨a.py, b.py, r1.dp t.sub (okc_of h.1), r2.dp t.sub (okc_of h.2), shaped_of h.1, shaped_of h.2, k _ B H t (.bl _)⟩
  · cases e
theorem f_ne {K : PySem.W.Frag} : Op2 K (rNeD K) dNe := fun p q B H S x y a b d Q t r1 r2 e k => by
  unfold dNe at e
  split at e
  · rename_i h
    rw [Bool.and_eq_true] at h
    cases e
    exact ⟨a.py, b.py, r1.dp t.sub (okc_of h.1), r2.dp t.sub (okc_of h.2), shaped_of h.1, shaped_of h.2, k _ B H t (.bl _)⟩
  · cases e
theorem pu_eq {n : Nat} (hr : Room n X.A) (ha : PuE X a ga ka) (hb : PuE X b gb kb) : PuE X (.Compare a [.Eq] [b] pos) (mOp2 dEq ga gb) (ka + kb) := pu_cmp (op_eqD hr.units) f_eq ha hb
theorem pu_ne {n : Nat} (hr : Room n X.A) (ha : PuE X a ga ka) (hb : PuE X b gb kb) : PuE X (.Compare a [.NotEq] [b] pos) (mOp2 dNe ga gb) (ka + kb) := pu_cmp (op_neD hr.units) f_ne ha hb
theorem put_eq {n : Nat} (hr : Room n X.A) (ha : PuE X a ga ka) (hb : PuE X b gb kb) : PuT X (.Compare a [.Eq] [b] pos) (mTru (mOp2 dEq ga gb)) (ka + kb) := put_cmp (op_eqD hr.units) f_eq ha hb
theorem put_ne {n : Nat} (hr : Room n X.A) (ha : PuE X a ga ka) (hb : PuE X b gb kb) : PuT X (.Compare a [.NotEq] [b] pos) (mTru (mOp2 dNe ga gb)) (ka + kb) := put_cmp (op_neD hr.units) f_ne ha hb

/-! ### x in xs, flat items -/
def D.flat : D → Bool
  | .non => true | .bl _ => true | .int _ => true | .str _ => true | _ => false
def D.eqf : D → D → Bool
  | .non, .non => true
  | .bl a, .bl b => a == b
  | .bl a, .int b => (if a then 1 else 0) == b
  | .int a, .bl b => a == (if b then 1 else 0)
  | .int a, .int b => a == b
  | .str a, .str b => a == b
  | _, _ => false
def dMem (x : D) (ds : List D) : Bool := ds.any fun y => D.eqf y x
def dItems : D → Option (List D)
  | .lst ds => some ds
  | .tup ds => some ds
  | _ => none
def dInG (neg : Bool) (x y : D) : Option D := (dItems y).bind fun ds => if (x.flat && ds.all D.flat) = true then some (.bl (if neg then !dMem x ds else dMem x ds)) else none
theorem Rp.flat {K : PySem.W.Frag} {pp : Addr} {B : Hp} {v : V} {d : D} (h : Rp K pp B v d) (f : d.flat = true) : flatV v = true := by
  cases h <;> first | rfl | (simp [D.flat] at f)
theorem Rp.eqf {K : PySem.W.Frag} {pp : Addr} {B : Hp} {v u : V} {d g : D} (h : Rp K pp B v d) (h' : Rp K pp B u g) (f : d.flat = true) (f' : g.flat = true) : eqV v u = D.eqf d g := by
  cases h <;> first | (simp [D.flat] at f; done) | skip
  all_goals (cases h' <;> first | rfl | (simp [D.flat] at f'))
theorem RpAll.flat {K : PySem.W.Frag} {pp : Addr} {B : Hp} : ∀ {vs : List V} {ds : List D}, RpAll K pp B vs ds → ds.all D.flat = true → vs.all flatV = true
  | _, _, .nil, _ => rfl
  | _, _, .cons h r, f => by
    rw [List.all_cons, Bool.and_eq_true] at f ⊢
    exact ⟨h.flat f.1, r.flat f.2⟩
theorem RpAll.mem {K : PySem.W.Frag} {pp : Addr} {B : Hp} {x : V} {d : D} (hx : Rp K pp B x d) (fx : d.flat = true) : ∀ {vs : List V} {ds : List D}, RpAll K pp B vs ds → ds.all D.flat = true → inV x vs = dMem d ds
  | _, _, .nil, _ => rfl
  | _, _, .cons h r, f => by
    rw [List.all_cons, Bool.and_eq_true] at f
    unfold inV dMem
    rw [List.any_cons, List.any_cons, h.eqf hx f.1 fx]
    have := RpAll.mem hx fx r f.2
    unfold inV dMem at this
    rw [this]
theorem f_inG {K : PySem.W.Frag} {neg : Bool} : Op2 K (rIn K neg) (dInG neg) := fun p q B H S x y a b d Q t r1 r2 e k => by
  unfold dInG at e
  cases h : dItems b with
  | none => rw [h] at e; cases e
  | some ds =>
    rw [h] at e
    replace e : (if (a.flat && ds.all D.flat) = true then some (D.bl (if neg then !dMem a ds else dMem a ds)) else none) = some d := e
    split at e
    · rename_i f
      rw [Bool.and_eq_true] at f
      cases e
      have fin : ∀ pp xs, y = .ref pp → (SqL K H pp xs ∨ SqT K H pp xs) → RpAll K p B xs ds → rIn K neg x y H Q := fun pp xs e1 h1 h2 => by
        refine ⟨pp, xs, e1, h1, r1.flat f.1, h2.flat f.2, ?_⟩
        rw [h2.mem r1 f.1 f.2]
        exact k _ B H t (.bl _)
      unfold dItems at h
      split at h
      · cases h
        obtain ⟨pp, xs, e1, h1, h2⟩ := r2.lst_inv
        exact fin pp xs e1 (.inl (.inl (.inl (t.sub _ _ h1)))) h2
      · cases h
        obtain ⟨pp, xs, e1, h1, h2⟩ := r2.tup_inv
        exact fin pp xs e1 (.inr (sqT_same t.sub h1)) h2
      · cases h
    · cases e
theorem pu_in (ha : PuE X a ga ka) (hb : PuE X b gb kb) (hm : behindInMarks .In b = false := by rfl) : PuE X (.Compare a [.In] [b] pos) (mOp2 (dInG false) ga gb) (ka + kb) := pu_cmp op_in_seq f_inG ha hb hm
theorem pu_notIn (ha : PuE X a ga ka) (hb : PuE X b gb kb) (hm : behindInMarks .NotIn b = false := by rfl) : PuE X (.Compare a [.NotIn] [b] pos) (mOp2 (dInG true) ga gb) (ka + kb) := pu_cmp op_notIn_seq f_inG ha hb hm
theorem put_in (ha : PuE X a ga ka) (hb : PuE X b gb kb) (hm : behindInMarks .In b = false := by rfl) : PuT X (.Compare a [.In] [b] pos) (mTru (mOp2 (dInG false) ga gb)) (ka + kb) := put_cmp op_in_seq f_inG ha hb hm
theorem put_notIn (ha : PuE X a ga ka) (hb : PuE X b gb kb) (hm : behindInMarks .NotIn b = false := by rfl) : PuT X (.Compare a [.NotIn] [b] pos) (mTru (mOp2 (dInG true) ga gb)) (ka + kb) := put_cmp op_notIn_seq f_inG ha hb hm

/-! ### x[i], x[a:b] -/
def atD (ds : List D) : D → Option D
  | .int i => atI ds i
  | _ => none
def dIdx (x y : D) : Option D := (dItems x).bind fun ds => atD ds y
theorem RpAll.atI {K : PySem.W.Frag} {pp : Addr} {B : Hp} {vs : List V} {ds : List D} {i : Int} {d : D} (h : RpAll K pp B vs ds) (e : L2.atI ds i = some d) : ∃ v, L2.atI vs i = some v ∧ Rp K pp B v d := by
  unfold L2.atI at e ⊢
  rw [h.length]
  cases z : ixN ds.length i with
  | none => rw [z] at e; cases e
  | some j => rw [z] at e; exact h.get e
theorem f_idx {K : PySem.W.Frag} : Op2 K (fun x y H Q => rIxL K x y H Q ∨ rIxT K x y H Q) dIdx := fun p q B H S x y a b d Q t r1 r2 e k => by
  unfold dIdx at e
  cases h : dItems a with
  | none => rw [h] at e; cases e
  | some ds =>
    rw [h] at e
    replace e : atD ds b = some d := e
    unfold atD at e
    split at e
    · unfold dItems at h
      split at h
      · cases h
        obtain ⟨pp, xs, e1, h1, h2⟩ := r1.lst_inv
        obtain ⟨v, h3, h4⟩ := h2.atI e
        exact .inl ⟨pp, xs, _, v, e1, r2.int_inv, .inl (.inl (t.sub _ _ h1)), h3, k v B H t h4⟩
      · cases h
        obtain ⟨pp, xs, e1, h1, h2⟩ := r1.tup_inv
        obtain ⟨v, h3, h4⟩ := h2.atI e
        exact .inr ⟨pp, xs, _, v, e1, r2.int_inv, sqT_same t.sub h1, h3, k v B H t h4⟩
      · cases h
    · cases e
theorem pu_idx (ha : PuE X a ga ka) (hb : PuE X b gb kb) (hs : PlainIx b := by exact fun _ _ => rfl) : PuE X (.Subscript a b pos) (mOp2 dIdx ga gb) (ka + kb) := pu_ix (ix_list.or ix_tup) f_idx ha hb hs
/-- a bound of a slice, written or left out -/
def cutD (ds : List D) (lo hi : Option Int) : List D := (ds.drop (HT.sIx ds.length 0 lo)).take (HT.sIx ds.length ds.length hi - HT.sIx ds.length 0 lo)
def dCut (lo hi : Option Int) : D → Option D
  | .lst ds => some (.lst (cutD ds lo hi))
  | .tup ds => some (.tup (cutD ds lo hi))
  | _ => none
theorem RpAll.cut {K : PySem.W.Frag} {pp : Addr} {B : Hp} {vs : List V} {ds : List D} (h : RpAll K pp B vs ds) (lo hi : Option Int) : RpAll K pp B (cutV vs lo hi) (cutD ds lo hi) := by
  unfold cutV cutD
  rw [h.length]
  exact (h.drop _).take _
theorem cut_whole {ds : List D} {lo hi : Option Int} (h1 : HT.sIx ds.length 0 lo = 0) (h2 : HT.sIx ds.length ds.length hi = ds.length) : cutD ds lo hi = ds := by
  unfold cutD
  rw [h1, h2]
  simp
/-- a bound that is written: none or an int constant -/
def POc (X : Cx) (e : Option Expr) (o : Option Int) : Prop := PO X e (fun _ H Q => Q o H)
theorem poc_none : POc X none none := po_none
theorem poc_int {i : Int} {j : Nat} {pos' : Pos} : POc X (some (.Constant (.int i) j pos')) (some i) := ⟨fun pins s σ H Q I h => (po_some pe_int).run pins s σ H Q I ⟨i, rfl, h⟩⟩
theorem poc_neg {i : Int} {j : Nat} {p1 p2 : Pos} : POc X (some (.UnaryOp .USub (.Constant (.int i) j p1) p2)) (some (-i)) := ⟨fun pins s σ H Q I h => (po_some (pe_un un_neg pe_int)).run pins s σ H Q I ⟨i, rfl, -i, rfl, h⟩⟩
theorem pu_cut {lo hi : Option Expr} {l h : Option Int} {p2 : Pos} (ha : PuE X a ga ka) (hl : POc X lo l) (hh : POc X hi h) : PuE X (.Subscript a (.Slice lo hi none p2) pos) (mOp1 (dCut l h) ga) ka := by
  refine ⟨cst_op1 ha.cst, fun C hK hn => pe_imp (pe_slice (sl_list.or sl_tupA) (ha.run C hK hn) hl hh) fun σ H Q ⟨ρ, S, B, O, R, d, S', eg, lim, q⟩ => ?_⟩
  obtain ⟨x, S1, e1, eg⟩ := mBind_some eg
  obtain ⟨ef, rfl⟩ := mPure_some eg
  refine ⟨ρ, S, B, O, R, x, S', e1, lim, fun v B1 H1 t1 r1 => ?_⟩
  have low : ∀ {r : Addr} {o : HO}, H1 r = none → Same B1 (upd B1 r o) := fun nr b u e' => by rw [upd_ne (ne_of_none e' (t1.sub.free nr))]; exact e'
  unfold dCut at ef
  split at ef
  · cases ef
    obtain ⟨pp, xs, e2, h1, h2⟩ := r1.lst_inv
    refine .inl ⟨pp, xs, e2, .inl (.inl (t1.sub _ _ h1)), fun r nr => ?_⟩
    exact q _ _ _ (t1.alloc nr) (.lst upd_same ((h2.cut l h).mono (low nr)))
  · cases ef
    obtain ⟨pp, xs, e2, h1, h2⟩ := r1.tup_inv
    refine .inr ⟨pp, xs, e2, hK ▸ sqT_same t1.sub h1, fun hw => ?_, fun hw r nr => ?_⟩
    · rw [h2.length] at hw
      rw [cut_whole hw.1 hw.2] at q
      exact q v B1 H1 t1 r1 |> (fun z => e2 ▸ z)
    · exact q _ _ _ (t1.alloc nr) (.tup (.inl (.inl upd_same)) ((h2.cut l h).mono (low nr)))
  · cases ef

/-! ### +, * of lists too -/
def dAdd : D → D → Option D
  | .int i, .int j => some (.int (i + j))
  | .lst xs, .lst ys => if xs.length + ys.length ≤ sizeLine then some (.lst (xs ++ ys)) else none
  | .str x, .str y => if x.length + y.length ≤ sizeLine then some (.str (x ++ y)) else none
  | _, _ => none
def dRep : D → D → Option D
  | .lst xs, .int j => if -(2 ^ 63) ≤ j ∧ j < 2 ^ 63 ∧ xs.length * j.toNat ≤ sizeLine then some (.lst (List.replicate j.toNat xs).flatten) else none
  | _, _ => none
theorem RpAll.rep {K : PySem.W.Frag} {pp : Addr} {B : Hp} {vs : List V} {ds : List D} (h : RpAll K pp B vs ds) : ∀ n : Nat, RpAll K pp B (List.replicate n vs).flatten (List.replicate n ds).flatten
  | 0 => .nil
  | n + 1 => by
    rw [List.replicate_succ, List.replicate_succ, List.flatten_cons, List.flatten_cons]
    exact h.append (h.rep n)
theorem low_of {p q : Addr} {B H B1 H1 : Hp} {S : Strm} (t : Step p q B H B1 H1 S) {r : Addr} {o : HO} (nr : H1 r = none) : Same B1 (upd B1 r o) := fun b u e' => by rw [upd_ne (ne_of_none e' (t.sub.free nr))]; exact e'
theorem f_add {K : PySem.W.Frag} : Op2 K (fun x y H Q => rI0 (fun i j => .int (i + j)) x y H Q ∨ rCat x y H Q ∨ ∃ i j, x = .str i ∧ y = .str j ∧ i.length + j.length ≤ sizeLine ∧ Q (.str (i ++ j)) H) dAdd := fun p q B H S x y a b d Q t r1 r2 e k => by
  unfold dAdd at e
  split at e
  · cases e
    exact .inl ⟨_, _, r1.int_inv, r2.int_inv, k _ B H t (.int _)⟩
  · split at e
    · rename_i hz
      cases e
      obtain ⟨l, xs, e1, h1, h2⟩ := r1.lst_inv
      obtain ⟨m, ys, e3, h3, h4⟩ := r2.lst_inv
      refine .inr (.inl ⟨l, m, xs, ys, e1, e3, t.sub _ _ h1, t.sub _ _ h3, by rw [h2.length, h4.length]; exact hz, fun r nr => ?_⟩)
      exact k _ _ _ (t.alloc nr) (.lst upd_same ((h2.append h4).mono (low_of t nr)))
    · cases e
  · split at e
    · rename_i hz
      cases e
      exact .inr (.inr ⟨_, _, r1.str_inv, r2.str_inv, hz, k _ B H t (.str _)⟩)
    · cases e
  · cases e
theorem f_rep {K : PySem.W.Frag} : Op2 K rRep dRep := fun p q B H S x y a b d Q t r1 r2 e k => by
  unfold dRep at e
  split at e
  · split at e
    · rename_i hz
      cases e
      obtain ⟨l, xs, e1, h1, h2⟩ := r1.lst_inv
      refine ⟨l, _, xs, e1, r2.int_inv, t.sub _ _ h1, hz.1, hz.2.1, by rw [h2.length]; exact hz.2.2, fun r nr => ?_⟩
      exact k _ _ _ (t.alloc nr) (.lst upd_same ((h2.rep _).mono (low_of t nr)))
    · cases e
  · cases e
theorem pu_add (ha : PuE X a ga ka) (hb : PuE X b gb kb) : PuE X (.BinOp a .Add b pos) (mOp2 dAdd ga gb) (ka + kb) := pu_bin (op_add.or (op_cat.or op_add_str)) f_add ha hb
theorem pu_rep (ha : PuE X a ga ka) (hb : PuE X b gb kb) : PuE X (.BinOp a .Mult b pos) (mOp2 dRep ga gb) (ka + kb) := pu_bin op_rep f_rep ha hb
/-- list + list as a new list -/
def mCat (ga gb : ME) : M (List D) := mBind ga fun x => mBind gb fun y => mPure (match x, y with
  | .lst xs, .lst ys => if xs.length + ys.length ≤ sizeLine then some (xs ++ ys) else none
  | _, _ => none)
theorem free_of {p q : Addr} {B H B1 H1 : Hp} {S : Strm} (t : Step p q B H B1 H1 S) {r : Addr} (nr : H1 r = none) : H r = none := by
  cases z : H r with
  | none => rfl
  | some u =>
    by_cases hp : r = p
    · rw [hp, t.st.hp] at nr; cases nr
    by_cases hq : r = q
    · rw [hq, t.st.hq] at nr; cases nr
    rw [t.hh r u hp hq z] at nr; cases nr
theorem puf_cat (ha : PuE X a ga ka) (hb : PuE X b gb kb) : PuF X (.BinOp a .Add b pos) (mCat ga gb) (ka + kb) := by
  refine ⟨cst_bind (k := ka) (l := kb) ha.cst fun x => cst_bind (k := kb) (l := 0) hb.cst fun y => cst_pure, fun C hK hn => pe_imp (pe_op op_cat (ha.run C hK hn) (hb.run C hK hn)) fun σ H Q ⟨ρ, S, B, O, R, d, S', eg, lim, q⟩ => ?_⟩
  obtain ⟨x, S1, e1, eg⟩ := mBind_some eg
  obtain ⟨y, S2, e2, eg⟩ := mBind_some eg
  obtain ⟨ef, rfl⟩ := mPure_some eg
  have l2 := hb.cst _ _ _ _ e2
  refine ⟨ρ, S, B, O, R, x, S1, e1, Nat.le_trans l2.1 lim, fun v B1 H1 t1 r1 => ?_⟩
  refine ⟨ρ, S1, B1, O, R.step t1, y, S', e2, lim, fun u B2 H2 t2 r2 => ?_⟩
  split at ef
  · split at ef
    · rename_i hz
      cases ef
      obtain ⟨l, xs, e1, h1, h2⟩ := (r1.mono t2.bb).lst_inv
      obtain ⟨m, ys, e3, h3, h4⟩ := r2.lst_inv
      refine ⟨l, m, xs, ys, e1, e3, t2.sub _ _ h1, t2.sub _ _ h3, by rw [h2.length, h4.length]; exact hz, fun r nr => ?_⟩
      exact q r _ B2 _ ((t1.trans t2).hid nr) (free_of (t1.trans t2) nr) (t2.sub.free nr) upd_same (h2.append h4)
    · cases ef
  · cases ef

/-! ### built-in functions -/
def dAbs : List D → Option D
  | [.int i] => some (.int (if i < 0 then -i else i))
  | _ => none
def dInt : List D → Option D
  | [.int i] => some (.int i)
  | _ => none
def dLen : List D → Option D
  | [.lst ds] => some (.int ds.length)
  | [.tup ds] => some (.int ds.length)
  | [.dct ds] => some (.int ds.length)
  | _ => none
def dBools : List D → Option (List Bool)
  | [] => some []
  | .bl b :: r => (dBools r).map (b :: ·)
  | _ :: _ => none
def dAll : List D → Option D
  | [.lst ds] => (dBools ds).map fun bs => .bl (bs.all id)
  | _ => none
def dAny : List D → Option D
  | [.lst ds] => (dBools ds).map fun bs => .bl (bs.any id)
  | _ => none
def dMax2 : List D → Option D
  | [.int i, .int j] => some (.int (if j > i then j else i))
  | _ => none
def dMin2 : List D → Option D
  | [.int i, .int j] => some (.int (if j < i then j else i))
  | _ => none
def dTuple : List D → Option D
  | [.lst ds] => some (.tup ds)
  | [.tup ds] => some (.tup ds)
  | _ => none
def dList : List D → Option (List D)
  | [.lst ds] => some ds
  | [.tup ds] => some ds
  | _ => none
def dGcd : List D → Option D
  | [.int i, .int j] => some (.int ((Nat.gcd i.natAbs j.natAbs : Nat) : Int))
  | _ => none
theorem RpAll.inv1 {K : PySem.W.Frag} {pp : Addr} {B : Hp} {vs : List V} {d : D} (h : RpAll K pp B vs [d]) : ∃ v, vs = [v] ∧ Rp K pp B v d := by
  cases h with
  | cons h r => cases r; exact ⟨_, rfl, h⟩
theorem RpAll.inv2 {K : PySem.W.Frag} {pp : Addr} {B : Hp} {vs : List V} {d g : D} (h : RpAll K pp B vs [d, g]) : ∃ v u, vs = [v, u] ∧ Rp K pp B v d ∧ Rp K pp B u g := by
  cases h with
  | cons h r => obtain ⟨u, rfl, h2⟩ := r.inv1; exact ⟨_, _, rfl, h, h2⟩
theorem RpAll.bools {K : PySem.W.Frag} {pp : Addr} {B : Hp} : ∀ {vs : List V} {ds : List D} {bs : List Bool}, RpAll K pp B vs ds → dBools ds = some bs → vs = bs.map V.bl
  | _, _, _, .nil, e => by cases e; rfl
  | _, _, bs, .cons (d := d) h r, e => by
    cases d with
    | bl b =>
      unfold dBools at e
      cases z : dBools _ with
      | none => rw [z] at e; cases e
      | some cs =>
        rw [z] at e
        cases e
        rw [h.bl_inv, r.bools z]
        rfl
    | _ => cases e
theorem f_abs {K : PySem.W.Frag} : OpN K (fun xs H Q => ∃ i, xs = [.int i] ∧ Q (.int (if i < 0 then -i else i)) H) dAbs := fun p q B H S xs as d Q t r e k => by
  unfold dAbs at e; split at e
  · cases e
    obtain ⟨v, rfl, h⟩ := r.inv1
    exact ⟨_, by rw [h.int_inv], k _ B H t (.int _)⟩
  · cases e
theorem f_int {K : PySem.W.Frag} : OpN K (fun xs H Q => (∃ i, xs = [.int i] ∧ Q (.int i) H) ∨ ∃ k, xs = [.bl k] ∧ Q (.int (if k then 1 else 0)) H) dInt := fun p q B H S xs as d Q t r e k => by
  unfold dInt at e; split at e
  · cases e
    obtain ⟨v, rfl, h⟩ := r.inv1
    exact .inl ⟨_, by rw [h.int_inv], k _ B H t (.int _)⟩
  · cases e
theorem RpK.length {K : PySem.W.Frag} {pp : Addr} {B : Hp} : ∀ {vs : List (Key × V)} {ds : List (D × D)}, RpK K pp B vs ds → vs.length = ds.length
  | _, _, .nil => rfl
  | _, _, .cons _ r => congrArg (· + 1) r.length
theorem f_len {K : PySem.W.Frag} : OpN K (fun xs H Q => (∃ p ys, xs = [.ref p] ∧ (SqL K H p ys ∨ SqT K H p ys) ∧ Q (.int ys.length) H) ∨ (∃ a kvs, xs = [V.ref a] ∧ H a = some (.dK kvs) ∧ Q (.int kvs.length) H)) dLen := fun p q B H S xs as d Q t r e k => by
  unfold dLen at e; split at e
  · cases e
    obtain ⟨v, rfl, h⟩ := r.inv1
    obtain ⟨pp, ys, rfl, h1, h2⟩ := h.lst_inv
    exact .inl ⟨pp, ys, rfl, .inl (.inl (.inl (t.sub _ _ h1))), by rw [h2.length]; exact k _ B H t (.int _)⟩
  · cases e
    obtain ⟨v, rfl, h⟩ := r.inv1
    obtain ⟨pp, ys, rfl, h1, h2⟩ := h.tup_inv
    exact .inl ⟨pp, ys, rfl, .inr (sqT_same t.sub h1), by rw [h2.length]; exact k _ B H t (.int _)⟩
  · cases e
    obtain ⟨v, rfl, h⟩ := r.inv1
    obtain ⟨pp, kvs, rfl, h1, h2⟩ := h.dct_inv
    exact .inr ⟨pp, kvs, rfl, t.sub _ _ h1, by rw [h2.length]; exact k _ B H t (.int _)⟩
  · cases e
theorem f_all {K : PySem.W.Frag} : OpN K (rAll K) dAll := fun p q B H S xs as d Q t r e k => by
  unfold dAll at e; split at e
  · cases z : dBools _ with
    | none => rw [z] at e; cases e
    | some bs =>
      rw [z] at e; cases e
      obtain ⟨v, rfl, h⟩ := r.inv1
      obtain ⟨pp, ys, rfl, h1, h2⟩ := h.lst_inv
      exact ⟨pp, bs, rfl, by rw [← h2.bools z]; exact .inl (.inl (t.sub _ _ h1)), k _ B H t (.bl _)⟩
  · cases e
theorem f_any {K : PySem.W.Frag} : OpN K (rAny K) dAny := fun p q B H S xs as d Q t r e k => by
  unfold dAny at e; split at e
  · cases z : dBools _ with
    | none => rw [z] at e; cases e
    | some bs =>
      rw [z] at e; cases e
      obtain ⟨v, rfl, h⟩ := r.inv1
      obtain ⟨pp, ys, rfl, h1, h2⟩ := h.lst_inv
      exact ⟨pp, bs, rfl, by rw [← h2.bools z]; exact .inl (.inl (t.sub _ _ h1)), k _ B H t (.bl _)⟩
  · cases e
theorem f_max2 {K : PySem.W.Frag} : OpN K (fun xs H Q => ∃ i j, xs = [.int i, .int j] ∧ Q (.int (if j > i then j else i)) H) dMax2 := fun p q B H S xs as d Q t r e k => by
  unfold dMax2 at e; split at e
  · cases e
    obtain ⟨v, u, rfl, h, h'⟩ := r.inv2
    exact ⟨_, _, by rw [h.int_inv, h'.int_inv], k _ B H t (.int _)⟩
  · cases e
theorem f_min2 {K : PySem.W.Frag} : OpN K (fun xs H Q => ∃ i j, xs = [.int i, .int j] ∧ Q (.int (if j < i then j else i)) H) dMin2 := fun p q B H S xs as d Q t r e k => by
  unfold dMin2 at e; split at e
  · cases e
    obtain ⟨v, u, rfl, h, h'⟩ := r.inv2
    exact ⟨_, _, by rw [h.int_inv, h'.int_inv], k _ B H t (.int _)⟩
  · cases e
theorem f_gcd {K : PySem.W.Frag} : OpN K rGcd dGcd := fun p q B H S xs as d Q t r e k => by
  unfold dGcd at e; split at e
  · cases e
    obtain ⟨v, u, rfl, h, h'⟩ := r.inv2
    exact ⟨_, _, by rw [h.int_inv, h'.int_inv], k _ B H t (.int _)⟩
  · cases e
theorem f_tuple {K : PySem.W.Frag} : OpN K (fun xs H Q => ∃ p ys, xs = [.ref p] ∧ ((SqL K H p ys ∧ ∀ l, H l = none → Q (.ref l) (upd H l (.tup ys))) ∨ (SqT K H p ys ∧ Q (.ref p) H))) dTuple := fun p q B H S xs as d Q t r e k => by
  unfold dTuple at e; split at e
  · cases e
    obtain ⟨v, rfl, h⟩ := r.inv1
    obtain ⟨pp, ys, rfl, h1, h2⟩ := h.lst_inv
    exact ⟨pp, ys, rfl, .inl ⟨.inl (.inl (t.sub _ _ h1)), fun l nl => k _ _ _ (t.alloc nl) (.tup (.inl (.inl upd_same)) (h2.mono (low_of t nl)))⟩⟩
  · cases e
    obtain ⟨v, rfl, h⟩ := r.inv1
    obtain ⟨pp, ys, rfl, h1, h2⟩ := h.tup_inv
    exact ⟨pp, ys, rfl, .inr ⟨sqT_same t.sub h1, k _ B H t (.tup h1 h2)⟩⟩
  · cases e
theorem f_list {K : PySem.W.Frag} : OpF K (fun xs H Q => ∃ p ys, xs = [.ref p] ∧ (SqL K H p ys ∨ SqT K H p ys) ∧ ∀ l, H l = none → Q (.ref l) (upd H l (.lst ys))) dList := fun p q B H S xs as ds Q t r e k => by
  unfold dList at e; split at e
  · cases e
    obtain ⟨v, rfl, h⟩ := r.inv1
    obtain ⟨pp, ys, rfl, h1, h2⟩ := h.lst_inv
    exact ⟨pp, ys, rfl, .inl (.inl (.inl (t.sub _ _ h1))), fun l nl => k l ys nl h2⟩
  · cases e
    obtain ⟨v, rfl, h⟩ := r.inv1
    obtain ⟨pp, ys, rfl, h1, h2⟩ := h.tup_inv
    exact ⟨pp, ys, rfl, .inr (sqT_same t.sub h1), fun l nl => k l ys nl h2⟩
  · cases e
theorem pu_abs (hm : X.mg "abs" = none) (ha : PuA X (e :: es) gs k) (hg : Gl X "abs" := by rfl) (he : starEach (e :: es) X.env = (false, eval e X.env) :: starEach es X.env := by rfl) (hpl : (backTo pos (starEach es X.env)).any (·.1) = false := by rfl) : PuE X (.Call (.Name "abs" p) (e :: es) [] pos) (mBi dAbs gs) k :=
  pu_bi (fun _ h => pe_callB call_abs hg hm boot_abs h (by decide) (by decide) he hpl) f_abs ha
theorem pu_intc (hm : X.mg "int" = none) (ha : PuA X (e :: es) gs k) (hg : Gl X "int" := by rfl) (he : starEach (e :: es) X.env = (false, eval e X.env) :: starEach es X.env := by rfl) (hpl : (backTo pos (starEach es X.env)).any (·.1) = false := by rfl) : PuE X (.Call (.Name "int" p) (e :: es) [] pos) (mBi dInt gs) k :=
  pu_bi (fun _ h => pe_callTy call_int1 hg hm boot_int h (by decide) (by decide) he hpl) f_int ha
theorem pu_len (hm : X.mg "len" = none) (ha : PuA X (e :: es) gs k) (hg : Gl X "len" := by rfl) (he : starEach (e :: es) X.env = (false, eval e X.env) :: starEach es X.env := by rfl) (hpl : (backTo pos (starEach es X.env)).any (·.1) = false := by rfl) : PuE X (.Call (.Name "len" p) (e :: es) [] pos) (mBi dLen gs) k :=
  pu_bi (fun _ h => pe_callB (call_len_seq.or call_lenD) hg hm boot_len h (by decide) (by decide) he hpl) f_len ha
theorem pu_all (hc : X.calm = true) (hm : X.mg "all" = none) (ha : PuA X (e :: es) gs k) (hg : Gl X "all" := by rfl) (he : starEach (e :: es) X.env = (false, eval e X.env) :: starEach es X.env := by rfl) (hpl : (backTo pos (starEach es X.env)).any (·.1) = false := by rfl) : PuE X (.Call (.Name "all" p) (e :: es) [] pos) (mBi dAll gs) k :=
  pu_bi (fun _ h => pe_callB (cr_all hc) hg hm boot_all h (by decide) (by decide) he hpl) f_all ha
theorem pu_any (hc : X.calm = true) (hm : X.mg "any" = none) (ha : PuA X (e :: es) gs k) (hg : Gl X "any" := by rfl) (he : starEach (e :: es) X.env = (false, eval e X.env) :: starEach es X.env := by rfl) (hpl : (backTo pos (starEach es X.env)).any (·.1) = false := by rfl) : PuE X (.Call (.Name "any" p) (e :: es) [] pos) (mBi dAny gs) k :=
  pu_bi (fun _ h => pe_callB (cr_any hc) hg hm boot_any h (by decide) (by decide) he hpl) f_any ha
theorem pu_max2 (hc : X.calm = true) (hm : X.mg "max" = none) (ha : PuA X (e :: es) gs k) (hg : Gl X "max" := by rfl) (he : starEach (e :: es) X.env = (false, eval e X.env) :: starEach es X.env := by rfl) (hpl : (backTo pos (starEach es X.env)).any (·.1) = false := by rfl) : PuE X (.Call (.Name "max" p) (e :: es) [] pos) (mBi dMax2 gs) k :=
  pu_bi (fun _ h => pe_callB (call_max2 hc) hg hm boot_max h (by decide) (by decide) he hpl) f_max2 ha
theorem pu_min2 (hc : X.calm = true) (hm : X.mg "min" = none) (ha : PuA X (e :: es) gs k) (hg : Gl X "min" := by rfl) (he : starEach (e :: es) X.env = (false, eval e X.env) :: starEach es X.env := by rfl) (hpl : (backTo pos (starEach es X.env)).any (·.1) = false := by rfl) : PuE X (.Call (.Name "min" p) (e :: es) [] pos) (mBi dMin2 gs) k :=
  pu_bi (fun _ h => pe_callB (call_min2 hc) hg hm boot_min h (by decide) (by decide) he hpl) f_min2 ha
theorem pu_gcd (hm : X.mg "gcd" = some (.builtin "math.gcd")) (ha : PuA X (e :: es) gs k) (hg : Gl X "gcd" := by rfl) (he : starEach (e :: es) X.env = (false, eval e X.env) :: starEach es X.env := by rfl) (hpl : (backTo pos (starEach es X.env)).any (·.1) = false := by rfl) : PuE X (.Call (.Name "gcd" p) (e :: es) [] pos) (mBi dGcd gs) k :=
  pu_bi (fun _ h => pe_callBfun cr_gcd hg hm h (by decide) he hpl) f_gcd ha
theorem pu_tuplec (hm : X.mg "tuple" = none) (ha : PuA X (e :: es) gs k) (hg : Gl X "tuple" := by rfl) (he : starEach (e :: es) X.env = (false, eval e X.env) :: starEach es X.env := by rfl) (hpl : (backTo pos (starEach es X.env)).any (·.1) = false := by rfl) : PuE X (.Call (.Name "tuple" p) (e :: es) [] pos) (mBi dTuple gs) k :=
  pu_bi (fun _ h => pe_callTy call_tuple_of hg hm boot_tuple h (by decide) (by decide) he hpl) f_tuple ha
theorem puf_listc (hm : X.mg "list" = none) (ha : PuA X (e :: es) gs k) (hg : Gl X "list" := by rfl) (he : starEach (e :: es) X.env = (false, eval e X.env) :: starEach es X.env := by rfl) (hpl : (backTo pos (starEach es X.env)).any (·.1) = false := by rfl) : PuF X (.Call (.Name "list" p) (e :: es) [] pos) (mBiF dList gs) k :=
  puf_bi (fun _ h => pe_callTy call_list_of hg hm boot_list h (by decide) (by decide) he hpl) f_list ha

/-! ### isinstance with built-in types -/
inductive Ty where | int | bool | str | list | tuple | dict
def Ty.nm : Ty → String
  | .int => "int" | .bool => "bool" | .str => "str" | .list => "list" | .tuple => "tuple" | .dict => "dict"
def Ty.has : Ty → D → Bool
  | .int, .int _ => true | .int, .bl _ => true | .bool, .bl _ => true | .str, .str _ => true
  | .list, .lst _ => true | .tuple, .tup _ => true | .dict, .dct _ => true | _, _ => false
def D.ty : D → Option String
  | .non => some "NoneType" | .bl _ => some "bool" | .int _ => some "int" | .str _ => some "str" | .lst _ => some "list" | .tup _ => some "tuple" | .dct _ => some "dict" | .strm => none
theorem Rp.tyx {K : PySem.W.Frag} {pp : Addr} {B H : Hp} {v : V} {d : D} {t : String} (s : Same B H) (h : Rp K pp B v d) (e : d.ty = some t) : TyX K H v (.type t) := by
  cases h with
  | non => cases e; exact .base .non
  | bl b => cases e; exact .base (.bl b)
  | int i => cases e; exact .base (.int i)
  | str x => cases e; exact .base (.str x)
  | lst h r => cases e; exact .base (.lst (s _ _ h))
  | tup h r =>
    cases e
    rcases h with (h | ⟨o, h⟩) | ⟨o, its, n, h1, h2, _⟩
    · exact .base (.tup (s _ _ h))
    · exact .fTuple (s _ _ h)
    · exact .kTuple h1 h2
  | dK h r => cases e; exact .base (.dK (s _ _ h))
  | strm => cases e
theorem kit_has {K : PySem.W.Frag} (T : Ty) {d : D} {t : String} (e : d.ty = some t) : PySem.W.kitOne K (.type t) (.type T.nm) = some (T.has d) := by
  cases d <;> cases e <;> cases T <;> first | exact kit_ty (r := true) (by decide +kernel) | exact kit_ty (r := false) (by decide +kernel)
def dIsI (Ts : List Ty) (d : D) : Option D := if d.ty.isSome = true then some (.bl (Ts.any fun T => T.has d)) else none
theorem kit_any {K : PySem.W.Frag} {d : D} {t : String} (e : d.ty = some t) : ∀ Ts : List Ty, PySem.W.kitAny K (.type t) (Ts.map fun T => .type T.nm) = some (Ts.any fun T => T.has d)
  | [] => kitAny_nil
  | T :: r => by
    rw [List.map_cons, List.any_cons]
    refine kitAny_cons (kit_has T e) (fun h => ?_) fun h => ?_
    · rw [h, Bool.false_or]; exact kit_any e r
    · rw [h]; rfl
def tyC (T : Ty) : V := .ty T.nm
theorem pu_isi1 {n0 : Str} {p0 : Pos} (T : Ty) (hm : X.mg "isinstance" = none) (ht : X.mg n0 = none) (hb : bootBuiltins n0 = some (.type T.nm)) (ha : PuE X a ga ka) (hn : n0 ≠ "__name__" := by decide) (hd : (n0 == ("__debug__" : Str)) = false := by decide) (hg : Gl X "isinstance" := by rfl) (hgt : Gl X n0 := by rfl)
    (hs1 : starEach [.Name n0 p0] X.env = (false, eval (.Name n0 p0) X.env) :: starEach [] X.env := by rfl) (he : starEach (a :: [.Name n0 p0]) X.env = (false, eval a X.env) :: starEach [.Name n0 p0] X.env := by rfl) (hpl : (backTo pos (starEach [.Name n0 p0] X.env)).any (·.1) = false := by rfl) :
    PuE X (.Call (.Name "isinstance" p) [a, .Name n0 p0] [] pos) (mOp1 (dIsI [T]) ga) ka := by
  refine ⟨cst_op1 ha.cst, fun C hK hn' => pe_imp (pe_callB call_isi hg hm boot_isinstance (pa_cons (ha.run C hK hn') (pa_cons (pe_bltn (v := tyC T) hgt ht hb rfl hn hd) pa_nil hs1) he) (by decide) (by decide) he hpl) fun σ H Q ⟨ρ, S, B, O, R, d, S', eg, lim, q⟩ => ?_⟩
  obtain ⟨x, S1, e1, eg⟩ := mBind_some eg
  obtain ⟨ef, rfl⟩ := mPure_some eg
  refine ⟨ρ, S, B, O, R, x, S', e1, lim, fun v B1 H1 t1 r1 => ?_⟩
  unfold dIsI at ef
  split at ef
  · rename_i hy
    obtain ⟨t, ht⟩ := Option.isSome_iff_exists.mp hy
    cases ef
    refine ⟨v, tyC T, .type t, .type T.nm, T.has x, rfl, .ty _, hK ▸ r1.tyx t1.sub ht, kit_has T ht, ?_⟩
    have := q (.bl (T.has x)) B1 H1 t1
    rw [show ([T].any fun T => T.has x) = T.has x by simp] at this
    exact this (.bl _)
  · cases ef
theorem tyC_all : ∀ Ts : List Ty, Paired ClsV (Ts.map tyC) (Ts.map fun T => Value.type T.nm)
  | [] => .nil
  | T :: r => .cons (.ty _) (tyC_all r)
/-- isinstance(a, (T1, T2, ..)) -/
theorem pu_isiT {ts : List Expr} {x1 : Nat} {pt : Pos} (Ts : List Ty) (hm : X.mg "isinstance" = none) (hts : PA X ts (fun _ H Q => Q (Ts.map tyC) H)) (ha : PuE X a ga ka) (hl : Ts.length ≤ sizeLine := by decide) (hg : Gl X "isinstance" := by rfl)
    (hs1 : starEach [.Tuple ts x1 pt] X.env = (false, eval (.Tuple ts x1 pt) X.env) :: starEach [] X.env := by rfl) (he : starEach (a :: [.Tuple ts x1 pt]) X.env = (false, eval a X.env) :: starEach [.Tuple ts x1 pt] X.env := by rfl) (hpl : (backTo pos (starEach [.Tuple ts x1 pt] X.env)).any (·.1) = false := by rfl) :
    PuE X (.Call (.Name "isinstance" p) [a, .Tuple ts x1 pt] [] pos) (mOp1 (dIsI Ts) ga) ka := by
  refine ⟨cst_op1 ha.cst, fun C hK hn' => pe_imp (pe_callB call_isiT hg hm boot_isinstance (pa_cons (ha.run C hK hn') (pa_cons (pe_tup hts) pa_nil hs1) he) (by decide) (by decide) he hpl) fun σ H Q ⟨ρ, S, B, O, R, d, S', eg, lim, q⟩ => ?_⟩
  obtain ⟨x, S1, e1, eg⟩ := mBind_some eg
  obtain ⟨ef, rfl⟩ := mPure_some eg
  refine ⟨ρ, S, B, O, R, x, S', e1, lim, fun v B1 H1 t1 r1 => ⟨by rw [List.length_map]; exact hl, fun r nr => ?_⟩⟩
  unfold dIsI at ef
  split at ef
  · rename_i hy
    obtain ⟨t, ht⟩ := Option.isSome_iff_exists.mp hy
    cases ef
    have t2 := t1.hid (o := .tup (Ts.map tyC)) nr
    exact ⟨v, r, Ts.map tyC, .type t, Ts.map fun T => .type T.nm, _, rfl, upd_same, tyC_all Ts, hK ▸ r1.tyx t2.sub ht, kit_any ht Ts, q _ B1 _ t2 (.bl _)⟩
  · cases ef
theorem pts_one_ty {n0 : Str} {p0 : Pos} {ts : List Expr} {T : Ty} {Ts : List Ty} (ht : X.mg n0 = none) (hb : bootBuiltins n0 = some (.type T.nm)) (h : PA X ts (fun _ H Q => Q (Ts.map tyC) H)) (hn : n0 ≠ "__name__" := by decide) (hd : (n0 == ("__debug__" : Str)) = false := by decide) (hgt : Gl X n0 := by rfl)
    (hs1 : starEach (.Name n0 p0 :: ts) X.env = (false, eval (.Name n0 p0) X.env) :: starEach ts X.env := by rfl) : PA X (.Name n0 p0 :: ts) (fun _ H Q => Q ((T :: Ts).map tyC) H) :=
  pa_imp (pa_cons (pe_bltn (v := tyC T) hgt ht hb rfl hn hd) h hs1) fun σ H Q q => q
theorem pts_nil_ty : PA X [] (fun _ H Q => Q (([] : List Ty).map tyC) H) := pa_imp pa_nil fun σ H Q q => q
end
end L2.Ev
namespace L2.Ev
open PySem PySem.Spec PyProof.Rows

/-! ### what is walked -/
def Pres (K : PySem.W.Frag) (p q : Addr) (J : It) (ds : List D) (B0 : Hp) : Prop := ∀ (i : Nat) (B H : Hp) (S : Strm), Same B0 B → Step p q B H B H S →
  (ds.length ≤ i → J.stop i H) ∧ ∀ d, ds[i]? = some d → J.go i H ∧ ∀ x H', J.yld i H x H' → ∃ B', Step p q B H B' H' S ∧ Rp K p B' x d
def tPuI (C : Cfg) (g : M (List D)) : TI := fun σ H R => ∃ ρ S B O, Rl C ρ S B O σ H ∧ ∃ ds S', g ρ S = some (ds, S') ∧ S'.cnt ≤ LIM ∧ ∀ J B' H', Step C.p C.q B H B' H' S' → Pres C.K C.p C.q J ds B' → R J H'
structure PuI (X : Cx) (tg e : Expr) (g : M (List D)) (k : Nat) : Prop where
  cst : Cst k g
  run : ∀ C : Cfg, C.K = X.K → C.n = X.N.length → PI X tg e (tPuI C g)
section
variable {X : Cx} {tg e a b : Expr} {ga gb : ME} {k ka kb : Nat} {pos p : Pos} {gs : M (List D)}
theorem pi_imp {w w' : TI} (h : PI X tg e w) (hi : ∀ σ H R, w' σ H R → w σ H R) : PI X tg e w' := ⟨fun pins s σ H R I q => h.run pins s σ H R I (hi _ _ _ q)⟩
theorem pi_or {w w' : TI} (h : PI X tg e w) (h' : PI X tg e w') : PI X tg e (fun σ H R => w σ H R ∨ w' σ H R) := ⟨fun pins s σ H R I q => q.elim (h.run pins s σ H R I) (h'.run pins s σ H R I)⟩
def mIt (ga : ME) : M (List D) := mBind ga fun d => mPure (dItems d)
theorem pres_lst {K : PySem.W.Frag} {pp q a : Addr} {xs : List V} {ds : List D} {B0 : Hp} (h : B0 a = some (.lst xs)) (r : RpAll K pp B0 xs ds) : Pres K pp q (Itl K a) ds B0 := fun i B H S sm t => by
  have hH : SqL K H a xs := .inl (.inl (t.sub _ _ (sm _ _ h)))
  refine ⟨fun hi => ⟨xs, hH, by rw [r.length]; exact hi⟩, fun d hd => ?_⟩
  obtain ⟨v, h1, h2⟩ := r.get hd
  refine ⟨⟨xs, v, hH, h1⟩, fun x H' y => ?_⟩
  obtain ⟨rfl, y⟩ := y
  have e2 := y xs hH
  rw [h1] at e2
  cases e2
  exact ⟨B, t, h2.mono sm⟩
theorem pres_tup {K : PySem.W.Frag} {pp q a : Addr} {xs : List V} {ds : List D} {B0 : Hp} (h : SqT K B0 a xs) (r : RpAll K pp B0 xs ds) : Pres K pp q (Itt K a) ds B0 := fun i B H S sm t => by
  have hH : SqT K H a xs := sqT_same t.sub (sqT_same sm h)
  refine ⟨fun hi => ⟨xs, hH, by rw [r.length]; exact hi⟩, fun d hd => ?_⟩
  obtain ⟨v, h1, h2⟩ := r.get hd
  refine ⟨⟨xs, v, hH, h1⟩, fun x H' y => ?_⟩
  obtain ⟨rfl, y⟩ := y
  have e2 := y xs hH
  rw [h1] at e2
  cases e2
  exact ⟨B, t, h2.mono sm⟩
theorem pui_seq (ha : PuE X e ga ka) : PuI X tg e (mIt ga) ka := by
  refine ⟨cst_bind (k := ka) (l := 0) ha.cst fun _ => cst_pure, fun C hK hn => pi_imp (pi_or (pi_list (ha.run C hK hn)) (pi_tup (ha.run C hK hn))) fun σ H Rr ⟨ρ, S, B, O, R, ds, S', eg, lim, q⟩ => ?_⟩
  obtain ⟨x, S1, e1, eg⟩ := mBind_some eg
  obtain ⟨ef, rfl⟩ := mPure_some eg
  unfold dItems at ef
  split at ef
  · cases ef
    refine .inl ⟨ρ, S, B, O, R, _, S', e1, lim, fun v B1 H1 t1 r1 => ?_⟩
    obtain ⟨pp, xs, e2, h1, h2⟩ := r1.lst_inv
    exact ⟨pp, e2, ⟨xs, .inl (.inl (t1.sub _ _ h1))⟩, q _ B1 H1 t1 (hK ▸ pres_lst h1 h2)⟩
  · cases ef
    refine .inr ⟨ρ, S, B, O, R, _, S', e1, lim, fun v B1 H1 t1 r1 => ?_⟩
    obtain ⟨pp, xs, e2, h1, h2⟩ := r1.tup_inv
    exact ⟨pp, e2, ⟨xs, hK ▸ sqT_same t1.sub h1⟩, q _ B1 H1 t1 (hK ▸ pres_tup h1 h2)⟩
  · cases ef
/-- range(n), range(a, b) -/
def dRange (lo : Int) (n : Nat) : List D := (List.range n).map fun i => .int (lo + (i : Nat))
def mRange1 (g : M (List D)) : M (List D) := mBind g fun as => mPure (match as with
  | [.int j] => if -(2 ^ 62) ≤ j ∧ j < 2 ^ 62 then some (dRange 0 j.toNat) else none
  | _ => none)
def mRange2 (g : M (List D)) : M (List D) := mBind g fun as => mPure (match as with
  | [.int i, .int j] => if -(2 ^ 62) ≤ i ∧ i < 2 ^ 62 ∧ -(2 ^ 62) ≤ j ∧ j < 2 ^ 62 then some (dRange i (j - i).toNat) else none
  | _ => none)
theorem pres_rng {K : PySem.W.Frag} {pp q : Addr} {lo : Int} {n : Nat} {B0 : Hp} : Pres K pp q (Itr lo n) (dRange lo n) B0 := fun i B H S sm t => by
  unfold dRange
  refine ⟨fun hi => (by simpa using hi : n ≤ i), fun d hd => ?_⟩
  rw [List.getElem?_map] at hd
  have hi : i < n := by
    by_cases h : i < n
    · exact h
    · rw [List.getElem?_eq_none (by simpa using h)] at hd; cases hd
  rw [List.getElem?_eq_getElem (by simpa using hi)] at hd
  simp only [List.getElem_range, Option.map_some, Option.some.injEq] at hd
  refine ⟨hi, fun x H' y => ?_⟩
  obtain ⟨rfl, rfl⟩ := y
  rw [← hd]
  exact ⟨B, t, .int _⟩
theorem pui_range1 (hm : X.mg "range" = none) (ha : PuA X [a] gs k) (hg : Gl X "range" := by rfl) (hs : starEach [a] X.env = [(false, eval a X.env)] := by rfl) : PuI X tg (.Call (.Name "range" p) [a] [] pos) (mRange1 gs) k := by
  refine ⟨cst_bind (k := k) (l := 0) ha.cst fun _ => cst_pure, fun C hK hn => pi_imp (pi_range1 hg hm (ha.run C hK hn) hs) fun σ H Rr ⟨ρ, S, B, O, R, ds, S', eg, lim, q⟩ => ?_⟩
  obtain ⟨as, S1, e1, eg⟩ := mBind_some eg
  obtain ⟨ef, rfl⟩ := mPure_some eg
  refine ⟨ρ, S, B, O, R, as, S', e1, lim, fun vs B1 H1 t1 r1 => ?_⟩
  split at ef
  · split at ef
    · rename_i hz
      cases ef
      obtain ⟨v, rfl, h⟩ := r1.inv1
      exact ⟨_, by rw [h.int_inv], hz.1, hz.2, q _ B1 H1 t1 pres_rng⟩
    · cases ef
  · cases ef
theorem pui_range2 (hm : X.mg "range" = none) (ha : PuA X [a, b] gs k) (hg : Gl X "range" := by rfl) (hs : starEach [a, b] X.env = [(false, eval a X.env), (false, eval b X.env)] := by rfl) (hs2 : starEach [b] X.env = [(false, eval b X.env)] := by rfl) : PuI X tg (.Call (.Name "range" p) [a, b] [] pos) (mRange2 gs) k := by
  refine ⟨cst_bind (k := k) (l := 0) ha.cst fun _ => cst_pure, fun C hK hn => pi_imp (pi_range2 hg hm (ha.run C hK hn) hs hs2) fun σ H Rr ⟨ρ, S, B, O, R, ds, S', eg, lim, q⟩ => ?_⟩
  obtain ⟨as, S1, e1, eg⟩ := mBind_some eg
  obtain ⟨ef, rfl⟩ := mPure_some eg
  refine ⟨ρ, S, B, O, R, as, S', e1, lim, fun vs B1 H1 t1 r1 => ?_⟩
  split at ef
  · split at ef
    · rename_i hz
      cases ef
      obtain ⟨v, u, rfl, h, h'⟩ := r1.inv2
      exact ⟨_, _, by rw [h.int_inv, h'.int_inv], hz, q _ B1 H1 t1 pres_rng⟩
    · cases ef
  · cases ef
/-- zip of two lists, of two tuples -/
def dZip (xs ys : List D) : List D := List.zipWith (fun a b => .tup [a, b]) xs ys
def mZip (g : M (List D)) : M (List D) := mBind g fun as => mPure (match as with
  | [.lst xs, .lst ys] => some (dZip xs ys)
  | [.tup xs, .tup ys] => some (dZip xs ys)
  | _ => none)
theorem zip_get {xs ys : List D} {i : Nat} {d : D} (h : (dZip xs ys)[i]? = some d) : ∃ a b, xs[i]? = some a ∧ ys[i]? = some b ∧ d = .tup [a, b] := by
  unfold dZip at h
  rw [List.getElem?_zipWith] at h
  cases e1 : xs[i]? with
  | none => rw [e1] at h; cases h
  | some a =>
    cases e2 : ys[i]? with
    | none => rw [e1, e2] at h; cases h
    | some b => rw [e1, e2] at h; cases h; exact ⟨a, b, rfl, rfl, rfl⟩
theorem pair_step {K : PySem.W.Frag} {pp q : Addr} {B H : Hp} {S : Strm} {T : Addr} {x y : V} {a b : D} (t : Step pp q B H B H S) (n : H T = none) (r1 : Rp K pp B x a) (r2 : Rp K pp B y b) : ∃ B', Step pp q B H B' (upd H T (.tup [x, y])) S ∧ Rp K pp B' (.ref T) (.tup [a, b]) :=
  ⟨_, t.alloc n, .tup (.inl (.inl upd_same)) (.cons (r1.mono (low_of t n)) (.cons (r2.mono (low_of t n)) .nil))⟩
theorem pui_zip {elts : List Expr} {kk : Nat} {tpos : Pos} (hm : X.mg "zip" = none) (ha : PuA X [a, b] gs k) (hg : Gl X "zip" := by rfl) (hs : starEach [a, b] X.env = (false, eval a X.env) :: starEach [b] X.env := by rfl) (hpl : (backTo pos (starEach [b] X.env)).any (·.1) = false := by rfl) :
    PuI X (.Tuple elts kk tpos) (.Call (.Name "zip" p) [a, b] [] pos) (mZip gs) k := by
  refine ⟨cst_bind (k := k) (l := 0) ha.cst fun _ => cst_pure, fun C hK hn => pi_imp (RZ.pi_zipA hg hm (ha.run C hK hn) hs hpl) fun σ H Rr ⟨ρ, S, B, O, R, ds, S', eg, lim, q⟩ => ?_⟩
  obtain ⟨as, S1, e1, eg⟩ := mBind_some eg
  obtain ⟨ef, rfl⟩ := mPure_some eg
  refine ⟨ρ, S, B, O, R, as, S', e1, lim, fun vs B1 H1 t1 r1 => ?_⟩
  split at ef
  · cases ef
    obtain ⟨v, u, rfl, h, h'⟩ := r1.inv2
    obtain ⟨m1, xs, rfl, g1, g2⟩ := h.lst_inv
    obtain ⟨m2, ys, rfl, g3, g4⟩ := h'.lst_inv
    refine ⟨m1, m2, xs, ys, rfl, .inl ⟨.inl (.inl (t1.sub _ _ g1)), .inl (.inl (t1.sub _ _ g3)), q _ B1 H1 t1 fun i B H S sm t => ?_⟩⟩
    have hA : SqL X.K H m1 xs := .inl (.inl (t.sub _ _ (sm _ _ g1)))
    have hB : SqL X.K H m2 ys := .inl (.inl (t.sub _ _ (sm _ _ g3)))
    refine ⟨fun hi => ⟨xs, ys, hA, hB, ?_⟩, fun d hd => ?_⟩
    · unfold dZip at hi
      rw [List.length_zipWith, ← g2.length, ← g4.length] at hi
      omega
    · obtain ⟨d1, d2, h1, h2, rfl⟩ := zip_get hd
      obtain ⟨x, k1, k2⟩ := g2.get h1
      obtain ⟨y, k3, k4⟩ := g4.get h2
      refine ⟨⟨xs, ys, x, y, hA, hB, k1, k3⟩, fun z H' yy => ?_⟩
      obtain ⟨T, x', y', rfl, nT, rfl, f1, f2⟩ := yy
      have e1 := f1 xs hA
      rw [k1] at e1
      cases e1
      have e2 := f2 ys hB
      rw [k3] at e2
      cases e2
      exact pair_step t nT (k2.mono sm) (k4.mono sm)
  · cases ef
    obtain ⟨v, u, rfl, h, h'⟩ := r1.inv2
    obtain ⟨m1, xs, rfl, g1, g2⟩ := h.tup_inv
    obtain ⟨m2, ys, rfl, g3, g4⟩ := h'.tup_inv
    refine ⟨m1, m2, xs, ys, rfl, .inr ⟨hK ▸ sqT_same t1.sub g1, hK ▸ sqT_same t1.sub g3, q _ B1 H1 t1 fun i B H S sm t => ?_⟩⟩
    have hA : SqT X.K H m1 xs := hK ▸ sqT_same t.sub (sqT_same sm g1)
    have hB : SqT X.K H m2 ys := hK ▸ sqT_same t.sub (sqT_same sm g3)
    refine ⟨fun hi => ⟨xs, ys, hA, hB, ?_⟩, fun d hd => ?_⟩
    · unfold dZip at hi
      rw [List.length_zipWith, ← g2.length, ← g4.length] at hi
      omega
    · obtain ⟨d1, d2, h1, h2, rfl⟩ := zip_get hd
      obtain ⟨x, k1, k2⟩ := g2.get h1
      obtain ⟨y, k3, k4⟩ := g4.get h2
      refine ⟨⟨xs, ys, x, y, hA, hB, k1, k3⟩, fun z H' yy => ?_⟩
      obtain ⟨T, x', y', rfl, nT, rfl, f1, f2⟩ := yy
      have e1 := f1 xs hA
      rw [k1] at e1
      cases e1
      have e2 := f2 ys hB
      rw [k3] at e2
      cases e2
      exact pair_step t nT (k2.mono sm) (k4.mono sm)
  · cases ef
theorem pui_never : PuI X tg e mFail 0 := ⟨cst_fail, fun _ _ _ => ⟨fun _ _ _ _ _ _ ⟨_, _, _, _, _, _, _, eg, _⟩ => by cases eg⟩⟩
end

/-! ### targets -/
theorem set_comm_same {α : Type} (l : List α) (i : Nat) (a b : α) : (l.set i a).set i b = l.set i b := by rw [List.set_set]
theorem wipe_set {i : Nat} {x : Option V} : ∀ {vs : List Nat} {σ : St}, i ∈ vs → wipe (σ.set i x) vs = wipe σ vs
  | v :: vs, σ, h => by
    unfold wipe
    by_cases hi : i ∈ vs
    · rw [wipe_set hi]
    · have hv : i = v := by
        rcases List.mem_cons.mp h with e | e
        · exact e
        · exact absurd e hi
      subst hv
      have g : ∀ {us : List Nat} {σ : St}, i ∉ us → wipe (σ.set i x) us = (wipe σ us).set i x := by
        intro us
        induction us with
        | nil => intro σ _; rfl
        | cons u us ih =>
          intro σ hn
          unfold wipe
          rw [ih (fun z => hn (List.mem_cons_of_mem _ z)), List.set_comm _ _ (fun e => hn (by rw [e]; exact List.mem_cons_self))]
      rw [g hi, List.set_set]
theorem wipe_idem : ∀ {vs us : List Nat} {σ : St}, (∀ i ∈ us, i ∈ vs) → wipe (wipe σ us) vs = wipe σ vs
  | vs, [], σ, _ => rfl
  | vs, u :: us, σ, h => by
    show wipe ((wipe σ us).set u none) vs = wipe σ vs
    rw [wipe_set (h u List.mem_cons_self), wipe_idem fun i hi => h i (List.mem_cons_of_mem _ hi)]
def tPuG (C : Cfg) (ts : List Nat) (f : D → En → Option En) : TG := fun v σ H Q => ∃ ρ S B O d, Rl C ρ S B O σ H ∧ Rp C.K C.p B v d ∧ ∃ ρ', f d ρ = some ρ' ∧ ∀ σ', Rl C ρ' S B O σ' H → (∀ vs, (∀ i ∈ ts, i ∈ vs) → wipe σ' vs = wipe σ vs) → Q σ' H
def tPuGs (C : Cfg) (ts : List Nat) (f : List D → En → Option En) : TGs := fun vs σ H Q => ∃ ρ S B O ds, Rl C ρ S B O σ H ∧ RpAll C.K C.p B vs ds ∧ ∃ ρ', f ds ρ = some ρ' ∧ ∀ σ', Rl C ρ' S B O σ' H → (∀ vs, (∀ i ∈ ts, i ∈ vs) → wipe σ' vs = wipe σ vs) → Q σ' H
structure PuG (X : Cx) (tg : Expr) (ts : List Nat) (f : D → En → Option En) : Prop where
  run : ∀ C : Cfg, C.K = X.K → C.n = X.N.length → PG X tg (tPuG C ts f)
structure PuGs (X : Cx) (tgs : List Expr) (ts : List Nat) (f : List D → En → Option En) : Prop where
  run : ∀ C : Cfg, C.K = X.K → C.n = X.N.length → PGs X tgs (tPuGs C ts f)
section
variable {X : Cx} {tg e : Expr} {es : List Expr} {pos : Pos}
theorem pg_imp {t t' : TG} (h : PG X tg t) (hi : ∀ v σ H Q, t' v σ H Q → t v σ H Q) : PG X tg t' := ⟨fun pins s σ H v u Q I r q => h.run pins s σ H v u Q I r (hi _ _ _ _ q)⟩
theorem pgs_imp {t t' : TGs} (h : PGs X es t) (hi : ∀ v σ H Q, t' v σ H Q → t v σ H Q) : PGs X es t' := ⟨fun pins s σ H v u Q I r q => h.run pins s σ H v u Q I r (hi _ _ _ _ q)⟩
theorem pg_or {t t' : TG} (h : PG X tg t) (h' : PG X tg t') : PG X tg (fun v σ H Q => t v σ H Q ∨ t' v σ H Q) := ⟨fun pins s σ H v u Q I r q => q.elim (h.run pins s σ H v u Q I r) (h'.run pins s σ H v u Q I r)⟩
def gN (i : Nat) : D → En → Option En := fun d ρ => some (ρ.set i (some (.sh d)))
def gNl : List D → En → Option En := fun ds ρ => match ds with
  | [] => some ρ
  | _ :: _ => none
def gCo (f : D → En → Option En) (g : List D → En → Option En) : List D → En → Option En := fun ds ρ => match ds with
  | [] => none
  | d :: r => (f d ρ).bind (g r)
def gT (n : Nat) (g : List D → En → Option En) : D → En → Option En := fun d ρ => (dItems d).bind fun ds => if ds.length = n then g ds ρ else none
theorem pug_name {i : Nat} {x : Str} (hN : X.N.Nodup) (hi : X.N[i]? = some x := by rfl) (hx : Loc X.env.scope x := by first | exact Or.inl rfl | exact Or.inr rfl) (hf : X.fn x = true ∨ X.env.scope.names.lookup x = some .local := by first | exact .inl rfl | exact .inr rfl) : PuG X (.Name x pos) [i] (gN i) :=
  ⟨fun C hK hn => pg_imp (pg_name hN hi hx hf) fun v σ H Q ⟨ρ, S, B, O, d, R, r, ρ', ef, q⟩ => by
    cases ef
    have hlt : i < C.n := by rw [hn]; exact (List.getElem?_eq_some_iff.mp hi).1
    exact q _ (R.set hlt r) fun vs hv => wipe_set (hv i (by simp))⟩
theorem pugs_nil : PuGs X [] [] gNl := ⟨fun C hK hn => pgs_imp pgs_nil fun v σ H Q ⟨ρ, S, B, O, ds, R, r, ρ', ef, q⟩ => by
  unfold gNl at ef
  split at ef
  · cases ef
    cases r
    exact ⟨rfl, q σ R fun _ _ => rfl⟩
  · cases ef⟩
theorem pugs_cons {f : D → En → Option En} {g : List D → En → Option En} {t1 t2 : List Nat} (h1 : PuG X e t1 f) (h2 : PuGs X es t2 g) (hs : (assignEach (e :: es) X.env).map (·.2) = assign e X.env :: (assignEach es X.env).map (·.2) := by rfl) : PuGs X (e :: es) (t1 ++ t2) (gCo f g) :=
  ⟨fun C hK hn => pgs_imp (pgs_cons (h1.run C hK hn) (h2.run C hK hn) hs) fun v σ H Q ⟨ρ, S, B, O, ds, R, r, ρ', ef, q⟩ => by
    unfold gCo at ef
    split at ef
    · cases ef
    · rename_i d rr
      cases z : f d ρ with
      | none => rw [z] at ef; cases ef
      | some ρ1 =>
        rw [z] at ef
        cases r with
        | cons rd rs =>
          refine ⟨_, _, rfl, ρ, S, B, O, d, R, rd, ρ1, z, fun σ1 R1 w1 => ?_⟩
          exact ⟨ρ1, S, B, O, rr, R1, rs, ρ', ef, fun σ2 R2 w2 => q σ2 R2 fun vs hv => (w2 vs fun i hi => hv i (List.mem_append_right _ hi)).trans (w1 vs fun i hi => hv i (List.mem_append_left _ hi))⟩⟩
theorem pug_tup {k : Nat} {g : List D → En → Option En} {n : Nat} {ts : List Nat} (hc : X.calm = true) (h : PuGs X es ts g) (hn' : (assignEach es X.env).length = n := by rfl) (hst : (assignEach es X.env).findIdx? (·.1) = none := by rfl) : PuG X (.Tuple es k pos) ts (gT n g) :=
  ⟨fun C hK hn => pg_imp (pg_or (pg_tup hc (h.run C hK hn) hn' hst) (pg_lst hc (h.run C hK hn) hn' hst)) fun v σ H Q ⟨ρ, S, B, O, d, R, r, ρ', ef, q⟩ => by
    unfold gT at ef
    cases z : dItems d with
    | none => rw [z] at ef; cases ef
    | some ds =>
      rw [z] at ef
      replace ef : (if ds.length = n then g ds ρ else none) = some ρ' := ef
      split at ef
      · rename_i hl
        unfold dItems at z
        split at z
        · cases z
          obtain ⟨pp, xs, e2, h1, h2⟩ := r.lst_inv
          exact .inr ⟨pp, xs, e2, .inl (.inl (R.wd.sub _ _ h1)), h2.length.trans hl, ρ, S, B, O, ds, R, h2, ρ', ef, q⟩
        · cases z
          obtain ⟨pp, xs, e2, h1, h2⟩ := r.tup_inv
          exact .inl ⟨pp, xs, e2, hK ▸ sqT_same R.wd.sub h1, h2.length.trans hl, ρ, S, B, O, ds, R, h2, ρ', ef, q⟩
        · cases z
      · cases ef⟩
end

/-! ### comprehensions -/
def wipeE (ρ : En) : List Nat → En
  | [] => ρ
  | v :: vs => (wipeE ρ vs).set v none
def compL (f : D → En → Option En) (cond : M Bool) (elt : ME) (ρ : En) : List D → Strm → Option (List D × Strm)
  | [], S => some ([], S)
  | d :: ds, S => (f d ρ).bind fun ρ1 => (cond ρ1 S).bind fun b => if b.1 = true then (elt ρ1 b.2).bind fun x => (compL f cond elt ρ ds x.2).map fun r => (x.1 :: r.1, r.2) else compL f cond elt ρ ds b.2
def mComp (vs : List Nat) (f : D → En → Option En) (gi : M (List D)) (cond : M Bool) (elt : ME) : M (List D) := mBind gi fun ds => fun ρ S => if ds.length ≤ sizeLine then compL f cond elt (wipeE ρ vs) ds S else none
theorem cst_compL {f : D → En → Option En} {cond : M Bool} {elt : ME} {ρ : En} {kc ke : Nat} (hc : Cst kc cond) (he : Cst ke elt) : ∀ (ds : List D) (S : Strm) (r : List D) (S' : Strm), compL f cond elt ρ ds S = some (r, S') → S.cnt ≤ S'.cnt ∧ S'.cnt ≤ S.cnt + ds.length * (kc + ke)
  | [], S, r, S', h => by
    unfold compL at h
    cases h
    simp
  | d :: ds, S, r, S', h => by
    unfold compL at h
    cases z : f d ρ with
    | none => rw [z] at h; cases h
    | some ρ1 =>
      rw [z] at h
      replace h : (cond ρ1 S).bind (fun b => if b.1 = true then (elt ρ1 b.2).bind fun x => (compL f cond elt ρ ds x.2).map fun r => (x.1 :: r.1, r.2) else compL f cond elt ρ ds b.2) = some (r, S') := h
      cases y : cond ρ1 S with
      | none => rw [y] at h; cases h
      | some b =>
        rw [y] at h
        replace h : (if b.1 = true then (elt ρ1 b.2).bind fun x => (compL f cond elt ρ ds x.2).map fun r => (x.1 :: r.1, r.2) else compL f cond elt ρ ds b.2) = some (r, S') := h
        have hb := hc ρ1 S b.1 b.2 y
        have e1 : (d :: ds).length * (kc + ke) = ds.length * (kc + ke) + (kc + ke) := by rw [List.length_cons, Nat.add_mul]; omega
        split at h
        · cases w : elt ρ1 b.2 with
          | none => rw [w] at h; cases h
          | some x =>
            rw [w] at h
            replace h : (compL f cond elt ρ ds x.2).map (fun r => (x.1 :: r.1, r.2)) = some (r, S') := h
            have hx := he ρ1 b.2 x.1 x.2 w
            cases u : compL f cond elt ρ ds x.2 with
            | none => rw [u] at h; cases h
            | some r2 =>
              rw [u] at h
              cases h
              have hr := cst_compL (f := f) (ρ := ρ) hc he ds x.2 r2.1 r2.2 u
              omega
        · have hr := cst_compL (f := f) (ρ := ρ) hc he ds b.2 r S' h
          omega
theorem cst_comp {vs : List Nat} {f : D → En → Option En} {gi : M (List D)} {cond : M Bool} {elt : ME} {ki kc ke : Nat} (hi : Cst ki gi) (hc : Cst kc cond) (he : Cst ke elt) : Cst (ki + sizeLine * (kc + ke)) (mComp vs f gi cond elt) := cst_bind hi fun ds => fun ρ S r S' h => by
  split at h
  · rename_i hl
    have hr := cst_compL (f := f) (ρ := wipeE ρ vs) hc he ds S r S' h
    have h2 : ds.length * (kc + ke) ≤ sizeLine * (kc + ke) := Nat.mul_le_mul_right _ hl
    omega
  · cases h
theorem wipeE_len (ρ : En) : ∀ vs : List Nat, (wipeE ρ vs).length = ρ.length
  | [] => rfl
  | v :: vs => by unfold wipeE; rw [List.length_set, wipeE_len ρ vs]
theorem wipeE_some {ρ : En} {i : Nat} {x : Ent} : ∀ {vs : List Nat}, (wipeE ρ vs)[i]? = some (some x) → ρ[i]? = some (some x) ∧ i ∉ vs
  | [], h => ⟨h, by simp⟩
  | v :: vs, h => by
    unfold wipeE at h
    by_cases hi : v = i
    · subst hi
      by_cases hv : v < (wipeE ρ vs).length
      · rw [List.getElem?_set_self hv] at h; cases h
      · rw [List.getElem?_eq_none (by simpa using hv)] at h; cases h
    · rw [List.getElem?_set_ne hi] at h
      obtain ⟨h1, h2⟩ := wipeE_some h
      exact ⟨h1, by simp only [List.mem_cons, not_or]; exact ⟨fun e => hi e.symm, h2⟩⟩
theorem wipe_keep {σ : St} {i : Nat} : ∀ {vs : List Nat}, i ∉ vs → (wipe σ vs)[i]? = σ[i]?
  | [], _ => rfl
  | v :: vs, h => by
    unfold wipe
    rw [List.getElem?_set_ne (fun e => h (by rw [e]; exact List.mem_cons_self))]
    exact wipe_keep fun z => h (List.mem_cons_of_mem _ z)
theorem Rl.wipe {C : Cfg} {ρ : En} {S : Strm} {B : Hp} {O : Nat → Option Addr} {σ : St} {H : Hp} (R : Rl C ρ S B O σ H) (vs : List Nat) : Rl C (wipeE ρ vs) S B O (wipe σ vs) H := by
  refine ⟨R.wd, (wipe_length σ vs).trans R.len, (wipeE_len ρ vs).trans R.lenE, fun i e h => ?_, R.own, R.inj⟩
  obtain ⟨h1, h2⟩ := wipeE_some h
  have q := R.slots i e h1
  cases e with
  | sh d => obtain ⟨v, h3, h4⟩ := q; exact ⟨v, by rw [wipe_keep h2]; exact h3, h4⟩
  | ol ds => obtain ⟨a, ws, g0, g1, g2, g3⟩ := q; exact ⟨a, ws, g0, by rw [wipe_keep h2]; exact g1, g2, g3⟩
structure PuTs (X : Cx) (ifs : List Expr) (g : M Bool) (k : Nat) : Prop where
  cst : Cst k g
  run : ∀ C : Cfg, C.K = X.K → C.n = X.N.length → PTs X ifs (tPuT C g)
theorem puts_nil {X : Cx} : PuTs X [] (mPure (some true)) 0 := ⟨cst_pure, fun C hK hn => ⟨fun pins s σ H Q I ⟨ρ, S, B, O, R, b, S', eg, lim, q⟩ => by
  cases eg
  exact pts_nil.run pins s σ H Q I (q B H R.self)⟩⟩
theorem puts_one {X : Cx} {c : Expr} {g : M Bool} {k : Nat} (h : PuT X c g k) : PuTs X [c] g k := ⟨h.cst, fun C hK hn => pts_one (h.run C hK hn)⟩
theorem getElem?_drop_of {α : Type} {l : List α} {i : Nat} {d : α} {r : List α} (h : l.drop i = d :: r) : l[i]? = some d ∧ l.drop (i + 1) = r ∧ i < l.length := by
  have h1 : (l.drop i)[0]? = some d := by rw [h]; rfl
  rw [List.getElem?_drop] at h1
  refine ⟨by simpa using h1, ?_, ?_⟩
  · rw [← List.drop_drop, h]; rfl
  · have := (List.getElem?_eq_some_iff.mp h1).1
    omega
/-- a comprehension's pieces -/
structure PuLc (X : Cx) (elt tg iter : Expr) (ifs : List Expr) (scope : Scope) (own : List (Str × Nat)) (ts : List Nat) (f : D → En → Option En) (gi : M (List D)) (cond : M Bool) (ge : ME) (ki kc ke : Nat) : Prop where
  hc : X.calm = true
  hN : X.N.Nodup
  hi : PuI X tg iter gi ki
  ok : BlkOk X.N X.env.scope scope own
  hg : ∀ (s : Shared) (H : Hp) (C : Addr) (cl : List (Str × Addr)) (fp : List Addr), PuG (X.blk s H scope (compEnvC scope cl C X.env) fp) tg ts f
  ht : ∀ (s : Shared) (H : Hp) (C : Addr) (cl : List (Str × Addr)) (fp : List Addr), PuTs (X.blk s H scope (compEnvC scope cl C X.env) fp) ifs cond kc
  he : ∀ (s : Shared) (H : Hp) (C : Addr) (cl : List (Str × Addr)) (fp : List Addr), PuE (X.blk s H scope (compEnvC scope cl C X.env) fp) elt ge ke
  hw : ∀ i ∈ ts, i ∈ own.map (·.2)
  hs : ∀ x, foldedSetIterable iter X.env x = pure x
  hcc : Cst kc cond
  hce : Cst ke ge
theorem lc_imp {X : Cx} {elt tg iter : Expr} {ifs : List Expr} {scope : Scope} {own : List (Str × Nat)} {ts : List Nat} {f : D → En → Option En} {gi : M (List D)} {cond : M Bool} {ge : ME} {ki kc ke : Nat} (L : PuLc X elt tg iter ifs scope own ts f gi cond ge ki kc ke) {C : Cfg} (hK : C.K = X.K) (hn : C.n = X.N.length)
    {σ : St} {H : Hp} {Q : VK} (h : tPuF C (mComp (own.map (·.2)) f gi cond ge) σ H Q) : tLc (tPuI C gi) (tPuG C ts f) (tPuT C cond) (tPu C ge) (own.map (·.2)) σ H Q := by
  obtain ⟨hc, hN, hi, ok, hg, ht, he, hw, hs, hcc, hce⟩ := L
  obtain ⟨ρ, S, B, O, R, res, S', eg, lim, q⟩ := h
  obtain ⟨ds, S1, e1, eg⟩ := mBind_some eg
  replace eg : (if ds.length ≤ sizeLine then compL f cond ge (wipeE ρ (own.map (·.2))) ds S1 else none) = some (res, S') := eg
  split at eg
  rotate_left
  · cases eg
  rename_i hl
  have l1 := (cst_compL (f := f) (ρ := wipeE ρ (own.map (·.2))) hcc hce ds S1 res S' eg).1
  refine ⟨ρ, S, B, O, R, ds, S1, e1, Nat.le_trans l1 lim, fun J B1 H1 t1 pr D nD => ?_⟩
  have R1 := R.step t1
  have nDp : D ≠ C.p := fun z => by rw [z, t1.st.hp] at nD; cases nD
  have nDq : D ≠ C.q := fun z => by rw [z, t1.st.hq] at nD; cases nD
  refine ⟨fun i m H2 => ∃ B2 S2 acc accD rest, Step C.p C.q B1 H1 B2 H2 S2 ∧ H2 D = some (.lst acc) ∧ B2 D = none ∧ RpAll C.K C.p B2 acc accD ∧ i + m = ds.length ∧ compL f cond ge (wipeE ρ (own.map (·.2))) (ds.drop i) S2 = some (rest, S') ∧ accD ++ rest = res ∧ acc.length ≤ i,
    ⟨ds.length, B1, S1, [], [], res, (t1.self).hid nD, upd_same, t1.sub.free nD, .nil, by omega, eg, rfl, Nat.le_refl _⟩, fun i m H2 hW => ?_⟩
  obtain ⟨B2, S2, acc, accD, rest, t2, hD, nB, ra, him, ec, eapp, hacc⟩ := hW
  have pr2 := pr i B2 H2 S2 t2.bb t2.self
  cases hdr : ds.drop i with
  | nil =>
    rw [hdr] at ec
    unfold compL at ec
    cases ec
    rw [List.append_nil] at eapp
    subst eapp
    have hge : ds.length ≤ i := by simpa using hdr
    exact .inl ⟨pr2.1 hge, q D acc B2 H2 (t1.trans t2) (free_of t1 nD) nB hD ra⟩
  | cons d dr =>
    rw [hdr] at ec
    obtain ⟨hdi, hdr2, hlt⟩ := getElem?_drop_of hdr
    obtain ⟨go, yl⟩ := pr2.2 d hdi
    unfold compL at ec
    cases zf : f d (wipeE ρ (own.map (·.2))) with
    | none => rw [zf] at ec; cases ec
    | some ρ1 =>
      rw [zf] at ec
      replace ec : (cond ρ1 S2).bind (fun b => if b.1 = true then (ge ρ1 b.2).bind fun x => (compL f cond ge (wipeE ρ (own.map (·.2))) dr x.2).map fun r => (x.1 :: r.1, r.2) else compL f cond ge (wipeE ρ (own.map (·.2))) dr b.2) = some (rest, S') := ec
      cases zc : cond ρ1 S2 with
      | none => rw [zc] at ec; cases ec
      | some b =>
        rw [zc] at ec
        replace ec : (if b.1 = true then (ge ρ1 b.2).bind fun x => (compL f cond ge (wipeE ρ (own.map (·.2))) dr x.2).map fun r => (x.1 :: r.1, r.2) else compL f cond ge (wipeE ρ (own.map (·.2))) dr b.2) = some (rest, S') := ec
        refine .inr ⟨go, fun H' => ∃ B2 S2 acc accD rest, Step C.p C.q B1 H1 B2 H' S2 ∧ H' D = some (.lst acc) ∧ B2 D = none ∧ RpAll C.K C.p B2 acc accD ∧ (i + 1) + (m - 1) = ds.length ∧ compL f cond ge (wipeE ρ (own.map (·.2))) (ds.drop (i + 1)) S2 = some (rest, S') ∧ accD ++ rest = res ∧ acc.length ≤ i + 1,
          fun H' hN' => ⟨m - 1, by omega, hN'⟩, fun x H3 hy => ?_⟩
        obtain ⟨B3, t3, r3⟩ := yl x H3 hy
        have Rw : Rl C (wipeE ρ (own.map (·.2))) S2 B3 O (wipe σ (own.map (·.2))) H3 := ((R1.step t2).step t3).wipe _
        refine ⟨wipeE ρ (own.map (·.2)), S2, B3, O, d, Rw, r3, ρ1, zf, fun σ2 R2 w2 => ⟨?_, ?_⟩⟩
        · rw [w2 _ hw, wipe_idem fun i hi => hi]
        · have hDn : ∀ {B' H' : Hp} {S' : Strm}, Step C.p C.q B2 H2 B' H' S' → H' D = some (.lst acc) ∧ B' D = none := fun {B' H' S'} t => ⟨t.hh D _ nDp nDq hD, by
            cases z : B' D with
            | none => rfl
            | some u => have := t.nw D u z nB; rw [hD] at this; cases this⟩
          refine ⟨ρ1, S2, B3, O, R2, b.1, b.2, zc, ?_, fun B4 H4 t4 => ?_⟩
          · split at ec
            · cases zx : ge ρ1 b.2 with
              | none => rw [zx] at ec; cases ec
              | some x =>
                rw [zx] at ec
                replace ec : (compL f cond ge (wipeE ρ (own.map (·.2))) dr x.2).map (fun r => (x.1 :: r.1, r.2)) = some (rest, S') := ec
                cases zr : compL f cond ge (wipeE ρ (own.map (·.2))) dr x.2 with
                | none => rw [zr] at ec; cases ec
                | some r =>
                  rw [zr] at ec
                  cases ec
                  have k1 := (hce ρ1 b.2 x.1 x.2 zx).1
                  have k2 := (cst_compL (f := f) (ρ := wipeE ρ (own.map (·.2))) hcc hce dr x.2 r.1 r.2 zr).1
                  exact Nat.le_trans (Nat.le_trans k1 k2) lim
            · have k2 := (cst_compL (f := f) (ρ := wipeE ρ (own.map (·.2))) hcc hce dr b.2 rest S' ec).1
              exact Nat.le_trans k2 lim
          · by_cases hb : b.1 = true
            · dsimp only
              rw [if_pos hb]
              rw [if_pos hb] at ec
              cases zx : ge ρ1 b.2 with
              | none => rw [zx] at ec; cases ec
              | some x =>
                rw [zx] at ec
                replace ec : (compL f cond ge (wipeE ρ (own.map (·.2))) dr x.2).map (fun r => (x.1 :: r.1, r.2)) = some (rest, S') := ec
                cases zr : compL f cond ge (wipeE ρ (own.map (·.2))) dr x.2 with
                | none => rw [zr] at ec; cases ec
                | some r =>
                  rw [zr] at ec
                  cases ec
                  have k2 := (cst_compL (f := f) (ρ := wipeE ρ (own.map (·.2))) hcc hce dr x.2 r.1 r.2 zr).1
                  refine ⟨ρ1, b.2, B4, O, R2.step t4, x.1, x.2, zx, Nat.le_trans k2 lim, fun y B5 H5 t5 r5 => ?_⟩
                  have tt := (t3.trans t4).trans t5
                  obtain ⟨hD5, nB5⟩ := hDn tt
                  refine ⟨acc, hD5, by omega, B5, x.2, acc ++ [y], accD ++ [x.1], r.1, ?_, upd_same, nB5, (ra.mono tt.bb).append (.one r5), by omega, by rw [hdr2]; exact zr, ?_, ?_⟩
                  · exact (t2.trans tt).mut nD nDp nDq nB5
                  · rw [List.append_assoc]; exact eapp
                  · rw [List.length_append]; exact Nat.succ_le_succ hacc
            · dsimp only
              rw [if_neg hb]
              rw [if_neg hb] at ec
              have tt := t3.trans t4
              obtain ⟨hD5, nB5⟩ := hDn tt
              exact ⟨B4, b.2, acc, accD, rest, t2.trans tt, hD5, nB5, ra.mono tt.bb, by omega, by rw [hdr2]; exact ec, eapp, by omega⟩
theorem puf_comp {X : Cx} {elt tg iter : Expr} {ifs : List Expr} {scope : Scope} {own : List (Str × Nat)} {ts : List Nat} {pos : Pos} {f : D → En → Option En} {gi : M (List D)} {cond : M Bool} {ge : ME} {ki kc ke : Nat} (L : PuLc X elt tg iter ifs scope own ts f gi cond ge ki kc ke) :
    PuF X (.ListComp elt [⟨tg, iter, ifs, 0⟩] scope pos) (mComp (own.map (·.2)) f gi cond ge) (ki + sizeLine * (kc + ke)) :=
  ⟨cst_comp L.hi.cst L.hcc L.hce, fun C hK hn => pe_imp (pe_lc (pos := pos) L.hc L.hN (L.hi.run C hK hn) L.ok (fun s H c cl fp => (L.hg s H c cl fp).run C hK hn) (fun s H c cl fp => (L.ht s H c cl fp).run C hK hn) (fun s H c cl fp => (L.he s H c cl fp).run C hK hn) L.hs) fun σ H Q h => lc_imp L hK hn h⟩
end L2.Ev
namespace L2.Ev
open PySem PySem.Spec PyProof.Rows

/-! ### statements -/
inductive Out where
  | nx (ρ : En) | rt (d : D) | bk (ρ : En) | ct (ρ : En)
abbrev MS := M Out
def PostS (C : Cfg) (E : Ends) (S' : Strm) : Out → Prop
  | .nx ρ' => ∀ σ' H' B' O', Rl C ρ' S' B' O' σ' H' → E.nx σ' H'
  | .bk ρ' => ∀ σ' H' B' O', Rl C ρ' S' B' O' σ' H' → E.bk σ' H'
  | .ct ρ' => ∀ σ' H' B' O', Rl C ρ' S' B' O' σ' H' → E.ct σ' H'
  | .rt d => ∀ v H' B', Step C.p C.q C.B0 C.H0 B' H' S' → Rp C.K C.p B' v d → E.rt v H'
def tPuS (C : Cfg) (m : MS) : TS := fun E σ H => ∃ ρ S B O, Rl C ρ S B O σ H ∧ ∃ o S', m ρ S = some (o, S') ∧ S'.cnt ≤ LIM ∧ PostS C E S' o
structure PuS (X : Cx) (st : Stmt) (m : MS) (k : Nat) : Prop where
  cst : Cst k m
  run : ∀ C : Cfg, C.K = X.K → C.n = X.N.length → PS X st (tPuS C m)
structure PuSs (X : Cx) (sts : List Stmt) (m : MS) (k : Nat) : Prop where
  cst : Cst k m
  run : ∀ C : Cfg, C.K = X.K → C.n = X.N.length → PSs X sts (tPuS C m)
section
variable {X : Cx} {st : Stmt} {sts : List Stmt} {m m1 m2 : MS} {k ka kb kc : Nat} {e a b c : Expr} {ga gb : ME} {pos : Pos} {gs : M (List D)} {tc : M Bool}
theorem ps_imp {t t' : TS} (h : PS X st t) (hi : ∀ E σ H, t' E σ H → t E σ H) : PS X st t' := ⟨fun pins s σ H E I q => h.run pins s σ H E I (hi _ _ _ q)⟩
theorem pss_imp {t t' : TS} (h : PSs X sts t) (hi : ∀ E σ H, t' E σ H → t E σ H) : PSs X sts t' := ⟨fun pins s σ H E I q => h.run pins s σ H E I (hi _ _ _ q)⟩
def mNext : MS := fun ρ S => some (.nx ρ, S)
/-- what comes behind a statement -/
def mThen (m2 : MS) : Out → MS
  | .nx ρ => fun _ S => m2 ρ S
  | .rt d => fun _ S => some (.rt d, S)
  | .bk ρ => fun _ S => some (.bk ρ, S)
  | .ct ρ => fun _ S => some (.ct ρ, S)
def mSeq (m1 m2 : MS) : MS := mBind m1 (mThen m2)
theorem cst_next : Cst 0 mNext := fun ρ S d S' e => by cases e; exact ⟨Nat.le_refl _, Nat.le_refl _⟩
theorem cst_then (h : Cst k m2) : ∀ o, Cst k (mThen m2 o)
  | .nx ρ => fun ρ' S d S' e => h ρ S d S' e
  | .rt d => fun ρ' S d S' e => by cases e; omega
  | .bk d => fun ρ' S d S' e => by cases e; omega
  | .ct d => fun ρ' S d S' e => by cases e; omega
theorem cst_seq (h1 : Cst ka m1) (h2 : Cst kb m2) : Cst (ka + kb) (mSeq m1 m2) := cst_bind h1 (cst_then h2)
theorem puss_nil : PuSs X [] mNext 0 := ⟨cst_next, fun C hK hn => pss_imp pss_nil fun E σ H ⟨ρ, S, B, O, R, o, S', eg, lim, q⟩ => by
  cases eg
  exact q σ H B O R⟩
theorem puss_cons (h1 : PuS X st m1 ka) (h2 : PuSs X sts m2 kb) : PuSs X (st :: sts) (mSeq m1 m2) (ka + kb) := by
  refine ⟨cst_seq h1.cst h2.cst, fun C hK hn => pss_imp (pss_cons (h1.run C hK hn) (h2.run C hK hn)) fun E σ H ⟨ρ, S, B, O, R, o, S', eg, lim, q⟩ => ?_⟩
  obtain ⟨x, S1, e1, eg⟩ := mBind_some eg
  have l1 := (cst_then h2.cst x _ _ _ _ eg).1
  refine ⟨ρ, S, B, O, R, x, S1, e1, Nat.le_trans l1 lim, ?_⟩
  cases x with
  | nx ρ1 => exact fun σ' H' B' O' R' => ⟨ρ1, S1, B', O', R', o, S', eg, lim, q⟩
  | rt d => cases eg; exact q
  | bk ρ1 => cases eg; exact q
  | ct ρ1 => cases eg; exact q
theorem puss_one (h1 : PuS X st m1 ka) : PuSs X [st] m1 ka := ⟨h1.cst, fun C hK hn => pss_one (h1.run C hK hn)⟩
theorem pus_never : PuS X st mFail 0 := ⟨cst_fail, fun _ _ _ => ⟨fun _ _ _ _ _ _ ⟨_, _, _, _, _, _, _, eg, _⟩ => by cases eg⟩⟩
theorem puss_never : PuSs X sts mFail 0 := ⟨cst_fail, fun _ _ _ => ⟨fun _ _ _ _ _ _ ⟨_, _, _, _, _, _, _, eg, _⟩ => by cases eg⟩⟩
theorem pus_pass : PuS X (.Pass pos) mNext 0 := ⟨cst_next, fun C hK hn => ps_imp ps_pass fun E σ H ⟨ρ, S, B, O, R, o, S', eg, lim, q⟩ => by
  cases eg
  exact q σ H B O R⟩
def mBreak : MS := fun ρ S => some (.bk ρ, S)
def mCont : MS := fun ρ S => some (.ct ρ, S)
theorem pus_break : PuS X (.Break pos) mBreak 0 := ⟨fun ρ S d S' e => by cases e; omega, fun C hK hn => ps_imp ps_break fun E σ H ⟨ρ, S, B, O, R, o, S', eg, lim, q⟩ => by
  cases eg
  exact q σ H B O R⟩
theorem pus_cont : PuS X (.Continue pos) mCont 0 := ⟨fun ρ S d S' e => by cases e; omega, fun C hK hn => ps_imp ps_continue fun E σ H ⟨ρ, S, B, O, R, o, S', eg, lim, q⟩ => by
  cases eg
  exact q σ H B O R⟩
/-- a list of the frame's own becomes known, ahead of what follows -/
def mFrz (i : Nat) (m : MS) : MS := fun ρ S => match ρ[i]? with
  | some (some (.ol ds)) => m (ρ.set i (some (.sh (.lst ds)))) S
  | _ => none
theorem puss_frz (i : Nat) (h : PuSs X sts m k) : PuSs X sts (mFrz i m) k := by
  refine ⟨fun ρ S d S' e => ?_, fun C hK hn => pss_imp (h.run C hK hn) fun E σ H ⟨ρ, S, B, O, R, o, S', eg, lim, q⟩ => ?_⟩
  · unfold mFrz at e
    split at e
    · exact h.cst _ _ _ _ e
    · cases e
  · unfold mFrz at eg
    split at eg
    · rename_i ds hd
      obtain ⟨aa, vs, h1, h2, h3, h4, R2⟩ := R.freeze hd
      exact ⟨_, S, _, _, R2, o, S', eg, lim, q⟩
    · cases eg
theorem pus_frz (i : Nat) (h : PuS X st m k) : PuS X st (mFrz i m) k := by
  refine ⟨fun ρ S d S' e => ?_, fun C hK hn => ps_imp (h.run C hK hn) fun E σ H ⟨ρ, S, B, O, R, o, S', eg, lim, q⟩ => ?_⟩
  · unfold mFrz at e
    split at e
    · exact h.cst _ _ _ _ e
    · cases e
  · unfold mFrz at eg
    split at eg
    · rename_i ds hd
      obtain ⟨aa, vs, h1, h2, h3, h4, R2⟩ := R.freeze hd
      exact ⟨_, S, _, _, R2, o, S', eg, lim, q⟩
    · cases eg
/-- .. for one expression alone, whose value has no address -/
def D.flat1 : D → Bool
  | .non => true | .bl _ => true | .int _ => true | .str _ => true | _ => false
def mBor (i : Nat) (g : ME) : ME := fun ρ S => match ρ[i]? with
  | some (some (.ol ds)) => (g (ρ.set i (some (.sh (.lst ds)))) S).bind fun x => if x.1.flat1 = true then some x else none
  | _ => none
theorem Rp.flat1 {K : PySem.W.Frag} {p : Addr} {B B' : Hp} {v : V} {d : D} (h : Rp K p B v d) (f : d.flat1 = true) : Rp K p B' v d := by
  cases h <;> first | exact .non | exact .bl _ | exact .int _ | exact .str _ | cases f
theorem pu_bor (i : Nat) (h : PuE X e ga ka) : PuE X e (mBor i ga) ka := by
  refine ⟨fun ρ S d S' eg => ?_, fun C hK hn => pe_imp (h.run C hK hn) fun σ H Q ⟨ρ, S, B, O, R, d, S', eg, lim, q⟩ => ?_⟩
  · unfold mBor at eg
    split at eg
    · rename_i ds hd
      cases z : ga (ρ.set i (some (.sh (.lst ds)))) S with
      | none => rw [z] at eg; cases eg
      | some x =>
        rw [z] at eg
        replace eg : (if x.1.flat1 = true then some x else none) = some (d, S') := eg
        split at eg
        · cases eg; exact h.cst _ _ _ _ z
        · cases eg
    · cases eg
  · unfold mBor at eg
    split at eg
    · rename_i ds hd
      cases z : ga (ρ.set i (some (.sh (.lst ds)))) S with
      | none => rw [z] at eg; cases eg
      | some x =>
        rw [z] at eg
        replace eg : (if x.1.flat1 = true then some x else none) = some (d, S') := eg
        split at eg
        · rename_i hf
          cases eg
          obtain ⟨aa, vs, h1, h2, h3, h4, R2⟩ := R.freeze hd
          refine ⟨_, S, _, _, R2, d, S', z, lim, fun v B' H' t r => ?_⟩
          have sm : Same B (upd B aa (.lst vs)) := fun b u e' => by rw [upd_ne (ne_of_none e' h3)]; exact e'
          exact q v B H' ⟨fun _ _ x => x, t.hh, fun a o x n => (by rw [n] at x; cases x), sm.trans (t.bb.trans t.sub), R.wd.np, R.wd.nq, t.pq, t.st⟩ (r.flat1 hf)
        · cases eg
    · cases eg
/-- an item of the frame's own list -/
def mIdxO (i : Nat) (g : ME) : ME := fun ρ S => match ρ[i]? with
  | some (some (.ol ds)) => (g ρ S).bind fun x => (atD ds x.1).map fun d => (d, x.2)
  | _ => none
theorem pu_idxO (i : Nat) (h0 : PE X a (tVar i)) (h : PuE X b gb kb) (hs : PlainIx b := by exact fun _ _ => rfl) : PuE X (.Subscript a b pos) (mIdxO i gb) kb := by
  refine ⟨fun ρ S d S' eg => ?_, fun C hK hn => pe_imp (pe_ix ix_list h0 (h.run C hK hn) hs) fun σ H Q ⟨ρ, S, B, O, R, d, S', eg, lim, q⟩ => ?_⟩
  · unfold mIdxO at eg
    split at eg
    · cases z : gb ρ S with
      | none => rw [z] at eg; cases eg
      | some x =>
        rw [z] at eg
        obtain ⟨y, _, ey⟩ := Option.map_eq_some_iff.mp eg
        cases ey
        exact h.cst _ _ _ _ z
    · cases eg
  · unfold mIdxO at eg
    split at eg
    · rename_i ds hd
      obtain ⟨aa, vs, g0, g1, g2, g3⟩ := R.slots i _ hd
      obtain ⟨n1, n2, n3, n4, _⟩ := R.own i aa g0
      cases z : gb ρ S with
      | none => rw [z] at eg; cases eg
      | some x =>
        rw [z] at eg
        obtain ⟨y, hy, ey⟩ := Option.map_eq_some_iff.mp eg
        cases ey
        refine ⟨_, g1, ρ, S, B, O, R, x.1, x.2, z, lim, fun v B' H' t r => ?_⟩
        unfold atD at hy
        split at hy
        · rename_i j hj
          rw [hj] at r
          obtain ⟨u, h5, h6⟩ := (g3.mono t.bb).atI hy
          exact ⟨aa, vs, _, u, rfl, r.int_inv, .inl (.inl (t.hh aa _ n3 n4 g2)), h5, q u B' H' t h6⟩
        · cases hy
    · cases eg

/-! ### return, expressions alone, stores -/
def mRet (g : ME) : MS := mBind g fun d => fun _ S => some (.rt d, S)
theorem cst_rt {d : D} : Cst 0 (fun _ S => some (Out.rt d, S) : MS) := fun ρ S o S' e => by cases e; omega
theorem pus_ret (h : PuE X e ga ka) : PuS X (.Return (some e) pos) (mRet ga) ka := by
  refine ⟨cst_bind (k := ka) (l := 0) h.cst fun _ => cst_rt, fun C hK hn => ps_imp (ps_ret (h.run C hK hn)) fun E σ H ⟨ρ, S, B, O, R, o, S', eg, lim, q⟩ => ?_⟩
  obtain ⟨d, S1, e1, eg⟩ := mBind_some eg
  cases eg
  exact ⟨ρ, S, B, O, R, d, S', e1, lim, fun v B' H' t r => q v H' B' (R.wd.trans t) r⟩
def mRetN : MS := fun _ S => some (.rt .non, S)
theorem pus_retN : PuS X (.Return none pos) mRetN 0 := ⟨cst_rt, fun C hK hn => ps_imp ps_retN fun E σ H ⟨ρ, S, B, O, R, o, S', eg, lim, q⟩ => by
  cases eg
  exact q .non H B R.wd .non⟩
def mDrop (g : ME) : MS := mBind g fun _ => mNext
theorem pus_expr (h : PuE X e ga ka) (hs : swapsWith e none pos.line X.env = pure false := by rfl) : PuS X (.Expr e pos) (mDrop ga) ka := by
  refine ⟨cst_bind (k := ka) (l := 0) h.cst fun _ => cst_next, fun C hK hn => ps_imp (ps_expr (h.run C hK hn) hs) fun E σ H ⟨ρ, S, B, O, R, o, S', eg, lim, q⟩ => ?_⟩
  obtain ⟨d, S1, e1, eg⟩ := mBind_some eg
  cases eg
  exact ⟨ρ, S, B, O, R, d, S', e1, lim, fun v B' H' t r => q σ H' B' O (R.step t)⟩
def mSet (i : Nat) (g : ME) : MS := mBind g fun d => fun ρ S => some (.nx (ρ.set i (some (.sh d))), S)
theorem cst_nx {f : En → En} : Cst 0 (fun ρ S => some (Out.nx (f ρ), S) : MS) := fun ρ S o S' e => by cases e; omega
theorem pus_set {i : Nat} {x : Str} {pos' : Pos} (hN : X.N.Nodup) (h : PuE X e ga ka) (hi : X.N[i]? = some x := by rfl) (hx : Loc X.env.scope x := by first | exact Or.inl rfl | exact Or.inr rfl) (hs : swapsWith e (some (.Name x pos')) pos.line X.env = pure false := by rfl)
    (hf : X.fn x = true ∨ X.env.scope.names.lookup x = some .local := by first | exact .inl rfl | exact .inr rfl) : PuS X (.Assign [.Name x pos'] e pos) (mSet i ga) ka := by
  refine ⟨cst_bind (k := ka) (l := 0) h.cst fun _ => cst_nx, fun C hK hn => ps_imp (ps_set hN hi hx (h.run C hK hn) hs hf) fun E σ H ⟨ρ, S, B, O, R, o, S', eg, lim, q⟩ => ?_⟩
  have hlt : i < C.n := by rw [hn]; exact (List.getElem?_eq_some_iff.mp hi).1
  obtain ⟨d, S1, e1, eg⟩ := mBind_some eg
  cases eg
  exact ⟨ρ, S, B, O, R, d, S', e1, lim, fun v B' H' t r => q _ H' B' O ((R.step t).set hlt r)⟩
/-- a new list, the frame's own from here on -/
def mSetF (i : Nat) (g : M (List D)) : MS := mBind g fun ds => fun ρ S => some (.nx (ρ.set i (some (.ol ds))), S)
theorem own_of {C : Cfg} {ρ : En} {S S' : Strm} {B B' : Hp} {O : Nat → Option Addr} {σ : St} {H H' : Hp} (R : Rl C ρ S B O σ H) (t : Step C.p C.q B H B' H' S') {a : Addr} {vs : List V} {ds : List D} {i : Nat} (hi : i < C.n) (n : H a = none) (nb : B' a = none) (e : H' a = some (.lst vs)) (r : RpAll C.K C.p B' vs ds) :
    Rl C (ρ.set i (some (.ol ds))) S' B' (upO O i (some a)) (σ.set i (some (.ref a))) H' := by
  have hp : a ≠ C.p := fun z => by rw [z, R.wd.st.hp] at n; cases n
  have hq : a ≠ C.q := fun z => by rw [z, R.wd.st.hq] at n; cases n
  refine (R.step t).setOwn hi e nb (free_of R.wd n) hp hq (fun j hj => ?_) r
  obtain ⟨_, _, _, _, o, h5⟩ := R.own j a hj
  rw [n] at h5; cases h5
theorem pus_setF {i : Nat} {x : Str} {pos' : Pos} (hN : X.N.Nodup) (h : PuF X e gs k) (hi : X.N[i]? = some x := by rfl) (hx : Loc X.env.scope x := by first | exact Or.inl rfl | exact Or.inr rfl) (hs : swapsWith e (some (.Name x pos')) pos.line X.env = pure false := by rfl)
    (hf : X.fn x = true ∨ X.env.scope.names.lookup x = some .local := by first | exact .inl rfl | exact .inr rfl) : PuS X (.Assign [.Name x pos'] e pos) (mSetF i gs) k := by
  refine ⟨cst_bind (k := k) (l := 0) h.cst fun _ => cst_nx, fun C hK hn => ps_imp (ps_set hN hi hx (h.run C hK hn) hs hf) fun E σ H ⟨ρ, S, B, O, R, o, S', eg, lim, q⟩ => ?_⟩
  have hlt : i < C.n := by rw [hn]; exact (List.getElem?_eq_some_iff.mp hi).1
  obtain ⟨ds, S1, e1, eg⟩ := mBind_some eg
  cases eg
  exact ⟨ρ, S, B, O, R, ds, S', e1, lim, fun a vs B' H' t n nb e r => q _ H' B' _ (own_of R t hlt n nb e r)⟩
/-- name = [.. for ..], on one line -/
theorem wipe_none_set {σ : St} : ∀ {vs : List Nat}, True := trivial
/-- targets = value -/
def mAsg (f : D → En → Option En) (g : ME) : MS := mBind g fun d => fun ρ S => (f d ρ).map fun ρ' => (.nx ρ', S)
theorem cst_asg {f : D → En → Option En} {d : D} : Cst 0 (fun ρ S => (f d ρ).map fun ρ' => (Out.nx ρ', S) : MS) := fun ρ S o S' e => by
  obtain ⟨y, _, ey⟩ := Option.map_eq_some_iff.mp e
  cases ey
  omega
theorem pus_asg {tg : Expr} {ts : List Nat} {f : D → En → Option En} (h : PuE X e ga ka) (hg : PuG X tg ts f) (hs : swapsWithSole [tg] e pos.line X.env = pure false := by rfl) (hw : swappedStores [tg] e X.env = pure none := by rfl)
    (h1 : (assignEach [tg] X.env).map (·.2) = [assign tg X.env] := by rfl) : PuS X (.Assign [tg] e pos) (mAsg f ga) ka := by
  refine ⟨cst_bind (k := ka) (l := 0) h.cst fun _ => cst_asg, fun C hK hn => ps_imp (ps_asg (h.run C hK hn) (hg.run C hK hn) hs hw h1) fun E σ H ⟨ρ, S, B, O, R, o, S', eg, lim, q⟩ => ?_⟩
  obtain ⟨d, S1, e1, eg⟩ := mBind_some eg
  obtain ⟨ρ', ef, ey⟩ := Option.map_eq_some_iff.mp eg
  cases ey
  exact ⟨ρ, S, B, O, R, d, S', e1, lim, fun v B' H' t r => ⟨ρ, S', B', O, d, R.step t, r, ρ', ef, fun σ' R' _ => q σ' H' B' O R'⟩⟩
/-- a, b = x, y -/
def mPar (i j : Nat) (g : M (List D)) : MS := mBind g fun ds => fun ρ S => match ds with
  | [d, d'] => some (.nx ((ρ.set i (some (.sh d))).set j (some (.sh d'))), S)
  | _ => none
theorem pus_par {i j : Nat} {x y : Str} {px py pt : Pos} {kt k2 pt2} (hc : X.calm = true) (hN : X.N.Nodup) (ha : PuA X [a, b] gs k) (hij : i ≠ j := by decide) (hi : X.N[i]? = some x := by rfl) (hj : X.N[j]? = some y := by rfl)
    (hx : X.env.scope.names.lookup x = some .local := by rfl) (hy : X.env.scope.names.lookup y = some .local := by rfl)
    (hw : swappedStores [.Tuple [.Name x px, .Name y py] kt pt] (.Tuple [a, b] k2 pt2) X.env = pure (some [x, y]) := by rfl)
    (hs : swapsWithSole [.Tuple [.Name x px, .Name y py] kt pt] (.Tuple [a, b] k2 pt2) pos.line X.env = pure false := by rfl) :
    PuS X (.Assign [.Tuple [.Name x px, .Name y py] kt pt] (.Tuple [a, b] k2 pt2) pos) (mPar i j gs) k := by
  refine ⟨cst_bind (k := k) (l := 0) ha.cst fun ds => fun ρ S o S' e => ?_, fun C hK hn => ps_imp (ps_par hc hN hi hj hij hx hy (ha.run C hK hn) hw hs) fun E σ H ⟨ρ, S, B, O, R, o, S', eg, lim, q⟩ => ?_⟩
  · split at e
    · cases e; omega
    · cases e
  · have hl1 : i < C.n := by rw [hn]; exact (List.getElem?_eq_some_iff.mp hi).1
    have hl2 : j < C.n := by rw [hn]; exact (List.getElem?_eq_some_iff.mp hj).1
    obtain ⟨ds, S1, e1, eg⟩ := mBind_some eg
    split at eg
    · cases eg
      refine ⟨ρ, S, B, O, R, _, S', e1, lim, fun vs B' H' t r => ?_⟩
      obtain ⟨v, u, rfl, r1, r2⟩ := r.inv2
      exact ⟨v, u, rfl, q _ H' B' O (((R.step t).set hl1 r1).set hl2 r2)⟩
    · cases eg
/-- name += e, name -= e -/
def mAug (i : Nat) (f : D → D → Option D) (g : ME) : MS := mBind (mOp2 f (mVar i) g) fun d => fun ρ S => some (.nx (ρ.set i (some (.sh d))), S)
theorem pus_aug {i : Nat} {x : Str} {op : Operator} {r : TIp} {f : D → D → Option D} {pos' : Pos} (hN : X.N.Nodup) (ho : PIp X op r) (hf : Op2 X.K r f) (h : PuE X e ga ka) (hi : X.N[i]? = some x := by rfl) (hx : Loc X.env.scope x := by first | exact Or.inl rfl | exact Or.inr rfl)
    (hf' : X.fn x = true ∨ X.env.scope.names.lookup x = some .local := by first | exact .inl rfl | exact .inr rfl) : PuS X (.AugAssign (.Name x pos') op e pos) (mAug i f ga) (0 + ka + 0) := by
  refine ⟨cst_bind (k := 0 + ka) (l := 0) (cst_op2 cst_var h.cst) fun _ => cst_nx, fun C hK hn => ps_imp (ps_aug hN hi hx (h.run C hK hn) ho hf') fun E σ H ⟨ρ, S, B, O, R, o, S', eg, lim, q⟩ => ?_⟩
  have hlt : i < C.n := by rw [hn]; exact (List.getElem?_eq_some_iff.mp hi).1
  unfold mAug at eg
  obtain ⟨d, S1, e1, eg⟩ := mBind_some eg
  cases eg
  obtain ⟨x, S2, e2, e3⟩ := mBind_some e1
  obtain ⟨y, S3, e4, e5⟩ := mBind_some e3
  obtain ⟨ef, rfl⟩ := mPure_some e5
  unfold mVar at e2
  split at e2
  · rename_i d' hd
    cases e2
    obtain ⟨v, h1, h2⟩ := R.slots i _ hd
    refine ⟨v, h1, ρ, S, B, O, R, y, S', e4, lim, fun u B1 H1 t r1 => ?_⟩
    exact hf C.p C.q B1 H1 S' v u x y d _ t.self (hK ▸ h2.mono t.bb) (hK ▸ r1) ef fun w B3 H3 t3 r3 => q _ H3 B3 O ((R.step (t.trans t3)).set hlt (hK ▸ r3))
  · cases e2
def dAddI : D → D → Option D
  | .int i, .int j => some (.int (i + j))
  | _, _ => none
theorem f_ipadd {K : PySem.W.Frag} : Op2 K (ipI fun i j => i + j) dAddI := fun p q B H S x y a b d Q t r1 r2 e k => by
  unfold dAddI at e; split at e
  · cases e; exact ⟨_, _, r1.int_inv, r2.int_inv, k _ B H t (.int _)⟩
  · cases e
theorem f_ipsub {K : PySem.W.Frag} : Op2 K (ipI fun i j => i - j) dSub := fun p q B H S x y a b d Q t r1 r2 e k => by
  unfold dSub at e; split at e
  · cases e; exact ⟨_, _, r1.int_inv, r2.int_inv, k _ B H t (.int _)⟩
  · cases e
/-! ### if, while, for -/
def mIfS (c : M Bool) (m1 m2 : MS) : MS := mBind c fun b => if b = true then m1 else m2
theorem pus_if {s1 s2 : List Stmt} (hc : PuT X c tc kc) (h1 : PuSs X s1 m1 ka) (h2 : PuSs X s2 m2 kb) : PuS X (.If c s1 s2 pos) (mIfS tc m1 m2) (kc + (ka + kb)) := by
  refine ⟨cst_bind hc.cst fun _ => cst_if h1.cst h2.cst, fun C hK hn => ps_imp (ps_if (hc.run C hK hn) (h1.run C hK hn) (h2.run C hK hn)) fun E σ H ⟨ρ, S, B, O, R, o, S', eg, lim, q⟩ => ?_⟩
  obtain ⟨z, S1, ez, eg⟩ := mBind_some eg
  have l1 : S1.cnt ≤ S'.cnt := by
    cases z with
    | true => exact (h1.cst _ _ _ _ eg).1
    | false => exact (h2.cst _ _ _ _ eg).1
  refine ⟨ρ, S, B, O, R, z, S1, ez, Nat.le_trans l1 lim, fun B1 H1 t1 => ?_⟩
  cases z with
  | true =>
    rw [if_pos rfl]
    exact ⟨ρ, S1, B1, O, R.step t1, o, S', eg, lim, q⟩
  | false =>
    rw [if_neg Bool.false_ne_true]
    exact ⟨ρ, S1, B1, O, R.step t1, o, S', eg, lim, q⟩
/-- what comes behind a turn -/
def afterTurn (again : En → Strm → Option (Out × Strm)) : Out × Strm → Option (Out × Strm)
  | (.nx ρ, S) => again ρ S
  | (.ct ρ, S) => again ρ S
  | (.bk ρ, S) => some (.nx ρ, S)
  | (.rt d, S) => some (.rt d, S)
def whL (c : M Bool) (body : MS) : Nat → MS
  | 0 => fun _ _ => none
  | n + 1 => fun ρ S => (c ρ S).bind fun b => if b.1 = true then (body ρ b.2).bind (afterTurn (whL c body n)) else some (.nx ρ, b.2)
theorem cst_whL (hc : Cst kc tc) (hb : Cst kb m) : ∀ n, Cst (n * (kc + kb)) (whL tc m n)
  | 0 => fun ρ S o S' e => by cases e
  | n + 1 => fun ρ S o S' e => by
    have ih := cst_whL hc hb n
    unfold whL at e
    cases z : tc ρ S with
    | none => rw [z] at e; cases e
    | some b =>
      rw [z] at e
      replace e : (if b.1 = true then (m ρ b.2).bind (afterTurn (whL tc m n)) else some (.nx ρ, b.2)) = some (o, S') := e
      have h1 := hc ρ S b.1 b.2 z
      have e1 : (n + 1) * (kc + kb) = n * (kc + kb) + (kc + kb) := by rw [Nat.add_mul]; omega
      split at e
      · cases y : m ρ b.2 with
        | none => rw [y] at e; cases e
        | some r =>
          rw [y] at e
          replace e : afterTurn (whL tc m n) r = some (o, S') := e
          obtain ⟨r1, r2⟩ := r
          have h2 := hb ρ b.2 r1 r2 y
          cases r1 with
          | nx ρ1 => have := ih ρ1 r2 o S' e; omega
          | ct ρ1 => have := ih ρ1 r2 o S' e; omega
          | bk ρ1 => cases e; omega
          | rt d => cases e; omega
      · cases e; omega
theorem pus_while {body : List Stmt} (n : Nat) (hp : PassesOwn (model X.prog X.w) X.A X.env X.xe) (hc : PuT X c tc kc) (hb : PuSs X body m kb) : PuS X (.While c body [] pos) (whL tc m n) (n * (kc + kb)) := by
  refine ⟨cst_whL hc.cst hb.cst n, fun C hK hn => ps_imp (ps_while hp (hc.run C hK hn) (hb.run C hK hn)) fun E σ H ⟨ρ, S, B, O, R, o, S', eg, lim, q⟩ => ?_⟩
  refine ⟨fun i σ H => ∃ ρ S B O, Rl C ρ S B O σ H ∧ whL tc m i ρ S = some (o, S'), ⟨n, ρ, S, B, O, R, eg⟩, fun i σ H hW => ?_⟩
  obtain ⟨ρ, S, B, O, R, eg⟩ := hW
  cases i with
  | zero => cases eg
  | succ i =>
    unfold whL at eg
    cases z : tc ρ S with
    | none => rw [z] at eg; cases eg
    | some b =>
      rw [z] at eg
      replace eg : (if b.1 = true then (m ρ b.2).bind (afterTurn (whL tc m i)) else some (.nx ρ, b.2)) = some (o, S') := eg
      have l1 : b.2.cnt ≤ S'.cnt := by
        split at eg
        · cases y : m ρ b.2 with
          | none => rw [y] at eg; cases eg
          | some r =>
            rw [y] at eg
            replace eg : afterTurn (whL tc m i) r = some (o, S') := eg
            obtain ⟨r1, r2⟩ := r
            have h2 := hb.cst ρ b.2 r1 r2 y
            have ih := cst_whL hc.cst hb.cst i
            cases r1 with
            | nx ρ1 => have := ih ρ1 r2 o S' eg; omega
            | ct ρ1 => have := ih ρ1 r2 o S' eg; omega
            | bk ρ1 => cases eg; omega
            | rt d => cases eg; omega
        · cases eg; omega
      refine ⟨ρ, S, B, O, R, b.1, b.2, z, Nat.le_trans l1 lim, fun B1 H1 t1 => ?_⟩
      by_cases hb1 : b.1 = true
      · rw [if_pos hb1] at eg ⊢
        cases y : m ρ b.2 with
        | none => rw [y] at eg; cases eg
        | some r =>
          rw [y] at eg
          replace eg : afterTurn (whL tc m i) r = some (o, S') := eg
          refine ⟨fun σ' H' => ∃ ρ S B O, Rl C ρ S B O σ' H' ∧ whL tc m i ρ S = some (o, S'), fun σ' H' w => ⟨i, Nat.lt_succ_self _, w⟩, ρ, b.2, B1, O, R.step t1, r.1, r.2, y, ?_, ?_⟩
          · obtain ⟨r1, r2⟩ := r
            have ih := cst_whL hc.cst hb.cst i
            cases r1 with
            | nx ρ1 => have := ih ρ1 r2 o S' eg; exact Nat.le_trans this.1 lim
            | ct ρ1 => have := ih ρ1 r2 o S' eg; exact Nat.le_trans this.1 lim
            | bk ρ1 => cases eg; exact lim
            | rt d => cases eg; exact lim
          · obtain ⟨r1, r2⟩ := r
            cases r1 with
            | nx ρ1 => exact fun σ' H' B' O' R' => ⟨ρ1, r2, B', O', R', eg⟩
            | ct ρ1 => exact fun σ' H' B' O' R' => ⟨ρ1, r2, B', O', R', eg⟩
            | bk ρ1 => cases eg; exact q
            | rt d => cases eg; exact q
      · rw [if_neg hb1] at eg ⊢
        cases eg
        exact q _ _ _ _ (R.step t1)

/-! ### for: the base of the loop's begin -/
open Classical in
noncomputable def Cfg.re (C : Cfg) (B H : Hp) (O : Nat → Option Addr) : Cfg := { C with B0 := B, H0 := fun a => if ∃ i, O i = some a then none else H a }
open Classical in
theorem re_none {C : Cfg} {B H : Hp} {O : Nat → Option Addr} {a : Addr} (h : ∃ i, O i = some a) : (C.re B H O).H0 a = none := by
  show (if ∃ i, O i = some a then none else H a) = none
  rw [if_pos h]
open Classical in
theorem re_some {C : Cfg} {B H : Hp} {O : Nat → Option Addr} {a : Addr} (h : ¬ ∃ i, O i = some a) : (C.re B H O).H0 a = H a := by
  show (if ∃ i, O i = some a then none else H a) = H a
  rw [if_neg h]
theorem Rl.re {C : Cfg} {ρ : En} {S : Strm} {B : Hp} {O : Nat → Option Addr} {σ : St} {H : Hp} (R : Rl C ρ S B O σ H) : Rl (C.re B H O) ρ S B O σ H := by
  refine ⟨⟨fun _ _ e => e, fun a o hp hq e => ?_, fun a o e n => (by rw [show (C.re B H O).B0 a = B a from rfl, e] at n; cases n), R.wd.sub, R.wd.np, R.wd.nq, R.wd.pq, R.wd.st⟩, R.len, R.lenE, R.slots, fun i a h => ?_, R.inj⟩
  · by_cases h : ∃ i, O i = some a
    · rw [re_none h] at e; cases e
    · rw [re_some h] at e; exact e
  · obtain ⟨h1, h2, h3, h4, h5⟩ := R.own i a h
    exact ⟨h1, re_none ⟨i, h⟩, h3, h4, h5⟩
theorem Step.unre {C : Cfg} {ρ : En} {S S' : Strm} {B B' : Hp} {O : Nat → Option Addr} {σ : St} {H H' : Hp} (R : Rl C ρ S B O σ H) (t : Step C.p C.q (C.re B H O).B0 (C.re B H O).H0 B' H' S') : Step C.p C.q C.B0 C.H0 B' H' S' := by
  refine ⟨R.wd.bb.trans t.bb, fun a o hp hq e => ?_, fun a o e n => ?_, t.sub, t.np, t.nq, t.pq, t.st⟩
  · have e1 := R.wd.hh a o hp hq e
    by_cases h : ∃ i, O i = some a
    · obtain ⟨i, hi⟩ := h
      have := (R.own i a hi).2.1
      rw [e] at this; cases this
    · exact t.hh a o hp hq (by rw [re_some h]; exact e1)
  · cases e1 : B a with
    | some u => exact R.wd.nw a u e1 n
    | none =>
      have e2 := t.nw a o e e1
      by_cases h : ∃ i, O i = some a
      · obtain ⟨i, hi⟩ := h
        exact (R.own i a hi).2.1
      · rw [re_some h] at e2
        exact free_of R.wd e2
theorem Rl.unre {C : Cfg} {ρ ρ' : En} {S S' : Strm} {B B' : Hp} {O O' : Nat → Option Addr} {σ σ' : St} {H H' : Hp} (R : Rl C ρ S B O σ H) (R' : Rl (C.re B H O) ρ' S' B' O' σ' H') : Rl C ρ' S' B' O' σ' H' := by
  refine ⟨Step.unre R R'.wd, R'.len, R'.lenE, R'.slots, fun i a h => ?_, R'.inj⟩
  obtain ⟨h1, h2, h3, h4, h5⟩ := R'.own i a h
  refine ⟨h1, ?_, h3, h4, h5⟩
  by_cases hO : ∃ i, O i = some a
  · obtain ⟨j, hj⟩ := hO
    exact (R.own j a hj).2.1
  · rw [re_some hO] at h2
    exact free_of R.wd h2
def forL (f : D → En → Option En) (body : MS) : List D → MS
  | [] => fun ρ S => some (.nx ρ, S)
  | d :: ds => fun ρ S => (f d ρ).bind fun ρ1 => (body ρ1 S).bind (afterTurn (forL f body ds))
def mFor (f : D → En → Option En) (gi : M (List D)) (body : MS) : MS := mBind gi fun ds => fun ρ S => if ds.length ≤ sizeLine then forL f body ds ρ S else none
theorem cst_forL {f : D → En → Option En} (hb : Cst kb m) : ∀ ds : List D, Cst (ds.length * kb) (forL f m ds)
  | [] => fun ρ S o S' e => by cases e; simp
  | d :: ds => fun ρ S o S' e => by
    have ih := cst_forL (f := f) hb ds
    unfold forL at e
    cases z : f d ρ with
    | none => rw [z] at e; cases e
    | some ρ1 =>
      rw [z] at e
      replace e : (m ρ1 S).bind (afterTurn (forL f m ds)) = some (o, S') := e
      have e1 : (d :: ds).length * kb = ds.length * kb + kb := by rw [List.length_cons, Nat.add_mul]; omega
      cases y : m ρ1 S with
      | none => rw [y] at e; cases e
      | some r =>
        rw [y] at e
        replace e : afterTurn (forL f m ds) r = some (o, S') := e
        obtain ⟨r1, r2⟩ := r
        have h2 := hb ρ1 S r1 r2 y
        cases r1 with
        | nx ρ1 => have := ih ρ1 r2 o S' e; omega
        | ct ρ1 => have := ih ρ1 r2 o S' e; omega
        | bk ρ1 => cases e; omega
        | rt d => cases e; omega
theorem cst_for {f : D → En → Option En} {gi : M (List D)} (hi : Cst ka gi) (hb : Cst kb m) : Cst (ka + sizeLine * kb) (mFor f gi m) := cst_bind hi fun ds => fun ρ S o S' e => by
  split at e
  · rename_i hl
    have h1 := cst_forL (f := f) hb ds ρ S o S' e
    have h2 : ds.length * kb ≤ sizeLine * kb := Nat.mul_le_mul_right _ hl
    omega
  · cases e
theorem pus_for {tg iter : Expr} {body : List Stmt} {ts : List Nat} {f : D → En → Option En} {gi : M (List D)} (hp : PassesOwn (model X.prog X.w) X.A X.env X.xe) (hc : X.calm = true) (hi : PuI X tg iter gi ka) (hg : PuG X tg ts f) (hb : PuSs X body m kb)
    (hs : ∀ x, foldedSetIterable iter X.env x = pure x := by intro _; rfl) : PuS X (.For tg iter body [] pos) (mFor f gi m) (ka + sizeLine * kb) := by
  refine ⟨cst_for hi.cst hb.cst, fun C hK hn => ⟨fun pins s σ H E I hE => ?_⟩⟩
  obtain ⟨ρ, S, B, O, R, o, S', eg, lim, q⟩ := hE
  obtain ⟨ds, S1, e1, eg⟩ := mBind_some eg
  replace eg : (if ds.length ≤ sizeLine then forL f m ds ρ S1 else none) = some (o, S') := eg
  split at eg
  rotate_left
  · cases eg
  have l1 := (cst_forL (f := f) hb.cst ds ρ S1 o S' eg).1
  -- what is walked comes first: its base is the loop's
  suffices h : tFor (tPuI C gi) (fun v σ H Q => ∃ C1, C1.K = X.K ∧ C1.n = X.N.length ∧ tPuG C1 ts f v σ H Q) (fun E σ H => ∃ C1, C1.K = X.K ∧ C1.n = X.N.length ∧ tPuS C1 m E σ H) E σ H by
    exact (ps_for hp hc (hi.run C hK hn) ⟨fun pins s σ H v u Q I r ⟨C1, h1, h2, h3⟩ => (hg.run C1 h1 h2).run pins s σ H v u Q I r h3⟩ ⟨fun pins s σ H E I ⟨C1, h1, h2, h3⟩ => (hb.run C1 h1 h2).run pins s σ H E I h3⟩ hs).run pins s σ H E I h
  refine ⟨ρ, S, B, O, R, ds, S1, e1, Nat.le_trans l1 lim, fun J B1 H1 t1 pr => ?_⟩
  have R1 := R.step t1
  refine ⟨fun i n σ H => ∃ ρ S B O2, Rl (C.re B1 H1 O) ρ S B O2 σ H ∧ i + n = ds.length ∧ forL f m (ds.drop i) ρ S = some (o, S'), ⟨ds.length, ρ, S1, B1, O, R1.re, by omega, eg⟩, fun i n σ2 H2 hW => ?_⟩
  obtain ⟨ρ2, S2, B2, O2, R2, hin, ef⟩ := hW
  have pr2 := pr i B2 H2 S2 R2.wd.bb R2.self
  cases hdr : ds.drop i with
  | nil =>
    rw [hdr] at ef
    cases ef
    have hge : ds.length ≤ i := by simpa using hdr
    exact .inl ⟨pr2.1 hge, q _ _ _ _ (R1.unre R2)⟩
  | cons d dr =>
    rw [hdr] at ef
    obtain ⟨hdi, hdr2, hlt⟩ := getElem?_drop_of hdr
    obtain ⟨go, yl⟩ := pr2.2 d hdi
    unfold forL at ef
    cases zf : f d ρ2 with
    | none => rw [zf] at ef; cases ef
    | some ρ3 =>
      rw [zf] at ef
      replace ef : (m ρ3 S2).bind (afterTurn (forL f m dr)) = some (o, S') := ef
      cases zm : m ρ3 S2 with
      | none => rw [zm] at ef; cases ef
      | some r =>
        rw [zm] at ef
        replace ef : afterTurn (forL f m dr) r = some (o, S') := ef
        refine .inr ⟨go, fun σ' H' => ∃ ρ S B O2, Rl (C.re B1 H1 O) ρ S B O2 σ' H' ∧ (i + 1) + (n - 1) = ds.length ∧ forL f m (ds.drop (i + 1)) ρ S = some (o, S'), fun σ' H' hN => ⟨n - 1, by omega, hN⟩, fun x H3 hy => ?_⟩
        obtain ⟨B3, t3, r3⟩ := yl x H3 hy
        refine ⟨C.re B1 H1 O, hK, hn, ρ2, S2, B3, O2, d, R2.step t3, r3, ρ3, zf, fun σ' R' _ => ⟨C.re B1 H1 O, hK, hn, ρ3, S2, B3, O2, R', r.1, r.2, zm, ?_, ?_⟩⟩
        · obtain ⟨r1, r2⟩ := r
          have ih := cst_forL (f := f) hb.cst dr
          cases r1 with
          | nx ρ1 => have := ih ρ1 r2 o S' ef; exact Nat.le_trans this.1 lim
          | ct ρ1 => have := ih ρ1 r2 o S' ef; exact Nat.le_trans this.1 lim
          | bk ρ1 => cases ef; exact lim
          | rt d => cases ef; exact lim
        · obtain ⟨r1, r2⟩ := r
          cases r1 with
          | nx ρ1 => exact fun σ' H' B' O' R' => ⟨ρ1, r2, B', O', R', by omega, by rw [hdr2]; exact ef⟩
          | ct ρ1 => exact fun σ' H' B' O' R' => ⟨ρ1, r2, B', O', R', by omega, by rw [hdr2]; exact ef⟩
          | bk ρ1 => cases ef; exact fun σ' H' B' O' R' => q _ _ _ _ (R1.unre R')
          | rt d => cases ef; exact fun v H' B' t r => q v H' B' (Step.unre R1 t) r
/-! ### the frame's own list changed -/
theorem own_slot {C : Cfg} {ρ : En} {S : Strm} {B : Hp} {O : Nat → Option Addr} {σ : St} {H : Hp} (R : Rl C ρ S B O σ H) {i : Nat} {ds : List D} (h : ρ[i]? = some (some (.ol ds))) : ∃ a vs, O i = some a ∧ σ[i]? = some (some (.ref a)) ∧ H a = some (.lst vs) ∧ RpAll C.K C.p B vs ds := R.slots i _ h
def mAppend (i : Nat) (g : ME) : MS := fun ρ S => (g ρ S).bind fun x => match ρ[i]? with
  | some (some (.ol ds)) => if ds.length < sizeLine then some (.nx (ρ.set i (some (.ol (ds ++ [x.1])))), x.2) else none
  | _ => none
theorem pus_append (i : Nat) {ap cp : Pos} (h0 : PE X a (tVar i)) (h : PuE X e ga ka) (hst : starEach [e] X.env = (false, eval e X.env) :: starEach [] X.env := by rfl)
    (hpe : ∀ t, PA X [e] t → PE X (.Call (.Attribute a "append" ap) [e] [] cp) (tBM X.K "list" rAppend (tVar i) t)) (hs : swapsWith (.Call (.Attribute a "append" ap) [e] [] cp) none pos.line X.env = pure false := by rfl) : PuS X (.Expr (.Call (.Attribute a "append" ap) [e] [] cp) pos) (mAppend i ga) ka := by
  refine ⟨fun ρ S o S' eg => ?_, fun C hK hn => ps_imp (ps_expr (hpe _ (pa_cons (h.run C hK hn) pa_nil hst)) hs) fun E σ H ⟨ρ, S, B, O, R, o, S', eg, lim, q⟩ => ?_⟩
  · unfold mAppend at eg
    cases z : ga ρ S with
    | none => rw [z] at eg; cases eg
    | some x =>
      rw [z] at eg
      replace eg : (match ρ[i]? with | some (some (.ol ds)) => if ds.length < sizeLine then some (Out.nx (ρ.set i (some (.ol (ds ++ [x.1])))), x.2) else none | _ => none) = some (o, S') := eg
      split at eg
      · split at eg
        · cases eg; exact h.cst _ _ _ _ z
        · cases eg
      · cases eg
  · unfold mAppend at eg
    cases z : ga ρ S with
    | none => rw [z] at eg; cases eg
    | some x =>
      rw [z] at eg
      replace eg : (match ρ[i]? with | some (some (.ol ds)) => if ds.length < sizeLine then some (Out.nx (ρ.set i (some (.ol (ds ++ [x.1])))), x.2) else none | _ => none) = some (o, S') := eg
      split at eg
      · rename_i ds hd
        split at eg
        · rename_i hl
          cases eg
          obtain ⟨l, vs, g0, g1, g2, g3⟩ := own_slot R hd
          have hlt : i < C.n := by rw [← R.lenE]; exact (List.getElem?_eq_some_iff.mp hd).1
          obtain ⟨n1, n2, n3, n4, _⟩ := R.own i l g0
          refine ⟨_, g1, .inl ⟨rfl, vs, .inl (.inl g2)⟩, ρ, S, B, O, R, x.1, x.2, z, lim, fun v B' H' t r => ?_⟩
          have R' := R.step t
          refine ⟨l, vs, v, rfl, rfl, t.hh l _ n3 n4 g2, by rw [g3.length]; exact hl, ?_⟩
          exact q σ _ B' O (R'.mut hlt g0 g1 ((g3.mono t.bb).append (.one r)))
        · cases eg
      · cases eg
def mExtend (i : Nat) (g : ME) : MS := fun ρ S => (g ρ S).bind fun x => match ρ[i]?, x.1 with
  | some (some (.ol ds)), .lst es => if ds.length + es.length ≤ sizeLine then some (.nx (ρ.set i (some (.ol (ds ++ es)))), x.2) else none
  | _, _ => none
theorem pus_extend (i : Nat) {ap cp : Pos} (h0 : PE X a (tVar i)) (h : PuE X e ga ka) (hst : starEach [e] X.env = (false, eval e X.env) :: starEach [] X.env := by rfl)
    (hpe : ∀ t, PA X [e] t → PE X (.Call (.Attribute a "extend" ap) [e] [] cp) (tBM X.K "list" rExtend (tVar i) t)) (hs : swapsWith (.Call (.Attribute a "extend" ap) [e] [] cp) none pos.line X.env = pure false := by rfl) : PuS X (.Expr (.Call (.Attribute a "extend" ap) [e] [] cp) pos) (mExtend i ga) ka := by
  refine ⟨fun ρ S o S' eg => ?_, fun C hK hn => ps_imp (ps_expr (hpe _ (pa_cons (h.run C hK hn) pa_nil hst)) hs) fun E σ H ⟨ρ, S, B, O, R, o, S', eg, lim, q⟩ => ?_⟩
  · unfold mExtend at eg
    cases z : ga ρ S with
    | none => rw [z] at eg; cases eg
    | some x =>
      rw [z] at eg
      replace eg : (match ρ[i]?, x.1 with | some (some (.ol ds)), .lst es => if ds.length + es.length ≤ sizeLine then some (Out.nx (ρ.set i (some (.ol (ds ++ es)))), x.2) else none | _, _ => none) = some (o, S') := eg
      split at eg
      · split at eg
        · cases eg; exact h.cst _ _ _ _ z
        · cases eg
      · cases eg
  · unfold mExtend at eg
    cases z : ga ρ S with
    | none => rw [z] at eg; cases eg
    | some x =>
      rw [z] at eg
      replace eg : (match ρ[i]?, x.1 with | some (some (.ol ds)), .lst es => if ds.length + es.length ≤ sizeLine then some (Out.nx (ρ.set i (some (.ol (ds ++ es)))), x.2) else none | _, _ => none) = some (o, S') := eg
      split at eg
      · rename_i ds es hd hx
        split at eg
        · rename_i hl
          cases eg
          obtain ⟨l, vs, g0, g1, g2, g3⟩ := own_slot R hd
          have hlt : i < C.n := by rw [← R.lenE]; exact (List.getElem?_eq_some_iff.mp hd).1
          obtain ⟨n1, n2, n3, n4, _⟩ := R.own i l g0
          refine ⟨_, g1, .inl ⟨rfl, vs, .inl (.inl g2)⟩, ρ, S, B, O, R, x.1, x.2, z, lim, fun v B' H' t r => ?_⟩
          have R' := R.step t
          rw [hx] at r
          obtain ⟨m2, zs, rfl, k1, k2⟩ := r.lst_inv
          refine ⟨l, m2, vs, zs, rfl, rfl, t.hh l _ n3 n4 g2, t.sub _ _ k1, by rw [g3.length, k2.length]; exact hl, ?_⟩
          exact q σ _ B' O (R'.mut hlt g0 g1 ((g3.mono t.bb).append k2))
        · cases eg
      · cases eg
end
/-! ### a def -/
def startE (n : Nat) (ds : List D) : En := ds.map (fun d => some (.sh d)) ++ List.replicate (n - ds.length) none
def mDef (n : Nat) (m : MS) : FN := fun ds S => (m (startE n ds) S).bind fun r => match r.1 with
  | .rt d => some (d, r.2)
  | .nx _ => some (.non, r.2)
  | _ => none
theorem cst_def {n k : Nat} {m : MS} (h : Cst k m) : CstF k (mDef n m) := fun ds S d S' e => by
  unfold mDef at e
  cases z : m (startE n ds) S with
  | none => rw [z] at e; cases e
  | some r =>
    rw [z] at e
    obtain ⟨r1, r2⟩ := r
    have h2 := h _ _ _ _ z
    cases r1 with
    | rt x => cases e; exact h2
    | nx x => cases e; exact h2
    | bk x => cases e
    | ct x => cases e
theorem rl_start {C : Cfg} {vs : List V} {ds : List D} {S : Strm} {N : List Str} (hn : C.n = N.length) (hl : vs.length ≤ N.length) (t : Step C.p C.q C.B0 C.H0 C.B0 C.H0 S) (r : RpAll C.K C.p C.B0 vs ds) : Rl C (startE N.length ds) S C.B0 (fun _ => none) (start N vs) C.H0 := by
  have hd := r.length
  refine ⟨t, ?_, ?_, fun i e h => ?_, fun i a h => (by cases h), fun i j a h => (by cases h)⟩
  · unfold start; rw [List.length_append, List.length_map, List.length_replicate, hn]; omega
  · unfold startE; rw [List.length_append, List.length_map, List.length_replicate, hn]; omega
  · unfold startE at h
    by_cases hi : i < ds.length
    · rw [List.getElem?_append_left (by simpa using hi), List.getElem?_map, List.getElem?_eq_getElem hi] at h
      cases h
      obtain ⟨v, h1, h2⟩ := r.get (List.getElem?_eq_getElem hi)
      refine ⟨v, ?_, h2⟩
      unfold start
      rw [List.getElem?_append_left (by simpa [hd] using hi), List.getElem?_map, h1]
      rfl
    · rw [List.getElem?_append_right (by simpa using hi), List.getElem?_replicate] at h
      split at h <;> cases h
theorem pu_def {P : Program} {w : World} {K : PySem.W.Frag} {mg : Str → Option Value} {base : Heap} {x qual : Str} {st : Stmt} {f : Addr} {fd : FuncData} {N ps : List Str} {n k : Nat} {m : MS} (F : Fun K x qual st f fd) (Sc : FnScope N ps (defScope st)) (hps : ps.length ≤ N.length)
    (hb : ∀ (cdv : Value) (A : Around) (outer : List Env) (s : Shared) (H : Hp) (E : XK), Room n (A.deeper (envOfC qual (defScope st) s.heap.objs.size f cdv)) → PuSs (cxOf CX0 P w K mg base N qual (defScope st) f cdv A outer s H E).nox (defBody st) m k) (hc : Cst k m) :
    FnPu P w K mg base (n + 1) f fd ps (mDef N.length m) k := by
  refine ⟨F.ok Sc (fun vs H Q E h => ?_) (fun cdv A outer s H vs Q E hr h => ?_), cst_def hc⟩
  · obtain ⟨_, _, _, _, _, hl, _⟩ := h
    exact hl
  · obtain ⟨p, q, B, ds, S, hl, t, r, d, S', ef, lim, qq⟩ := h
    have body := hb cdv A outer s H E hr
    refine ⟨_, body.run ⟨K, p, q, B, H, N.length⟩ rfl rfl, startE N.length ds, S, B, fun _ => none, rl_start (C := ⟨K, p, q, B, H, N.length⟩) rfl (by rw [hl]; exact hps) t r, ?_⟩
    unfold mDef at ef
    cases z : m (startE N.length ds) S with
    | none => rw [z] at ef; cases ef
    | some rr =>
      rw [z] at ef
      obtain ⟨r1, r2⟩ := rr
      cases r1 with
      | rt y => cases ef; exact ⟨.rt d, r2, rfl, lim, fun v H' B' t' r' => qq v B' H' t' r'⟩
      | nx y => cases ef; exact ⟨.nx y, r2, rfl, lim, fun σ' H' B' O' R' => qq .non B' H' R'.wd .non⟩
      | bk y => cases ef
      | ct y => cases ef
end L2.Ev
namespace L2.Ev
open PySem PySem.Spec PyProof.Rows

/-! ### the stream's draws -/
def drawLoop : List Int → Int → Int → List Int × Int × Int
  | [], dig, mix => ([], dig, mix)
  | c :: r, dig, mix => if dig = 0 then drawLoop r (if 10 ^ 18 ≤ (if c < 0 then -c else c) then (if c < 0 then -c else c) else 0) ((mix * 8191 + (if c < 0 then -c else c) + 3) % 2147483647) else (c :: r, dig, mix)
theorem drawLoop_mix : ∀ (cs : List Int) (dig mix : Int), 0 ≤ mix ∧ mix < 2147483647 → 0 ≤ (drawLoop cs dig mix).2.2 ∧ (drawLoop cs dig mix).2.2 < 2147483647
  | [], dig, mix, h => h
  | c :: r, dig, mix, h => by
    unfold drawLoop
    split
    · exact drawLoop_mix r _ _ ⟨Int.emod_nonneg _ (by omega), Int.emod_lt_of_pos _ (by omega)⟩
    · exact h
def drawVal (x : List Int × Int × Int) (cnt : Nat) (m : Int) : Int :=
  if 0 < x.2.1 then x.2.1 % m else ((((x.2.2 + 7919 * (cnt : Int) + 104729) ^ 5 % 2147483629) * 48271 + 30011 * (cnt : Int) + 29) ^ 3 % 1000000007) % m
/-- a draw below m: what is drawn, the stream behind it -/
def drawF (S : Strm) (m : Int) : Int × Strm :=
  (drawVal (drawLoop S.cells S.dig S.mix) (S.cnt + 1) m, ⟨(drawLoop S.cells S.dig S.mix).1, if 0 < (drawLoop S.cells S.dig S.mix).2.1 then (drawLoop S.cells S.dig S.mix).2.1 / m else (drawLoop S.cells S.dig S.mix).2.1, S.cnt + 1, (drawLoop S.cells S.dig S.mix).2.2, drawLoop_mix _ _ _ S.hm⟩)
theorem drawF_lt (S : Strm) {m : Int} (h : 0 < m) : 0 ≤ (drawF S m).1 ∧ (drawF S m).1 < m := by
  unfold drawF drawVal
  dsimp only
  split <;> exact ⟨Int.emod_nonneg _ (by omega), Int.emod_lt_of_pos _ h⟩
/-- the draw as a def of the text -/
def F_draw : FN := fun ds S => match ds with
  | [.strm, .int m] => if 0 < m ∧ m.natAbs.log2 < 9000 then some (.int (drawF S m).1, (drawF S m).2) else none
  | _ => none
theorem cst_draw : CstF 1 F_draw := fun ds S d S' e => by
  unfold F_draw at e
  split at e
  · split at e
    · cases e
      exact ⟨Nat.le_succ _, Nat.le_refl _⟩
    · cases e
  · cases e
section
variable {p q : Addr} {B H B1 H1 : Hp} {S : Strm}
theorem Step.setp (t : Step p q B H B1 H1 S) (dig : Int) (cnt : Nat) (mix : Int) (hm : 0 ≤ mix ∧ mix < 2147483647) : Step p q B H B1 (upd H1 p (.lst [.ref q, .int dig, .int cnt, .int mix])) ⟨S.cells, dig, cnt, mix, hm⟩ := by
  refine ⟨t.bb, fun a o hp hq e => ?_, t.nw, fun a o e => ?_, t.np, t.nq, t.pq, ⟨upd_same, ?_⟩⟩
  · rw [upd_ne hp]; exact t.hh a o hp hq e
  · rw [upd_ne (fun z => by rw [z, t.np] at e; cases e)]; exact t.sub a o e
  · rw [upd_ne t.pq.symm]; exact t.st.hq
theorem Step.setq (t : Step p q B H B1 H1 S) (cs : List Int) : Step p q B H B1 (upd H1 q (.lst (cs.map V.int))) ⟨cs, S.dig, S.cnt, S.mix, S.hm⟩ := by
  refine ⟨t.bb, fun a o hp hq e => ?_, t.nw, fun a o e => ?_, t.np, t.nq, t.pq, ⟨?_, upd_same⟩⟩
  · rw [upd_ne hq]; exact t.hh a o hp hq e
  · rw [upd_ne (fun z => by rw [z, t.nq] at e; cases e)]; exact t.sub a o e
  · rw [upd_ne t.pq]; exact t.st.hp
end
theorem powBits {a : Int} {n k : Nat} (h : a.natAbs < 2 ^ k) (hn : k * n ≤ 2 ^ 27) : (Builtin.Int.intBits a : Int) * (n : Int) ≤ 2 ^ 27 := by
  have h1 : Builtin.Int.intBits a ≤ k := intBits_le h
  have h2 : Builtin.Int.intBits a * n ≤ k * n := Nat.mul_le_mul_right _ h1
  have h3 : Builtin.Int.intBits a * n ≤ 2 ^ 27 := Nat.le_trans h2 hn
  have h4 : ((Builtin.Int.intBits a * n : Nat) : Int) ≤ ((2 ^ 27 : Nat) : Int) := Int.ofNat_le.mpr h3
  rw [Int.natCast_mul] at h4
  exact h4
def rPowW (k n : Nat) : R2 := fun x y H Q => ∃ i : Int, x = .int i ∧ y = .int (n : Int) ∧ i.natAbs < 2 ^ k ∧ Q (.int (i ^ n)) H
theorem op_powW {X : Cx} {k n : Nat} (hn : k * n ≤ 2 ^ 27) : OpR X (binaryOp .Pow) (rPowW k n) := by
  intro pins s σ H x y v u Q I rx ry h
  obtain ⟨i, rfl, rfl, hc, qq⟩ := h
  obtain ⟨t, rfl⟩ := rx
  obtain ⟨t', rfl⟩ := ry
  refine pow_int (by omega) (powBits hc hn) ?_
  rw [Int.toNat_natCast]
  exact ⟨.int (i ^ n), H, I.tok _, ⟨_, rfl⟩, qq⟩
end L2.Ev
namespace L2.Ev
open PySem PySem.Spec PyProof.Rows

section
variable {X : Cx} {e a b c : Expr} {ga gb gc : ME} {k ka kb kc : Nat} {pos p : Pos} {gs : M (List D)} {tc tb : M Bool} {m m1 m2 : MS} {α : Type}
/-! ### how many draws, piece by piece -/
theorem c_op1 {f : D → Option D} (h : Cst k ga) : Cst k (mOp1 f ga) := cst_op1 h
theorem c_tru (h : Cst k ga) : Cst k (mTru ga) := cst_bind (k := k) (l := 0) h fun _ => cst_pure
theorem c_notT (h : Cst k tc) : Cst k (mNotT tc) := cst_bind (k := k) (l := 0) h fun _ => cst_pure
theorem c_andT (h : Cst k tc) (h2 : Cst kb tb) : Cst (k + (kb + 0)) (mAndT tc tb) := cst_bind h fun _ => cst_if h2 cst_pure
theorem c_orT (h : Cst k tc) (h2 : Cst kb tb) : Cst (k + (0 + kb)) (mOrT tc tb) := cst_bind h fun _ => cst_if cst_pure h2
theorem c_and (h : Cst k ga) (h2 : Cst kb gb) : Cst (k + (kb + 0)) (mAnd ga gb) := cst_bind (c_tru h) fun _ => cst_if h2 cst_c
theorem c_or (h : Cst k ga) (h2 : Cst kb gb) : Cst (k + (0 + kb)) (mOr ga gb) := cst_bind (c_tru h) fun _ => cst_if cst_c h2
theorem c_ite {g h : M α} (hc : Cst kc tc) (hg : Cst ka g) (hh : Cst kb h) : Cst (kc + (ka + kb)) (mIte tc g h) := cst_bind hc fun _ => cst_if hg hh
theorem c_cons (h : Cst ka ga) (hs : Cst k gs) : Cst (ka + k) (mCons ga gs) := cst_cons h hs
theorem c_tup (h : Cst k gs) : Cst k (mTup gs) := cst_bind (k := k) (l := 0) h fun _ => cst_pure
theorem c_lst (h : Cst k gs) : Cst k (mLst gs) := cst_bind (k := k) (l := 0) h fun _ => cst_pure
theorem c_call {F : FN} (hF : CstF kb F) (hs : Cst k gs) : Cst (k + kb) (mCall F gs) := cst_call hF hs
theorem c_perm {pm : List Nat} (hs : Cst k gs) : Cst k (mPerm pm gs) := cst_bind (k := k) (l := 0) hs fun _ => cst_pure
theorem c_bi {f : List D → Option D} (hs : Cst k gs) : Cst k (mBi f gs) := cst_bind (k := k) (l := 0) hs fun _ => cst_pure
theorem c_biF {f : List D → Option (List D)} (hs : Cst k gs) : Cst k (mBiF f gs) := cst_bind (k := k) (l := 0) hs fun _ => cst_pure
theorem c_cat (h : Cst ka ga) (h2 : Cst kb gb) : Cst (ka + kb) (mCat ga gb) := cst_bind h fun _ => cst_bind (k := kb) (l := 0) h2 fun _ => cst_pure
theorem c_it (h : Cst ka ga) : Cst ka (mIt ga) := cst_bind (k := ka) (l := 0) h fun _ => cst_pure
theorem c_range1 (h : Cst k gs) : Cst k (mRange1 gs) := cst_bind (k := k) (l := 0) h fun _ => cst_pure
theorem c_range2 (h : Cst k gs) : Cst k (mRange2 gs) := cst_bind (k := k) (l := 0) h fun _ => cst_pure
theorem c_zip (h : Cst k gs) : Cst k (mZip gs) := cst_bind (k := k) (l := 0) h fun _ => cst_pure
theorem c_frz {i : Nat} (h : Cst k m) : Cst k (mFrz i m) := fun ρ S d S' e => by
  unfold mFrz at e
  split at e
  · exact h _ _ _ _ e
  · cases e
theorem c_bor {i : Nat} (h : Cst k ga) : Cst k (mBor i ga) := fun ρ S d S' eg => by
  unfold mBor at eg
  split at eg
  · rename_i ds hd
    cases z : ga (ρ.set i (some (.sh (.lst ds)))) S with
    | none => rw [z] at eg; cases eg
    | some x =>
      rw [z] at eg
      replace eg : (if x.1.flat1 = true then some x else none) = some (d, S') := eg
      split at eg
      · cases eg; exact h _ _ _ _ z
      · cases eg
  · cases eg
theorem c_idxO {i : Nat} (h : Cst k gb) : Cst k (mIdxO i gb) := fun ρ S d S' eg => by
  unfold mIdxO at eg
  split at eg
  · cases z : gb ρ S with
    | none => rw [z] at eg; cases eg
    | some x =>
      rw [z] at eg
      obtain ⟨y, _, ey⟩ := Option.map_eq_some_iff.mp eg
      cases ey
      exact h _ _ _ _ z
  · cases eg
theorem c_ret (h : Cst ka ga) : Cst ka (mRet ga) := cst_bind (k := ka) (l := 0) h fun _ => cst_rt
theorem c_retN : Cst 0 mRetN := cst_rt
theorem c_drop (h : Cst ka ga) : Cst ka (mDrop ga) := cst_bind (k := ka) (l := 0) h fun _ => cst_next
theorem c_set {i : Nat} (h : Cst ka ga) : Cst ka (mSet i ga) := cst_bind (k := ka) (l := 0) h fun _ => cst_nx
theorem c_setF {i : Nat} (h : Cst k gs) : Cst k (mSetF i gs) := cst_bind (k := k) (l := 0) h fun _ => cst_nx
theorem c_asg {f : D → En → Option En} (h : Cst ka ga) : Cst ka (mAsg f ga) := cst_bind (k := ka) (l := 0) h fun _ => cst_asg
theorem c_par {i j : Nat} (h : Cst k gs) : Cst k (mPar i j gs) := cst_bind (k := k) (l := 0) h fun ds => fun ρ S o S' e => by
  split at e
  · cases e; omega
  · cases e
theorem c_aug {i : Nat} {f : D → D → Option D} (h : Cst ka ga) : Cst (0 + ka) (mAug i f ga) := cst_bind (k := 0 + ka) (l := 0) (cst_op2 cst_var h) fun _ => cst_nx
theorem c_ifS (hc : Cst kc tc) (h1 : Cst ka m1) (h2 : Cst kb m2) : Cst (kc + (ka + kb)) (mIfS tc m1 m2) := cst_bind hc fun _ => cst_if h1 h2
theorem c_append {i : Nat} (h : Cst ka ga) : Cst ka (mAppend i ga) := fun ρ S o S' eg => by
  unfold mAppend at eg
  cases z : ga ρ S with
  | none => rw [z] at eg; cases eg
  | some x =>
    rw [z] at eg
    replace eg : (match ρ[i]? with | some (some (.ol ds)) => if ds.length < sizeLine then some (Out.nx (ρ.set i (some (.ol (ds ++ [x.1])))), x.2) else none | _ => none) = some (o, S') := eg
    split at eg
    · split at eg
      · cases eg; exact h _ _ _ _ z
      · cases eg
    · cases eg
theorem c_extend {i : Nat} (h : Cst ka ga) : Cst ka (mExtend i ga) := fun ρ S o S' eg => by
  unfold mExtend at eg
  cases z : ga ρ S with
  | none => rw [z] at eg; cases eg
  | some x =>
    rw [z] at eg
    replace eg : (match ρ[i]?, x.1 with | some (some (.ol ds)), .lst es => if ds.length + es.length ≤ sizeLine then some (Out.nx (ρ.set i (some (.ol (ds ++ es)))), x.2) else none | _, _ => none) = some (o, S') := eg
    split at eg
    · split at eg
      · cases eg; exact h _ _ _ _ z
      · cases eg
    · cases eg

/-! ### a ≤ b < c -/
def mChain (f f' : D → D → Option D) (ga gb gc : ME) : ME := mBind ga fun x => mBind gb fun y => mBind (mPure ((f x y).bind dTru)) fun k => if k = true then mBind gc fun z => mPure (f' y z) else mC (.bl false)
theorem c_chain {f f' : D → D → Option D} (ha : Cst ka ga) (hb : Cst kb gb) (hc : Cst kc gc) : Cst (ka + (kb + (0 + (kc + 0 + 0)))) (mChain f f' ga gb gc) := cst_bind ha fun _ => cst_bind hb fun _ => cst_bind cst_pure fun _ => cst_if (cst_bind (k := kc) (l := 0) hc fun _ => cst_pure) cst_c
theorem pu_chain {op op' : CmpOp} {r r' : R2} {f f' : D → D → Option D} (ho : OpR X (compareOp op) r) (ho' : OpR X (compareOp op') r') (hf : Op2 X.K r f) (hf' : Op2 X.K r' f') (ha : PuE X a ga ka) (hb : PuE X b gb kb) (hc : PuE X c gc kc)
    (mk : ∀ ta tb tc, PE X a ta → PE X b tb → PE X c tc → PE X e (tChain r r' ta tb tc)) : PuE X e (mChain f f' ga gb gc) (ka + (kb + (0 + (kc + 0 + 0)))) := by
  refine ⟨c_chain ha.cst hb.cst hc.cst, fun C hK hn => pe_imp (mk _ _ _ (ha.run C hK hn) (hb.run C hK hn) (hc.run C hK hn)) fun σ H Q ⟨ρ, S, B, O, R, d, S', eg, lim, q⟩ => ?_⟩
  obtain ⟨x, S1, e1, eg⟩ := mBind_some eg
  obtain ⟨y, S2, e2, eg⟩ := mBind_some eg
  obtain ⟨kk, S3, e3, eg⟩ := mBind_some eg
  obtain ⟨e6, rfl⟩ := mPure_some e3
  have l3 : S3.cnt ≤ S'.cnt := by
    cases kk with
    | true =>
      obtain ⟨z, S4, e4, e5⟩ := mBind_some (show mBind gc (fun z => mPure (f' y z)) ρ S3 = some (d, S') from eg)
      obtain ⟨_, rfl⟩ := mPure_some e5
      exact (hc.cst _ _ _ _ e4).1
    | false => cases eg; exact Nat.le_refl _
  have l2 := hb.cst _ _ _ _ e2
  obtain ⟨w, ew, et⟩ := Option.bind_eq_some_iff.mp e6
  refine ⟨ρ, S, B, O, R, x, S1, e1, Nat.le_trans (Nat.le_trans l2.1 l3) lim, fun v B1 H1 t1 r1 => ?_⟩
  refine ⟨ρ, S1, B1, O, R.step t1, y, S3, e2, Nat.le_trans l3 lim, fun u B2 H2 t2 r2 => ?_⟩
  refine hf C.p C.q B2 H2 S3 v u x y w _ t2.self (hK ▸ r1.mono t2.bb) (hK ▸ r2) ew fun w' B3 H3 t3 r3 => ?_
  unfold dTru at et
  split at et
  · cases et
    refine ⟨kk, r3.bl_inv, ?_⟩
    cases kk with
    | true =>
      rw [if_pos rfl]
      obtain ⟨z, S4, e4, e5⟩ := mBind_some (show mBind gc (fun z => mPure (f' y z)) ρ S3 = some (d, S') from eg)
      obtain ⟨e7, rfl⟩ := mPure_some e5
      refine ⟨ρ, S3, B3, O, ((R.step t1).step t2).step t3, z, S', e4, lim, fun v4 B4 H4 t4 r4 => ?_⟩
      exact hf' C.p C.q B4 H4 S' u v4 y z d Q t4.self (hK ▸ (r2.mono t3.bb).mono t4.bb) (hK ▸ r4) e7 fun v5 B5 H5 t5 r5 => q v5 B5 H5 ((((t1.trans t2).trans t3).trans t4).trans t5) (hK ▸ r5)
    | false =>
      rw [if_neg Bool.false_ne_true]
      cases eg
      exact q _ B3 H3 ((t1.trans t2).trans t3) (.bl _)
  · cases et
theorem pu_leLt (ha : PuE X a ga ka) (hb : PuE X b gb kb) (hc : PuE X c gc kc) (hm : lastMarks [.LtE, .Lt] [b, c] = false := by rfl) : PuE X (.Compare a [.LtE, .Lt] [b, c] pos) (mChain dLe dLt ga gb gc) (ka + (kb + (0 + (kc + 0 + 0)))) :=
  pu_chain op_le op_lt f_le f_lt ha hb hc fun _ _ _ h1 h2 h3 => pe_chain op_le op_lt h1 h2 h3 (hm := hm)
theorem pu_leLe (ha : PuE X a ga ka) (hb : PuE X b gb kb) (hc : PuE X c gc kc) (hm : lastMarks [.LtE, .LtE] [b, c] = false := by rfl) : PuE X (.Compare a [.LtE, .LtE] [b, c] pos) (mChain dLe dLe ga gb gc) (ka + (kb + (0 + (kc + 0 + 0)))) :=
  pu_chain op_le op_le f_le f_le ha hb hc fun _ _ _ h1 h2 h3 => pe_chain op_le op_le h1 h2 h3 (hm := hm)

/-! ### a test that reads the frame's own list -/
def mBorT (i : Nat) (g : M Bool) : M Bool := fun ρ S => match ρ[i]? with
  | some (some (.ol ds)) => g (ρ.set i (some (.sh (.lst ds)))) S
  | _ => none
theorem c_borT {i : Nat} (h : Cst k tc) : Cst k (mBorT i tc) := fun ρ S d S' eg => by
  unfold mBorT at eg
  split at eg
  · exact h _ _ _ _ eg
  · cases eg
theorem put_bor (i : Nat) (h : PuT X e tc ka) : PuT X e (mBorT i tc) ka := by
  refine ⟨c_borT h.cst, fun C hK hn => pt_imp (h.run C hK hn) fun σ H Q ⟨ρ, S, B, O, R, d, S', eg, lim, q⟩ => ?_⟩
  unfold mBorT at eg
  split at eg
  · rename_i ds hd
    obtain ⟨aa, vs, h1, h2, h3, h4, R2⟩ := R.freeze hd
    refine ⟨_, S, _, _, R2, d, S', eg, lim, fun B' H' t => ?_⟩
    have sm : Same B (upd B aa (.lst vs)) := fun b u e' => by rw [upd_ne (ne_of_none e' h3)]; exact e'
    exact q B H' ⟨fun _ _ x => x, t.hh, fun a o x n => (by rw [n] at x; cases x), sm.trans (t.bb.trans t.sub), R.wd.np, R.wd.nq, t.pq, t.st⟩
  · cases eg
end
theorem FnPu.mono {P : Program} {w : World} {K : PySem.W.Frag} {mg : Str → Option Value} {base : Heap} {n : Nat} {f : Addr} {fd : FuncData} {ps : List Str} {F : FN} {k l : Nat} (h : FnPu P w K mg base n f fd ps F k) (hl : k ≤ l) : FnPu P w K mg base n f fd ps F l :=
  ⟨h.ok, fun ds S d S' e => by have := h.cst ds S d S' e; omega⟩
theorem FnPu.lift {P : Program} {w : World} {K : PySem.W.Frag} {mg : Str → Option Value} {base : Heap} {n n' : Nat} {f : Addr} {fd : FuncData} {ps : List Str} {F : FN} {k : Nat} (h : FnPu P w K mg base n f fd ps F k) (hl : n ≤ n') : FnPu P w K mg base n' f fd ps F k := ⟨h.ok.mono hl, h.cst⟩
/-- a def by its body; how many draws: apart -/
theorem pu_fn {P : Program} {w : World} {K : PySem.W.Frag} {mg : Str → Option Value} {base : Heap} {x qual : Str} {st : Stmt} {f : Addr} {fd : FuncData} {N ps : List Str} {n k l : Nat} {m : MS} (F : Fun K x qual st f fd) (Sc : FnScope N ps (defScope st)) (hps : ps.length ≤ N.length)
    (hb : ∀ (cdv : Value) (A : Around) (outer : List Env) (s : Shared) (H : Hp) (E : XK), Room n (A.deeper (envOfC qual (defScope st) s.heap.objs.size f cdv)) → PuSs (cxOf CX0 P w K mg base N qual (defScope st) f cdv A outer s H E).nox (defBody st) m k) (hc : Cst l m) :
    FnPu P w K mg base (n + 1) f fd ps (mDef N.length m) l :=
  ⟨(pu_def (k := max k l) F Sc hps (fun cdv A outer s H E hr => ⟨cst_mono (hb cdv A outer s H E hr).cst (Nat.le_max_left _ _), (hb cdv A outer s H E hr).run⟩) (cst_mono hc (Nat.le_max_right _ _))).ok, cst_def hc⟩

/-! ### the law's own begin: a stream of the script -/
/-- what a law's call asks of its script -/
def spLaw (K : PySem.W.Frag) : Sp := fun vs H Q _ => ∃ (a : Addr) (ns : List Int), vs = [.ref a] ∧ SqL K H a (ns.map V.int) ∧ ns.length ≤ 63 ∧ ∀ H', Q (.bl true) H'
def S0 (ns : List Int) : Strm := ⟨ns, 0, 0, 17, by decide⟩
def spStream (K : PySem.W.Frag) : Sp := fun vs H Q _ => ∃ (a : Addr) (ns : List Int), vs = [.ref a] ∧ SqL K H a (ns.map V.int) ∧ ∀ p q H', p ≠ q → H' p = some (.lst [.ref q, .int 0, .int 0, .int 17]) → H' q = some (.lst (ns.map V.int)) → Q (.ref p) H'
/-- the law's body behind its first row: slot 1 has the stream -/
theorem law_glue {X : Cx} {s1 : Stmt} {rest : List Stmt} {te : TE} {m : MS} {k : Nat} {E : Ends} {H : Hp} {a : Addr} {ns : List Int} {N : Nat} (hN : X.N.length = N + 2)
    (h1 : PS X s1 (tAsg te (gName 1))) (h2 : PuSs X rest m k)
    (hs : ∀ (Q : VK), (∀ p q H', p ≠ q → H' p = some (.lst [.ref q, .int 0, .int 0, .int 17]) → H' q = some (.lst (ns.map V.int)) → Q (.ref p) H') → te (some (.ref a) :: none :: List.replicate N none) H Q)
    (hm : ∃ S', m (none :: some (.sh .strm) :: List.replicate N none) (S0 ns) = some (.rt (.bl true), S') ∧ S'.cnt ≤ LIM) (hE : ∀ H', E.rt (.bl true) H') :
    ∃ t, PSs X (s1 :: rest) t ∧ t E (some (.ref a) :: none :: List.replicate N none) H := by
  obtain ⟨S', em, lim⟩ := hm
  -- the base is empty: nothing but the stream is known
  refine ⟨_, pss_cons (u := fun E σ H => ∃ C : Cfg, C.K = X.K ∧ C.n = X.N.length ∧ tPuS C m E σ H) h1 ⟨fun pins s σ H E I ⟨C, hK, hn, h⟩ => (h2.run C hK hn).run pins s σ H E I h⟩, ?_⟩
  refine hs _ fun p q H' hpq hp hq => ?_
  refine ⟨⟨X.K, p, q, fun _ => none, H', X.N.length⟩, rfl, rfl, none :: some (.sh .strm) :: List.replicate N none, S0 ns, fun _ => none, fun _ => none, ?_, .rt (.bl true), S', em, lim, fun v H2 B2 t r => ?_⟩
  · refine ⟨⟨fun _ _ e => e, fun _ _ _ _ e => e, fun _ _ e => (by cases e), fun _ _ e => (by cases e), rfl, rfl, hpq, ⟨hp, hq⟩⟩, ?_, ?_, fun i e h => ?_, fun i a h => (by cases h), fun i j a h => (by cases h)⟩
    · show (List.set (some (V.ref a) :: none :: List.replicate N none) 1 (some (V.ref p))).length = X.N.length
      rw [List.length_set, List.length_cons, List.length_cons, List.length_replicate, hN]
    · show (none :: some (Ent.sh D.strm) :: List.replicate N none).length = X.N.length
      rw [List.length_cons, List.length_cons, List.length_replicate, hN]
    · match i, h with
      | 0, h => cases h
      | 1, h => cases h; exact ⟨.ref p, rfl, .strm⟩
      | i + 2, h =>
        have h : (List.replicate N (none : Option Ent))[i]? = some (some e) := h
        rw [List.getElem?_replicate] at h
        split at h <;> cases h
  · rw [r.bl_inv]
    exact hE H2
end L2.Ev
namespace L2.Ev
open PySem PySem.Spec PyProof.Rows

/-- how many turns a while may take: never reckoned -/
def fuel : Nat := 2 ^ 200
/-- a bound of draws by the level of a def -/
def kb : Nat → Nat
  | 0 => 1
  | n + 1 => 2 ^ 250 * kb n
theorem kb_pos : ∀ n, 1 ≤ kb n
  | 0 => Nat.le_refl _
  | n + 1 => Nat.le_trans (kb_pos n) (Nat.le_mul_of_pos_left _ (Nat.two_pow_pos 250))
theorem kb_mono (a : Nat) : ∀ n, kb a ≤ kb (a + n)
  | 0 => Nat.le_refl _
  | n + 1 => Nat.le_trans (kb_mono a n) (Nat.le_mul_of_pos_left _ (Nat.two_pow_pos 250))
theorem kb_eq : ∀ n, kb n = 2 ^ (250 * n)
  | 0 => rfl
  | n + 1 => by
    show 2 ^ 250 * kb n = 2 ^ (250 * (n + 1))
    rw [kb_eq n, ← Nat.pow_add]
    congr 1
    omega
theorem kb_lim {n : Nat} (h : n ≤ 3000) : kb n + 1 ≤ LIM := by
  rw [kb_eq]
  unfold LIM
  exact Nat.pow_lt_pow_right (by omega) (by omega)
section
variable {X : Cx} {e a b c : Expr} {ga gb gc : ME} {k ka kb kc ki ke : Nat} {pos p spos : Pos} {gs : M (List D)}
/-- name = [.. for ..] -/
theorem pus_setLc {elt tg iter : Expr} {ifs : List Expr} {scope : Scope} {own : List (Str × Nat)} {ts : List Nat} {f : D → En → Option En} {gi : M (List D)} {cond : M Bool} {ge : ME} {i : Nat} {y : Str} {py : Pos} (L : PuLc X elt tg iter ifs scope own ts f gi cond ge ki kc ke)
    (hy : X.N[i]? = some y := by rfl) (hyl : X.env.scope.names.lookup y = some .local := by rfl) (hsw : swapsWith (.ListComp elt [⟨tg, iter, ifs, 0⟩] scope pos) (some (.Name y py)) spos.line X.env = pure true := by exact sw_true rfl rfl rfl (by decide +kernel)) :
    PuS X (.Assign [.Name y py] (.ListComp elt [⟨tg, iter, ifs, 0⟩] scope pos) spos) (mSetF i (mComp (own.map (·.2)) f gi cond ge)) (ki + sizeLine * (kc + ke)) := by
  refine ⟨cst_bind (l := 0) (cst_comp L.hi.cst L.hcc L.hce) fun _ => cst_nx, fun C hK hn => ps_imp (ps_setLc L.hc L.hN hy hyl hsw (L.hi.run C hK hn) L.ok (fun s H c cl fp => (L.hg s H c cl fp).run C hK hn) (fun s H c cl fp => (L.ht s H c cl fp).run C hK hn) (fun s H c cl fp => (L.he s H c cl fp).run C hK hn) L.hs) fun E σ H ⟨ρ, S, B, O, R, o, S', eg, lim, q⟩ => lc_imp L hK hn ?_⟩
  have hlt : i < C.n := by rw [hn]; exact (List.getElem?_eq_some_iff.mp hy).1
  obtain ⟨ds, S1, e1, eg⟩ := mBind_some eg
  cases eg
  exact ⟨ρ, S, B, O, R, ds, S', e1, lim, fun a vs B' H' t n nb e r => q _ H' B' _ (own_of R t hlt n nb e r)⟩
theorem pus_setLcS {elt tg iter : Expr} {ifs : List Expr} {scope : Scope} {own : List (Str × Nat)} {ts : List Nat} {f : D → En → Option En} {gi : M (List D)} {cond : M Bool} {ge : ME} {i : Nat} {y : Str} {py : Pos} (L : PuLc X elt tg iter ifs scope own ts f gi cond ge ki kc ke)
    (hy : X.N[i]? = some y := by rfl) (hyl : X.env.scope.names.lookup y = some .local := by rfl) (hsw : swapsWith (.ListComp elt [⟨tg, iter, ifs, 0⟩] scope pos) (some (.Name y py)) spos.line X.env = pure true := by exact sw_true rfl rfl rfl (by decide +kernel)) :
    PuS X (.Assign [.Name y py] (.ListComp elt [⟨tg, iter, ifs, 0⟩] scope pos) spos) (mSet i (mLst (mComp (own.map (·.2)) f gi cond ge))) (ki + sizeLine * (kc + ke)) := by
  refine ⟨c_set (c_lst (cst_comp L.hi.cst L.hcc L.hce)), fun C hK hn => ps_imp (ps_setLc L.hc L.hN hy hyl hsw (L.hi.run C hK hn) L.ok (fun s H c cl fp => (L.hg s H c cl fp).run C hK hn) (fun s H c cl fp => (L.ht s H c cl fp).run C hK hn) (fun s H c cl fp => (L.he s H c cl fp).run C hK hn) L.hs) fun E σ H ⟨ρ, S, B, O, R, o, S', eg, lim, q⟩ => lc_imp L hK hn ?_⟩
  have hlt : i < C.n := by rw [hn]; exact (List.getElem?_eq_some_iff.mp hy).1
  obtain ⟨d, S1, e1, eg⟩ := mBind_some eg
  cases eg
  obtain ⟨ds, S2, e2, eg⟩ := mBind_some e1
  obtain ⟨ef, rfl⟩ := mPure_some eg
  cases ef
  refine ⟨ρ, S, B, O, R, ds, S', e2, lim, fun a vs B' H' t nH nB eH r1 => ?_⟩
  have hp : a ≠ C.p := fun z => by rw [z, R.wd.st.hp] at nH; cases nH
  have hq : a ≠ C.q := fun z => by rw [z, R.wd.st.hq] at nH; cases nH
  exact q _ H' _ O ((R.step (t.know eH nH hp hq nB)).set hlt (.lst upd_same (r1.mono fun b u e' => by rw [upd_ne (ne_of_none e' nB)]; exact e')))
/-- a, b, c = x, y, z -/
def mPar3 (i j l : Nat) (g : M (List D)) : MS := mBind g fun ds => fun ρ S => match ds with
  | [d, d', d''] => some (.nx (((ρ.set i (some (.sh d))).set j (some (.sh d'))).set l (some (.sh d''))), S)
  | _ => none
theorem c_par3 {i j l : Nat} (h : Cst k gs) : Cst k (mPar3 i j l gs) := cst_bind (k := k) (l := 0) h fun ds => fun ρ S o S' e => by
  split at e
  · cases e; omega
  · cases e
theorem RpAll.inv3 {K : PySem.W.Frag} {pp : Addr} {B : Hp} {vs : List V} {d g h : D} (r : RpAll K pp B vs [d, g, h]) : ∃ v u w, vs = [v, u, w] ∧ Rp K pp B v d ∧ Rp K pp B u g ∧ Rp K pp B w h := by
  cases r with
  | cons h1 r => obtain ⟨u, w, rfl, h2, h3⟩ := r.inv2; exact ⟨_, _, _, rfl, h1, h2, h3⟩
theorem pus_par3 {i j l : Nat} {x y z : Str} {px py pz pt : Pos} {kt k2 pt2} (hc : X.calm = true) (hN : X.N.Nodup) (ha : PuA X [a, b, c] gs k) (hij : i ≠ j := by decide) (hil : i ≠ l := by decide) (hjl : j ≠ l := by decide) (hi : X.N[i]? = some x := by rfl) (hj : X.N[j]? = some y := by rfl) (hl : X.N[l]? = some z := by rfl)
    (hx : X.env.scope.names.lookup x = some .local := by rfl) (hy : X.env.scope.names.lookup y = some .local := by rfl) (hz : X.env.scope.names.lookup z = some .local := by rfl)
    (hw : swappedStores [.Tuple [.Name x px, .Name y py, .Name z pz] kt pt] (.Tuple [a, b, c] k2 pt2) X.env = pure (some [x, y, z]) := by rfl)
    (hs : swapsWithSole [.Tuple [.Name x px, .Name y py, .Name z pz] kt pt] (.Tuple [a, b, c] k2 pt2) pos.line X.env = pure false := by rfl) :
    PuS X (.Assign [.Tuple [.Name x px, .Name y py, .Name z pz] kt pt] (.Tuple [a, b, c] k2 pt2) pos) (mPar3 i j l gs) k := by
  refine ⟨c_par3 ha.cst, fun C hK hn => ps_imp (ps_par3 hc hN hi hj hl hij hil hjl hx hy hz (ha.run C hK hn) hw hs) fun E σ H ⟨ρ, S, B, O, R, o, S', eg, lim, q⟩ => ?_⟩
  have hl1 : i < C.n := by rw [hn]; exact (List.getElem?_eq_some_iff.mp hi).1
  have hl2 : j < C.n := by rw [hn]; exact (List.getElem?_eq_some_iff.mp hj).1
  have hl3 : l < C.n := by rw [hn]; exact (List.getElem?_eq_some_iff.mp hl).1
  obtain ⟨ds, S1, e1, eg⟩ := mBind_some eg
  split at eg
  · cases eg
    refine ⟨ρ, S, B, O, R, _, S', e1, lim, fun vs B' H' t r => ?_⟩
    obtain ⟨v, u, w, rfl, r1, r2, r3⟩ := r.inv3
    exact ⟨v, u, w, rfl, q _ H' B' O ((((R.step t).set hl1 r1).set hl2 r2).set hl3 r3)⟩
  · cases eg
end
/-- a statement, what holds behind it, the rest -/
def tMid (t u : TS) : TS := fun E σ H => ∃ Mid : St → Hp → Prop, t { E with nx := Mid } σ H ∧ ∀ σ' H', Mid σ' H' → u E σ' H'
theorem pss_mid {X : Cx} {st : Stmt} {rest : List Stmt} {t u : TS} (h1 : PS X st t) (h2 : PSs X rest u) : PSs X (st :: rest) (tMid t u) := by
  refine ⟨fun pins s σ H E I ⟨Mid, ha, hb⟩ => ?_⟩
  refine wpAny_execs_cons (thn (h1.run pins s σ H { E with nx := Mid } I ha) fun f s1 q => ?_)
  cases f with
  | next =>
    obtain ⟨σ', H', I', q⟩ := q
    exact h2.run pins s1 σ' H' E I' (hb σ' H' q)
  | ret v => exact q
  | brk => exact q
  | cont => exact q
/-- at depth nought nothing is said -/
theorem never_ok {P : Program} {w : World} {K : PySem.W.Frag} {mg : Str → Option Value} {base : Heap} {x qual : Str} {st : Stmt} {f : Addr} {fd : FuncData} {N ps : List Str} (n : Nat) (F : Fun K x qual st f fd) (Sc : FnScope N ps (defScope st)) (hps : ps.length ≤ N.length) :
    FnOk P w K mg base CX0 (n + 1) f fd ps (spPu K ps.length fun _ _ => none) :=
  ⟨fun vs H Q E ⟨_, _, _, _, _, _, _, _, _, _, e, _⟩ => (by cases e), fun A outer s H args us vs Q E hr e0 hb hv ⟨_, _, _, _, _, _, _, _, _, _, e, _⟩ => by cases e⟩
end L2.Ev
namespace L2.Ev
open PySem PySem.Spec PyProof.Rows
section
/-! evaluation of the plain readings, step by step: each rule speaks of a reading at a frame and a stream -/
variable {α β : Type} (ρ : En) (S : Strm)
theorem x_seq (a b : MS) : mSeq a b ρ S = (a ρ S).bind fun x => mThen b x.1 ρ x.2 := Eq.trans rfl rfl
theorem x_nx (b : MS) (ρ' : En) : mThen b (.nx ρ') ρ S = b ρ' S := Eq.trans rfl rfl
theorem x_rt (b : MS) (d : D) : mThen b (.rt d) ρ S = some (.rt d, S) := Eq.trans rfl rfl
theorem x_bk (b : MS) (ρ' : En) : mThen b (.bk ρ') ρ S = some (.bk ρ', S) := Eq.trans rfl rfl
theorem x_ct (b : MS) (ρ' : En) : mThen b (.ct ρ') ρ S = some (.ct ρ', S) := Eq.trans rfl rfl
theorem x_bind (a : M α) (f : α → M β) : mBind a f ρ S = (a ρ S).bind fun x => f x.1 ρ x.2 := Eq.trans rfl rfl
theorem x_pure (o : Option α) : mPure o ρ S = o.map fun a => (a, S) := Eq.trans rfl rfl
theorem x_c (d : D) : mC d ρ S = some (d, S) := Eq.trans rfl rfl
theorem x_nil : mNil ρ S = some ([], S) := Eq.trans rfl rfl
theorem x_cons (g : ME) (h : M (List D)) : mCons g h ρ S = (g ρ S).bind fun x => (h ρ x.2).bind fun y => some (x.1 :: y.1, y.2) := Eq.trans rfl rfl
theorem x_tup (g : M (List D)) : mTup g ρ S = (g ρ S).bind fun x => some (.tup x.1, x.2) := Eq.trans rfl rfl
theorem x_lst (g : M (List D)) : mLst g ρ S = (g ρ S).bind fun x => some (.lst x.1, x.2) := Eq.trans rfl rfl
theorem x_op2 (f : D → D → Option D) (a b : ME) : mOp2 f a b ρ S = (a ρ S).bind fun x => (b ρ x.2).bind fun y => (f x.1 y.1).map fun d => (d, y.2) := Eq.trans rfl rfl
theorem x_op1 (f : D → Option D) (a : ME) : mOp1 f a ρ S = (a ρ S).bind fun x => (f x.1).map fun d => (d, x.2) := Eq.trans rfl rfl
theorem x_tru (g : ME) : mTru g ρ S = (g ρ S).bind fun x => (dTru x.1).map fun d => (d, x.2) := Eq.trans rfl rfl
theorem x_notT (g : M Bool) : mNotT g ρ S = (g ρ S).bind fun x => some (!x.1, x.2) := Eq.trans rfl rfl
theorem x_ite (c : M Bool) (g h : M α) : mIte c g h ρ S = (c ρ S).bind fun x => if x.1 = true then g ρ x.2 else h ρ x.2 := by
  unfold mIte mBind; cases c ρ S with
  | none => rfl
  | some x => simp only [Option.bind_some]; split <;> rfl
theorem x_ifS (c : M Bool) (g h : MS) : mIfS c g h ρ S = (c ρ S).bind fun x => if x.1 = true then g ρ x.2 else h ρ x.2 := x_ite ρ S c g h
theorem x_andT (c g : M Bool) : mAndT c g ρ S = (c ρ S).bind fun x => if x.1 = true then g ρ x.2 else some (false, x.2) := by
  unfold mAndT mBind; cases c ρ S with
  | none => rfl
  | some x => simp only [Option.bind_some]; split <;> rfl
theorem x_orT (c g : M Bool) : mOrT c g ρ S = (c ρ S).bind fun x => if x.1 = true then some (true, x.2) else g ρ x.2 := by
  unfold mOrT mBind; cases c ρ S with
  | none => rfl
  | some x => simp only [Option.bind_some]; split <;> rfl
theorem x_and (a g : ME) : mAnd a g ρ S = (a ρ S).bind fun x => (dTru x.1).bind fun b => if b = true then g ρ x.2 else some (.bl false, x.2) := by
  unfold mAnd mBind mTru; unfold mBind mPure; cases a ρ S with
  | none => rfl
  | some x =>
    simp only [Option.bind_some]
    cases dTru x.1 with
    | none => rfl
    | some b => cases b <;> rfl
theorem x_or (a g : ME) : mOr a g ρ S = (a ρ S).bind fun x => (dTru x.1).bind fun b => if b = true then some (.bl true, x.2) else g ρ x.2 := by
  unfold mOr mBind mTru; unfold mBind mPure; cases a ρ S with
  | none => rfl
  | some x =>
    simp only [Option.bind_some]
    cases dTru x.1 with
    | none => rfl
    | some b => cases b <;> rfl
theorem x_chain (f f' : D → D → Option D) (a b c : ME) : mChain f f' a b c ρ S = (a ρ S).bind fun x => (b ρ x.2).bind fun y => ((f x.1 y.1).bind dTru).bind fun k => if k = true then (c ρ y.2).bind fun z => (f' y.1 z.1).map fun d => (d, z.2) else some (.bl false, y.2) := by
  unfold mChain mBind; cases a ρ S with
  | none => rfl
  | some x =>
    simp only [Option.bind_some]
    cases b ρ x.2 with
    | none => rfl
    | some y =>
      simp only [Option.bind_some, mPure]
      cases (f x.1 y.1).bind dTru with
      | none => rfl
      | some k => cases k <;> rfl
theorem x_bi (f : List D → Option D) (g : M (List D)) : mBi f g ρ S = (g ρ S).bind fun x => (f x.1).map fun d => (d, x.2) := Eq.trans rfl rfl
theorem x_biF (f : List D → Option (List D)) (g : M (List D)) : mBiF f g ρ S = (g ρ S).bind fun x => (f x.1).map fun d => (d, x.2) := Eq.trans rfl rfl
theorem x_call (F : FN) (g : M (List D)) : mCall F g ρ S = (g ρ S).bind fun x => F x.1 x.2 := Eq.trans rfl rfl
theorem x_perm (p : List Nat) (g : M (List D)) : mPerm p g ρ S = (g ρ S).bind fun x => some (p.map fun i => x.1.getD i .non, x.2) := Eq.trans rfl rfl
theorem x_it (g : ME) : mIt g ρ S = (g ρ S).bind fun x => (dItems x.1).map fun d => (d, x.2) := Eq.trans rfl rfl
theorem x_ret (g : ME) : mRet g ρ S = (g ρ S).bind fun x => some (.rt x.1, x.2) := Eq.trans rfl rfl
theorem x_drop (g : ME) : mDrop g ρ S = (g ρ S).bind fun x => some (.nx ρ, x.2) := Eq.trans rfl rfl
theorem x_next : mNext ρ S = some (.nx ρ, S) := Eq.trans rfl rfl
theorem x_set (i : Nat) (g : ME) : mSet i g ρ S = (g ρ S).bind fun x => some (.nx (ρ.set i (some (.sh x.1))), x.2) := Eq.trans rfl rfl
theorem x_setF (i : Nat) (g : M (List D)) : mSetF i g ρ S = (g ρ S).bind fun x => some (.nx (ρ.set i (some (.ol x.1))), x.2) := Eq.trans rfl rfl
theorem x_asg (f : D → En → Option En) (g : ME) : mAsg f g ρ S = (g ρ S).bind fun x => (f x.1 ρ).map fun ρ' => (.nx ρ', x.2) := Eq.trans rfl rfl
theorem x_aug (i : Nat) (f : D → D → Option D) (g : ME) : mAug i f g ρ S = (mOp2 f (mVar i) g ρ S).bind fun x => some (.nx (ρ.set i (some (.sh x.1))), x.2) := Eq.trans rfl rfl
theorem x_for (f : D → En → Option En) (gi : M (List D)) (body : MS) : mFor f gi body ρ S = (gi ρ S).bind fun x => if x.1.length ≤ sizeLine then forL f body x.1 ρ x.2 else none := Eq.trans rfl rfl
theorem x_comp (vs : List Nat) (f : D → En → Option En) (gi : M (List D)) (cond : M Bool) (elt : ME) : mComp vs f gi cond elt ρ S = (gi ρ S).bind fun x => if x.1.length ≤ sizeLine then compL f cond elt (wipeE ρ vs) x.1 x.2 else none := Eq.trans rfl rfl
theorem x_cat (a b : ME) : mCat a b ρ S = (a ρ S).bind fun x => (b ρ x.2).bind fun y => (match x.1, y.1 with
  | .lst xs, .lst ys => if xs.length + ys.length ≤ sizeLine then some (xs ++ ys) else none
  | _, _ => none).map fun d => (d, y.2) := Eq.trans rfl rfl
theorem x_dSub (i j : Int) : dSub (.int i) (.int j) = some (.int (i - j)) := Eq.trans rfl rfl
theorem x_dAdd (i j : Int) : dAdd (.int i) (.int j) = some (.int (i + j)) := Eq.trans rfl rfl
theorem x_dAddI (i j : Int) : dAddI (.int i) (.int j) = some (.int (i + j)) := Eq.trans rfl rfl
theorem x_dMul {i j : Int} (h : i.natAbs.log2 + j.natAbs.log2 < 1000000) : dMul (.int i) (.int j) = some (.int (i * j)) := if_pos h
theorem x_dDiv {i j : Int} (h : 0 < j ∧ j.natAbs.log2 < 9000) : dDiv (.int i) (.int j) = some (.int (i / j)) := if_pos h
theorem x_dMod {i j : Int} (h : 0 < j) : dMod (.int i) (.int j) = some (.int (i % j)) := if_pos h
theorem x_dLt (i j : Int) : dLt (.int i) (.int j) = some (.bl (decide (i < j))) := Eq.trans rfl rfl
theorem x_dLe (i j : Int) : dLe (.int i) (.int j) = some (.bl (decide (i ≤ j))) := Eq.trans rfl rfl
theorem x_dGt (i j : Int) : dGt (.int i) (.int j) = some (.bl (decide (j < i))) := Eq.trans rfl rfl
theorem x_dGe (i j : Int) : dGe (.int i) (.int j) = some (.bl (decide (j ≤ i))) := Eq.trans rfl rfl
theorem x_dNeg (i : Int) : dNeg (.int i) = some (.int (-i)) := Eq.trans rfl rfl
theorem x_dNot (b : Bool) : dNot (.bl b) = some (.bl (!b)) := Eq.trans rfl rfl
theorem x_dTru (b : Bool) : dTru (.bl b) = some b := Eq.trans rfl rfl
theorem x_draw {m : Int} (h : 0 < m ∧ m.natAbs.log2 < 9000) : F_draw [.strm, .int m] S = some (.int (drawF S m).1, (drawF S m).2) := if_pos h
theorem x_draw_at {m : Int} (h : 0 < m ∧ m.natAbs.log2 < 9000) : ∃ n : Int, ∃ S', (0 ≤ n ∧ n < m) ∧ F_draw [.strm, .int m] S = some (.int n, S') := ⟨_, _, drawF_lt S h.1, x_draw S h⟩
theorem x_def (n : Nat) (m : MS) (ds : List D) : mDef n m ds S = (m (startE n ds) S).bind fun r => match r.1 with
  | .rt d => some (d, r.2)
  | .nx _ => some (.non, r.2)
  | _ => none := Eq.trans rfl rfl
theorem x_def_rt {n : Nat} {m : MS} {ds : List D} {d : D} {S S' : Strm} (h : m (startE n ds) S = some (.rt d, S')) : mDef n m ds S = some (d, S') := by unfold mDef; rw [h]; rfl
theorem x_def_nx {n : Nat} {m : MS} {ds : List D} {ρ : En} {S S' : Strm} (h : m (startE n ds) S = some (.nx ρ, S')) : mDef n m ds S = some (.non, S') := by unfold mDef; rw [h]; rfl
theorem x_var0 (e : D) (r : En) : mVar 0 (some (.sh e) :: r) S = some (e, S) := Eq.trans rfl rfl
theorem x_varS (i : Nat) (e : Option Ent) (r : En) : mVar (i + 1) (e :: r) S = mVar i r S := Eq.trans rfl rfl

theorem forL_nil (f : D → En → Option En) (body : MS) : forL f body [] ρ S = some (.nx ρ, S) := rfl
/-- a loop whose body always comes to its end, with an invariant of frame and stream by the number of turns -/
theorem forL_inv {f : D → En → Option En} {body : MS} (I : En → Strm → Prop) (Pr : D → Prop)
    (h : ∀ d ρ S, Pr d → I ρ S → ∃ ρ1, f d ρ = some ρ1 ∧ ∃ ρ' S', body ρ1 S = some (.nx ρ', S') ∧ I ρ' S') :
    ∀ (ds : List D) (ρ : En) (S : Strm), (∀ d ∈ ds, Pr d) → I ρ S → ∃ ρ' S', forL f body ds ρ S = some (.nx ρ', S') ∧ I ρ' S'
  | [], ρ, S, _, hi => ⟨ρ, S, rfl, hi⟩
  | d :: ds, ρ, S, hp, hi => by
    obtain ⟨ρ1, h1, ρ', S', h2, h3⟩ := h d ρ S (hp d (.head _)) hi
    obtain ⟨ρ2, S2, h4, h5⟩ := forL_inv I Pr h ds ρ' S' (fun d hd => hp d (.tail _ hd)) h3
    refine ⟨ρ2, S2, ?_, h5⟩
    show ((f d ρ).bind fun ρ1 => (body ρ1 S).bind (afterTurn (forL f body ds))) = _
    rw [h1]
    show ((body ρ1 S).bind (afterTurn (forL f body ds))) = _
    rw [h2]
    exact h4
/-- a comprehension that draws nothing: filter and map -/
theorem compL_pure {f : D → En → Option En} {cond : M Bool} {elt : ME} {ρ : En} (b : D → Bool) (g : D → D) (Pr : D → Prop)
    (h : ∀ d S, Pr d → ∃ ρ1, f d ρ = some ρ1 ∧ cond ρ1 S = some (b d, S) ∧ (b d = true → elt ρ1 S = some (g d, S))) :
    ∀ (ds : List D) (S : Strm), (∀ d ∈ ds, Pr d) → compL f cond elt ρ ds S = some ((ds.filter b).map g, S)
  | [], S, _ => rfl
  | d :: ds, S, hp => by
    obtain ⟨ρ1, h1, h2, h3⟩ := h d S (hp d (.head _))
    have ih := compL_pure b g Pr h ds S (fun d hd => hp d (.tail _ hd))
    simp only [compL, h1, h2, Option.bind_some]
    cases hb : b d
    · simp only [hb, List.filter_cons, Bool.false_eq_true, if_false]
      exact ih
    · simp only [hb, List.filter_cons, if_true, h3 hb, Option.bind_some, ih, Option.map_some, List.map_cons]
theorem log2_lt {n : Nat} {k : Nat} (h : n < 2 ^ k) (hk : 0 < k) : n.log2 < k := by
  by_cases h0 : n = 0
  · subst h0; simpa using hk
  · exact (Nat.log2_lt h0).2 h
theorem natAbs_lt {i : Int} {b : Nat} (h1 : -(b : Int) < i) (h2 : i < b) : i.natAbs < b := by omega
theorem dMul_ok {i j : Int} (hi : i.natAbs < 2 ^ 4000) (hj : j.natAbs < 2 ^ 4000) : dMul (.int i) (.int j) = some (.int (i * j)) :=
  x_dMul (by have := log2_lt hi (by decide); have := log2_lt hj (by decide); omega)
theorem dDiv_ok {i j : Int} (h : 0 < j) (hj : j.natAbs < 2 ^ 4000) : dDiv (.int i) (.int j) = some (.int (i / j)) :=
  x_dDiv ⟨h, by have := log2_lt hj (by decide); omega⟩
theorem x_for_nil (f : D → En → Option En) (body : MS) (ρ : En) (S : Strm) : forL f body [] ρ S = some (.nx ρ, S) := Eq.trans rfl rfl
theorem x_for_cons (f : D → En → Option En) (body : MS) (d : D) (ds : List D) (ρ : En) (S : Strm) : forL f body (d :: ds) ρ S = (f d ρ).bind fun ρ1 => (body ρ1 S).bind (afterTurn (forL f body ds)) := Eq.trans rfl rfl
theorem x_turn_nx (g : En → Strm → Option (Out × Strm)) (ρ : En) (S : Strm) : afterTurn g (.nx ρ, S) = g ρ S := Eq.trans rfl rfl
theorem x_turn_ct (g : En → Strm → Option (Out × Strm)) (ρ : En) (S : Strm) : afterTurn g (.ct ρ, S) = g ρ S := Eq.trans rfl rfl
theorem x_turn_bk (g : En → Strm → Option (Out × Strm)) (ρ : En) (S : Strm) : afterTurn g (.bk ρ, S) = some (.nx ρ, S) := Eq.trans rfl rfl
theorem x_turn_rt (g : En → Strm → Option (Out × Strm)) (d : D) (S : Strm) : afterTurn g (.rt d, S) = some (.rt d, S) := Eq.trans rfl rfl
theorem x_comp_nil (f : D → En → Option En) (cond : M Bool) (elt : ME) (ρ : En) (S : Strm) : compL f cond elt ρ [] S = some ([], S) := Eq.trans rfl rfl
theorem x_comp_cons (f : D → En → Option En) (cond : M Bool) (elt : ME) (ρ : En) (d : D) (ds : List D) (S : Strm) : compL f cond elt ρ (d :: ds) S = (f d ρ).bind fun ρ1 => (cond ρ1 S).bind fun b => if b.1 = true then (elt ρ1 b.2).bind fun x => (compL f cond elt ρ ds x.2).map fun r => (x.1 :: r.1, r.2) else compL f cond elt ρ ds b.2 := Eq.trans rfl rfl
theorem len2_ok {α : Type} (a b : α) : [a, b].length ≤ sizeLine := by simp [sizeLine]
theorem len4_ok {α : Type} (a b c d : α) : [a, b, c, d].length ≤ sizeLine := by simp [sizeLine]
theorem szl0 : (0 ≤ sizeLine) = True := by simp [sizeLine]
theorem szl1 : (1 ≤ sizeLine) = True := by simp [sizeLine]
theorem szl2 : (2 ≤ sizeLine) = True := by simp [sizeLine]
theorem szl3 : (3 ≤ sizeLine) = True := by simp [sizeLine]
theorem szl4 : (4 ≤ sizeLine) = True := by simp [sizeLine]
theorem szl5 : (5 ≤ sizeLine) = True := by simp [sizeLine]
theorem szl6 : (6 ≤ sizeLine) = True := by simp [sizeLine]
theorem szl7 : (7 ≤ sizeLine) = True := by simp [sizeLine]
theorem szl8 : (8 ≤ sizeLine) = True := by simp [sizeLine]
theorem szl9 : (9 ≤ sizeLine) = True := by simp [sizeLine]
theorem szl10 : (10 ≤ sizeLine) = True := by simp [sizeLine]
theorem sz2 : (0 + 1 + 1 ≤ sizeLine) = True := by simp [sizeLine]
theorem sz4 : (0 + 1 + 1 + 1 + 1 ≤ sizeLine) = True := by simp [sizeLine]
theorem i_lt_int (i : Int) : dIsI [Ty.list, Ty.tuple] (.int i) = some (.bl false) := Eq.trans rfl rfl
theorem i_lt_bl (i : Bool) : dIsI [Ty.list, Ty.tuple] (.bl i) = some (.bl false) := Eq.trans rfl rfl
theorem i_lt_non : dIsI [Ty.list, Ty.tuple] .non = some (.bl false) := Eq.trans rfl rfl
theorem i_lt_lst (ds : List D) : dIsI [Ty.list, Ty.tuple] (.lst ds) = some (.bl true) := Eq.trans rfl rfl
theorem i_lt_tup (ds : List D) : dIsI [Ty.list, Ty.tuple] (.tup ds) = some (.bl true) := Eq.trans rfl rfl
theorem i_i_int (i : Int) : dIsI [Ty.int] (.int i) = some (.bl true) := Eq.trans rfl rfl
theorem i_i_bl (i : Bool) : dIsI [Ty.int] (.bl i) = some (.bl true) := Eq.trans rfl rfl
theorem i_b_int (i : Int) : dIsI [Ty.bool] (.int i) = some (.bl false) := Eq.trans rfl rfl
theorem i_b_bl (i : Bool) : dIsI [Ty.bool] (.bl i) = some (.bl true) := Eq.trans rfl rfl
theorem i_b_non : dIsI [Ty.bool] .non = some (.bl false) := Eq.trans rfl rfl
theorem i_b_lst (ds : List D) : dIsI [Ty.bool] (.lst ds) = some (.bl false) := Eq.trans rfl rfl
theorem i_b_tup (ds : List D) : dIsI [Ty.bool] (.tup ds) = some (.bl false) := Eq.trans rfl rfl
theorem i_l_int (i : Int) : dIsI [Ty.list] (.int i) = some (.bl false) := Eq.trans rfl rfl
theorem i_l_bl (i : Bool) : dIsI [Ty.list] (.bl i) = some (.bl false) := Eq.trans rfl rfl
theorem i_l_non : dIsI [Ty.list] .non = some (.bl false) := Eq.trans rfl rfl
theorem i_l_lst (ds : List D) : dIsI [Ty.list] (.lst ds) = some (.bl true) := Eq.trans rfl rfl
theorem i_l_tup (ds : List D) : dIsI [Ty.list] (.tup ds) = some (.bl false) := Eq.trans rfl rfl
theorem i_t_int (i : Int) : dIsI [Ty.tuple] (.int i) = some (.bl false) := Eq.trans rfl rfl
theorem i_t_lst (ds : List D) : dIsI [Ty.tuple] (.lst ds) = some (.bl false) := Eq.trans rfl rfl
theorem i_t_tup (ds : List D) : dIsI [Ty.tuple] (.tup ds) = some (.bl true) := Eq.trans rfl rfl
theorem i_d_int (i : Int) : dIsI [Ty.dict] (.int i) = some (.bl false) := Eq.trans rfl rfl
theorem i_d_bl (i : Bool) : dIsI [Ty.dict] (.bl i) = some (.bl false) := Eq.trans rfl rfl
theorem i_d_non : dIsI [Ty.dict] .non = some (.bl false) := Eq.trans rfl rfl
theorem i_d_lst (ds : List D) : dIsI [Ty.dict] (.lst ds) = some (.bl false) := Eq.trans rfl rfl
theorem i_d_tup (ds : List D) : dIsI [Ty.dict] (.tup ds) = some (.bl false) := Eq.trans rfl rfl
theorem i_ltd_int (i : Int) : dIsI [Ty.list, Ty.tuple, Ty.dict] (.int i) = some (.bl false) := Eq.trans rfl rfl
theorem i_ltd_bl (i : Bool) : dIsI [Ty.list, Ty.tuple, Ty.dict] (.bl i) = some (.bl false) := Eq.trans rfl rfl
theorem i_ltd_non : dIsI [Ty.list, Ty.tuple, Ty.dict] .non = some (.bl false) := Eq.trans rfl rfl
theorem l_lst (ds : List D) : dLen [.lst ds] = some (.int ds.length) := Eq.trans rfl rfl
theorem l_tup (ds : List D) : dLen [.tup ds] = some (.int ds.length) := Eq.trans rfl rfl
theorem t_lst (ds : List D) : dTuple [.lst ds] = some (.tup ds) := Eq.trans rfl rfl
theorem t_tup (ds : List D) : dTuple [.tup ds] = some (.tup ds) := Eq.trans rfl rfl
theorem a_lst (ds : List D) : dAll [.lst ds] = (dBools ds).map fun bs => .bl (bs.all id) := Eq.trans rfl rfl
theorem b_nil : dBools [] = some [] := Eq.trans rfl rfl
theorem b_cons (b : Bool) (r : List D) : dBools (.bl b :: r) = (dBools r).map (b :: ·) := Eq.trans rfl rfl
theorem cut_lst (lo hi : Option Int) (ds : List D) : dCut lo hi (.lst ds) = some (.lst (cutD ds lo hi)) := Eq.trans rfl rfl
theorem cut_tup (lo hi : Option Int) (ds : List D) : dCut lo hi (.tup ds) = some (.tup (cutD ds lo hi)) := Eq.trans rfl rfl
theorem at_int (ds : List D) (i : Int) : atD ds (.int i) = atI ds i := Eq.trans rfl rfl
theorem at0 (a : D) (l : List D) : atI (a :: l) 0 = some a := by simp [atI, ixN]
theorem at1 (a b : D) (l : List D) : atI (a :: b :: l) 1 = some b := by
  unfold atI ixN; rw [if_pos (by decide), if_pos (by simp only [List.length_cons]; omega)]; rfl
theorem at2 (a b c : D) (l : List D) : atI (a :: b :: c :: l) 2 = some c := by
  unfold atI ixN; rw [if_pos (by decide), if_pos (by simp only [List.length_cons]; omega)]; rfl
theorem at3 (a b c d : D) (l : List D) : atI (a :: b :: c :: d :: l) 3 = some d := by
  unfold atI ixN; rw [if_pos (by decide), if_pos (by simp only [List.length_cons]; omega)]; rfl
theorem cut2 (a b c d : D) : cutD [a, b, c, d] (some 2) none = [c, d] := rfl
theorem atN {ds : List D} {i : Nat} {d : D} (h : ds[i]? = some d) : atI ds (i : Int) = some d := by
  have hi : i < ds.length := by
    by_cases hi : i < ds.length
    · exact hi
    · rw [List.getElem?_eq_none (by omega)] at h; cases h
  unfold atI ixN; rw [if_pos (by omega), if_pos (by omega)]; simpa using h
theorem at_last (ds : List D) (d : D) : atI (ds ++ [d]) (-1) = some d := by
  unfold atI ixN
  rw [if_neg (by decide), if_pos (by simp only [List.length_append, List.length_cons, List.length_nil]; omega)]
  have : (-1 + ((ds ++ [d]).length : Int)).toNat = ds.length := by simp only [List.length_append, List.length_cons, List.length_nil]; omega
  rw [this]
  simp
theorem div_le {i j : Int} (h : 0 < j) : (i / j).natAbs ≤ i.natAbs := by
  have := Int.natAbs_ediv_le_natAbs i j
  exact this
mutual
theorem eqv_rfl : ∀ d : D, d.okc = true → PyData.eqv d.py d.py = true
  | .non, _ => by simp [D.py, PyData.eqv]
  | .bl b, _ => by simp [D.py, PyData.eqv]
  | .int i, _ => by simp [D.py, PyData.eqv]
  | .str x, _ => by simp [D.py, PyData.eqv]
  | .lst ds, h => by simp only [D.py, PyData.eqv]; exact eqvAll_rfl ds (by simpa [D.okc] using h)
  | .tup ds, h => by simp only [D.py, PyData.eqv]; exact eqvAll_rfl ds (by simpa [D.okc] using h)
  | .dct _, h => by simp [D.okc] at h
  | .strm, h => by simp [D.okc] at h
theorem eqvAll_rfl : ∀ ds : List D, D.okcAll ds = true → PyData.eqvAll (D.pyAll ds) (D.pyAll ds) = true
  | [], _ => by simp [D.pyAll, PyData.eqvAll]
  | d :: ds, h => by
    simp only [D.okcAll, Bool.and_eq_true] at h
    simp only [D.pyAll, PyData.eqvAll, Bool.and_eq_true]
    exact ⟨eqv_rfl d h.1, eqvAll_rfl ds h.2⟩
end
theorem x_dEq_self {d : D} (h : d.fit = true) : dEq d d = some (.bl true) := by
  unfold dEq
  rw [if_pos (by simp [h])]
  unfold D.eqv
  rw [eqv_rfl d (okc_of h)]
theorem fit_int (i : Int) : (D.int i).fit = true := by simp [D.fit, D.okc, D.dep]
theorem fit_bl (i : Bool) : (D.bl i).fit = true := by simp [D.fit, D.okc, D.dep]
theorem fit_non : D.non.fit = true := by simp [D.fit, D.okc, D.dep]
theorem x_dEq (i j : Int) : dEq (.int i) (.int j) = some (.bl (decide (i = j))) := by
  unfold dEq
  rw [if_pos (by simp [fit_int])]
  simp only [D.eqv, D.py, PyData.eqv]
  by_cases h : i = j <;> simp [h]
theorem x_dNe (i j : Int) : dNe (.int i) (.int j) = some (.bl (!decide (i = j))) := by
  unfold dNe
  rw [if_pos (by simp [fit_int])]
  simp only [D.eqv, D.py, PyData.eqv]
  by_cases h : i = j <;> simp [h]
theorem x_dEqb (i j : Bool) : dEq (.bl i) (.bl j) = some (.bl (decide (i = j))) := by
  unfold dEq
  rw [if_pos (by simp [fit_bl])]
  cases i <;> cases j <;> rfl
theorem x_dNeb (i j : Bool) : dNe (.bl i) (.bl j) = some (.bl (!decide (i = j))) := by
  unfold dNe
  rw [if_pos (by simp [fit_bl])]
  cases i <;> cases j <;> rfl
theorem x_dEqn : dEq .non .non = some (.bl true) := x_dEq_self fit_non
theorem x_dEqs {x : Str} (h : PyData.strOk x = true) : dEq (.str x) (.str x) = some (.bl true) := x_dEq_self (by simp [D.fit, D.okc, D.dep, h])
/-- data that a comparing def goes through: no dicts, not deeper than told -/
def Plain : Nat → D → Prop
  | _, .non => True
  | _, .bl _ => True
  | _, .int _ => True
  | _, .str x => PyData.strOk x = true
  | n + 1, .lst ds => ds.length ≤ sizeLine ∧ ∀ d ∈ ds, Plain n d
  | n + 1, .tup ds => ds.length ≤ sizeLine ∧ ∀ d ∈ ds, Plain n d
  | _, _ => False
theorem zip_self : ∀ ds : List D, dZip ds ds = ds.map fun d => .tup [d, d]
  | [] => rfl
  | d :: ds => by
    have := zip_self ds
    unfold dZip at this ⊢
    rw [List.zipWith_cons_cons, this]; rfl
theorem bools_const : ∀ (b : Bool) (l : List D), dBools (l.map fun _ => .bl b) = some (l.map fun _ => b)
  | _, [] => rfl
  | b, d :: l => by
    have := bools_const b l
    simp only [List.map_cons, b_cons, this, Option.map_some]
theorem bools_map (g : D → Bool) : ∀ (l : List D), dBools (l.map fun d => .bl (g d)) = some (l.map g)
  | [] => rfl
  | d :: l => by
    have := bools_map g l
    simp only [List.map_cons, b_cons, this, Option.map_some]
theorem x_zip_l (g : M (List D)) (ρ : En) (S : Strm) {xs ys : List D} {S' : Strm} (h : g ρ S = some ([.lst xs, .lst ys], S')) : mZip g ρ S = some (dZip xs ys, S') := by unfold mZip mBind; rw [h]; rfl
theorem x_zip_t (g : M (List D)) (ρ : En) (S : Strm) {xs ys : List D} {S' : Strm} (h : g ρ S = some ([.tup xs, .tup ys], S')) : mZip g ρ S = some (dZip xs ys, S') := by unfold mZip mBind; rw [h]; rfl
theorem x_zip (g : M (List D)) (ρ : En) (S : Strm) : mZip g ρ S = (g ρ S).bind fun x => (match x.1 with
  | [.lst xs, .lst ys] => some (dZip xs ys)
  | [.tup xs, .tup ys] => some (dZip xs ys)
  | _ => none).map fun d => (d, x.2) := Eq.trans rfl rfl
theorem x_range1 (g : M (List D)) (ρ : En) (S : Strm) : mRange1 g ρ S = (g ρ S).bind fun x => (match x.1 with
  | [.int j] => if -(2 ^ 62) ≤ j ∧ j < 2 ^ 62 then some (dRange 0 j.toNat) else none
  | _ => none).map fun d => (d, x.2) := Eq.trans rfl rfl
theorem x_range2 (g : M (List D)) (ρ : En) (S : Strm) : mRange2 g ρ S = (g ρ S).bind fun x => (match x.1 with
  | [.int i, .int j] => if -(2 ^ 62) ≤ i ∧ i < 2 ^ 62 ∧ -(2 ^ 62) ≤ j ∧ j < 2 ^ 62 then some (dRange i (j - i).toNat) else none
  | _ => none).map fun d => (d, x.2) := Eq.trans rfl rfl
theorem x_extend (i : Nat) (g : ME) (ρ : En) (S : Strm) : mExtend i g ρ S = (g ρ S).bind fun x => match ρ[i]?, x.1 with
  | some (some (.ol ds)), .lst es => if ds.length + es.length ≤ sizeLine then some (.nx (ρ.set i (some (.ol (ds ++ es)))), x.2) else none
  | _, _ => none := Eq.trans rfl rfl
theorem x_append (i : Nat) (g : ME) (ρ : En) (S : Strm) : mAppend i g ρ S = (g ρ S).bind fun x => match ρ[i]? with
  | some (some (.ol ds)) => if ds.length < sizeLine then some (.nx (ρ.set i (some (.ol (ds ++ [x.1])))), x.2) else none
  | _ => none := Eq.trans rfl rfl
theorem x_borT (i : Nat) (g : M Bool) (ρ : En) (S : Strm) : mBorT i g ρ S = match ρ[i]? with
  | some (some (.ol ds)) => g (ρ.set i (some (.sh (.lst ds)))) S
  | _ => none := Eq.trans rfl rfl
theorem x_frz (i : Nat) (m : MS) (ρ : En) (S : Strm) : mFrz i m ρ S = match ρ[i]? with
  | some (some (.ol ds)) => m (ρ.set i (some (.sh (.lst ds)))) S
  | _ => none := Eq.trans rfl rfl
theorem x_idxO (i : Nat) (g : ME) (ρ : En) (S : Strm) : mIdxO i g ρ S = match ρ[i]? with
  | some (some (.ol ds)) => (g ρ S).bind fun x => (atD ds x.1).map fun d => (d, x.2)
  | _ => none := Eq.trans rfl rfl
theorem all_flat_int (ns : List Int) : (ns.map D.int).all D.flat = true := by
  rw [List.all_eq_true]; intro x hx; obtain ⟨n, _, rfl⟩ := List.mem_map.1 hx; rfl
theorem mem_int (n : Int) : ∀ ms : List Int, dMem (.int n) (ms.map .int) = decide (n ∈ ms)
  | [] => by simp [dMem]
  | m :: ms => by
    have := mem_int n ms
    simp only [dMem, List.map_cons, List.any_cons, D.eqf] at this ⊢
    rw [this]
    by_cases h : m = n
    · subst h; simp
    · have h' : ¬ n = m := fun e => h e.symm
      simp [h, h']
theorem x_notIn (n : Int) (ms : List Int) : dInG true (.int n) (.lst (ms.map .int)) = some (.bl (!decide (n ∈ ms))) := by
  unfold dInG
  simp only [dItems, Option.bind_some, all_flat_int, mem_int, D.flat, Bool.and_self, if_true]
theorem x_isIn (n : Int) (ms : List Int) : dInG false (.int n) (.lst (ms.map .int)) = some (.bl (decide (n ∈ ms))) := by
  unfold dInG
  simp only [dItems, Option.bind_some, all_flat_int, mem_int, D.flat, Bool.and_self, if_true, Bool.false_eq_true, if_false]
theorem rg_m1 : dRange (-1) 3 = [.int (-1), .int 0, .int 1] := rfl
theorem rg_m2 : dRange (-2) 5 = [.int (-2), .int (-1), .int 0, .int 1, .int 2] := rfl
theorem rg_2 : dRange 0 2 = [.int 0, .int 1] := rfl
theorem rg_3 : dRange 0 3 = [.int 0, .int 1, .int 2] := rfl
theorem rg_5 : dRange 0 5 = [.int 0, .int 1, .int 2, .int 3, .int 4] := rfl
theorem ram3 : (-(2 ^ 62) ≤ (-3 : Int)) = True := by simp
theorem rbm3 : ((-3 : Int) < 2 ^ 62) = True := by simp
theorem ram2 : (-(2 ^ 62) ≤ (-2 : Int)) = True := by simp
theorem rbm2 : ((-2 : Int) < 2 ^ 62) = True := by simp
theorem ram1 : (-(2 ^ 62) ≤ (-1 : Int)) = True := by simp
theorem rbm1 : ((-1 : Int) < 2 ^ 62) = True := by simp
theorem ra0 : (-(2 ^ 62) ≤ (0 : Int)) = True := by simp
theorem rb0 : ((0 : Int) < 2 ^ 62) = True := by simp
theorem ra1 : (-(2 ^ 62) ≤ (1 : Int)) = True := by simp
theorem rb1 : ((1 : Int) < 2 ^ 62) = True := by simp
theorem ra2 : (-(2 ^ 62) ≤ (2 : Int)) = True := by simp
theorem rb2 : ((2 : Int) < 2 ^ 62) = True := by simp
theorem ra3 : (-(2 ^ 62) ≤ (3 : Int)) = True := by simp
theorem rb3 : ((3 : Int) < 2 ^ 62) = True := by simp
theorem ra4 : (-(2 ^ 62) ≤ (4 : Int)) = True := by simp
theorem rb4 : ((4 : Int) < 2 ^ 62) = True := by simp
theorem ra5 : (-(2 ^ 62) ≤ (5 : Int)) = True := by simp
theorem rb5 : ((5 : Int) < 2 ^ 62) = True := by simp
theorem ra6 : (-(2 ^ 62) ≤ (6 : Int)) = True := by simp
theorem rb6 : ((6 : Int) < 2 ^ 62) = True := by simp
theorem ra7 : (-(2 ^ 62) ≤ (7 : Int)) = True := by simp
theorem rb7 : ((7 : Int) < 2 ^ 62) = True := by simp
theorem ra8 : (-(2 ^ 62) ≤ (8 : Int)) = True := by simp
theorem rb8 : ((8 : Int) < 2 ^ 62) = True := by simp
theorem ra9 : (-(2 ^ 62) ≤ (9 : Int)) = True := by simp
theorem rb9 : ((9 : Int) < 2 ^ 62) = True := by simp
theorem ra10 : (-(2 ^ 62) ≤ (10 : Int)) = True := by simp
theorem rb10 : ((10 : Int) < 2 ^ 62) = True := by simp
theorem ra11 : (-(2 ^ 62) ≤ (11 : Int)) = True := by simp
theorem rb11 : ((11 : Int) < 2 ^ 62) = True := by simp
theorem ra12 : (-(2 ^ 62) ≤ (12 : Int)) = True := by simp
theorem rb12 : ((12 : Int) < 2 ^ 62) = True := by simp
theorem ra13 : (-(2 ^ 62) ≤ (13 : Int)) = True := by simp
theorem rb13 : ((13 : Int) < 2 ^ 62) = True := by simp
theorem ra20 : (-(2 ^ 62) ≤ (20 : Int)) = True := by simp
theorem rb20 : ((20 : Int) < 2 ^ 62) = True := by simp
theorem ra24 : (-(2 ^ 62) ≤ (24 : Int)) = True := by simp
theorem rb24 : ((24 : Int) < 2 ^ 62) = True := by simp
theorem x_abs (i : Int) : dAbs [.int i] = some (.int (if i < 0 then -i else i)) := Eq.trans rfl rfl
theorem x_int (i : Int) : dInt [.int i] = some (.int i) := Eq.trans rfl rfl
theorem x_dAddL {xs ys : List D} (h : xs.length + ys.length ≤ sizeLine) : dAdd (.lst xs) (.lst ys) = some (.lst (xs ++ ys)) := if_pos h
theorem x_rep2 (d : D) : dRep (.lst [d]) (.int 2) = some (.lst [d, d]) := by
  show (if -(2 ^ 63) ≤ (2 : Int) ∧ (2 : Int) < 2 ^ 63 ∧ [d].length * (2 : Int).toNat ≤ sizeLine then some (D.lst (List.replicate (2 : Int).toNat [d]).flatten) else none) = _
  rw [if_pos ⟨by decide, by decide, by simp [sizeLine]⟩]
  rfl
theorem x_dEq_pair (a b c d : Int) : dEq (.tup [.int a, .int b]) (.tup [.int c, .int d]) = some (.bl (decide (a = c) && decide (b = d))) := by
  unfold dEq
  rw [if_pos (by simp [D.fit, D.okc, D.okcAll, D.dep, D.depAll])]
  simp only [D.eqv, D.py, D.pyAll, PyData.eqv, PyData.eqvAll, Bool.and_true]
  by_cases h : a = c <;> by_cases h' : b = d <;> simp [h, h']
end
end L2.Ev
namespace L2.Ev.K10
open PySem PySem.Spec PyProof.Rows
/-! ### the text: where each def stands -/
def topS (i : Nat) : Stmt := PySem.Challenge.pw_everypath_k10_strips_told.main.body.getD i (.Pass ⟨0, 0, 0, 0⟩)
abbrev s__law_stream : Stmt := topS 28
abbrev s__law_draw : Stmt := topS 29
abbrev s__law_pick : Stmt := topS 30
abbrev s__law_any_integer : Stmt := topS 39
abbrev s__law_strip_quadruple : Stmt := topS 40
abbrev s__law_strip_brought : Stmt := topS 34
abbrev s__law_each_once : Stmt := topS 33
abbrev s__law_strip_in : Stmt := topS 35
abbrev s__law_strip_some : Stmt := topS 36
abbrev s__law_probes : Stmt := topS 42
abbrev s__law_same : Stmt := topS 31
abbrev s_is_list : Stmt := topS 7
abbrev s_is_list_of : Stmt := topS 8
abbrev s_is_integer : Stmt := topS 5
abbrev s_is_rest : Stmt := topS 10
abbrev s_rest_of : Stmt := topS 11
abbrev s_rest_has : Stmt := topS 12
abbrev s_is_strip : Stmt := topS 24
abbrev s_check_strip : Stmt := topS 25
abbrev s_strip_many : Stmt := topS 22
abbrev s_check_integer : Stmt := topS 26
abbrev s_has : Stmt := topS 17
abbrev s_strip_has : Stmt := topS 21
abbrev s_alone : Stmt := topS 15
abbrev s_reduce_strip : Stmt := topS 16
abbrev s_is_number : Stmt := topS 6
abbrev s_reduced : Stmt := topS 20
abbrev s__law_loose : Stmt := topS 32
abbrev s__law_strip_size : Stmt := topS 37
abbrev s__law_told_right : Stmt := topS 43
abbrev s__law_strip_beside : Stmt := topS 41
abbrev s_rest_within : Stmt := topS 13
abbrev s_lies_within : Stmt := topS 18
abbrev s_strip_within : Stmt := topS 23
abbrev s__law_strip_inside : Stmt := topS 38
abbrev s_law : Stmt := topS 44
theorem sc__law_stream : FnScope ["_law_script"] ["_law_script"] (defScope s__law_stream) := ⟨rfl, rfl, rfl, by decide +kernel, rfl, by decide +kernel, by decide +kernel⟩
theorem sc__law_draw : FnScope ["_law_stream_here", "_law_many", "_law_cell", "_law_digit", "_law_mixed"] ["_law_stream_here", "_law_many"] (defScope s__law_draw) := ⟨rfl, rfl, rfl, by decide +kernel, rfl, by decide +kernel, by decide +kernel⟩
theorem sc__law_pick : FnScope ["_law_stream_here", "_law_things"] ["_law_stream_here", "_law_things"] (defScope s__law_pick) := ⟨rfl, rfl, rfl, by decide +kernel, rfl, by decide +kernel, by decide +kernel⟩
theorem sc__law_any_integer : FnScope ["_law_stream_here", "_law_way", "_law_great"] ["_law_stream_here"] (defScope s__law_any_integer) := ⟨rfl, rfl, rfl, by decide +kernel, rfl, by decide +kernel, by decide +kernel⟩
theorem sc__law_strip_quadruple : FnScope ["_law_stream_here", "_law_low", "_law_high", "_law_step"] ["_law_stream_here"] (defScope s__law_strip_quadruple) := ⟨rfl, rfl, rfl, by decide +kernel, rfl, by decide +kernel, by decide +kernel⟩
theorem sc__law_strip_brought : FnScope ["_law_low", "_law_high", "_law_step", "_law_rest", "_law_inside"] ["_law_low", "_law_high", "_law_step", "_law_rest"] (defScope s__law_strip_brought) := ⟨rfl, rfl, rfl, by decide +kernel, rfl, by decide +kernel, by decide +kernel⟩
theorem sc__law_each_once : FnScope ["_law_some", "_law_found", "_law_thing"] ["_law_some"] (defScope s__law_each_once) := ⟨rfl, rfl, rfl, by decide +kernel, rfl, by decide +kernel, by decide +kernel⟩
theorem sc__law_strip_in : FnScope ["_law_strip", "_law_n"] ["_law_strip", "_law_n"] (defScope s__law_strip_in) := ⟨rfl, rfl, rfl, by decide +kernel, rfl, by decide +kernel, by decide +kernel⟩
theorem sc__law_strip_some : FnScope ["_law_strip", "_law_far", "_law_begin", "_law_found", "_law_low", "_law_high", "_law_step", "_law_rest", "_law_k", "_law_n"] ["_law_strip", "_law_far"] (defScope s__law_strip_some) := ⟨rfl, rfl, rfl, by decide +kernel, rfl, by decide +kernel, by decide +kernel⟩
theorem sc__law_probes : FnScope ["_law_stream_here", "_law_strip", "_law_quadruple", "_law_found", "_law_end", "_law_n"] ["_law_stream_here", "_law_strip", "_law_quadruple"] (defScope s__law_probes) := ⟨rfl, rfl, rfl, by decide +kernel, rfl, by decide +kernel, by decide +kernel⟩
theorem sc__law_same : FnScope ["_law_found", "_law_due", "_law_key", "_law_mine", "_law_theirs"] ["_law_found", "_law_due"] (defScope s__law_same) := ⟨rfl, rfl, rfl, by decide +kernel, rfl, by decide +kernel, by decide +kernel⟩
theorem sc_is_list : FnScope ["thing"] ["thing"] (defScope s_is_list) := ⟨rfl, rfl, rfl, by decide +kernel, rfl, by decide +kernel, by decide +kernel⟩
theorem sc_is_list_of : FnScope ["thing", "many"] ["thing", "many"] (defScope s_is_list_of) := ⟨rfl, rfl, rfl, by decide +kernel, rfl, by decide +kernel, by decide +kernel⟩
theorem sc_is_integer : FnScope ["thing"] ["thing"] (defScope s_is_integer) := ⟨rfl, rfl, rfl, by decide +kernel, rfl, by decide +kernel, by decide +kernel⟩
theorem sc_is_rest : FnScope ["thing"] ["thing"] (defScope s_is_rest) := ⟨rfl, rfl, rfl, by decide +kernel, rfl, by decide +kernel, by decide +kernel⟩
theorem sc_rest_of : FnScope ["modulus", "remainder"] ["modulus", "remainder"] (defScope s_rest_of) := ⟨rfl, rfl, rfl, by decide +kernel, rfl, by decide +kernel, by decide +kernel⟩
theorem sc_rest_has : FnScope ["rest", "n"] ["rest", "n"] (defScope s_rest_has) := ⟨rfl, rfl, rfl, by decide +kernel, rfl, by decide +kernel, by decide +kernel⟩
theorem sc_is_strip : FnScope ["thing", "ends", "low", "high", "modulus", "remainder", "end"] ["thing"] (defScope s_is_strip) := ⟨rfl, rfl, rfl, by decide +kernel, rfl, by decide +kernel, by decide +kernel⟩
theorem sc_check_strip : FnScope ["strip"] ["strip"] (defScope s_check_strip) := ⟨rfl, rfl, rfl, by decide +kernel, rfl, by decide +kernel, by decide +kernel⟩
theorem sc_strip_many : FnScope ["strip", "low", "high", "modulus"] ["strip"] (defScope s_strip_many) := ⟨rfl, rfl, rfl, by decide +kernel, rfl, by decide +kernel, by decide +kernel⟩
theorem sc_check_integer : FnScope ["n"] ["n"] (defScope s_check_integer) := ⟨rfl, rfl, rfl, by decide +kernel, rfl, by decide +kernel, by decide +kernel⟩
theorem sc_has : FnScope ["strip", "n", "low", "high", "modulus", "remainder"] ["strip", "n"] (defScope s_has) := ⟨rfl, rfl, rfl, by decide +kernel, rfl, by decide +kernel, by decide +kernel⟩
theorem sc_strip_has : FnScope ["strip", "n"] ["strip", "n"] (defScope s_strip_has) := ⟨rfl, rfl, rfl, by decide +kernel, rfl, by decide +kernel, by decide +kernel⟩
theorem sc_alone : FnScope ["n"] ["n"] (defScope s_alone) := ⟨rfl, rfl, rfl, by decide +kernel, rfl, by decide +kernel, by decide +kernel⟩
theorem sc_reduce_strip : FnScope ["low", "high", "modulus", "remainder"] ["low", "high", "modulus", "remainder"] (defScope s_reduce_strip) := ⟨rfl, rfl, rfl, by decide +kernel, rfl, by decide +kernel, by decide +kernel⟩
theorem sc_is_number : FnScope ["thing"] ["thing"] (defScope s_is_number) := ⟨rfl, rfl, rfl, by decide +kernel, rfl, by decide +kernel, by decide +kernel⟩
theorem sc_reduced : FnScope ["low", "high", "modulus", "remainder", "end"] ["low", "high", "modulus", "remainder"] (defScope s_reduced) := ⟨rfl, rfl, rfl, by decide +kernel, rfl, by decide +kernel, by decide +kernel⟩
theorem sc__law_loose : FnScope ["_law_stream_here", "_law_thing", "_law_some", "_law_one"] ["_law_stream_here", "_law_thing"] (defScope s__law_loose) := ⟨rfl, rfl, rfl, by decide +kernel, rfl, by decide +kernel, by decide +kernel⟩
theorem sc__law_strip_size : FnScope ["_law_strip"] ["_law_strip"] (defScope s__law_strip_size) := ⟨rfl, rfl, rfl, by decide +kernel, rfl, by decide +kernel, by decide +kernel⟩
theorem sc__law_told_right : FnScope ["_law_stream_here", "_law_quadruple", "_law_due", "_law_n", "_law_found", "_law_low", "_law_high", "_law_step", "_law_rest"] ["_law_stream_here", "_law_quadruple"] (defScope s__law_told_right) := ⟨rfl, rfl, rfl, by decide +kernel, rfl, by decide +kernel, by decide +kernel⟩
theorem sc__law_strip_beside : FnScope ["_law_stream_here", "_law_strip", "_law_way", "_law_n", "_law_low", "_law_high", "_law_step", "_law_rest"] ["_law_stream_here", "_law_strip"] (defScope s__law_strip_beside) := ⟨rfl, rfl, rfl, by decide +kernel, rfl, by decide +kernel, by decide +kernel⟩
theorem sc_rest_within : FnScope ["rest", "other"] ["rest", "other"] (defScope s_rest_within) := ⟨rfl, rfl, rfl, by decide +kernel, rfl, by decide +kernel, by decide +kernel⟩
theorem sc_lies_within : FnScope ["strip", "other", "low_fits", "high_fits"] ["strip", "other"] (defScope s_lies_within) := ⟨rfl, rfl, rfl, by decide +kernel, rfl, by decide +kernel, by decide +kernel⟩
theorem sc_strip_within : FnScope ["strip", "other"] ["strip", "other"] (defScope s_strip_within) := ⟨rfl, rfl, rfl, by decide +kernel, rfl, by decide +kernel, by decide +kernel⟩
theorem sc__law_strip_inside : FnScope ["_law_strip", "_law_other", "_law_n"] ["_law_strip", "_law_other"] (defScope s__law_strip_inside) := ⟨rfl, rfl, rfl, by decide +kernel, rfl, by decide +kernel, by decide +kernel⟩
theorem sc_law : FnScope ["_law_script", "_law_stream_here", "_law_kept", "_law_turn", "_law_one", "_law_quadruple", "_law_other", "_law_low", "_law_high", "_law_step", "_law_rest", "_law_found"] ["_law_script"] (defScope s_law) := ⟨rfl, rfl, rfl, by decide +kernel, rfl, by decide +kernel, by decide +kernel⟩
/-- what the top has written -/
structure Tops (K : PySem.W.Frag) (mg : Str → Option Value) where
  f__law_stream : Addr
  fd__law_stream : FuncData
  F__law_stream : Fun K "_law_stream" "_law_stream" s__law_stream f__law_stream fd__law_stream
  g__law_stream : mg "_law_stream" = some (.ref f__law_stream)
  f__law_draw : Addr
  fd__law_draw : FuncData
  F__law_draw : Fun K "_law_draw" "_law_draw" s__law_draw f__law_draw fd__law_draw
  g__law_draw : mg "_law_draw" = some (.ref f__law_draw)
  f__law_pick : Addr
  fd__law_pick : FuncData
  F__law_pick : Fun K "_law_pick" "_law_pick" s__law_pick f__law_pick fd__law_pick
  g__law_pick : mg "_law_pick" = some (.ref f__law_pick)
  f__law_any_integer : Addr
  fd__law_any_integer : FuncData
  F__law_any_integer : Fun K "_law_any_integer" "_law_any_integer" s__law_any_integer f__law_any_integer fd__law_any_integer
  g__law_any_integer : mg "_law_any_integer" = some (.ref f__law_any_integer)
  f__law_strip_quadruple : Addr
  fd__law_strip_quadruple : FuncData
  F__law_strip_quadruple : Fun K "_law_strip_quadruple" "_law_strip_quadruple" s__law_strip_quadruple f__law_strip_quadruple fd__law_strip_quadruple
  g__law_strip_quadruple : mg "_law_strip_quadruple" = some (.ref f__law_strip_quadruple)
  f__law_strip_brought : Addr
  fd__law_strip_brought : FuncData
  F__law_strip_brought : Fun K "_law_strip_brought" "_law_strip_brought" s__law_strip_brought f__law_strip_brought fd__law_strip_brought
  g__law_strip_brought : mg "_law_strip_brought" = some (.ref f__law_strip_brought)
  f__law_each_once : Addr
  fd__law_each_once : FuncData
  F__law_each_once : Fun K "_law_each_once" "_law_each_once" s__law_each_once f__law_each_once fd__law_each_once
  g__law_each_once : mg "_law_each_once" = some (.ref f__law_each_once)
  f__law_strip_in : Addr
  fd__law_strip_in : FuncData
  F__law_strip_in : Fun K "_law_strip_in" "_law_strip_in" s__law_strip_in f__law_strip_in fd__law_strip_in
  g__law_strip_in : mg "_law_strip_in" = some (.ref f__law_strip_in)
  f__law_strip_some : Addr
  fd__law_strip_some : FuncData
  F__law_strip_some : Fun K "_law_strip_some" "_law_strip_some" s__law_strip_some f__law_strip_some fd__law_strip_some
  g__law_strip_some : mg "_law_strip_some" = some (.ref f__law_strip_some)
  f__law_probes : Addr
  fd__law_probes : FuncData
  F__law_probes : Fun K "_law_probes" "_law_probes" s__law_probes f__law_probes fd__law_probes
  g__law_probes : mg "_law_probes" = some (.ref f__law_probes)
  f__law_same : Addr
  fd__law_same : FuncData
  F__law_same : Fun K "_law_same" "_law_same" s__law_same f__law_same fd__law_same
  g__law_same : mg "_law_same" = some (.ref f__law_same)
  f_is_list : Addr
  fd_is_list : FuncData
  F_is_list : Fun K "is_list" "is_list" s_is_list f_is_list fd_is_list
  g_is_list : mg "is_list" = some (.ref f_is_list)
  f_is_list_of : Addr
  fd_is_list_of : FuncData
  F_is_list_of : Fun K "is_list_of" "is_list_of" s_is_list_of f_is_list_of fd_is_list_of
  g_is_list_of : mg "is_list_of" = some (.ref f_is_list_of)
  f_is_integer : Addr
  fd_is_integer : FuncData
  F_is_integer : Fun K "is_integer" "is_integer" s_is_integer f_is_integer fd_is_integer
  g_is_integer : mg "is_integer" = some (.ref f_is_integer)
  f_is_rest : Addr
  fd_is_rest : FuncData
  F_is_rest : Fun K "is_rest" "is_rest" s_is_rest f_is_rest fd_is_rest
  g_is_rest : mg "is_rest" = some (.ref f_is_rest)
  f_rest_of : Addr
  fd_rest_of : FuncData
  F_rest_of : Fun K "rest_of" "rest_of" s_rest_of f_rest_of fd_rest_of
  g_rest_of : mg "rest_of" = some (.ref f_rest_of)
  f_rest_has : Addr
  fd_rest_has : FuncData
  F_rest_has : Fun K "rest_has" "rest_has" s_rest_has f_rest_has fd_rest_has
  g_rest_has : mg "rest_has" = some (.ref f_rest_has)
  f_is_strip : Addr
  fd_is_strip : FuncData
  F_is_strip : Fun K "is_strip" "is_strip" s_is_strip f_is_strip fd_is_strip
  g_is_strip : mg "is_strip" = some (.ref f_is_strip)
  f_check_strip : Addr
  fd_check_strip : FuncData
  F_check_strip : Fun K "check_strip" "check_strip" s_check_strip f_check_strip fd_check_strip
  g_check_strip : mg "check_strip" = some (.ref f_check_strip)
  f_strip_many : Addr
  fd_strip_many : FuncData
  F_strip_many : Fun K "strip_many" "strip_many" s_strip_many f_strip_many fd_strip_many
  g_strip_many : mg "strip_many" = some (.ref f_strip_many)
  f_check_integer : Addr
  fd_check_integer : FuncData
  F_check_integer : Fun K "check_integer" "check_integer" s_check_integer f_check_integer fd_check_integer
  g_check_integer : mg "check_integer" = some (.ref f_check_integer)
  f_has : Addr
  fd_has : FuncData
  F_has : Fun K "has" "has" s_has f_has fd_has
  g_has : mg "has" = some (.ref f_has)
  f_strip_has : Addr
  fd_strip_has : FuncData
  F_strip_has : Fun K "strip_has" "strip_has" s_strip_has f_strip_has fd_strip_has
  g_strip_has : mg "strip_has" = some (.ref f_strip_has)
  f_alone : Addr
  fd_alone : FuncData
  F_alone : Fun K "alone" "alone" s_alone f_alone fd_alone
  g_alone : mg "alone" = some (.ref f_alone)
  f_reduce_strip : Addr
  fd_reduce_strip : FuncData
  F_reduce_strip : Fun K "reduce_strip" "reduce_strip" s_reduce_strip f_reduce_strip fd_reduce_strip
  g_reduce_strip : mg "reduce_strip" = some (.ref f_reduce_strip)
  f_is_number : Addr
  fd_is_number : FuncData
  F_is_number : Fun K "is_number" "is_number" s_is_number f_is_number fd_is_number
  g_is_number : mg "is_number" = some (.ref f_is_number)
  f_reduced : Addr
  fd_reduced : FuncData
  F_reduced : Fun K "reduced" "reduced" s_reduced f_reduced fd_reduced
  g_reduced : mg "reduced" = some (.ref f_reduced)
  f__law_loose : Addr
  fd__law_loose : FuncData
  F__law_loose : Fun K "_law_loose" "_law_loose" s__law_loose f__law_loose fd__law_loose
  g__law_loose : mg "_law_loose" = some (.ref f__law_loose)
  f__law_strip_size : Addr
  fd__law_strip_size : FuncData
  F__law_strip_size : Fun K "_law_strip_size" "_law_strip_size" s__law_strip_size f__law_strip_size fd__law_strip_size
  g__law_strip_size : mg "_law_strip_size" = some (.ref f__law_strip_size)
  f__law_told_right : Addr
  fd__law_told_right : FuncData
  F__law_told_right : Fun K "_law_told_right" "_law_told_right" s__law_told_right f__law_told_right fd__law_told_right
  g__law_told_right : mg "_law_told_right" = some (.ref f__law_told_right)
  f__law_strip_beside : Addr
  fd__law_strip_beside : FuncData
  F__law_strip_beside : Fun K "_law_strip_beside" "_law_strip_beside" s__law_strip_beside f__law_strip_beside fd__law_strip_beside
  g__law_strip_beside : mg "_law_strip_beside" = some (.ref f__law_strip_beside)
  f_rest_within : Addr
  fd_rest_within : FuncData
  F_rest_within : Fun K "rest_within" "rest_within" s_rest_within f_rest_within fd_rest_within
  g_rest_within : mg "rest_within" = some (.ref f_rest_within)
  f_lies_within : Addr
  fd_lies_within : FuncData
  F_lies_within : Fun K "lies_within" "lies_within" s_lies_within f_lies_within fd_lies_within
  g_lies_within : mg "lies_within" = some (.ref f_lies_within)
  f_strip_within : Addr
  fd_strip_within : FuncData
  F_strip_within : Fun K "strip_within" "strip_within" s_strip_within f_strip_within fd_strip_within
  g_strip_within : mg "strip_within" = some (.ref f_strip_within)
  f__law_strip_inside : Addr
  fd__law_strip_inside : FuncData
  F__law_strip_inside : Fun K "_law_strip_inside" "_law_strip_inside" s__law_strip_inside f__law_strip_inside fd__law_strip_inside
  g__law_strip_inside : mg "_law_strip_inside" = some (.ref f__law_strip_inside)
  n_abs : mg "abs" = none
  n_all : mg "all" = none
  n_bool : mg "bool" = none
  n_dict : mg "dict" = none
  n_int : mg "int" = none
  n_isinstance : mg "isinstance" = none
  n_len : mg "len" = none
  n_list : mg "list" = none
  n_range : mg "range" = none
  n_tuple : mg "tuple" = none
  n_zip : mg "zip" = none
section
variable {P : Program} {w : World} {K : PySem.W.Frag} {mg : Str → Option Value} {base : Heap}
theorem b__law_stream (T : Tops K mg) : Binds K T.fd__law_stream ["_law_script"] [] := T.F__law_stream.binds fun _ _ _ _ _ _ us hl => match us, hl with | [_], _ => rfl
theorem b__law_draw (T : Tops K mg) : Binds K T.fd__law_draw ["_law_stream_here", "_law_many"] [] := T.F__law_draw.binds fun _ _ _ _ _ _ us hl => match us, hl with | [_, _], _ => rfl
theorem b__law_pick (T : Tops K mg) : Binds K T.fd__law_pick ["_law_stream_here", "_law_things"] [] := T.F__law_pick.binds fun _ _ _ _ _ _ us hl => match us, hl with | [_, _], _ => rfl
theorem b__law_any_integer (T : Tops K mg) : Binds K T.fd__law_any_integer ["_law_stream_here"] [] := T.F__law_any_integer.binds fun _ _ _ _ _ _ us hl => match us, hl with | [_], _ => rfl
theorem b__law_strip_quadruple (T : Tops K mg) : Binds K T.fd__law_strip_quadruple ["_law_stream_here"] [] := T.F__law_strip_quadruple.binds fun _ _ _ _ _ _ us hl => match us, hl with | [_], _ => rfl
theorem b__law_strip_brought (T : Tops K mg) : Binds K T.fd__law_strip_brought ["_law_low", "_law_high", "_law_step", "_law_rest"] [] := T.F__law_strip_brought.binds fun _ _ _ _ _ _ us hl => match us, hl with | [_, _, _, _], _ => rfl
theorem b__law_each_once (T : Tops K mg) : Binds K T.fd__law_each_once ["_law_some"] [] := T.F__law_each_once.binds fun _ _ _ _ _ _ us hl => match us, hl with | [_], _ => rfl
theorem b__law_strip_in (T : Tops K mg) : Binds K T.fd__law_strip_in ["_law_strip", "_law_n"] [] := T.F__law_strip_in.binds fun _ _ _ _ _ _ us hl => match us, hl with | [_, _], _ => rfl
theorem b__law_strip_some (T : Tops K mg) : Binds K T.fd__law_strip_some ["_law_strip", "_law_far"] [] := T.F__law_strip_some.binds fun _ _ _ _ _ _ us hl => match us, hl with | [_, _], _ => rfl
theorem b__law_probes (T : Tops K mg) : Binds K T.fd__law_probes ["_law_stream_here", "_law_strip", "_law_quadruple"] [] := T.F__law_probes.binds fun _ _ _ _ _ _ us hl => match us, hl with | [_, _, _], _ => rfl
theorem b__law_same (T : Tops K mg) : Binds K T.fd__law_same ["_law_found", "_law_due"] [] := T.F__law_same.binds fun _ _ _ _ _ _ us hl => match us, hl with | [_, _], _ => rfl
theorem b_is_list (T : Tops K mg) : Binds K T.fd_is_list ["thing"] [] := T.F_is_list.binds fun _ _ _ _ _ _ us hl => match us, hl with | [_], _ => rfl
theorem b_is_list_of (T : Tops K mg) : Binds K T.fd_is_list_of ["thing", "many"] [] := T.F_is_list_of.binds fun _ _ _ _ _ _ us hl => match us, hl with | [_, _], _ => rfl
theorem b_is_integer (T : Tops K mg) : Binds K T.fd_is_integer ["thing"] [] := T.F_is_integer.binds fun _ _ _ _ _ _ us hl => match us, hl with | [_], _ => rfl
theorem b_is_rest (T : Tops K mg) : Binds K T.fd_is_rest ["thing"] [] := T.F_is_rest.binds fun _ _ _ _ _ _ us hl => match us, hl with | [_], _ => rfl
theorem b_rest_of (T : Tops K mg) : Binds K T.fd_rest_of ["modulus", "remainder"] [] := T.F_rest_of.binds fun _ _ _ _ _ _ us hl => match us, hl with | [_, _], _ => rfl
theorem b_rest_has (T : Tops K mg) : Binds K T.fd_rest_has ["rest", "n"] [] := T.F_rest_has.binds fun _ _ _ _ _ _ us hl => match us, hl with | [_, _], _ => rfl
theorem b_is_strip (T : Tops K mg) : Binds K T.fd_is_strip ["thing"] [] := T.F_is_strip.binds fun _ _ _ _ _ _ us hl => match us, hl with | [_], _ => rfl
theorem b_check_strip (T : Tops K mg) : Binds K T.fd_check_strip ["strip"] [] := T.F_check_strip.binds fun _ _ _ _ _ _ us hl => match us, hl with | [_], _ => rfl
theorem b_strip_many (T : Tops K mg) : Binds K T.fd_strip_many ["strip"] [] := T.F_strip_many.binds fun _ _ _ _ _ _ us hl => match us, hl with | [_], _ => rfl
theorem b_check_integer (T : Tops K mg) : Binds K T.fd_check_integer ["n"] [] := T.F_check_integer.binds fun _ _ _ _ _ _ us hl => match us, hl with | [_], _ => rfl
theorem b_has (T : Tops K mg) : Binds K T.fd_has ["strip", "n"] [] := T.F_has.binds fun _ _ _ _ _ _ us hl => match us, hl with | [_, _], _ => rfl
theorem b_strip_has (T : Tops K mg) : Binds K T.fd_strip_has ["strip", "n"] [] := T.F_strip_has.binds fun _ _ _ _ _ _ us hl => match us, hl with | [_, _], _ => rfl
theorem b_alone (T : Tops K mg) : Binds K T.fd_alone ["n"] [] := T.F_alone.binds fun _ _ _ _ _ _ us hl => match us, hl with | [_], _ => rfl
theorem b_reduce_strip (T : Tops K mg) : Binds K T.fd_reduce_strip ["low", "high", "modulus", "remainder"] [] := T.F_reduce_strip.binds fun _ _ _ _ _ _ us hl => match us, hl with | [_, _, _, _], _ => rfl
theorem b_is_number (T : Tops K mg) : Binds K T.fd_is_number ["thing"] [] := T.F_is_number.binds fun _ _ _ _ _ _ us hl => match us, hl with | [_], _ => rfl
theorem b_reduced (T : Tops K mg) : Binds K T.fd_reduced ["low", "high", "modulus", "remainder"] [] := T.F_reduced.binds fun _ _ _ _ _ _ us hl => match us, hl with | [_, _, _, _], _ => rfl
theorem b__law_loose (T : Tops K mg) : Binds K T.fd__law_loose ["_law_stream_here", "_law_thing"] [] := T.F__law_loose.binds fun _ _ _ _ _ _ us hl => match us, hl with | [_, _], _ => rfl
theorem b__law_strip_size (T : Tops K mg) : Binds K T.fd__law_strip_size ["_law_strip"] [] := T.F__law_strip_size.binds fun _ _ _ _ _ _ us hl => match us, hl with | [_], _ => rfl
theorem b__law_told_right (T : Tops K mg) : Binds K T.fd__law_told_right ["_law_stream_here", "_law_quadruple"] [] := T.F__law_told_right.binds fun _ _ _ _ _ _ us hl => match us, hl with | [_, _], _ => rfl
theorem b__law_strip_beside (T : Tops K mg) : Binds K T.fd__law_strip_beside ["_law_stream_here", "_law_strip"] [] := T.F__law_strip_beside.binds fun _ _ _ _ _ _ us hl => match us, hl with | [_, _], _ => rfl
theorem b_rest_within (T : Tops K mg) : Binds K T.fd_rest_within ["rest", "other"] [] := T.F_rest_within.binds fun _ _ _ _ _ _ us hl => match us, hl with | [_, _], _ => rfl
theorem b_lies_within (T : Tops K mg) : Binds K T.fd_lies_within ["strip", "other"] [] := T.F_lies_within.binds fun _ _ _ _ _ _ us hl => match us, hl with | [_, _], _ => rfl
theorem b_strip_within (T : Tops K mg) : Binds K T.fd_strip_within ["strip", "other"] [] := T.F_strip_within.binds fun _ _ _ _ _ _ us hl => match us, hl with | [_, _], _ => rfl
theorem b__law_strip_inside (T : Tops K mg) : Binds K T.fd__law_strip_inside ["_law_strip", "_law_other"] [] := T.F__law_strip_inside.binds fun _ _ _ _ _ _ us hl => match us, hl with | [_, _], _ => rfl
end
end L2.Ev.K10
namespace L2.Ev.K10
open PySem PySem.Spec PyProof.Rows
section
variable {P : Program} {w : World} {K : PySem.W.Frag} {mg : Str → Option Value} {base : Heap}
theorem dp_ints {H : Hp} (K : PySem.W.Frag) : ∀ ns : List Int, DpAll K H (ns.map V.int) (ns.map PyData.int)
  | [] => .nil
  | n :: r => .cons (.int n) (dp_ints K r)
theorem lay_ints : ∀ ns : List Int, PyData.canLayAll0 (ns.map PyData.int) = true ∧ PyData.depthAll (ns.map PyData.int) = 0
  | [] => ⟨by simp [PyData.canLayAll0], by simp [PyData.depthAll]⟩
  | n :: r => by
    obtain ⟨h1, h2⟩ := lay_ints r
    exact ⟨by simp only [List.map_cons, PyData.canLayAll0]; rw [h1]; simp [PyData.canLay0], by simp only [List.map_cons, PyData.depthAll]; rw [h2]; simp [PyData.depth]⟩
theorem shaped_ints (ns : List Int) : SeqAt.shaped (.list (ns.map PyData.int)) = true := by
  obtain ⟨h1, h2⟩ := lay_ints ns
  have h3 : (PyData.list (ns.map PyData.int)).canLay0 = true := by simp only [PyData.canLay0]; exact h1
  have h4 : (PyData.list (ns.map PyData.int)).depth ≤ 64 := by simp only [PyData.depth]; rw [h2]; omega
  unfold SeqAt.shaped
  rw [h3, decide_eq_true h4]
  rfl
theorem mixNat {S : Strm} (cnt : Nat) (h : cnt ≤ LIM) : (S.mix + 7919 * (cnt : Int) + 104729).natAbs < 2 ^ 900000 := by
  have h1 := S.hm
  have h2 : (S.mix + 7919 * (cnt : Int) + 104729).natAbs ≤ 2147483647 + 7919 * LIM + 104729 := by omega
  refine Nat.lt_of_le_of_lt h2 ?_
  have h3 : LIM = 2 ^ 800000 := rfl
  rw [h3]
  have h4 : (2 : Nat) ^ 900000 = 2 ^ 100000 * 2 ^ 800000 := by rw [← Nat.pow_add]
  rw [h4]
  have h5 : 1 ≤ (2 : Nat) ^ 800000 := Nat.two_pow_pos _
  have h6 : (2 : Nat) ^ 40 ≤ 2 ^ 100000 := Nat.pow_le_pow_right (by omega) (by omega)
  have h7 : (2 : Nat) ^ 40 * 2 ^ 800000 ≤ 2 ^ 100000 * 2 ^ 800000 := Nat.mul_le_mul_right _ h6
  refine Nat.lt_of_lt_of_le ?_ h7
  generalize (2 : Nat) ^ 800000 = Z at h5 ⊢
  rw [show (2 : Nat) ^ 40 = 1099511627776 from rfl]
  omega
theorem mulNat {x : Int} (hx : 0 ≤ x ∧ x < 2147483629) (cnt : Nat) (h : cnt ≤ LIM) : (x * 48271 + 30011 * (cnt : Int) + 29).natAbs < 2 ^ 900000 := by
  have h2 : (x * 48271 + 30011 * (cnt : Int) + 29).natAbs ≤ 2147483629 * 48271 + 30011 * LIM + 29 := by omega
  refine Nat.lt_of_le_of_lt h2 ?_
  have h3 : LIM = 2 ^ 800000 := rfl
  rw [h3]
  have h4 : (2 : Nat) ^ 900000 = 2 ^ 100000 * 2 ^ 800000 := by rw [← Nat.pow_add]
  rw [h4]
  have h5 : 1 ≤ (2 : Nat) ^ 800000 := Nat.two_pow_pos _
  have h6 : (2 : Nat) ^ 60 ≤ 2 ^ 100000 := Nat.pow_le_pow_right (by omega) (by omega)
  have h7 : (2 : Nat) ^ 60 * 2 ^ 800000 ≤ 2 ^ 100000 * 2 ^ 800000 := Nat.mul_le_mul_right _ h6
  refine Nat.lt_of_lt_of_le ?_ h7
  generalize (2 : Nat) ^ 800000 = Z at h5 ⊢
  rw [show (2 : Nat) ^ 60 = 1152921504606846976 from rfl]
  omega
theorem ok__law_draw (T : Tops K mg) : FnPu P w K mg base 1 T.f__law_draw T.fd__law_draw ["_law_stream_here", "_law_many"] F_draw (kb 1) := by
  refine FnPu.mono (k := 1) ⟨T.F__law_draw.ok sc__law_draw (fun vs H Q E h => ?_) (fun cdv A outer s H vs Q E hr h => ?_), cst_draw⟩ (by decide +kernel)
  · obtain ⟨_, _, _, _, _, hl, _⟩ := h
    exact hl
  obtain ⟨p, q, B, ds, S, hl, t, r, d, S', ef, lim, qq⟩ := h
  unfold F_draw at ef
  split at ef
  rotate_left
  · cases ef
  split at ef
  rotate_left
  · cases ef
  rename_i m hm
  obtain ⟨hm1, hm2⟩ := hm
  cases ef
  obtain ⟨v, u, rfl, r1, r2⟩ := r.inv2
  rw [r1.strm_inv, r2.int_inv] at hl ⊢
  clear r1 r2
  have hcnt : S.cnt + 1 ≤ LIM := lim
  refine ⟨_, pss_cons (ps_asg (pe_op op_add (pe_ix ix_list (pv 0) pe_int (fun _ _ => rfl)) pe_int) (pg_sub (pv 0) pe_int set_list))
    (pss_mid (ps_while PassesOwn.never (PW.pt (pw_and (pt_cmpR op_eq (pe_ix ix_list (pv 0) pe_int (fun _ _ => rfl)) pe_int (nomark _)) (pw_and1 (pt_cmpR (op_neD hr.units) (pe_ix ix_list (pv 0) pe_int (fun _ _ => rfl)) (pe_lst pa_nil) (nomark _)))))
      (pss_cons (ps_set (i := 2) sc__law_draw.nd rfl (.inl rfl) (pe_callB call_abs rfl T.n_abs boot_abs (pa_cons (pe_bm PySem.F.plainAttrs_list PySem.F.slot_list_pop PySem.F.type_list_pop mt_popAt (pe_ix ix_list (pv 0) pe_int (fun _ _ => rfl)) (pa_cons pe_int pa_nil)) pa_nil)))
      (pss_cons (ps_asg (pe_op op_mod (pe_callTy call_int1 rfl T.n_int boot_int (pa_cons (pe_op op_add (pe_op op_add (pe_op op_mul (pe_ix ix_list (pv 0) pe_int (fun _ _ => rfl)) pe_int) (pv 2)) pe_int) pa_nil)) pe_int) (pg_sub (pv 0) pe_int set_list))
      (pss_one (ps_asg (pe_ifExp (pt_cmpR op_ge (pv 2) (pe_op op_pow pe_int pe_int) (nomark _)) (pv 2) pe_int) (pg_sub (pv 0) pe_int set_list))))))
    (pss_cons (ps_if (pt_cmpR op_gt (pe_ix ix_list (pv 0) pe_int (fun _ _ => rfl)) pe_int (nomark _))
      (pss_cons (ps_set (i := 3) sc__law_draw.nd rfl (.inl rfl) (pe_op op_mod (pe_callTy call_int1 rfl T.n_int boot_int (pa_cons (pe_ix ix_list (pv 0) pe_int (fun _ _ => rfl)) pa_nil)) (pv 1)))
      (pss_cons (ps_asg (pe_op op_fdivW (pe_ix ix_list (pv 0) pe_int (fun _ _ => rfl)) (pv 1)) (pg_sub (pv 0) pe_int set_list))
      (pss_one (ps_ret (pv 3))))) pss_nil)
    (pss_cons (ps_set (i := 4) sc__law_draw.nd rfl (.inl rfl) (pe_op op_mod (pe_callTy call_int1 rfl T.n_int boot_int (pa_cons (pe_op (op_powW (k := 900000) (n := 5) (by decide)) (pe_op op_add (pe_op op_add (pe_ix ix_list (pv 0) pe_int (fun _ _ => rfl)) (pe_op op_mul pe_int (pe_ix ix_list (pv 0) pe_int (fun _ _ => rfl)))) pe_int) pe_int) pa_nil)) pe_int))
    (pss_one (ps_ret (pe_op op_mod (pe_op op_mod (pe_callTy call_int1 rfl T.n_int boot_int (pa_cons (pe_op (op_powW (k := 900000) (n := 3) (by decide)) (pe_op op_add (pe_op op_add (pe_op op_mul (pv 4) pe_int) (pe_op op_mul pe_int (pe_ix ix_list (pv 0) pe_int (fun _ _ => rfl)))) pe_int) pe_int) pa_nil)) pe_int) (pv 1))))))), ?_⟩
  -- stream[2] = stream[2] + 1
  refine ⟨_, rfl, p, _, _, _, rfl, rfl, SqL.of t.st.hp, atI_nat (j := 2) rfl, _, _, rfl, rfl, _, rfl, p, _, _, 2, rfl, rfl, t.st.hp, rfl, ?_⟩
  have t1 : Step p q B H B (upd H p (.lst [.ref q, .int S.dig, .int ((S.cnt + 1 : Nat) : Int), .int S.mix])) ⟨S.cells, S.dig, S.cnt + 1, S.mix, S.hm⟩ := t.setp S.dig (S.cnt + 1) S.mix S.hm
  -- the while
  refine ⟨fun σ H3 => ∃ y cs dig mix hm, σ = [some (.ref p), some (.int m), y, none, none] ∧ Step p q B H B H3 ⟨cs, dig, S.cnt + 1, mix, hm⟩ ∧ drawLoop S.cells S.dig S.mix = (cs, dig, mix), ?_, fun σ3 H3 hM => ?_⟩
  · refine ⟨fun n σ H2 => ∃ cs dig mix hm y, n = cs.length ∧ σ = [some (.ref p), some (.int m), y, none, none] ∧ Step p q B H B H2 ⟨cs, dig, S.cnt + 1, mix, hm⟩ ∧ drawLoop cs dig mix = drawLoop S.cells S.dig S.mix,
      ⟨S.cells.length, S.cells, S.dig, S.mix, S.hm, none, rfl, rfl, t1, rfl⟩, fun n σ H2 hW => ?_⟩
    obtain ⟨cs, dig, mix, hmx, y, rfl, rfl, t2, hdl⟩ := hW
    refine ⟨_, rfl, p, _, _, _, rfl, rfl, SqL.of t2.st.hp, atI_nat (j := 1) rfl, rfl, _, rfl, ite2 (fun e => ?_) fun e => ?_⟩
    · have e0 : dig = 0 := V.int.inj (of_decide_eq_true e)
      subst e0
      refine ⟨_, rfl, p, _, _, _, rfl, rfl, SqL.of t2.st.hp, atI_nat (j := 0) rfl, Nat.zero_le _, fun l nl => ?_⟩
      have t3 := t2.hid (o := .lst []) nl
      refine ⟨.list (cs.map PyData.int), .list [], .lst (.inl (.inl t3.st.hq)) (dp_ints _ cs), .lst (.inl (.inl upd_same)) .nil, shaped_ints cs, shaped_ints [], _, rfl, ?_⟩
      cases cs with
      | nil =>
        refine iteF ?_
        exact ⟨y, [], 0, mix, hmx, rfl, t3, hdl.symm⟩
      | cons c r =>
        refine iteT ?_
        refine ⟨fun σ H4 => ∃ cs dig mix hm y, r.length = cs.length ∧ σ = [some (.ref p), some (.int m), y, none, none] ∧ Step p q B H B H4 ⟨cs, dig, S.cnt + 1, mix, hm⟩ ∧ drawLoop cs dig mix = drawLoop S.cells S.dig S.mix,
          fun σ' H' hN => ?_, ?_⟩
        · obtain ⟨cs, dig, mix, hm, y, el, es, t4, ed⟩ := hN
          exact ⟨r.length, Nat.lt_succ_self _, cs, dig, mix, hm, y, el, es, t4, ed⟩
        -- cell = abs(stream[0].pop(0))
        have hsq : seqIndex? 0 (List.map V.int (c :: r)).length = some 0 := (ixN_seq (show ixN (List.map V.int (c :: r)).length 0 = some 0 from by unfold ixN; rw [if_pos (Int.le_refl 0), if_pos (by rw [List.length_map, List.length_cons]; omega)]; rfl)).1
        refine ⟨_, rfl, p, _, _, _, rfl, rfl, SqL.of t3.st.hp, atI_nat (j := 0) rfl, .inl ⟨rfl, _, SqL.of t3.st.hq⟩, q, _, 0, 0, .int c, rfl, rfl, t3.st.hq, by decide, by decide, hsq, rfl, c, rfl, ?_⟩
        have t4 := t3.setq r
        -- stream[3] = int(stream[3] * 8191 + cell + 3) % 2147483647
        refine ⟨_, rfl, p, _, _, _, rfl, rfl, SqL.of t4.st.hp, atI_nat (j := 3) rfl, _, _, rfl, rfl, .inr ⟨by decide, by decide⟩, _, rfl, _, _, rfl, rfl, _, _, rfl, rfl, .inl ⟨_, rfl, _, _, rfl, rfl, (by show (0 : Int) < 2147483647; decide), _, rfl, p, _, _, 3, rfl, rfl, t4.st.hp, rfl, ?_⟩⟩
        have hm5 : 0 ≤ (mix * 8191 + (if c < 0 then -c else c) + 3) % 2147483647 ∧ (mix * 8191 + (if c < 0 then -c else c) + 3) % 2147483647 < 2147483647 := ⟨Int.emod_nonneg _ (by omega), Int.emod_lt_of_pos _ (by omega)⟩
        have t5 := t4.setp 0 (S.cnt + 1) _ hm5
        -- stream[1] = cell if cell >= 10 ** 18 else 0
        have fin : ∀ (d2 : Int) (H5 : Hp), Step p q B H B H5 ⟨r, 0, S.cnt + 1, (mix * 8191 + (if c < 0 then -c else c) + 3) % 2147483647, hm5⟩ → d2 = (if 10 ^ 18 ≤ (if c < 0 then -c else c) then (if c < 0 then -c else c) else 0) →
            ∃ cs dig mx hm y, r.length = cs.length ∧ [some (V.ref p), some (V.int m), some (V.int (if c < 0 then -c else c)), none, none] = [some (V.ref p), some (V.int m), y, none, none] ∧ Step p q B H B (upd H5 p (.lst [.ref q, .int d2, .int ((S.cnt + 1 : Nat) : Int), .int ((mix * 8191 + (if c < 0 then -c else c) + 3) % 2147483647)])) ⟨cs, dig, S.cnt + 1, mx, hm⟩ ∧ drawLoop cs dig mx = drawLoop S.cells S.dig S.mix := fun d2 H5 t6 e2 => by
          refine ⟨r, d2, _, hm5, _, rfl, rfl, t6.setp d2 (S.cnt + 1) _ hm5, ?_⟩
          rw [← hdl, e2]
          rfl
        refine ⟨_, rfl, _, _, rfl, rfl, ⟨by decide, by decide, by decide⟩, _, _, rfl, rfl, _, rfl, ite2 (fun e6 => ?_) fun e6 => ?_⟩
        · refine ⟨_, rfl, _, rfl, p, _, _, 1, rfl, rfl, t5.st.hp, rfl, fin _ _ t5 ?_⟩
          have e7 : (10 : Int) ^ 18 ≤ (if c < 0 then -c else c) := of_decide_eq_true e6
          rw [if_pos e7]
        · refine ⟨_, rfl, p, _, _, 1, rfl, rfl, t5.st.hp, rfl, fin _ _ t5 ?_⟩
          have e7 : ¬ (10 : Int) ^ 18 ≤ (if c < 0 then -c else c) := fun z => e6 (decide_eq_true z)
          rw [if_neg e7]
    · refine ⟨y, cs, dig, mix, hmx, rfl, t2, ?_⟩
      rw [← hdl]
      have e0 : dig ≠ 0 := fun z => e (decide_eq_true (by rw [z]))
      cases cs with
      | nil => rfl
      | cons c r => unfold drawLoop; rw [if_neg e0]
  obtain ⟨y, cs, dig, mix, hmx, rfl, t2, hdl⟩ := hM
  -- if stream[1] > 0
  have hF : drawF S m = (drawVal (cs, dig, mix) (S.cnt + 1) m, ⟨cs, if 0 < dig then dig / m else dig, S.cnt + 1, mix, hmx⟩) := by
    unfold drawF
    simp only [hdl]
  refine ⟨_, rfl, p, _, _, _, rfl, rfl, SqL.of t2.st.hp, atI_nat (j := 1) rfl, _, _, rfl, rfl, _, rfl, ite2 (fun e => ?_) fun e => ?_⟩
  · have e0 : (0 : Int) < dig := of_decide_eq_true e
    refine ⟨_, rfl, p, _, _, _, rfl, rfl, SqL.of t2.st.hp, atI_nat (j := 1) rfl, .inl ⟨_, rfl, _, rfl, _, _, rfl, rfl, hm1, ?_⟩⟩
    refine ⟨_, rfl, p, _, _, _, rfl, rfl, SqL.of t2.st.hp, atI_nat (j := 1) rfl, _, rfl, _, _, rfl, rfl, ⟨hm1, hm2⟩, _, rfl, p, _, _, 1, rfl, rfl, t2.st.hp, rfl, _, rfl, ?_⟩
    have t3 := t2.setp (dig / m) (S.cnt + 1) mix hmx
    have q2 := qq (.int (dig % m)) B _ (by rw [hF]; simp only [if_pos e0]; exact t3) (by rw [hF]; simp only [drawVal, if_pos e0]; exact .int _)
    exact q2
  · have e0 : ¬ (0 : Int) < dig := fun z => e (decide_eq_true z)
    refine ⟨_, rfl, p, _, _, _, rfl, rfl, SqL.of t2.st.hp, atI_nat (j := 3) rfl, _, rfl, p, _, _, _, rfl, rfl, SqL.of t2.st.hp, atI_nat (j := 2) rfl, _, _, rfl, rfl, .inl ⟨by decide, by decide⟩, _, _, rfl, rfl, _, _, rfl, rfl, _, rfl, rfl, mixNat (S := ⟨cs, dig, S.cnt + 1, mix, hmx⟩) _ hcnt, .inl ⟨_, rfl, _, _, rfl, rfl, (by show (0 : Int) < 2147483629; decide), ?_⟩⟩
    have hx : 0 ≤ (mix + 7919 * ((S.cnt + 1 : Nat) : Int) + 104729) ^ 5 % 2147483629 ∧ (mix + 7919 * ((S.cnt + 1 : Nat) : Int) + 104729) ^ 5 % 2147483629 < 2147483629 := ⟨Int.emod_nonneg _ (by omega), Int.emod_lt_of_pos _ (by omega)⟩
    refine ⟨_, rfl, _, _, rfl, rfl, .inr ⟨by decide, by decide⟩, _, rfl, p, _, _, _, rfl, rfl, SqL.of t2.st.hp, atI_nat (j := 2) rfl, _, _, rfl, rfl, .inl ⟨by decide, by decide⟩, _, _, rfl, rfl, _, _, rfl, rfl, _, rfl, rfl, mulNat hx _ hcnt, .inl ⟨_, rfl, _, _, rfl, rfl, (by show (0 : Int) < 1000000007; decide), _, rfl, _, _, rfl, rfl, hm1, ?_⟩⟩
    have q2 := qq (.int (drawVal (cs, dig, mix) (S.cnt + 1) m)) B _ (by rw [hF]; simp only [if_neg e0]; exact t2) (by rw [hF]; exact .int _)
    rw [show drawVal (cs, dig, mix) (S.cnt + 1) m = ((((mix + 7919 * ((S.cnt + 1 : Nat) : Int) + 104729) ^ 5 % 2147483629) * 48271 + 30011 * ((S.cnt + 1 : Nat) : Int) + 29) ^ 3 % 1000000007) % m from if_neg e0] at q2
    exact q2
/-- the stream of a script -/
theorem ok__law_stream (T : Tops K mg) : FnOk P w K mg base CX0 1 T.f__law_stream T.fd__law_stream ["_law_script"] (spStream K) := by
  refine T.F__law_stream.ok sc__law_stream (fun vs H Q E h => ?_) (fun cdv A outer s H vs Q E hr h => ?_)
  · obtain ⟨a, ns, rfl, _⟩ := h
    rfl
  obtain ⟨a, ns, rfl, hS, q⟩ := h
  refine ⟨_, pss_one (ps_ret (pe_lst (pa_cons (pe_callTy call_list_of rfl T.n_list boot_list (pa_cons (pv 0) pa_nil)) (pa_cons pe_int (pa_cons pe_int (pa_cons pe_int pa_nil)))))), ?_⟩
  refine ⟨.ref a, rfl, a, _, rfl, .inl hS, fun l nl => ⟨by show 4 ≤ sizeLine; decide, fun r nr => ?_⟩⟩
  have hlr : l ≠ r := fun z => by rw [z, upd_same] at nr; cases nr
  exact q r l _ (Ne.symm hlr) upd_same (by rw [upd_ne hlr, upd_same])
end
end L2.Ev.K10
namespace L2.Ev.K10
open PySem PySem.Spec PyProof.Rows
section
variable {P : Program} {w : World} {K : PySem.W.Frag} {mg : Str → Option Value} {base : Heap}
def m__law_pick : MS := (mRet (mOp2 dIdx (mVar 1) (mCall F_draw (mCons (mVar 0) (mCons (mBi dLen (mCons (mVar 1) mNil)) mNil)))))
def F__law_pick : FN := mDef 2 m__law_pick
theorem ok__law_pick (T : Tops K mg) : FnPu P w K mg base 2 T.f__law_pick T.fd__law_pick ["_law_stream_here", "_law_things"] F__law_pick (kb 2) :=
  (pu_fn (n := 1) (m := m__law_pick) T.F__law_pick sc__law_pick (by decide) (fun cdv A outer s H E hr => (puss_one (pus_ret (pu_idx (pu_var 1) (pu_call (FnPu.lift (ok__law_draw T) (by decide)) hr T.g__law_draw T.F__law_draw.kp (b__law_draw T) (pua_cons (pu_var 0) (pua_cons (pu_len T.n_len (pua_cons (pu_var 1) pua_nil)) pua_nil))))))) (by delta m__law_pick; exact (c_ret (cst_op2 cst_var (c_call (ok__law_draw (P := P) (w := w) (base := base) T).cst (c_cons cst_var (c_cons (c_bi (c_cons cst_var cst_nil)) cst_nil))))))).mono (by decide +kernel)
def m__law_any_integer : MS := (mSeq (mSet 1 (mCall F_draw (mCons (mVar 0) (mCons (mC (.int 9)) mNil)))) (mSeq (mIfS (mTru (mOp2 dLt (mVar 1) (mC (.int 6)))) (mRet (mOp2 dSub (mCall F_draw (mCons (mVar 0) (mCons (mC (.int 25)) mNil))) (mC (.int 12)))) mNext) (mSeq (mIfS (mTru (mOp2 dLt (mVar 1) (mC (.int 8)))) (mRet (mOp2 dSub (mCall F_draw (mCons (mVar 0) (mCons (mC (.int 2001)) mNil))) (mC (.int 1000)))) mNext) (mSeq (mSet 2 (mOp2 dAdd (mOp2 dMul (mCall F_draw (mCons (mVar 0) (mCons (mOp2 dPow (mC (.int 10)) (mC (.int 9))) mNil))) (mOp2 dPow (mC (.int 10)) (mC (.int 31)))) (mCall F_draw (mCons (mVar 0) (mCons (mOp2 dPow (mC (.int 10)) (mC (.int 9))) mNil))))) (mRet (mIte (mTru (mOp2 dEq (mCall F_draw (mCons (mVar 0) (mCons (mC (.int 2)) mNil))) (mC (.int 0)))) (mVar 2) (mOp2 dSub (mC (.int 0)) (mVar 2))))))))
def F__law_any_integer : FN := mDef 3 m__law_any_integer
theorem ok__law_any_integer (T : Tops K mg) : FnPu P w K mg base 2 T.f__law_any_integer T.fd__law_any_integer ["_law_stream_here"] F__law_any_integer (kb 2) :=
  (pu_fn (n := 1) (m := m__law_any_integer) T.F__law_any_integer sc__law_any_integer (by decide) (fun cdv A outer s H E hr => (puss_cons (pus_set (i := 1) sc__law_any_integer.nd (pu_call (FnPu.lift (ok__law_draw T) (by decide)) hr T.g__law_draw T.F__law_draw.kp (b__law_draw T) (pua_cons (pu_var 0) (pua_cons pu_int pua_nil)))) (puss_cons (pus_if (put_lt (pu_var 1) pu_int) (puss_one (pus_ret (pu_sub (pu_call (FnPu.lift (ok__law_draw T) (by decide)) hr T.g__law_draw T.F__law_draw.kp (b__law_draw T) (pua_cons (pu_var 0) (pua_cons pu_int pua_nil))) pu_int))) puss_nil) (puss_cons (pus_if (put_lt (pu_var 1) pu_int) (puss_one (pus_ret (pu_sub (pu_call (FnPu.lift (ok__law_draw T) (by decide)) hr T.g__law_draw T.F__law_draw.kp (b__law_draw T) (pua_cons (pu_var 0) (pua_cons pu_int pua_nil))) pu_int))) puss_nil) (puss_cons (pus_set (i := 2) sc__law_any_integer.nd (pu_add (pu_mul (pu_call (FnPu.lift (ok__law_draw T) (by decide)) hr T.g__law_draw T.F__law_draw.kp (b__law_draw T) (pua_cons (pu_var 0) (pua_cons (pu_pow pu_int pu_int) pua_nil))) (pu_pow pu_int pu_int)) (pu_call (FnPu.lift (ok__law_draw T) (by decide)) hr T.g__law_draw T.F__law_draw.kp (b__law_draw T) (pua_cons (pu_var 0) (pua_cons (pu_pow pu_int pu_int) pua_nil))))) (puss_one (pus_ret (pu_ite (put_eq hr (pu_call (FnPu.lift (ok__law_draw T) (by decide)) hr T.g__law_draw T.F__law_draw.kp (b__law_draw T) (pua_cons (pu_var 0) (pua_cons pu_int pua_nil))) pu_int) (pu_var 2) (pu_sub pu_int (pu_var 2)))))))))) (by delta m__law_any_integer; exact (cst_seq (c_set (c_call (ok__law_draw (P := P) (w := w) (base := base) T).cst (c_cons cst_var (c_cons cst_c cst_nil)))) (cst_seq (c_ifS (c_tru (cst_op2 cst_var cst_c)) (c_ret (cst_op2 (c_call (ok__law_draw (P := P) (w := w) (base := base) T).cst (c_cons cst_var (c_cons cst_c cst_nil))) cst_c)) cst_next) (cst_seq (c_ifS (c_tru (cst_op2 cst_var cst_c)) (c_ret (cst_op2 (c_call (ok__law_draw (P := P) (w := w) (base := base) T).cst (c_cons cst_var (c_cons cst_c cst_nil))) cst_c)) cst_next) (cst_seq (c_set (cst_op2 (cst_op2 (c_call (ok__law_draw (P := P) (w := w) (base := base) T).cst (c_cons cst_var (c_cons (cst_op2 cst_c cst_c) cst_nil))) (cst_op2 cst_c cst_c)) (c_call (ok__law_draw (P := P) (w := w) (base := base) T).cst (c_cons cst_var (c_cons (cst_op2 cst_c cst_c) cst_nil))))) (c_ret (c_ite (c_tru (cst_op2 (c_call (ok__law_draw (P := P) (w := w) (base := base) T).cst (c_cons cst_var (c_cons cst_c cst_nil))) cst_c)) cst_var (cst_op2 cst_c cst_var))))))))).mono (by decide +kernel)
def m__law_strip_quadruple : MS := (mSeq (mSet 1 (mIte (mTru (mOp2 dEq (mCall F_draw (mCons (mVar 0) (mCons (mC (.int 4)) mNil))) (mC (.int 0)))) (mC .non) (mCall F__law_any_integer (mCons (mVar 0) mNil)))) (mSeq (mSet 2 (mIte (mTru (mOp2 dEq (mCall F_draw (mCons (mVar 0) (mCons (mC (.int 4)) mNil))) (mC (.int 0)))) (mC .non) (mCall F__law_any_integer (mCons (mVar 0) mNil)))) (mSeq (mIfS (mAndT (mTru (mOp1 dNotN (mVar 1))) (mTru (mOp2 dGt (mCall F_draw (mCons (mVar 0) (mCons (mC (.int 3)) mNil))) (mC (.int 0))))) (mSet 2 (mOp2 dAdd (mVar 1) (mCall F__law_pick (mCons (mVar 0) (mCons (mLst (mCons (mC (.int 0)) (mCons (mC (.int 1)) (mCons (mC (.int 2)) (mCons (mC (.int 5)) (mCons (mC (.int 9)) (mCons (mC (.int 17)) (mCons (mC (.int 40)) (mCons (mC (.int 400)) mNil))))))))) mNil))))) mNext) (mSeq (mSet 3 (mCall F__law_pick (mCons (mVar 0) (mCons (mLst (mCons (mC (.int 0)) (mCons (mC (.int 1)) (mCons (mC (.int 1)) (mCons (mC (.int 2)) (mCons (mC (.int 3)) (mCons (mC (.int 4)) (mCons (mC (.int 5)) (mCons (mC (.int 6)) (mCons (mC (.int 8)) (mCons (mC (.int 9)) (mCons (mC (.int 12)) (mCons (mC (.int 60)) (mCons (mBi dAbs (mCons (mCall F__law_any_integer (mCons (mVar 0) mNil)) mNil)) mNil)))))))))))))) mNil)))) (mRet (mTup (mCons (mVar 1) (mCons (mVar 2) (mCons (mVar 3) (mCons (mCall F__law_any_integer (mCons (mVar 0) mNil)) mNil))))))))))
def F__law_strip_quadruple : FN := mDef 4 m__law_strip_quadruple
theorem ok__law_strip_quadruple (T : Tops K mg) : FnPu P w K mg base 3 T.f__law_strip_quadruple T.fd__law_strip_quadruple ["_law_stream_here"] F__law_strip_quadruple (kb 3) :=
  (pu_fn (n := 2) (m := m__law_strip_quadruple) T.F__law_strip_quadruple sc__law_strip_quadruple (by decide) (fun cdv A outer s H E hr => (puss_cons (pus_set (i := 1) sc__law_strip_quadruple.nd (pu_ite (put_eq hr (pu_call (FnPu.lift (ok__law_draw T) (by decide)) hr T.g__law_draw T.F__law_draw.kp (b__law_draw T) (pua_cons (pu_var 0) (pua_cons pu_int pua_nil))) pu_int) pu_non (pu_call (FnPu.lift (ok__law_any_integer T) (by decide)) hr T.g__law_any_integer T.F__law_any_integer.kp (b__law_any_integer T) (pua_cons (pu_var 0) pua_nil)))) (puss_cons (pus_set (i := 2) sc__law_strip_quadruple.nd (pu_ite (put_eq hr (pu_call (FnPu.lift (ok__law_draw T) (by decide)) hr T.g__law_draw T.F__law_draw.kp (b__law_draw T) (pua_cons (pu_var 0) (pua_cons pu_int pua_nil))) pu_int) pu_non (pu_call (FnPu.lift (ok__law_any_integer T) (by decide)) hr T.g__law_any_integer T.F__law_any_integer.kp (b__law_any_integer T) (pua_cons (pu_var 0) pua_nil)))) (puss_cons (pus_if (PuW.pt (puw_and (put_notN (pu_var 1)) (puw_and1 (put_gt (pu_call (FnPu.lift (ok__law_draw T) (by decide)) hr T.g__law_draw T.F__law_draw.kp (b__law_draw T) (pua_cons (pu_var 0) (pua_cons pu_int pua_nil))) pu_int)))) (puss_one (pus_set (i := 2) sc__law_strip_quadruple.nd (pu_add (pu_var 1) (pu_call (FnPu.lift (ok__law_pick T) (by decide)) hr T.g__law_pick T.F__law_pick.kp (b__law_pick T) (pua_cons (pu_var 0) (pua_cons (pu_fresh (puf_lst (pua_cons pu_int (pua_cons pu_int (pua_cons pu_int (pua_cons pu_int (pua_cons pu_int (pua_cons pu_int (pua_cons pu_int (pua_cons pu_int pua_nil)))))))))) pua_nil)))))) puss_nil) (puss_cons (pus_set (i := 3) sc__law_strip_quadruple.nd (pu_call (FnPu.lift (ok__law_pick T) (by decide)) hr T.g__law_pick T.F__law_pick.kp (b__law_pick T) (pua_cons (pu_var 0) (pua_cons (pu_fresh (puf_lst (pua_cons pu_int (pua_cons pu_int (pua_cons pu_int (pua_cons pu_int (pua_cons pu_int (pua_cons pu_int (pua_cons pu_int (pua_cons pu_int (pua_cons pu_int (pua_cons pu_int (pua_cons pu_int (pua_cons pu_int (pua_cons (pu_abs T.n_abs (pua_cons (pu_call (FnPu.lift (ok__law_any_integer T) (by decide)) hr T.g__law_any_integer T.F__law_any_integer.kp (b__law_any_integer T) (pua_cons (pu_var 0) pua_nil)) pua_nil)) pua_nil))))))))))))))) pua_nil)))) (puss_one (pus_ret (pu_tup (pua_cons (pu_var 1) (pua_cons (pu_var 2) (pua_cons (pu_var 3) (pua_cons (pu_call (FnPu.lift (ok__law_any_integer T) (by decide)) hr T.g__law_any_integer T.F__law_any_integer.kp (b__law_any_integer T) (pua_cons (pu_var 0) pua_nil)) pua_nil)))))))))))) (by delta m__law_strip_quadruple; exact (cst_seq (c_set (c_ite (c_tru (cst_op2 (c_call (ok__law_draw (P := P) (w := w) (base := base) T).cst (c_cons cst_var (c_cons cst_c cst_nil))) cst_c)) cst_c (c_call (ok__law_any_integer (P := P) (w := w) (base := base) T).cst (c_cons cst_var cst_nil)))) (cst_seq (c_set (c_ite (c_tru (cst_op2 (c_call (ok__law_draw (P := P) (w := w) (base := base) T).cst (c_cons cst_var (c_cons cst_c cst_nil))) cst_c)) cst_c (c_call (ok__law_any_integer (P := P) (w := w) (base := base) T).cst (c_cons cst_var cst_nil)))) (cst_seq (c_ifS (c_andT (c_tru (c_op1 cst_var)) (c_tru (cst_op2 (c_call (ok__law_draw (P := P) (w := w) (base := base) T).cst (c_cons cst_var (c_cons cst_c cst_nil))) cst_c))) (c_set (cst_op2 cst_var (c_call (ok__law_pick (P := P) (w := w) (base := base) T).cst (c_cons cst_var (c_cons (c_lst (c_cons cst_c (c_cons cst_c (c_cons cst_c (c_cons cst_c (c_cons cst_c (c_cons cst_c (c_cons cst_c (c_cons cst_c cst_nil))))))))) cst_nil))))) cst_next) (cst_seq (c_set (c_call (ok__law_pick (P := P) (w := w) (base := base) T).cst (c_cons cst_var (c_cons (c_lst (c_cons cst_c (c_cons cst_c (c_cons cst_c (c_cons cst_c (c_cons cst_c (c_cons cst_c (c_cons cst_c (c_cons cst_c (c_cons cst_c (c_cons cst_c (c_cons cst_c (c_cons cst_c (c_cons (c_bi (c_cons (c_call (ok__law_any_integer (P := P) (w := w) (base := base) T).cst (c_cons cst_var cst_nil)) cst_nil)) cst_nil)))))))))))))) cst_nil)))) (c_ret (c_tup (c_cons cst_var (c_cons cst_var (c_cons cst_var (c_cons (c_call (ok__law_any_integer (P := P) (w := w) (base := base) T).cst (c_cons cst_var cst_nil)) cst_nil)))))))))))).mono (by decide +kernel)
def m__law_strip_brought : MS := (mSeq (mIfS (mTru (mOp2 dEq (mVar 2) (mC (.int 0)))) (mSeq (mSet 4 (mAnd (mOr (mOp1 dIsN (mVar 0)) (mOp2 dGe (mVar 3) (mVar 0))) (mOr (mOp1 dIsN (mVar 1)) (mOp2 dLe (mVar 3) (mVar 1))))) (mRet (mIte (mTru (mVar 4)) (mTup (mCons (mVar 3) (mCons (mVar 3) (mCons (mC (.int 0)) (mCons (mVar 3) mNil))))) (mC .non)))) mNext) (mSeq (mSet 3 (mOp2 dSub (mVar 3) (mOp2 dMul (mVar 2) (mOp2 dDiv (mVar 3) (mVar 2))))) (mSeq (mIfS (mTru (mOp1 dNotN (mVar 0))) (mSet 0 (mOp2 dSub (mOp2 dAdd (mVar 0) (mOp2 dSub (mVar 3) (mVar 0))) (mOp2 dMul (mVar 2) (mOp2 dDiv (mOp2 dSub (mVar 3) (mVar 0)) (mVar 2))))) mNext) (mSeq (mIfS (mTru (mOp1 dNotN (mVar 1))) (mSet 1 (mOp2 dAdd (mOp2 dSub (mVar 1) (mOp2 dSub (mVar 1) (mVar 3))) (mOp2 dMul (mVar 2) (mOp2 dDiv (mOp2 dSub (mVar 1) (mVar 3)) (mVar 2))))) mNext) (mSeq (mIfS (mAndT (mTru (mOp1 dNotN (mVar 0))) (mAndT (mTru (mOp1 dNotN (mVar 1))) (mTru (mOp2 dGe (mVar 0) (mVar 1))))) (mRet (mIte (mTru (mOp2 dGt (mVar 0) (mVar 1))) (mC .non) (mTup (mCons (mVar 0) (mCons (mVar 0) (mCons (mC (.int 0)) (mCons (mVar 0) mNil))))))) mNext) (mRet (mTup (mCons (mVar 0) (mCons (mVar 1) (mCons (mVar 2) (mCons (mVar 3) mNil)))))))))))
def F__law_strip_brought : FN := mDef 5 m__law_strip_brought
theorem ok__law_strip_brought (T : Tops K mg) : FnPu P w K mg base 1 T.f__law_strip_brought T.fd__law_strip_brought ["_law_low", "_law_high", "_law_step", "_law_rest"] F__law_strip_brought (kb 1) :=
  (pu_fn (n := 0) (m := m__law_strip_brought) T.F__law_strip_brought sc__law_strip_brought (by decide) (fun cdv A outer s H E hr => (puss_cons (pus_if (put_eq hr (pu_var 2) pu_int) (puss_cons (pus_set (i := 4) sc__law_strip_brought.nd (pu_and (pu_or (pu_isN (pu_var 0)) (pu_one (pu_ge (pu_var 3) (pu_var 0)))) (pu_one (pu_or (pu_isN (pu_var 1)) (pu_one (pu_le (pu_var 3) (pu_var 1))))))) (puss_one (pus_ret (pu_ite (put_val (pu_var 4)) (pu_tup (pua_cons (pu_var 3) (pua_cons (pu_var 3) (pua_cons pu_int (pua_cons (pu_var 3) pua_nil))))) pu_non)))) puss_nil) (puss_cons (pus_set (i := 3) sc__law_strip_brought.nd (pu_sub (pu_var 3) (pu_mul (pu_var 2) (pu_div (pu_var 3) (pu_var 2))))) (puss_cons (pus_if (put_notN (pu_var 0)) (puss_one (pus_set (i := 0) sc__law_strip_brought.nd (pu_sub (pu_add (pu_var 0) (pu_sub (pu_var 3) (pu_var 0))) (pu_mul (pu_var 2) (pu_div (pu_sub (pu_var 3) (pu_var 0)) (pu_var 2)))))) puss_nil) (puss_cons (pus_if (put_notN (pu_var 1)) (puss_one (pus_set (i := 1) sc__law_strip_brought.nd (pu_add (pu_sub (pu_var 1) (pu_sub (pu_var 1) (pu_var 3))) (pu_mul (pu_var 2) (pu_div (pu_sub (pu_var 1) (pu_var 3)) (pu_var 2)))))) puss_nil) (puss_cons (pus_if (PuW.pt (puw_and (put_notN (pu_var 0)) (puw_and (put_notN (pu_var 1)) (puw_and1 (put_ge (pu_var 0) (pu_var 1)))))) (puss_one (pus_ret (pu_ite (put_gt (pu_var 0) (pu_var 1)) pu_non (pu_tup (pua_cons (pu_var 0) (pua_cons (pu_var 0) (pua_cons pu_int (pua_cons (pu_var 0) pua_nil)))))))) puss_nil) (puss_one (pus_ret (pu_tup (pua_cons (pu_var 0) (pua_cons (pu_var 1) (pua_cons (pu_var 2) (pua_cons (pu_var 3) pua_nil))))))))))))) (by delta m__law_strip_brought; exact (cst_seq (c_ifS (c_tru (cst_op2 cst_var cst_c)) (cst_seq (c_set (c_and (c_or (c_op1 cst_var) (cst_op2 cst_var cst_var)) (c_or (c_op1 cst_var) (cst_op2 cst_var cst_var)))) (c_ret (c_ite (c_tru cst_var) (c_tup (c_cons cst_var (c_cons cst_var (c_cons cst_c (c_cons cst_var cst_nil))))) cst_c))) cst_next) (cst_seq (c_set (cst_op2 cst_var (cst_op2 cst_var (cst_op2 cst_var cst_var)))) (cst_seq (c_ifS (c_tru (c_op1 cst_var)) (c_set (cst_op2 (cst_op2 cst_var (cst_op2 cst_var cst_var)) (cst_op2 cst_var (cst_op2 (cst_op2 cst_var cst_var) cst_var)))) cst_next) (cst_seq (c_ifS (c_tru (c_op1 cst_var)) (c_set (cst_op2 (cst_op2 cst_var (cst_op2 cst_var cst_var)) (cst_op2 cst_var (cst_op2 (cst_op2 cst_var cst_var) cst_var)))) cst_next) (cst_seq (c_ifS (c_andT (c_tru (c_op1 cst_var)) (c_andT (c_tru (c_op1 cst_var)) (c_tru (cst_op2 cst_var cst_var)))) (c_ret (c_ite (c_tru (cst_op2 cst_var cst_var)) cst_c (c_tup (c_cons cst_var (c_cons cst_var (c_cons cst_c (c_cons cst_var cst_nil))))))) cst_next) (c_ret (c_tup (c_cons cst_var (c_cons cst_var (c_cons cst_var (c_cons cst_var cst_nil))))))))))))).mono (by decide +kernel)
def m__law_each_once : MS := (mSeq (mSetF 1 mNil) (mSeq (mFor (gN 2) (mIt (mVar 0)) (mExtend 1 (mIte (mBorT 1 (mTru (mOp2 (dInG true) (mVar 2) (mVar 1)))) (mLst (mCons (mVar 2) mNil)) (mLst mNil)))) (mFrz 1 (mRet (mVar 1)))))
def F__law_each_once : FN := mDef 3 m__law_each_once
theorem ok__law_each_once (T : Tops K mg) : FnPu P w K mg base 1 T.f__law_each_once T.fd__law_each_once ["_law_some"] F__law_each_once (kb 1) :=
  (pu_fn (n := 0) (m := m__law_each_once) T.F__law_each_once sc__law_each_once (by decide) (fun cdv A outer s H E hr => (puss_cons (pus_setF (i := 1) sc__law_each_once.nd (puf_lst pua_nil)) (puss_cons (pus_for PassesOwn.never rfl (pui_seq (pu_var 0)) (pug_name sc__law_each_once.nd) (puss_one (pus_extend 1 (pv 1) (pu_ite (put_bor 1 (put_notIn (pu_var 2) (pu_var 1))) (pu_fresh (puf_lst (pua_cons (pu_var 2) pua_nil))) (pu_fresh (puf_lst pua_nil))) (hpe := fun _ h => pe_bm PySem.F.plainAttrs_list PySem.F.slot_list_extend PySem.F.type_list_extend mt_extend (pv 1) h)))) (puss_one (pus_frz 1 (pus_ret (pu_var 1))))))) (by delta m__law_each_once; exact (cst_seq (c_setF cst_nil) (cst_seq (cst_for (c_it cst_var) (c_extend (c_ite (c_borT (c_tru (cst_op2 cst_var cst_var))) (c_lst (c_cons cst_var cst_nil)) (c_lst cst_nil)))) (c_frz (c_ret cst_var)))))).mono (by decide +kernel)
def m__law_strip_in : MS := (mSeq (mIfS (mOrT (mTru (mOp1 dIsN (mVar 0))) (mOrT (mAndT (mTru (mOp1 dNotN (mOp2 dIdx (mVar 0) (mC (.int 0))))) (mTru (mOp2 dLt (mVar 1) (mOp2 dIdx (mVar 0) (mC (.int 0)))))) (mAndT (mTru (mOp1 dNotN (mOp2 dIdx (mVar 0) (mC (.int 1))))) (mTru (mOp2 dGt (mVar 1) (mOp2 dIdx (mVar 0) (mC (.int 1)))))))) (mRet (mC (.bl false))) mNext) (mRet (mIte (mTru (mOp2 dEq (mOp2 dIdx (mVar 0) (mC (.int 2))) (mC (.int 0)))) (mOp2 dEq (mVar 1) (mOp2 dIdx (mVar 0) (mC (.int 3)))) (mOp2 dEq (mOp2 dSub (mVar 1) (mOp2 dIdx (mVar 0) (mC (.int 3)))) (mOp2 dMul (mOp2 dIdx (mVar 0) (mC (.int 2))) (mOp2 dDiv (mOp2 dSub (mVar 1) (mOp2 dIdx (mVar 0) (mC (.int 3)))) (mOp2 dIdx (mVar 0) (mC (.int 2)))))))))
def F__law_strip_in : FN := mDef 2 m__law_strip_in
theorem ok__law_strip_in (T : Tops K mg) : FnPu P w K mg base 1 T.f__law_strip_in T.fd__law_strip_in ["_law_strip", "_law_n"] F__law_strip_in (kb 1) :=
  (pu_fn (n := 0) (m := m__law_strip_in) T.F__law_strip_in sc__law_strip_in (by decide) (fun cdv A outer s H E hr => (puss_cons (pus_if (PuW.pt (puw_or (put_isN (pu_var 0)) (puw_or (PuW.pt (puw_and (put_notN (pu_idx (pu_var 0) pu_int)) (puw_and1 (put_lt (pu_var 1) (pu_idx (pu_var 0) pu_int))))) (puw_or1 (PuW.pt (puw_and (put_notN (pu_idx (pu_var 0) pu_int)) (puw_and1 (put_gt (pu_var 1) (pu_idx (pu_var 0) pu_int))))))))) (puss_one (pus_ret pu_bl)) puss_nil) (puss_one (pus_ret (pu_ite (put_eq hr (pu_idx (pu_var 0) pu_int) pu_int) (pu_eq hr (pu_var 1) (pu_idx (pu_var 0) pu_int)) (pu_eq hr (pu_sub (pu_var 1) (pu_idx (pu_var 0) pu_int)) (pu_mul (pu_idx (pu_var 0) pu_int) (pu_div (pu_sub (pu_var 1) (pu_idx (pu_var 0) pu_int)) (pu_idx (pu_var 0) pu_int))))))))) (by delta m__law_strip_in; exact (cst_seq (c_ifS (c_orT (c_tru (c_op1 cst_var)) (c_orT (c_andT (c_tru (c_op1 (cst_op2 cst_var cst_c))) (c_tru (cst_op2 cst_var (cst_op2 cst_var cst_c)))) (c_andT (c_tru (c_op1 (cst_op2 cst_var cst_c))) (c_tru (cst_op2 cst_var (cst_op2 cst_var cst_c)))))) (c_ret cst_c) cst_next) (c_ret (c_ite (c_tru (cst_op2 (cst_op2 cst_var cst_c) cst_c)) (cst_op2 cst_var (cst_op2 cst_var cst_c)) (cst_op2 (cst_op2 cst_var (cst_op2 cst_var cst_c)) (cst_op2 (cst_op2 cst_var cst_c) (cst_op2 (cst_op2 cst_var (cst_op2 cst_var cst_c)) (cst_op2 cst_var cst_c))))))))).mono (by decide +kernel)
def m__law_strip_some : MS := (mSeq (mIfS (mTru (mOp1 dIsN (mVar 0))) (mRet (mLst mNil)) mNext) (mSeq (mAsg (gT 4 (gCo (gN 4) (gCo (gN 5) (gCo (gN 6) (gCo (gN 7) gNl))))) (mVar 0)) (mSeq (mSet 2 (mIte (mTru (mOp1 dNotN (mVar 4))) (mVar 4) (mIte (mTru (mOp1 dNotN (mVar 5))) (mVar 5) (mVar 7)))) (mSeq (mSetF 3 (mComp [8] (gN 8) (mRange2 (mCons (mOp1 dNeg (mVar 1)) (mCons (mOp2 dAdd (mVar 1) (mC (.int 1))) mNil))) (mPure (some true)) (mOp2 dAdd (mVar 2) (mOp2 dMul (mVar 8) (mVar 6))))) (mSeq (mExtend 3 (mIte (mTru (mOp1 dNotN (mVar 5))) (mLst (mComp [8] (gN 8) (mRange1 (mCons (mOp2 dAdd (mVar 1) (mC (.int 1))) mNil)) (mPure (some true)) (mOp2 dSub (mVar 5) (mOp2 dMul (mVar 8) (mVar 6))))) (mLst mNil))) (mFrz 3 (mRet (mCall F__law_each_once (mCons (mLst (mComp [9] (gN 9) (mIt (mVar 3)) (mTru (mCall F__law_strip_in (mCons (mVar 0) (mCons (mVar 9) mNil)))) (mVar 9))) mNil)))))))))
def F__law_strip_some : FN := mDef 10 m__law_strip_some
theorem ok__law_strip_some (T : Tops K mg) : FnPu P w K mg base 2 T.f__law_strip_some T.fd__law_strip_some ["_law_strip", "_law_far"] F__law_strip_some (kb 2) :=
  (pu_fn (n := 1) (m := m__law_strip_some) T.F__law_strip_some sc__law_strip_some (by decide) (fun cdv A outer s H E hr => (puss_cons (pus_if (put_isN (pu_var 0)) (puss_one (pus_ret (pu_fresh (puf_lst pua_nil)))) puss_nil) (puss_cons (pus_asg (pu_var 0) (pug_tup rfl (pugs_cons (pug_name sc__law_strip_some.nd) (pugs_cons (pug_name sc__law_strip_some.nd) (pugs_cons (pug_name sc__law_strip_some.nd) (pugs_cons (pug_name sc__law_strip_some.nd) pugs_nil)))))) (puss_cons (pus_set (i := 2) sc__law_strip_some.nd (pu_ite (put_notN (pu_var 4)) (pu_var 4) (pu_ite (put_notN (pu_var 5)) (pu_var 5) (pu_var 7)))) (puss_cons (pus_setLc (i := 3) (PuLc.mk (own := [("_law_k", 8)]) rfl sc__law_strip_some.nd (pui_range2 T.n_range (pua_cons (pu_neg (pu_var 1)) (pua_cons (pu_add (pu_var 1) pu_int) pua_nil))) (blkOk_by (N := ["_law_strip", "_law_far", "_law_begin", "_law_found", "_law_low", "_law_high", "_law_step", "_law_rest", "_law_k", "_law_n"]) (sc := defScope s__law_strip_some) (by decide +kernel)) (fun _ _ _ _ _ => (pug_name sc__law_strip_some.nd)) (fun _ _ _ _ _ => puts_nil) (fun _ _ _ _ _ => (pu_add (pu_var 2) (pu_mul (pu_var 8) (pu_var 6)))) (by decide) (by intro _; rfl) cst_pure (cst_op2 cst_var (cst_op2 cst_var cst_var)))) (puss_cons (pus_extend 3 (pv 3) (pu_ite (put_notN (pu_var 5)) (pu_fresh (puf_comp (PuLc.mk (own := [("_law_k", 8)]) rfl sc__law_strip_some.nd (pui_range1 T.n_range (pua_cons (pu_add (pu_var 1) pu_int) pua_nil)) (blkOk_by (N := ["_law_strip", "_law_far", "_law_begin", "_law_found", "_law_low", "_law_high", "_law_step", "_law_rest", "_law_k", "_law_n"]) (sc := defScope s__law_strip_some) (by decide +kernel)) (fun _ _ _ _ _ => (pug_name sc__law_strip_some.nd)) (fun _ _ _ _ _ => puts_nil) (fun _ _ _ _ _ => (pu_sub (pu_var 5) (pu_mul (pu_var 8) (pu_var 6)))) (by decide) (by intro _; rfl) cst_pure (cst_op2 cst_var (cst_op2 cst_var cst_var))))) (pu_fresh (puf_lst pua_nil))) (hpe := fun _ h => pe_bm PySem.F.plainAttrs_list PySem.F.slot_list_extend PySem.F.type_list_extend mt_extend (pv 3) h)) (puss_one (pus_frz 3 (pus_ret (pu_call (FnPu.lift (ok__law_each_once T) (by decide)) hr T.g__law_each_once T.F__law_each_once.kp (b__law_each_once T) (pua_cons (pu_fresh (puf_comp (PuLc.mk (own := [("_law_n", 9)]) rfl sc__law_strip_some.nd (pui_seq (pu_var 3)) (blkOk_by (N := ["_law_strip", "_law_far", "_law_begin", "_law_found", "_law_low", "_law_high", "_law_step", "_law_rest", "_law_k", "_law_n"]) (sc := defScope s__law_strip_some) (by decide +kernel)) (fun _ _ _ _ _ => (pug_name sc__law_strip_some.nd)) (fun _ _ _ _ _ => (puts_one (put_val (pu_call (FnPu.lift (ok__law_strip_in T) (by decide)) hr T.g__law_strip_in T.F__law_strip_in.kp (b__law_strip_in T) (pua_cons (pu_var 0) (pua_cons (pu_var 9) pua_nil)))))) (fun _ _ _ _ _ => (pu_var 9)) (by decide) (by intro _; rfl) (c_tru (c_call (ok__law_strip_in (P := P) (w := w) (base := base) T).cst (c_cons cst_var (c_cons cst_var cst_nil)))) cst_var))) pua_nil))))))))))) (by delta m__law_strip_some; exact (cst_seq (c_ifS (c_tru (c_op1 cst_var)) (c_ret (c_lst cst_nil)) cst_next) (cst_seq (c_asg cst_var) (cst_seq (c_set (c_ite (c_tru (c_op1 cst_var)) cst_var (c_ite (c_tru (c_op1 cst_var)) cst_var cst_var))) (cst_seq (c_setF (cst_comp (c_range2 (c_cons (c_op1 cst_var) (c_cons (cst_op2 cst_var cst_c) cst_nil))) cst_pure (cst_op2 cst_var (cst_op2 cst_var cst_var)))) (cst_seq (c_extend (c_ite (c_tru (c_op1 cst_var)) (c_lst (cst_comp (c_range1 (c_cons (cst_op2 cst_var cst_c) cst_nil)) cst_pure (cst_op2 cst_var (cst_op2 cst_var cst_var)))) (c_lst cst_nil))) (c_frz (c_ret (c_call (ok__law_each_once (P := P) (w := w) (base := base) T).cst (c_cons (c_lst (cst_comp (c_it cst_var) (c_tru (c_call (ok__law_strip_in (P := P) (w := w) (base := base) T).cst (c_cons cst_var (c_cons cst_var cst_nil)))) cst_var)) cst_nil))))))))))).mono (by decide +kernel)
def m__law_probes : MS := (mSeq (mSet 3 (mOp2 dAdd (mCall F__law_strip_some (mCons (mVar 1) (mCons (mC (.int 2)) mNil))) (mLst (mComp [4] (gN 4) (mIt (mVar 2)) (mTru (mOp1 dNotN (mVar 4))) (mVar 4))))) (mSeq (mSet 3 (mOp2 dAdd (mOp2 dAdd (mOp2 dAdd (mVar 3) (mLst (mComp [5] (gN 5) (mIt (mVar 3)) (mPure (some true)) (mOp2 dAdd (mVar 5) (mC (.int 1)))))) (mLst (mComp [5] (gN 5) (mIt (mVar 3)) (mPure (some true)) (mOp2 dSub (mVar 5) (mC (.int 1)))))) (mLst (mCons (mCall F__law_any_integer (mCons (mVar 0) mNil)) mNil)))) (mRet (mCall F__law_each_once (mCons (mVar 3) mNil)))))
def F__law_probes : FN := mDef 6 m__law_probes
theorem ok__law_probes (T : Tops K mg) : FnPu P w K mg base 3 T.f__law_probes T.fd__law_probes ["_law_stream_here", "_law_strip", "_law_quadruple"] F__law_probes (kb 3) :=
  (pu_fn (n := 2) (m := m__law_probes) T.F__law_probes sc__law_probes (by decide) (fun cdv A outer s H E hr => (puss_cons (pus_set (i := 3) sc__law_probes.nd (pu_add (pu_call (FnPu.lift (ok__law_strip_some T) (by decide)) hr T.g__law_strip_some T.F__law_strip_some.kp (b__law_strip_some T) (pua_cons (pu_var 1) (pua_cons pu_int pua_nil))) (pu_fresh (puf_comp (PuLc.mk (own := [("_law_end", 4)]) rfl sc__law_probes.nd (pui_seq (pu_var 2)) (blkOk_by (N := ["_law_stream_here", "_law_strip", "_law_quadruple", "_law_found", "_law_end", "_law_n"]) (sc := defScope s__law_probes) (by decide +kernel)) (fun _ _ _ _ _ => (pug_name sc__law_probes.nd)) (fun _ _ _ _ _ => (puts_one (put_notN (pu_var 4)))) (fun _ _ _ _ _ => (pu_var 4)) (by decide) (by intro _; rfl) (c_tru (c_op1 cst_var)) cst_var))))) (puss_cons (pus_set (i := 3) sc__law_probes.nd (pu_add (pu_add (pu_add (pu_var 3) (pu_fresh (puf_comp (PuLc.mk (own := [("_law_n", 5)]) rfl sc__law_probes.nd (pui_seq (pu_var 3)) (blkOk_by (N := ["_law_stream_here", "_law_strip", "_law_quadruple", "_law_found", "_law_end", "_law_n"]) (sc := defScope s__law_probes) (by decide +kernel)) (fun _ _ _ _ _ => (pug_name sc__law_probes.nd)) (fun _ _ _ _ _ => puts_nil) (fun _ _ _ _ _ => (pu_add (pu_var 5) pu_int)) (by decide) (by intro _; rfl) cst_pure (cst_op2 cst_var cst_c))))) (pu_fresh (puf_comp (PuLc.mk (own := [("_law_n", 5)]) rfl sc__law_probes.nd (pui_seq (pu_var 3)) (blkOk_by (N := ["_law_stream_here", "_law_strip", "_law_quadruple", "_law_found", "_law_end", "_law_n"]) (sc := defScope s__law_probes) (by decide +kernel)) (fun _ _ _ _ _ => (pug_name sc__law_probes.nd)) (fun _ _ _ _ _ => puts_nil) (fun _ _ _ _ _ => (pu_sub (pu_var 5) pu_int)) (by decide) (by intro _; rfl) cst_pure (cst_op2 cst_var cst_c))))) (pu_fresh (puf_lst (pua_cons (pu_call (FnPu.lift (ok__law_any_integer T) (by decide)) hr T.g__law_any_integer T.F__law_any_integer.kp (b__law_any_integer T) (pua_cons (pu_var 0) pua_nil)) pua_nil))))) (puss_one (pus_ret (pu_call (FnPu.lift (ok__law_each_once T) (by decide)) hr T.g__law_each_once T.F__law_each_once.kp (b__law_each_once T) (pua_cons (pu_var 3) pua_nil))))))) (by delta m__law_probes; exact (cst_seq (c_set (cst_op2 (c_call (ok__law_strip_some (P := P) (w := w) (base := base) T).cst (c_cons cst_var (c_cons cst_c cst_nil))) (c_lst (cst_comp (c_it cst_var) (c_tru (c_op1 cst_var)) cst_var)))) (cst_seq (c_set (cst_op2 (cst_op2 (cst_op2 cst_var (c_lst (cst_comp (c_it cst_var) cst_pure (cst_op2 cst_var cst_c)))) (c_lst (cst_comp (c_it cst_var) cst_pure (cst_op2 cst_var cst_c)))) (c_lst (c_cons (c_call (ok__law_any_integer (P := P) (w := w) (base := base) T).cst (c_cons cst_var cst_nil)) cst_nil)))) (c_ret (c_call (ok__law_each_once (P := P) (w := w) (base := base) T).cst (c_cons cst_var cst_nil))))))).mono (by decide +kernel)
def m__law_same (F : FN) : MS := (mSeq (mIfS (mTru (mOp1 (dIsI [Ty.list, Ty.tuple]) (mVar 1))) (mSeq (mIfS (mOrT (mTru (mOp2 dNe (mOp1 (dIsI [Ty.list]) (mVar 0)) (mOp1 (dIsI [Ty.list]) (mVar 1)))) (mTru (mOp2 dNe (mOp1 (dIsI [Ty.tuple]) (mVar 0)) (mOp1 (dIsI [Ty.tuple]) (mVar 1))))) (mRet (mC (.bl false))) mNext) (mRet (mAnd (mOp2 dEq (mBi dLen (mCons (mVar 0) mNil)) (mBi dLen (mCons (mVar 1) mNil))) (mBi dAll (mCons (mLst (mComp [3, 4] (gT 2 (gCo (gN 3) (gCo (gN 4) gNl))) (mZip (mCons (mVar 0) (mCons (mVar 1) mNil))) (mPure (some true)) (mCall F (mCons (mVar 3) (mCons (mVar 4) mNil))))) mNil))))) mNext) (mSeq (mIfS (mTru (mOp1 (dIsI [Ty.dict]) (mVar 1))) (mSeq (mIfS (mOrT (mNotT (mTru (mOp1 (dIsI [Ty.dict]) (mVar 0)))) (mTru (mOp2 dNe (mBi dLen (mCons (mVar 0) mNil)) (mBi dLen (mCons (mVar 1) mNil))))) (mRet (mC (.bl false))) mNext) (mRet (mBi dAll (mCons (mLst (mComp [2] (gN 2) (mIt (mVar 1)) (mPure (some true)) (mAnd (mOp2 (dInG false) (mVar 2) (mVar 0)) (mCall F (mCons (mOp2 dIdx (mVar 0) (mVar 2)) (mCons (mOp2 dIdx (mVar 1) (mVar 2)) mNil)))))) mNil)))) mNext) (mSeq (mIfS (mOrT (mTru (mOp1 (dIsI [Ty.bool]) (mVar 1))) (mTru (mOp1 (dIsI [Ty.bool]) (mVar 0)))) (mRet (mAnd (mOp1 (dIsI [Ty.bool]) (mVar 1)) (mAnd (mOp1 (dIsI [Ty.bool]) (mVar 0)) (mOp2 dEq (mVar 0) (mVar 1))))) mNext) (mRet (mAnd (mOp1 dNot (mOp1 (dIsI [Ty.list, Ty.tuple, Ty.dict]) (mVar 0))) (mOp2 dEq (mVar 0) (mVar 1)))))))
def F__law_same : Nat → FN
  | 0 => fun _ _ => none
  | n + 1 => mDef 5 (m__law_same (F__law_same n))
theorem ok__law_same (T : Tops K mg) : ∀ n : Nat, FnPu P w K mg base (1 + n) T.f__law_same T.fd__law_same ["_law_found", "_law_due"] (F__law_same n) (kb (1 + n))
  | 0 => ⟨never_ok 0 T.F__law_same sc__law_same (by decide), fun ds S d S' e => by cases e⟩
  | n + 1 => by
    have hF := ok__law_same T n
    refine (pu_fn (n := 1 + n) (m := m__law_same (F__law_same n)) T.F__law_same sc__law_same (by decide) (fun cdv A outer s H E hr => (puss_cons (pus_if (put_val (pu_isiT [Ty.list, Ty.tuple] T.n_isinstance (pts_one_ty (T := Ty.list) T.n_list boot_list (pts_one_ty (T := Ty.tuple) T.n_tuple boot_tuple pts_nil_ty)) (pu_var 1))) (puss_cons (pus_if (PuW.pt (puw_or (put_ne hr (pu_isi1 Ty.list T.n_isinstance T.n_list boot_list (pu_var 0)) (pu_isi1 Ty.list T.n_isinstance T.n_list boot_list (pu_var 1))) (puw_or1 (put_ne hr (pu_isi1 Ty.tuple T.n_isinstance T.n_tuple boot_tuple (pu_var 0)) (pu_isi1 Ty.tuple T.n_isinstance T.n_tuple boot_tuple (pu_var 1)))))) (puss_one (pus_ret pu_bl)) puss_nil) (puss_one (pus_ret (pu_and (pu_eq hr (pu_len T.n_len (pua_cons (pu_var 0) pua_nil)) (pu_len T.n_len (pua_cons (pu_var 1) pua_nil))) (pu_one (pu_all rfl T.n_all (pua_cons (pu_fresh (puf_comp (PuLc.mk (own := [("_law_mine", 3), ("_law_theirs", 4)]) rfl sc__law_same.nd (pui_zip T.n_zip (pua_cons (pu_var 0) (pua_cons (pu_var 1) pua_nil))) (blkOk_by (N := ["_law_found", "_law_due", "_law_key", "_law_mine", "_law_theirs"]) (sc := defScope s__law_same) (by decide +kernel)) (fun _ _ _ _ _ => (pug_tup rfl (pugs_cons (pug_name sc__law_same.nd) (pugs_cons (pug_name sc__law_same.nd) pugs_nil)))) (fun _ _ _ _ _ => puts_nil) (fun _ _ _ _ _ => (pu_call hF hr T.g__law_same T.F__law_same.kp (b__law_same T) (pua_cons (pu_var 3) (pua_cons (pu_var 4) pua_nil)))) (by decide) (by intro _; rfl) cst_pure (c_call hF.cst (c_cons cst_var (c_cons cst_var cst_nil)))))) pua_nil))))))) puss_nil) (puss_cons (pus_if (put_val (pu_isi1 Ty.dict T.n_isinstance T.n_dict boot_dict (pu_var 1))) (puss_cons (pus_if (PuW.pt (puw_or (put_not (put_val (pu_isi1 Ty.dict T.n_isinstance T.n_dict boot_dict (pu_var 0)))) (puw_or1 (put_ne hr (pu_len T.n_len (pua_cons (pu_var 0) pua_nil)) (pu_len T.n_len (pua_cons (pu_var 1) pua_nil)))))) (puss_one (pus_ret pu_bl)) puss_nil) (puss_one (pus_ret (pu_all rfl T.n_all (pua_cons (pu_fresh (puf_comp (PuLc.mk (own := [("_law_key", 2)]) rfl sc__law_same.nd (pui_seq (pu_var 1)) (blkOk_by (N := ["_law_found", "_law_due", "_law_key", "_law_mine", "_law_theirs"]) (sc := defScope s__law_same) (by decide +kernel)) (fun _ _ _ _ _ => (pug_name sc__law_same.nd)) (fun _ _ _ _ _ => puts_nil) (fun _ _ _ _ _ => (pu_and (pu_in (pu_var 2) (pu_var 0)) (pu_one (pu_call hF hr T.g__law_same T.F__law_same.kp (b__law_same T) (pua_cons (pu_idx (pu_var 0) (pu_var 2)) (pua_cons (pu_idx (pu_var 1) (pu_var 2)) pua_nil)))))) (by decide) (by intro _; rfl) cst_pure (c_and (cst_op2 cst_var cst_var) (c_call hF.cst (c_cons (cst_op2 cst_var cst_var) (c_cons (cst_op2 cst_var cst_var) cst_nil))))))) pua_nil))))) puss_nil) (puss_cons (pus_if (PuW.pt (puw_or (put_val (pu_isi1 Ty.bool T.n_isinstance T.n_bool boot_bool (pu_var 1))) (puw_or1 (put_val (pu_isi1 Ty.bool T.n_isinstance T.n_bool boot_bool (pu_var 0)))))) (puss_one (pus_ret (pu_and (pu_isi1 Ty.bool T.n_isinstance T.n_bool boot_bool (pu_var 1)) (pu_and (pu_isi1 Ty.bool T.n_isinstance T.n_bool boot_bool (pu_var 0)) (pu_one (pu_eq hr (pu_var 0) (pu_var 1))))))) puss_nil) (puss_one (pus_ret (pu_and (pu_not (pu_isiT [Ty.list, Ty.tuple, Ty.dict] T.n_isinstance (pts_one_ty (T := Ty.list) T.n_list boot_list (pts_one_ty (T := Ty.tuple) T.n_tuple boot_tuple (pts_one_ty (T := Ty.dict) T.n_dict boot_dict pts_nil_ty))) (pu_var 0))) (pu_one (pu_eq hr (pu_var 0) (pu_var 1)))))))))) (by delta m__law_same; exact (cst_seq (c_ifS (c_tru (c_op1 cst_var)) (cst_seq (c_ifS (c_orT (c_tru (cst_op2 (c_op1 cst_var) (c_op1 cst_var))) (c_tru (cst_op2 (c_op1 cst_var) (c_op1 cst_var)))) (c_ret cst_c) cst_next) (c_ret (c_and (cst_op2 (c_bi (c_cons cst_var cst_nil)) (c_bi (c_cons cst_var cst_nil))) (c_bi (c_cons (c_lst (cst_comp (c_zip (c_cons cst_var (c_cons cst_var cst_nil))) cst_pure (c_call hF.cst (c_cons cst_var (c_cons cst_var cst_nil))))) cst_nil))))) cst_next) (cst_seq (c_ifS (c_tru (c_op1 cst_var)) (cst_seq (c_ifS (c_orT (c_notT (c_tru (c_op1 cst_var))) (c_tru (cst_op2 (c_bi (c_cons cst_var cst_nil)) (c_bi (c_cons cst_var cst_nil))))) (c_ret cst_c) cst_next) (c_ret (c_bi (c_cons (c_lst (cst_comp (c_it cst_var) cst_pure (c_and (cst_op2 cst_var cst_var) (c_call hF.cst (c_cons (cst_op2 cst_var cst_var) (c_cons (cst_op2 cst_var cst_var) cst_nil)))))) cst_nil)))) cst_next) (cst_seq (c_ifS (c_orT (c_tru (c_op1 cst_var)) (c_tru (c_op1 cst_var))) (c_ret (c_and (c_op1 cst_var) (c_and (c_op1 cst_var) (cst_op2 cst_var cst_var)))) cst_next) (c_ret (c_and (c_op1 (c_op1 cst_var)) (cst_op2 cst_var cst_var)))))))).mono ?_
    have h1 := kb_mono 1 n
    have h2 : kb (1 + (n + 1)) = 2 ^ 250 * kb (1 + n) := rfl
    rw [h2]
    generalize kb (1 + n) = Z at h1 ⊢
    have h3 : 1 ≤ Z := Nat.le_trans (kb_pos 1) h1
    have h5 : sizeLine = 16777216 := rfl
    rw [show (2 : Nat) ^ 250 = 1809251394333065553493296640760748560207343510400633813116524750123642650624 from by decide +kernel]
    (try rw [h5])
    omega
def m_is_list : MS := (mRet (mOp1 (dIsI [Ty.list, Ty.tuple]) (mVar 0)))
def F_is_list : FN := mDef 1 m_is_list
theorem ok_is_list (T : Tops K mg) : FnPu P w K mg base 1 T.f_is_list T.fd_is_list ["thing"] F_is_list (kb 1) :=
  (pu_fn (n := 0) (m := m_is_list) T.F_is_list sc_is_list (by decide) (fun cdv A outer s H E hr => (puss_one (pus_ret (pu_isiT [Ty.list, Ty.tuple] T.n_isinstance (pts_one_ty (T := Ty.list) T.n_list boot_list (pts_one_ty (T := Ty.tuple) T.n_tuple boot_tuple pts_nil_ty)) (pu_var 0))))) (by delta m_is_list; exact (c_ret (c_op1 cst_var)))).mono (by decide +kernel)
def m_is_list_of : MS := (mRet (mAnd (mCall F_is_list (mCons (mVar 0) mNil)) (mOp2 dEq (mBi dLen (mCons (mVar 0) mNil)) (mVar 1))))
def F_is_list_of : FN := mDef 2 m_is_list_of
theorem ok_is_list_of (T : Tops K mg) : FnPu P w K mg base 2 T.f_is_list_of T.fd_is_list_of ["thing", "many"] F_is_list_of (kb 2) :=
  (pu_fn (n := 1) (m := m_is_list_of) T.F_is_list_of sc_is_list_of (by decide) (fun cdv A outer s H E hr => (puss_one (pus_ret (pu_and (pu_call (FnPu.lift (ok_is_list T) (by decide)) hr T.g_is_list T.F_is_list.kp (b_is_list T) (pua_cons (pu_var 0) pua_nil)) (pu_one (pu_eq hr (pu_len T.n_len (pua_cons (pu_var 0) pua_nil)) (pu_var 1))))))) (by delta m_is_list_of; exact (c_ret (c_and (c_call (ok_is_list (P := P) (w := w) (base := base) T).cst (c_cons cst_var cst_nil)) (cst_op2 (c_bi (c_cons cst_var cst_nil)) cst_var))))).mono (by decide +kernel)
def m_is_integer : MS := (mRet (mAnd (mOp1 (dIsI [Ty.int]) (mVar 0)) (mOp1 dNot (mOp1 (dIsI [Ty.bool]) (mVar 0)))))
def F_is_integer : FN := mDef 1 m_is_integer
theorem ok_is_integer (T : Tops K mg) : FnPu P w K mg base 1 T.f_is_integer T.fd_is_integer ["thing"] F_is_integer (kb 1) :=
  (pu_fn (n := 0) (m := m_is_integer) T.F_is_integer sc_is_integer (by decide) (fun cdv A outer s H E hr => (puss_one (pus_ret (pu_and (pu_isi1 Ty.int T.n_isinstance T.n_int boot_int (pu_var 0)) (pu_one (pu_not (pu_isi1 Ty.bool T.n_isinstance T.n_bool boot_bool (pu_var 0)))))))) (by delta m_is_integer; exact (c_ret (c_and (c_op1 cst_var) (c_op1 (c_op1 cst_var)))))).mono (by decide +kernel)
def m_is_rest : MS := (mSeq (mIfS (mOrT (mNotT (mTru (mCall F_is_list_of (mCons (mVar 0) (mCons (mC (.int 2)) mNil))))) (mOrT (mNotT (mTru (mCall F_is_integer (mCons (mOp2 dIdx (mVar 0) (mC (.int 0))) mNil)))) (mNotT (mTru (mCall F_is_integer (mCons (mOp2 dIdx (mVar 0) (mC (.int 1))) mNil)))))) (mRet (mC (.bl false))) mNext) (mRet (mOr (mOp2 dEq (mOp2 dIdx (mVar 0) (mC (.int 0))) (mC (.int 0))) (mChain dLe dLt (mC (.int 0)) (mOp2 dIdx (mVar 0) (mC (.int 1))) (mOp2 dIdx (mVar 0) (mC (.int 0)))))))
def F_is_rest : FN := mDef 1 m_is_rest
theorem ok_is_rest (T : Tops K mg) : FnPu P w K mg base 3 T.f_is_rest T.fd_is_rest ["thing"] F_is_rest (kb 3) :=
  (pu_fn (n := 2) (m := m_is_rest) T.F_is_rest sc_is_rest (by decide) (fun cdv A outer s H E hr => (puss_cons (pus_if (PuW.pt (puw_or (put_not (put_val (pu_call (FnPu.lift (ok_is_list_of T) (by decide)) hr T.g_is_list_of T.F_is_list_of.kp (b_is_list_of T) (pua_cons (pu_var 0) (pua_cons pu_int pua_nil))))) (puw_or (put_not (put_val (pu_call (FnPu.lift (ok_is_integer T) (by decide)) hr T.g_is_integer T.F_is_integer.kp (b_is_integer T) (pua_cons (pu_idx (pu_var 0) pu_int) pua_nil)))) (puw_or1 (put_not (put_val (pu_call (FnPu.lift (ok_is_integer T) (by decide)) hr T.g_is_integer T.F_is_integer.kp (b_is_integer T) (pua_cons (pu_idx (pu_var 0) pu_int) pua_nil)))))))) (puss_one (pus_ret pu_bl)) puss_nil) (puss_one (pus_ret (pu_or (pu_eq hr (pu_idx (pu_var 0) pu_int) pu_int) (pu_one (pu_leLt pu_int (pu_idx (pu_var 0) pu_int) (pu_idx (pu_var 0) pu_int)))))))) (by delta m_is_rest; exact (cst_seq (c_ifS (c_orT (c_notT (c_tru (c_call (ok_is_list_of (P := P) (w := w) (base := base) T).cst (c_cons cst_var (c_cons cst_c cst_nil))))) (c_orT (c_notT (c_tru (c_call (ok_is_integer (P := P) (w := w) (base := base) T).cst (c_cons (cst_op2 cst_var cst_c) cst_nil)))) (c_notT (c_tru (c_call (ok_is_integer (P := P) (w := w) (base := base) T).cst (c_cons (cst_op2 cst_var cst_c) cst_nil)))))) (c_ret cst_c) cst_next) (c_ret (c_or (cst_op2 (cst_op2 cst_var cst_c) cst_c) (c_chain cst_c (cst_op2 cst_var cst_c) (cst_op2 cst_var cst_c))))))).mono (by decide +kernel)
def m_rest_of : MS := (mSeq (mIfS (mTru (mOp2 dEq (mVar 0) (mC (.int 0)))) (mRet (mTup (mCons (mC (.int 0)) (mCons (mVar 1) mNil)))) mNext) (mRet (mTup (mCons (mVar 0) (mCons (mOp2 dMod (mVar 1) (mVar 0)) mNil)))))
def F_rest_of : FN := mDef 2 m_rest_of
theorem ok_rest_of (T : Tops K mg) : FnPu P w K mg base 1 T.f_rest_of T.fd_rest_of ["modulus", "remainder"] F_rest_of (kb 1) :=
  (pu_fn (n := 0) (m := m_rest_of) T.F_rest_of sc_rest_of (by decide) (fun cdv A outer s H E hr => (puss_cons (pus_if (put_eq hr (pu_var 0) pu_int) (puss_one (pus_ret (pu_tup (pua_cons pu_int (pua_cons (pu_var 1) pua_nil))))) puss_nil) (puss_one (pus_ret (pu_tup (pua_cons (pu_var 0) (pua_cons (pu_mod (pu_var 1) (pu_var 0)) pua_nil))))))) (by delta m_rest_of; exact (cst_seq (c_ifS (c_tru (cst_op2 cst_var cst_c)) (c_ret (c_tup (c_cons cst_c (c_cons cst_var cst_nil)))) cst_next) (c_ret (c_tup (c_cons cst_var (c_cons (cst_op2 cst_var cst_var) cst_nil))))))).mono (by decide +kernel)
def m_rest_has : MS := (mRet (mOp2 dEq (mCall F_rest_of (mCons (mOp2 dIdx (mVar 0) (mC (.int 0))) (mCons (mVar 1) mNil))) (mBi dTuple (mCons (mVar 0) mNil))))
def F_rest_has : FN := mDef 2 m_rest_has
theorem ok_rest_has (T : Tops K mg) : FnPu P w K mg base 2 T.f_rest_has T.fd_rest_has ["rest", "n"] F_rest_has (kb 2) :=
  (pu_fn (n := 1) (m := m_rest_has) T.F_rest_has sc_rest_has (by decide) (fun cdv A outer s H E hr => (puss_one (pus_ret (pu_eq hr (pu_call (FnPu.lift (ok_rest_of T) (by decide)) hr T.g_rest_of T.F_rest_of.kp (b_rest_of T) (pua_cons (pu_idx (pu_var 0) pu_int) (pua_cons (pu_var 1) pua_nil))) (pu_tuplec T.n_tuple (pua_cons (pu_var 0) pua_nil)))))) (by delta m_rest_has; exact (c_ret (cst_op2 (c_call (ok_rest_of (P := P) (w := w) (base := base) T).cst (c_cons (cst_op2 cst_var cst_c) (c_cons cst_var cst_nil))) (c_bi (c_cons cst_var cst_nil)))))).mono (by decide +kernel)
def m_is_strip : MS := (mSeq (mIfS (mTru (mOp1 dIsN (mVar 0))) (mRet (mC (.bl true))) mNext) (mSeq (mIfS (mOrT (mNotT (mTru (mCall F_is_list_of (mCons (mVar 0) (mCons (mC (.int 4)) mNil))))) (mNotT (mTru (mCall F_is_rest (mCons (mOp1 (dCut (some 2) none) (mVar 0)) mNil))))) (mRet (mC (.bl false))) mNext) (mSeq (mAsg (gT 4 (gCo (gN 2) (gCo (gN 3) (gCo (gN 4) (gCo (gN 5) gNl))))) (mVar 0)) (mSeq (mSet 1 (mLst (mComp [6] (gN 6) (mIt (mTup (mCons (mVar 2) (mCons (mVar 3) mNil)))) (mTru (mOp1 dNotN (mVar 6))) (mVar 6)))) (mSeq (mIfS (mNotT (mTru (mBi dAll (mCons (mLst (mComp [6] (gN 6) (mIt (mVar 1)) (mPure (some true)) (mAnd (mCall F_is_integer (mCons (mVar 6) mNil)) (mCall F_rest_has (mCons (mTup (mCons (mVar 4) (mCons (mVar 5) mNil))) (mCons (mVar 6) mNil)))))) mNil)))) (mRet (mC (.bl false))) mNext) (mSeq (mIfS (mTru (mOp2 dLt (mBi dLen (mCons (mVar 1) mNil)) (mC (.int 2)))) (mRet (mOp2 dNe (mVar 4) (mC (.int 0)))) mNext) (mRet (mIte (mTru (mOp2 dEq (mVar 4) (mC (.int 0)))) (mOp2 dEq (mVar 2) (mVar 3)) (mOp2 dLt (mVar 2) (mVar 3))))))))))
def F_is_strip : FN := mDef 7 m_is_strip
theorem ok_is_strip (T : Tops K mg) : FnPu P w K mg base 4 T.f_is_strip T.fd_is_strip ["thing"] F_is_strip (kb 4) :=
  (pu_fn (n := 3) (m := m_is_strip) T.F_is_strip sc_is_strip (by decide) (fun cdv A outer s H E hr => (puss_cons (pus_if (put_isN (pu_var 0)) (puss_one (pus_ret pu_bl)) puss_nil) (puss_cons (pus_if (PuW.pt (puw_or (put_not (put_val (pu_call (FnPu.lift (ok_is_list_of T) (by decide)) hr T.g_is_list_of T.F_is_list_of.kp (b_is_list_of T) (pua_cons (pu_var 0) (pua_cons pu_int pua_nil))))) (puw_or1 (put_not (put_val (pu_call (FnPu.lift (ok_is_rest T) (by decide)) hr T.g_is_rest T.F_is_rest.kp (b_is_rest T) (pua_cons (pu_cut (pu_var 0) poc_int poc_none) pua_nil))))))) (puss_one (pus_ret pu_bl)) puss_nil) (puss_cons (pus_asg (pu_var 0) (pug_tup rfl (pugs_cons (pug_name sc_is_strip.nd) (pugs_cons (pug_name sc_is_strip.nd) (pugs_cons (pug_name sc_is_strip.nd) (pugs_cons (pug_name sc_is_strip.nd) pugs_nil)))))) (puss_cons (pus_setLcS (i := 1) (PuLc.mk (own := [("end", 6)]) rfl sc_is_strip.nd (pui_seq (pu_tup (pua_cons (pu_var 2) (pua_cons (pu_var 3) pua_nil)))) (blkOk_by (N := ["thing", "ends", "low", "high", "modulus", "remainder", "end"]) (sc := defScope s_is_strip) (by decide +kernel)) (fun _ _ _ _ _ => (pug_name sc_is_strip.nd)) (fun _ _ _ _ _ => (puts_one (put_notN (pu_var 6)))) (fun _ _ _ _ _ => (pu_var 6)) (by decide) (by intro _; rfl) (c_tru (c_op1 cst_var)) cst_var)) (puss_cons (pus_if (put_not (put_val (pu_all rfl T.n_all (pua_cons (pu_fresh (puf_comp (PuLc.mk (own := [("end", 6)]) rfl sc_is_strip.nd (pui_seq (pu_var 1)) (blkOk_by (N := ["thing", "ends", "low", "high", "modulus", "remainder", "end"]) (sc := defScope s_is_strip) (by decide +kernel)) (fun _ _ _ _ _ => (pug_name sc_is_strip.nd)) (fun _ _ _ _ _ => puts_nil) (fun _ _ _ _ _ => (pu_and (pu_call (FnPu.lift (ok_is_integer T) (by decide)) hr T.g_is_integer T.F_is_integer.kp (b_is_integer T) (pua_cons (pu_var 6) pua_nil)) (pu_one (pu_call (FnPu.lift (ok_rest_has T) (by decide)) hr T.g_rest_has T.F_rest_has.kp (b_rest_has T) (pua_cons (pu_tup (pua_cons (pu_var 4) (pua_cons (pu_var 5) pua_nil))) (pua_cons (pu_var 6) pua_nil)))))) (by decide) (by intro _; rfl) cst_pure (c_and (c_call (ok_is_integer (P := P) (w := w) (base := base) T).cst (c_cons cst_var cst_nil)) (c_call (ok_rest_has (P := P) (w := w) (base := base) T).cst (c_cons (c_tup (c_cons cst_var (c_cons cst_var cst_nil))) (c_cons cst_var cst_nil))))))) pua_nil)))) (puss_one (pus_ret pu_bl)) puss_nil) (puss_cons (pus_if (put_lt (pu_len T.n_len (pua_cons (pu_var 1) pua_nil)) pu_int) (puss_one (pus_ret (pu_ne hr (pu_var 4) pu_int))) puss_nil) (puss_one (pus_ret (pu_ite (put_eq hr (pu_var 4) pu_int) (pu_eq hr (pu_var 2) (pu_var 3)) (pu_lt (pu_var 2) (pu_var 3)))))))))))) (by delta m_is_strip; exact (cst_seq (c_ifS (c_tru (c_op1 cst_var)) (c_ret cst_c) cst_next) (cst_seq (c_ifS (c_orT (c_notT (c_tru (c_call (ok_is_list_of (P := P) (w := w) (base := base) T).cst (c_cons cst_var (c_cons cst_c cst_nil))))) (c_notT (c_tru (c_call (ok_is_rest (P := P) (w := w) (base := base) T).cst (c_cons (c_op1 cst_var) cst_nil))))) (c_ret cst_c) cst_next) (cst_seq (c_asg cst_var) (cst_seq (c_set (c_lst (cst_comp (c_it (c_tup (c_cons cst_var (c_cons cst_var cst_nil)))) (c_tru (c_op1 cst_var)) cst_var))) (cst_seq (c_ifS (c_notT (c_tru (c_bi (c_cons (c_lst (cst_comp (c_it cst_var) cst_pure (c_and (c_call (ok_is_integer (P := P) (w := w) (base := base) T).cst (c_cons cst_var cst_nil)) (c_call (ok_rest_has (P := P) (w := w) (base := base) T).cst (c_cons (c_tup (c_cons cst_var (c_cons cst_var cst_nil))) (c_cons cst_var cst_nil)))))) cst_nil)))) (c_ret cst_c) cst_next) (cst_seq (c_ifS (c_tru (cst_op2 (c_bi (c_cons cst_var cst_nil)) cst_c)) (c_ret (cst_op2 cst_var cst_c)) cst_next) (c_ret (c_ite (c_tru (cst_op2 cst_var cst_c)) (cst_op2 cst_var cst_var) (cst_op2 cst_var cst_var))))))))))).mono (by decide +kernel)
def m_check_strip : MS := (mIfS (mNotT (mTru (mCall F_is_strip (mCons (mVar 0) mNil)))) mFail mNext)
def F_check_strip : FN := mDef 1 m_check_strip
theorem ok_check_strip (T : Tops K mg) : FnPu P w K mg base 5 T.f_check_strip T.fd_check_strip ["strip"] F_check_strip (kb 5) :=
  (pu_fn (n := 4) (m := m_check_strip) T.F_check_strip sc_check_strip (by decide) (fun cdv A outer s H E hr => (puss_one (pus_if (put_not (put_val (pu_call (FnPu.lift (ok_is_strip T) (by decide)) hr T.g_is_strip T.F_is_strip.kp (b_is_strip T) (pua_cons (pu_var 0) pua_nil)))) (puss_one pus_never) puss_nil))) (by delta m_check_strip; exact (c_ifS (c_notT (c_tru (c_call (ok_is_strip (P := P) (w := w) (base := base) T).cst (c_cons cst_var cst_nil)))) cst_fail cst_next))).mono (by decide +kernel)
def m_strip_many : MS := (mSeq (mDrop (mCall F_check_strip (mCons (mVar 0) mNil))) (mSeq (mIfS (mTru (mOp1 dIsN (mVar 0))) (mRet (mC (.int 0))) mNext) (mSeq (mPar3 1 2 3 (mCons (mOp2 dIdx (mVar 0) (mC (.int 0))) (mCons (mOp2 dIdx (mVar 0) (mC (.int 1))) (mCons (mOp2 dIdx (mVar 0) (mC (.int 2))) mNil)))) (mSeq (mIfS (mOrT (mTru (mOp1 dIsN (mVar 1))) (mTru (mOp1 dIsN (mVar 2)))) (mRet (mC .non)) mNext) (mRet (mIte (mTru (mOp2 dEq (mVar 3) (mC (.int 0)))) (mC (.int 1)) (mOp2 dAdd (mOp2 dDiv (mOp2 dSub (mVar 2) (mVar 1)) (mVar 3)) (mC (.int 1)))))))))
def F_strip_many : FN := mDef 4 m_strip_many
theorem ok_strip_many (T : Tops K mg) : FnPu P w K mg base 6 T.f_strip_many T.fd_strip_many ["strip"] F_strip_many (kb 6) :=
  (pu_fn (n := 5) (m := m_strip_many) T.F_strip_many sc_strip_many (by decide) (fun cdv A outer s H E hr => (puss_cons (pus_expr (pu_call (FnPu.lift (ok_check_strip T) (by decide)) hr T.g_check_strip T.F_check_strip.kp (b_check_strip T) (pua_cons (pu_var 0) pua_nil))) (puss_cons (pus_if (put_isN (pu_var 0)) (puss_one (pus_ret pu_int)) puss_nil) (puss_cons (pus_par3 (i := 1) (j := 2) (l := 3) rfl sc_strip_many.nd (pua_cons (pu_idx (pu_var 0) pu_int) (pua_cons (pu_idx (pu_var 0) pu_int) (pua_cons (pu_idx (pu_var 0) pu_int) pua_nil)))) (puss_cons (pus_if (PuW.pt (puw_or (put_isN (pu_var 1)) (puw_or1 (put_isN (pu_var 2))))) (puss_one (pus_ret pu_non)) puss_nil) (puss_one (pus_ret (pu_ite (put_eq hr (pu_var 3) pu_int) pu_int (pu_add (pu_div (pu_sub (pu_var 2) (pu_var 1)) (pu_var 3)) pu_int))))))))) (by delta m_strip_many; exact (cst_seq (c_drop (c_call (ok_check_strip (P := P) (w := w) (base := base) T).cst (c_cons cst_var cst_nil))) (cst_seq (c_ifS (c_tru (c_op1 cst_var)) (c_ret cst_c) cst_next) (cst_seq (c_par3 (c_cons (cst_op2 cst_var cst_c) (c_cons (cst_op2 cst_var cst_c) (c_cons (cst_op2 cst_var cst_c) cst_nil)))) (cst_seq (c_ifS (c_orT (c_tru (c_op1 cst_var)) (c_tru (c_op1 cst_var))) (c_ret cst_c) cst_next) (c_ret (c_ite (c_tru (cst_op2 cst_var cst_c)) cst_c (cst_op2 (cst_op2 (cst_op2 cst_var cst_var) cst_var) cst_c))))))))).mono (by decide +kernel)
def m_check_integer : MS := (mIfS (mNotT (mTru (mCall F_is_integer (mCons (mVar 0) mNil)))) mFail mNext)
def F_check_integer : FN := mDef 1 m_check_integer
theorem ok_check_integer (T : Tops K mg) : FnPu P w K mg base 2 T.f_check_integer T.fd_check_integer ["n"] F_check_integer (kb 2) :=
  (pu_fn (n := 1) (m := m_check_integer) T.F_check_integer sc_check_integer (by decide) (fun cdv A outer s H E hr => (puss_one (pus_if (put_not (put_val (pu_call (FnPu.lift (ok_is_integer T) (by decide)) hr T.g_is_integer T.F_is_integer.kp (b_is_integer T) (pua_cons (pu_var 0) pua_nil)))) (puss_one pus_never) puss_nil))) (by delta m_check_integer; exact (c_ifS (c_notT (c_tru (c_call (ok_is_integer (P := P) (w := w) (base := base) T).cst (c_cons cst_var cst_nil)))) cst_fail cst_next))).mono (by decide +kernel)
def m_has : MS := (mSeq (mIfS (mTru (mOp1 dIsN (mVar 0))) (mRet (mC (.bl false))) mNext) (mSeq (mAsg (gT 4 (gCo (gN 2) (gCo (gN 3) (gCo (gN 4) (gCo (gN 5) gNl))))) (mVar 0)) (mSeq (mIfS (mOrT (mAndT (mTru (mOp1 dNotN (mVar 2))) (mTru (mOp2 dLt (mVar 1) (mVar 2)))) (mAndT (mTru (mOp1 dNotN (mVar 3))) (mTru (mOp2 dGt (mVar 1) (mVar 3))))) (mRet (mC (.bl false))) mNext) (mRet (mCall F_rest_has (mCons (mTup (mCons (mVar 4) (mCons (mVar 5) mNil))) (mCons (mVar 1) mNil)))))))
def F_has : FN := mDef 6 m_has
theorem ok_has (T : Tops K mg) : FnPu P w K mg base 3 T.f_has T.fd_has ["strip", "n"] F_has (kb 3) :=
  (pu_fn (n := 2) (m := m_has) T.F_has sc_has (by decide) (fun cdv A outer s H E hr => (puss_cons (pus_if (put_isN (pu_var 0)) (puss_one (pus_ret pu_bl)) puss_nil) (puss_cons (pus_asg (pu_var 0) (pug_tup rfl (pugs_cons (pug_name sc_has.nd) (pugs_cons (pug_name sc_has.nd) (pugs_cons (pug_name sc_has.nd) (pugs_cons (pug_name sc_has.nd) pugs_nil)))))) (puss_cons (pus_if (PuW.pt (puw_or (PuW.pt (puw_and (put_notN (pu_var 2)) (puw_and1 (put_lt (pu_var 1) (pu_var 2))))) (puw_or1 (PuW.pt (puw_and (put_notN (pu_var 3)) (puw_and1 (put_gt (pu_var 1) (pu_var 3)))))))) (puss_one (pus_ret pu_bl)) puss_nil) (puss_one (pus_ret (pu_call (FnPu.lift (ok_rest_has T) (by decide)) hr T.g_rest_has T.F_rest_has.kp (b_rest_has T) (pua_cons (pu_tup (pua_cons (pu_var 4) (pua_cons (pu_var 5) pua_nil))) (pua_cons (pu_var 1) pua_nil))))))))) (by delta m_has; exact (cst_seq (c_ifS (c_tru (c_op1 cst_var)) (c_ret cst_c) cst_next) (cst_seq (c_asg cst_var) (cst_seq (c_ifS (c_orT (c_andT (c_tru (c_op1 cst_var)) (c_tru (cst_op2 cst_var cst_var))) (c_andT (c_tru (c_op1 cst_var)) (c_tru (cst_op2 cst_var cst_var)))) (c_ret cst_c) cst_next) (c_ret (c_call (ok_rest_has (P := P) (w := w) (base := base) T).cst (c_cons (c_tup (c_cons cst_var (c_cons cst_var cst_nil))) (c_cons cst_var cst_nil))))))))).mono (by decide +kernel)
def m_strip_has : MS := (mSeq (mDrop (mCall F_check_strip (mCons (mVar 0) mNil))) (mSeq (mDrop (mCall F_check_integer (mCons (mVar 1) mNil))) (mRet (mCall F_has (mCons (mVar 0) (mCons (mVar 1) mNil))))))
def F_strip_has : FN := mDef 2 m_strip_has
theorem ok_strip_has (T : Tops K mg) : FnPu P w K mg base 6 T.f_strip_has T.fd_strip_has ["strip", "n"] F_strip_has (kb 6) :=
  (pu_fn (n := 5) (m := m_strip_has) T.F_strip_has sc_strip_has (by decide) (fun cdv A outer s H E hr => (puss_cons (pus_expr (pu_call (FnPu.lift (ok_check_strip T) (by decide)) hr T.g_check_strip T.F_check_strip.kp (b_check_strip T) (pua_cons (pu_var 0) pua_nil))) (puss_cons (pus_expr (pu_call (FnPu.lift (ok_check_integer T) (by decide)) hr T.g_check_integer T.F_check_integer.kp (b_check_integer T) (pua_cons (pu_var 1) pua_nil))) (puss_one (pus_ret (pu_call (FnPu.lift (ok_has T) (by decide)) hr T.g_has T.F_has.kp (b_has T) (pua_cons (pu_var 0) (pua_cons (pu_var 1) pua_nil)))))))) (by delta m_strip_has; exact (cst_seq (c_drop (c_call (ok_check_strip (P := P) (w := w) (base := base) T).cst (c_cons cst_var cst_nil))) (cst_seq (c_drop (c_call (ok_check_integer (P := P) (w := w) (base := base) T).cst (c_cons cst_var cst_nil))) (c_ret (c_call (ok_has (P := P) (w := w) (base := base) T).cst (c_cons cst_var (c_cons cst_var cst_nil)))))))).mono (by decide +kernel)
def m_alone : MS := (mRet (mTup (mCons (mVar 0) (mCons (mVar 0) (mCons (mC (.int 0)) (mCons (mVar 0) mNil))))))
def F_alone : FN := mDef 1 m_alone
theorem ok_alone (T : Tops K mg) : FnPu P w K mg base 1 T.f_alone T.fd_alone ["n"] F_alone (kb 1) :=
  (pu_fn (n := 0) (m := m_alone) T.F_alone sc_alone (by decide) (fun cdv A outer s H E hr => (puss_one (pus_ret (pu_tup (pua_cons (pu_var 0) (pua_cons (pu_var 0) (pua_cons pu_int (pua_cons (pu_var 0) pua_nil)))))))) (by delta m_alone; exact (c_ret (c_tup (c_cons cst_var (c_cons cst_var (c_cons cst_c (c_cons cst_var cst_nil)))))))).mono (by decide +kernel)
def m_reduce_strip : MS := (mSeq (mIfS (mTru (mOp2 dEq (mVar 2) (mC (.int 0)))) (mSeq (mIfS (mAndT (mOrT (mTru (mOp1 dIsN (mVar 0))) (mTru (mOp2 dLe (mVar 0) (mVar 3)))) (mOrT (mTru (mOp1 dIsN (mVar 1))) (mTru (mOp2 dLe (mVar 3) (mVar 1))))) (mRet (mCall F_alone (mCons (mVar 3) mNil))) mNext) (mRet (mC .non))) mNext) (mSeq (mIfS (mTru (mOp1 dNotN (mVar 0))) (mAug 0 dAddI (mOp2 dMod (mOp2 dSub (mVar 3) (mVar 0)) (mVar 2))) mNext) (mSeq (mIfS (mTru (mOp1 dNotN (mVar 1))) (mAug 1 dSub (mOp2 dMod (mOp2 dSub (mVar 1) (mVar 3)) (mVar 2))) mNext) (mSeq (mIfS (mAndT (mTru (mOp1 dNotN (mVar 0))) (mAndT (mTru (mOp1 dNotN (mVar 1))) (mTru (mOp2 dGe (mVar 0) (mVar 1))))) (mRet (mIte (mTru (mOp2 dEq (mVar 0) (mVar 1))) (mCall F_alone (mCons (mVar 0) mNil)) (mC .non))) mNext) (mRet (mTup (mCons (mVar 0) (mCons (mVar 1) (mCons (mVar 2) (mCons (mOp2 dMod (mVar 3) (mVar 2)) mNil))))))))))
def F_reduce_strip : FN := mDef 4 m_reduce_strip
theorem ok_reduce_strip (T : Tops K mg) : FnPu P w K mg base 2 T.f_reduce_strip T.fd_reduce_strip ["low", "high", "modulus", "remainder"] F_reduce_strip (kb 2) :=
  (pu_fn (n := 1) (m := m_reduce_strip) T.F_reduce_strip sc_reduce_strip (by decide) (fun cdv A outer s H E hr => (puss_cons (pus_if (put_eq hr (pu_var 2) pu_int) (puss_cons (pus_if (PuW.pt (puw_and (PuW.pt (puw_or (put_isN (pu_var 0)) (puw_or1 (put_le (pu_var 0) (pu_var 3))))) (puw_and1 (PuW.pt (puw_or (put_isN (pu_var 1)) (puw_or1 (put_le (pu_var 3) (pu_var 1)))))))) (puss_one (pus_ret (pu_call (FnPu.lift (ok_alone T) (by decide)) hr T.g_alone T.F_alone.kp (b_alone T) (pua_cons (pu_var 3) pua_nil)))) puss_nil) (puss_one (pus_ret pu_non))) puss_nil) (puss_cons (pus_if (put_notN (pu_var 0)) (puss_one (pus_aug (i := 0) sc_reduce_strip.nd ip_add f_ipadd (pu_mod (pu_sub (pu_var 3) (pu_var 0)) (pu_var 2)))) puss_nil) (puss_cons (pus_if (put_notN (pu_var 1)) (puss_one (pus_aug (i := 1) sc_reduce_strip.nd ip_sub f_ipsub (pu_mod (pu_sub (pu_var 1) (pu_var 3)) (pu_var 2)))) puss_nil) (puss_cons (pus_if (PuW.pt (puw_and (put_notN (pu_var 0)) (puw_and (put_notN (pu_var 1)) (puw_and1 (put_ge (pu_var 0) (pu_var 1)))))) (puss_one (pus_ret (pu_ite (put_eq hr (pu_var 0) (pu_var 1)) (pu_call (FnPu.lift (ok_alone T) (by decide)) hr T.g_alone T.F_alone.kp (b_alone T) (pua_cons (pu_var 0) pua_nil)) pu_non))) puss_nil) (puss_one (pus_ret (pu_tup (pua_cons (pu_var 0) (pua_cons (pu_var 1) (pua_cons (pu_var 2) (pua_cons (pu_mod (pu_var 3) (pu_var 2)) pua_nil)))))))))))) (by delta m_reduce_strip; exact (cst_seq (c_ifS (c_tru (cst_op2 cst_var cst_c)) (cst_seq (c_ifS (c_andT (c_orT (c_tru (c_op1 cst_var)) (c_tru (cst_op2 cst_var cst_var))) (c_orT (c_tru (c_op1 cst_var)) (c_tru (cst_op2 cst_var cst_var)))) (c_ret (c_call (ok_alone (P := P) (w := w) (base := base) T).cst (c_cons cst_var cst_nil))) cst_next) (c_ret cst_c)) cst_next) (cst_seq (c_ifS (c_tru (c_op1 cst_var)) (c_aug (cst_op2 (cst_op2 cst_var cst_var) cst_var)) cst_next) (cst_seq (c_ifS (c_tru (c_op1 cst_var)) (c_aug (cst_op2 (cst_op2 cst_var cst_var) cst_var)) cst_next) (cst_seq (c_ifS (c_andT (c_tru (c_op1 cst_var)) (c_andT (c_tru (c_op1 cst_var)) (c_tru (cst_op2 cst_var cst_var)))) (c_ret (c_ite (c_tru (cst_op2 cst_var cst_var)) (c_call (ok_alone (P := P) (w := w) (base := base) T).cst (c_cons cst_var cst_nil)) cst_c)) cst_next) (c_ret (c_tup (c_cons cst_var (c_cons cst_var (c_cons cst_var (c_cons (cst_op2 cst_var cst_var) cst_nil)))))))))))).mono (by decide +kernel)
def m_is_number : MS := (mRet (mAnd (mCall F_is_integer (mCons (mVar 0) mNil)) (mOp2 dGe (mVar 0) (mC (.int 0)))))
def F_is_number : FN := mDef 1 m_is_number
theorem ok_is_number (T : Tops K mg) : FnPu P w K mg base 2 T.f_is_number T.fd_is_number ["thing"] F_is_number (kb 2) :=
  (pu_fn (n := 1) (m := m_is_number) T.F_is_number sc_is_number (by decide) (fun cdv A outer s H E hr => (puss_one (pus_ret (pu_and (pu_call (FnPu.lift (ok_is_integer T) (by decide)) hr T.g_is_integer T.F_is_integer.kp (b_is_integer T) (pua_cons (pu_var 0) pua_nil)) (pu_one (pu_ge (pu_var 0) pu_int)))))) (by delta m_is_number; exact (c_ret (c_and (c_call (ok_is_integer (P := P) (w := w) (base := base) T).cst (c_cons cst_var cst_nil)) (cst_op2 cst_var cst_c))))).mono (by decide +kernel)
def m_reduced : MS := (mSeq (mFor (gN 4) (mIt (mTup (mCons (mVar 0) (mCons (mVar 1) mNil)))) (mIfS (mTru (mOp1 dNotN (mVar 4))) (mDrop (mCall F_check_integer (mCons (mVar 4) mNil))) mNext)) (mSeq (mIfS (mNotT (mTru (mCall F_is_number (mCons (mVar 2) mNil)))) mFail mNext) (mSeq (mDrop (mCall F_check_integer (mCons (mVar 3) mNil))) (mRet (mCall F_reduce_strip (mCons (mVar 0) (mCons (mVar 1) (mCons (mVar 2) (mCons (mVar 3) mNil)))))))))
def F_reduced : FN := mDef 5 m_reduced
theorem ok_reduced (T : Tops K mg) : FnPu P w K mg base 3 T.f_reduced T.fd_reduced ["low", "high", "modulus", "remainder"] F_reduced (kb 3) :=
  (pu_fn (n := 2) (m := m_reduced) T.F_reduced sc_reduced (by decide) (fun cdv A outer s H E hr => (puss_cons (pus_for PassesOwn.never rfl (pui_seq (pu_tup (pua_cons (pu_var 0) (pua_cons (pu_var 1) pua_nil)))) (pug_name sc_reduced.nd) (puss_one (pus_if (put_notN (pu_var 4)) (puss_one (pus_expr (pu_call (FnPu.lift (ok_check_integer T) (by decide)) hr T.g_check_integer T.F_check_integer.kp (b_check_integer T) (pua_cons (pu_var 4) pua_nil)))) puss_nil))) (puss_cons (pus_if (put_not (put_val (pu_call (FnPu.lift (ok_is_number T) (by decide)) hr T.g_is_number T.F_is_number.kp (b_is_number T) (pua_cons (pu_var 2) pua_nil)))) (puss_one pus_never) puss_nil) (puss_cons (pus_expr (pu_call (FnPu.lift (ok_check_integer T) (by decide)) hr T.g_check_integer T.F_check_integer.kp (b_check_integer T) (pua_cons (pu_var 3) pua_nil))) (puss_one (pus_ret (pu_call (FnPu.lift (ok_reduce_strip T) (by decide)) hr T.g_reduce_strip T.F_reduce_strip.kp (b_reduce_strip T) (pua_cons (pu_var 0) (pua_cons (pu_var 1) (pua_cons (pu_var 2) (pua_cons (pu_var 3) pua_nil))))))))))) (by delta m_reduced; exact (cst_seq (cst_for (c_it (c_tup (c_cons cst_var (c_cons cst_var cst_nil)))) (c_ifS (c_tru (c_op1 cst_var)) (c_drop (c_call (ok_check_integer (P := P) (w := w) (base := base) T).cst (c_cons cst_var cst_nil))) cst_next)) (cst_seq (c_ifS (c_notT (c_tru (c_call (ok_is_number (P := P) (w := w) (base := base) T).cst (c_cons cst_var cst_nil)))) cst_fail cst_next) (cst_seq (c_drop (c_call (ok_check_integer (P := P) (w := w) (base := base) T).cst (c_cons cst_var cst_nil))) (c_ret (c_call (ok_reduce_strip (P := P) (w := w) (base := base) T).cst (c_cons cst_var (c_cons cst_var (c_cons cst_var (c_cons cst_var cst_nil))))))))))).mono (by decide +kernel)
def m__law_loose (F : FN) : MS := (mSeq (mIfS (mTru (mOp1 (dIsI [Ty.list, Ty.tuple]) (mVar 1))) (mSeq (mSet 2 (mLst (mComp [3] (gN 3) (mIt (mVar 1)) (mPure (some true)) (mCall F (mCons (mVar 0) (mCons (mVar 3) mNil)))))) (mRet (mIte (mTru (mOp2 dEq (mCall F_draw (mCons (mVar 0) (mCons (mC (.int 2)) mNil))) (mC (.int 0)))) (mVar 2) (mBi dTuple (mCons (mVar 2) mNil))))) mNext) (mRet (mVar 1)))
def F__law_loose : Nat → FN
  | 0 => fun _ _ => none
  | n + 1 => mDef 4 (m__law_loose (F__law_loose n))
theorem ok__law_loose (T : Tops K mg) : ∀ n : Nat, FnPu P w K mg base (2 + n) T.f__law_loose T.fd__law_loose ["_law_stream_here", "_law_thing"] (F__law_loose n) (kb (2 + n))
  | 0 => ⟨never_ok 1 T.F__law_loose sc__law_loose (by decide), fun ds S d S' e => by cases e⟩
  | n + 1 => by
    have hF := ok__law_loose T n
    refine (pu_fn (n := 2 + n) (m := m__law_loose (F__law_loose n)) T.F__law_loose sc__law_loose (by decide) (fun cdv A outer s H E hr => (puss_cons (pus_if (put_val (pu_isiT [Ty.list, Ty.tuple] T.n_isinstance (pts_one_ty (T := Ty.list) T.n_list boot_list (pts_one_ty (T := Ty.tuple) T.n_tuple boot_tuple pts_nil_ty)) (pu_var 1))) (puss_cons (pus_setLcS (i := 2) (PuLc.mk (own := [("_law_one", 3)]) rfl sc__law_loose.nd (pui_seq (pu_var 1)) (blkOk_by (N := ["_law_stream_here", "_law_thing", "_law_some", "_law_one"]) (sc := defScope s__law_loose) (by decide +kernel)) (fun _ _ _ _ _ => (pug_name sc__law_loose.nd)) (fun _ _ _ _ _ => puts_nil) (fun _ _ _ _ _ => (pu_call hF hr T.g__law_loose T.F__law_loose.kp (b__law_loose T) (pua_cons (pu_var 0) (pua_cons (pu_var 3) pua_nil)))) (by decide) (by intro _; rfl) cst_pure (c_call hF.cst (c_cons cst_var (c_cons cst_var cst_nil))))) (puss_one (pus_ret (pu_ite (put_eq hr (pu_call (FnPu.lift (ok__law_draw T) (by omega)) hr T.g__law_draw T.F__law_draw.kp (b__law_draw T) (pua_cons (pu_var 0) (pua_cons pu_int pua_nil))) pu_int) (pu_var 2) (pu_tuplec T.n_tuple (pua_cons (pu_var 2) pua_nil)))))) puss_nil) (puss_one (pus_ret (pu_var 1))))) (by delta m__law_loose; exact (cst_seq (c_ifS (c_tru (c_op1 cst_var)) (cst_seq (c_set (c_lst (cst_comp (c_it cst_var) cst_pure (c_call hF.cst (c_cons cst_var (c_cons cst_var cst_nil)))))) (c_ret (c_ite (c_tru (cst_op2 (c_call (ok__law_draw (P := P) (w := w) (base := base) T).cst (c_cons cst_var (c_cons cst_c cst_nil))) cst_c)) cst_var (c_bi (c_cons cst_var cst_nil))))) cst_next) (c_ret cst_var)))).mono ?_
    have h1 := kb_mono 2 n
    have h2 : kb (2 + (n + 1)) = 2 ^ 250 * kb (2 + n) := rfl
    rw [h2]
    generalize kb (2 + n) = Z at h1 ⊢
    have h3 : 1 ≤ Z := Nat.le_trans (kb_pos 2) h1
    have h4_1 : kb 1 ≤ Z := Nat.le_trans (by decide +kernel) h1
    generalize kb 1 = Y1 at h4_1 ⊢
    have h5 : sizeLine = 16777216 := rfl
    rw [show (2 : Nat) ^ 250 = 1809251394333065553493296640760748560207343510400633813116524750123642650624 from by decide +kernel]
    (try rw [h5])
    omega
def m__law_strip_size : MS := (mSeq (mIfS (mOrT (mTru (mOp1 dIsN (mVar 0))) (mTru (mOp2 dEq (mOp2 dIdx (mVar 0) (mC (.int 2))) (mC (.int 0))))) (mRet (mIte (mTru (mOp1 dIsN (mVar 0))) (mC (.int 0)) (mC (.int 1)))) mNext) (mRet (mIte (mOrT (mTru (mOp1 dIsN (mOp2 dIdx (mVar 0) (mC (.int 0))))) (mTru (mOp1 dIsN (mOp2 dIdx (mVar 0) (mC (.int 1)))))) (mC .non) (mOp2 dAdd (mC (.int 1)) (mOp2 dDiv (mOp2 dSub (mOp2 dIdx (mVar 0) (mC (.int 1))) (mOp2 dIdx (mVar 0) (mC (.int 0)))) (mOp2 dIdx (mVar 0) (mC (.int 2))))))))
def F__law_strip_size : FN := mDef 1 m__law_strip_size
theorem ok__law_strip_size (T : Tops K mg) : FnPu P w K mg base 1 T.f__law_strip_size T.fd__law_strip_size ["_law_strip"] F__law_strip_size (kb 1) :=
  (pu_fn (n := 0) (m := m__law_strip_size) T.F__law_strip_size sc__law_strip_size (by decide) (fun cdv A outer s H E hr => (puss_cons (pus_if (PuW.pt (puw_or (put_isN (pu_var 0)) (puw_or1 (put_eq hr (pu_idx (pu_var 0) pu_int) pu_int)))) (puss_one (pus_ret (pu_ite (put_isN (pu_var 0)) pu_int pu_int))) puss_nil) (puss_one (pus_ret (pu_ite (PuW.pt (puw_or (put_isN (pu_idx (pu_var 0) pu_int)) (puw_or1 (put_isN (pu_idx (pu_var 0) pu_int))))) pu_non (pu_add pu_int (pu_div (pu_sub (pu_idx (pu_var 0) pu_int) (pu_idx (pu_var 0) pu_int)) (pu_idx (pu_var 0) pu_int)))))))) (by delta m__law_strip_size; exact (cst_seq (c_ifS (c_orT (c_tru (c_op1 cst_var)) (c_tru (cst_op2 (cst_op2 cst_var cst_c) cst_c))) (c_ret (c_ite (c_tru (c_op1 cst_var)) cst_c cst_c)) cst_next) (c_ret (c_ite (c_orT (c_tru (c_op1 (cst_op2 cst_var cst_c))) (c_tru (c_op1 (cst_op2 cst_var cst_c)))) cst_c (cst_op2 cst_c (cst_op2 (cst_op2 (cst_op2 cst_var cst_c) (cst_op2 cst_var cst_c)) (cst_op2 cst_var cst_c)))))))).mono (by decide +kernel)
def m__law_told_right : MS := (mSeq (mAsg (gT 4 (gCo (gN 5) (gCo (gN 6) (gCo (gN 7) (gCo (gN 8) gNl))))) (mVar 1)) (mSeq (mSet 2 (mCall F__law_strip_brought (mCons (mVar 5) (mCons (mVar 6) (mCons (mVar 7) (mCons (mVar 8) mNil)))))) (mSeq (mIfS (mNotT (mTru (mCall (F__law_same 24) (mCons (mLst (mCons (mCall F_reduced (mCons (mVar 5) (mCons (mVar 6) (mCons (mVar 7) (mCons (mVar 8) mNil))))) (mCons (mCall F_reduced (mPerm [3, 2, 1, 0] (mCons (mVar 8) (mCons (mVar 7) (mCons (mVar 6) (mCons (mVar 5) mNil)))))) mNil))) (mCons (mLst (mCons (mVar 2) (mCons (mVar 2) mNil))) mNil))))) (mRet (mC (.bl false))) mNext) (mSeq (mFor (gN 3) (mIt (mCall F__law_probes (mCons (mVar 0) (mCons (mVar 2) (mCons (mVar 1) mNil))))) (mSeq (mSet 4 (mLst (mCons (mCall F_strip_has (mCons (mVar 2) (mCons (mVar 3) mNil))) (mCons (mCall F_strip_has (mPerm [1, 0] (mCons (mVar 3) (mCons (mCall (F__law_loose 24) (mCons (mVar 0) (mCons (mVar 2) mNil))) mNil)))) mNil)))) (mIfS (mNotT (mTru (mCall (F__law_same 24) (mCons (mVar 4) (mCons (mOp2 dRep (mLst (mCons (mCall F__law_strip_in (mCons (mVar 2) (mCons (mVar 3) mNil))) mNil)) (mC (.int 2))) mNil))))) (mRet (mC (.bl false))) mNext))) (mSeq (mSet 4 (mLst (mCons (mCall F_strip_many (mCons (mVar 2) mNil)) (mCons (mCall F_strip_many (mPerm [0] (mCons (mCall (F__law_loose 24) (mCons (mVar 0) (mCons (mVar 2) mNil))) mNil))) mNil)))) (mRet (mCall (F__law_same 24) (mCons (mVar 4) (mCons (mOp2 dRep (mLst (mCons (mCall F__law_strip_size (mCons (mVar 2) mNil)) mNil)) (mC (.int 2))) mNil)))))))))
def F__law_told_right : FN := mDef 9 m__law_told_right
theorem ok__law_told_right (T : Tops K mg) : FnPu P w K mg base 27 T.f__law_told_right T.fd__law_told_right ["_law_stream_here", "_law_quadruple"] F__law_told_right (kb 27) :=
  (pu_fn (n := 26) (m := m__law_told_right) T.F__law_told_right sc__law_told_right (by decide) (fun cdv A outer s H E hr => (puss_cons (pus_asg (pu_var 1) (pug_tup rfl (pugs_cons (pug_name sc__law_told_right.nd) (pugs_cons (pug_name sc__law_told_right.nd) (pugs_cons (pug_name sc__law_told_right.nd) (pugs_cons (pug_name sc__law_told_right.nd) pugs_nil)))))) (puss_cons (pus_set (i := 2) sc__law_told_right.nd (pu_call (FnPu.lift (ok__law_strip_brought T) (by decide)) hr T.g__law_strip_brought T.F__law_strip_brought.kp (b__law_strip_brought T) (pua_cons (pu_var 5) (pua_cons (pu_var 6) (pua_cons (pu_var 7) (pua_cons (pu_var 8) pua_nil)))))) (puss_cons (pus_if (put_not (put_val (pu_call (FnPu.lift (ok__law_same T 24) (by decide)) hr T.g__law_same T.F__law_same.kp (b__law_same T) (pua_cons (pu_fresh (puf_lst (pua_cons (pu_call (FnPu.lift (ok_reduced T) (by decide)) hr T.g_reduced T.F_reduced.kp (b_reduced T) (pua_cons (pu_var 5) (pua_cons (pu_var 6) (pua_cons (pu_var 7) (pua_cons (pu_var 8) pua_nil))))) (pua_cons (pu_callK (ps := ["low", "high", "modulus", "remainder"]) (ks := ["remainder", "modulus", "high", "low"]) [3, 2, 1, 0] (FnPu.lift (ok_reduced T) (by decide)) hr T.g_reduced T.F_reduced.kp (fun s ws hl => by obtain ⟨_, _, _, _, _, _, _, _, _, hfd, _, _⟩ := T.F_reduced.ex; rw [hfd]; exact match ws, hl with | [_, _, _, _], _ => .of_eq rfl) (puk_cons (pu_var 8) (puk_cons (pu_var 7) (puk_cons (pu_var 6) (puk_cons (pu_var 5) puk_nil))))) pua_nil)))) (pua_cons (pu_fresh (puf_lst (pua_cons (pu_var 2) (pua_cons (pu_var 2) pua_nil)))) pua_nil))))) (puss_one (pus_ret pu_bl)) puss_nil) (puss_cons (pus_for PassesOwn.never rfl (pui_seq (pu_call (FnPu.lift (ok__law_probes T) (by decide)) hr T.g__law_probes T.F__law_probes.kp (b__law_probes T) (pua_cons (pu_var 0) (pua_cons (pu_var 2) (pua_cons (pu_var 1) pua_nil))))) (pug_name sc__law_told_right.nd) (puss_cons (pus_set (i := 4) sc__law_told_right.nd (pu_fresh (puf_lst (pua_cons (pu_call (FnPu.lift (ok_strip_has T) (by decide)) hr T.g_strip_has T.F_strip_has.kp (b_strip_has T) (pua_cons (pu_var 2) (pua_cons (pu_var 3) pua_nil))) (pua_cons (pu_callK (ps := ["strip", "n"]) (ks := ["n", "strip"]) [1, 0] (FnPu.lift (ok_strip_has T) (by decide)) hr T.g_strip_has T.F_strip_has.kp (fun s ws hl => by obtain ⟨_, _, _, _, _, _, _, _, _, hfd, _, _⟩ := T.F_strip_has.ex; rw [hfd]; exact match ws, hl with | [_, _], _ => .of_eq rfl) (puk_cons (pu_var 3) (puk_cons (pu_call (FnPu.lift (ok__law_loose T 24) (by decide)) hr T.g__law_loose T.F__law_loose.kp (b__law_loose T) (pua_cons (pu_var 0) (pua_cons (pu_var 2) pua_nil))) puk_nil))) pua_nil))))) (puss_one (pus_if (put_not (put_val (pu_call (FnPu.lift (ok__law_same T 24) (by decide)) hr T.g__law_same T.F__law_same.kp (b__law_same T) (pua_cons (pu_var 4) (pua_cons (pu_rep (pu_fresh (puf_lst (pua_cons (pu_call (FnPu.lift (ok__law_strip_in T) (by decide)) hr T.g__law_strip_in T.F__law_strip_in.kp (b__law_strip_in T) (pua_cons (pu_var 2) (pua_cons (pu_var 3) pua_nil))) pua_nil))) pu_int) pua_nil))))) (puss_one (pus_ret pu_bl)) puss_nil)))) (puss_cons (pus_set (i := 4) sc__law_told_right.nd (pu_fresh (puf_lst (pua_cons (pu_call (FnPu.lift (ok_strip_many T) (by decide)) hr T.g_strip_many T.F_strip_many.kp (b_strip_many T) (pua_cons (pu_var 2) pua_nil)) (pua_cons (pu_callK (ps := ["strip"]) (ks := ["strip"]) [0] (FnPu.lift (ok_strip_many T) (by decide)) hr T.g_strip_many T.F_strip_many.kp (fun s ws hl => by obtain ⟨_, _, _, _, _, _, _, _, _, hfd, _, _⟩ := T.F_strip_many.ex; rw [hfd]; exact match ws, hl with | [_], _ => .of_eq rfl) (puk_cons (pu_call (FnPu.lift (ok__law_loose T 24) (by decide)) hr T.g__law_loose T.F__law_loose.kp (b__law_loose T) (pua_cons (pu_var 0) (pua_cons (pu_var 2) pua_nil))) puk_nil)) pua_nil))))) (puss_one (pus_ret (pu_call (FnPu.lift (ok__law_same T 24) (by decide)) hr T.g__law_same T.F__law_same.kp (b__law_same T) (pua_cons (pu_var 4) (pua_cons (pu_rep (pu_fresh (puf_lst (pua_cons (pu_call (FnPu.lift (ok__law_strip_size T) (by decide)) hr T.g__law_strip_size T.F__law_strip_size.kp (b__law_strip_size T) (pua_cons (pu_var 2) pua_nil)) pua_nil))) pu_int) pua_nil))))))))))) (by delta m__law_told_right; exact (cst_seq (c_asg cst_var) (cst_seq (c_set (c_call (ok__law_strip_brought (P := P) (w := w) (base := base) T).cst (c_cons cst_var (c_cons cst_var (c_cons cst_var (c_cons cst_var cst_nil)))))) (cst_seq (c_ifS (c_notT (c_tru (c_call (ok__law_same (P := P) (w := w) (base := base) T 24).cst (c_cons (c_lst (c_cons (c_call (ok_reduced (P := P) (w := w) (base := base) T).cst (c_cons cst_var (c_cons cst_var (c_cons cst_var (c_cons cst_var cst_nil))))) (c_cons (c_call (ok_reduced (P := P) (w := w) (base := base) T).cst (c_perm (c_cons cst_var (c_cons cst_var (c_cons cst_var (c_cons cst_var cst_nil)))))) cst_nil))) (c_cons (c_lst (c_cons cst_var (c_cons cst_var cst_nil))) cst_nil))))) (c_ret cst_c) cst_next) (cst_seq (cst_for (c_it (c_call (ok__law_probes (P := P) (w := w) (base := base) T).cst (c_cons cst_var (c_cons cst_var (c_cons cst_var cst_nil))))) (cst_seq (c_set (c_lst (c_cons (c_call (ok_strip_has (P := P) (w := w) (base := base) T).cst (c_cons cst_var (c_cons cst_var cst_nil))) (c_cons (c_call (ok_strip_has (P := P) (w := w) (base := base) T).cst (c_perm (c_cons cst_var (c_cons (c_call (ok__law_loose (P := P) (w := w) (base := base) T 24).cst (c_cons cst_var (c_cons cst_var cst_nil))) cst_nil)))) cst_nil)))) (c_ifS (c_notT (c_tru (c_call (ok__law_same (P := P) (w := w) (base := base) T 24).cst (c_cons cst_var (c_cons (cst_op2 (c_lst (c_cons (c_call (ok__law_strip_in (P := P) (w := w) (base := base) T).cst (c_cons cst_var (c_cons cst_var cst_nil))) cst_nil)) cst_c) cst_nil))))) (c_ret cst_c) cst_next))) (cst_seq (c_set (c_lst (c_cons (c_call (ok_strip_many (P := P) (w := w) (base := base) T).cst (c_cons cst_var cst_nil)) (c_cons (c_call (ok_strip_many (P := P) (w := w) (base := base) T).cst (c_perm (c_cons (c_call (ok__law_loose (P := P) (w := w) (base := base) T 24).cst (c_cons cst_var (c_cons cst_var cst_nil))) cst_nil))) cst_nil)))) (c_ret (c_call (ok__law_same (P := P) (w := w) (base := base) T 24).cst (c_cons cst_var (c_cons (cst_op2 (c_lst (c_cons (c_call (ok__law_strip_size (P := P) (w := w) (base := base) T).cst (c_cons cst_var cst_nil)) cst_nil)) cst_c) cst_nil))))))))))).mono (by decide +kernel)
def m__law_strip_beside : MS := (mSeq (mIfS (mOrT (mTru (mOp1 dIsN (mVar 1))) (mTru (mOp2 dEq (mOp2 dIdx (mVar 1) (mC (.int 2))) (mC (.int 0))))) (mSeq (mSet 3 (mIte (mTru (mOp1 dIsN (mVar 1))) (mC (.int 3)) (mOp2 dIdx (mVar 1) (mC (.int 3))))) (mRet (mCall F__law_pick (mCons (mVar 0) (mCons (mLst (mCons (mC .non) (mCons (mTup (mCons (mVar 3) (mCons (mVar 3) (mCons (mC (.int 0)) (mCons (mVar 3) mNil))))) (mCons (mTup (mCons (mOp2 dAdd (mVar 3) (mC (.int 1))) (mCons (mOp2 dAdd (mVar 3) (mC (.int 1))) (mCons (mC (.int 0)) (mCons (mOp2 dAdd (mVar 3) (mC (.int 1))) mNil))))) (mCons (mTup (mCons (mOp2 dSub (mVar 3) (mC (.int 2))) (mCons (mVar 3) (mCons (mC (.int 2)) (mCons (mOp2 dMod (mBi dInt (mCons (mVar 3) mNil)) (mC (.int 2))) mNil))))) (mCons (mTup (mCons (mVar 3) (mCons (mC .non) (mCons (mC (.int 1)) (mCons (mC (.int 0)) mNil))))) mNil)))))) mNil))))) mNext) (mSeq (mAsg (gT 4 (gCo (gN 4) (gCo (gN 5) (gCo (gN 6) (gCo (gN 7) gNl))))) (mVar 1)) (mSeq (mSet 2 (mCall F_draw (mCons (mVar 0) (mCons (mC (.int 9)) mNil)))) (mSeq (mIfS (mAndT (mTru (mOp2 dEq (mVar 2) (mC (.int 0)))) (mTru (mOp1 dNotN (mVar 4)))) (mRet (mCall F__law_strip_brought (mCons (mOp2 dAdd (mVar 4) (mVar 6)) (mCons (mVar 5) (mCons (mVar 6) (mCons (mVar 7) mNil)))))) mNext) (mSeq (mIfS (mAndT (mTru (mOp2 dEq (mVar 2) (mC (.int 1)))) (mTru (mOp1 dNotN (mVar 4)))) (mRet (mCall F__law_strip_brought (mCons (mOp2 dSub (mVar 4) (mVar 6)) (mCons (mVar 5) (mCons (mVar 6) (mCons (mVar 7) mNil)))))) mNext) (mSeq (mIfS (mAndT (mTru (mOp2 dEq (mVar 2) (mC (.int 2)))) (mTru (mOp1 dNotN (mVar 5)))) (mRet (mCall F__law_strip_brought (mCons (mVar 4) (mCons (mOp2 dSub (mVar 5) (mVar 6)) (mCons (mVar 6) (mCons (mVar 7) mNil)))))) mNext) (mSeq (mIfS (mAndT (mTru (mOp2 dEq (mVar 2) (mC (.int 3)))) (mTru (mOp1 dNotN (mVar 5)))) (mRet (mCall F__law_strip_brought (mCons (mVar 4) (mCons (mOp2 dAdd (mVar 5) (mVar 6)) (mCons (mVar 6) (mCons (mVar 7) mNil)))))) mNext) (mSeq (mIfS (mTru (mOp2 dEq (mVar 2) (mC (.int 4)))) (mRet (mCall F__law_strip_brought (mCons (mVar 4) (mCons (mVar 5) (mCons (mOp2 dMul (mC (.int 2)) (mVar 6)) (mCons (mVar 7) mNil)))))) mNext) (mSeq (mIfS (mTru (mOp2 dEq (mVar 2) (mC (.int 5)))) (mRet (mCall F__law_strip_brought (mCons (mVar 4) (mCons (mVar 5) (mCons (mIte (mTru (mOp2 dEq (mOp2 dMod (mBi dInt (mCons (mVar 6) mNil)) (mC (.int 2))) (mC (.int 0)))) (mOp2 dDiv (mVar 6) (mC (.int 2))) (mC (.int 1))) (mCons (mVar 7) mNil)))))) mNext) (mSeq (mIfS (mTru (mOp2 dEq (mVar 2) (mC (.int 6)))) (mRet (mCall F__law_strip_brought (mCons (mVar 4) (mCons (mVar 5) (mCons (mVar 6) (mCons (mOp2 dAdd (mVar 7) (mC (.int 1))) mNil)))))) mNext) (mRet (mCall F__law_pick (mCons (mVar 0) (mCons (mLst (mCons (mC .non) (mCons (mTup (mCons (mVar 7) (mCons (mVar 7) (mCons (mC (.int 0)) (mCons (mVar 7) mNil))))) (mCons (mTup (mCons (mVar 4) (mCons (mC .non) (mCons (mVar 6) (mCons (mVar 7) mNil))))) (mCons (mTup (mCons (mC .non) (mCons (mVar 5) (mCons (mVar 6) (mCons (mVar 7) mNil))))) (mCons (mVar 1) mNil)))))) mNil))))))))))))))
def F__law_strip_beside : FN := mDef 8 m__law_strip_beside
theorem ok__law_strip_beside (T : Tops K mg) : FnPu P w K mg base 3 T.f__law_strip_beside T.fd__law_strip_beside ["_law_stream_here", "_law_strip"] F__law_strip_beside (kb 3) :=
  (pu_fn (n := 2) (m := m__law_strip_beside) T.F__law_strip_beside sc__law_strip_beside (by decide) (fun cdv A outer s H E hr => (puss_cons (pus_if (PuW.pt (puw_or (put_isN (pu_var 1)) (puw_or1 (put_eq hr (pu_idx (pu_var 1) pu_int) pu_int)))) (puss_cons (pus_set (i := 3) sc__law_strip_beside.nd (pu_ite (put_isN (pu_var 1)) pu_int (pu_idx (pu_var 1) pu_int))) (puss_one (pus_ret (pu_call (FnPu.lift (ok__law_pick T) (by decide)) hr T.g__law_pick T.F__law_pick.kp (b__law_pick T) (pua_cons (pu_var 0) (pua_cons (pu_fresh (puf_lst (pua_cons pu_non (pua_cons (pu_tup (pua_cons (pu_var 3) (pua_cons (pu_var 3) (pua_cons pu_int (pua_cons (pu_var 3) pua_nil))))) (pua_cons (pu_tup (pua_cons (pu_add (pu_var 3) pu_int) (pua_cons (pu_add (pu_var 3) pu_int) (pua_cons pu_int (pua_cons (pu_add (pu_var 3) pu_int) pua_nil))))) (pua_cons (pu_tup (pua_cons (pu_sub (pu_var 3) pu_int) (pua_cons (pu_var 3) (pua_cons pu_int (pua_cons (pu_mod (pu_intc T.n_int (pua_cons (pu_var 3) pua_nil)) pu_int) pua_nil))))) (pua_cons (pu_tup (pua_cons (pu_var 3) (pua_cons pu_non (pua_cons pu_int (pua_cons pu_int pua_nil))))) pua_nil))))))) pua_nil)))))) puss_nil) (puss_cons (pus_asg (pu_var 1) (pug_tup rfl (pugs_cons (pug_name sc__law_strip_beside.nd) (pugs_cons (pug_name sc__law_strip_beside.nd) (pugs_cons (pug_name sc__law_strip_beside.nd) (pugs_cons (pug_name sc__law_strip_beside.nd) pugs_nil)))))) (puss_cons (pus_set (i := 2) sc__law_strip_beside.nd (pu_call (FnPu.lift (ok__law_draw T) (by decide)) hr T.g__law_draw T.F__law_draw.kp (b__law_draw T) (pua_cons (pu_var 0) (pua_cons pu_int pua_nil)))) (puss_cons (pus_if (PuW.pt (puw_and (put_eq hr (pu_var 2) pu_int) (puw_and1 (put_notN (pu_var 4))))) (puss_one (pus_ret (pu_call (FnPu.lift (ok__law_strip_brought T) (by decide)) hr T.g__law_strip_brought T.F__law_strip_brought.kp (b__law_strip_brought T) (pua_cons (pu_add (pu_var 4) (pu_var 6)) (pua_cons (pu_var 5) (pua_cons (pu_var 6) (pua_cons (pu_var 7) pua_nil))))))) puss_nil) (puss_cons (pus_if (PuW.pt (puw_and (put_eq hr (pu_var 2) pu_int) (puw_and1 (put_notN (pu_var 4))))) (puss_one (pus_ret (pu_call (FnPu.lift (ok__law_strip_brought T) (by decide)) hr T.g__law_strip_brought T.F__law_strip_brought.kp (b__law_strip_brought T) (pua_cons (pu_sub (pu_var 4) (pu_var 6)) (pua_cons (pu_var 5) (pua_cons (pu_var 6) (pua_cons (pu_var 7) pua_nil))))))) puss_nil) (puss_cons (pus_if (PuW.pt (puw_and (put_eq hr (pu_var 2) pu_int) (puw_and1 (put_notN (pu_var 5))))) (puss_one (pus_ret (pu_call (FnPu.lift (ok__law_strip_brought T) (by decide)) hr T.g__law_strip_brought T.F__law_strip_brought.kp (b__law_strip_brought T) (pua_cons (pu_var 4) (pua_cons (pu_sub (pu_var 5) (pu_var 6)) (pua_cons (pu_var 6) (pua_cons (pu_var 7) pua_nil))))))) puss_nil) (puss_cons (pus_if (PuW.pt (puw_and (put_eq hr (pu_var 2) pu_int) (puw_and1 (put_notN (pu_var 5))))) (puss_one (pus_ret (pu_call (FnPu.lift (ok__law_strip_brought T) (by decide)) hr T.g__law_strip_brought T.F__law_strip_brought.kp (b__law_strip_brought T) (pua_cons (pu_var 4) (pua_cons (pu_add (pu_var 5) (pu_var 6)) (pua_cons (pu_var 6) (pua_cons (pu_var 7) pua_nil))))))) puss_nil) (puss_cons (pus_if (put_eq hr (pu_var 2) pu_int) (puss_one (pus_ret (pu_call (FnPu.lift (ok__law_strip_brought T) (by decide)) hr T.g__law_strip_brought T.F__law_strip_brought.kp (b__law_strip_brought T) (pua_cons (pu_var 4) (pua_cons (pu_var 5) (pua_cons (pu_mul pu_int (pu_var 6)) (pua_cons (pu_var 7) pua_nil))))))) puss_nil) (puss_cons (pus_if (put_eq hr (pu_var 2) pu_int) (puss_one (pus_ret (pu_call (FnPu.lift (ok__law_strip_brought T) (by decide)) hr T.g__law_strip_brought T.F__law_strip_brought.kp (b__law_strip_brought T) (pua_cons (pu_var 4) (pua_cons (pu_var 5) (pua_cons (pu_ite (put_eq hr (pu_mod (pu_intc T.n_int (pua_cons (pu_var 6) pua_nil)) pu_int) pu_int) (pu_div (pu_var 6) pu_int) pu_int) (pua_cons (pu_var 7) pua_nil))))))) puss_nil) (puss_cons (pus_if (put_eq hr (pu_var 2) pu_int) (puss_one (pus_ret (pu_call (FnPu.lift (ok__law_strip_brought T) (by decide)) hr T.g__law_strip_brought T.F__law_strip_brought.kp (b__law_strip_brought T) (pua_cons (pu_var 4) (pua_cons (pu_var 5) (pua_cons (pu_var 6) (pua_cons (pu_add (pu_var 7) pu_int) pua_nil))))))) puss_nil) (puss_one (pus_ret (pu_call (FnPu.lift (ok__law_pick T) (by decide)) hr T.g__law_pick T.F__law_pick.kp (b__law_pick T) (pua_cons (pu_var 0) (pua_cons (pu_fresh (puf_lst (pua_cons pu_non (pua_cons (pu_tup (pua_cons (pu_var 7) (pua_cons (pu_var 7) (pua_cons pu_int (pua_cons (pu_var 7) pua_nil))))) (pua_cons (pu_tup (pua_cons (pu_var 4) (pua_cons pu_non (pua_cons (pu_var 6) (pua_cons (pu_var 7) pua_nil))))) (pua_cons (pu_tup (pua_cons pu_non (pua_cons (pu_var 5) (pua_cons (pu_var 6) (pua_cons (pu_var 7) pua_nil))))) (pua_cons (pu_var 1) pua_nil))))))) pua_nil)))))))))))))))) (by delta m__law_strip_beside; exact (cst_seq (c_ifS (c_orT (c_tru (c_op1 cst_var)) (c_tru (cst_op2 (cst_op2 cst_var cst_c) cst_c))) (cst_seq (c_set (c_ite (c_tru (c_op1 cst_var)) cst_c (cst_op2 cst_var cst_c))) (c_ret (c_call (ok__law_pick (P := P) (w := w) (base := base) T).cst (c_cons cst_var (c_cons (c_lst (c_cons cst_c (c_cons (c_tup (c_cons cst_var (c_cons cst_var (c_cons cst_c (c_cons cst_var cst_nil))))) (c_cons (c_tup (c_cons (cst_op2 cst_var cst_c) (c_cons (cst_op2 cst_var cst_c) (c_cons cst_c (c_cons (cst_op2 cst_var cst_c) cst_nil))))) (c_cons (c_tup (c_cons (cst_op2 cst_var cst_c) (c_cons cst_var (c_cons cst_c (c_cons (cst_op2 (c_bi (c_cons cst_var cst_nil)) cst_c) cst_nil))))) (c_cons (c_tup (c_cons cst_var (c_cons cst_c (c_cons cst_c (c_cons cst_c cst_nil))))) cst_nil)))))) cst_nil))))) cst_next) (cst_seq (c_asg cst_var) (cst_seq (c_set (c_call (ok__law_draw (P := P) (w := w) (base := base) T).cst (c_cons cst_var (c_cons cst_c cst_nil)))) (cst_seq (c_ifS (c_andT (c_tru (cst_op2 cst_var cst_c)) (c_tru (c_op1 cst_var))) (c_ret (c_call (ok__law_strip_brought (P := P) (w := w) (base := base) T).cst (c_cons (cst_op2 cst_var cst_var) (c_cons cst_var (c_cons cst_var (c_cons cst_var cst_nil)))))) cst_next) (cst_seq (c_ifS (c_andT (c_tru (cst_op2 cst_var cst_c)) (c_tru (c_op1 cst_var))) (c_ret (c_call (ok__law_strip_brought (P := P) (w := w) (base := base) T).cst (c_cons (cst_op2 cst_var cst_var) (c_cons cst_var (c_cons cst_var (c_cons cst_var cst_nil)))))) cst_next) (cst_seq (c_ifS (c_andT (c_tru (cst_op2 cst_var cst_c)) (c_tru (c_op1 cst_var))) (c_ret (c_call (ok__law_strip_brought (P := P) (w := w) (base := base) T).cst (c_cons cst_var (c_cons (cst_op2 cst_var cst_var) (c_cons cst_var (c_cons cst_var cst_nil)))))) cst_next) (cst_seq (c_ifS (c_andT (c_tru (cst_op2 cst_var cst_c)) (c_tru (c_op1 cst_var))) (c_ret (c_call (ok__law_strip_brought (P := P) (w := w) (base := base) T).cst (c_cons cst_var (c_cons (cst_op2 cst_var cst_var) (c_cons cst_var (c_cons cst_var cst_nil)))))) cst_next) (cst_seq (c_ifS (c_tru (cst_op2 cst_var cst_c)) (c_ret (c_call (ok__law_strip_brought (P := P) (w := w) (base := base) T).cst (c_cons cst_var (c_cons cst_var (c_cons (cst_op2 cst_c cst_var) (c_cons cst_var cst_nil)))))) cst_next) (cst_seq (c_ifS (c_tru (cst_op2 cst_var cst_c)) (c_ret (c_call (ok__law_strip_brought (P := P) (w := w) (base := base) T).cst (c_cons cst_var (c_cons cst_var (c_cons (c_ite (c_tru (cst_op2 (cst_op2 (c_bi (c_cons cst_var cst_nil)) cst_c) cst_c)) (cst_op2 cst_var cst_c) cst_c) (c_cons cst_var cst_nil)))))) cst_next) (cst_seq (c_ifS (c_tru (cst_op2 cst_var cst_c)) (c_ret (c_call (ok__law_strip_brought (P := P) (w := w) (base := base) T).cst (c_cons cst_var (c_cons cst_var (c_cons cst_var (c_cons (cst_op2 cst_var cst_c) cst_nil)))))) cst_next) (c_ret (c_call (ok__law_pick (P := P) (w := w) (base := base) T).cst (c_cons cst_var (c_cons (c_lst (c_cons cst_c (c_cons (c_tup (c_cons cst_var (c_cons cst_var (c_cons cst_c (c_cons cst_var cst_nil))))) (c_cons (c_tup (c_cons cst_var (c_cons cst_c (c_cons cst_var (c_cons cst_var cst_nil))))) (c_cons (c_tup (c_cons cst_c (c_cons cst_var (c_cons cst_var (c_cons cst_var cst_nil))))) (c_cons cst_var cst_nil)))))) cst_nil)))))))))))))))).mono (by decide +kernel)
def m_rest_within : MS := (mSeq (mIfS (mTru (mOp2 dEq (mOp2 dIdx (mVar 1) (mC (.int 0))) (mC (.int 0)))) (mRet (mAnd (mOp2 dEq (mOp2 dIdx (mVar 0) (mC (.int 0))) (mC (.int 0))) (mOp2 dEq (mOp2 dIdx (mVar 0) (mC (.int 1))) (mOp2 dIdx (mVar 1) (mC (.int 1)))))) mNext) (mRet (mAnd (mOp2 dEq (mOp2 dMod (mOp2 dIdx (mVar 0) (mC (.int 0))) (mOp2 dIdx (mVar 1) (mC (.int 0)))) (mC (.int 0))) (mOp2 dEq (mOp2 dMod (mOp2 dSub (mOp2 dIdx (mVar 0) (mC (.int 1))) (mOp2 dIdx (mVar 1) (mC (.int 1)))) (mOp2 dIdx (mVar 1) (mC (.int 0)))) (mC (.int 0))))))
def F_rest_within : FN := mDef 2 m_rest_within
theorem ok_rest_within (T : Tops K mg) : FnPu P w K mg base 1 T.f_rest_within T.fd_rest_within ["rest", "other"] F_rest_within (kb 1) :=
  (pu_fn (n := 0) (m := m_rest_within) T.F_rest_within sc_rest_within (by decide) (fun cdv A outer s H E hr => (puss_cons (pus_if (put_eq hr (pu_idx (pu_var 1) pu_int) pu_int) (puss_one (pus_ret (pu_and (pu_eq hr (pu_idx (pu_var 0) pu_int) pu_int) (pu_one (pu_eq hr (pu_idx (pu_var 0) pu_int) (pu_idx (pu_var 1) pu_int)))))) puss_nil) (puss_one (pus_ret (pu_and (pu_eq hr (pu_mod (pu_idx (pu_var 0) pu_int) (pu_idx (pu_var 1) pu_int)) pu_int) (pu_one (pu_eq hr (pu_mod (pu_sub (pu_idx (pu_var 0) pu_int) (pu_idx (pu_var 1) pu_int)) (pu_idx (pu_var 1) pu_int)) pu_int))))))) (by delta m_rest_within; exact (cst_seq (c_ifS (c_tru (cst_op2 (cst_op2 cst_var cst_c) cst_c)) (c_ret (c_and (cst_op2 (cst_op2 cst_var cst_c) cst_c) (cst_op2 (cst_op2 cst_var cst_c) (cst_op2 cst_var cst_c)))) cst_next) (c_ret (c_and (cst_op2 (cst_op2 (cst_op2 cst_var cst_c) (cst_op2 cst_var cst_c)) cst_c) (cst_op2 (cst_op2 (cst_op2 (cst_op2 cst_var cst_c) (cst_op2 cst_var cst_c)) (cst_op2 cst_var cst_c)) cst_c)))))).mono (by decide +kernel)
def m_lies_within : MS := (mSeq (mIfS (mTru (mOp1 dIsN (mVar 0))) (mRet (mC (.bl true))) mNext) (mSeq (mIfS (mOrT (mTru (mOp1 dIsN (mVar 1))) (mNotT (mTru (mCall F_rest_within (mCons (mOp1 (dCut (some 2) none) (mVar 0)) (mCons (mOp1 (dCut (some 2) none) (mVar 1)) mNil)))))) (mRet (mC (.bl false))) mNext) (mSeq (mSet 2 (mOr (mOp1 dIsN (mOp2 dIdx (mVar 1) (mC (.int 0)))) (mAnd (mOp1 dNotN (mOp2 dIdx (mVar 0) (mC (.int 0)))) (mOp2 dGe (mOp2 dIdx (mVar 0) (mC (.int 0))) (mOp2 dIdx (mVar 1) (mC (.int 0))))))) (mSeq (mSet 3 (mOr (mOp1 dIsN (mOp2 dIdx (mVar 1) (mC (.int 1)))) (mAnd (mOp1 dNotN (mOp2 dIdx (mVar 0) (mC (.int 1)))) (mOp2 dLe (mOp2 dIdx (mVar 0) (mC (.int 1))) (mOp2 dIdx (mVar 1) (mC (.int 1))))))) (mRet (mAnd (mVar 2) (mVar 3)))))))
def F_lies_within : FN := mDef 4 m_lies_within
theorem ok_lies_within (T : Tops K mg) : FnPu P w K mg base 2 T.f_lies_within T.fd_lies_within ["strip", "other"] F_lies_within (kb 2) :=
  (pu_fn (n := 1) (m := m_lies_within) T.F_lies_within sc_lies_within (by decide) (fun cdv A outer s H E hr => (puss_cons (pus_if (put_isN (pu_var 0)) (puss_one (pus_ret pu_bl)) puss_nil) (puss_cons (pus_if (PuW.pt (puw_or (put_isN (pu_var 1)) (puw_or1 (put_not (put_val (pu_call (FnPu.lift (ok_rest_within T) (by decide)) hr T.g_rest_within T.F_rest_within.kp (b_rest_within T) (pua_cons (pu_cut (pu_var 0) poc_int poc_none) (pua_cons (pu_cut (pu_var 1) poc_int poc_none) pua_nil)))))))) (puss_one (pus_ret pu_bl)) puss_nil) (puss_cons (pus_set (i := 2) sc_lies_within.nd (pu_or (pu_isN (pu_idx (pu_var 1) pu_int)) (pu_one (pu_and (pu_notN (pu_idx (pu_var 0) pu_int)) (pu_one (pu_ge (pu_idx (pu_var 0) pu_int) (pu_idx (pu_var 1) pu_int))))))) (puss_cons (pus_set (i := 3) sc_lies_within.nd (pu_or (pu_isN (pu_idx (pu_var 1) pu_int)) (pu_one (pu_and (pu_notN (pu_idx (pu_var 0) pu_int)) (pu_one (pu_le (pu_idx (pu_var 0) pu_int) (pu_idx (pu_var 1) pu_int))))))) (puss_one (pus_ret (pu_and (pu_var 2) (pu_one (pu_var 3)))))))))) (by delta m_lies_within; exact (cst_seq (c_ifS (c_tru (c_op1 cst_var)) (c_ret cst_c) cst_next) (cst_seq (c_ifS (c_orT (c_tru (c_op1 cst_var)) (c_notT (c_tru (c_call (ok_rest_within (P := P) (w := w) (base := base) T).cst (c_cons (c_op1 cst_var) (c_cons (c_op1 cst_var) cst_nil)))))) (c_ret cst_c) cst_next) (cst_seq (c_set (c_or (c_op1 (cst_op2 cst_var cst_c)) (c_and (c_op1 (cst_op2 cst_var cst_c)) (cst_op2 (cst_op2 cst_var cst_c) (cst_op2 cst_var cst_c))))) (cst_seq (c_set (c_or (c_op1 (cst_op2 cst_var cst_c)) (c_and (c_op1 (cst_op2 cst_var cst_c)) (cst_op2 (cst_op2 cst_var cst_c) (cst_op2 cst_var cst_c))))) (c_ret (c_and cst_var cst_var)))))))).mono (by decide +kernel)
def m_strip_within : MS := (mSeq (mDrop (mCall F_check_strip (mCons (mVar 0) mNil))) (mSeq (mDrop (mCall F_check_strip (mCons (mVar 1) mNil))) (mRet (mCall F_lies_within (mCons (mVar 0) (mCons (mVar 1) mNil))))))
def F_strip_within : FN := mDef 2 m_strip_within
theorem ok_strip_within (T : Tops K mg) : FnPu P w K mg base 6 T.f_strip_within T.fd_strip_within ["strip", "other"] F_strip_within (kb 6) :=
  (pu_fn (n := 5) (m := m_strip_within) T.F_strip_within sc_strip_within (by decide) (fun cdv A outer s H E hr => (puss_cons (pus_expr (pu_call (FnPu.lift (ok_check_strip T) (by decide)) hr T.g_check_strip T.F_check_strip.kp (b_check_strip T) (pua_cons (pu_var 0) pua_nil))) (puss_cons (pus_expr (pu_call (FnPu.lift (ok_check_strip T) (by decide)) hr T.g_check_strip T.F_check_strip.kp (b_check_strip T) (pua_cons (pu_var 1) pua_nil))) (puss_one (pus_ret (pu_call (FnPu.lift (ok_lies_within T) (by decide)) hr T.g_lies_within T.F_lies_within.kp (b_lies_within T) (pua_cons (pu_var 0) (pua_cons (pu_var 1) pua_nil)))))))) (by delta m_strip_within; exact (cst_seq (c_drop (c_call (ok_check_strip (P := P) (w := w) (base := base) T).cst (c_cons cst_var cst_nil))) (cst_seq (c_drop (c_call (ok_check_strip (P := P) (w := w) (base := base) T).cst (c_cons cst_var cst_nil))) (c_ret (c_call (ok_lies_within (P := P) (w := w) (base := base) T).cst (c_cons cst_var (c_cons cst_var cst_nil)))))))).mono (by decide +kernel)
def m__law_strip_inside : MS := (mSeq (mIfS (mOrT (mTru (mOp1 dIsN (mVar 0))) (mTru (mOp1 dIsN (mVar 1)))) (mRet (mOp1 dIsN (mVar 0))) mNext) (mSeq (mIfS (mOrT (mAndT (mTru (mOp1 dNotN (mOp2 dIdx (mVar 1) (mC (.int 0))))) (mTru (mOp1 dIsN (mOp2 dIdx (mVar 0) (mC (.int 0)))))) (mAndT (mTru (mOp1 dNotN (mOp2 dIdx (mVar 1) (mC (.int 1))))) (mTru (mOp1 dIsN (mOp2 dIdx (mVar 0) (mC (.int 1))))))) (mRet (mC (.bl false))) mNext) (mRet (mBi dAll (mCons (mLst (mComp [2] (gN 2) (mIt (mCall F__law_strip_some (mCons (mVar 0) (mCons (mC (.int 1)) mNil)))) (mPure (some true)) (mCall F__law_strip_in (mCons (mVar 1) (mCons (mVar 2) mNil))))) mNil)))))
def F__law_strip_inside : FN := mDef 3 m__law_strip_inside
theorem ok__law_strip_inside (T : Tops K mg) : FnPu P w K mg base 3 T.f__law_strip_inside T.fd__law_strip_inside ["_law_strip", "_law_other"] F__law_strip_inside (kb 3) :=
  (pu_fn (n := 2) (m := m__law_strip_inside) T.F__law_strip_inside sc__law_strip_inside (by decide) (fun cdv A outer s H E hr => (puss_cons (pus_if (PuW.pt (puw_or (put_isN (pu_var 0)) (puw_or1 (put_isN (pu_var 1))))) (puss_one (pus_ret (pu_isN (pu_var 0)))) puss_nil) (puss_cons (pus_if (PuW.pt (puw_or (PuW.pt (puw_and (put_notN (pu_idx (pu_var 1) pu_int)) (puw_and1 (put_isN (pu_idx (pu_var 0) pu_int))))) (puw_or1 (PuW.pt (puw_and (put_notN (pu_idx (pu_var 1) pu_int)) (puw_and1 (put_isN (pu_idx (pu_var 0) pu_int)))))))) (puss_one (pus_ret pu_bl)) puss_nil) (puss_one (pus_ret (pu_all rfl T.n_all (pua_cons (pu_fresh (puf_comp (PuLc.mk (own := [("_law_n", 2)]) rfl sc__law_strip_inside.nd (pui_seq (pu_call (FnPu.lift (ok__law_strip_some T) (by decide)) hr T.g__law_strip_some T.F__law_strip_some.kp (b__law_strip_some T) (pua_cons (pu_var 0) (pua_cons pu_int pua_nil)))) (blkOk_by (N := ["_law_strip", "_law_other", "_law_n"]) (sc := defScope s__law_strip_inside) (by decide +kernel)) (fun _ _ _ _ _ => (pug_name sc__law_strip_inside.nd)) (fun _ _ _ _ _ => puts_nil) (fun _ _ _ _ _ => (pu_call (FnPu.lift (ok__law_strip_in T) (by decide)) hr T.g__law_strip_in T.F__law_strip_in.kp (b__law_strip_in T) (pua_cons (pu_var 1) (pua_cons (pu_var 2) pua_nil)))) (by decide) (by intro _; rfl) cst_pure (c_call (ok__law_strip_in (P := P) (w := w) (base := base) T).cst (c_cons cst_var (c_cons cst_var cst_nil)))))) pua_nil))))))) (by delta m__law_strip_inside; exact (cst_seq (c_ifS (c_orT (c_tru (c_op1 cst_var)) (c_tru (c_op1 cst_var))) (c_ret (c_op1 cst_var)) cst_next) (cst_seq (c_ifS (c_orT (c_andT (c_tru (c_op1 (cst_op2 cst_var cst_c))) (c_tru (c_op1 (cst_op2 cst_var cst_c)))) (c_andT (c_tru (c_op1 (cst_op2 cst_var cst_c))) (c_tru (c_op1 (cst_op2 cst_var cst_c))))) (c_ret cst_c) cst_next) (c_ret (c_bi (c_cons (c_lst (cst_comp (c_it (c_call (ok__law_strip_some (P := P) (w := w) (base := base) T).cst (c_cons cst_var (c_cons cst_c cst_nil)))) cst_pure (c_call (ok__law_strip_in (P := P) (w := w) (base := base) T).cst (c_cons cst_var (c_cons cst_var cst_nil))))) cst_nil))))))).mono (by decide +kernel)
def m_law : MS := (mSeq (mSetF 2 (mCons (mC .non) (mCons (mTup (mCons (mC .non) (mCons (mC .non) (mCons (mC (.int 1)) (mCons (mC (.int 0)) mNil))))) mNil))) (mSeq (mFor (gN 3) (mRange1 (mCons (mC (.int 5)) mNil)) (mSeq (mSet 5 (mCall F__law_strip_quadruple (mCons (mVar 1) mNil))) (mSeq (mIfS (mNotT (mTru (mCall F__law_told_right (mCons (mVar 1) (mCons (mVar 5) mNil))))) (mRet (mC (.bl false))) mNext) (mSeq (mAsg (gT 4 (gCo (gN 7) (gCo (gN 8) (gCo (gN 9) (gCo (gN 10) gNl))))) (mVar 5)) (mSeq (mAppend 2 (mCall F__law_strip_brought (mCons (mVar 7) (mCons (mVar 8) (mCons (mVar 9) (mCons (mVar 10) mNil)))))) (mAppend 2 (mCall F__law_strip_beside (mCons (mVar 1) (mCons (mIdxO 2 (mOp1 dNeg (mC (.int 1)))) mNil))))))))) (mSeq (mFrz 2 (mFor (gN 4) (mIt (mVar 2)) (mFor (gN 6) (mIt (mVar 2)) (mSeq (mSet 11 (mLst (mCons (mCall F_strip_within (mCons (mVar 4) (mCons (mVar 6) mNil))) (mCons (mCall F_strip_within (mPerm [1, 0] (mCons (mCall (F__law_loose 24) (mCons (mVar 1) (mCons (mVar 6) mNil))) (mCons (mCall (F__law_loose 24) (mCons (mVar 1) (mCons (mVar 4) mNil))) mNil)))) mNil)))) (mIfS (mNotT (mTru (mCall (F__law_same 24) (mCons (mVar 11) (mCons (mOp2 dRep (mLst (mCons (mCall F__law_strip_inside (mCons (mVar 4) (mCons (mVar 6) mNil))) mNil)) (mC (.int 2))) mNil))))) (mRet (mC (.bl false))) mNext))))) (mRet (mC (.bl true))))))
end
end L2.Ev.K10
namespace L2.Ev.K10
open PySem PySem.Spec PyProof.Rows
/-- what is to be shown of the plain reading of the law -/
def Main : Prop := ∀ ns : List Int, ns.length ≤ 63 → ∃ S', m_law (none :: some (.sh .strm) :: List.replicate 10 none) (S0 ns) = some (.rt (.bl true), S')
section
variable {P : Program} {w : World} {K : PySem.W.Frag} {mg : Str → Option Value} {base : Heap}
theorem cm_law (T : Tops K mg) (P : Program) (w : World) (base : Heap) : Cst (kb 28) m_law := cst_mono (by delta m_law; exact (cst_seq (c_setF (c_cons cst_c (c_cons (c_tup (c_cons cst_c (c_cons cst_c (c_cons cst_c (c_cons cst_c cst_nil))))) cst_nil))) (cst_seq (cst_for (c_range1 (c_cons cst_c cst_nil)) (cst_seq (c_set (c_call (ok__law_strip_quadruple (P := P) (w := w) (base := base) T).cst (c_cons cst_var cst_nil))) (cst_seq (c_ifS (c_notT (c_tru (c_call (ok__law_told_right (P := P) (w := w) (base := base) T).cst (c_cons cst_var (c_cons cst_var cst_nil))))) (c_ret cst_c) cst_next) (cst_seq (c_asg cst_var) (cst_seq (c_append (c_call (ok__law_strip_brought (P := P) (w := w) (base := base) T).cst (c_cons cst_var (c_cons cst_var (c_cons cst_var (c_cons cst_var cst_nil)))))) (c_append (c_call (ok__law_strip_beside (P := P) (w := w) (base := base) T).cst (c_cons cst_var (c_cons (c_idxO (c_op1 cst_c)) cst_nil))))))))) (cst_seq (c_frz (cst_for (c_it cst_var) (cst_for (c_it cst_var) (cst_seq (c_set (c_lst (c_cons (c_call (ok_strip_within (P := P) (w := w) (base := base) T).cst (c_cons cst_var (c_cons cst_var cst_nil))) (c_cons (c_call (ok_strip_within (P := P) (w := w) (base := base) T).cst (c_perm (c_cons (c_call (ok__law_loose (P := P) (w := w) (base := base) T 24).cst (c_cons cst_var (c_cons cst_var cst_nil))) (c_cons (c_call (ok__law_loose (P := P) (w := w) (base := base) T 24).cst (c_cons cst_var (c_cons cst_var cst_nil))) cst_nil)))) cst_nil)))) (c_ifS (c_notT (c_tru (c_call (ok__law_same (P := P) (w := w) (base := base) T 24).cst (c_cons cst_var (c_cons (cst_op2 (c_lst (c_cons (c_call (ok__law_strip_inside (P := P) (w := w) (base := base) T).cst (c_cons cst_var (c_cons cst_var cst_nil))) cst_nil)) cst_c) cst_nil))))) (c_ret cst_c) cst_next))))) (c_ret cst_c))))) (by decide +kernel)
theorem ok_law (main : Main) (T : Tops K mg) {f : Addr} {fd : FuncData} (F : Fun K "law" "law" s_law f fd) : FnOk P w K mg base CX0 28 f fd ["_law_script"] (spLaw K) := by
  refine F.ok sc_law (fun vs H Q E h => ?_) (fun cdv A outer s H vs Q E hr h => ?_)
  · obtain ⟨a, ns, rfl, _⟩ := h
    rfl
  obtain ⟨a, ns, rfl, hS, hl, q⟩ := h
  obtain ⟨S', em⟩ := main ns hl
  have hc := (cm_law T P w base _ _ _ _ em).2
  refine law_glue (N := 10) (m := m_law) (ns := ns) rfl
    (ps_set (i := 1) sc_law.nd rfl (.inl rfl) (pe_call (ok__law_stream T) (hr.mono (by decide)) rfl T.g__law_stream T.F__law_stream.kp (b__law_stream T) .nil pass0 (pa_cons (pv 0) pa_nil)))
    (puss_cons (pus_setF (i := 2) sc_law.nd (puf_lst (pua_cons pu_non (pua_cons (pu_tup (pua_cons pu_non (pua_cons pu_non (pua_cons pu_int (pua_cons pu_int pua_nil))))) pua_nil)))) (puss_cons (pus_for PassesOwn.never rfl (pui_range1 T.n_range (pua_cons pu_int pua_nil)) (pug_name sc_law.nd) (puss_cons (pus_set (i := 5) sc_law.nd (pu_call (FnPu.lift (ok__law_strip_quadruple T) (by decide)) hr T.g__law_strip_quadruple T.F__law_strip_quadruple.kp (b__law_strip_quadruple T) (pua_cons (pu_var 1) pua_nil))) (puss_cons (pus_if (put_not (put_val (pu_call (FnPu.lift (ok__law_told_right T) (by decide)) hr T.g__law_told_right T.F__law_told_right.kp (b__law_told_right T) (pua_cons (pu_var 1) (pua_cons (pu_var 5) pua_nil))))) (puss_one (pus_ret pu_bl)) puss_nil) (puss_cons (pus_asg (pu_var 5) (pug_tup rfl (pugs_cons (pug_name sc_law.nd) (pugs_cons (pug_name sc_law.nd) (pugs_cons (pug_name sc_law.nd) (pugs_cons (pug_name sc_law.nd) pugs_nil)))))) (puss_cons (pus_append 2 (pv 2) (pu_call (FnPu.lift (ok__law_strip_brought T) (by decide)) hr T.g__law_strip_brought T.F__law_strip_brought.kp (b__law_strip_brought T) (pua_cons (pu_var 7) (pua_cons (pu_var 8) (pua_cons (pu_var 9) (pua_cons (pu_var 10) pua_nil))))) (hpe := fun _ h => pe_bm PySem.F.plainAttrs_list PySem.F.slot_list_append PySem.F.type_list_append mt_append (pv 2) h)) (puss_one (pus_append 2 (pv 2) (pu_call (FnPu.lift (ok__law_strip_beside T) (by decide)) hr T.g__law_strip_beside T.F__law_strip_beside.kp (b__law_strip_beside T) (pua_cons (pu_var 1) (pua_cons (pu_idxO 2 (pv 2) (pu_neg pu_int)) pua_nil))) (hpe := fun _ h => pe_bm PySem.F.plainAttrs_list PySem.F.slot_list_append PySem.F.type_list_append mt_append (pv 2) h)))))))) (puss_cons (pus_frz 2 (pus_for PassesOwn.never rfl (pui_seq (pu_var 2)) (pug_name sc_law.nd) (puss_one (pus_for PassesOwn.never rfl (pui_seq (pu_var 2)) (pug_name sc_law.nd) (puss_cons (pus_set (i := 11) sc_law.nd (pu_fresh (puf_lst (pua_cons (pu_call (FnPu.lift (ok_strip_within T) (by decide)) hr T.g_strip_within T.F_strip_within.kp (b_strip_within T) (pua_cons (pu_var 4) (pua_cons (pu_var 6) pua_nil))) (pua_cons (pu_callK (ps := ["strip", "other"]) (ks := ["other", "strip"]) [1, 0] (FnPu.lift (ok_strip_within T) (by decide)) hr T.g_strip_within T.F_strip_within.kp (fun s ws hl => by obtain ⟨_, _, _, _, _, _, _, _, _, hfd, _, _⟩ := T.F_strip_within.ex; rw [hfd]; exact match ws, hl with | [_, _], _ => .of_eq rfl) (puk_cons (pu_call (FnPu.lift (ok__law_loose T 24) (by decide)) hr T.g__law_loose T.F__law_loose.kp (b__law_loose T) (pua_cons (pu_var 1) (pua_cons (pu_var 6) pua_nil))) (puk_cons (pu_call (FnPu.lift (ok__law_loose T 24) (by decide)) hr T.g__law_loose T.F__law_loose.kp (b__law_loose T) (pua_cons (pu_var 1) (pua_cons (pu_var 4) pua_nil))) puk_nil))) pua_nil))))) (puss_one (pus_if (put_not (put_val (pu_call (FnPu.lift (ok__law_same T 24) (by decide)) hr T.g__law_same T.F__law_same.kp (b__law_same T) (pua_cons (pu_var 11) (pua_cons (pu_rep (pu_fresh (puf_lst (pua_cons (pu_call (FnPu.lift (ok__law_strip_inside T) (by decide)) hr T.g__law_strip_inside T.F__law_strip_inside.kp (b__law_strip_inside T) (pua_cons (pu_var 4) (pua_cons (pu_var 6) pua_nil))) pua_nil))) pu_int) pua_nil))))) (puss_one (pus_ret pu_bl)) puss_nil))))))) (puss_one (pus_ret pu_bl)))))
    (fun Q h => ⟨.ref a, rfl, a, ns, rfl, hS, h⟩) ⟨S', em, ?_⟩ q
  have h0 : (S0 ns).cnt = 0 := rfl
  rw [h0, Nat.zero_add] at hc
  exact Nat.le_trans hc (Nat.le_of_succ_le (kb_lim (by decide)))
/-- what the top has written -/
theorem all_mk (main : Main) {l : PySem.W.OpenLaw} {w : World} {K : PySem.W.Frag} {h : Heap} {mg : Str → Option Value} {fa : Addr} (X : K.In h) (G : h.Ns mainGlobals mg) (hfa : mg "law" = some (.ref fa))
    {f0 : Addr} {od0 an0 : Option Addr} {sl0 : Array (Option Value)} {oc0 kV0 dc0 pm0 cd0 ct0 : Value}
    (a0 : PySem.W.nsIn K mainGlobals "_law_stream" = some (some (.ref f0))) (l0 : K.lookup f0 = some ⟨oc0, od0, .func (PySem.W.fnOf "_law_stream" "_law_stream" (defArgs s__law_stream) (defBody s__law_stream) (defScope s__law_stream) .none kV0 dc0 pm0 an0 cd0 ct0), sl0⟩) (c0 : PySem.W.codeIn K cd0 "_law_stream" = true) (k0 : PySem.W.keepIn K (.ref f0) = true)
    {f1 : Addr} {od1 an1 : Option Addr} {sl1 : Array (Option Value)} {oc1 kV1 dc1 pm1 cd1 ct1 : Value}
    (a1 : PySem.W.nsIn K mainGlobals "_law_draw" = some (some (.ref f1))) (l1 : K.lookup f1 = some ⟨oc1, od1, .func (PySem.W.fnOf "_law_draw" "_law_draw" (defArgs s__law_draw) (defBody s__law_draw) (defScope s__law_draw) .none kV1 dc1 pm1 an1 cd1 ct1), sl1⟩) (c1 : PySem.W.codeIn K cd1 "_law_draw" = true) (k1 : PySem.W.keepIn K (.ref f1) = true)
    {f2 : Addr} {od2 an2 : Option Addr} {sl2 : Array (Option Value)} {oc2 kV2 dc2 pm2 cd2 ct2 : Value}
    (a2 : PySem.W.nsIn K mainGlobals "_law_pick" = some (some (.ref f2))) (l2 : K.lookup f2 = some ⟨oc2, od2, .func (PySem.W.fnOf "_law_pick" "_law_pick" (defArgs s__law_pick) (defBody s__law_pick) (defScope s__law_pick) .none kV2 dc2 pm2 an2 cd2 ct2), sl2⟩) (c2 : PySem.W.codeIn K cd2 "_law_pick" = true) (k2 : PySem.W.keepIn K (.ref f2) = true)
    {f3 : Addr} {od3 an3 : Option Addr} {sl3 : Array (Option Value)} {oc3 kV3 dc3 pm3 cd3 ct3 : Value}
    (a3 : PySem.W.nsIn K mainGlobals "_law_any_integer" = some (some (.ref f3))) (l3 : K.lookup f3 = some ⟨oc3, od3, .func (PySem.W.fnOf "_law_any_integer" "_law_any_integer" (defArgs s__law_any_integer) (defBody s__law_any_integer) (defScope s__law_any_integer) .none kV3 dc3 pm3 an3 cd3 ct3), sl3⟩) (c3 : PySem.W.codeIn K cd3 "_law_any_integer" = true) (k3 : PySem.W.keepIn K (.ref f3) = true)
    {f4 : Addr} {od4 an4 : Option Addr} {sl4 : Array (Option Value)} {oc4 kV4 dc4 pm4 cd4 ct4 : Value}
    (a4 : PySem.W.nsIn K mainGlobals "_law_strip_quadruple" = some (some (.ref f4))) (l4 : K.lookup f4 = some ⟨oc4, od4, .func (PySem.W.fnOf "_law_strip_quadruple" "_law_strip_quadruple" (defArgs s__law_strip_quadruple) (defBody s__law_strip_quadruple) (defScope s__law_strip_quadruple) .none kV4 dc4 pm4 an4 cd4 ct4), sl4⟩) (c4 : PySem.W.codeIn K cd4 "_law_strip_quadruple" = true) (k4 : PySem.W.keepIn K (.ref f4) = true)
    {f5 : Addr} {od5 an5 : Option Addr} {sl5 : Array (Option Value)} {oc5 kV5 dc5 pm5 cd5 ct5 : Value}
    (a5 : PySem.W.nsIn K mainGlobals "_law_strip_brought" = some (some (.ref f5))) (l5 : K.lookup f5 = some ⟨oc5, od5, .func (PySem.W.fnOf "_law_strip_brought" "_law_strip_brought" (defArgs s__law_strip_brought) (defBody s__law_strip_brought) (defScope s__law_strip_brought) .none kV5 dc5 pm5 an5 cd5 ct5), sl5⟩) (c5 : PySem.W.codeIn K cd5 "_law_strip_brought" = true) (k5 : PySem.W.keepIn K (.ref f5) = true)
    {f6 : Addr} {od6 an6 : Option Addr} {sl6 : Array (Option Value)} {oc6 kV6 dc6 pm6 cd6 ct6 : Value}
    (a6 : PySem.W.nsIn K mainGlobals "_law_each_once" = some (some (.ref f6))) (l6 : K.lookup f6 = some ⟨oc6, od6, .func (PySem.W.fnOf "_law_each_once" "_law_each_once" (defArgs s__law_each_once) (defBody s__law_each_once) (defScope s__law_each_once) .none kV6 dc6 pm6 an6 cd6 ct6), sl6⟩) (c6 : PySem.W.codeIn K cd6 "_law_each_once" = true) (k6 : PySem.W.keepIn K (.ref f6) = true)
    {f7 : Addr} {od7 an7 : Option Addr} {sl7 : Array (Option Value)} {oc7 kV7 dc7 pm7 cd7 ct7 : Value}
    (a7 : PySem.W.nsIn K mainGlobals "_law_strip_in" = some (some (.ref f7))) (l7 : K.lookup f7 = some ⟨oc7, od7, .func (PySem.W.fnOf "_law_strip_in" "_law_strip_in" (defArgs s__law_strip_in) (defBody s__law_strip_in) (defScope s__law_strip_in) .none kV7 dc7 pm7 an7 cd7 ct7), sl7⟩) (c7 : PySem.W.codeIn K cd7 "_law_strip_in" = true) (k7 : PySem.W.keepIn K (.ref f7) = true)
    {f8 : Addr} {od8 an8 : Option Addr} {sl8 : Array (Option Value)} {oc8 kV8 dc8 pm8 cd8 ct8 : Value}
    (a8 : PySem.W.nsIn K mainGlobals "_law_strip_some" = some (some (.ref f8))) (l8 : K.lookup f8 = some ⟨oc8, od8, .func (PySem.W.fnOf "_law_strip_some" "_law_strip_some" (defArgs s__law_strip_some) (defBody s__law_strip_some) (defScope s__law_strip_some) .none kV8 dc8 pm8 an8 cd8 ct8), sl8⟩) (c8 : PySem.W.codeIn K cd8 "_law_strip_some" = true) (k8 : PySem.W.keepIn K (.ref f8) = true)
    {f9 : Addr} {od9 an9 : Option Addr} {sl9 : Array (Option Value)} {oc9 kV9 dc9 pm9 cd9 ct9 : Value}
    (a9 : PySem.W.nsIn K mainGlobals "_law_probes" = some (some (.ref f9))) (l9 : K.lookup f9 = some ⟨oc9, od9, .func (PySem.W.fnOf "_law_probes" "_law_probes" (defArgs s__law_probes) (defBody s__law_probes) (defScope s__law_probes) .none kV9 dc9 pm9 an9 cd9 ct9), sl9⟩) (c9 : PySem.W.codeIn K cd9 "_law_probes" = true) (k9 : PySem.W.keepIn K (.ref f9) = true)
    {f10 : Addr} {od10 an10 : Option Addr} {sl10 : Array (Option Value)} {oc10 kV10 dc10 pm10 cd10 ct10 : Value}
    (a10 : PySem.W.nsIn K mainGlobals "_law_same" = some (some (.ref f10))) (l10 : K.lookup f10 = some ⟨oc10, od10, .func (PySem.W.fnOf "_law_same" "_law_same" (defArgs s__law_same) (defBody s__law_same) (defScope s__law_same) .none kV10 dc10 pm10 an10 cd10 ct10), sl10⟩) (c10 : PySem.W.codeIn K cd10 "_law_same" = true) (k10 : PySem.W.keepIn K (.ref f10) = true)
    {f11 : Addr} {od11 an11 : Option Addr} {sl11 : Array (Option Value)} {oc11 kV11 dc11 pm11 cd11 ct11 : Value}
    (a11 : PySem.W.nsIn K mainGlobals "is_list" = some (some (.ref f11))) (l11 : K.lookup f11 = some ⟨oc11, od11, .func (PySem.W.fnOf "is_list" "is_list" (defArgs s_is_list) (defBody s_is_list) (defScope s_is_list) .none kV11 dc11 pm11 an11 cd11 ct11), sl11⟩) (c11 : PySem.W.codeIn K cd11 "is_list" = true) (k11 : PySem.W.keepIn K (.ref f11) = true)
    {f12 : Addr} {od12 an12 : Option Addr} {sl12 : Array (Option Value)} {oc12 kV12 dc12 pm12 cd12 ct12 : Value}
    (a12 : PySem.W.nsIn K mainGlobals "is_list_of" = some (some (.ref f12))) (l12 : K.lookup f12 = some ⟨oc12, od12, .func (PySem.W.fnOf "is_list_of" "is_list_of" (defArgs s_is_list_of) (defBody s_is_list_of) (defScope s_is_list_of) .none kV12 dc12 pm12 an12 cd12 ct12), sl12⟩) (c12 : PySem.W.codeIn K cd12 "is_list_of" = true) (k12 : PySem.W.keepIn K (.ref f12) = true)
    {f13 : Addr} {od13 an13 : Option Addr} {sl13 : Array (Option Value)} {oc13 kV13 dc13 pm13 cd13 ct13 : Value}
    (a13 : PySem.W.nsIn K mainGlobals "is_integer" = some (some (.ref f13))) (l13 : K.lookup f13 = some ⟨oc13, od13, .func (PySem.W.fnOf "is_integer" "is_integer" (defArgs s_is_integer) (defBody s_is_integer) (defScope s_is_integer) .none kV13 dc13 pm13 an13 cd13 ct13), sl13⟩) (c13 : PySem.W.codeIn K cd13 "is_integer" = true) (k13 : PySem.W.keepIn K (.ref f13) = true)
    {f14 : Addr} {od14 an14 : Option Addr} {sl14 : Array (Option Value)} {oc14 kV14 dc14 pm14 cd14 ct14 : Value}
    (a14 : PySem.W.nsIn K mainGlobals "is_rest" = some (some (.ref f14))) (l14 : K.lookup f14 = some ⟨oc14, od14, .func (PySem.W.fnOf "is_rest" "is_rest" (defArgs s_is_rest) (defBody s_is_rest) (defScope s_is_rest) .none kV14 dc14 pm14 an14 cd14 ct14), sl14⟩) (c14 : PySem.W.codeIn K cd14 "is_rest" = true) (k14 : PySem.W.keepIn K (.ref f14) = true)
    {f15 : Addr} {od15 an15 : Option Addr} {sl15 : Array (Option Value)} {oc15 kV15 dc15 pm15 cd15 ct15 : Value}
    (a15 : PySem.W.nsIn K mainGlobals "rest_of" = some (some (.ref f15))) (l15 : K.lookup f15 = some ⟨oc15, od15, .func (PySem.W.fnOf "rest_of" "rest_of" (defArgs s_rest_of) (defBody s_rest_of) (defScope s_rest_of) .none kV15 dc15 pm15 an15 cd15 ct15), sl15⟩) (c15 : PySem.W.codeIn K cd15 "rest_of" = true) (k15 : PySem.W.keepIn K (.ref f15) = true)
    {f16 : Addr} {od16 an16 : Option Addr} {sl16 : Array (Option Value)} {oc16 kV16 dc16 pm16 cd16 ct16 : Value}
    (a16 : PySem.W.nsIn K mainGlobals "rest_has" = some (some (.ref f16))) (l16 : K.lookup f16 = some ⟨oc16, od16, .func (PySem.W.fnOf "rest_has" "rest_has" (defArgs s_rest_has) (defBody s_rest_has) (defScope s_rest_has) .none kV16 dc16 pm16 an16 cd16 ct16), sl16⟩) (c16 : PySem.W.codeIn K cd16 "rest_has" = true) (k16 : PySem.W.keepIn K (.ref f16) = true)
    {f17 : Addr} {od17 an17 : Option Addr} {sl17 : Array (Option Value)} {oc17 kV17 dc17 pm17 cd17 ct17 : Value}
    (a17 : PySem.W.nsIn K mainGlobals "is_strip" = some (some (.ref f17))) (l17 : K.lookup f17 = some ⟨oc17, od17, .func (PySem.W.fnOf "is_strip" "is_strip" (defArgs s_is_strip) (defBody s_is_strip) (defScope s_is_strip) .none kV17 dc17 pm17 an17 cd17 ct17), sl17⟩) (c17 : PySem.W.codeIn K cd17 "is_strip" = true) (k17 : PySem.W.keepIn K (.ref f17) = true)
    {f18 : Addr} {od18 an18 : Option Addr} {sl18 : Array (Option Value)} {oc18 kV18 dc18 pm18 cd18 ct18 : Value}
    (a18 : PySem.W.nsIn K mainGlobals "check_strip" = some (some (.ref f18))) (l18 : K.lookup f18 = some ⟨oc18, od18, .func (PySem.W.fnOf "check_strip" "check_strip" (defArgs s_check_strip) (defBody s_check_strip) (defScope s_check_strip) .none kV18 dc18 pm18 an18 cd18 ct18), sl18⟩) (c18 : PySem.W.codeIn K cd18 "check_strip" = true) (k18 : PySem.W.keepIn K (.ref f18) = true)
    {f19 : Addr} {od19 an19 : Option Addr} {sl19 : Array (Option Value)} {oc19 kV19 dc19 pm19 cd19 ct19 : Value}
    (a19 : PySem.W.nsIn K mainGlobals "strip_many" = some (some (.ref f19))) (l19 : K.lookup f19 = some ⟨oc19, od19, .func (PySem.W.fnOf "strip_many" "strip_many" (defArgs s_strip_many) (defBody s_strip_many) (defScope s_strip_many) .none kV19 dc19 pm19 an19 cd19 ct19), sl19⟩) (c19 : PySem.W.codeIn K cd19 "strip_many" = true) (k19 : PySem.W.keepIn K (.ref f19) = true)
    {f20 : Addr} {od20 an20 : Option Addr} {sl20 : Array (Option Value)} {oc20 kV20 dc20 pm20 cd20 ct20 : Value}
    (a20 : PySem.W.nsIn K mainGlobals "check_integer" = some (some (.ref f20))) (l20 : K.lookup f20 = some ⟨oc20, od20, .func (PySem.W.fnOf "check_integer" "check_integer" (defArgs s_check_integer) (defBody s_check_integer) (defScope s_check_integer) .none kV20 dc20 pm20 an20 cd20 ct20), sl20⟩) (c20 : PySem.W.codeIn K cd20 "check_integer" = true) (k20 : PySem.W.keepIn K (.ref f20) = true)
    {f21 : Addr} {od21 an21 : Option Addr} {sl21 : Array (Option Value)} {oc21 kV21 dc21 pm21 cd21 ct21 : Value}
    (a21 : PySem.W.nsIn K mainGlobals "has" = some (some (.ref f21))) (l21 : K.lookup f21 = some ⟨oc21, od21, .func (PySem.W.fnOf "has" "has" (defArgs s_has) (defBody s_has) (defScope s_has) .none kV21 dc21 pm21 an21 cd21 ct21), sl21⟩) (c21 : PySem.W.codeIn K cd21 "has" = true) (k21 : PySem.W.keepIn K (.ref f21) = true)
    {f22 : Addr} {od22 an22 : Option Addr} {sl22 : Array (Option Value)} {oc22 kV22 dc22 pm22 cd22 ct22 : Value}
    (a22 : PySem.W.nsIn K mainGlobals "strip_has" = some (some (.ref f22))) (l22 : K.lookup f22 = some ⟨oc22, od22, .func (PySem.W.fnOf "strip_has" "strip_has" (defArgs s_strip_has) (defBody s_strip_has) (defScope s_strip_has) .none kV22 dc22 pm22 an22 cd22 ct22), sl22⟩) (c22 : PySem.W.codeIn K cd22 "strip_has" = true) (k22 : PySem.W.keepIn K (.ref f22) = true)
    {f23 : Addr} {od23 an23 : Option Addr} {sl23 : Array (Option Value)} {oc23 kV23 dc23 pm23 cd23 ct23 : Value}
    (a23 : PySem.W.nsIn K mainGlobals "alone" = some (some (.ref f23))) (l23 : K.lookup f23 = some ⟨oc23, od23, .func (PySem.W.fnOf "alone" "alone" (defArgs s_alone) (defBody s_alone) (defScope s_alone) .none kV23 dc23 pm23 an23 cd23 ct23), sl23⟩) (c23 : PySem.W.codeIn K cd23 "alone" = true) (k23 : PySem.W.keepIn K (.ref f23) = true)
    {f24 : Addr} {od24 an24 : Option Addr} {sl24 : Array (Option Value)} {oc24 kV24 dc24 pm24 cd24 ct24 : Value}
    (a24 : PySem.W.nsIn K mainGlobals "reduce_strip" = some (some (.ref f24))) (l24 : K.lookup f24 = some ⟨oc24, od24, .func (PySem.W.fnOf "reduce_strip" "reduce_strip" (defArgs s_reduce_strip) (defBody s_reduce_strip) (defScope s_reduce_strip) .none kV24 dc24 pm24 an24 cd24 ct24), sl24⟩) (c24 : PySem.W.codeIn K cd24 "reduce_strip" = true) (k24 : PySem.W.keepIn K (.ref f24) = true)
    {f25 : Addr} {od25 an25 : Option Addr} {sl25 : Array (Option Value)} {oc25 kV25 dc25 pm25 cd25 ct25 : Value}
    (a25 : PySem.W.nsIn K mainGlobals "is_number" = some (some (.ref f25))) (l25 : K.lookup f25 = some ⟨oc25, od25, .func (PySem.W.fnOf "is_number" "is_number" (defArgs s_is_number) (defBody s_is_number) (defScope s_is_number) .none kV25 dc25 pm25 an25 cd25 ct25), sl25⟩) (c25 : PySem.W.codeIn K cd25 "is_number" = true) (k25 : PySem.W.keepIn K (.ref f25) = true)
    {f26 : Addr} {od26 an26 : Option Addr} {sl26 : Array (Option Value)} {oc26 kV26 dc26 pm26 cd26 ct26 : Value}
    (a26 : PySem.W.nsIn K mainGlobals "reduced" = some (some (.ref f26))) (l26 : K.lookup f26 = some ⟨oc26, od26, .func (PySem.W.fnOf "reduced" "reduced" (defArgs s_reduced) (defBody s_reduced) (defScope s_reduced) .none kV26 dc26 pm26 an26 cd26 ct26), sl26⟩) (c26 : PySem.W.codeIn K cd26 "reduced" = true) (k26 : PySem.W.keepIn K (.ref f26) = true)
    {f27 : Addr} {od27 an27 : Option Addr} {sl27 : Array (Option Value)} {oc27 kV27 dc27 pm27 cd27 ct27 : Value}
    (a27 : PySem.W.nsIn K mainGlobals "_law_loose" = some (some (.ref f27))) (l27 : K.lookup f27 = some ⟨oc27, od27, .func (PySem.W.fnOf "_law_loose" "_law_loose" (defArgs s__law_loose) (defBody s__law_loose) (defScope s__law_loose) .none kV27 dc27 pm27 an27 cd27 ct27), sl27⟩) (c27 : PySem.W.codeIn K cd27 "_law_loose" = true) (k27 : PySem.W.keepIn K (.ref f27) = true)
    {f28 : Addr} {od28 an28 : Option Addr} {sl28 : Array (Option Value)} {oc28 kV28 dc28 pm28 cd28 ct28 : Value}
    (a28 : PySem.W.nsIn K mainGlobals "_law_strip_size" = some (some (.ref f28))) (l28 : K.lookup f28 = some ⟨oc28, od28, .func (PySem.W.fnOf "_law_strip_size" "_law_strip_size" (defArgs s__law_strip_size) (defBody s__law_strip_size) (defScope s__law_strip_size) .none kV28 dc28 pm28 an28 cd28 ct28), sl28⟩) (c28 : PySem.W.codeIn K cd28 "_law_strip_size" = true) (k28 : PySem.W.keepIn K (.ref f28) = true)
    {f29 : Addr} {od29 an29 : Option Addr} {sl29 : Array (Option Value)} {oc29 kV29 dc29 pm29 cd29 ct29 : Value}
    (a29 : PySem.W.nsIn K mainGlobals "_law_told_right" = some (some (.ref f29))) (l29 : K.lookup f29 = some ⟨oc29, od29, .func (PySem.W.fnOf "_law_told_right" "_law_told_right" (defArgs s__law_told_right) (defBody s__law_told_right) (defScope s__law_told_right) .none kV29 dc29 pm29 an29 cd29 ct29), sl29⟩) (c29 : PySem.W.codeIn K cd29 "_law_told_right" = true) (k29 : PySem.W.keepIn K (.ref f29) = true)
    {f30 : Addr} {od30 an30 : Option Addr} {sl30 : Array (Option Value)} {oc30 kV30 dc30 pm30 cd30 ct30 : Value}
    (a30 : PySem.W.nsIn K mainGlobals "_law_strip_beside" = some (some (.ref f30))) (l30 : K.lookup f30 = some ⟨oc30, od30, .func (PySem.W.fnOf "_law_strip_beside" "_law_strip_beside" (defArgs s__law_strip_beside) (defBody s__law_strip_beside) (defScope s__law_strip_beside) .none kV30 dc30 pm30 an30 cd30 ct30), sl30⟩) (c30 : PySem.W.codeIn K cd30 "_law_strip_beside" = true) (k30 : PySem.W.keepIn K (.ref f30) = true)
    {f31 : Addr} {od31 an31 : Option Addr} {sl31 : Array (Option Value)} {oc31 kV31 dc31 pm31 cd31 ct31 : Value}
    (a31 : PySem.W.nsIn K mainGlobals "rest_within" = some (some (.ref f31))) (l31 : K.lookup f31 = some ⟨oc31, od31, .func (PySem.W.fnOf "rest_within" "rest_within" (defArgs s_rest_within) (defBody s_rest_within) (defScope s_rest_within) .none kV31 dc31 pm31 an31 cd31 ct31), sl31⟩) (c31 : PySem.W.codeIn K cd31 "rest_within" = true) (k31 : PySem.W.keepIn K (.ref f31) = true)
    {f32 : Addr} {od32 an32 : Option Addr} {sl32 : Array (Option Value)} {oc32 kV32 dc32 pm32 cd32 ct32 : Value}
    (a32 : PySem.W.nsIn K mainGlobals "lies_within" = some (some (.ref f32))) (l32 : K.lookup f32 = some ⟨oc32, od32, .func (PySem.W.fnOf "lies_within" "lies_within" (defArgs s_lies_within) (defBody s_lies_within) (defScope s_lies_within) .none kV32 dc32 pm32 an32 cd32 ct32), sl32⟩) (c32 : PySem.W.codeIn K cd32 "lies_within" = true) (k32 : PySem.W.keepIn K (.ref f32) = true)
    {f33 : Addr} {od33 an33 : Option Addr} {sl33 : Array (Option Value)} {oc33 kV33 dc33 pm33 cd33 ct33 : Value}
    (a33 : PySem.W.nsIn K mainGlobals "strip_within" = some (some (.ref f33))) (l33 : K.lookup f33 = some ⟨oc33, od33, .func (PySem.W.fnOf "strip_within" "strip_within" (defArgs s_strip_within) (defBody s_strip_within) (defScope s_strip_within) .none kV33 dc33 pm33 an33 cd33 ct33), sl33⟩) (c33 : PySem.W.codeIn K cd33 "strip_within" = true) (k33 : PySem.W.keepIn K (.ref f33) = true)
    {f34 : Addr} {od34 an34 : Option Addr} {sl34 : Array (Option Value)} {oc34 kV34 dc34 pm34 cd34 ct34 : Value}
    (a34 : PySem.W.nsIn K mainGlobals "_law_strip_inside" = some (some (.ref f34))) (l34 : K.lookup f34 = some ⟨oc34, od34, .func (PySem.W.fnOf "_law_strip_inside" "_law_strip_inside" (defArgs s__law_strip_inside) (defBody s__law_strip_inside) (defScope s__law_strip_inside) .none kV34 dc34 pm34 an34 cd34 ct34), sl34⟩) (c34 : PySem.W.codeIn K cd34 "_law_strip_inside" = true) (k34 : PySem.W.keepIn K (.ref f34) = true)
    {f35 : Addr} {od35 an35 : Option Addr} {sl35 : Array (Option Value)} {oc35 kV35 dc35 pm35 cd35 ct35 : Value}
    (a35 : PySem.W.nsIn K mainGlobals "law" = some (some (.ref f35))) (l35 : K.lookup f35 = some ⟨oc35, od35, .func (PySem.W.fnOf "law" "law" (defArgs s_law) (defBody s_law) (defScope s_law) .none kV35 dc35 pm35 an35 cd35 ct35), sl35⟩) (c35 : PySem.W.codeIn K cd35 "law" = true) (k35 : PySem.W.keepIn K (.ref f35) = true)
    (z0 : PySem.W.nsIn K mainGlobals "abs" = some none)
    (z1 : PySem.W.nsIn K mainGlobals "all" = some none)
    (z2 : PySem.W.nsIn K mainGlobals "bool" = some none)
    (z3 : PySem.W.nsIn K mainGlobals "dict" = some none)
    (z4 : PySem.W.nsIn K mainGlobals "int" = some none)
    (z5 : PySem.W.nsIn K mainGlobals "isinstance" = some none)
    (z6 : PySem.W.nsIn K mainGlobals "len" = some none)
    (z7 : PySem.W.nsIn K mainGlobals "list" = some none)
    (z8 : PySem.W.nsIn K mainGlobals "range" = some none)
    (z9 : PySem.W.nsIn K mainGlobals "tuple" = some none)
    (z10 : PySem.W.nsIn K mainGlobals "zip" = some none)
    : ∃ fd : FuncData, (∀ (s : Shared) (v : Value), BindsTo s fd ⟨[v], []⟩ [("_law_script", v)]) ∧ ∀ base : Heap, K.In base → base.Ns mainGlobals mg → FnOk l.prog w K mg base CX0 28 fa fd ["_law_script"] (spLaw K) := by
  have e := hfa.symm.trans (PySem.W.mg_of X G a35)
  cases e
  have T : Tops K mg := {
    f__law_stream := f0, fd__law_stream := _, F__law_stream := fun_mk (st := s__law_stream) l0 c0 k0, g__law_stream := PySem.W.mg_of X G a0
    f__law_draw := f1, fd__law_draw := _, F__law_draw := fun_mk (st := s__law_draw) l1 c1 k1, g__law_draw := PySem.W.mg_of X G a1
    f__law_pick := f2, fd__law_pick := _, F__law_pick := fun_mk (st := s__law_pick) l2 c2 k2, g__law_pick := PySem.W.mg_of X G a2
    f__law_any_integer := f3, fd__law_any_integer := _, F__law_any_integer := fun_mk (st := s__law_any_integer) l3 c3 k3, g__law_any_integer := PySem.W.mg_of X G a3
    f__law_strip_quadruple := f4, fd__law_strip_quadruple := _, F__law_strip_quadruple := fun_mk (st := s__law_strip_quadruple) l4 c4 k4, g__law_strip_quadruple := PySem.W.mg_of X G a4
    f__law_strip_brought := f5, fd__law_strip_brought := _, F__law_strip_brought := fun_mk (st := s__law_strip_brought) l5 c5 k5, g__law_strip_brought := PySem.W.mg_of X G a5
    f__law_each_once := f6, fd__law_each_once := _, F__law_each_once := fun_mk (st := s__law_each_once) l6 c6 k6, g__law_each_once := PySem.W.mg_of X G a6
    f__law_strip_in := f7, fd__law_strip_in := _, F__law_strip_in := fun_mk (st := s__law_strip_in) l7 c7 k7, g__law_strip_in := PySem.W.mg_of X G a7
    f__law_strip_some := f8, fd__law_strip_some := _, F__law_strip_some := fun_mk (st := s__law_strip_some) l8 c8 k8, g__law_strip_some := PySem.W.mg_of X G a8
    f__law_probes := f9, fd__law_probes := _, F__law_probes := fun_mk (st := s__law_probes) l9 c9 k9, g__law_probes := PySem.W.mg_of X G a9
    f__law_same := f10, fd__law_same := _, F__law_same := fun_mk (st := s__law_same) l10 c10 k10, g__law_same := PySem.W.mg_of X G a10
    f_is_list := f11, fd_is_list := _, F_is_list := fun_mk (st := s_is_list) l11 c11 k11, g_is_list := PySem.W.mg_of X G a11
    f_is_list_of := f12, fd_is_list_of := _, F_is_list_of := fun_mk (st := s_is_list_of) l12 c12 k12, g_is_list_of := PySem.W.mg_of X G a12
    f_is_integer := f13, fd_is_integer := _, F_is_integer := fun_mk (st := s_is_integer) l13 c13 k13, g_is_integer := PySem.W.mg_of X G a13
    f_is_rest := f14, fd_is_rest := _, F_is_rest := fun_mk (st := s_is_rest) l14 c14 k14, g_is_rest := PySem.W.mg_of X G a14
    f_rest_of := f15, fd_rest_of := _, F_rest_of := fun_mk (st := s_rest_of) l15 c15 k15, g_rest_of := PySem.W.mg_of X G a15
    f_rest_has := f16, fd_rest_has := _, F_rest_has := fun_mk (st := s_rest_has) l16 c16 k16, g_rest_has := PySem.W.mg_of X G a16
    f_is_strip := f17, fd_is_strip := _, F_is_strip := fun_mk (st := s_is_strip) l17 c17 k17, g_is_strip := PySem.W.mg_of X G a17
    f_check_strip := f18, fd_check_strip := _, F_check_strip := fun_mk (st := s_check_strip) l18 c18 k18, g_check_strip := PySem.W.mg_of X G a18
    f_strip_many := f19, fd_strip_many := _, F_strip_many := fun_mk (st := s_strip_many) l19 c19 k19, g_strip_many := PySem.W.mg_of X G a19
    f_check_integer := f20, fd_check_integer := _, F_check_integer := fun_mk (st := s_check_integer) l20 c20 k20, g_check_integer := PySem.W.mg_of X G a20
    f_has := f21, fd_has := _, F_has := fun_mk (st := s_has) l21 c21 k21, g_has := PySem.W.mg_of X G a21
    f_strip_has := f22, fd_strip_has := _, F_strip_has := fun_mk (st := s_strip_has) l22 c22 k22, g_strip_has := PySem.W.mg_of X G a22
    f_alone := f23, fd_alone := _, F_alone := fun_mk (st := s_alone) l23 c23 k23, g_alone := PySem.W.mg_of X G a23
    f_reduce_strip := f24, fd_reduce_strip := _, F_reduce_strip := fun_mk (st := s_reduce_strip) l24 c24 k24, g_reduce_strip := PySem.W.mg_of X G a24
    f_is_number := f25, fd_is_number := _, F_is_number := fun_mk (st := s_is_number) l25 c25 k25, g_is_number := PySem.W.mg_of X G a25
    f_reduced := f26, fd_reduced := _, F_reduced := fun_mk (st := s_reduced) l26 c26 k26, g_reduced := PySem.W.mg_of X G a26
    f__law_loose := f27, fd__law_loose := _, F__law_loose := fun_mk (st := s__law_loose) l27 c27 k27, g__law_loose := PySem.W.mg_of X G a27
    f__law_strip_size := f28, fd__law_strip_size := _, F__law_strip_size := fun_mk (st := s__law_strip_size) l28 c28 k28, g__law_strip_size := PySem.W.mg_of X G a28
    f__law_told_right := f29, fd__law_told_right := _, F__law_told_right := fun_mk (st := s__law_told_right) l29 c29 k29, g__law_told_right := PySem.W.mg_of X G a29
    f__law_strip_beside := f30, fd__law_strip_beside := _, F__law_strip_beside := fun_mk (st := s__law_strip_beside) l30 c30 k30, g__law_strip_beside := PySem.W.mg_of X G a30
    f_rest_within := f31, fd_rest_within := _, F_rest_within := fun_mk (st := s_rest_within) l31 c31 k31, g_rest_within := PySem.W.mg_of X G a31
    f_lies_within := f32, fd_lies_within := _, F_lies_within := fun_mk (st := s_lies_within) l32 c32 k32, g_lies_within := PySem.W.mg_of X G a32
    f_strip_within := f33, fd_strip_within := _, F_strip_within := fun_mk (st := s_strip_within) l33 c33 k33, g_strip_within := PySem.W.mg_of X G a33
    f__law_strip_inside := f34, fd__law_strip_inside := _, F__law_strip_inside := fun_mk (st := s__law_strip_inside) l34 c34 k34, g__law_strip_inside := PySem.W.mg_of X G a34
    n_abs := PySem.W.mg_none_of X G z0
    n_all := PySem.W.mg_none_of X G z1
    n_bool := PySem.W.mg_none_of X G z2
    n_dict := PySem.W.mg_none_of X G z3
    n_int := PySem.W.mg_none_of X G z4
    n_isinstance := PySem.W.mg_none_of X G z5
    n_len := PySem.W.mg_none_of X G z6
    n_list := PySem.W.mg_none_of X G z7
    n_range := PySem.W.mg_none_of X G z8
    n_tuple := PySem.W.mg_none_of X G z9
    n_zip := PySem.W.mg_none_of X G z10
  }
  exact ⟨PySem.W.fnOf "law" "law" (defArgs s_law) (defBody s_law) (defScope s_law) .none kV35 dc35 pm35 an35 cd35 ct35, fun s v => .of_eq rfl, fun base _ _ => ok_law main T (fun_mk (st := s_law) l35 c35 k35)⟩
end

end L2.Ev.K10
namespace L2.Ev.K10
open PySem PySem.Spec PyProof.Rows
theorem p9 : dPow (.int 10) (.int 9) = some (.int 1000000000) := by simp [dPow]
theorem p31 : dPow (.int 10) (.int 31) = some (.int 10000000000000000000000000000000) := by simp [dPow]
theorem v_any (S : Strm) : ∃ n S', F__law_any_integer [.strm] S = some (.int n, S') ∧ n.natAbs < 2 ^ 140 := by
  obtain ⟨k, S1, hk, e⟩ := x_draw_at S (m := 9) (by decide)
  simp only [F__law_any_integer, m__law_any_integer, x_def, startE, x_seq, x_nx, x_rt, x_bk, x_ct, x_bind, x_pure, x_c, x_nil, x_cons, x_tup, x_lst, x_op2, x_op1, x_tru, x_notT, x_ite, x_ifS, x_andT, x_orT, x_and, x_or, x_chain, x_bi, x_biF, x_call, x_perm, x_it, x_ret, x_drop, x_next, x_set, x_setF, x_asg, x_aug, x_for, x_comp, x_cat, x_dSub, x_dAdd, x_dAddI, x_dLt, x_dLe, x_dGt, x_dGe, x_dNeg, x_dNot, x_dTru, x_dEq, x_dNe, x_var0, x_varS, Option.bind_some, Option.map_some, List.map_cons, List.map_nil, List.length_cons, List.length_nil, List.replicate_succ, List.replicate_zero, List.cons_append, List.nil_append, List.set_cons_zero, List.set_cons_succ, Bool.not_true, Bool.not_false, Bool.false_eq_true, if_true, if_false, decide_true, decide_false, decide_eq_true_eq, dIsN, dNotN, dIdx, dItems, at_int, at0, at1, at2, at3, cut2, gN, gT, gCo, gNl, wipeE, x_for_nil, x_for_cons, x_turn_nx, x_turn_ct, x_turn_bk, x_turn_rt, x_comp_nil, x_comp_cons, sz2, sz4, i_lt_int, i_lt_bl, i_lt_non, i_lt_lst, i_lt_tup, i_i_int, i_i_bl, i_b_int, i_b_bl, i_b_non, i_b_lst, i_b_tup, i_l_int, i_l_bl, i_l_non, i_l_lst, i_l_tup, i_t_int, i_t_lst, i_t_tup, i_d_int, i_d_bl, i_d_non, i_d_lst, i_d_tup, i_ltd_int, i_ltd_bl, i_ltd_non, l_lst, l_tup, t_lst, t_tup, a_lst, b_nil, b_cons, cut_lst, cut_tup, x_dEqb, x_dNeb, x_dEqn, x_zip, x_range1, x_range2, Int.cast_ofNat_Int, Nat.zero_add, List.all_cons, List.all_nil, id, Bool.and_true, Bool.true_and, Bool.and_false, Bool.false_and, Bool.or_true, Bool.true_or, Bool.or_false, Bool.false_or, Nat.reduceAdd, Nat.reduceSub, Int.reduceEq, Int.reduceLT, Int.reduceLE, Int.reduceNeg, szl0, szl1, szl2, szl3, szl4, szl5, szl6, szl7, szl8, szl9, szl10, x_extend, x_append, x_borT, x_frz, x_idxO, List.getElem?_cons_zero, List.getElem?_cons_succ, x_notIn, x_isIn, rg_m1, rg_m2, rg_2, rg_3, rg_5, x_abs, x_int, x_rep2, Int.reduceAdd, Int.reduceSub, Int.reduceToNat, and_self, ram3, rbm3, ram2, rbm2, ram1, rbm1, ra0, rb0, ra1, rb1, ra2, rb2, ra3, rb3, ra4, rb4, ra5, rb5, ra6, rb6, ra7, rb7, ra8, rb8, ra9, rb9, ra10, rb10, ra11, rb11, ra12, rb12, ra13, rb13, ra20, rb20, ra24, rb24, e]
  by_cases h : k < 6
  · obtain ⟨k2, S2, hk2, e2⟩ := x_draw_at S1 (m := 25) (by decide)
    simp only [x_def, startE, x_seq, x_nx, x_rt, x_bk, x_ct, x_bind, x_pure, x_c, x_nil, x_cons, x_tup, x_lst, x_op2, x_op1, x_tru, x_notT, x_ite, x_ifS, x_andT, x_orT, x_and, x_or, x_chain, x_bi, x_biF, x_call, x_perm, x_it, x_ret, x_drop, x_next, x_set, x_setF, x_asg, x_aug, x_for, x_comp, x_cat, x_dSub, x_dAdd, x_dAddI, x_dLt, x_dLe, x_dGt, x_dGe, x_dNeg, x_dNot, x_dTru, x_dEq, x_dNe, x_var0, x_varS, Option.bind_some, Option.map_some, List.map_cons, List.map_nil, List.length_cons, List.length_nil, List.replicate_succ, List.replicate_zero, List.cons_append, List.nil_append, List.set_cons_zero, List.set_cons_succ, Bool.not_true, Bool.not_false, Bool.false_eq_true, if_true, if_false, decide_true, decide_false, decide_eq_true_eq, dIsN, dNotN, dIdx, dItems, at_int, at0, at1, at2, at3, cut2, gN, gT, gCo, gNl, wipeE, x_for_nil, x_for_cons, x_turn_nx, x_turn_ct, x_turn_bk, x_turn_rt, x_comp_nil, x_comp_cons, sz2, sz4, i_lt_int, i_lt_bl, i_lt_non, i_lt_lst, i_lt_tup, i_i_int, i_i_bl, i_b_int, i_b_bl, i_b_non, i_b_lst, i_b_tup, i_l_int, i_l_bl, i_l_non, i_l_lst, i_l_tup, i_t_int, i_t_lst, i_t_tup, i_d_int, i_d_bl, i_d_non, i_d_lst, i_d_tup, i_ltd_int, i_ltd_bl, i_ltd_non, l_lst, l_tup, t_lst, t_tup, a_lst, b_nil, b_cons, cut_lst, cut_tup, x_dEqb, x_dNeb, x_dEqn, x_zip, x_range1, x_range2, Int.cast_ofNat_Int, Nat.zero_add, List.all_cons, List.all_nil, id, Bool.and_true, Bool.true_and, Bool.and_false, Bool.false_and, Bool.or_true, Bool.true_or, Bool.or_false, Bool.false_or, Nat.reduceAdd, Nat.reduceSub, Int.reduceEq, Int.reduceLT, Int.reduceLE, Int.reduceNeg, szl0, szl1, szl2, szl3, szl4, szl5, szl6, szl7, szl8, szl9, szl10, x_extend, x_append, x_borT, x_frz, x_idxO, List.getElem?_cons_zero, List.getElem?_cons_succ, x_notIn, x_isIn, rg_m1, rg_m2, rg_2, rg_3, rg_5, x_abs, x_int, x_rep2, Int.reduceAdd, Int.reduceSub, Int.reduceToNat, and_self, ram3, rbm3, ram2, rbm2, ram1, rbm1, ra0, rb0, ra1, rb1, ra2, rb2, ra3, rb3, ra4, rb4, ra5, rb5, ra6, rb6, ra7, rb7, ra8, rb8, ra9, rb9, ra10, rb10, ra11, rb11, ra12, rb12, ra13, rb13, ra20, rb20, ra24, rb24, h, e2]
    exact ⟨_, _, rfl, by omega⟩
  by_cases h8 : k < 8
  · obtain ⟨k2, S2, hk2, e2⟩ := x_draw_at S1 (m := 2001) (by decide)
    simp only [x_def, startE, x_seq, x_nx, x_rt, x_bk, x_ct, x_bind, x_pure, x_c, x_nil, x_cons, x_tup, x_lst, x_op2, x_op1, x_tru, x_notT, x_ite, x_ifS, x_andT, x_orT, x_and, x_or, x_chain, x_bi, x_biF, x_call, x_perm, x_it, x_ret, x_drop, x_next, x_set, x_setF, x_asg, x_aug, x_for, x_comp, x_cat, x_dSub, x_dAdd, x_dAddI, x_dLt, x_dLe, x_dGt, x_dGe, x_dNeg, x_dNot, x_dTru, x_dEq, x_dNe, x_var0, x_varS, Option.bind_some, Option.map_some, List.map_cons, List.map_nil, List.length_cons, List.length_nil, List.replicate_succ, List.replicate_zero, List.cons_append, List.nil_append, List.set_cons_zero, List.set_cons_succ, Bool.not_true, Bool.not_false, Bool.false_eq_true, if_true, if_false, decide_true, decide_false, decide_eq_true_eq, dIsN, dNotN, dIdx, dItems, at_int, at0, at1, at2, at3, cut2, gN, gT, gCo, gNl, wipeE, x_for_nil, x_for_cons, x_turn_nx, x_turn_ct, x_turn_bk, x_turn_rt, x_comp_nil, x_comp_cons, sz2, sz4, i_lt_int, i_lt_bl, i_lt_non, i_lt_lst, i_lt_tup, i_i_int, i_i_bl, i_b_int, i_b_bl, i_b_non, i_b_lst, i_b_tup, i_l_int, i_l_bl, i_l_non, i_l_lst, i_l_tup, i_t_int, i_t_lst, i_t_tup, i_d_int, i_d_bl, i_d_non, i_d_lst, i_d_tup, i_ltd_int, i_ltd_bl, i_ltd_non, l_lst, l_tup, t_lst, t_tup, a_lst, b_nil, b_cons, cut_lst, cut_tup, x_dEqb, x_dNeb, x_dEqn, x_zip, x_range1, x_range2, Int.cast_ofNat_Int, Nat.zero_add, List.all_cons, List.all_nil, id, Bool.and_true, Bool.true_and, Bool.and_false, Bool.false_and, Bool.or_true, Bool.true_or, Bool.or_false, Bool.false_or, Nat.reduceAdd, Nat.reduceSub, Int.reduceEq, Int.reduceLT, Int.reduceLE, Int.reduceNeg, szl0, szl1, szl2, szl3, szl4, szl5, szl6, szl7, szl8, szl9, szl10, x_extend, x_append, x_borT, x_frz, x_idxO, List.getElem?_cons_zero, List.getElem?_cons_succ, x_notIn, x_isIn, rg_m1, rg_m2, rg_2, rg_3, rg_5, x_abs, x_int, x_rep2, Int.reduceAdd, Int.reduceSub, Int.reduceToNat, and_self, ram3, rbm3, ram2, rbm2, ram1, rbm1, ra0, rb0, ra1, rb1, ra2, rb2, ra3, rb3, ra4, rb4, ra5, rb5, ra6, rb6, ra7, rb7, ra8, rb8, ra9, rb9, ra10, rb10, ra11, rb11, ra12, rb12, ra13, rb13, ra20, rb20, ra24, rb24, h, h8, e2]
    exact ⟨_, _, rfl, by omega⟩
  obtain ⟨k2, S2, hk2, e2⟩ := x_draw_at S1 (m := 1000000000) (by decide)
  obtain ⟨k3, S3, hk3, e3⟩ := x_draw_at S2 (m := 1000000000) (by decide)
  obtain ⟨k4, S4, hk4, e4⟩ := x_draw_at S3 (m := 2) (by decide)
  have em : dMul (.int k2) (.int 10000000000000000000000000000000) = some (.int (k2 * 10000000000000000000000000000000)) := dMul_ok (by omega) (by decide)
  simp only [x_def, startE, x_seq, x_nx, x_rt, x_bk, x_ct, x_bind, x_pure, x_c, x_nil, x_cons, x_tup, x_lst, x_op2, x_op1, x_tru, x_notT, x_ite, x_ifS, x_andT, x_orT, x_and, x_or, x_chain, x_bi, x_biF, x_call, x_perm, x_it, x_ret, x_drop, x_next, x_set, x_setF, x_asg, x_aug, x_for, x_comp, x_cat, x_dSub, x_dAdd, x_dAddI, x_dLt, x_dLe, x_dGt, x_dGe, x_dNeg, x_dNot, x_dTru, x_dEq, x_dNe, x_var0, x_varS, Option.bind_some, Option.map_some, List.map_cons, List.map_nil, List.length_cons, List.length_nil, List.replicate_succ, List.replicate_zero, List.cons_append, List.nil_append, List.set_cons_zero, List.set_cons_succ, Bool.not_true, Bool.not_false, Bool.false_eq_true, if_true, if_false, decide_true, decide_false, decide_eq_true_eq, dIsN, dNotN, dIdx, dItems, at_int, at0, at1, at2, at3, cut2, gN, gT, gCo, gNl, wipeE, x_for_nil, x_for_cons, x_turn_nx, x_turn_ct, x_turn_bk, x_turn_rt, x_comp_nil, x_comp_cons, sz2, sz4, i_lt_int, i_lt_bl, i_lt_non, i_lt_lst, i_lt_tup, i_i_int, i_i_bl, i_b_int, i_b_bl, i_b_non, i_b_lst, i_b_tup, i_l_int, i_l_bl, i_l_non, i_l_lst, i_l_tup, i_t_int, i_t_lst, i_t_tup, i_d_int, i_d_bl, i_d_non, i_d_lst, i_d_tup, i_ltd_int, i_ltd_bl, i_ltd_non, l_lst, l_tup, t_lst, t_tup, a_lst, b_nil, b_cons, cut_lst, cut_tup, x_dEqb, x_dNeb, x_dEqn, x_zip, x_range1, x_range2, Int.cast_ofNat_Int, Nat.zero_add, List.all_cons, List.all_nil, id, Bool.and_true, Bool.true_and, Bool.and_false, Bool.false_and, Bool.or_true, Bool.true_or, Bool.or_false, Bool.false_or, Nat.reduceAdd, Nat.reduceSub, Int.reduceEq, Int.reduceLT, Int.reduceLE, Int.reduceNeg, szl0, szl1, szl2, szl3, szl4, szl5, szl6, szl7, szl8, szl9, szl10, x_extend, x_append, x_borT, x_frz, x_idxO, List.getElem?_cons_zero, List.getElem?_cons_succ, x_notIn, x_isIn, rg_m1, rg_m2, rg_2, rg_3, rg_5, x_abs, x_int, x_rep2, Int.reduceAdd, Int.reduceSub, Int.reduceToNat, and_self, ram3, rbm3, ram2, rbm2, ram1, rbm1, ra0, rb0, ra1, rb1, ra2, rb2, ra3, rb3, ra4, rb4, ra5, rb5, ra6, rb6, ra7, rb7, ra8, rb8, ra9, rb9, ra10, rb10, ra11, rb11, ra12, rb12, ra13, rb13, ra20, rb20, ra24, rb24, h, h8, p9, p31, e2, e3, em, e4]
  by_cases h4 : k4 = 0
  · simp only [x_def, startE, x_seq, x_nx, x_rt, x_bk, x_ct, x_bind, x_pure, x_c, x_nil, x_cons, x_tup, x_lst, x_op2, x_op1, x_tru, x_notT, x_ite, x_ifS, x_andT, x_orT, x_and, x_or, x_chain, x_bi, x_biF, x_call, x_perm, x_it, x_ret, x_drop, x_next, x_set, x_setF, x_asg, x_aug, x_for, x_comp, x_cat, x_dSub, x_dAdd, x_dAddI, x_dLt, x_dLe, x_dGt, x_dGe, x_dNeg, x_dNot, x_dTru, x_dEq, x_dNe, x_var0, x_varS, Option.bind_some, Option.map_some, List.map_cons, List.map_nil, List.length_cons, List.length_nil, List.replicate_succ, List.replicate_zero, List.cons_append, List.nil_append, List.set_cons_zero, List.set_cons_succ, Bool.not_true, Bool.not_false, Bool.false_eq_true, if_true, if_false, decide_true, decide_false, decide_eq_true_eq, dIsN, dNotN, dIdx, dItems, at_int, at0, at1, at2, at3, cut2, gN, gT, gCo, gNl, wipeE, x_for_nil, x_for_cons, x_turn_nx, x_turn_ct, x_turn_bk, x_turn_rt, x_comp_nil, x_comp_cons, sz2, sz4, i_lt_int, i_lt_bl, i_lt_non, i_lt_lst, i_lt_tup, i_i_int, i_i_bl, i_b_int, i_b_bl, i_b_non, i_b_lst, i_b_tup, i_l_int, i_l_bl, i_l_non, i_l_lst, i_l_tup, i_t_int, i_t_lst, i_t_tup, i_d_int, i_d_bl, i_d_non, i_d_lst, i_d_tup, i_ltd_int, i_ltd_bl, i_ltd_non, l_lst, l_tup, t_lst, t_tup, a_lst, b_nil, b_cons, cut_lst, cut_tup, x_dEqb, x_dNeb, x_dEqn, x_zip, x_range1, x_range2, Int.cast_ofNat_Int, Nat.zero_add, List.all_cons, List.all_nil, id, Bool.and_true, Bool.true_and, Bool.and_false, Bool.false_and, Bool.or_true, Bool.true_or, Bool.or_false, Bool.false_or, Nat.reduceAdd, Nat.reduceSub, Int.reduceEq, Int.reduceLT, Int.reduceLE, Int.reduceNeg, szl0, szl1, szl2, szl3, szl4, szl5, szl6, szl7, szl8, szl9, szl10, x_extend, x_append, x_borT, x_frz, x_idxO, List.getElem?_cons_zero, List.getElem?_cons_succ, x_notIn, x_isIn, rg_m1, rg_m2, rg_2, rg_3, rg_5, x_abs, x_int, x_rep2, Int.reduceAdd, Int.reduceSub, Int.reduceToNat, and_self, ram3, rbm3, ram2, rbm2, ram1, rbm1, ra0, rb0, ra1, rb1, ra2, rb2, ra3, rb3, ra4, rb4, ra5, rb5, ra6, rb6, ra7, rb7, ra8, rb8, ra9, rb9, ra10, rb10, ra11, rb11, ra12, rb12, ra13, rb13, ra20, rb20, ra24, rb24, h4]
    exact ⟨_, _, rfl, by omega⟩
  · simp only [x_def, startE, x_seq, x_nx, x_rt, x_bk, x_ct, x_bind, x_pure, x_c, x_nil, x_cons, x_tup, x_lst, x_op2, x_op1, x_tru, x_notT, x_ite, x_ifS, x_andT, x_orT, x_and, x_or, x_chain, x_bi, x_biF, x_call, x_perm, x_it, x_ret, x_drop, x_next, x_set, x_setF, x_asg, x_aug, x_for, x_comp, x_cat, x_dSub, x_dAdd, x_dAddI, x_dLt, x_dLe, x_dGt, x_dGe, x_dNeg, x_dNot, x_dTru, x_dEq, x_dNe, x_var0, x_varS, Option.bind_some, Option.map_some, List.map_cons, List.map_nil, List.length_cons, List.length_nil, List.replicate_succ, List.replicate_zero, List.cons_append, List.nil_append, List.set_cons_zero, List.set_cons_succ, Bool.not_true, Bool.not_false, Bool.false_eq_true, if_true, if_false, decide_true, decide_false, decide_eq_true_eq, dIsN, dNotN, dIdx, dItems, at_int, at0, at1, at2, at3, cut2, gN, gT, gCo, gNl, wipeE, x_for_nil, x_for_cons, x_turn_nx, x_turn_ct, x_turn_bk, x_turn_rt, x_comp_nil, x_comp_cons, sz2, sz4, i_lt_int, i_lt_bl, i_lt_non, i_lt_lst, i_lt_tup, i_i_int, i_i_bl, i_b_int, i_b_bl, i_b_non, i_b_lst, i_b_tup, i_l_int, i_l_bl, i_l_non, i_l_lst, i_l_tup, i_t_int, i_t_lst, i_t_tup, i_d_int, i_d_bl, i_d_non, i_d_lst, i_d_tup, i_ltd_int, i_ltd_bl, i_ltd_non, l_lst, l_tup, t_lst, t_tup, a_lst, b_nil, b_cons, cut_lst, cut_tup, x_dEqb, x_dNeb, x_dEqn, x_zip, x_range1, x_range2, Int.cast_ofNat_Int, Nat.zero_add, List.all_cons, List.all_nil, id, Bool.and_true, Bool.true_and, Bool.and_false, Bool.false_and, Bool.or_true, Bool.true_or, Bool.or_false, Bool.false_or, Nat.reduceAdd, Nat.reduceSub, Int.reduceEq, Int.reduceLT, Int.reduceLE, Int.reduceNeg, szl0, szl1, szl2, szl3, szl4, szl5, szl6, szl7, szl8, szl9, szl10, x_extend, x_append, x_borT, x_frz, x_idxO, List.getElem?_cons_zero, List.getElem?_cons_succ, x_notIn, x_isIn, rg_m1, rg_m2, rg_2, rg_3, rg_5, x_abs, x_int, x_rep2, Int.reduceAdd, Int.reduceSub, Int.reduceToNat, and_self, ram3, rbm3, ram2, rbm2, ram1, rbm1, ra0, rb0, ra1, rb1, ra2, rb2, ra3, rb3, ra4, rb4, ra5, rb5, ra6, rb6, ra7, rb7, ra8, rb8, ra9, rb9, ra10, rb10, ra11, rb11, ra12, rb12, ra13, rb13, ra20, rb20, ra24, rb24, h4]
    exact ⟨_, _, rfl, by omega⟩


abbrev ST := Option (Option Int × Option Int × Int × Int)
def oD : Option Int → D
  | none => .non
  | some n => .int n
def qD (t : Bool) (l h : Option Int) (m r : Int) : D := if t then .lst [oD l, oD h, .int m, .int r] else .tup [oD l, oD h, .int m, .int r]
def sL (t : Bool) : ST → D
  | none => .non
  | some (l, h, m, r) => qD t l h m r
def sD (s : ST) : D := sL false s
def bro (l h : Option Int) (m r : Int) : ST :=
  if m = 0 then (if (∀ a, l = some a → a ≤ r) ∧ (∀ b, h = some b → r ≤ b) then some (some r, some r, 0, r) else none)
  else match l, h with
  | none, none => some (none, none, m, r % m)
  | some a, none => some (some (a + (r - a) % m), none, m, r % m)
  | none, some b => some (none, some (b - (b - r) % m), m, r % m)
  | some a, some b => if b - (b - r) % m ≤ a + (r - a) % m then (if b - (b - r) % m < a + (r - a) % m then none else some (some (a + (r - a) % m), some (a + (r - a) % m), 0, a + (r - a) % m)) else some (some (a + (r - a) % m), some (b - (b - r) % m), m, r % m)
theorem sub_lo (a r m : Int) : a + (r % m - a) - m * ((r % m - a) / m) = a + (r - a) % m := by
  have h1 : (r % m - a) % m = (r - a) % m := by rw [Int.emod_sub_emod]
  rw [← h1, Int.emod_def (r % m - a) m]; omega
theorem sub_hi (b r m : Int) : b - (b - r % m) + m * ((b - r % m) / m) = b - (b - r) % m := by
  have h1 : (b - r % m) % m = (b - r) % m := by rw [Int.sub_emod, Int.emod_emod_of_dvd _ (Int.dvd_refl m), ← Int.sub_emod]
  rw [← h1, Int.emod_def (b - r % m) m]; omega
theorem sub_rest (r m : Int) : r - m * (r / m) = r % m := (Int.emod_def r m).symm
def Sm (k : Nat) (l : Option Int) : Prop := ∀ a, l = some a → a.natAbs < 2 ^ k
theorem mod_lt {r m : Int} (hm : 0 < m) : 0 ≤ r % m ∧ r % m < m := ⟨Int.emod_nonneg _ (by omega), Int.emod_lt_of_pos _ hm⟩
theorem mul_ok {m i : Int} (hm : 0 < m) (h1 : m.natAbs < 2 ^ 1000) (h2 : i.natAbs < 2 ^ 1000) : dMul (.int m) (.int (i / m)) = some (.int (m * (i / m))) :=
  dMul_ok (Nat.lt_of_lt_of_le h1 (by decide)) (Nat.lt_of_lt_of_le (Nat.lt_of_le_of_lt (div_le hm) h2) (by decide))
theorem div_ok {m i : Int} (hm : 0 < m) (h1 : m.natAbs < 2 ^ 1000) : dDiv (.int i) (.int m) = some (.int (i / m)) := dDiv_ok hm (Nat.lt_of_lt_of_le h1 (by decide))
theorem v_brought (l h : Option Int) (m r : Int) (S : Strm) (hm : 0 ≤ m) (bl : Sm 900 l) (bh : Sm 900 h) (bm : m.natAbs < 2 ^ 900) (br : r.natAbs < 2 ^ 900) :
    F__law_strip_brought [oD l, oD h, .int m, .int r] S = some (sD (bro l h m r), S) := by
  by_cases h0 : m = 0
  · subst h0
    simp only [F__law_strip_brought, m__law_strip_brought, x_def, startE, x_seq, x_nx, x_rt, x_bk, x_ct, x_bind, x_pure, x_c, x_nil, x_cons, x_tup, x_lst, x_op2, x_op1, x_tru, x_notT, x_ite, x_ifS, x_andT, x_orT, x_and, x_or, x_chain, x_bi, x_biF, x_call, x_perm, x_it, x_ret, x_drop, x_next, x_set, x_setF, x_asg, x_aug, x_for, x_comp, x_cat, x_dSub, x_dAdd, x_dAddI, x_dLt, x_dLe, x_dGt, x_dGe, x_dNeg, x_dNot, x_dTru, x_dEq, x_dNe, x_var0, x_varS, Option.bind_some, Option.map_some, List.map_cons, List.map_nil, List.length_cons, List.length_nil, List.replicate_succ, List.replicate_zero, List.cons_append, List.nil_append, List.set_cons_zero, List.set_cons_succ, Bool.not_true, Bool.not_false, Bool.false_eq_true, if_true, if_false, decide_true, decide_false, decide_eq_true_eq, dIsN, dNotN, dIdx, dItems, at_int, at0, at1, at2, at3, cut2, gN, gT, gCo, gNl, wipeE, x_for_nil, x_for_cons, x_turn_nx, x_turn_ct, x_turn_bk, x_turn_rt, x_comp_nil, x_comp_cons, sz2, sz4, i_lt_int, i_lt_bl, i_lt_non, i_lt_lst, i_lt_tup, i_i_int, i_i_bl, i_b_int, i_b_bl, i_b_non, i_b_lst, i_b_tup, i_l_int, i_l_bl, i_l_non, i_l_lst, i_l_tup, i_t_int, i_t_lst, i_t_tup, i_d_int, i_d_bl, i_d_non, i_d_lst, i_d_tup, i_ltd_int, i_ltd_bl, i_ltd_non, l_lst, l_tup, t_lst, t_tup, a_lst, b_nil, b_cons, cut_lst, cut_tup, x_dEqb, x_dNeb, x_dEqn, x_zip, x_range1, x_range2, Int.cast_ofNat_Int, Nat.zero_add, List.all_cons, List.all_nil, id, Bool.and_true, Bool.true_and, Bool.and_false, Bool.false_and, Bool.or_true, Bool.true_or, Bool.or_false, Bool.false_or, Nat.reduceAdd, Nat.reduceSub, Int.reduceEq, Int.reduceLT, Int.reduceLE, Int.reduceNeg, szl0, szl1, szl2, szl3, szl4, szl5, szl6, szl7, szl8, szl9, szl10, x_extend, x_append, x_borT, x_frz, x_idxO, List.getElem?_cons_zero, List.getElem?_cons_succ, x_notIn, x_isIn, rg_m1, rg_m2, rg_2, rg_3, rg_5, x_abs, x_int, x_rep2, Int.reduceAdd, Int.reduceSub, Int.reduceToNat, and_self, ram3, rbm3, ram2, rbm2, ram1, rbm1, ra0, rb0, ra1, rb1, ra2, rb2, ra3, rb3, ra4, rb4, ra5, rb5, ra6, rb6, ra7, rb7, ra8, rb8, ra9, rb9, ra10, rb10, ra11, rb11, ra12, rb12, ra13, rb13, ra20, rb20, ra24, rb24]
    cases l with
    | none =>
      cases h with
      | none => simp only [x_def, startE, x_seq, x_nx, x_rt, x_bk, x_ct, x_bind, x_pure, x_c, x_nil, x_cons, x_tup, x_lst, x_op2, x_op1, x_tru, x_notT, x_ite, x_ifS, x_andT, x_orT, x_and, x_or, x_chain, x_bi, x_biF, x_call, x_perm, x_it, x_ret, x_drop, x_next, x_set, x_setF, x_asg, x_aug, x_for, x_comp, x_cat, x_dSub, x_dAdd, x_dAddI, x_dLt, x_dLe, x_dGt, x_dGe, x_dNeg, x_dNot, x_dTru, x_dEq, x_dNe, x_var0, x_varS, Option.bind_some, Option.map_some, List.map_cons, List.map_nil, List.length_cons, List.length_nil, List.replicate_succ, List.replicate_zero, List.cons_append, List.nil_append, List.set_cons_zero, List.set_cons_succ, Bool.not_true, Bool.not_false, Bool.false_eq_true, if_true, if_false, decide_true, decide_false, decide_eq_true_eq, dIsN, dNotN, dIdx, dItems, at_int, at0, at1, at2, at3, cut2, gN, gT, gCo, gNl, wipeE, x_for_nil, x_for_cons, x_turn_nx, x_turn_ct, x_turn_bk, x_turn_rt, x_comp_nil, x_comp_cons, sz2, sz4, i_lt_int, i_lt_bl, i_lt_non, i_lt_lst, i_lt_tup, i_i_int, i_i_bl, i_b_int, i_b_bl, i_b_non, i_b_lst, i_b_tup, i_l_int, i_l_bl, i_l_non, i_l_lst, i_l_tup, i_t_int, i_t_lst, i_t_tup, i_d_int, i_d_bl, i_d_non, i_d_lst, i_d_tup, i_ltd_int, i_ltd_bl, i_ltd_non, l_lst, l_tup, t_lst, t_tup, a_lst, b_nil, b_cons, cut_lst, cut_tup, x_dEqb, x_dNeb, x_dEqn, x_zip, x_range1, x_range2, Int.cast_ofNat_Int, Nat.zero_add, List.all_cons, List.all_nil, id, Bool.and_true, Bool.true_and, Bool.and_false, Bool.false_and, Bool.or_true, Bool.true_or, Bool.or_false, Bool.false_or, Nat.reduceAdd, Nat.reduceSub, Int.reduceEq, Int.reduceLT, Int.reduceLE, Int.reduceNeg, szl0, szl1, szl2, szl3, szl4, szl5, szl6, szl7, szl8, szl9, szl10, x_extend, x_append, x_borT, x_frz, x_idxO, List.getElem?_cons_zero, List.getElem?_cons_succ, x_notIn, x_isIn, rg_m1, rg_m2, rg_2, rg_3, rg_5, x_abs, x_int, x_rep2, Int.reduceAdd, Int.reduceSub, Int.reduceToNat, and_self, ram3, rbm3, ram2, rbm2, ram1, rbm1, ra0, rb0, ra1, rb1, ra2, rb2, ra3, rb3, ra4, rb4, ra5, rb5, ra6, rb6, ra7, rb7, ra8, rb8, ra9, rb9, ra10, rb10, ra11, rb11, ra12, rb12, ra13, rb13, ra20, rb20, ra24, rb24, oD]; simp [bro, sD, sL, qD, oD]
      | some b =>
        simp only [x_def, startE, x_seq, x_nx, x_rt, x_bk, x_ct, x_bind, x_pure, x_c, x_nil, x_cons, x_tup, x_lst, x_op2, x_op1, x_tru, x_notT, x_ite, x_ifS, x_andT, x_orT, x_and, x_or, x_chain, x_bi, x_biF, x_call, x_perm, x_it, x_ret, x_drop, x_next, x_set, x_setF, x_asg, x_aug, x_for, x_comp, x_cat, x_dSub, x_dAdd, x_dAddI, x_dLt, x_dLe, x_dGt, x_dGe, x_dNeg, x_dNot, x_dTru, x_dEq, x_dNe, x_var0, x_varS, Option.bind_some, Option.map_some, List.map_cons, List.map_nil, List.length_cons, List.length_nil, List.replicate_succ, List.replicate_zero, List.cons_append, List.nil_append, List.set_cons_zero, List.set_cons_succ, Bool.not_true, Bool.not_false, Bool.false_eq_true, if_true, if_false, decide_true, decide_false, decide_eq_true_eq, dIsN, dNotN, dIdx, dItems, at_int, at0, at1, at2, at3, cut2, gN, gT, gCo, gNl, wipeE, x_for_nil, x_for_cons, x_turn_nx, x_turn_ct, x_turn_bk, x_turn_rt, x_comp_nil, x_comp_cons, sz2, sz4, i_lt_int, i_lt_bl, i_lt_non, i_lt_lst, i_lt_tup, i_i_int, i_i_bl, i_b_int, i_b_bl, i_b_non, i_b_lst, i_b_tup, i_l_int, i_l_bl, i_l_non, i_l_lst, i_l_tup, i_t_int, i_t_lst, i_t_tup, i_d_int, i_d_bl, i_d_non, i_d_lst, i_d_tup, i_ltd_int, i_ltd_bl, i_ltd_non, l_lst, l_tup, t_lst, t_tup, a_lst, b_nil, b_cons, cut_lst, cut_tup, x_dEqb, x_dNeb, x_dEqn, x_zip, x_range1, x_range2, Int.cast_ofNat_Int, Nat.zero_add, List.all_cons, List.all_nil, id, Bool.and_true, Bool.true_and, Bool.and_false, Bool.false_and, Bool.or_true, Bool.true_or, Bool.or_false, Bool.false_or, Nat.reduceAdd, Nat.reduceSub, Int.reduceEq, Int.reduceLT, Int.reduceLE, Int.reduceNeg, szl0, szl1, szl2, szl3, szl4, szl5, szl6, szl7, szl8, szl9, szl10, x_extend, x_append, x_borT, x_frz, x_idxO, List.getElem?_cons_zero, List.getElem?_cons_succ, x_notIn, x_isIn, rg_m1, rg_m2, rg_2, rg_3, rg_5, x_abs, x_int, x_rep2, Int.reduceAdd, Int.reduceSub, Int.reduceToNat, and_self, ram3, rbm3, ram2, rbm2, ram1, rbm1, ra0, rb0, ra1, rb1, ra2, rb2, ra3, rb3, ra4, rb4, ra5, rb5, ra6, rb6, ra7, rb7, ra8, rb8, ra9, rb9, ra10, rb10, ra11, rb11, ra12, rb12, ra13, rb13, ra20, rb20, ra24, rb24, oD]
        by_cases h1 : r ≤ b <;> simp [bro, sD, sL, qD, oD, h1, x_def, startE, x_seq, x_nx, x_rt, x_bk, x_ct, x_bind, x_pure, x_c, x_nil, x_cons, x_tup, x_lst, x_op2, x_op1, x_tru, x_notT, x_ite, x_ifS, x_andT, x_orT, x_and, x_or, x_chain, x_bi, x_biF, x_call, x_perm, x_it, x_ret, x_drop, x_next, x_set, x_setF, x_asg, x_aug, x_for, x_comp, x_cat, x_dSub, x_dAdd, x_dAddI, x_dLt, x_dLe, x_dGt, x_dGe, x_dNeg, x_dNot, x_dTru, x_dEq, x_dNe, x_var0, x_varS, Option.bind_some, Option.map_some, List.map_cons, List.map_nil, List.length_cons, List.length_nil, List.replicate_succ, List.replicate_zero, List.cons_append, List.nil_append, List.set_cons_zero, List.set_cons_succ, Bool.not_true, Bool.not_false, Bool.false_eq_true, if_true, if_false, decide_true, decide_false, decide_eq_true_eq, dIsN, dNotN, dIdx, dItems, at_int, at0, at1, at2, at3, cut2, gN, gT, gCo, gNl, wipeE, x_for_nil, x_for_cons, x_turn_nx, x_turn_ct, x_turn_bk, x_turn_rt, x_comp_nil, x_comp_cons, sz2, sz4, i_lt_int, i_lt_bl, i_lt_non, i_lt_lst, i_lt_tup, i_i_int, i_i_bl, i_b_int, i_b_bl, i_b_non, i_b_lst, i_b_tup, i_l_int, i_l_bl, i_l_non, i_l_lst, i_l_tup, i_t_int, i_t_lst, i_t_tup, i_d_int, i_d_bl, i_d_non, i_d_lst, i_d_tup, i_ltd_int, i_ltd_bl, i_ltd_non, l_lst, l_tup, t_lst, t_tup, a_lst, b_nil, b_cons, cut_lst, cut_tup, x_dEqb, x_dNeb, x_dEqn, x_zip, x_range1, x_range2, Int.cast_ofNat_Int, Nat.zero_add, List.all_cons, List.all_nil, id, Bool.and_true, Bool.true_and, Bool.and_false, Bool.false_and, Bool.or_true, Bool.true_or, Bool.or_false, Bool.false_or, Nat.reduceAdd, Nat.reduceSub, Int.reduceEq, Int.reduceLT, Int.reduceLE, Int.reduceNeg, szl0, szl1, szl2, szl3, szl4, szl5, szl6, szl7, szl8, szl9, szl10, x_extend, x_append, x_borT, x_frz, x_idxO, List.getElem?_cons_zero, List.getElem?_cons_succ, x_notIn, x_isIn, rg_m1, rg_m2, rg_2, rg_3, rg_5, x_abs, x_int, x_rep2, Int.reduceAdd, Int.reduceSub, Int.reduceToNat, and_self, ram3, rbm3, ram2, rbm2, ram1, rbm1, ra0, rb0, ra1, rb1, ra2, rb2, ra3, rb3, ra4, rb4, ra5, rb5, ra6, rb6, ra7, rb7, ra8, rb8, ra9, rb9, ra10, rb10, ra11, rb11, ra12, rb12, ra13, rb13, ra20, rb20, ra24, rb24]
    | some a =>
      cases h with
      | none =>
        simp only [x_def, startE, x_seq, x_nx, x_rt, x_bk, x_ct, x_bind, x_pure, x_c, x_nil, x_cons, x_tup, x_lst, x_op2, x_op1, x_tru, x_notT, x_ite, x_ifS, x_andT, x_orT, x_and, x_or, x_chain, x_bi, x_biF, x_call, x_perm, x_it, x_ret, x_drop, x_next, x_set, x_setF, x_asg, x_aug, x_for, x_comp, x_cat, x_dSub, x_dAdd, x_dAddI, x_dLt, x_dLe, x_dGt, x_dGe, x_dNeg, x_dNot, x_dTru, x_dEq, x_dNe, x_var0, x_varS, Option.bind_some, Option.map_some, List.map_cons, List.map_nil, List.length_cons, List.length_nil, List.replicate_succ, List.replicate_zero, List.cons_append, List.nil_append, List.set_cons_zero, List.set_cons_succ, Bool.not_true, Bool.not_false, Bool.false_eq_true, if_true, if_false, decide_true, decide_false, decide_eq_true_eq, dIsN, dNotN, dIdx, dItems, at_int, at0, at1, at2, at3, cut2, gN, gT, gCo, gNl, wipeE, x_for_nil, x_for_cons, x_turn_nx, x_turn_ct, x_turn_bk, x_turn_rt, x_comp_nil, x_comp_cons, sz2, sz4, i_lt_int, i_lt_bl, i_lt_non, i_lt_lst, i_lt_tup, i_i_int, i_i_bl, i_b_int, i_b_bl, i_b_non, i_b_lst, i_b_tup, i_l_int, i_l_bl, i_l_non, i_l_lst, i_l_tup, i_t_int, i_t_lst, i_t_tup, i_d_int, i_d_bl, i_d_non, i_d_lst, i_d_tup, i_ltd_int, i_ltd_bl, i_ltd_non, l_lst, l_tup, t_lst, t_tup, a_lst, b_nil, b_cons, cut_lst, cut_tup, x_dEqb, x_dNeb, x_dEqn, x_zip, x_range1, x_range2, Int.cast_ofNat_Int, Nat.zero_add, List.all_cons, List.all_nil, id, Bool.and_true, Bool.true_and, Bool.and_false, Bool.false_and, Bool.or_true, Bool.true_or, Bool.or_false, Bool.false_or, Nat.reduceAdd, Nat.reduceSub, Int.reduceEq, Int.reduceLT, Int.reduceLE, Int.reduceNeg, szl0, szl1, szl2, szl3, szl4, szl5, szl6, szl7, szl8, szl9, szl10, x_extend, x_append, x_borT, x_frz, x_idxO, List.getElem?_cons_zero, List.getElem?_cons_succ, x_notIn, x_isIn, rg_m1, rg_m2, rg_2, rg_3, rg_5, x_abs, x_int, x_rep2, Int.reduceAdd, Int.reduceSub, Int.reduceToNat, and_self, ram3, rbm3, ram2, rbm2, ram1, rbm1, ra0, rb0, ra1, rb1, ra2, rb2, ra3, rb3, ra4, rb4, ra5, rb5, ra6, rb6, ra7, rb7, ra8, rb8, ra9, rb9, ra10, rb10, ra11, rb11, ra12, rb12, ra13, rb13, ra20, rb20, ra24, rb24, oD]
        by_cases h1 : a ≤ r <;> simp [bro, sD, sL, qD, oD, h1, x_def, startE, x_seq, x_nx, x_rt, x_bk, x_ct, x_bind, x_pure, x_c, x_nil, x_cons, x_tup, x_lst, x_op2, x_op1, x_tru, x_notT, x_ite, x_ifS, x_andT, x_orT, x_and, x_or, x_chain, x_bi, x_biF, x_call, x_perm, x_it, x_ret, x_drop, x_next, x_set, x_setF, x_asg, x_aug, x_for, x_comp, x_cat, x_dSub, x_dAdd, x_dAddI, x_dLt, x_dLe, x_dGt, x_dGe, x_dNeg, x_dNot, x_dTru, x_dEq, x_dNe, x_var0, x_varS, Option.bind_some, Option.map_some, List.map_cons, List.map_nil, List.length_cons, List.length_nil, List.replicate_succ, List.replicate_zero, List.cons_append, List.nil_append, List.set_cons_zero, List.set_cons_succ, Bool.not_true, Bool.not_false, Bool.false_eq_true, if_true, if_false, decide_true, decide_false, decide_eq_true_eq, dIsN, dNotN, dIdx, dItems, at_int, at0, at1, at2, at3, cut2, gN, gT, gCo, gNl, wipeE, x_for_nil, x_for_cons, x_turn_nx, x_turn_ct, x_turn_bk, x_turn_rt, x_comp_nil, x_comp_cons, sz2, sz4, i_lt_int, i_lt_bl, i_lt_non, i_lt_lst, i_lt_tup, i_i_int, i_i_bl, i_b_int, i_b_bl, i_b_non, i_b_lst, i_b_tup, i_l_int, i_l_bl, i_l_non, i_l_lst, i_l_tup, i_t_int, i_t_lst, i_t_tup, i_d_int, i_d_bl, i_d_non, i_d_lst, i_d_tup, i_ltd_int, i_ltd_bl, i_ltd_non, l_lst, l_tup, t_lst, t_tup, a_lst, b_nil, b_cons, cut_lst, cut_tup, x_dEqb, x_dNeb, x_dEqn, x_zip, x_range1, x_range2, Int.cast_ofNat_Int, Nat.zero_add, List.all_cons, List.all_nil, id, Bool.and_true, Bool.true_and, Bool.and_false, Bool.false_and, Bool.or_true, Bool.true_or, Bool.or_false, Bool.false_or, Nat.reduceAdd, Nat.reduceSub, Int.reduceEq, Int.reduceLT, Int.reduceLE, Int.reduceNeg, szl0, szl1, szl2, szl3, szl4, szl5, szl6, szl7, szl8, szl9, szl10, x_extend, x_append, x_borT, x_frz, x_idxO, List.getElem?_cons_zero, List.getElem?_cons_succ, x_notIn, x_isIn, rg_m1, rg_m2, rg_2, rg_3, rg_5, x_abs, x_int, x_rep2, Int.reduceAdd, Int.reduceSub, Int.reduceToNat, and_self, ram3, rbm3, ram2, rbm2, ram1, rbm1, ra0, rb0, ra1, rb1, ra2, rb2, ra3, rb3, ra4, rb4, ra5, rb5, ra6, rb6, ra7, rb7, ra8, rb8, ra9, rb9, ra10, rb10, ra11, rb11, ra12, rb12, ra13, rb13, ra20, rb20, ra24, rb24]
      | some b =>
        simp only [x_def, startE, x_seq, x_nx, x_rt, x_bk, x_ct, x_bind, x_pure, x_c, x_nil, x_cons, x_tup, x_lst, x_op2, x_op1, x_tru, x_notT, x_ite, x_ifS, x_andT, x_orT, x_and, x_or, x_chain, x_bi, x_biF, x_call, x_perm, x_it, x_ret, x_drop, x_next, x_set, x_setF, x_asg, x_aug, x_for, x_comp, x_cat, x_dSub, x_dAdd, x_dAddI, x_dLt, x_dLe, x_dGt, x_dGe, x_dNeg, x_dNot, x_dTru, x_dEq, x_dNe, x_var0, x_varS, Option.bind_some, Option.map_some, List.map_cons, List.map_nil, List.length_cons, List.length_nil, List.replicate_succ, List.replicate_zero, List.cons_append, List.nil_append, List.set_cons_zero, List.set_cons_succ, Bool.not_true, Bool.not_false, Bool.false_eq_true, if_true, if_false, decide_true, decide_false, decide_eq_true_eq, dIsN, dNotN, dIdx, dItems, at_int, at0, at1, at2, at3, cut2, gN, gT, gCo, gNl, wipeE, x_for_nil, x_for_cons, x_turn_nx, x_turn_ct, x_turn_bk, x_turn_rt, x_comp_nil, x_comp_cons, sz2, sz4, i_lt_int, i_lt_bl, i_lt_non, i_lt_lst, i_lt_tup, i_i_int, i_i_bl, i_b_int, i_b_bl, i_b_non, i_b_lst, i_b_tup, i_l_int, i_l_bl, i_l_non, i_l_lst, i_l_tup, i_t_int, i_t_lst, i_t_tup, i_d_int, i_d_bl, i_d_non, i_d_lst, i_d_tup, i_ltd_int, i_ltd_bl, i_ltd_non, l_lst, l_tup, t_lst, t_tup, a_lst, b_nil, b_cons, cut_lst, cut_tup, x_dEqb, x_dNeb, x_dEqn, x_zip, x_range1, x_range2, Int.cast_ofNat_Int, Nat.zero_add, List.all_cons, List.all_nil, id, Bool.and_true, Bool.true_and, Bool.and_false, Bool.false_and, Bool.or_true, Bool.true_or, Bool.or_false, Bool.false_or, Nat.reduceAdd, Nat.reduceSub, Int.reduceEq, Int.reduceLT, Int.reduceLE, Int.reduceNeg, szl0, szl1, szl2, szl3, szl4, szl5, szl6, szl7, szl8, szl9, szl10, x_extend, x_append, x_borT, x_frz, x_idxO, List.getElem?_cons_zero, List.getElem?_cons_succ, x_notIn, x_isIn, rg_m1, rg_m2, rg_2, rg_3, rg_5, x_abs, x_int, x_rep2, Int.reduceAdd, Int.reduceSub, Int.reduceToNat, and_self, ram3, rbm3, ram2, rbm2, ram1, rbm1, ra0, rb0, ra1, rb1, ra2, rb2, ra3, rb3, ra4, rb4, ra5, rb5, ra6, rb6, ra7, rb7, ra8, rb8, ra9, rb9, ra10, rb10, ra11, rb11, ra12, rb12, ra13, rb13, ra20, rb20, ra24, rb24, oD]
        by_cases h1 : a ≤ r <;> by_cases h2 : r ≤ b <;> simp [bro, sD, sL, qD, oD, h1, h2, x_def, startE, x_seq, x_nx, x_rt, x_bk, x_ct, x_bind, x_pure, x_c, x_nil, x_cons, x_tup, x_lst, x_op2, x_op1, x_tru, x_notT, x_ite, x_ifS, x_andT, x_orT, x_and, x_or, x_chain, x_bi, x_biF, x_call, x_perm, x_it, x_ret, x_drop, x_next, x_set, x_setF, x_asg, x_aug, x_for, x_comp, x_cat, x_dSub, x_dAdd, x_dAddI, x_dLt, x_dLe, x_dGt, x_dGe, x_dNeg, x_dNot, x_dTru, x_dEq, x_dNe, x_var0, x_varS, Option.bind_some, Option.map_some, List.map_cons, List.map_nil, List.length_cons, List.length_nil, List.replicate_succ, List.replicate_zero, List.cons_append, List.nil_append, List.set_cons_zero, List.set_cons_succ, Bool.not_true, Bool.not_false, Bool.false_eq_true, if_true, if_false, decide_true, decide_false, decide_eq_true_eq, dIsN, dNotN, dIdx, dItems, at_int, at0, at1, at2, at3, cut2, gN, gT, gCo, gNl, wipeE, x_for_nil, x_for_cons, x_turn_nx, x_turn_ct, x_turn_bk, x_turn_rt, x_comp_nil, x_comp_cons, sz2, sz4, i_lt_int, i_lt_bl, i_lt_non, i_lt_lst, i_lt_tup, i_i_int, i_i_bl, i_b_int, i_b_bl, i_b_non, i_b_lst, i_b_tup, i_l_int, i_l_bl, i_l_non, i_l_lst, i_l_tup, i_t_int, i_t_lst, i_t_tup, i_d_int, i_d_bl, i_d_non, i_d_lst, i_d_tup, i_ltd_int, i_ltd_bl, i_ltd_non, l_lst, l_tup, t_lst, t_tup, a_lst, b_nil, b_cons, cut_lst, cut_tup, x_dEqb, x_dNeb, x_dEqn, x_zip, x_range1, x_range2, Int.cast_ofNat_Int, Nat.zero_add, List.all_cons, List.all_nil, id, Bool.and_true, Bool.true_and, Bool.and_false, Bool.false_and, Bool.or_true, Bool.true_or, Bool.or_false, Bool.false_or, Nat.reduceAdd, Nat.reduceSub, Int.reduceEq, Int.reduceLT, Int.reduceLE, Int.reduceNeg, szl0, szl1, szl2, szl3, szl4, szl5, szl6, szl7, szl8, szl9, szl10, x_extend, x_append, x_borT, x_frz, x_idxO, List.getElem?_cons_zero, List.getElem?_cons_succ, x_notIn, x_isIn, rg_m1, rg_m2, rg_2, rg_3, rg_5, x_abs, x_int, x_rep2, Int.reduceAdd, Int.reduceSub, Int.reduceToNat, and_self, ram3, rbm3, ram2, rbm2, ram1, rbm1, ra0, rb0, ra1, rb1, ra2, rb2, ra3, rb3, ra4, rb4, ra5, rb5, ra6, rb6, ra7, rb7, ra8, rb8, ra9, rb9, ra10, rb10, ra11, rb11, ra12, rb12, ra13, rb13, ra20, rb20, ra24, rb24]
  · have pm : 0 < m := by omega
    have hr := mod_lt (r := r) pm
    have e1 := div_ok (i := r) pm (Nat.lt_of_lt_of_le bm (by decide))
    have e2 := mul_ok (i := r) pm (Nat.lt_of_lt_of_le bm (by decide)) (Nat.lt_of_lt_of_le br (by decide))
    simp only [F__law_strip_brought, m__law_strip_brought, x_def, startE, x_seq, x_nx, x_rt, x_bk, x_ct, x_bind, x_pure, x_c, x_nil, x_cons, x_tup, x_lst, x_op2, x_op1, x_tru, x_notT, x_ite, x_ifS, x_andT, x_orT, x_and, x_or, x_chain, x_bi, x_biF, x_call, x_perm, x_it, x_ret, x_drop, x_next, x_set, x_setF, x_asg, x_aug, x_for, x_comp, x_cat, x_dSub, x_dAdd, x_dAddI, x_dLt, x_dLe, x_dGt, x_dGe, x_dNeg, x_dNot, x_dTru, x_dEq, x_dNe, x_var0, x_varS, Option.bind_some, Option.map_some, List.map_cons, List.map_nil, List.length_cons, List.length_nil, List.replicate_succ, List.replicate_zero, List.cons_append, List.nil_append, List.set_cons_zero, List.set_cons_succ, Bool.not_true, Bool.not_false, Bool.false_eq_true, if_true, if_false, decide_true, decide_false, decide_eq_true_eq, dIsN, dNotN, dIdx, dItems, at_int, at0, at1, at2, at3, cut2, gN, gT, gCo, gNl, wipeE, x_for_nil, x_for_cons, x_turn_nx, x_turn_ct, x_turn_bk, x_turn_rt, x_comp_nil, x_comp_cons, sz2, sz4, i_lt_int, i_lt_bl, i_lt_non, i_lt_lst, i_lt_tup, i_i_int, i_i_bl, i_b_int, i_b_bl, i_b_non, i_b_lst, i_b_tup, i_l_int, i_l_bl, i_l_non, i_l_lst, i_l_tup, i_t_int, i_t_lst, i_t_tup, i_d_int, i_d_bl, i_d_non, i_d_lst, i_d_tup, i_ltd_int, i_ltd_bl, i_ltd_non, l_lst, l_tup, t_lst, t_tup, a_lst, b_nil, b_cons, cut_lst, cut_tup, x_dEqb, x_dNeb, x_dEqn, x_zip, x_range1, x_range2, Int.cast_ofNat_Int, Nat.zero_add, List.all_cons, List.all_nil, id, Bool.and_true, Bool.true_and, Bool.and_false, Bool.false_and, Bool.or_true, Bool.true_or, Bool.or_false, Bool.false_or, Nat.reduceAdd, Nat.reduceSub, Int.reduceEq, Int.reduceLT, Int.reduceLE, Int.reduceNeg, szl0, szl1, szl2, szl3, szl4, szl5, szl6, szl7, szl8, szl9, szl10, x_extend, x_append, x_borT, x_frz, x_idxO, List.getElem?_cons_zero, List.getElem?_cons_succ, x_notIn, x_isIn, rg_m1, rg_m2, rg_2, rg_3, rg_5, x_abs, x_int, x_rep2, Int.reduceAdd, Int.reduceSub, Int.reduceToNat, and_self, ram3, rbm3, ram2, rbm2, ram1, rbm1, ra0, rb0, ra1, rb1, ra2, rb2, ra3, rb3, ra4, rb4, ra5, rb5, ra6, rb6, ra7, rb7, ra8, rb8, ra9, rb9, ra10, rb10, ra11, rb11, ra12, rb12, ra13, rb13, ra20, rb20, ra24, rb24, h0, e1, e2, sub_rest]
    cases l with
    | none =>
      cases h with
      | none => simp only [x_def, startE, x_seq, x_nx, x_rt, x_bk, x_ct, x_bind, x_pure, x_c, x_nil, x_cons, x_tup, x_lst, x_op2, x_op1, x_tru, x_notT, x_ite, x_ifS, x_andT, x_orT, x_and, x_or, x_chain, x_bi, x_biF, x_call, x_perm, x_it, x_ret, x_drop, x_next, x_set, x_setF, x_asg, x_aug, x_for, x_comp, x_cat, x_dSub, x_dAdd, x_dAddI, x_dLt, x_dLe, x_dGt, x_dGe, x_dNeg, x_dNot, x_dTru, x_dEq, x_dNe, x_var0, x_varS, Option.bind_some, Option.map_some, List.map_cons, List.map_nil, List.length_cons, List.length_nil, List.replicate_succ, List.replicate_zero, List.cons_append, List.nil_append, List.set_cons_zero, List.set_cons_succ, Bool.not_true, Bool.not_false, Bool.false_eq_true, if_true, if_false, decide_true, decide_false, decide_eq_true_eq, dIsN, dNotN, dIdx, dItems, at_int, at0, at1, at2, at3, cut2, gN, gT, gCo, gNl, wipeE, x_for_nil, x_for_cons, x_turn_nx, x_turn_ct, x_turn_bk, x_turn_rt, x_comp_nil, x_comp_cons, sz2, sz4, i_lt_int, i_lt_bl, i_lt_non, i_lt_lst, i_lt_tup, i_i_int, i_i_bl, i_b_int, i_b_bl, i_b_non, i_b_lst, i_b_tup, i_l_int, i_l_bl, i_l_non, i_l_lst, i_l_tup, i_t_int, i_t_lst, i_t_tup, i_d_int, i_d_bl, i_d_non, i_d_lst, i_d_tup, i_ltd_int, i_ltd_bl, i_ltd_non, l_lst, l_tup, t_lst, t_tup, a_lst, b_nil, b_cons, cut_lst, cut_tup, x_dEqb, x_dNeb, x_dEqn, x_zip, x_range1, x_range2, Int.cast_ofNat_Int, Nat.zero_add, List.all_cons, List.all_nil, id, Bool.and_true, Bool.true_and, Bool.and_false, Bool.false_and, Bool.or_true, Bool.true_or, Bool.or_false, Bool.false_or, Nat.reduceAdd, Nat.reduceSub, Int.reduceEq, Int.reduceLT, Int.reduceLE, Int.reduceNeg, szl0, szl1, szl2, szl3, szl4, szl5, szl6, szl7, szl8, szl9, szl10, x_extend, x_append, x_borT, x_frz, x_idxO, List.getElem?_cons_zero, List.getElem?_cons_succ, x_notIn, x_isIn, rg_m1, rg_m2, rg_2, rg_3, rg_5, x_abs, x_int, x_rep2, Int.reduceAdd, Int.reduceSub, Int.reduceToNat, and_self, ram3, rbm3, ram2, rbm2, ram1, rbm1, ra0, rb0, ra1, rb1, ra2, rb2, ra3, rb3, ra4, rb4, ra5, rb5, ra6, rb6, ra7, rb7, ra8, rb8, ra9, rb9, ra10, rb10, ra11, rb11, ra12, rb12, ra13, rb13, ra20, rb20, ra24, rb24, oD]; simp [bro, sD, sL, qD, oD, h0, x_def, startE, x_seq, x_nx, x_rt, x_bk, x_ct, x_bind, x_pure, x_c, x_nil, x_cons, x_tup, x_lst, x_op2, x_op1, x_tru, x_notT, x_ite, x_ifS, x_andT, x_orT, x_and, x_or, x_chain, x_bi, x_biF, x_call, x_perm, x_it, x_ret, x_drop, x_next, x_set, x_setF, x_asg, x_aug, x_for, x_comp, x_cat, x_dSub, x_dAdd, x_dAddI, x_dLt, x_dLe, x_dGt, x_dGe, x_dNeg, x_dNot, x_dTru, x_dEq, x_dNe, x_var0, x_varS, Option.bind_some, Option.map_some, List.map_cons, List.map_nil, List.length_cons, List.length_nil, List.replicate_succ, List.replicate_zero, List.cons_append, List.nil_append, List.set_cons_zero, List.set_cons_succ, Bool.not_true, Bool.not_false, Bool.false_eq_true, if_true, if_false, decide_true, decide_false, decide_eq_true_eq, dIsN, dNotN, dIdx, dItems, at_int, at0, at1, at2, at3, cut2, gN, gT, gCo, gNl, wipeE, x_for_nil, x_for_cons, x_turn_nx, x_turn_ct, x_turn_bk, x_turn_rt, x_comp_nil, x_comp_cons, sz2, sz4, i_lt_int, i_lt_bl, i_lt_non, i_lt_lst, i_lt_tup, i_i_int, i_i_bl, i_b_int, i_b_bl, i_b_non, i_b_lst, i_b_tup, i_l_int, i_l_bl, i_l_non, i_l_lst, i_l_tup, i_t_int, i_t_lst, i_t_tup, i_d_int, i_d_bl, i_d_non, i_d_lst, i_d_tup, i_ltd_int, i_ltd_bl, i_ltd_non, l_lst, l_tup, t_lst, t_tup, a_lst, b_nil, b_cons, cut_lst, cut_tup, x_dEqb, x_dNeb, x_dEqn, x_zip, x_range1, x_range2, Int.cast_ofNat_Int, Nat.zero_add, List.all_cons, List.all_nil, id, Bool.and_true, Bool.true_and, Bool.and_false, Bool.false_and, Bool.or_true, Bool.true_or, Bool.or_false, Bool.false_or, Nat.reduceAdd, Nat.reduceSub, Int.reduceEq, Int.reduceLT, Int.reduceLE, Int.reduceNeg, szl0, szl1, szl2, szl3, szl4, szl5, szl6, szl7, szl8, szl9, szl10, x_extend, x_append, x_borT, x_frz, x_idxO, List.getElem?_cons_zero, List.getElem?_cons_succ, x_notIn, x_isIn, rg_m1, rg_m2, rg_2, rg_3, rg_5, x_abs, x_int, x_rep2, Int.reduceAdd, Int.reduceSub, Int.reduceToNat, and_self, ram3, rbm3, ram2, rbm2, ram1, rbm1, ra0, rb0, ra1, rb1, ra2, rb2, ra3, rb3, ra4, rb4, ra5, rb5, ra6, rb6, ra7, rb7, ra8, rb8, ra9, rb9, ra10, rb10, ra11, rb11, ra12, rb12, ra13, rb13, ra20, rb20, ra24, rb24]
      | some b =>
        have f1 := div_ok (i := b - r % m) pm (Nat.lt_of_lt_of_le bm (by decide))
        have hb := bh b rfl
        have f2 := mul_ok (i := b - r % m) pm (Nat.lt_of_lt_of_le bm (by decide)) (by omega)
        simp only [x_def, startE, x_seq, x_nx, x_rt, x_bk, x_ct, x_bind, x_pure, x_c, x_nil, x_cons, x_tup, x_lst, x_op2, x_op1, x_tru, x_notT, x_ite, x_ifS, x_andT, x_orT, x_and, x_or, x_chain, x_bi, x_biF, x_call, x_perm, x_it, x_ret, x_drop, x_next, x_set, x_setF, x_asg, x_aug, x_for, x_comp, x_cat, x_dSub, x_dAdd, x_dAddI, x_dLt, x_dLe, x_dGt, x_dGe, x_dNeg, x_dNot, x_dTru, x_dEq, x_dNe, x_var0, x_varS, Option.bind_some, Option.map_some, List.map_cons, List.map_nil, List.length_cons, List.length_nil, List.replicate_succ, List.replicate_zero, List.cons_append, List.nil_append, List.set_cons_zero, List.set_cons_succ, Bool.not_true, Bool.not_false, Bool.false_eq_true, if_true, if_false, decide_true, decide_false, decide_eq_true_eq, dIsN, dNotN, dIdx, dItems, at_int, at0, at1, at2, at3, cut2, gN, gT, gCo, gNl, wipeE, x_for_nil, x_for_cons, x_turn_nx, x_turn_ct, x_turn_bk, x_turn_rt, x_comp_nil, x_comp_cons, sz2, sz4, i_lt_int, i_lt_bl, i_lt_non, i_lt_lst, i_lt_tup, i_i_int, i_i_bl, i_b_int, i_b_bl, i_b_non, i_b_lst, i_b_tup, i_l_int, i_l_bl, i_l_non, i_l_lst, i_l_tup, i_t_int, i_t_lst, i_t_tup, i_d_int, i_d_bl, i_d_non, i_d_lst, i_d_tup, i_ltd_int, i_ltd_bl, i_ltd_non, l_lst, l_tup, t_lst, t_tup, a_lst, b_nil, b_cons, cut_lst, cut_tup, x_dEqb, x_dNeb, x_dEqn, x_zip, x_range1, x_range2, Int.cast_ofNat_Int, Nat.zero_add, List.all_cons, List.all_nil, id, Bool.and_true, Bool.true_and, Bool.and_false, Bool.false_and, Bool.or_true, Bool.true_or, Bool.or_false, Bool.false_or, Nat.reduceAdd, Nat.reduceSub, Int.reduceEq, Int.reduceLT, Int.reduceLE, Int.reduceNeg, szl0, szl1, szl2, szl3, szl4, szl5, szl6, szl7, szl8, szl9, szl10, x_extend, x_append, x_borT, x_frz, x_idxO, List.getElem?_cons_zero, List.getElem?_cons_succ, x_notIn, x_isIn, rg_m1, rg_m2, rg_2, rg_3, rg_5, x_abs, x_int, x_rep2, Int.reduceAdd, Int.reduceSub, Int.reduceToNat, and_self, ram3, rbm3, ram2, rbm2, ram1, rbm1, ra0, rb0, ra1, rb1, ra2, rb2, ra3, rb3, ra4, rb4, ra5, rb5, ra6, rb6, ra7, rb7, ra8, rb8, ra9, rb9, ra10, rb10, ra11, rb11, ra12, rb12, ra13, rb13, ra20, rb20, ra24, rb24, oD, f1, f2, sub_hi]
        simp [bro, sD, sL, qD, oD, h0, x_def, startE, x_seq, x_nx, x_rt, x_bk, x_ct, x_bind, x_pure, x_c, x_nil, x_cons, x_tup, x_lst, x_op2, x_op1, x_tru, x_notT, x_ite, x_ifS, x_andT, x_orT, x_and, x_or, x_chain, x_bi, x_biF, x_call, x_perm, x_it, x_ret, x_drop, x_next, x_set, x_setF, x_asg, x_aug, x_for, x_comp, x_cat, x_dSub, x_dAdd, x_dAddI, x_dLt, x_dLe, x_dGt, x_dGe, x_dNeg, x_dNot, x_dTru, x_dEq, x_dNe, x_var0, x_varS, Option.bind_some, Option.map_some, List.map_cons, List.map_nil, List.length_cons, List.length_nil, List.replicate_succ, List.replicate_zero, List.cons_append, List.nil_append, List.set_cons_zero, List.set_cons_succ, Bool.not_true, Bool.not_false, Bool.false_eq_true, if_true, if_false, decide_true, decide_false, decide_eq_true_eq, dIsN, dNotN, dIdx, dItems, at_int, at0, at1, at2, at3, cut2, gN, gT, gCo, gNl, wipeE, x_for_nil, x_for_cons, x_turn_nx, x_turn_ct, x_turn_bk, x_turn_rt, x_comp_nil, x_comp_cons, sz2, sz4, i_lt_int, i_lt_bl, i_lt_non, i_lt_lst, i_lt_tup, i_i_int, i_i_bl, i_b_int, i_b_bl, i_b_non, i_b_lst, i_b_tup, i_l_int, i_l_bl, i_l_non, i_l_lst, i_l_tup, i_t_int, i_t_lst, i_t_tup, i_d_int, i_d_bl, i_d_non, i_d_lst, i_d_tup, i_ltd_int, i_ltd_bl, i_ltd_non, l_lst, l_tup, t_lst, t_tup, a_lst, b_nil, b_cons, cut_lst, cut_tup, x_dEqb, x_dNeb, x_dEqn, x_zip, x_range1, x_range2, Int.cast_ofNat_Int, Nat.zero_add, List.all_cons, List.all_nil, id, Bool.and_true, Bool.true_and, Bool.and_false, Bool.false_and, Bool.or_true, Bool.true_or, Bool.or_false, Bool.false_or, Nat.reduceAdd, Nat.reduceSub, Int.reduceEq, Int.reduceLT, Int.reduceLE, Int.reduceNeg, szl0, szl1, szl2, szl3, szl4, szl5, szl6, szl7, szl8, szl9, szl10, x_extend, x_append, x_borT, x_frz, x_idxO, List.getElem?_cons_zero, List.getElem?_cons_succ, x_notIn, x_isIn, rg_m1, rg_m2, rg_2, rg_3, rg_5, x_abs, x_int, x_rep2, Int.reduceAdd, Int.reduceSub, Int.reduceToNat, and_self, ram3, rbm3, ram2, rbm2, ram1, rbm1, ra0, rb0, ra1, rb1, ra2, rb2, ra3, rb3, ra4, rb4, ra5, rb5, ra6, rb6, ra7, rb7, ra8, rb8, ra9, rb9, ra10, rb10, ra11, rb11, ra12, rb12, ra13, rb13, ra20, rb20, ra24, rb24]
    | some a =>
      have ha := bl a rfl
      have f1 := div_ok (i := r % m - a) pm (Nat.lt_of_lt_of_le bm (by decide))
      have f2 := mul_ok (i := r % m - a) pm (Nat.lt_of_lt_of_le bm (by decide)) (by omega)
      cases h with
      | none =>
        simp only [x_def, startE, x_seq, x_nx, x_rt, x_bk, x_ct, x_bind, x_pure, x_c, x_nil, x_cons, x_tup, x_lst, x_op2, x_op1, x_tru, x_notT, x_ite, x_ifS, x_andT, x_orT, x_and, x_or, x_chain, x_bi, x_biF, x_call, x_perm, x_it, x_ret, x_drop, x_next, x_set, x_setF, x_asg, x_aug, x_for, x_comp, x_cat, x_dSub, x_dAdd, x_dAddI, x_dLt, x_dLe, x_dGt, x_dGe, x_dNeg, x_dNot, x_dTru, x_dEq, x_dNe, x_var0, x_varS, Option.bind_some, Option.map_some, List.map_cons, List.map_nil, List.length_cons, List.length_nil, List.replicate_succ, List.replicate_zero, List.cons_append, List.nil_append, List.set_cons_zero, List.set_cons_succ, Bool.not_true, Bool.not_false, Bool.false_eq_true, if_true, if_false, decide_true, decide_false, decide_eq_true_eq, dIsN, dNotN, dIdx, dItems, at_int, at0, at1, at2, at3, cut2, gN, gT, gCo, gNl, wipeE, x_for_nil, x_for_cons, x_turn_nx, x_turn_ct, x_turn_bk, x_turn_rt, x_comp_nil, x_comp_cons, sz2, sz4, i_lt_int, i_lt_bl, i_lt_non, i_lt_lst, i_lt_tup, i_i_int, i_i_bl, i_b_int, i_b_bl, i_b_non, i_b_lst, i_b_tup, i_l_int, i_l_bl, i_l_non, i_l_lst, i_l_tup, i_t_int, i_t_lst, i_t_tup, i_d_int, i_d_bl, i_d_non, i_d_lst, i_d_tup, i_ltd_int, i_ltd_bl, i_ltd_non, l_lst, l_tup, t_lst, t_tup, a_lst, b_nil, b_cons, cut_lst, cut_tup, x_dEqb, x_dNeb, x_dEqn, x_zip, x_range1, x_range2, Int.cast_ofNat_Int, Nat.zero_add, List.all_cons, List.all_nil, id, Bool.and_true, Bool.true_and, Bool.and_false, Bool.false_and, Bool.or_true, Bool.true_or, Bool.or_false, Bool.false_or, Nat.reduceAdd, Nat.reduceSub, Int.reduceEq, Int.reduceLT, Int.reduceLE, Int.reduceNeg, szl0, szl1, szl2, szl3, szl4, szl5, szl6, szl7, szl8, szl9, szl10, x_extend, x_append, x_borT, x_frz, x_idxO, List.getElem?_cons_zero, List.getElem?_cons_succ, x_notIn, x_isIn, rg_m1, rg_m2, rg_2, rg_3, rg_5, x_abs, x_int, x_rep2, Int.reduceAdd, Int.reduceSub, Int.reduceToNat, and_self, ram3, rbm3, ram2, rbm2, ram1, rbm1, ra0, rb0, ra1, rb1, ra2, rb2, ra3, rb3, ra4, rb4, ra5, rb5, ra6, rb6, ra7, rb7, ra8, rb8, ra9, rb9, ra10, rb10, ra11, rb11, ra12, rb12, ra13, rb13, ra20, rb20, ra24, rb24, oD, f1, f2, sub_lo]
        simp [bro, sD, sL, qD, oD, h0, x_def, startE, x_seq, x_nx, x_rt, x_bk, x_ct, x_bind, x_pure, x_c, x_nil, x_cons, x_tup, x_lst, x_op2, x_op1, x_tru, x_notT, x_ite, x_ifS, x_andT, x_orT, x_and, x_or, x_chain, x_bi, x_biF, x_call, x_perm, x_it, x_ret, x_drop, x_next, x_set, x_setF, x_asg, x_aug, x_for, x_comp, x_cat, x_dSub, x_dAdd, x_dAddI, x_dLt, x_dLe, x_dGt, x_dGe, x_dNeg, x_dNot, x_dTru, x_dEq, x_dNe, x_var0, x_varS, Option.bind_some, Option.map_some, List.map_cons, List.map_nil, List.length_cons, List.length_nil, List.replicate_succ, List.replicate_zero, List.cons_append, List.nil_append, List.set_cons_zero, List.set_cons_succ, Bool.not_true, Bool.not_false, Bool.false_eq_true, if_true, if_false, decide_true, decide_false, decide_eq_true_eq, dIsN, dNotN, dIdx, dItems, at_int, at0, at1, at2, at3, cut2, gN, gT, gCo, gNl, wipeE, x_for_nil, x_for_cons, x_turn_nx, x_turn_ct, x_turn_bk, x_turn_rt, x_comp_nil, x_comp_cons, sz2, sz4, i_lt_int, i_lt_bl, i_lt_non, i_lt_lst, i_lt_tup, i_i_int, i_i_bl, i_b_int, i_b_bl, i_b_non, i_b_lst, i_b_tup, i_l_int, i_l_bl, i_l_non, i_l_lst, i_l_tup, i_t_int, i_t_lst, i_t_tup, i_d_int, i_d_bl, i_d_non, i_d_lst, i_d_tup, i_ltd_int, i_ltd_bl, i_ltd_non, l_lst, l_tup, t_lst, t_tup, a_lst, b_nil, b_cons, cut_lst, cut_tup, x_dEqb, x_dNeb, x_dEqn, x_zip, x_range1, x_range2, Int.cast_ofNat_Int, Nat.zero_add, List.all_cons, List.all_nil, id, Bool.and_true, Bool.true_and, Bool.and_false, Bool.false_and, Bool.or_true, Bool.true_or, Bool.or_false, Bool.false_or, Nat.reduceAdd, Nat.reduceSub, Int.reduceEq, Int.reduceLT, Int.reduceLE, Int.reduceNeg, szl0, szl1, szl2, szl3, szl4, szl5, szl6, szl7, szl8, szl9, szl10, x_extend, x_append, x_borT, x_frz, x_idxO, List.getElem?_cons_zero, List.getElem?_cons_succ, x_notIn, x_isIn, rg_m1, rg_m2, rg_2, rg_3, rg_5, x_abs, x_int, x_rep2, Int.reduceAdd, Int.reduceSub, Int.reduceToNat, and_self, ram3, rbm3, ram2, rbm2, ram1, rbm1, ra0, rb0, ra1, rb1, ra2, rb2, ra3, rb3, ra4, rb4, ra5, rb5, ra6, rb6, ra7, rb7, ra8, rb8, ra9, rb9, ra10, rb10, ra11, rb11, ra12, rb12, ra13, rb13, ra20, rb20, ra24, rb24]
      | some b =>
        have hb := bh b rfl
        have g1 := div_ok (i := b - r % m) pm (Nat.lt_of_lt_of_le bm (by decide))
        have g2 := mul_ok (i := b - r % m) pm (Nat.lt_of_lt_of_le bm (by decide)) (by omega)
        simp only [x_def, startE, x_seq, x_nx, x_rt, x_bk, x_ct, x_bind, x_pure, x_c, x_nil, x_cons, x_tup, x_lst, x_op2, x_op1, x_tru, x_notT, x_ite, x_ifS, x_andT, x_orT, x_and, x_or, x_chain, x_bi, x_biF, x_call, x_perm, x_it, x_ret, x_drop, x_next, x_set, x_setF, x_asg, x_aug, x_for, x_comp, x_cat, x_dSub, x_dAdd, x_dAddI, x_dLt, x_dLe, x_dGt, x_dGe, x_dNeg, x_dNot, x_dTru, x_dEq, x_dNe, x_var0, x_varS, Option.bind_some, Option.map_some, List.map_cons, List.map_nil, List.length_cons, List.length_nil, List.replicate_succ, List.replicate_zero, List.cons_append, List.nil_append, List.set_cons_zero, List.set_cons_succ, Bool.not_true, Bool.not_false, Bool.false_eq_true, if_true, if_false, decide_true, decide_false, decide_eq_true_eq, dIsN, dNotN, dIdx, dItems, at_int, at0, at1, at2, at3, cut2, gN, gT, gCo, gNl, wipeE, x_for_nil, x_for_cons, x_turn_nx, x_turn_ct, x_turn_bk, x_turn_rt, x_comp_nil, x_comp_cons, sz2, sz4, i_lt_int, i_lt_bl, i_lt_non, i_lt_lst, i_lt_tup, i_i_int, i_i_bl, i_b_int, i_b_bl, i_b_non, i_b_lst, i_b_tup, i_l_int, i_l_bl, i_l_non, i_l_lst, i_l_tup, i_t_int, i_t_lst, i_t_tup, i_d_int, i_d_bl, i_d_non, i_d_lst, i_d_tup, i_ltd_int, i_ltd_bl, i_ltd_non, l_lst, l_tup, t_lst, t_tup, a_lst, b_nil, b_cons, cut_lst, cut_tup, x_dEqb, x_dNeb, x_dEqn, x_zip, x_range1, x_range2, Int.cast_ofNat_Int, Nat.zero_add, List.all_cons, List.all_nil, id, Bool.and_true, Bool.true_and, Bool.and_false, Bool.false_and, Bool.or_true, Bool.true_or, Bool.or_false, Bool.false_or, Nat.reduceAdd, Nat.reduceSub, Int.reduceEq, Int.reduceLT, Int.reduceLE, Int.reduceNeg, szl0, szl1, szl2, szl3, szl4, szl5, szl6, szl7, szl8, szl9, szl10, x_extend, x_append, x_borT, x_frz, x_idxO, List.getElem?_cons_zero, List.getElem?_cons_succ, x_notIn, x_isIn, rg_m1, rg_m2, rg_2, rg_3, rg_5, x_abs, x_int, x_rep2, Int.reduceAdd, Int.reduceSub, Int.reduceToNat, and_self, ram3, rbm3, ram2, rbm2, ram1, rbm1, ra0, rb0, ra1, rb1, ra2, rb2, ra3, rb3, ra4, rb4, ra5, rb5, ra6, rb6, ra7, rb7, ra8, rb8, ra9, rb9, ra10, rb10, ra11, rb11, ra12, rb12, ra13, rb13, ra20, rb20, ra24, rb24, oD, f1, f2, g1, g2, sub_lo, sub_hi]
        by_cases k1 : b - (b - r) % m ≤ a + (r - a) % m
        · by_cases k2 : b - (b - r) % m < a + (r - a) % m <;> simp [bro, sD, sL, qD, oD, h0, k1, k2, x_def, startE, x_seq, x_nx, x_rt, x_bk, x_ct, x_bind, x_pure, x_c, x_nil, x_cons, x_tup, x_lst, x_op2, x_op1, x_tru, x_notT, x_ite, x_ifS, x_andT, x_orT, x_and, x_or, x_chain, x_bi, x_biF, x_call, x_perm, x_it, x_ret, x_drop, x_next, x_set, x_setF, x_asg, x_aug, x_for, x_comp, x_cat, x_dSub, x_dAdd, x_dAddI, x_dLt, x_dLe, x_dGt, x_dGe, x_dNeg, x_dNot, x_dTru, x_dEq, x_dNe, x_var0, x_varS, Option.bind_some, Option.map_some, List.map_cons, List.map_nil, List.length_cons, List.length_nil, List.replicate_succ, List.replicate_zero, List.cons_append, List.nil_append, List.set_cons_zero, List.set_cons_succ, Bool.not_true, Bool.not_false, Bool.false_eq_true, if_true, if_false, decide_true, decide_false, decide_eq_true_eq, dIsN, dNotN, dIdx, dItems, at_int, at0, at1, at2, at3, cut2, gN, gT, gCo, gNl, wipeE, x_for_nil, x_for_cons, x_turn_nx, x_turn_ct, x_turn_bk, x_turn_rt, x_comp_nil, x_comp_cons, sz2, sz4, i_lt_int, i_lt_bl, i_lt_non, i_lt_lst, i_lt_tup, i_i_int, i_i_bl, i_b_int, i_b_bl, i_b_non, i_b_lst, i_b_tup, i_l_int, i_l_bl, i_l_non, i_l_lst, i_l_tup, i_t_int, i_t_lst, i_t_tup, i_d_int, i_d_bl, i_d_non, i_d_lst, i_d_tup, i_ltd_int, i_ltd_bl, i_ltd_non, l_lst, l_tup, t_lst, t_tup, a_lst, b_nil, b_cons, cut_lst, cut_tup, x_dEqb, x_dNeb, x_dEqn, x_zip, x_range1, x_range2, Int.cast_ofNat_Int, Nat.zero_add, List.all_cons, List.all_nil, id, Bool.and_true, Bool.true_and, Bool.and_false, Bool.false_and, Bool.or_true, Bool.true_or, Bool.or_false, Bool.false_or, Nat.reduceAdd, Nat.reduceSub, Int.reduceEq, Int.reduceLT, Int.reduceLE, Int.reduceNeg, szl0, szl1, szl2, szl3, szl4, szl5, szl6, szl7, szl8, szl9, szl10, x_extend, x_append, x_borT, x_frz, x_idxO, List.getElem?_cons_zero, List.getElem?_cons_succ, x_notIn, x_isIn, rg_m1, rg_m2, rg_2, rg_3, rg_5, x_abs, x_int, x_rep2, Int.reduceAdd, Int.reduceSub, Int.reduceToNat, and_self, ram3, rbm3, ram2, rbm2, ram1, rbm1, ra0, rb0, ra1, rb1, ra2, rb2, ra3, rb3, ra4, rb4, ra5, rb5, ra6, rb6, ra7, rb7, ra8, rb8, ra9, rb9, ra10, rb10, ra11, rb11, ra12, rb12, ra13, rb13, ra20, rb20, ra24, rb24]
        · simp [bro, sD, sL, qD, oD, h0, k1, x_def, startE, x_seq, x_nx, x_rt, x_bk, x_ct, x_bind, x_pure, x_c, x_nil, x_cons, x_tup, x_lst, x_op2, x_op1, x_tru, x_notT, x_ite, x_ifS, x_andT, x_orT, x_and, x_or, x_chain, x_bi, x_biF, x_call, x_perm, x_it, x_ret, x_drop, x_next, x_set, x_setF, x_asg, x_aug, x_for, x_comp, x_cat, x_dSub, x_dAdd, x_dAddI, x_dLt, x_dLe, x_dGt, x_dGe, x_dNeg, x_dNot, x_dTru, x_dEq, x_dNe, x_var0, x_varS, Option.bind_some, Option.map_some, List.map_cons, List.map_nil, List.length_cons, List.length_nil, List.replicate_succ, List.replicate_zero, List.cons_append, List.nil_append, List.set_cons_zero, List.set_cons_succ, Bool.not_true, Bool.not_false, Bool.false_eq_true, if_true, if_false, decide_true, decide_false, decide_eq_true_eq, dIsN, dNotN, dIdx, dItems, at_int, at0, at1, at2, at3, cut2, gN, gT, gCo, gNl, wipeE, x_for_nil, x_for_cons, x_turn_nx, x_turn_ct, x_turn_bk, x_turn_rt, x_comp_nil, x_comp_cons, sz2, sz4, i_lt_int, i_lt_bl, i_lt_non, i_lt_lst, i_lt_tup, i_i_int, i_i_bl, i_b_int, i_b_bl, i_b_non, i_b_lst, i_b_tup, i_l_int, i_l_bl, i_l_non, i_l_lst, i_l_tup, i_t_int, i_t_lst, i_t_tup, i_d_int, i_d_bl, i_d_non, i_d_lst, i_d_tup, i_ltd_int, i_ltd_bl, i_ltd_non, l_lst, l_tup, t_lst, t_tup, a_lst, b_nil, b_cons, cut_lst, cut_tup, x_dEqb, x_dNeb, x_dEqn, x_zip, x_range1, x_range2, Int.cast_ofNat_Int, Nat.zero_add, List.all_cons, List.all_nil, id, Bool.and_true, Bool.true_and, Bool.and_false, Bool.false_and, Bool.or_true, Bool.true_or, Bool.or_false, Bool.false_or, Nat.reduceAdd, Nat.reduceSub, Int.reduceEq, Int.reduceLT, Int.reduceLE, Int.reduceNeg, szl0, szl1, szl2, szl3, szl4, szl5, szl6, szl7, szl8, szl9, szl10, x_extend, x_append, x_borT, x_frz, x_idxO, List.getElem?_cons_zero, List.getElem?_cons_succ, x_notIn, x_isIn, rg_m1, rg_m2, rg_2, rg_3, rg_5, x_abs, x_int, x_rep2, Int.reduceAdd, Int.reduceSub, Int.reduceToNat, and_self, ram3, rbm3, ram2, rbm2, ram1, rbm1, ra0, rb0, ra1, rb1, ra2, rb2, ra3, rb3, ra4, rb4, ra5, rb5, ra6, rb6, ra7, rb7, ra8, rb8, ra9, rb9, ra10, rb10, ra11, rb11, ra12, rb12, ra13, rb13, ra20, rb20, ra24, rb24]


theorem v_same0 (n : Nat) (d : D) (S : Strm) (h : Plain 0 d) : F__law_same (n + 1) [d, d] S = some (.bl true, S) := by
  cases d with
  | non => simp only [F__law_same, m__law_same, x_def, startE, x_seq, x_nx, x_rt, x_bk, x_ct, x_bind, x_pure, x_c, x_nil, x_cons, x_tup, x_lst, x_op2, x_op1, x_tru, x_notT, x_ite, x_ifS, x_andT, x_orT, x_and, x_or, x_chain, x_bi, x_biF, x_call, x_perm, x_it, x_ret, x_drop, x_next, x_set, x_setF, x_asg, x_aug, x_for, x_comp, x_cat, x_dSub, x_dAdd, x_dAddI, x_dLt, x_dLe, x_dGt, x_dGe, x_dNeg, x_dNot, x_dTru, x_dEq, x_dNe, x_var0, x_varS, Option.bind_some, Option.map_some, List.map_cons, List.map_nil, List.length_cons, List.length_nil, List.replicate_succ, List.replicate_zero, List.cons_append, List.nil_append, List.set_cons_zero, List.set_cons_succ, Bool.not_true, Bool.not_false, Bool.false_eq_true, if_true, if_false, decide_true, decide_false, decide_eq_true_eq, dIsN, dNotN, dIdx, dItems, at_int, at0, at1, at2, at3, cut2, gN, gT, gCo, gNl, wipeE, x_for_nil, x_for_cons, x_turn_nx, x_turn_ct, x_turn_bk, x_turn_rt, x_comp_nil, x_comp_cons, sz2, sz4, i_lt_int, i_lt_bl, i_lt_non, i_lt_lst, i_lt_tup, i_i_int, i_i_bl, i_b_int, i_b_bl, i_b_non, i_b_lst, i_b_tup, i_l_int, i_l_bl, i_l_non, i_l_lst, i_l_tup, i_t_int, i_t_lst, i_t_tup, i_d_int, i_d_bl, i_d_non, i_d_lst, i_d_tup, i_ltd_int, i_ltd_bl, i_ltd_non, l_lst, l_tup, t_lst, t_tup, a_lst, b_nil, b_cons, cut_lst, cut_tup, x_dEqb, x_dNeb, x_dEqn, x_zip, x_range1, x_range2, Int.cast_ofNat_Int, Nat.zero_add, List.all_cons, List.all_nil, id, Bool.and_true, Bool.true_and, Bool.and_false, Bool.false_and, Bool.or_true, Bool.true_or, Bool.or_false, Bool.false_or, Nat.reduceAdd, Nat.reduceSub, Int.reduceEq, Int.reduceLT, Int.reduceLE, Int.reduceNeg, szl0, szl1, szl2, szl3, szl4, szl5, szl6, szl7, szl8, szl9, szl10, x_extend, x_append, x_borT, x_frz, x_idxO, List.getElem?_cons_zero, List.getElem?_cons_succ, x_notIn, x_isIn, rg_m1, rg_m2, rg_2, rg_3, rg_5, x_abs, x_int, x_rep2, Int.reduceAdd, Int.reduceSub, Int.reduceToNat, and_self, ram3, rbm3, ram2, rbm2, ram1, rbm1, ra0, rb0, ra1, rb1, ra2, rb2, ra3, rb3, ra4, rb4, ra5, rb5, ra6, rb6, ra7, rb7, ra8, rb8, ra9, rb9, ra10, rb10, ra11, rb11, ra12, rb12, ra13, rb13, ra20, rb20, ra24, rb24]
  | bl b => simp only [F__law_same, m__law_same, x_def, startE, x_seq, x_nx, x_rt, x_bk, x_ct, x_bind, x_pure, x_c, x_nil, x_cons, x_tup, x_lst, x_op2, x_op1, x_tru, x_notT, x_ite, x_ifS, x_andT, x_orT, x_and, x_or, x_chain, x_bi, x_biF, x_call, x_perm, x_it, x_ret, x_drop, x_next, x_set, x_setF, x_asg, x_aug, x_for, x_comp, x_cat, x_dSub, x_dAdd, x_dAddI, x_dLt, x_dLe, x_dGt, x_dGe, x_dNeg, x_dNot, x_dTru, x_dEq, x_dNe, x_var0, x_varS, Option.bind_some, Option.map_some, List.map_cons, List.map_nil, List.length_cons, List.length_nil, List.replicate_succ, List.replicate_zero, List.cons_append, List.nil_append, List.set_cons_zero, List.set_cons_succ, Bool.not_true, Bool.not_false, Bool.false_eq_true, if_true, if_false, decide_true, decide_false, decide_eq_true_eq, dIsN, dNotN, dIdx, dItems, at_int, at0, at1, at2, at3, cut2, gN, gT, gCo, gNl, wipeE, x_for_nil, x_for_cons, x_turn_nx, x_turn_ct, x_turn_bk, x_turn_rt, x_comp_nil, x_comp_cons, sz2, sz4, i_lt_int, i_lt_bl, i_lt_non, i_lt_lst, i_lt_tup, i_i_int, i_i_bl, i_b_int, i_b_bl, i_b_non, i_b_lst, i_b_tup, i_l_int, i_l_bl, i_l_non, i_l_lst, i_l_tup, i_t_int, i_t_lst, i_t_tup, i_d_int, i_d_bl, i_d_non, i_d_lst, i_d_tup, i_ltd_int, i_ltd_bl, i_ltd_non, l_lst, l_tup, t_lst, t_tup, a_lst, b_nil, b_cons, cut_lst, cut_tup, x_dEqb, x_dNeb, x_dEqn, x_zip, x_range1, x_range2, Int.cast_ofNat_Int, Nat.zero_add, List.all_cons, List.all_nil, id, Bool.and_true, Bool.true_and, Bool.and_false, Bool.false_and, Bool.or_true, Bool.true_or, Bool.or_false, Bool.false_or, Nat.reduceAdd, Nat.reduceSub, Int.reduceEq, Int.reduceLT, Int.reduceLE, Int.reduceNeg, szl0, szl1, szl2, szl3, szl4, szl5, szl6, szl7, szl8, szl9, szl10, x_extend, x_append, x_borT, x_frz, x_idxO, List.getElem?_cons_zero, List.getElem?_cons_succ, x_notIn, x_isIn, rg_m1, rg_m2, rg_2, rg_3, rg_5, x_abs, x_int, x_rep2, Int.reduceAdd, Int.reduceSub, Int.reduceToNat, and_self, ram3, rbm3, ram2, rbm2, ram1, rbm1, ra0, rb0, ra1, rb1, ra2, rb2, ra3, rb3, ra4, rb4, ra5, rb5, ra6, rb6, ra7, rb7, ra8, rb8, ra9, rb9, ra10, rb10, ra11, rb11, ra12, rb12, ra13, rb13, ra20, rb20, ra24, rb24]
  | int b => simp only [F__law_same, m__law_same, x_def, startE, x_seq, x_nx, x_rt, x_bk, x_ct, x_bind, x_pure, x_c, x_nil, x_cons, x_tup, x_lst, x_op2, x_op1, x_tru, x_notT, x_ite, x_ifS, x_andT, x_orT, x_and, x_or, x_chain, x_bi, x_biF, x_call, x_perm, x_it, x_ret, x_drop, x_next, x_set, x_setF, x_asg, x_aug, x_for, x_comp, x_cat, x_dSub, x_dAdd, x_dAddI, x_dLt, x_dLe, x_dGt, x_dGe, x_dNeg, x_dNot, x_dTru, x_dEq, x_dNe, x_var0, x_varS, Option.bind_some, Option.map_some, List.map_cons, List.map_nil, List.length_cons, List.length_nil, List.replicate_succ, List.replicate_zero, List.cons_append, List.nil_append, List.set_cons_zero, List.set_cons_succ, Bool.not_true, Bool.not_false, Bool.false_eq_true, if_true, if_false, decide_true, decide_false, decide_eq_true_eq, dIsN, dNotN, dIdx, dItems, at_int, at0, at1, at2, at3, cut2, gN, gT, gCo, gNl, wipeE, x_for_nil, x_for_cons, x_turn_nx, x_turn_ct, x_turn_bk, x_turn_rt, x_comp_nil, x_comp_cons, sz2, sz4, i_lt_int, i_lt_bl, i_lt_non, i_lt_lst, i_lt_tup, i_i_int, i_i_bl, i_b_int, i_b_bl, i_b_non, i_b_lst, i_b_tup, i_l_int, i_l_bl, i_l_non, i_l_lst, i_l_tup, i_t_int, i_t_lst, i_t_tup, i_d_int, i_d_bl, i_d_non, i_d_lst, i_d_tup, i_ltd_int, i_ltd_bl, i_ltd_non, l_lst, l_tup, t_lst, t_tup, a_lst, b_nil, b_cons, cut_lst, cut_tup, x_dEqb, x_dNeb, x_dEqn, x_zip, x_range1, x_range2, Int.cast_ofNat_Int, Nat.zero_add, List.all_cons, List.all_nil, id, Bool.and_true, Bool.true_and, Bool.and_false, Bool.false_and, Bool.or_true, Bool.true_or, Bool.or_false, Bool.false_or, Nat.reduceAdd, Nat.reduceSub, Int.reduceEq, Int.reduceLT, Int.reduceLE, Int.reduceNeg, szl0, szl1, szl2, szl3, szl4, szl5, szl6, szl7, szl8, szl9, szl10, x_extend, x_append, x_borT, x_frz, x_idxO, List.getElem?_cons_zero, List.getElem?_cons_succ, x_notIn, x_isIn, rg_m1, rg_m2, rg_2, rg_3, rg_5, x_abs, x_int, x_rep2, Int.reduceAdd, Int.reduceSub, Int.reduceToNat, and_self, ram3, rbm3, ram2, rbm2, ram1, rbm1, ra0, rb0, ra1, rb1, ra2, rb2, ra3, rb3, ra4, rb4, ra5, rb5, ra6, rb6, ra7, rb7, ra8, rb8, ra9, rb9, ra10, rb10, ra11, rb11, ra12, rb12, ra13, rb13, ra20, rb20, ra24, rb24]
  | str b =>
    have e1 : dIsI [Ty.list, Ty.tuple] (.str b) = some (.bl false) := rfl
    have e2 : dIsI [Ty.dict] (.str b) = some (.bl false) := rfl
    have e3 : dIsI [Ty.bool] (.str b) = some (.bl false) := rfl
    have e4 : dIsI [Ty.list, Ty.tuple, Ty.dict] (.str b) = some (.bl false) := rfl
    simp only [F__law_same, m__law_same, x_def, startE, x_seq, x_nx, x_rt, x_bk, x_ct, x_bind, x_pure, x_c, x_nil, x_cons, x_tup, x_lst, x_op2, x_op1, x_tru, x_notT, x_ite, x_ifS, x_andT, x_orT, x_and, x_or, x_chain, x_bi, x_biF, x_call, x_perm, x_it, x_ret, x_drop, x_next, x_set, x_setF, x_asg, x_aug, x_for, x_comp, x_cat, x_dSub, x_dAdd, x_dAddI, x_dLt, x_dLe, x_dGt, x_dGe, x_dNeg, x_dNot, x_dTru, x_dEq, x_dNe, x_var0, x_varS, Option.bind_some, Option.map_some, List.map_cons, List.map_nil, List.length_cons, List.length_nil, List.replicate_succ, List.replicate_zero, List.cons_append, List.nil_append, List.set_cons_zero, List.set_cons_succ, Bool.not_true, Bool.not_false, Bool.false_eq_true, if_true, if_false, decide_true, decide_false, decide_eq_true_eq, dIsN, dNotN, dIdx, dItems, at_int, at0, at1, at2, at3, cut2, gN, gT, gCo, gNl, wipeE, x_for_nil, x_for_cons, x_turn_nx, x_turn_ct, x_turn_bk, x_turn_rt, x_comp_nil, x_comp_cons, sz2, sz4, i_lt_int, i_lt_bl, i_lt_non, i_lt_lst, i_lt_tup, i_i_int, i_i_bl, i_b_int, i_b_bl, i_b_non, i_b_lst, i_b_tup, i_l_int, i_l_bl, i_l_non, i_l_lst, i_l_tup, i_t_int, i_t_lst, i_t_tup, i_d_int, i_d_bl, i_d_non, i_d_lst, i_d_tup, i_ltd_int, i_ltd_bl, i_ltd_non, l_lst, l_tup, t_lst, t_tup, a_lst, b_nil, b_cons, cut_lst, cut_tup, x_dEqb, x_dNeb, x_dEqn, x_zip, x_range1, x_range2, Int.cast_ofNat_Int, Nat.zero_add, List.all_cons, List.all_nil, id, Bool.and_true, Bool.true_and, Bool.and_false, Bool.false_and, Bool.or_true, Bool.true_or, Bool.or_false, Bool.false_or, Nat.reduceAdd, Nat.reduceSub, Int.reduceEq, Int.reduceLT, Int.reduceLE, Int.reduceNeg, szl0, szl1, szl2, szl3, szl4, szl5, szl6, szl7, szl8, szl9, szl10, x_extend, x_append, x_borT, x_frz, x_idxO, List.getElem?_cons_zero, List.getElem?_cons_succ, x_notIn, x_isIn, rg_m1, rg_m2, rg_2, rg_3, rg_5, x_abs, x_int, x_rep2, Int.reduceAdd, Int.reduceSub, Int.reduceToNat, and_self, ram3, rbm3, ram2, rbm2, ram1, rbm1, ra0, rb0, ra1, rb1, ra2, rb2, ra3, rb3, ra4, rb4, ra5, rb5, ra6, rb6, ra7, rb7, ra8, rb8, ra9, rb9, ra10, rb10, ra11, rb11, ra12, rb12, ra13, rb13, ra20, rb20, ra24, rb24, e1, e2, e3, e4, x_dEqs h]
  | lst ds => exact False.elim h
  | tup ds => exact False.elim h
  | dct ds => exact False.elim h
  | strm => exact False.elim h
theorem same_comp (n : Nat) (ds : List D) (x : Option Ent) (y : Option Ent) (ρ : Option Ent) (S : Strm) (h : ∀ a ∈ ds, ∀ S, F__law_same (n + 1) [a, a] S = some (.bl true, S)) :
    compL (gT 2 (gCo (gN 3) (gCo (gN 4) gNl))) (mPure (some true)) (mCall (F__law_same (n + 1)) (mCons (mVar 3) (mCons (mVar 4) mNil))) [x, y, ρ, none, none] (ds.map fun d : D => D.tup [d, d]) S = some ((ds.map fun d : D => D.tup [d, d]).map fun _ => .bl true, S) := by
  refine (compL_pure (fun _ => true) (fun _ => .bl true) (fun d => ∃ a, a ∈ ds ∧ d = .tup [a, a]) (fun d S hd => ?_) _ _ (fun d hd => ?_)).trans ?_
  · obtain ⟨a, ha, rfl⟩ := hd
    refine ⟨[x, y, ρ, some (.sh a), some (.sh a)], rfl, rfl, fun _ => ?_⟩
    simp only [x_def, startE, x_seq, x_nx, x_rt, x_bk, x_ct, x_bind, x_pure, x_c, x_nil, x_cons, x_tup, x_lst, x_op2, x_op1, x_tru, x_notT, x_ite, x_ifS, x_andT, x_orT, x_and, x_or, x_chain, x_bi, x_biF, x_call, x_perm, x_it, x_ret, x_drop, x_next, x_set, x_setF, x_asg, x_aug, x_for, x_comp, x_cat, x_dSub, x_dAdd, x_dAddI, x_dLt, x_dLe, x_dGt, x_dGe, x_dNeg, x_dNot, x_dTru, x_dEq, x_dNe, x_var0, x_varS, Option.bind_some, Option.map_some, List.map_cons, List.map_nil, List.length_cons, List.length_nil, List.replicate_succ, List.replicate_zero, List.cons_append, List.nil_append, List.set_cons_zero, List.set_cons_succ, Bool.not_true, Bool.not_false, Bool.false_eq_true, if_true, if_false, decide_true, decide_false, decide_eq_true_eq, dIsN, dNotN, dIdx, dItems, at_int, at0, at1, at2, at3, cut2, gN, gT, gCo, gNl, wipeE, x_for_nil, x_for_cons, x_turn_nx, x_turn_ct, x_turn_bk, x_turn_rt, x_comp_nil, x_comp_cons, sz2, sz4, i_lt_int, i_lt_bl, i_lt_non, i_lt_lst, i_lt_tup, i_i_int, i_i_bl, i_b_int, i_b_bl, i_b_non, i_b_lst, i_b_tup, i_l_int, i_l_bl, i_l_non, i_l_lst, i_l_tup, i_t_int, i_t_lst, i_t_tup, i_d_int, i_d_bl, i_d_non, i_d_lst, i_d_tup, i_ltd_int, i_ltd_bl, i_ltd_non, l_lst, l_tup, t_lst, t_tup, a_lst, b_nil, b_cons, cut_lst, cut_tup, x_dEqb, x_dNeb, x_dEqn, x_zip, x_range1, x_range2, Int.cast_ofNat_Int, Nat.zero_add, List.all_cons, List.all_nil, id, Bool.and_true, Bool.true_and, Bool.and_false, Bool.false_and, Bool.or_true, Bool.true_or, Bool.or_false, Bool.false_or, Nat.reduceAdd, Nat.reduceSub, Int.reduceEq, Int.reduceLT, Int.reduceLE, Int.reduceNeg, szl0, szl1, szl2, szl3, szl4, szl5, szl6, szl7, szl8, szl9, szl10, x_extend, x_append, x_borT, x_frz, x_idxO, List.getElem?_cons_zero, List.getElem?_cons_succ, x_notIn, x_isIn, rg_m1, rg_m2, rg_2, rg_3, rg_5, x_abs, x_int, x_rep2, Int.reduceAdd, Int.reduceSub, Int.reduceToNat, and_self, ram3, rbm3, ram2, rbm2, ram1, rbm1, ra0, rb0, ra1, rb1, ra2, rb2, ra3, rb3, ra4, rb4, ra5, rb5, ra6, rb6, ra7, rb7, ra8, rb8, ra9, rb9, ra10, rb10, ra11, rb11, ra12, rb12, ra13, rb13, ra20, rb20, ra24, rb24, h a ha]
  · obtain ⟨a, ha, rfl⟩ := List.mem_map.1 hd
    exact ⟨a, ha, rfl⟩
  · rw [List.filter_eq_self.2 (fun _ _ => rfl)]
theorem all_true {α : Type} (l : List α) : (l.map fun _ => true).all id = true := by simp
theorem v_same : ∀ (n : Nat) (d : D) (S : Strm), Plain n d → F__law_same (n + 1) [d, d] S = some (.bl true, S) := by
  intro n
  induction n with
  | zero => intro d S h; exact v_same0 0 d S h
  | succ n ih =>
    intro d S h
    cases d with
    | non => exact v_same0 _ _ S trivial
    | bl b => exact v_same0 _ _ S trivial
    | int b => exact v_same0 _ _ S trivial
    | str b => exact v_same0 _ _ S h
    | lst ds =>
      have hl : (ds.map fun d : D => D.tup [d, d]).length ≤ sizeLine := by rw [List.length_map]; exact h.1
      have ec := fun x y ρ S => same_comp n ds x y ρ S (fun a ha S => ih a S (h.2 a ha))
      rw [F__law_same]
      simp only [m__law_same, x_def, startE, x_seq, x_nx, x_rt, x_bk, x_ct, x_bind, x_pure, x_c, x_nil, x_cons, x_tup, x_lst, x_op2, x_op1, x_tru, x_notT, x_ite, x_ifS, x_andT, x_orT, x_and, x_or, x_chain, x_bi, x_biF, x_call, x_perm, x_it, x_ret, x_drop, x_next, x_set, x_setF, x_asg, x_aug, x_for, x_comp, x_cat, x_dSub, x_dAdd, x_dAddI, x_dLt, x_dLe, x_dGt, x_dGe, x_dNeg, x_dNot, x_dTru, x_dEq, x_dNe, x_var0, x_varS, Option.bind_some, Option.map_some, List.map_cons, List.map_nil, List.length_cons, List.length_nil, List.replicate_succ, List.replicate_zero, List.cons_append, List.nil_append, List.set_cons_zero, List.set_cons_succ, Bool.not_true, Bool.not_false, Bool.false_eq_true, if_true, if_false, decide_true, decide_false, decide_eq_true_eq, dIsN, dNotN, dIdx, dItems, at_int, at0, at1, at2, at3, cut2, gN, gT, gCo, gNl, wipeE, x_for_nil, x_for_cons, x_turn_nx, x_turn_ct, x_turn_bk, x_turn_rt, x_comp_nil, x_comp_cons, sz2, sz4, i_lt_int, i_lt_bl, i_lt_non, i_lt_lst, i_lt_tup, i_i_int, i_i_bl, i_b_int, i_b_bl, i_b_non, i_b_lst, i_b_tup, i_l_int, i_l_bl, i_l_non, i_l_lst, i_l_tup, i_t_int, i_t_lst, i_t_tup, i_d_int, i_d_bl, i_d_non, i_d_lst, i_d_tup, i_ltd_int, i_ltd_bl, i_ltd_non, l_lst, l_tup, t_lst, t_tup, a_lst, b_nil, b_cons, cut_lst, cut_tup, x_dEqb, x_dNeb, x_dEqn, x_zip, x_range1, x_range2, Int.cast_ofNat_Int, Nat.zero_add, List.all_cons, List.all_nil, id, Bool.and_true, Bool.true_and, Bool.and_false, Bool.false_and, Bool.or_true, Bool.true_or, Bool.or_false, Bool.false_or, Nat.reduceAdd, Nat.reduceSub, Int.reduceEq, Int.reduceLT, Int.reduceLE, Int.reduceNeg, szl0, szl1, szl2, szl3, szl4, szl5, szl6, szl7, szl8, szl9, szl10, x_extend, x_append, x_borT, x_frz, x_idxO, List.getElem?_cons_zero, List.getElem?_cons_succ, x_notIn, x_isIn, rg_m1, rg_m2, rg_2, rg_3, rg_5, x_abs, x_int, x_rep2, Int.reduceAdd, Int.reduceSub, Int.reduceToNat, and_self, ram3, rbm3, ram2, rbm2, ram1, rbm1, ra0, rb0, ra1, rb1, ra2, rb2, ra3, rb3, ra4, rb4, ra5, rb5, ra6, rb6, ra7, rb7, ra8, rb8, ra9, rb9, ra10, rb10, ra11, rb11, ra12, rb12, ra13, rb13, ra20, rb20, ra24, rb24, zip_self, hl, ec, bools_const, all_true]
    | tup ds =>
      have hl : (ds.map fun d : D => D.tup [d, d]).length ≤ sizeLine := by rw [List.length_map]; exact h.1
      have ec := fun x y ρ S => same_comp n ds x y ρ S (fun a ha S => ih a S (h.2 a ha))
      rw [F__law_same]
      simp only [m__law_same, x_def, startE, x_seq, x_nx, x_rt, x_bk, x_ct, x_bind, x_pure, x_c, x_nil, x_cons, x_tup, x_lst, x_op2, x_op1, x_tru, x_notT, x_ite, x_ifS, x_andT, x_orT, x_and, x_or, x_chain, x_bi, x_biF, x_call, x_perm, x_it, x_ret, x_drop, x_next, x_set, x_setF, x_asg, x_aug, x_for, x_comp, x_cat, x_dSub, x_dAdd, x_dAddI, x_dLt, x_dLe, x_dGt, x_dGe, x_dNeg, x_dNot, x_dTru, x_dEq, x_dNe, x_var0, x_varS, Option.bind_some, Option.map_some, List.map_cons, List.map_nil, List.length_cons, List.length_nil, List.replicate_succ, List.replicate_zero, List.cons_append, List.nil_append, List.set_cons_zero, List.set_cons_succ, Bool.not_true, Bool.not_false, Bool.false_eq_true, if_true, if_false, decide_true, decide_false, decide_eq_true_eq, dIsN, dNotN, dIdx, dItems, at_int, at0, at1, at2, at3, cut2, gN, gT, gCo, gNl, wipeE, x_for_nil, x_for_cons, x_turn_nx, x_turn_ct, x_turn_bk, x_turn_rt, x_comp_nil, x_comp_cons, sz2, sz4, i_lt_int, i_lt_bl, i_lt_non, i_lt_lst, i_lt_tup, i_i_int, i_i_bl, i_b_int, i_b_bl, i_b_non, i_b_lst, i_b_tup, i_l_int, i_l_bl, i_l_non, i_l_lst, i_l_tup, i_t_int, i_t_lst, i_t_tup, i_d_int, i_d_bl, i_d_non, i_d_lst, i_d_tup, i_ltd_int, i_ltd_bl, i_ltd_non, l_lst, l_tup, t_lst, t_tup, a_lst, b_nil, b_cons, cut_lst, cut_tup, x_dEqb, x_dNeb, x_dEqn, x_zip, x_range1, x_range2, Int.cast_ofNat_Int, Nat.zero_add, List.all_cons, List.all_nil, id, Bool.and_true, Bool.true_and, Bool.and_false, Bool.false_and, Bool.or_true, Bool.true_or, Bool.or_false, Bool.false_or, Nat.reduceAdd, Nat.reduceSub, Int.reduceEq, Int.reduceLT, Int.reduceLE, Int.reduceNeg, szl0, szl1, szl2, szl3, szl4, szl5, szl6, szl7, szl8, szl9, szl10, x_extend, x_append, x_borT, x_frz, x_idxO, List.getElem?_cons_zero, List.getElem?_cons_succ, x_notIn, x_isIn, rg_m1, rg_m2, rg_2, rg_3, rg_5, x_abs, x_int, x_rep2, Int.reduceAdd, Int.reduceSub, Int.reduceToNat, and_self, ram3, rbm3, ram2, rbm2, ram1, rbm1, ra0, rb0, ra1, rb1, ra2, rb2, ra3, rb3, ra4, rb4, ra5, rb5, ra6, rb6, ra7, rb7, ra8, rb8, ra9, rb9, ra10, rb10, ra11, rb11, ra12, rb12, ra13, rb13, ra20, rb20, ra24, rb24, zip_self, hl, ec, bools_const, all_true]
    | dct ds => exact False.elim h
    | strm => exact False.elim h
theorem v_isint (i : Int) (S : Strm) : F_is_integer [.int i] S = some (.bl true, S) := by simp only [F_is_integer, m_is_integer, x_def, startE, x_seq, x_nx, x_rt, x_bk, x_ct, x_bind, x_pure, x_c, x_nil, x_cons, x_tup, x_lst, x_op2, x_op1, x_tru, x_notT, x_ite, x_ifS, x_andT, x_orT, x_and, x_or, x_chain, x_bi, x_biF, x_call, x_perm, x_it, x_ret, x_drop, x_next, x_set, x_setF, x_asg, x_aug, x_for, x_comp, x_cat, x_dSub, x_dAdd, x_dAddI, x_dLt, x_dLe, x_dGt, x_dGe, x_dNeg, x_dNot, x_dTru, x_dEq, x_dNe, x_var0, x_varS, Option.bind_some, Option.map_some, List.map_cons, List.map_nil, List.length_cons, List.length_nil, List.replicate_succ, List.replicate_zero, List.cons_append, List.nil_append, List.set_cons_zero, List.set_cons_succ, Bool.not_true, Bool.not_false, Bool.false_eq_true, if_true, if_false, decide_true, decide_false, decide_eq_true_eq, dIsN, dNotN, dIdx, dItems, at_int, at0, at1, at2, at3, cut2, gN, gT, gCo, gNl, wipeE, x_for_nil, x_for_cons, x_turn_nx, x_turn_ct, x_turn_bk, x_turn_rt, x_comp_nil, x_comp_cons, sz2, sz4, i_lt_int, i_lt_bl, i_lt_non, i_lt_lst, i_lt_tup, i_i_int, i_i_bl, i_b_int, i_b_bl, i_b_non, i_b_lst, i_b_tup, i_l_int, i_l_bl, i_l_non, i_l_lst, i_l_tup, i_t_int, i_t_lst, i_t_tup, i_d_int, i_d_bl, i_d_non, i_d_lst, i_d_tup, i_ltd_int, i_ltd_bl, i_ltd_non, l_lst, l_tup, t_lst, t_tup, a_lst, b_nil, b_cons, cut_lst, cut_tup, x_dEqb, x_dNeb, x_dEqn, x_zip, x_range1, x_range2, Int.cast_ofNat_Int, Nat.zero_add, List.all_cons, List.all_nil, id, Bool.and_true, Bool.true_and, Bool.and_false, Bool.false_and, Bool.or_true, Bool.true_or, Bool.or_false, Bool.false_or, Nat.reduceAdd, Nat.reduceSub, Int.reduceEq, Int.reduceLT, Int.reduceLE, Int.reduceNeg, szl0, szl1, szl2, szl3, szl4, szl5, szl6, szl7, szl8, szl9, szl10, x_extend, x_append, x_borT, x_frz, x_idxO, List.getElem?_cons_zero, List.getElem?_cons_succ, x_notIn, x_isIn, rg_m1, rg_m2, rg_2, rg_3, rg_5, x_abs, x_int, x_rep2, Int.reduceAdd, Int.reduceSub, Int.reduceToNat, and_self, ram3, rbm3, ram2, rbm2, ram1, rbm1, ra0, rb0, ra1, rb1, ra2, rb2, ra3, rb3, ra4, rb4, ra5, rb5, ra6, rb6, ra7, rb7, ra8, rb8, ra9, rb9, ra10, rb10, ra11, rb11, ra12, rb12, ra13, rb13, ra20, rb20, ra24, rb24]
theorem v_checkint (i : Int) (S : Strm) : F_check_integer [.int i] S = some (.non, S) := by simp only [F_check_integer, m_check_integer, x_def, startE, x_seq, x_nx, x_rt, x_bk, x_ct, x_bind, x_pure, x_c, x_nil, x_cons, x_tup, x_lst, x_op2, x_op1, x_tru, x_notT, x_ite, x_ifS, x_andT, x_orT, x_and, x_or, x_chain, x_bi, x_biF, x_call, x_perm, x_it, x_ret, x_drop, x_next, x_set, x_setF, x_asg, x_aug, x_for, x_comp, x_cat, x_dSub, x_dAdd, x_dAddI, x_dLt, x_dLe, x_dGt, x_dGe, x_dNeg, x_dNot, x_dTru, x_dEq, x_dNe, x_var0, x_varS, Option.bind_some, Option.map_some, List.map_cons, List.map_nil, List.length_cons, List.length_nil, List.replicate_succ, List.replicate_zero, List.cons_append, List.nil_append, List.set_cons_zero, List.set_cons_succ, Bool.not_true, Bool.not_false, Bool.false_eq_true, if_true, if_false, decide_true, decide_false, decide_eq_true_eq, dIsN, dNotN, dIdx, dItems, at_int, at0, at1, at2, at3, cut2, gN, gT, gCo, gNl, wipeE, x_for_nil, x_for_cons, x_turn_nx, x_turn_ct, x_turn_bk, x_turn_rt, x_comp_nil, x_comp_cons, sz2, sz4, i_lt_int, i_lt_bl, i_lt_non, i_lt_lst, i_lt_tup, i_i_int, i_i_bl, i_b_int, i_b_bl, i_b_non, i_b_lst, i_b_tup, i_l_int, i_l_bl, i_l_non, i_l_lst, i_l_tup, i_t_int, i_t_lst, i_t_tup, i_d_int, i_d_bl, i_d_non, i_d_lst, i_d_tup, i_ltd_int, i_ltd_bl, i_ltd_non, l_lst, l_tup, t_lst, t_tup, a_lst, b_nil, b_cons, cut_lst, cut_tup, x_dEqb, x_dNeb, x_dEqn, x_zip, x_range1, x_range2, Int.cast_ofNat_Int, Nat.zero_add, List.all_cons, List.all_nil, id, Bool.and_true, Bool.true_and, Bool.and_false, Bool.false_and, Bool.or_true, Bool.true_or, Bool.or_false, Bool.false_or, Nat.reduceAdd, Nat.reduceSub, Int.reduceEq, Int.reduceLT, Int.reduceLE, Int.reduceNeg, szl0, szl1, szl2, szl3, szl4, szl5, szl6, szl7, szl8, szl9, szl10, x_extend, x_append, x_borT, x_frz, x_idxO, List.getElem?_cons_zero, List.getElem?_cons_succ, x_notIn, x_isIn, rg_m1, rg_m2, rg_2, rg_3, rg_5, x_abs, x_int, x_rep2, Int.reduceAdd, Int.reduceSub, Int.reduceToNat, and_self, ram3, rbm3, ram2, rbm2, ram1, rbm1, ra0, rb0, ra1, rb1, ra2, rb2, ra3, rb3, ra4, rb4, ra5, rb5, ra6, rb6, ra7, rb7, ra8, rb8, ra9, rb9, ra10, rb10, ra11, rb11, ra12, rb12, ra13, rb13, ra20, rb20, ra24, rb24, v_isint]
theorem v_isnum (i : Int) (S : Strm) : F_is_number [.int i] S = some (.bl (decide (0 ≤ i)), S) := by simp only [F_is_number, m_is_number, x_def, startE, x_seq, x_nx, x_rt, x_bk, x_ct, x_bind, x_pure, x_c, x_nil, x_cons, x_tup, x_lst, x_op2, x_op1, x_tru, x_notT, x_ite, x_ifS, x_andT, x_orT, x_and, x_or, x_chain, x_bi, x_biF, x_call, x_perm, x_it, x_ret, x_drop, x_next, x_set, x_setF, x_asg, x_aug, x_for, x_comp, x_cat, x_dSub, x_dAdd, x_dAddI, x_dLt, x_dLe, x_dGt, x_dGe, x_dNeg, x_dNot, x_dTru, x_dEq, x_dNe, x_var0, x_varS, Option.bind_some, Option.map_some, List.map_cons, List.map_nil, List.length_cons, List.length_nil, List.replicate_succ, List.replicate_zero, List.cons_append, List.nil_append, List.set_cons_zero, List.set_cons_succ, Bool.not_true, Bool.not_false, Bool.false_eq_true, if_true, if_false, decide_true, decide_false, decide_eq_true_eq, dIsN, dNotN, dIdx, dItems, at_int, at0, at1, at2, at3, cut2, gN, gT, gCo, gNl, wipeE, x_for_nil, x_for_cons, x_turn_nx, x_turn_ct, x_turn_bk, x_turn_rt, x_comp_nil, x_comp_cons, sz2, sz4, i_lt_int, i_lt_bl, i_lt_non, i_lt_lst, i_lt_tup, i_i_int, i_i_bl, i_b_int, i_b_bl, i_b_non, i_b_lst, i_b_tup, i_l_int, i_l_bl, i_l_non, i_l_lst, i_l_tup, i_t_int, i_t_lst, i_t_tup, i_d_int, i_d_bl, i_d_non, i_d_lst, i_d_tup, i_ltd_int, i_ltd_bl, i_ltd_non, l_lst, l_tup, t_lst, t_tup, a_lst, b_nil, b_cons, cut_lst, cut_tup, x_dEqb, x_dNeb, x_dEqn, x_zip, x_range1, x_range2, Int.cast_ofNat_Int, Nat.zero_add, List.all_cons, List.all_nil, id, Bool.and_true, Bool.true_and, Bool.and_false, Bool.false_and, Bool.or_true, Bool.true_or, Bool.or_false, Bool.false_or, Nat.reduceAdd, Nat.reduceSub, Int.reduceEq, Int.reduceLT, Int.reduceLE, Int.reduceNeg, szl0, szl1, szl2, szl3, szl4, szl5, szl6, szl7, szl8, szl9, szl10, x_extend, x_append, x_borT, x_frz, x_idxO, List.getElem?_cons_zero, List.getElem?_cons_succ, x_notIn, x_isIn, rg_m1, rg_m2, rg_2, rg_3, rg_5, x_abs, x_int, x_rep2, Int.reduceAdd, Int.reduceSub, Int.reduceToNat, and_self, ram3, rbm3, ram2, rbm2, ram1, rbm1, ra0, rb0, ra1, rb1, ra2, rb2, ra3, rb3, ra4, rb4, ra5, rb5, ra6, rb6, ra7, rb7, ra8, rb8, ra9, rb9, ra10, rb10, ra11, rb11, ra12, rb12, ra13, rb13, ra20, rb20, ra24, rb24, v_isint]
theorem v_reduce (l h : Option Int) (m r : Int) (S : Strm) (hm : 0 ≤ m) : F_reduce_strip [oD l, oD h, .int m, .int r] S = some (sD (bro l h m r), S) := by
  by_cases h0 : m = 0
  · subst h0
    simp only [F_reduce_strip, m_reduce_strip, F_alone, m_alone, x_def, startE, x_seq, x_nx, x_rt, x_bk, x_ct, x_bind, x_pure, x_c, x_nil, x_cons, x_tup, x_lst, x_op2, x_op1, x_tru, x_notT, x_ite, x_ifS, x_andT, x_orT, x_and, x_or, x_chain, x_bi, x_biF, x_call, x_perm, x_it, x_ret, x_drop, x_next, x_set, x_setF, x_asg, x_aug, x_for, x_comp, x_cat, x_dSub, x_dAdd, x_dAddI, x_dLt, x_dLe, x_dGt, x_dGe, x_dNeg, x_dNot, x_dTru, x_dEq, x_dNe, x_var0, x_varS, Option.bind_some, Option.map_some, List.map_cons, List.map_nil, List.length_cons, List.length_nil, List.replicate_succ, List.replicate_zero, List.cons_append, List.nil_append, List.set_cons_zero, List.set_cons_succ, Bool.not_true, Bool.not_false, Bool.false_eq_true, if_true, if_false, decide_true, decide_false, decide_eq_true_eq, dIsN, dNotN, dIdx, dItems, at_int, at0, at1, at2, at3, cut2, gN, gT, gCo, gNl, wipeE, x_for_nil, x_for_cons, x_turn_nx, x_turn_ct, x_turn_bk, x_turn_rt, x_comp_nil, x_comp_cons, sz2, sz4, i_lt_int, i_lt_bl, i_lt_non, i_lt_lst, i_lt_tup, i_i_int, i_i_bl, i_b_int, i_b_bl, i_b_non, i_b_lst, i_b_tup, i_l_int, i_l_bl, i_l_non, i_l_lst, i_l_tup, i_t_int, i_t_lst, i_t_tup, i_d_int, i_d_bl, i_d_non, i_d_lst, i_d_tup, i_ltd_int, i_ltd_bl, i_ltd_non, l_lst, l_tup, t_lst, t_tup, a_lst, b_nil, b_cons, cut_lst, cut_tup, x_dEqb, x_dNeb, x_dEqn, x_zip, x_range1, x_range2, Int.cast_ofNat_Int, Nat.zero_add, List.all_cons, List.all_nil, id, Bool.and_true, Bool.true_and, Bool.and_false, Bool.false_and, Bool.or_true, Bool.true_or, Bool.or_false, Bool.false_or, Nat.reduceAdd, Nat.reduceSub, Int.reduceEq, Int.reduceLT, Int.reduceLE, Int.reduceNeg, szl0, szl1, szl2, szl3, szl4, szl5, szl6, szl7, szl8, szl9, szl10, x_extend, x_append, x_borT, x_frz, x_idxO, List.getElem?_cons_zero, List.getElem?_cons_succ, x_notIn, x_isIn, rg_m1, rg_m2, rg_2, rg_3, rg_5, x_abs, x_int, x_rep2, Int.reduceAdd, Int.reduceSub, Int.reduceToNat, and_self, ram3, rbm3, ram2, rbm2, ram1, rbm1, ra0, rb0, ra1, rb1, ra2, rb2, ra3, rb3, ra4, rb4, ra5, rb5, ra6, rb6, ra7, rb7, ra8, rb8, ra9, rb9, ra10, rb10, ra11, rb11, ra12, rb12, ra13, rb13, ra20, rb20, ra24, rb24]
    cases l with
    | none =>
      cases h with
      | none => simp only [x_def, startE, x_seq, x_nx, x_rt, x_bk, x_ct, x_bind, x_pure, x_c, x_nil, x_cons, x_tup, x_lst, x_op2, x_op1, x_tru, x_notT, x_ite, x_ifS, x_andT, x_orT, x_and, x_or, x_chain, x_bi, x_biF, x_call, x_perm, x_it, x_ret, x_drop, x_next, x_set, x_setF, x_asg, x_aug, x_for, x_comp, x_cat, x_dSub, x_dAdd, x_dAddI, x_dLt, x_dLe, x_dGt, x_dGe, x_dNeg, x_dNot, x_dTru, x_dEq, x_dNe, x_var0, x_varS, Option.bind_some, Option.map_some, List.map_cons, List.map_nil, List.length_cons, List.length_nil, List.replicate_succ, List.replicate_zero, List.cons_append, List.nil_append, List.set_cons_zero, List.set_cons_succ, Bool.not_true, Bool.not_false, Bool.false_eq_true, if_true, if_false, decide_true, decide_false, decide_eq_true_eq, dIsN, dNotN, dIdx, dItems, at_int, at0, at1, at2, at3, cut2, gN, gT, gCo, gNl, wipeE, x_for_nil, x_for_cons, x_turn_nx, x_turn_ct, x_turn_bk, x_turn_rt, x_comp_nil, x_comp_cons, sz2, sz4, i_lt_int, i_lt_bl, i_lt_non, i_lt_lst, i_lt_tup, i_i_int, i_i_bl, i_b_int, i_b_bl, i_b_non, i_b_lst, i_b_tup, i_l_int, i_l_bl, i_l_non, i_l_lst, i_l_tup, i_t_int, i_t_lst, i_t_tup, i_d_int, i_d_bl, i_d_non, i_d_lst, i_d_tup, i_ltd_int, i_ltd_bl, i_ltd_non, l_lst, l_tup, t_lst, t_tup, a_lst, b_nil, b_cons, cut_lst, cut_tup, x_dEqb, x_dNeb, x_dEqn, x_zip, x_range1, x_range2, Int.cast_ofNat_Int, Nat.zero_add, List.all_cons, List.all_nil, id, Bool.and_true, Bool.true_and, Bool.and_false, Bool.false_and, Bool.or_true, Bool.true_or, Bool.or_false, Bool.false_or, Nat.reduceAdd, Nat.reduceSub, Int.reduceEq, Int.reduceLT, Int.reduceLE, Int.reduceNeg, szl0, szl1, szl2, szl3, szl4, szl5, szl6, szl7, szl8, szl9, szl10, x_extend, x_append, x_borT, x_frz, x_idxO, List.getElem?_cons_zero, List.getElem?_cons_succ, x_notIn, x_isIn, rg_m1, rg_m2, rg_2, rg_3, rg_5, x_abs, x_int, x_rep2, Int.reduceAdd, Int.reduceSub, Int.reduceToNat, and_self, ram3, rbm3, ram2, rbm2, ram1, rbm1, ra0, rb0, ra1, rb1, ra2, rb2, ra3, rb3, ra4, rb4, ra5, rb5, ra6, rb6, ra7, rb7, ra8, rb8, ra9, rb9, ra10, rb10, ra11, rb11, ra12, rb12, ra13, rb13, ra20, rb20, ra24, rb24, oD]; simp [bro, sD, sL, qD, oD, x_def, startE, x_seq, x_nx, x_rt, x_bk, x_ct, x_bind, x_pure, x_c, x_nil, x_cons, x_tup, x_lst, x_op2, x_op1, x_tru, x_notT, x_ite, x_ifS, x_andT, x_orT, x_and, x_or, x_chain, x_bi, x_biF, x_call, x_perm, x_it, x_ret, x_drop, x_next, x_set, x_setF, x_asg, x_aug, x_for, x_comp, x_cat, x_dSub, x_dAdd, x_dAddI, x_dLt, x_dLe, x_dGt, x_dGe, x_dNeg, x_dNot, x_dTru, x_dEq, x_dNe, x_var0, x_varS, Option.bind_some, Option.map_some, List.map_cons, List.map_nil, List.length_cons, List.length_nil, List.replicate_succ, List.replicate_zero, List.cons_append, List.nil_append, List.set_cons_zero, List.set_cons_succ, Bool.not_true, Bool.not_false, Bool.false_eq_true, if_true, if_false, decide_true, decide_false, decide_eq_true_eq, dIsN, dNotN, dIdx, dItems, at_int, at0, at1, at2, at3, cut2, gN, gT, gCo, gNl, wipeE, x_for_nil, x_for_cons, x_turn_nx, x_turn_ct, x_turn_bk, x_turn_rt, x_comp_nil, x_comp_cons, sz2, sz4, i_lt_int, i_lt_bl, i_lt_non, i_lt_lst, i_lt_tup, i_i_int, i_i_bl, i_b_int, i_b_bl, i_b_non, i_b_lst, i_b_tup, i_l_int, i_l_bl, i_l_non, i_l_lst, i_l_tup, i_t_int, i_t_lst, i_t_tup, i_d_int, i_d_bl, i_d_non, i_d_lst, i_d_tup, i_ltd_int, i_ltd_bl, i_ltd_non, l_lst, l_tup, t_lst, t_tup, a_lst, b_nil, b_cons, cut_lst, cut_tup, x_dEqb, x_dNeb, x_dEqn, x_zip, x_range1, x_range2, Int.cast_ofNat_Int, Nat.zero_add, List.all_cons, List.all_nil, id, Bool.and_true, Bool.true_and, Bool.and_false, Bool.false_and, Bool.or_true, Bool.true_or, Bool.or_false, Bool.false_or, Nat.reduceAdd, Nat.reduceSub, Int.reduceEq, Int.reduceLT, Int.reduceLE, Int.reduceNeg, szl0, szl1, szl2, szl3, szl4, szl5, szl6, szl7, szl8, szl9, szl10, x_extend, x_append, x_borT, x_frz, x_idxO, List.getElem?_cons_zero, List.getElem?_cons_succ, x_notIn, x_isIn, rg_m1, rg_m2, rg_2, rg_3, rg_5, x_abs, x_int, x_rep2, Int.reduceAdd, Int.reduceSub, Int.reduceToNat, and_self, ram3, rbm3, ram2, rbm2, ram1, rbm1, ra0, rb0, ra1, rb1, ra2, rb2, ra3, rb3, ra4, rb4, ra5, rb5, ra6, rb6, ra7, rb7, ra8, rb8, ra9, rb9, ra10, rb10, ra11, rb11, ra12, rb12, ra13, rb13, ra20, rb20, ra24, rb24]
      | some b =>
        simp only [x_def, startE, x_seq, x_nx, x_rt, x_bk, x_ct, x_bind, x_pure, x_c, x_nil, x_cons, x_tup, x_lst, x_op2, x_op1, x_tru, x_notT, x_ite, x_ifS, x_andT, x_orT, x_and, x_or, x_chain, x_bi, x_biF, x_call, x_perm, x_it, x_ret, x_drop, x_next, x_set, x_setF, x_asg, x_aug, x_for, x_comp, x_cat, x_dSub, x_dAdd, x_dAddI, x_dLt, x_dLe, x_dGt, x_dGe, x_dNeg, x_dNot, x_dTru, x_dEq, x_dNe, x_var0, x_varS, Option.bind_some, Option.map_some, List.map_cons, List.map_nil, List.length_cons, List.length_nil, List.replicate_succ, List.replicate_zero, List.cons_append, List.nil_append, List.set_cons_zero, List.set_cons_succ, Bool.not_true, Bool.not_false, Bool.false_eq_true, if_true, if_false, decide_true, decide_false, decide_eq_true_eq, dIsN, dNotN, dIdx, dItems, at_int, at0, at1, at2, at3, cut2, gN, gT, gCo, gNl, wipeE, x_for_nil, x_for_cons, x_turn_nx, x_turn_ct, x_turn_bk, x_turn_rt, x_comp_nil, x_comp_cons, sz2, sz4, i_lt_int, i_lt_bl, i_lt_non, i_lt_lst, i_lt_tup, i_i_int, i_i_bl, i_b_int, i_b_bl, i_b_non, i_b_lst, i_b_tup, i_l_int, i_l_bl, i_l_non, i_l_lst, i_l_tup, i_t_int, i_t_lst, i_t_tup, i_d_int, i_d_bl, i_d_non, i_d_lst, i_d_tup, i_ltd_int, i_ltd_bl, i_ltd_non, l_lst, l_tup, t_lst, t_tup, a_lst, b_nil, b_cons, cut_lst, cut_tup, x_dEqb, x_dNeb, x_dEqn, x_zip, x_range1, x_range2, Int.cast_ofNat_Int, Nat.zero_add, List.all_cons, List.all_nil, id, Bool.and_true, Bool.true_and, Bool.and_false, Bool.false_and, Bool.or_true, Bool.true_or, Bool.or_false, Bool.false_or, Nat.reduceAdd, Nat.reduceSub, Int.reduceEq, Int.reduceLT, Int.reduceLE, Int.reduceNeg, szl0, szl1, szl2, szl3, szl4, szl5, szl6, szl7, szl8, szl9, szl10, x_extend, x_append, x_borT, x_frz, x_idxO, List.getElem?_cons_zero, List.getElem?_cons_succ, x_notIn, x_isIn, rg_m1, rg_m2, rg_2, rg_3, rg_5, x_abs, x_int, x_rep2, Int.reduceAdd, Int.reduceSub, Int.reduceToNat, and_self, ram3, rbm3, ram2, rbm2, ram1, rbm1, ra0, rb0, ra1, rb1, ra2, rb2, ra3, rb3, ra4, rb4, ra5, rb5, ra6, rb6, ra7, rb7, ra8, rb8, ra9, rb9, ra10, rb10, ra11, rb11, ra12, rb12, ra13, rb13, ra20, rb20, ra24, rb24, oD]
        by_cases h1 : r ≤ b <;> simp [bro, sD, sL, qD, oD, h1, x_def, startE, x_seq, x_nx, x_rt, x_bk, x_ct, x_bind, x_pure, x_c, x_nil, x_cons, x_tup, x_lst, x_op2, x_op1, x_tru, x_notT, x_ite, x_ifS, x_andT, x_orT, x_and, x_or, x_chain, x_bi, x_biF, x_call, x_perm, x_it, x_ret, x_drop, x_next, x_set, x_setF, x_asg, x_aug, x_for, x_comp, x_cat, x_dSub, x_dAdd, x_dAddI, x_dLt, x_dLe, x_dGt, x_dGe, x_dNeg, x_dNot, x_dTru, x_dEq, x_dNe, x_var0, x_varS, Option.bind_some, Option.map_some, List.map_cons, List.map_nil, List.length_cons, List.length_nil, List.replicate_succ, List.replicate_zero, List.cons_append, List.nil_append, List.set_cons_zero, List.set_cons_succ, Bool.not_true, Bool.not_false, Bool.false_eq_true, if_true, if_false, decide_true, decide_false, decide_eq_true_eq, dIsN, dNotN, dIdx, dItems, at_int, at0, at1, at2, at3, cut2, gN, gT, gCo, gNl, wipeE, x_for_nil, x_for_cons, x_turn_nx, x_turn_ct, x_turn_bk, x_turn_rt, x_comp_nil, x_comp_cons, sz2, sz4, i_lt_int, i_lt_bl, i_lt_non, i_lt_lst, i_lt_tup, i_i_int, i_i_bl, i_b_int, i_b_bl, i_b_non, i_b_lst, i_b_tup, i_l_int, i_l_bl, i_l_non, i_l_lst, i_l_tup, i_t_int, i_t_lst, i_t_tup, i_d_int, i_d_bl, i_d_non, i_d_lst, i_d_tup, i_ltd_int, i_ltd_bl, i_ltd_non, l_lst, l_tup, t_lst, t_tup, a_lst, b_nil, b_cons, cut_lst, cut_tup, x_dEqb, x_dNeb, x_dEqn, x_zip, x_range1, x_range2, Int.cast_ofNat_Int, Nat.zero_add, List.all_cons, List.all_nil, id, Bool.and_true, Bool.true_and, Bool.and_false, Bool.false_and, Bool.or_true, Bool.true_or, Bool.or_false, Bool.false_or, Nat.reduceAdd, Nat.reduceSub, Int.reduceEq, Int.reduceLT, Int.reduceLE, Int.reduceNeg, szl0, szl1, szl2, szl3, szl4, szl5, szl6, szl7, szl8, szl9, szl10, x_extend, x_append, x_borT, x_frz, x_idxO, List.getElem?_cons_zero, List.getElem?_cons_succ, x_notIn, x_isIn, rg_m1, rg_m2, rg_2, rg_3, rg_5, x_abs, x_int, x_rep2, Int.reduceAdd, Int.reduceSub, Int.reduceToNat, and_self, ram3, rbm3, ram2, rbm2, ram1, rbm1, ra0, rb0, ra1, rb1, ra2, rb2, ra3, rb3, ra4, rb4, ra5, rb5, ra6, rb6, ra7, rb7, ra8, rb8, ra9, rb9, ra10, rb10, ra11, rb11, ra12, rb12, ra13, rb13, ra20, rb20, ra24, rb24]
    | some a =>
      cases h with
      | none =>
        simp only [x_def, startE, x_seq, x_nx, x_rt, x_bk, x_ct, x_bind, x_pure, x_c, x_nil, x_cons, x_tup, x_lst, x_op2, x_op1, x_tru, x_notT, x_ite, x_ifS, x_andT, x_orT, x_and, x_or, x_chain, x_bi, x_biF, x_call, x_perm, x_it, x_ret, x_drop, x_next, x_set, x_setF, x_asg, x_aug, x_for, x_comp, x_cat, x_dSub, x_dAdd, x_dAddI, x_dLt, x_dLe, x_dGt, x_dGe, x_dNeg, x_dNot, x_dTru, x_dEq, x_dNe, x_var0, x_varS, Option.bind_some, Option.map_some, List.map_cons, List.map_nil, List.length_cons, List.length_nil, List.replicate_succ, List.replicate_zero, List.cons_append, List.nil_append, List.set_cons_zero, List.set_cons_succ, Bool.not_true, Bool.not_false, Bool.false_eq_true, if_true, if_false, decide_true, decide_false, decide_eq_true_eq, dIsN, dNotN, dIdx, dItems, at_int, at0, at1, at2, at3, cut2, gN, gT, gCo, gNl, wipeE, x_for_nil, x_for_cons, x_turn_nx, x_turn_ct, x_turn_bk, x_turn_rt, x_comp_nil, x_comp_cons, sz2, sz4, i_lt_int, i_lt_bl, i_lt_non, i_lt_lst, i_lt_tup, i_i_int, i_i_bl, i_b_int, i_b_bl, i_b_non, i_b_lst, i_b_tup, i_l_int, i_l_bl, i_l_non, i_l_lst, i_l_tup, i_t_int, i_t_lst, i_t_tup, i_d_int, i_d_bl, i_d_non, i_d_lst, i_d_tup, i_ltd_int, i_ltd_bl, i_ltd_non, l_lst, l_tup, t_lst, t_tup, a_lst, b_nil, b_cons, cut_lst, cut_tup, x_dEqb, x_dNeb, x_dEqn, x_zip, x_range1, x_range2, Int.cast_ofNat_Int, Nat.zero_add, List.all_cons, List.all_nil, id, Bool.and_true, Bool.true_and, Bool.and_false, Bool.false_and, Bool.or_true, Bool.true_or, Bool.or_false, Bool.false_or, Nat.reduceAdd, Nat.reduceSub, Int.reduceEq, Int.reduceLT, Int.reduceLE, Int.reduceNeg, szl0, szl1, szl2, szl3, szl4, szl5, szl6, szl7, szl8, szl9, szl10, x_extend, x_append, x_borT, x_frz, x_idxO, List.getElem?_cons_zero, List.getElem?_cons_succ, x_notIn, x_isIn, rg_m1, rg_m2, rg_2, rg_3, rg_5, x_abs, x_int, x_rep2, Int.reduceAdd, Int.reduceSub, Int.reduceToNat, and_self, ram3, rbm3, ram2, rbm2, ram1, rbm1, ra0, rb0, ra1, rb1, ra2, rb2, ra3, rb3, ra4, rb4, ra5, rb5, ra6, rb6, ra7, rb7, ra8, rb8, ra9, rb9, ra10, rb10, ra11, rb11, ra12, rb12, ra13, rb13, ra20, rb20, ra24, rb24, oD]
        by_cases h1 : a ≤ r <;> simp [bro, sD, sL, qD, oD, h1, x_def, startE, x_seq, x_nx, x_rt, x_bk, x_ct, x_bind, x_pure, x_c, x_nil, x_cons, x_tup, x_lst, x_op2, x_op1, x_tru, x_notT, x_ite, x_ifS, x_andT, x_orT, x_and, x_or, x_chain, x_bi, x_biF, x_call, x_perm, x_it, x_ret, x_drop, x_next, x_set, x_setF, x_asg, x_aug, x_for, x_comp, x_cat, x_dSub, x_dAdd, x_dAddI, x_dLt, x_dLe, x_dGt, x_dGe, x_dNeg, x_dNot, x_dTru, x_dEq, x_dNe, x_var0, x_varS, Option.bind_some, Option.map_some, List.map_cons, List.map_nil, List.length_cons, List.length_nil, List.replicate_succ, List.replicate_zero, List.cons_append, List.nil_append, List.set_cons_zero, List.set_cons_succ, Bool.not_true, Bool.not_false, Bool.false_eq_true, if_true, if_false, decide_true, decide_false, decide_eq_true_eq, dIsN, dNotN, dIdx, dItems, at_int, at0, at1, at2, at3, cut2, gN, gT, gCo, gNl, wipeE, x_for_nil, x_for_cons, x_turn_nx, x_turn_ct, x_turn_bk, x_turn_rt, x_comp_nil, x_comp_cons, sz2, sz4, i_lt_int, i_lt_bl, i_lt_non, i_lt_lst, i_lt_tup, i_i_int, i_i_bl, i_b_int, i_b_bl, i_b_non, i_b_lst, i_b_tup, i_l_int, i_l_bl, i_l_non, i_l_lst, i_l_tup, i_t_int, i_t_lst, i_t_tup, i_d_int, i_d_bl, i_d_non, i_d_lst, i_d_tup, i_ltd_int, i_ltd_bl, i_ltd_non, l_lst, l_tup, t_lst, t_tup, a_lst, b_nil, b_cons, cut_lst, cut_tup, x_dEqb, x_dNeb, x_dEqn, x_zip, x_range1, x_range2, Int.cast_ofNat_Int, Nat.zero_add, List.all_cons, List.all_nil, id, Bool.and_true, Bool.true_and, Bool.and_false, Bool.false_and, Bool.or_true, Bool.true_or, Bool.or_false, Bool.false_or, Nat.reduceAdd, Nat.reduceSub, Int.reduceEq, Int.reduceLT, Int.reduceLE, Int.reduceNeg, szl0, szl1, szl2, szl3, szl4, szl5, szl6, szl7, szl8, szl9, szl10, x_extend, x_append, x_borT, x_frz, x_idxO, List.getElem?_cons_zero, List.getElem?_cons_succ, x_notIn, x_isIn, rg_m1, rg_m2, rg_2, rg_3, rg_5, x_abs, x_int, x_rep2, Int.reduceAdd, Int.reduceSub, Int.reduceToNat, and_self, ram3, rbm3, ram2, rbm2, ram1, rbm1, ra0, rb0, ra1, rb1, ra2, rb2, ra3, rb3, ra4, rb4, ra5, rb5, ra6, rb6, ra7, rb7, ra8, rb8, ra9, rb9, ra10, rb10, ra11, rb11, ra12, rb12, ra13, rb13, ra20, rb20, ra24, rb24]
      | some b =>
        simp only [x_def, startE, x_seq, x_nx, x_rt, x_bk, x_ct, x_bind, x_pure, x_c, x_nil, x_cons, x_tup, x_lst, x_op2, x_op1, x_tru, x_notT, x_ite, x_ifS, x_andT, x_orT, x_and, x_or, x_chain, x_bi, x_biF, x_call, x_perm, x_it, x_ret, x_drop, x_next, x_set, x_setF, x_asg, x_aug, x_for, x_comp, x_cat, x_dSub, x_dAdd, x_dAddI, x_dLt, x_dLe, x_dGt, x_dGe, x_dNeg, x_dNot, x_dTru, x_dEq, x_dNe, x_var0, x_varS, Option.bind_some, Option.map_some, List.map_cons, List.map_nil, List.length_cons, List.length_nil, List.replicate_succ, List.replicate_zero, List.cons_append, List.nil_append, List.set_cons_zero, List.set_cons_succ, Bool.not_true, Bool.not_false, Bool.false_eq_true, if_true, if_false, decide_true, decide_false, decide_eq_true_eq, dIsN, dNotN, dIdx, dItems, at_int, at0, at1, at2, at3, cut2, gN, gT, gCo, gNl, wipeE, x_for_nil, x_for_cons, x_turn_nx, x_turn_ct, x_turn_bk, x_turn_rt, x_comp_nil, x_comp_cons, sz2, sz4, i_lt_int, i_lt_bl, i_lt_non, i_lt_lst, i_lt_tup, i_i_int, i_i_bl, i_b_int, i_b_bl, i_b_non, i_b_lst, i_b_tup, i_l_int, i_l_bl, i_l_non, i_l_lst, i_l_tup, i_t_int, i_t_lst, i_t_tup, i_d_int, i_d_bl, i_d_non, i_d_lst, i_d_tup, i_ltd_int, i_ltd_bl, i_ltd_non, l_lst, l_tup, t_lst, t_tup, a_lst, b_nil, b_cons, cut_lst, cut_tup, x_dEqb, x_dNeb, x_dEqn, x_zip, x_range1, x_range2, Int.cast_ofNat_Int, Nat.zero_add, List.all_cons, List.all_nil, id, Bool.and_true, Bool.true_and, Bool.and_false, Bool.false_and, Bool.or_true, Bool.true_or, Bool.or_false, Bool.false_or, Nat.reduceAdd, Nat.reduceSub, Int.reduceEq, Int.reduceLT, Int.reduceLE, Int.reduceNeg, szl0, szl1, szl2, szl3, szl4, szl5, szl6, szl7, szl8, szl9, szl10, x_extend, x_append, x_borT, x_frz, x_idxO, List.getElem?_cons_zero, List.getElem?_cons_succ, x_notIn, x_isIn, rg_m1, rg_m2, rg_2, rg_3, rg_5, x_abs, x_int, x_rep2, Int.reduceAdd, Int.reduceSub, Int.reduceToNat, and_self, ram3, rbm3, ram2, rbm2, ram1, rbm1, ra0, rb0, ra1, rb1, ra2, rb2, ra3, rb3, ra4, rb4, ra5, rb5, ra6, rb6, ra7, rb7, ra8, rb8, ra9, rb9, ra10, rb10, ra11, rb11, ra12, rb12, ra13, rb13, ra20, rb20, ra24, rb24, oD]
        by_cases h1 : a ≤ r <;> by_cases h2 : r ≤ b <;> simp [bro, sD, sL, qD, oD, h1, h2, x_def, startE, x_seq, x_nx, x_rt, x_bk, x_ct, x_bind, x_pure, x_c, x_nil, x_cons, x_tup, x_lst, x_op2, x_op1, x_tru, x_notT, x_ite, x_ifS, x_andT, x_orT, x_and, x_or, x_chain, x_bi, x_biF, x_call, x_perm, x_it, x_ret, x_drop, x_next, x_set, x_setF, x_asg, x_aug, x_for, x_comp, x_cat, x_dSub, x_dAdd, x_dAddI, x_dLt, x_dLe, x_dGt, x_dGe, x_dNeg, x_dNot, x_dTru, x_dEq, x_dNe, x_var0, x_varS, Option.bind_some, Option.map_some, List.map_cons, List.map_nil, List.length_cons, List.length_nil, List.replicate_succ, List.replicate_zero, List.cons_append, List.nil_append, List.set_cons_zero, List.set_cons_succ, Bool.not_true, Bool.not_false, Bool.false_eq_true, if_true, if_false, decide_true, decide_false, decide_eq_true_eq, dIsN, dNotN, dIdx, dItems, at_int, at0, at1, at2, at3, cut2, gN, gT, gCo, gNl, wipeE, x_for_nil, x_for_cons, x_turn_nx, x_turn_ct, x_turn_bk, x_turn_rt, x_comp_nil, x_comp_cons, sz2, sz4, i_lt_int, i_lt_bl, i_lt_non, i_lt_lst, i_lt_tup, i_i_int, i_i_bl, i_b_int, i_b_bl, i_b_non, i_b_lst, i_b_tup, i_l_int, i_l_bl, i_l_non, i_l_lst, i_l_tup, i_t_int, i_t_lst, i_t_tup, i_d_int, i_d_bl, i_d_non, i_d_lst, i_d_tup, i_ltd_int, i_ltd_bl, i_ltd_non, l_lst, l_tup, t_lst, t_tup, a_lst, b_nil, b_cons, cut_lst, cut_tup, x_dEqb, x_dNeb, x_dEqn, x_zip, x_range1, x_range2, Int.cast_ofNat_Int, Nat.zero_add, List.all_cons, List.all_nil, id, Bool.and_true, Bool.true_and, Bool.and_false, Bool.false_and, Bool.or_true, Bool.true_or, Bool.or_false, Bool.false_or, Nat.reduceAdd, Nat.reduceSub, Int.reduceEq, Int.reduceLT, Int.reduceLE, Int.reduceNeg, szl0, szl1, szl2, szl3, szl4, szl5, szl6, szl7, szl8, szl9, szl10, x_extend, x_append, x_borT, x_frz, x_idxO, List.getElem?_cons_zero, List.getElem?_cons_succ, x_notIn, x_isIn, rg_m1, rg_m2, rg_2, rg_3, rg_5, x_abs, x_int, x_rep2, Int.reduceAdd, Int.reduceSub, Int.reduceToNat, and_self, ram3, rbm3, ram2, rbm2, ram1, rbm1, ra0, rb0, ra1, rb1, ra2, rb2, ra3, rb3, ra4, rb4, ra5, rb5, ra6, rb6, ra7, rb7, ra8, rb8, ra9, rb9, ra10, rb10, ra11, rb11, ra12, rb12, ra13, rb13, ra20, rb20, ra24, rb24]
  · have pm : 0 < m := by omega
    have e1 := fun i : Int => x_dMod (i := i) pm
    simp only [F_reduce_strip, m_reduce_strip, F_alone, m_alone, x_def, startE, x_seq, x_nx, x_rt, x_bk, x_ct, x_bind, x_pure, x_c, x_nil, x_cons, x_tup, x_lst, x_op2, x_op1, x_tru, x_notT, x_ite, x_ifS, x_andT, x_orT, x_and, x_or, x_chain, x_bi, x_biF, x_call, x_perm, x_it, x_ret, x_drop, x_next, x_set, x_setF, x_asg, x_aug, x_for, x_comp, x_cat, x_dSub, x_dAdd, x_dAddI, x_dLt, x_dLe, x_dGt, x_dGe, x_dNeg, x_dNot, x_dTru, x_dEq, x_dNe, x_var0, x_varS, Option.bind_some, Option.map_some, List.map_cons, List.map_nil, List.length_cons, List.length_nil, List.replicate_succ, List.replicate_zero, List.cons_append, List.nil_append, List.set_cons_zero, List.set_cons_succ, Bool.not_true, Bool.not_false, Bool.false_eq_true, if_true, if_false, decide_true, decide_false, decide_eq_true_eq, dIsN, dNotN, dIdx, dItems, at_int, at0, at1, at2, at3, cut2, gN, gT, gCo, gNl, wipeE, x_for_nil, x_for_cons, x_turn_nx, x_turn_ct, x_turn_bk, x_turn_rt, x_comp_nil, x_comp_cons, sz2, sz4, i_lt_int, i_lt_bl, i_lt_non, i_lt_lst, i_lt_tup, i_i_int, i_i_bl, i_b_int, i_b_bl, i_b_non, i_b_lst, i_b_tup, i_l_int, i_l_bl, i_l_non, i_l_lst, i_l_tup, i_t_int, i_t_lst, i_t_tup, i_d_int, i_d_bl, i_d_non, i_d_lst, i_d_tup, i_ltd_int, i_ltd_bl, i_ltd_non, l_lst, l_tup, t_lst, t_tup, a_lst, b_nil, b_cons, cut_lst, cut_tup, x_dEqb, x_dNeb, x_dEqn, x_zip, x_range1, x_range2, Int.cast_ofNat_Int, Nat.zero_add, List.all_cons, List.all_nil, id, Bool.and_true, Bool.true_and, Bool.and_false, Bool.false_and, Bool.or_true, Bool.true_or, Bool.or_false, Bool.false_or, Nat.reduceAdd, Nat.reduceSub, Int.reduceEq, Int.reduceLT, Int.reduceLE, Int.reduceNeg, szl0, szl1, szl2, szl3, szl4, szl5, szl6, szl7, szl8, szl9, szl10, x_extend, x_append, x_borT, x_frz, x_idxO, List.getElem?_cons_zero, List.getElem?_cons_succ, x_notIn, x_isIn, rg_m1, rg_m2, rg_2, rg_3, rg_5, x_abs, x_int, x_rep2, Int.reduceAdd, Int.reduceSub, Int.reduceToNat, and_self, ram3, rbm3, ram2, rbm2, ram1, rbm1, ra0, rb0, ra1, rb1, ra2, rb2, ra3, rb3, ra4, rb4, ra5, rb5, ra6, rb6, ra7, rb7, ra8, rb8, ra9, rb9, ra10, rb10, ra11, rb11, ra12, rb12, ra13, rb13, ra20, rb20, ra24, rb24, h0]
    cases l with
    | none =>
      cases h with
      | none => simp only [x_def, startE, x_seq, x_nx, x_rt, x_bk, x_ct, x_bind, x_pure, x_c, x_nil, x_cons, x_tup, x_lst, x_op2, x_op1, x_tru, x_notT, x_ite, x_ifS, x_andT, x_orT, x_and, x_or, x_chain, x_bi, x_biF, x_call, x_perm, x_it, x_ret, x_drop, x_next, x_set, x_setF, x_asg, x_aug, x_for, x_comp, x_cat, x_dSub, x_dAdd, x_dAddI, x_dLt, x_dLe, x_dGt, x_dGe, x_dNeg, x_dNot, x_dTru, x_dEq, x_dNe, x_var0, x_varS, Option.bind_some, Option.map_some, List.map_cons, List.map_nil, List.length_cons, List.length_nil, List.replicate_succ, List.replicate_zero, List.cons_append, List.nil_append, List.set_cons_zero, List.set_cons_succ, Bool.not_true, Bool.not_false, Bool.false_eq_true, if_true, if_false, decide_true, decide_false, decide_eq_true_eq, dIsN, dNotN, dIdx, dItems, at_int, at0, at1, at2, at3, cut2, gN, gT, gCo, gNl, wipeE, x_for_nil, x_for_cons, x_turn_nx, x_turn_ct, x_turn_bk, x_turn_rt, x_comp_nil, x_comp_cons, sz2, sz4, i_lt_int, i_lt_bl, i_lt_non, i_lt_lst, i_lt_tup, i_i_int, i_i_bl, i_b_int, i_b_bl, i_b_non, i_b_lst, i_b_tup, i_l_int, i_l_bl, i_l_non, i_l_lst, i_l_tup, i_t_int, i_t_lst, i_t_tup, i_d_int, i_d_bl, i_d_non, i_d_lst, i_d_tup, i_ltd_int, i_ltd_bl, i_ltd_non, l_lst, l_tup, t_lst, t_tup, a_lst, b_nil, b_cons, cut_lst, cut_tup, x_dEqb, x_dNeb, x_dEqn, x_zip, x_range1, x_range2, Int.cast_ofNat_Int, Nat.zero_add, List.all_cons, List.all_nil, id, Bool.and_true, Bool.true_and, Bool.and_false, Bool.false_and, Bool.or_true, Bool.true_or, Bool.or_false, Bool.false_or, Nat.reduceAdd, Nat.reduceSub, Int.reduceEq, Int.reduceLT, Int.reduceLE, Int.reduceNeg, szl0, szl1, szl2, szl3, szl4, szl5, szl6, szl7, szl8, szl9, szl10, x_extend, x_append, x_borT, x_frz, x_idxO, List.getElem?_cons_zero, List.getElem?_cons_succ, x_notIn, x_isIn, rg_m1, rg_m2, rg_2, rg_3, rg_5, x_abs, x_int, x_rep2, Int.reduceAdd, Int.reduceSub, Int.reduceToNat, and_self, ram3, rbm3, ram2, rbm2, ram1, rbm1, ra0, rb0, ra1, rb1, ra2, rb2, ra3, rb3, ra4, rb4, ra5, rb5, ra6, rb6, ra7, rb7, ra8, rb8, ra9, rb9, ra10, rb10, ra11, rb11, ra12, rb12, ra13, rb13, ra20, rb20, ra24, rb24, oD, e1]; simp [bro, sD, sL, qD, oD, h0, x_def, startE, x_seq, x_nx, x_rt, x_bk, x_ct, x_bind, x_pure, x_c, x_nil, x_cons, x_tup, x_lst, x_op2, x_op1, x_tru, x_notT, x_ite, x_ifS, x_andT, x_orT, x_and, x_or, x_chain, x_bi, x_biF, x_call, x_perm, x_it, x_ret, x_drop, x_next, x_set, x_setF, x_asg, x_aug, x_for, x_comp, x_cat, x_dSub, x_dAdd, x_dAddI, x_dLt, x_dLe, x_dGt, x_dGe, x_dNeg, x_dNot, x_dTru, x_dEq, x_dNe, x_var0, x_varS, Option.bind_some, Option.map_some, List.map_cons, List.map_nil, List.length_cons, List.length_nil, List.replicate_succ, List.replicate_zero, List.cons_append, List.nil_append, List.set_cons_zero, List.set_cons_succ, Bool.not_true, Bool.not_false, Bool.false_eq_true, if_true, if_false, decide_true, decide_false, decide_eq_true_eq, dIsN, dNotN, dIdx, dItems, at_int, at0, at1, at2, at3, cut2, gN, gT, gCo, gNl, wipeE, x_for_nil, x_for_cons, x_turn_nx, x_turn_ct, x_turn_bk, x_turn_rt, x_comp_nil, x_comp_cons, sz2, sz4, i_lt_int, i_lt_bl, i_lt_non, i_lt_lst, i_lt_tup, i_i_int, i_i_bl, i_b_int, i_b_bl, i_b_non, i_b_lst, i_b_tup, i_l_int, i_l_bl, i_l_non, i_l_lst, i_l_tup, i_t_int, i_t_lst, i_t_tup, i_d_int, i_d_bl, i_d_non, i_d_lst, i_d_tup, i_ltd_int, i_ltd_bl, i_ltd_non, l_lst, l_tup, t_lst, t_tup, a_lst, b_nil, b_cons, cut_lst, cut_tup, x_dEqb, x_dNeb, x_dEqn, x_zip, x_range1, x_range2, Int.cast_ofNat_Int, Nat.zero_add, List.all_cons, List.all_nil, id, Bool.and_true, Bool.true_and, Bool.and_false, Bool.false_and, Bool.or_true, Bool.true_or, Bool.or_false, Bool.false_or, Nat.reduceAdd, Nat.reduceSub, Int.reduceEq, Int.reduceLT, Int.reduceLE, Int.reduceNeg, szl0, szl1, szl2, szl3, szl4, szl5, szl6, szl7, szl8, szl9, szl10, x_extend, x_append, x_borT, x_frz, x_idxO, List.getElem?_cons_zero, List.getElem?_cons_succ, x_notIn, x_isIn, rg_m1, rg_m2, rg_2, rg_3, rg_5, x_abs, x_int, x_rep2, Int.reduceAdd, Int.reduceSub, Int.reduceToNat, and_self, ram3, rbm3, ram2, rbm2, ram1, rbm1, ra0, rb0, ra1, rb1, ra2, rb2, ra3, rb3, ra4, rb4, ra5, rb5, ra6, rb6, ra7, rb7, ra8, rb8, ra9, rb9, ra10, rb10, ra11, rb11, ra12, rb12, ra13, rb13, ra20, rb20, ra24, rb24]
      | some b =>
        simp only [x_def, startE, x_seq, x_nx, x_rt, x_bk, x_ct, x_bind, x_pure, x_c, x_nil, x_cons, x_tup, x_lst, x_op2, x_op1, x_tru, x_notT, x_ite, x_ifS, x_andT, x_orT, x_and, x_or, x_chain, x_bi, x_biF, x_call, x_perm, x_it, x_ret, x_drop, x_next, x_set, x_setF, x_asg, x_aug, x_for, x_comp, x_cat, x_dSub, x_dAdd, x_dAddI, x_dLt, x_dLe, x_dGt, x_dGe, x_dNeg, x_dNot, x_dTru, x_dEq, x_dNe, x_var0, x_varS, Option.bind_some, Option.map_some, List.map_cons, List.map_nil, List.length_cons, List.length_nil, List.replicate_succ, List.replicate_zero, List.cons_append, List.nil_append, List.set_cons_zero, List.set_cons_succ, Bool.not_true, Bool.not_false, Bool.false_eq_true, if_true, if_false, decide_true, decide_false, decide_eq_true_eq, dIsN, dNotN, dIdx, dItems, at_int, at0, at1, at2, at3, cut2, gN, gT, gCo, gNl, wipeE, x_for_nil, x_for_cons, x_turn_nx, x_turn_ct, x_turn_bk, x_turn_rt, x_comp_nil, x_comp_cons, sz2, sz4, i_lt_int, i_lt_bl, i_lt_non, i_lt_lst, i_lt_tup, i_i_int, i_i_bl, i_b_int, i_b_bl, i_b_non, i_b_lst, i_b_tup, i_l_int, i_l_bl, i_l_non, i_l_lst, i_l_tup, i_t_int, i_t_lst, i_t_tup, i_d_int, i_d_bl, i_d_non, i_d_lst, i_d_tup, i_ltd_int, i_ltd_bl, i_ltd_non, l_lst, l_tup, t_lst, t_tup, a_lst, b_nil, b_cons, cut_lst, cut_tup, x_dEqb, x_dNeb, x_dEqn, x_zip, x_range1, x_range2, Int.cast_ofNat_Int, Nat.zero_add, List.all_cons, List.all_nil, id, Bool.and_true, Bool.true_and, Bool.and_false, Bool.false_and, Bool.or_true, Bool.true_or, Bool.or_false, Bool.false_or, Nat.reduceAdd, Nat.reduceSub, Int.reduceEq, Int.reduceLT, Int.reduceLE, Int.reduceNeg, szl0, szl1, szl2, szl3, szl4, szl5, szl6, szl7, szl8, szl9, szl10, x_extend, x_append, x_borT, x_frz, x_idxO, List.getElem?_cons_zero, List.getElem?_cons_succ, x_notIn, x_isIn, rg_m1, rg_m2, rg_2, rg_3, rg_5, x_abs, x_int, x_rep2, Int.reduceAdd, Int.reduceSub, Int.reduceToNat, and_self, ram3, rbm3, ram2, rbm2, ram1, rbm1, ra0, rb0, ra1, rb1, ra2, rb2, ra3, rb3, ra4, rb4, ra5, rb5, ra6, rb6, ra7, rb7, ra8, rb8, ra9, rb9, ra10, rb10, ra11, rb11, ra12, rb12, ra13, rb13, ra20, rb20, ra24, rb24, oD, e1]
        simp [bro, sD, sL, qD, oD, h0, x_def, startE, x_seq, x_nx, x_rt, x_bk, x_ct, x_bind, x_pure, x_c, x_nil, x_cons, x_tup, x_lst, x_op2, x_op1, x_tru, x_notT, x_ite, x_ifS, x_andT, x_orT, x_and, x_or, x_chain, x_bi, x_biF, x_call, x_perm, x_it, x_ret, x_drop, x_next, x_set, x_setF, x_asg, x_aug, x_for, x_comp, x_cat, x_dSub, x_dAdd, x_dAddI, x_dLt, x_dLe, x_dGt, x_dGe, x_dNeg, x_dNot, x_dTru, x_dEq, x_dNe, x_var0, x_varS, Option.bind_some, Option.map_some, List.map_cons, List.map_nil, List.length_cons, List.length_nil, List.replicate_succ, List.replicate_zero, List.cons_append, List.nil_append, List.set_cons_zero, List.set_cons_succ, Bool.not_true, Bool.not_false, Bool.false_eq_true, if_true, if_false, decide_true, decide_false, decide_eq_true_eq, dIsN, dNotN, dIdx, dItems, at_int, at0, at1, at2, at3, cut2, gN, gT, gCo, gNl, wipeE, x_for_nil, x_for_cons, x_turn_nx, x_turn_ct, x_turn_bk, x_turn_rt, x_comp_nil, x_comp_cons, sz2, sz4, i_lt_int, i_lt_bl, i_lt_non, i_lt_lst, i_lt_tup, i_i_int, i_i_bl, i_b_int, i_b_bl, i_b_non, i_b_lst, i_b_tup, i_l_int, i_l_bl, i_l_non, i_l_lst, i_l_tup, i_t_int, i_t_lst, i_t_tup, i_d_int, i_d_bl, i_d_non, i_d_lst, i_d_tup, i_ltd_int, i_ltd_bl, i_ltd_non, l_lst, l_tup, t_lst, t_tup, a_lst, b_nil, b_cons, cut_lst, cut_tup, x_dEqb, x_dNeb, x_dEqn, x_zip, x_range1, x_range2, Int.cast_ofNat_Int, Nat.zero_add, List.all_cons, List.all_nil, id, Bool.and_true, Bool.true_and, Bool.and_false, Bool.false_and, Bool.or_true, Bool.true_or, Bool.or_false, Bool.false_or, Nat.reduceAdd, Nat.reduceSub, Int.reduceEq, Int.reduceLT, Int.reduceLE, Int.reduceNeg, szl0, szl1, szl2, szl3, szl4, szl5, szl6, szl7, szl8, szl9, szl10, x_extend, x_append, x_borT, x_frz, x_idxO, List.getElem?_cons_zero, List.getElem?_cons_succ, x_notIn, x_isIn, rg_m1, rg_m2, rg_2, rg_3, rg_5, x_abs, x_int, x_rep2, Int.reduceAdd, Int.reduceSub, Int.reduceToNat, and_self, ram3, rbm3, ram2, rbm2, ram1, rbm1, ra0, rb0, ra1, rb1, ra2, rb2, ra3, rb3, ra4, rb4, ra5, rb5, ra6, rb6, ra7, rb7, ra8, rb8, ra9, rb9, ra10, rb10, ra11, rb11, ra12, rb12, ra13, rb13, ra20, rb20, ra24, rb24, e1]
    | some a =>
      cases h with
      | none =>
        simp only [x_def, startE, x_seq, x_nx, x_rt, x_bk, x_ct, x_bind, x_pure, x_c, x_nil, x_cons, x_tup, x_lst, x_op2, x_op1, x_tru, x_notT, x_ite, x_ifS, x_andT, x_orT, x_and, x_or, x_chain, x_bi, x_biF, x_call, x_perm, x_it, x_ret, x_drop, x_next, x_set, x_setF, x_asg, x_aug, x_for, x_comp, x_cat, x_dSub, x_dAdd, x_dAddI, x_dLt, x_dLe, x_dGt, x_dGe, x_dNeg, x_dNot, x_dTru, x_dEq, x_dNe, x_var0, x_varS, Option.bind_some, Option.map_some, List.map_cons, List.map_nil, List.length_cons, List.length_nil, List.replicate_succ, List.replicate_zero, List.cons_append, List.nil_append, List.set_cons_zero, List.set_cons_succ, Bool.not_true, Bool.not_false, Bool.false_eq_true, if_true, if_false, decide_true, decide_false, decide_eq_true_eq, dIsN, dNotN, dIdx, dItems, at_int, at0, at1, at2, at3, cut2, gN, gT, gCo, gNl, wipeE, x_for_nil, x_for_cons, x_turn_nx, x_turn_ct, x_turn_bk, x_turn_rt, x_comp_nil, x_comp_cons, sz2, sz4, i_lt_int, i_lt_bl, i_lt_non, i_lt_lst, i_lt_tup, i_i_int, i_i_bl, i_b_int, i_b_bl, i_b_non, i_b_lst, i_b_tup, i_l_int, i_l_bl, i_l_non, i_l_lst, i_l_tup, i_t_int, i_t_lst, i_t_tup, i_d_int, i_d_bl, i_d_non, i_d_lst, i_d_tup, i_ltd_int, i_ltd_bl, i_ltd_non, l_lst, l_tup, t_lst, t_tup, a_lst, b_nil, b_cons, cut_lst, cut_tup, x_dEqb, x_dNeb, x_dEqn, x_zip, x_range1, x_range2, Int.cast_ofNat_Int, Nat.zero_add, List.all_cons, List.all_nil, id, Bool.and_true, Bool.true_and, Bool.and_false, Bool.false_and, Bool.or_true, Bool.true_or, Bool.or_false, Bool.false_or, Nat.reduceAdd, Nat.reduceSub, Int.reduceEq, Int.reduceLT, Int.reduceLE, Int.reduceNeg, szl0, szl1, szl2, szl3, szl4, szl5, szl6, szl7, szl8, szl9, szl10, x_extend, x_append, x_borT, x_frz, x_idxO, List.getElem?_cons_zero, List.getElem?_cons_succ, x_notIn, x_isIn, rg_m1, rg_m2, rg_2, rg_3, rg_5, x_abs, x_int, x_rep2, Int.reduceAdd, Int.reduceSub, Int.reduceToNat, and_self, ram3, rbm3, ram2, rbm2, ram1, rbm1, ra0, rb0, ra1, rb1, ra2, rb2, ra3, rb3, ra4, rb4, ra5, rb5, ra6, rb6, ra7, rb7, ra8, rb8, ra9, rb9, ra10, rb10, ra11, rb11, ra12, rb12, ra13, rb13, ra20, rb20, ra24, rb24, oD, e1]
        simp [bro, sD, sL, qD, oD, h0, x_def, startE, x_seq, x_nx, x_rt, x_bk, x_ct, x_bind, x_pure, x_c, x_nil, x_cons, x_tup, x_lst, x_op2, x_op1, x_tru, x_notT, x_ite, x_ifS, x_andT, x_orT, x_and, x_or, x_chain, x_bi, x_biF, x_call, x_perm, x_it, x_ret, x_drop, x_next, x_set, x_setF, x_asg, x_aug, x_for, x_comp, x_cat, x_dSub, x_dAdd, x_dAddI, x_dLt, x_dLe, x_dGt, x_dGe, x_dNeg, x_dNot, x_dTru, x_dEq, x_dNe, x_var0, x_varS, Option.bind_some, Option.map_some, List.map_cons, List.map_nil, List.length_cons, List.length_nil, List.replicate_succ, List.replicate_zero, List.cons_append, List.nil_append, List.set_cons_zero, List.set_cons_succ, Bool.not_true, Bool.not_false, Bool.false_eq_true, if_true, if_false, decide_true, decide_false, decide_eq_true_eq, dIsN, dNotN, dIdx, dItems, at_int, at0, at1, at2, at3, cut2, gN, gT, gCo, gNl, wipeE, x_for_nil, x_for_cons, x_turn_nx, x_turn_ct, x_turn_bk, x_turn_rt, x_comp_nil, x_comp_cons, sz2, sz4, i_lt_int, i_lt_bl, i_lt_non, i_lt_lst, i_lt_tup, i_i_int, i_i_bl, i_b_int, i_b_bl, i_b_non, i_b_lst, i_b_tup, i_l_int, i_l_bl, i_l_non, i_l_lst, i_l_tup, i_t_int, i_t_lst, i_t_tup, i_d_int, i_d_bl, i_d_non, i_d_lst, i_d_tup, i_ltd_int, i_ltd_bl, i_ltd_non, l_lst, l_tup, t_lst, t_tup, a_lst, b_nil, b_cons, cut_lst, cut_tup, x_dEqb, x_dNeb, x_dEqn, x_zip, x_range1, x_range2, Int.cast_ofNat_Int, Nat.zero_add, List.all_cons, List.all_nil, id, Bool.and_true, Bool.true_and, Bool.and_false, Bool.false_and, Bool.or_true, Bool.true_or, Bool.or_false, Bool.false_or, Nat.reduceAdd, Nat.reduceSub, Int.reduceEq, Int.reduceLT, Int.reduceLE, Int.reduceNeg, szl0, szl1, szl2, szl3, szl4, szl5, szl6, szl7, szl8, szl9, szl10, x_extend, x_append, x_borT, x_frz, x_idxO, List.getElem?_cons_zero, List.getElem?_cons_succ, x_notIn, x_isIn, rg_m1, rg_m2, rg_2, rg_3, rg_5, x_abs, x_int, x_rep2, Int.reduceAdd, Int.reduceSub, Int.reduceToNat, and_self, ram3, rbm3, ram2, rbm2, ram1, rbm1, ra0, rb0, ra1, rb1, ra2, rb2, ra3, rb3, ra4, rb4, ra5, rb5, ra6, rb6, ra7, rb7, ra8, rb8, ra9, rb9, ra10, rb10, ra11, rb11, ra12, rb12, ra13, rb13, ra20, rb20, ra24, rb24, e1]
      | some b =>
        simp only [x_def, startE, x_seq, x_nx, x_rt, x_bk, x_ct, x_bind, x_pure, x_c, x_nil, x_cons, x_tup, x_lst, x_op2, x_op1, x_tru, x_notT, x_ite, x_ifS, x_andT, x_orT, x_and, x_or, x_chain, x_bi, x_biF, x_call, x_perm, x_it, x_ret, x_drop, x_next, x_set, x_setF, x_asg, x_aug, x_for, x_comp, x_cat, x_dSub, x_dAdd, x_dAddI, x_dLt, x_dLe, x_dGt, x_dGe, x_dNeg, x_dNot, x_dTru, x_dEq, x_dNe, x_var0, x_varS, Option.bind_some, Option.map_some, List.map_cons, List.map_nil, List.length_cons, List.length_nil, List.replicate_succ, List.replicate_zero, List.cons_append, List.nil_append, List.set_cons_zero, List.set_cons_succ, Bool.not_true, Bool.not_false, Bool.false_eq_true, if_true, if_false, decide_true, decide_false, decide_eq_true_eq, dIsN, dNotN, dIdx, dItems, at_int, at0, at1, at2, at3, cut2, gN, gT, gCo, gNl, wipeE, x_for_nil, x_for_cons, x_turn_nx, x_turn_ct, x_turn_bk, x_turn_rt, x_comp_nil, x_comp_cons, sz2, sz4, i_lt_int, i_lt_bl, i_lt_non, i_lt_lst, i_lt_tup, i_i_int, i_i_bl, i_b_int, i_b_bl, i_b_non, i_b_lst, i_b_tup, i_l_int, i_l_bl, i_l_non, i_l_lst, i_l_tup, i_t_int, i_t_lst, i_t_tup, i_d_int, i_d_bl, i_d_non, i_d_lst, i_d_tup, i_ltd_int, i_ltd_bl, i_ltd_non, l_lst, l_tup, t_lst, t_tup, a_lst, b_nil, b_cons, cut_lst, cut_tup, x_dEqb, x_dNeb, x_dEqn, x_zip, x_range1, x_range2, Int.cast_ofNat_Int, Nat.zero_add, List.all_cons, List.all_nil, id, Bool.and_true, Bool.true_and, Bool.and_false, Bool.false_and, Bool.or_true, Bool.true_or, Bool.or_false, Bool.false_or, Nat.reduceAdd, Nat.reduceSub, Int.reduceEq, Int.reduceLT, Int.reduceLE, Int.reduceNeg, szl0, szl1, szl2, szl3, szl4, szl5, szl6, szl7, szl8, szl9, szl10, x_extend, x_append, x_borT, x_frz, x_idxO, List.getElem?_cons_zero, List.getElem?_cons_succ, x_notIn, x_isIn, rg_m1, rg_m2, rg_2, rg_3, rg_5, x_abs, x_int, x_rep2, Int.reduceAdd, Int.reduceSub, Int.reduceToNat, and_self, ram3, rbm3, ram2, rbm2, ram1, rbm1, ra0, rb0, ra1, rb1, ra2, rb2, ra3, rb3, ra4, rb4, ra5, rb5, ra6, rb6, ra7, rb7, ra8, rb8, ra9, rb9, ra10, rb10, ra11, rb11, ra12, rb12, ra13, rb13, ra20, rb20, ra24, rb24, oD, e1]
        by_cases k1 : b - (b - r) % m ≤ a + (r - a) % m
        · by_cases k2 : b - (b - r) % m < a + (r - a) % m
          · have k3 : ¬ a + (r - a) % m = b - (b - r) % m := by omega
            simp [bro, sD, sL, qD, oD, h0, k1, k2, k3, x_def, startE, x_seq, x_nx, x_rt, x_bk, x_ct, x_bind, x_pure, x_c, x_nil, x_cons, x_tup, x_lst, x_op2, x_op1, x_tru, x_notT, x_ite, x_ifS, x_andT, x_orT, x_and, x_or, x_chain, x_bi, x_biF, x_call, x_perm, x_it, x_ret, x_drop, x_next, x_set, x_setF, x_asg, x_aug, x_for, x_comp, x_cat, x_dSub, x_dAdd, x_dAddI, x_dLt, x_dLe, x_dGt, x_dGe, x_dNeg, x_dNot, x_dTru, x_dEq, x_dNe, x_var0, x_varS, Option.bind_some, Option.map_some, List.map_cons, List.map_nil, List.length_cons, List.length_nil, List.replicate_succ, List.replicate_zero, List.cons_append, List.nil_append, List.set_cons_zero, List.set_cons_succ, Bool.not_true, Bool.not_false, Bool.false_eq_true, if_true, if_false, decide_true, decide_false, decide_eq_true_eq, dIsN, dNotN, dIdx, dItems, at_int, at0, at1, at2, at3, cut2, gN, gT, gCo, gNl, wipeE, x_for_nil, x_for_cons, x_turn_nx, x_turn_ct, x_turn_bk, x_turn_rt, x_comp_nil, x_comp_cons, sz2, sz4, i_lt_int, i_lt_bl, i_lt_non, i_lt_lst, i_lt_tup, i_i_int, i_i_bl, i_b_int, i_b_bl, i_b_non, i_b_lst, i_b_tup, i_l_int, i_l_bl, i_l_non, i_l_lst, i_l_tup, i_t_int, i_t_lst, i_t_tup, i_d_int, i_d_bl, i_d_non, i_d_lst, i_d_tup, i_ltd_int, i_ltd_bl, i_ltd_non, l_lst, l_tup, t_lst, t_tup, a_lst, b_nil, b_cons, cut_lst, cut_tup, x_dEqb, x_dNeb, x_dEqn, x_zip, x_range1, x_range2, Int.cast_ofNat_Int, Nat.zero_add, List.all_cons, List.all_nil, id, Bool.and_true, Bool.true_and, Bool.and_false, Bool.false_and, Bool.or_true, Bool.true_or, Bool.or_false, Bool.false_or, Nat.reduceAdd, Nat.reduceSub, Int.reduceEq, Int.reduceLT, Int.reduceLE, Int.reduceNeg, szl0, szl1, szl2, szl3, szl4, szl5, szl6, szl7, szl8, szl9, szl10, x_extend, x_append, x_borT, x_frz, x_idxO, List.getElem?_cons_zero, List.getElem?_cons_succ, x_notIn, x_isIn, rg_m1, rg_m2, rg_2, rg_3, rg_5, x_abs, x_int, x_rep2, Int.reduceAdd, Int.reduceSub, Int.reduceToNat, and_self, ram3, rbm3, ram2, rbm2, ram1, rbm1, ra0, rb0, ra1, rb1, ra2, rb2, ra3, rb3, ra4, rb4, ra5, rb5, ra6, rb6, ra7, rb7, ra8, rb8, ra9, rb9, ra10, rb10, ra11, rb11, ra12, rb12, ra13, rb13, ra20, rb20, ra24, rb24, e1]
          · have k3 : a + (r - a) % m = b - (b - r) % m := by omega
            simp [bro, sD, sL, qD, oD, h0, k1, k2, k3, x_def, startE, x_seq, x_nx, x_rt, x_bk, x_ct, x_bind, x_pure, x_c, x_nil, x_cons, x_tup, x_lst, x_op2, x_op1, x_tru, x_notT, x_ite, x_ifS, x_andT, x_orT, x_and, x_or, x_chain, x_bi, x_biF, x_call, x_perm, x_it, x_ret, x_drop, x_next, x_set, x_setF, x_asg, x_aug, x_for, x_comp, x_cat, x_dSub, x_dAdd, x_dAddI, x_dLt, x_dLe, x_dGt, x_dGe, x_dNeg, x_dNot, x_dTru, x_dEq, x_dNe, x_var0, x_varS, Option.bind_some, Option.map_some, List.map_cons, List.map_nil, List.length_cons, List.length_nil, List.replicate_succ, List.replicate_zero, List.cons_append, List.nil_append, List.set_cons_zero, List.set_cons_succ, Bool.not_true, Bool.not_false, Bool.false_eq_true, if_true, if_false, decide_true, decide_false, decide_eq_true_eq, dIsN, dNotN, dIdx, dItems, at_int, at0, at1, at2, at3, cut2, gN, gT, gCo, gNl, wipeE, x_for_nil, x_for_cons, x_turn_nx, x_turn_ct, x_turn_bk, x_turn_rt, x_comp_nil, x_comp_cons, sz2, sz4, i_lt_int, i_lt_bl, i_lt_non, i_lt_lst, i_lt_tup, i_i_int, i_i_bl, i_b_int, i_b_bl, i_b_non, i_b_lst, i_b_tup, i_l_int, i_l_bl, i_l_non, i_l_lst, i_l_tup, i_t_int, i_t_lst, i_t_tup, i_d_int, i_d_bl, i_d_non, i_d_lst, i_d_tup, i_ltd_int, i_ltd_bl, i_ltd_non, l_lst, l_tup, t_lst, t_tup, a_lst, b_nil, b_cons, cut_lst, cut_tup, x_dEqb, x_dNeb, x_dEqn, x_zip, x_range1, x_range2, Int.cast_ofNat_Int, Nat.zero_add, List.all_cons, List.all_nil, id, Bool.and_true, Bool.true_and, Bool.and_false, Bool.false_and, Bool.or_true, Bool.true_or, Bool.or_false, Bool.false_or, Nat.reduceAdd, Nat.reduceSub, Int.reduceEq, Int.reduceLT, Int.reduceLE, Int.reduceNeg, szl0, szl1, szl2, szl3, szl4, szl5, szl6, szl7, szl8, szl9, szl10, x_extend, x_append, x_borT, x_frz, x_idxO, List.getElem?_cons_zero, List.getElem?_cons_succ, x_notIn, x_isIn, rg_m1, rg_m2, rg_2, rg_3, rg_5, x_abs, x_int, x_rep2, Int.reduceAdd, Int.reduceSub, Int.reduceToNat, and_self, ram3, rbm3, ram2, rbm2, ram1, rbm1, ra0, rb0, ra1, rb1, ra2, rb2, ra3, rb3, ra4, rb4, ra5, rb5, ra6, rb6, ra7, rb7, ra8, rb8, ra9, rb9, ra10, rb10, ra11, rb11, ra12, rb12, ra13, rb13, ra20, rb20, ra24, rb24, e1]
        · simp [bro, sD, sL, qD, oD, h0, k1, x_def, startE, x_seq, x_nx, x_rt, x_bk, x_ct, x_bind, x_pure, x_c, x_nil, x_cons, x_tup, x_lst, x_op2, x_op1, x_tru, x_notT, x_ite, x_ifS, x_andT, x_orT, x_and, x_or, x_chain, x_bi, x_biF, x_call, x_perm, x_it, x_ret, x_drop, x_next, x_set, x_setF, x_asg, x_aug, x_for, x_comp, x_cat, x_dSub, x_dAdd, x_dAddI, x_dLt, x_dLe, x_dGt, x_dGe, x_dNeg, x_dNot, x_dTru, x_dEq, x_dNe, x_var0, x_varS, Option.bind_some, Option.map_some, List.map_cons, List.map_nil, List.length_cons, List.length_nil, List.replicate_succ, List.replicate_zero, List.cons_append, List.nil_append, List.set_cons_zero, List.set_cons_succ, Bool.not_true, Bool.not_false, Bool.false_eq_true, if_true, if_false, decide_true, decide_false, decide_eq_true_eq, dIsN, dNotN, dIdx, dItems, at_int, at0, at1, at2, at3, cut2, gN, gT, gCo, gNl, wipeE, x_for_nil, x_for_cons, x_turn_nx, x_turn_ct, x_turn_bk, x_turn_rt, x_comp_nil, x_comp_cons, sz2, sz4, i_lt_int, i_lt_bl, i_lt_non, i_lt_lst, i_lt_tup, i_i_int, i_i_bl, i_b_int, i_b_bl, i_b_non, i_b_lst, i_b_tup, i_l_int, i_l_bl, i_l_non, i_l_lst, i_l_tup, i_t_int, i_t_lst, i_t_tup, i_d_int, i_d_bl, i_d_non, i_d_lst, i_d_tup, i_ltd_int, i_ltd_bl, i_ltd_non, l_lst, l_tup, t_lst, t_tup, a_lst, b_nil, b_cons, cut_lst, cut_tup, x_dEqb, x_dNeb, x_dEqn, x_zip, x_range1, x_range2, Int.cast_ofNat_Int, Nat.zero_add, List.all_cons, List.all_nil, id, Bool.and_true, Bool.true_and, Bool.and_false, Bool.false_and, Bool.or_true, Bool.true_or, Bool.or_false, Bool.false_or, Nat.reduceAdd, Nat.reduceSub, Int.reduceEq, Int.reduceLT, Int.reduceLE, Int.reduceNeg, szl0, szl1, szl2, szl3, szl4, szl5, szl6, szl7, szl8, szl9, szl10, x_extend, x_append, x_borT, x_frz, x_idxO, List.getElem?_cons_zero, List.getElem?_cons_succ, x_notIn, x_isIn, rg_m1, rg_m2, rg_2, rg_3, rg_5, x_abs, x_int, x_rep2, Int.reduceAdd, Int.reduceSub, Int.reduceToNat, and_self, ram3, rbm3, ram2, rbm2, ram1, rbm1, ra0, rb0, ra1, rb1, ra2, rb2, ra3, rb3, ra4, rb4, ra5, rb5, ra6, rb6, ra7, rb7, ra8, rb8, ra9, rb9, ra10, rb10, ra11, rb11, ra12, rb12, ra13, rb13, ra20, rb20, ra24, rb24, e1]
theorem v_reduced (l h : Option Int) (m r : Int) (S : Strm) (hm : 0 ≤ m) : F_reduced [oD l, oD h, .int m, .int r] S = some (sD (bro l h m r), S) := by
  have hr := v_reduce l h m r S hm
  cases l <;> cases h <;> simp only [F_reduced, m_reduced, x_def, startE, x_seq, x_nx, x_rt, x_bk, x_ct, x_bind, x_pure, x_c, x_nil, x_cons, x_tup, x_lst, x_op2, x_op1, x_tru, x_notT, x_ite, x_ifS, x_andT, x_orT, x_and, x_or, x_chain, x_bi, x_biF, x_call, x_perm, x_it, x_ret, x_drop, x_next, x_set, x_setF, x_asg, x_aug, x_for, x_comp, x_cat, x_dSub, x_dAdd, x_dAddI, x_dLt, x_dLe, x_dGt, x_dGe, x_dNeg, x_dNot, x_dTru, x_dEq, x_dNe, x_var0, x_varS, Option.bind_some, Option.map_some, List.map_cons, List.map_nil, List.length_cons, List.length_nil, List.replicate_succ, List.replicate_zero, List.cons_append, List.nil_append, List.set_cons_zero, List.set_cons_succ, Bool.not_true, Bool.not_false, Bool.false_eq_true, if_true, if_false, decide_true, decide_false, decide_eq_true_eq, dIsN, dNotN, dIdx, dItems, at_int, at0, at1, at2, at3, cut2, gN, gT, gCo, gNl, wipeE, x_for_nil, x_for_cons, x_turn_nx, x_turn_ct, x_turn_bk, x_turn_rt, x_comp_nil, x_comp_cons, sz2, sz4, i_lt_int, i_lt_bl, i_lt_non, i_lt_lst, i_lt_tup, i_i_int, i_i_bl, i_b_int, i_b_bl, i_b_non, i_b_lst, i_b_tup, i_l_int, i_l_bl, i_l_non, i_l_lst, i_l_tup, i_t_int, i_t_lst, i_t_tup, i_d_int, i_d_bl, i_d_non, i_d_lst, i_d_tup, i_ltd_int, i_ltd_bl, i_ltd_non, l_lst, l_tup, t_lst, t_tup, a_lst, b_nil, b_cons, cut_lst, cut_tup, x_dEqb, x_dNeb, x_dEqn, x_zip, x_range1, x_range2, Int.cast_ofNat_Int, Nat.zero_add, List.all_cons, List.all_nil, id, Bool.and_true, Bool.true_and, Bool.and_false, Bool.false_and, Bool.or_true, Bool.true_or, Bool.or_false, Bool.false_or, Nat.reduceAdd, Nat.reduceSub, Int.reduceEq, Int.reduceLT, Int.reduceLE, Int.reduceNeg, szl0, szl1, szl2, szl3, szl4, szl5, szl6, szl7, szl8, szl9, szl10, x_extend, x_append, x_borT, x_frz, x_idxO, List.getElem?_cons_zero, List.getElem?_cons_succ, x_notIn, x_isIn, rg_m1, rg_m2, rg_2, rg_3, rg_5, x_abs, x_int, x_rep2, Int.reduceAdd, Int.reduceSub, Int.reduceToNat, and_self, ram3, rbm3, ram2, rbm2, ram1, rbm1, ra0, rb0, ra1, rb1, ra2, rb2, ra3, rb3, ra4, rb4, ra5, rb5, ra6, rb6, ra7, rb7, ra8, rb8, ra9, rb9, ra10, rb10, ra11, rb11, ra12, rb12, ra13, rb13, ra20, rb20, ra24, rb24, v_checkint, v_isnum, oD, hm] at hr ⊢ <;> simp only [x_def, startE, x_seq, x_nx, x_rt, x_bk, x_ct, x_bind, x_pure, x_c, x_nil, x_cons, x_tup, x_lst, x_op2, x_op1, x_tru, x_notT, x_ite, x_ifS, x_andT, x_orT, x_and, x_or, x_chain, x_bi, x_biF, x_call, x_perm, x_it, x_ret, x_drop, x_next, x_set, x_setF, x_asg, x_aug, x_for, x_comp, x_cat, x_dSub, x_dAdd, x_dAddI, x_dLt, x_dLe, x_dGt, x_dGe, x_dNeg, x_dNot, x_dTru, x_dEq, x_dNe, x_var0, x_varS, Option.bind_some, Option.map_some, List.map_cons, List.map_nil, List.length_cons, List.length_nil, List.replicate_succ, List.replicate_zero, List.cons_append, List.nil_append, List.set_cons_zero, List.set_cons_succ, Bool.not_true, Bool.not_false, Bool.false_eq_true, if_true, if_false, decide_true, decide_false, decide_eq_true_eq, dIsN, dNotN, dIdx, dItems, at_int, at0, at1, at2, at3, cut2, gN, gT, gCo, gNl, wipeE, x_for_nil, x_for_cons, x_turn_nx, x_turn_ct, x_turn_bk, x_turn_rt, x_comp_nil, x_comp_cons, sz2, sz4, i_lt_int, i_lt_bl, i_lt_non, i_lt_lst, i_lt_tup, i_i_int, i_i_bl, i_b_int, i_b_bl, i_b_non, i_b_lst, i_b_tup, i_l_int, i_l_bl, i_l_non, i_l_lst, i_l_tup, i_t_int, i_t_lst, i_t_tup, i_d_int, i_d_bl, i_d_non, i_d_lst, i_d_tup, i_ltd_int, i_ltd_bl, i_ltd_non, l_lst, l_tup, t_lst, t_tup, a_lst, b_nil, b_cons, cut_lst, cut_tup, x_dEqb, x_dNeb, x_dEqn, x_zip, x_range1, x_range2, Int.cast_ofNat_Int, Nat.zero_add, List.all_cons, List.all_nil, id, Bool.and_true, Bool.true_and, Bool.and_false, Bool.false_and, Bool.or_true, Bool.true_or, Bool.or_false, Bool.false_or, Nat.reduceAdd, Nat.reduceSub, Int.reduceEq, Int.reduceLT, Int.reduceLE, Int.reduceNeg, szl0, szl1, szl2, szl3, szl4, szl5, szl6, szl7, szl8, szl9, szl10, x_extend, x_append, x_borT, x_frz, x_idxO, List.getElem?_cons_zero, List.getElem?_cons_succ, x_notIn, x_isIn, rg_m1, rg_m2, rg_2, rg_3, rg_5, x_abs, x_int, x_rep2, Int.reduceAdd, Int.reduceSub, Int.reduceToNat, and_self, ram3, rbm3, ram2, rbm2, ram1, rbm1, ra0, rb0, ra1, rb1, ra2, rb2, ra3, rb3, ra4, rb4, ra5, rb5, ra6, rb6, ra7, rb7, ra8, rb8, ra9, rb9, ra10, rb10, ra11, rb11, ra12, rb12, ra13, rb13, ra20, rb20, ra24, rb24, hr]
end L2.Ev.K10
namespace L2.Ev.K10
open PySem PySem.Spec PyProof.Rows
inductive Vd : ST → Prop
  | none : Vd none
  | one (n : Int) : Vd (some (some n, some n, 0, n))
  | all {m r : Int} (hm : 0 < m) (h0 : 0 ≤ r) (h1 : r < m) : Vd (some (none, none, m, r))
  | lo {a m r : Int} (hm : 0 < m) (h0 : 0 ≤ r) (h1 : r < m) (ha : a % m = r) : Vd (some (some a, none, m, r))
  | hi {b m r : Int} (hm : 0 < m) (h0 : 0 ≤ r) (h1 : r < m) (hb : b % m = r) : Vd (some (none, some b, m, r))
  | both {a b m r : Int} (hm : 0 < m) (h0 : 0 ≤ r) (h1 : r < m) (ha : a % m = r) (hb : b % m = r) (hab : a < b) : Vd (some (some a, some b, m, r))
def Bs (k : Nat) : ST → Prop
  | none => True
  | some (l, h, m, r) => Sm k l ∧ Sm k h ∧ m.natAbs < 2 ^ k ∧ r.natAbs < 2 ^ k
def inB : ST → Int → Bool
  | none, _ => false
  | some (l, h, m, r), n => (match l with | none => true | some a => !decide (n < a)) && (match h with | none => true | some b => !decide (b < n)) && (if m = 0 then decide (n = r) else decide (n % m = r))
theorem eq_mod {m r n : Int} (hm : 0 < m) (h0 : 0 ≤ r) (h1 : r < m) : (n - r = m * ((n - r) / m)) ↔ n % m = r := by
  have e := Int.emod_def (n - r) m
  constructor
  · intro h
    have h2 : (n - r) % m = 0 := by omega
    rw [Int.emod_eq_emod_iff_emod_sub_eq_zero.2 h2, Int.emod_eq_of_lt h0 h1]
  · intro h
    have h2 : (n - r) % m = 0 := Int.emod_eq_emod_iff_emod_sub_eq_zero.1 (by rw [h, Int.emod_eq_of_lt h0 h1])
    omega
theorem v_in {s : ST} (hv : Vd s) (hb : Bs 900 s) {n : Int} (hn : n.natAbs < 2 ^ 900) (S : Strm) : F__law_strip_in [sD s, .int n] S = some (.bl (inB s n), S) := by
  cases hv with
  | none => simp only [F__law_strip_in, m__law_strip_in, sD, sL, x_def, startE, x_seq, x_nx, x_rt, x_bk, x_ct, x_bind, x_pure, x_c, x_nil, x_cons, x_tup, x_lst, x_op2, x_op1, x_tru, x_notT, x_ite, x_ifS, x_andT, x_orT, x_and, x_or, x_chain, x_bi, x_biF, x_call, x_perm, x_it, x_ret, x_drop, x_next, x_set, x_setF, x_asg, x_aug, x_for, x_comp, x_cat, x_dSub, x_dAdd, x_dAddI, x_dLt, x_dLe, x_dGt, x_dGe, x_dNeg, x_dNot, x_dTru, x_dEq, x_dNe, x_var0, x_varS, Option.bind_some, Option.map_some, List.map_cons, List.map_nil, List.length_cons, List.length_nil, List.replicate_succ, List.replicate_zero, List.cons_append, List.nil_append, List.set_cons_zero, List.set_cons_succ, Bool.not_true, Bool.not_false, Bool.false_eq_true, if_true, if_false, decide_true, decide_false, decide_eq_true_eq, dIsN, dNotN, dIdx, dItems, at_int, at0, at1, at2, at3, cut2, gN, gT, gCo, gNl, wipeE, x_for_nil, x_for_cons, x_turn_nx, x_turn_ct, x_turn_bk, x_turn_rt, x_comp_nil, x_comp_cons, sz2, sz4, i_lt_int, i_lt_bl, i_lt_non, i_lt_lst, i_lt_tup, i_i_int, i_i_bl, i_b_int, i_b_bl, i_b_non, i_b_lst, i_b_tup, i_l_int, i_l_bl, i_l_non, i_l_lst, i_l_tup, i_t_int, i_t_lst, i_t_tup, i_d_int, i_d_bl, i_d_non, i_d_lst, i_d_tup, i_ltd_int, i_ltd_bl, i_ltd_non, l_lst, l_tup, t_lst, t_tup, a_lst, b_nil, b_cons, cut_lst, cut_tup, x_dEqb, x_dNeb, x_dEqn, x_zip, x_range1, x_range2, Int.cast_ofNat_Int, Nat.zero_add, List.all_cons, List.all_nil, id, Bool.and_true, Bool.true_and, Bool.and_false, Bool.false_and, Bool.or_true, Bool.true_or, Bool.or_false, Bool.false_or, Nat.reduceAdd, Nat.reduceSub, Int.reduceEq, Int.reduceLT, Int.reduceLE, Int.reduceNeg, szl0, szl1, szl2, szl3, szl4, szl5, szl6, szl7, szl8, szl9, szl10, x_extend, x_append, x_borT, x_frz, x_idxO, List.getElem?_cons_zero, List.getElem?_cons_succ, x_notIn, x_isIn, rg_m1, rg_m2, rg_2, rg_3, rg_5, x_abs, x_int, x_rep2, Int.reduceAdd, Int.reduceSub, Int.reduceToNat, and_self, ram3, rbm3, ram2, rbm2, ram1, rbm1, ra0, rb0, ra1, rb1, ra2, rb2, ra3, rb3, ra4, rb4, ra5, rb5, ra6, rb6, ra7, rb7, ra8, rb8, ra9, rb9, ra10, rb10, ra11, rb11, ra12, rb12, ra13, rb13, ra20, rb20, ra24, rb24, inB]
  | one r =>
    simp only [F__law_strip_in, m__law_strip_in, sD, sL, qD, oD, x_def, startE, x_seq, x_nx, x_rt, x_bk, x_ct, x_bind, x_pure, x_c, x_nil, x_cons, x_tup, x_lst, x_op2, x_op1, x_tru, x_notT, x_ite, x_ifS, x_andT, x_orT, x_and, x_or, x_chain, x_bi, x_biF, x_call, x_perm, x_it, x_ret, x_drop, x_next, x_set, x_setF, x_asg, x_aug, x_for, x_comp, x_cat, x_dSub, x_dAdd, x_dAddI, x_dLt, x_dLe, x_dGt, x_dGe, x_dNeg, x_dNot, x_dTru, x_dEq, x_dNe, x_var0, x_varS, Option.bind_some, Option.map_some, List.map_cons, List.map_nil, List.length_cons, List.length_nil, List.replicate_succ, List.replicate_zero, List.cons_append, List.nil_append, List.set_cons_zero, List.set_cons_succ, Bool.not_true, Bool.not_false, Bool.false_eq_true, if_true, if_false, decide_true, decide_false, decide_eq_true_eq, dIsN, dNotN, dIdx, dItems, at_int, at0, at1, at2, at3, cut2, gN, gT, gCo, gNl, wipeE, x_for_nil, x_for_cons, x_turn_nx, x_turn_ct, x_turn_bk, x_turn_rt, x_comp_nil, x_comp_cons, sz2, sz4, i_lt_int, i_lt_bl, i_lt_non, i_lt_lst, i_lt_tup, i_i_int, i_i_bl, i_b_int, i_b_bl, i_b_non, i_b_lst, i_b_tup, i_l_int, i_l_bl, i_l_non, i_l_lst, i_l_tup, i_t_int, i_t_lst, i_t_tup, i_d_int, i_d_bl, i_d_non, i_d_lst, i_d_tup, i_ltd_int, i_ltd_bl, i_ltd_non, l_lst, l_tup, t_lst, t_tup, a_lst, b_nil, b_cons, cut_lst, cut_tup, x_dEqb, x_dNeb, x_dEqn, x_zip, x_range1, x_range2, Int.cast_ofNat_Int, Nat.zero_add, List.all_cons, List.all_nil, id, Bool.and_true, Bool.true_and, Bool.and_false, Bool.false_and, Bool.or_true, Bool.true_or, Bool.or_false, Bool.false_or, Nat.reduceAdd, Nat.reduceSub, Int.reduceEq, Int.reduceLT, Int.reduceLE, Int.reduceNeg, szl0, szl1, szl2, szl3, szl4, szl5, szl6, szl7, szl8, szl9, szl10, x_extend, x_append, x_borT, x_frz, x_idxO, List.getElem?_cons_zero, List.getElem?_cons_succ, x_notIn, x_isIn, rg_m1, rg_m2, rg_2, rg_3, rg_5, x_abs, x_int, x_rep2, Int.reduceAdd, Int.reduceSub, Int.reduceToNat, and_self, ram3, rbm3, ram2, rbm2, ram1, rbm1, ra0, rb0, ra1, rb1, ra2, rb2, ra3, rb3, ra4, rb4, ra5, rb5, ra6, rb6, ra7, rb7, ra8, rb8, ra9, rb9, ra10, rb10, ra11, rb11, ra12, rb12, ra13, rb13, ra20, rb20, ra24, rb24]
    by_cases h1 : n < r <;> by_cases h2 : r < n <;> simp [x_def, startE, x_seq, x_nx, x_rt, x_bk, x_ct, x_bind, x_pure, x_c, x_nil, x_cons, x_tup, x_lst, x_op2, x_op1, x_tru, x_notT, x_ite, x_ifS, x_andT, x_orT, x_and, x_or, x_chain, x_bi, x_biF, x_call, x_perm, x_it, x_ret, x_drop, x_next, x_set, x_setF, x_asg, x_aug, x_for, x_comp, x_cat, x_dSub, x_dAdd, x_dAddI, x_dLt, x_dLe, x_dGt, x_dGe, x_dNeg, x_dNot, x_dTru, x_dEq, x_dNe, x_var0, x_varS, Option.bind_some, Option.map_some, List.map_cons, List.map_nil, List.length_cons, List.length_nil, List.replicate_succ, List.replicate_zero, List.cons_append, List.nil_append, List.set_cons_zero, List.set_cons_succ, Bool.not_true, Bool.not_false, Bool.false_eq_true, if_true, if_false, decide_true, decide_false, decide_eq_true_eq, dIsN, dNotN, dIdx, dItems, at_int, at0, at1, at2, at3, cut2, gN, gT, gCo, gNl, wipeE, x_for_nil, x_for_cons, x_turn_nx, x_turn_ct, x_turn_bk, x_turn_rt, x_comp_nil, x_comp_cons, sz2, sz4, i_lt_int, i_lt_bl, i_lt_non, i_lt_lst, i_lt_tup, i_i_int, i_i_bl, i_b_int, i_b_bl, i_b_non, i_b_lst, i_b_tup, i_l_int, i_l_bl, i_l_non, i_l_lst, i_l_tup, i_t_int, i_t_lst, i_t_tup, i_d_int, i_d_bl, i_d_non, i_d_lst, i_d_tup, i_ltd_int, i_ltd_bl, i_ltd_non, l_lst, l_tup, t_lst, t_tup, a_lst, b_nil, b_cons, cut_lst, cut_tup, x_dEqb, x_dNeb, x_dEqn, x_zip, x_range1, x_range2, Int.cast_ofNat_Int, Nat.zero_add, List.all_cons, List.all_nil, id, Bool.and_true, Bool.true_and, Bool.and_false, Bool.false_and, Bool.or_true, Bool.true_or, Bool.or_false, Bool.false_or, Nat.reduceAdd, Nat.reduceSub, Int.reduceEq, Int.reduceLT, Int.reduceLE, Int.reduceNeg, szl0, szl1, szl2, szl3, szl4, szl5, szl6, szl7, szl8, szl9, szl10, x_extend, x_append, x_borT, x_frz, x_idxO, List.getElem?_cons_zero, List.getElem?_cons_succ, x_notIn, x_isIn, rg_m1, rg_m2, rg_2, rg_3, rg_5, x_abs, x_int, x_rep2, Int.reduceAdd, Int.reduceSub, Int.reduceToNat, and_self, ram3, rbm3, ram2, rbm2, ram1, rbm1, ra0, rb0, ra1, rb1, ra2, rb2, ra3, rb3, ra4, rb4, ra5, rb5, ra6, rb6, ra7, rb7, ra8, rb8, ra9, rb9, ra10, rb10, ra11, rb11, ra12, rb12, ra13, rb13, ra20, rb20, ra24, rb24, h1, h2, inB]
  | @all m r hm h0 h1 =>
    have hz : ¬ m = 0 := by omega
    have e1 := div_ok (i := n - r) hm (Nat.lt_of_lt_of_le hb.2.2.1 (by decide))
    have e2 := mul_ok (i := n - r) hm (Nat.lt_of_lt_of_le hb.2.2.1 (by decide)) (by have := hb.2.2.2; omega)
    simp only [F__law_strip_in, m__law_strip_in, sD, sL, qD, oD, x_def, startE, x_seq, x_nx, x_rt, x_bk, x_ct, x_bind, x_pure, x_c, x_nil, x_cons, x_tup, x_lst, x_op2, x_op1, x_tru, x_notT, x_ite, x_ifS, x_andT, x_orT, x_and, x_or, x_chain, x_bi, x_biF, x_call, x_perm, x_it, x_ret, x_drop, x_next, x_set, x_setF, x_asg, x_aug, x_for, x_comp, x_cat, x_dSub, x_dAdd, x_dAddI, x_dLt, x_dLe, x_dGt, x_dGe, x_dNeg, x_dNot, x_dTru, x_dEq, x_dNe, x_var0, x_varS, Option.bind_some, Option.map_some, List.map_cons, List.map_nil, List.length_cons, List.length_nil, List.replicate_succ, List.replicate_zero, List.cons_append, List.nil_append, List.set_cons_zero, List.set_cons_succ, Bool.not_true, Bool.not_false, Bool.false_eq_true, if_true, if_false, decide_true, decide_false, decide_eq_true_eq, dIsN, dNotN, dIdx, dItems, at_int, at0, at1, at2, at3, cut2, gN, gT, gCo, gNl, wipeE, x_for_nil, x_for_cons, x_turn_nx, x_turn_ct, x_turn_bk, x_turn_rt, x_comp_nil, x_comp_cons, sz2, sz4, i_lt_int, i_lt_bl, i_lt_non, i_lt_lst, i_lt_tup, i_i_int, i_i_bl, i_b_int, i_b_bl, i_b_non, i_b_lst, i_b_tup, i_l_int, i_l_bl, i_l_non, i_l_lst, i_l_tup, i_t_int, i_t_lst, i_t_tup, i_d_int, i_d_bl, i_d_non, i_d_lst, i_d_tup, i_ltd_int, i_ltd_bl, i_ltd_non, l_lst, l_tup, t_lst, t_tup, a_lst, b_nil, b_cons, cut_lst, cut_tup, x_dEqb, x_dNeb, x_dEqn, x_zip, x_range1, x_range2, Int.cast_ofNat_Int, Nat.zero_add, List.all_cons, List.all_nil, id, Bool.and_true, Bool.true_and, Bool.and_false, Bool.false_and, Bool.or_true, Bool.true_or, Bool.or_false, Bool.false_or, Nat.reduceAdd, Nat.reduceSub, Int.reduceEq, Int.reduceLT, Int.reduceLE, Int.reduceNeg, szl0, szl1, szl2, szl3, szl4, szl5, szl6, szl7, szl8, szl9, szl10, x_extend, x_append, x_borT, x_frz, x_idxO, List.getElem?_cons_zero, List.getElem?_cons_succ, x_notIn, x_isIn, rg_m1, rg_m2, rg_2, rg_3, rg_5, x_abs, x_int, x_rep2, Int.reduceAdd, Int.reduceSub, Int.reduceToNat, and_self, ram3, rbm3, ram2, rbm2, ram1, rbm1, ra0, rb0, ra1, rb1, ra2, rb2, ra3, rb3, ra4, rb4, ra5, rb5, ra6, rb6, ra7, rb7, ra8, rb8, ra9, rb9, ra10, rb10, ra11, rb11, ra12, rb12, ra13, rb13, ra20, rb20, ra24, rb24, hz, e1, e2, eq_mod hm h0 h1, inB]
  | @lo a m r hm h0 h1 ha =>
    have hz : ¬ m = 0 := by omega
    have e1 := div_ok (i := n - r) hm (Nat.lt_of_lt_of_le hb.2.2.1 (by decide))
    have e2 := mul_ok (i := n - r) hm (Nat.lt_of_lt_of_le hb.2.2.1 (by decide)) (by have := hb.2.2.2; omega)
    simp only [F__law_strip_in, m__law_strip_in, sD, sL, qD, oD, x_def, startE, x_seq, x_nx, x_rt, x_bk, x_ct, x_bind, x_pure, x_c, x_nil, x_cons, x_tup, x_lst, x_op2, x_op1, x_tru, x_notT, x_ite, x_ifS, x_andT, x_orT, x_and, x_or, x_chain, x_bi, x_biF, x_call, x_perm, x_it, x_ret, x_drop, x_next, x_set, x_setF, x_asg, x_aug, x_for, x_comp, x_cat, x_dSub, x_dAdd, x_dAddI, x_dLt, x_dLe, x_dGt, x_dGe, x_dNeg, x_dNot, x_dTru, x_dEq, x_dNe, x_var0, x_varS, Option.bind_some, Option.map_some, List.map_cons, List.map_nil, List.length_cons, List.length_nil, List.replicate_succ, List.replicate_zero, List.cons_append, List.nil_append, List.set_cons_zero, List.set_cons_succ, Bool.not_true, Bool.not_false, Bool.false_eq_true, if_true, if_false, decide_true, decide_false, decide_eq_true_eq, dIsN, dNotN, dIdx, dItems, at_int, at0, at1, at2, at3, cut2, gN, gT, gCo, gNl, wipeE, x_for_nil, x_for_cons, x_turn_nx, x_turn_ct, x_turn_bk, x_turn_rt, x_comp_nil, x_comp_cons, sz2, sz4, i_lt_int, i_lt_bl, i_lt_non, i_lt_lst, i_lt_tup, i_i_int, i_i_bl, i_b_int, i_b_bl, i_b_non, i_b_lst, i_b_tup, i_l_int, i_l_bl, i_l_non, i_l_lst, i_l_tup, i_t_int, i_t_lst, i_t_tup, i_d_int, i_d_bl, i_d_non, i_d_lst, i_d_tup, i_ltd_int, i_ltd_bl, i_ltd_non, l_lst, l_tup, t_lst, t_tup, a_lst, b_nil, b_cons, cut_lst, cut_tup, x_dEqb, x_dNeb, x_dEqn, x_zip, x_range1, x_range2, Int.cast_ofNat_Int, Nat.zero_add, List.all_cons, List.all_nil, id, Bool.and_true, Bool.true_and, Bool.and_false, Bool.false_and, Bool.or_true, Bool.true_or, Bool.or_false, Bool.false_or, Nat.reduceAdd, Nat.reduceSub, Int.reduceEq, Int.reduceLT, Int.reduceLE, Int.reduceNeg, szl0, szl1, szl2, szl3, szl4, szl5, szl6, szl7, szl8, szl9, szl10, x_extend, x_append, x_borT, x_frz, x_idxO, List.getElem?_cons_zero, List.getElem?_cons_succ, x_notIn, x_isIn, rg_m1, rg_m2, rg_2, rg_3, rg_5, x_abs, x_int, x_rep2, Int.reduceAdd, Int.reduceSub, Int.reduceToNat, and_self, ram3, rbm3, ram2, rbm2, ram1, rbm1, ra0, rb0, ra1, rb1, ra2, rb2, ra3, rb3, ra4, rb4, ra5, rb5, ra6, rb6, ra7, rb7, ra8, rb8, ra9, rb9, ra10, rb10, ra11, rb11, ra12, rb12, ra13, rb13, ra20, rb20, ra24, rb24, hz, inB]
    by_cases k1 : n < a <;> simp [x_def, startE, x_seq, x_nx, x_rt, x_bk, x_ct, x_bind, x_pure, x_c, x_nil, x_cons, x_tup, x_lst, x_op2, x_op1, x_tru, x_notT, x_ite, x_ifS, x_andT, x_orT, x_and, x_or, x_chain, x_bi, x_biF, x_call, x_perm, x_it, x_ret, x_drop, x_next, x_set, x_setF, x_asg, x_aug, x_for, x_comp, x_cat, x_dSub, x_dAdd, x_dAddI, x_dLt, x_dLe, x_dGt, x_dGe, x_dNeg, x_dNot, x_dTru, x_dEq, x_dNe, x_var0, x_varS, Option.bind_some, Option.map_some, List.map_cons, List.map_nil, List.length_cons, List.length_nil, List.replicate_succ, List.replicate_zero, List.cons_append, List.nil_append, List.set_cons_zero, List.set_cons_succ, Bool.not_true, Bool.not_false, Bool.false_eq_true, if_true, if_false, decide_true, decide_false, decide_eq_true_eq, dIsN, dNotN, dIdx, dItems, at_int, at0, at1, at2, at3, cut2, gN, gT, gCo, gNl, wipeE, x_for_nil, x_for_cons, x_turn_nx, x_turn_ct, x_turn_bk, x_turn_rt, x_comp_nil, x_comp_cons, sz2, sz4, i_lt_int, i_lt_bl, i_lt_non, i_lt_lst, i_lt_tup, i_i_int, i_i_bl, i_b_int, i_b_bl, i_b_non, i_b_lst, i_b_tup, i_l_int, i_l_bl, i_l_non, i_l_lst, i_l_tup, i_t_int, i_t_lst, i_t_tup, i_d_int, i_d_bl, i_d_non, i_d_lst, i_d_tup, i_ltd_int, i_ltd_bl, i_ltd_non, l_lst, l_tup, t_lst, t_tup, a_lst, b_nil, b_cons, cut_lst, cut_tup, x_dEqb, x_dNeb, x_dEqn, x_zip, x_range1, x_range2, Int.cast_ofNat_Int, Nat.zero_add, List.all_cons, List.all_nil, id, Bool.and_true, Bool.true_and, Bool.and_false, Bool.false_and, Bool.or_true, Bool.true_or, Bool.or_false, Bool.false_or, Nat.reduceAdd, Nat.reduceSub, Int.reduceEq, Int.reduceLT, Int.reduceLE, Int.reduceNeg, szl0, szl1, szl2, szl3, szl4, szl5, szl6, szl7, szl8, szl9, szl10, x_extend, x_append, x_borT, x_frz, x_idxO, List.getElem?_cons_zero, List.getElem?_cons_succ, x_notIn, x_isIn, rg_m1, rg_m2, rg_2, rg_3, rg_5, x_abs, x_int, x_rep2, Int.reduceAdd, Int.reduceSub, Int.reduceToNat, and_self, ram3, rbm3, ram2, rbm2, ram1, rbm1, ra0, rb0, ra1, rb1, ra2, rb2, ra3, rb3, ra4, rb4, ra5, rb5, ra6, rb6, ra7, rb7, ra8, rb8, ra9, rb9, ra10, rb10, ra11, rb11, ra12, rb12, ra13, rb13, ra20, rb20, ra24, rb24, k1, hz, e1, e2, eq_mod hm h0 h1]
  | @hi a m r hm h0 h1 ha =>
    have hz : ¬ m = 0 := by omega
    have e1 := div_ok (i := n - r) hm (Nat.lt_of_lt_of_le hb.2.2.1 (by decide))
    have e2 := mul_ok (i := n - r) hm (Nat.lt_of_lt_of_le hb.2.2.1 (by decide)) (by have := hb.2.2.2; omega)
    simp only [F__law_strip_in, m__law_strip_in, sD, sL, qD, oD, x_def, startE, x_seq, x_nx, x_rt, x_bk, x_ct, x_bind, x_pure, x_c, x_nil, x_cons, x_tup, x_lst, x_op2, x_op1, x_tru, x_notT, x_ite, x_ifS, x_andT, x_orT, x_and, x_or, x_chain, x_bi, x_biF, x_call, x_perm, x_it, x_ret, x_drop, x_next, x_set, x_setF, x_asg, x_aug, x_for, x_comp, x_cat, x_dSub, x_dAdd, x_dAddI, x_dLt, x_dLe, x_dGt, x_dGe, x_dNeg, x_dNot, x_dTru, x_dEq, x_dNe, x_var0, x_varS, Option.bind_some, Option.map_some, List.map_cons, List.map_nil, List.length_cons, List.length_nil, List.replicate_succ, List.replicate_zero, List.cons_append, List.nil_append, List.set_cons_zero, List.set_cons_succ, Bool.not_true, Bool.not_false, Bool.false_eq_true, if_true, if_false, decide_true, decide_false, decide_eq_true_eq, dIsN, dNotN, dIdx, dItems, at_int, at0, at1, at2, at3, cut2, gN, gT, gCo, gNl, wipeE, x_for_nil, x_for_cons, x_turn_nx, x_turn_ct, x_turn_bk, x_turn_rt, x_comp_nil, x_comp_cons, sz2, sz4, i_lt_int, i_lt_bl, i_lt_non, i_lt_lst, i_lt_tup, i_i_int, i_i_bl, i_b_int, i_b_bl, i_b_non, i_b_lst, i_b_tup, i_l_int, i_l_bl, i_l_non, i_l_lst, i_l_tup, i_t_int, i_t_lst, i_t_tup, i_d_int, i_d_bl, i_d_non, i_d_lst, i_d_tup, i_ltd_int, i_ltd_bl, i_ltd_non, l_lst, l_tup, t_lst, t_tup, a_lst, b_nil, b_cons, cut_lst, cut_tup, x_dEqb, x_dNeb, x_dEqn, x_zip, x_range1, x_range2, Int.cast_ofNat_Int, Nat.zero_add, List.all_cons, List.all_nil, id, Bool.and_true, Bool.true_and, Bool.and_false, Bool.false_and, Bool.or_true, Bool.true_or, Bool.or_false, Bool.false_or, Nat.reduceAdd, Nat.reduceSub, Int.reduceEq, Int.reduceLT, Int.reduceLE, Int.reduceNeg, szl0, szl1, szl2, szl3, szl4, szl5, szl6, szl7, szl8, szl9, szl10, x_extend, x_append, x_borT, x_frz, x_idxO, List.getElem?_cons_zero, List.getElem?_cons_succ, x_notIn, x_isIn, rg_m1, rg_m2, rg_2, rg_3, rg_5, x_abs, x_int, x_rep2, Int.reduceAdd, Int.reduceSub, Int.reduceToNat, and_self, ram3, rbm3, ram2, rbm2, ram1, rbm1, ra0, rb0, ra1, rb1, ra2, rb2, ra3, rb3, ra4, rb4, ra5, rb5, ra6, rb6, ra7, rb7, ra8, rb8, ra9, rb9, ra10, rb10, ra11, rb11, ra12, rb12, ra13, rb13, ra20, rb20, ra24, rb24, hz, inB]
    by_cases k1 : a < n <;> simp [x_def, startE, x_seq, x_nx, x_rt, x_bk, x_ct, x_bind, x_pure, x_c, x_nil, x_cons, x_tup, x_lst, x_op2, x_op1, x_tru, x_notT, x_ite, x_ifS, x_andT, x_orT, x_and, x_or, x_chain, x_bi, x_biF, x_call, x_perm, x_it, x_ret, x_drop, x_next, x_set, x_setF, x_asg, x_aug, x_for, x_comp, x_cat, x_dSub, x_dAdd, x_dAddI, x_dLt, x_dLe, x_dGt, x_dGe, x_dNeg, x_dNot, x_dTru, x_dEq, x_dNe, x_var0, x_varS, Option.bind_some, Option.map_some, List.map_cons, List.map_nil, List.length_cons, List.length_nil, List.replicate_succ, List.replicate_zero, List.cons_append, List.nil_append, List.set_cons_zero, List.set_cons_succ, Bool.not_true, Bool.not_false, Bool.false_eq_true, if_true, if_false, decide_true, decide_false, decide_eq_true_eq, dIsN, dNotN, dIdx, dItems, at_int, at0, at1, at2, at3, cut2, gN, gT, gCo, gNl, wipeE, x_for_nil, x_for_cons, x_turn_nx, x_turn_ct, x_turn_bk, x_turn_rt, x_comp_nil, x_comp_cons, sz2, sz4, i_lt_int, i_lt_bl, i_lt_non, i_lt_lst, i_lt_tup, i_i_int, i_i_bl, i_b_int, i_b_bl, i_b_non, i_b_lst, i_b_tup, i_l_int, i_l_bl, i_l_non, i_l_lst, i_l_tup, i_t_int, i_t_lst, i_t_tup, i_d_int, i_d_bl, i_d_non, i_d_lst, i_d_tup, i_ltd_int, i_ltd_bl, i_ltd_non, l_lst, l_tup, t_lst, t_tup, a_lst, b_nil, b_cons, cut_lst, cut_tup, x_dEqb, x_dNeb, x_dEqn, x_zip, x_range1, x_range2, Int.cast_ofNat_Int, Nat.zero_add, List.all_cons, List.all_nil, id, Bool.and_true, Bool.true_and, Bool.and_false, Bool.false_and, Bool.or_true, Bool.true_or, Bool.or_false, Bool.false_or, Nat.reduceAdd, Nat.reduceSub, Int.reduceEq, Int.reduceLT, Int.reduceLE, Int.reduceNeg, szl0, szl1, szl2, szl3, szl4, szl5, szl6, szl7, szl8, szl9, szl10, x_extend, x_append, x_borT, x_frz, x_idxO, List.getElem?_cons_zero, List.getElem?_cons_succ, x_notIn, x_isIn, rg_m1, rg_m2, rg_2, rg_3, rg_5, x_abs, x_int, x_rep2, Int.reduceAdd, Int.reduceSub, Int.reduceToNat, and_self, ram3, rbm3, ram2, rbm2, ram1, rbm1, ra0, rb0, ra1, rb1, ra2, rb2, ra3, rb3, ra4, rb4, ra5, rb5, ra6, rb6, ra7, rb7, ra8, rb8, ra9, rb9, ra10, rb10, ra11, rb11, ra12, rb12, ra13, rb13, ra20, rb20, ra24, rb24, k1, hz, e1, e2, eq_mod hm h0 h1]
  | @both a b m r hm h0 h1 ha hb' hab =>
    have hz : ¬ m = 0 := by omega
    have e1 := div_ok (i := n - r) hm (Nat.lt_of_lt_of_le hb.2.2.1 (by decide))
    have e2 := mul_ok (i := n - r) hm (Nat.lt_of_lt_of_le hb.2.2.1 (by decide)) (by have := hb.2.2.2; omega)
    simp only [F__law_strip_in, m__law_strip_in, sD, sL, qD, oD, x_def, startE, x_seq, x_nx, x_rt, x_bk, x_ct, x_bind, x_pure, x_c, x_nil, x_cons, x_tup, x_lst, x_op2, x_op1, x_tru, x_notT, x_ite, x_ifS, x_andT, x_orT, x_and, x_or, x_chain, x_bi, x_biF, x_call, x_perm, x_it, x_ret, x_drop, x_next, x_set, x_setF, x_asg, x_aug, x_for, x_comp, x_cat, x_dSub, x_dAdd, x_dAddI, x_dLt, x_dLe, x_dGt, x_dGe, x_dNeg, x_dNot, x_dTru, x_dEq, x_dNe, x_var0, x_varS, Option.bind_some, Option.map_some, List.map_cons, List.map_nil, List.length_cons, List.length_nil, List.replicate_succ, List.replicate_zero, List.cons_append, List.nil_append, List.set_cons_zero, List.set_cons_succ, Bool.not_true, Bool.not_false, Bool.false_eq_true, if_true, if_false, decide_true, decide_false, decide_eq_true_eq, dIsN, dNotN, dIdx, dItems, at_int, at0, at1, at2, at3, cut2, gN, gT, gCo, gNl, wipeE, x_for_nil, x_for_cons, x_turn_nx, x_turn_ct, x_turn_bk, x_turn_rt, x_comp_nil, x_comp_cons, sz2, sz4, i_lt_int, i_lt_bl, i_lt_non, i_lt_lst, i_lt_tup, i_i_int, i_i_bl, i_b_int, i_b_bl, i_b_non, i_b_lst, i_b_tup, i_l_int, i_l_bl, i_l_non, i_l_lst, i_l_tup, i_t_int, i_t_lst, i_t_tup, i_d_int, i_d_bl, i_d_non, i_d_lst, i_d_tup, i_ltd_int, i_ltd_bl, i_ltd_non, l_lst, l_tup, t_lst, t_tup, a_lst, b_nil, b_cons, cut_lst, cut_tup, x_dEqb, x_dNeb, x_dEqn, x_zip, x_range1, x_range2, Int.cast_ofNat_Int, Nat.zero_add, List.all_cons, List.all_nil, id, Bool.and_true, Bool.true_and, Bool.and_false, Bool.false_and, Bool.or_true, Bool.true_or, Bool.or_false, Bool.false_or, Nat.reduceAdd, Nat.reduceSub, Int.reduceEq, Int.reduceLT, Int.reduceLE, Int.reduceNeg, szl0, szl1, szl2, szl3, szl4, szl5, szl6, szl7, szl8, szl9, szl10, x_extend, x_append, x_borT, x_frz, x_idxO, List.getElem?_cons_zero, List.getElem?_cons_succ, x_notIn, x_isIn, rg_m1, rg_m2, rg_2, rg_3, rg_5, x_abs, x_int, x_rep2, Int.reduceAdd, Int.reduceSub, Int.reduceToNat, and_self, ram3, rbm3, ram2, rbm2, ram1, rbm1, ra0, rb0, ra1, rb1, ra2, rb2, ra3, rb3, ra4, rb4, ra5, rb5, ra6, rb6, ra7, rb7, ra8, rb8, ra9, rb9, ra10, rb10, ra11, rb11, ra12, rb12, ra13, rb13, ra20, rb20, ra24, rb24, hz, inB]
    by_cases k1 : n < a <;> by_cases k2 : b < n <;> simp [x_def, startE, x_seq, x_nx, x_rt, x_bk, x_ct, x_bind, x_pure, x_c, x_nil, x_cons, x_tup, x_lst, x_op2, x_op1, x_tru, x_notT, x_ite, x_ifS, x_andT, x_orT, x_and, x_or, x_chain, x_bi, x_biF, x_call, x_perm, x_it, x_ret, x_drop, x_next, x_set, x_setF, x_asg, x_aug, x_for, x_comp, x_cat, x_dSub, x_dAdd, x_dAddI, x_dLt, x_dLe, x_dGt, x_dGe, x_dNeg, x_dNot, x_dTru, x_dEq, x_dNe, x_var0, x_varS, Option.bind_some, Option.map_some, List.map_cons, List.map_nil, List.length_cons, List.length_nil, List.replicate_succ, List.replicate_zero, List.cons_append, List.nil_append, List.set_cons_zero, List.set_cons_succ, Bool.not_true, Bool.not_false, Bool.false_eq_true, if_true, if_false, decide_true, decide_false, decide_eq_true_eq, dIsN, dNotN, dIdx, dItems, at_int, at0, at1, at2, at3, cut2, gN, gT, gCo, gNl, wipeE, x_for_nil, x_for_cons, x_turn_nx, x_turn_ct, x_turn_bk, x_turn_rt, x_comp_nil, x_comp_cons, sz2, sz4, i_lt_int, i_lt_bl, i_lt_non, i_lt_lst, i_lt_tup, i_i_int, i_i_bl, i_b_int, i_b_bl, i_b_non, i_b_lst, i_b_tup, i_l_int, i_l_bl, i_l_non, i_l_lst, i_l_tup, i_t_int, i_t_lst, i_t_tup, i_d_int, i_d_bl, i_d_non, i_d_lst, i_d_tup, i_ltd_int, i_ltd_bl, i_ltd_non, l_lst, l_tup, t_lst, t_tup, a_lst, b_nil, b_cons, cut_lst, cut_tup, x_dEqb, x_dNeb, x_dEqn, x_zip, x_range1, x_range2, Int.cast_ofNat_Int, Nat.zero_add, List.all_cons, List.all_nil, id, Bool.and_true, Bool.true_and, Bool.and_false, Bool.false_and, Bool.or_true, Bool.true_or, Bool.or_false, Bool.false_or, Nat.reduceAdd, Nat.reduceSub, Int.reduceEq, Int.reduceLT, Int.reduceLE, Int.reduceNeg, szl0, szl1, szl2, szl3, szl4, szl5, szl6, szl7, szl8, szl9, szl10, x_extend, x_append, x_borT, x_frz, x_idxO, List.getElem?_cons_zero, List.getElem?_cons_succ, x_notIn, x_isIn, rg_m1, rg_m2, rg_2, rg_3, rg_5, x_abs, x_int, x_rep2, Int.reduceAdd, Int.reduceSub, Int.reduceToNat, and_self, ram3, rbm3, ram2, rbm2, ram1, rbm1, ra0, rb0, ra1, rb1, ra2, rb2, ra3, rb3, ra4, rb4, ra5, rb5, ra6, rb6, ra7, rb7, ra8, rb8, ra9, rb9, ra10, rb10, ra11, rb11, ra12, rb12, ra13, rb13, ra20, rb20, ra24, rb24, k1, k2, hz, e1, e2, eq_mod hm h0 h1]
theorem v_rest_has0 (r n : Int) (S : Strm) : F_rest_has [.tup [.int 0, .int r], .int n] S = some (.bl (decide (n = r)), S) := by
  simp only [F_rest_has, m_rest_has, F_rest_of, m_rest_of, x_def, startE, x_seq, x_nx, x_rt, x_bk, x_ct, x_bind, x_pure, x_c, x_nil, x_cons, x_tup, x_lst, x_op2, x_op1, x_tru, x_notT, x_ite, x_ifS, x_andT, x_orT, x_and, x_or, x_chain, x_bi, x_biF, x_call, x_perm, x_it, x_ret, x_drop, x_next, x_set, x_setF, x_asg, x_aug, x_for, x_comp, x_cat, x_dSub, x_dAdd, x_dAddI, x_dLt, x_dLe, x_dGt, x_dGe, x_dNeg, x_dNot, x_dTru, x_dEq, x_dNe, x_var0, x_varS, Option.bind_some, Option.map_some, List.map_cons, List.map_nil, List.length_cons, List.length_nil, List.replicate_succ, List.replicate_zero, List.cons_append, List.nil_append, List.set_cons_zero, List.set_cons_succ, Bool.not_true, Bool.not_false, Bool.false_eq_true, if_true, if_false, decide_true, decide_false, decide_eq_true_eq, dIsN, dNotN, dIdx, dItems, at_int, at0, at1, at2, at3, cut2, gN, gT, gCo, gNl, wipeE, x_for_nil, x_for_cons, x_turn_nx, x_turn_ct, x_turn_bk, x_turn_rt, x_comp_nil, x_comp_cons, sz2, sz4, i_lt_int, i_lt_bl, i_lt_non, i_lt_lst, i_lt_tup, i_i_int, i_i_bl, i_b_int, i_b_bl, i_b_non, i_b_lst, i_b_tup, i_l_int, i_l_bl, i_l_non, i_l_lst, i_l_tup, i_t_int, i_t_lst, i_t_tup, i_d_int, i_d_bl, i_d_non, i_d_lst, i_d_tup, i_ltd_int, i_ltd_bl, i_ltd_non, l_lst, l_tup, t_lst, t_tup, a_lst, b_nil, b_cons, cut_lst, cut_tup, x_dEqb, x_dNeb, x_dEqn, x_zip, x_range1, x_range2, Int.cast_ofNat_Int, Nat.zero_add, List.all_cons, List.all_nil, id, Bool.and_true, Bool.true_and, Bool.and_false, Bool.false_and, Bool.or_true, Bool.true_or, Bool.or_false, Bool.false_or, Nat.reduceAdd, Nat.reduceSub, Int.reduceEq, Int.reduceLT, Int.reduceLE, Int.reduceNeg, szl0, szl1, szl2, szl3, szl4, szl5, szl6, szl7, szl8, szl9, szl10, x_extend, x_append, x_borT, x_frz, x_idxO, List.getElem?_cons_zero, List.getElem?_cons_succ, x_notIn, x_isIn, rg_m1, rg_m2, rg_2, rg_3, rg_5, x_abs, x_int, x_rep2, Int.reduceAdd, Int.reduceSub, Int.reduceToNat, and_self, ram3, rbm3, ram2, rbm2, ram1, rbm1, ra0, rb0, ra1, rb1, ra2, rb2, ra3, rb3, ra4, rb4, ra5, rb5, ra6, rb6, ra7, rb7, ra8, rb8, ra9, rb9, ra10, rb10, ra11, rb11, ra12, rb12, ra13, rb13, ra20, rb20, ra24, rb24, x_dEq_pair]
theorem v_rest_has {m : Int} (hm : 0 < m) (r n : Int) (S : Strm) : F_rest_has [.tup [.int m, .int r], .int n] S = some (.bl (decide (n % m = r)), S) := by
  have hz : ¬ m = 0 := by omega
  simp only [F_rest_has, m_rest_has, F_rest_of, m_rest_of, x_def, startE, x_seq, x_nx, x_rt, x_bk, x_ct, x_bind, x_pure, x_c, x_nil, x_cons, x_tup, x_lst, x_op2, x_op1, x_tru, x_notT, x_ite, x_ifS, x_andT, x_orT, x_and, x_or, x_chain, x_bi, x_biF, x_call, x_perm, x_it, x_ret, x_drop, x_next, x_set, x_setF, x_asg, x_aug, x_for, x_comp, x_cat, x_dSub, x_dAdd, x_dAddI, x_dLt, x_dLe, x_dGt, x_dGe, x_dNeg, x_dNot, x_dTru, x_dEq, x_dNe, x_var0, x_varS, Option.bind_some, Option.map_some, List.map_cons, List.map_nil, List.length_cons, List.length_nil, List.replicate_succ, List.replicate_zero, List.cons_append, List.nil_append, List.set_cons_zero, List.set_cons_succ, Bool.not_true, Bool.not_false, Bool.false_eq_true, if_true, if_false, decide_true, decide_false, decide_eq_true_eq, dIsN, dNotN, dIdx, dItems, at_int, at0, at1, at2, at3, cut2, gN, gT, gCo, gNl, wipeE, x_for_nil, x_for_cons, x_turn_nx, x_turn_ct, x_turn_bk, x_turn_rt, x_comp_nil, x_comp_cons, sz2, sz4, i_lt_int, i_lt_bl, i_lt_non, i_lt_lst, i_lt_tup, i_i_int, i_i_bl, i_b_int, i_b_bl, i_b_non, i_b_lst, i_b_tup, i_l_int, i_l_bl, i_l_non, i_l_lst, i_l_tup, i_t_int, i_t_lst, i_t_tup, i_d_int, i_d_bl, i_d_non, i_d_lst, i_d_tup, i_ltd_int, i_ltd_bl, i_ltd_non, l_lst, l_tup, t_lst, t_tup, a_lst, b_nil, b_cons, cut_lst, cut_tup, x_dEqb, x_dNeb, x_dEqn, x_zip, x_range1, x_range2, Int.cast_ofNat_Int, Nat.zero_add, List.all_cons, List.all_nil, id, Bool.and_true, Bool.true_and, Bool.and_false, Bool.false_and, Bool.or_true, Bool.true_or, Bool.or_false, Bool.false_or, Nat.reduceAdd, Nat.reduceSub, Int.reduceEq, Int.reduceLT, Int.reduceLE, Int.reduceNeg, szl0, szl1, szl2, szl3, szl4, szl5, szl6, szl7, szl8, szl9, szl10, x_extend, x_append, x_borT, x_frz, x_idxO, List.getElem?_cons_zero, List.getElem?_cons_succ, x_notIn, x_isIn, rg_m1, rg_m2, rg_2, rg_3, rg_5, x_abs, x_int, x_rep2, Int.reduceAdd, Int.reduceSub, Int.reduceToNat, and_self, ram3, rbm3, ram2, rbm2, ram1, rbm1, ra0, rb0, ra1, rb1, ra2, rb2, ra3, rb3, ra4, rb4, ra5, rb5, ra6, rb6, ra7, rb7, ra8, rb8, ra9, rb9, ra10, rb10, ra11, rb11, ra12, rb12, ra13, rb13, ra20, rb20, ra24, rb24, x_dEq_pair, hz, x_dMod hm]
theorem v_is_list_of4 (t : Bool) (l h : Option Int) (m r : Int) (S : Strm) : F_is_list_of [qD t l h m r, .int 4] S = some (.bl true, S) := by
  cases t <;> simp only [F_is_list_of, m_is_list_of, F_is_list, m_is_list, qD, x_def, startE, x_seq, x_nx, x_rt, x_bk, x_ct, x_bind, x_pure, x_c, x_nil, x_cons, x_tup, x_lst, x_op2, x_op1, x_tru, x_notT, x_ite, x_ifS, x_andT, x_orT, x_and, x_or, x_chain, x_bi, x_biF, x_call, x_perm, x_it, x_ret, x_drop, x_next, x_set, x_setF, x_asg, x_aug, x_for, x_comp, x_cat, x_dSub, x_dAdd, x_dAddI, x_dLt, x_dLe, x_dGt, x_dGe, x_dNeg, x_dNot, x_dTru, x_dEq, x_dNe, x_var0, x_varS, Option.bind_some, Option.map_some, List.map_cons, List.map_nil, List.length_cons, List.length_nil, List.replicate_succ, List.replicate_zero, List.cons_append, List.nil_append, List.set_cons_zero, List.set_cons_succ, Bool.not_true, Bool.not_false, Bool.false_eq_true, if_true, if_false, decide_true, decide_false, decide_eq_true_eq, dIsN, dNotN, dIdx, dItems, at_int, at0, at1, at2, at3, cut2, gN, gT, gCo, gNl, wipeE, x_for_nil, x_for_cons, x_turn_nx, x_turn_ct, x_turn_bk, x_turn_rt, x_comp_nil, x_comp_cons, sz2, sz4, i_lt_int, i_lt_bl, i_lt_non, i_lt_lst, i_lt_tup, i_i_int, i_i_bl, i_b_int, i_b_bl, i_b_non, i_b_lst, i_b_tup, i_l_int, i_l_bl, i_l_non, i_l_lst, i_l_tup, i_t_int, i_t_lst, i_t_tup, i_d_int, i_d_bl, i_d_non, i_d_lst, i_d_tup, i_ltd_int, i_ltd_bl, i_ltd_non, l_lst, l_tup, t_lst, t_tup, a_lst, b_nil, b_cons, cut_lst, cut_tup, x_dEqb, x_dNeb, x_dEqn, x_zip, x_range1, x_range2, Int.cast_ofNat_Int, Nat.zero_add, List.all_cons, List.all_nil, id, Bool.and_true, Bool.true_and, Bool.and_false, Bool.false_and, Bool.or_true, Bool.true_or, Bool.or_false, Bool.false_or, Nat.reduceAdd, Nat.reduceSub, Int.reduceEq, Int.reduceLT, Int.reduceLE, Int.reduceNeg, szl0, szl1, szl2, szl3, szl4, szl5, szl6, szl7, szl8, szl9, szl10, x_extend, x_append, x_borT, x_frz, x_idxO, List.getElem?_cons_zero, List.getElem?_cons_succ, x_notIn, x_isIn, rg_m1, rg_m2, rg_2, rg_3, rg_5, x_abs, x_int, x_rep2, Int.reduceAdd, Int.reduceSub, Int.reduceToNat, and_self, ram3, rbm3, ram2, rbm2, ram1, rbm1, ra0, rb0, ra1, rb1, ra2, rb2, ra3, rb3, ra4, rb4, ra5, rb5, ra6, rb6, ra7, rb7, ra8, rb8, ra9, rb9, ra10, rb10, ra11, rb11, ra12, rb12, ra13, rb13, ra20, rb20, ra24, rb24]
theorem v_is_rest0 (t : Bool) (r : Int) (S : Strm) : F_is_rest [if t then .lst [.int 0, .int r] else .tup [.int 0, .int r]] S = some (.bl true, S) := by
  cases t <;> simp only [F_is_rest, m_is_rest, F_is_list_of, m_is_list_of, F_is_list, m_is_list, x_def, startE, x_seq, x_nx, x_rt, x_bk, x_ct, x_bind, x_pure, x_c, x_nil, x_cons, x_tup, x_lst, x_op2, x_op1, x_tru, x_notT, x_ite, x_ifS, x_andT, x_orT, x_and, x_or, x_chain, x_bi, x_biF, x_call, x_perm, x_it, x_ret, x_drop, x_next, x_set, x_setF, x_asg, x_aug, x_for, x_comp, x_cat, x_dSub, x_dAdd, x_dAddI, x_dLt, x_dLe, x_dGt, x_dGe, x_dNeg, x_dNot, x_dTru, x_dEq, x_dNe, x_var0, x_varS, Option.bind_some, Option.map_some, List.map_cons, List.map_nil, List.length_cons, List.length_nil, List.replicate_succ, List.replicate_zero, List.cons_append, List.nil_append, List.set_cons_zero, List.set_cons_succ, Bool.not_true, Bool.not_false, Bool.false_eq_true, if_true, if_false, decide_true, decide_false, decide_eq_true_eq, dIsN, dNotN, dIdx, dItems, at_int, at0, at1, at2, at3, cut2, gN, gT, gCo, gNl, wipeE, x_for_nil, x_for_cons, x_turn_nx, x_turn_ct, x_turn_bk, x_turn_rt, x_comp_nil, x_comp_cons, sz2, sz4, i_lt_int, i_lt_bl, i_lt_non, i_lt_lst, i_lt_tup, i_i_int, i_i_bl, i_b_int, i_b_bl, i_b_non, i_b_lst, i_b_tup, i_l_int, i_l_bl, i_l_non, i_l_lst, i_l_tup, i_t_int, i_t_lst, i_t_tup, i_d_int, i_d_bl, i_d_non, i_d_lst, i_d_tup, i_ltd_int, i_ltd_bl, i_ltd_non, l_lst, l_tup, t_lst, t_tup, a_lst, b_nil, b_cons, cut_lst, cut_tup, x_dEqb, x_dNeb, x_dEqn, x_zip, x_range1, x_range2, Int.cast_ofNat_Int, Nat.zero_add, List.all_cons, List.all_nil, id, Bool.and_true, Bool.true_and, Bool.and_false, Bool.false_and, Bool.or_true, Bool.true_or, Bool.or_false, Bool.false_or, Nat.reduceAdd, Nat.reduceSub, Int.reduceEq, Int.reduceLT, Int.reduceLE, Int.reduceNeg, szl0, szl1, szl2, szl3, szl4, szl5, szl6, szl7, szl8, szl9, szl10, x_extend, x_append, x_borT, x_frz, x_idxO, List.getElem?_cons_zero, List.getElem?_cons_succ, x_notIn, x_isIn, rg_m1, rg_m2, rg_2, rg_3, rg_5, x_abs, x_int, x_rep2, Int.reduceAdd, Int.reduceSub, Int.reduceToNat, and_self, ram3, rbm3, ram2, rbm2, ram1, rbm1, ra0, rb0, ra1, rb1, ra2, rb2, ra3, rb3, ra4, rb4, ra5, rb5, ra6, rb6, ra7, rb7, ra8, rb8, ra9, rb9, ra10, rb10, ra11, rb11, ra12, rb12, ra13, rb13, ra20, rb20, ra24, rb24, v_isint]
theorem v_is_rest (t : Bool) {m r : Int} (h0 : 0 ≤ r) (h1 : r < m) (S : Strm) : F_is_rest [if t then .lst [.int m, .int r] else .tup [.int m, .int r]] S = some (.bl true, S) := by
  have hz : ¬ m = 0 := by omega
  cases t <;> simp only [F_is_rest, m_is_rest, F_is_list_of, m_is_list_of, F_is_list, m_is_list, x_def, startE, x_seq, x_nx, x_rt, x_bk, x_ct, x_bind, x_pure, x_c, x_nil, x_cons, x_tup, x_lst, x_op2, x_op1, x_tru, x_notT, x_ite, x_ifS, x_andT, x_orT, x_and, x_or, x_chain, x_bi, x_biF, x_call, x_perm, x_it, x_ret, x_drop, x_next, x_set, x_setF, x_asg, x_aug, x_for, x_comp, x_cat, x_dSub, x_dAdd, x_dAddI, x_dLt, x_dLe, x_dGt, x_dGe, x_dNeg, x_dNot, x_dTru, x_dEq, x_dNe, x_var0, x_varS, Option.bind_some, Option.map_some, List.map_cons, List.map_nil, List.length_cons, List.length_nil, List.replicate_succ, List.replicate_zero, List.cons_append, List.nil_append, List.set_cons_zero, List.set_cons_succ, Bool.not_true, Bool.not_false, Bool.false_eq_true, if_true, if_false, decide_true, decide_false, decide_eq_true_eq, dIsN, dNotN, dIdx, dItems, at_int, at0, at1, at2, at3, cut2, gN, gT, gCo, gNl, wipeE, x_for_nil, x_for_cons, x_turn_nx, x_turn_ct, x_turn_bk, x_turn_rt, x_comp_nil, x_comp_cons, sz2, sz4, i_lt_int, i_lt_bl, i_lt_non, i_lt_lst, i_lt_tup, i_i_int, i_i_bl, i_b_int, i_b_bl, i_b_non, i_b_lst, i_b_tup, i_l_int, i_l_bl, i_l_non, i_l_lst, i_l_tup, i_t_int, i_t_lst, i_t_tup, i_d_int, i_d_bl, i_d_non, i_d_lst, i_d_tup, i_ltd_int, i_ltd_bl, i_ltd_non, l_lst, l_tup, t_lst, t_tup, a_lst, b_nil, b_cons, cut_lst, cut_tup, x_dEqb, x_dNeb, x_dEqn, x_zip, x_range1, x_range2, Int.cast_ofNat_Int, Nat.zero_add, List.all_cons, List.all_nil, id, Bool.and_true, Bool.true_and, Bool.and_false, Bool.false_and, Bool.or_true, Bool.true_or, Bool.or_false, Bool.false_or, Nat.reduceAdd, Nat.reduceSub, Int.reduceEq, Int.reduceLT, Int.reduceLE, Int.reduceNeg, szl0, szl1, szl2, szl3, szl4, szl5, szl6, szl7, szl8, szl9, szl10, x_extend, x_append, x_borT, x_frz, x_idxO, List.getElem?_cons_zero, List.getElem?_cons_succ, x_notIn, x_isIn, rg_m1, rg_m2, rg_2, rg_3, rg_5, x_abs, x_int, x_rep2, Int.reduceAdd, Int.reduceSub, Int.reduceToNat, and_self, ram3, rbm3, ram2, rbm2, ram1, rbm1, ra0, rb0, ra1, rb1, ra2, rb2, ra3, rb3, ra4, rb4, ra5, rb5, ra6, rb6, ra7, rb7, ra8, rb8, ra9, rb9, ra10, rb10, ra11, rb11, ra12, rb12, ra13, rb13, ra20, rb20, ra24, rb24, v_isint, hz, h0, h1]
theorem v_is_strip {s : ST} (hv : Vd s) (t : Bool) (S : Strm) : F_is_strip [sL t s] S = some (.bl true, S) := by
  cases hv with
  | none => simp only [F_is_strip, m_is_strip, sL, x_def, startE, x_seq, x_nx, x_rt, x_bk, x_ct, x_bind, x_pure, x_c, x_nil, x_cons, x_tup, x_lst, x_op2, x_op1, x_tru, x_notT, x_ite, x_ifS, x_andT, x_orT, x_and, x_or, x_chain, x_bi, x_biF, x_call, x_perm, x_it, x_ret, x_drop, x_next, x_set, x_setF, x_asg, x_aug, x_for, x_comp, x_cat, x_dSub, x_dAdd, x_dAddI, x_dLt, x_dLe, x_dGt, x_dGe, x_dNeg, x_dNot, x_dTru, x_dEq, x_dNe, x_var0, x_varS, Option.bind_some, Option.map_some, List.map_cons, List.map_nil, List.length_cons, List.length_nil, List.replicate_succ, List.replicate_zero, List.cons_append, List.nil_append, List.set_cons_zero, List.set_cons_succ, Bool.not_true, Bool.not_false, Bool.false_eq_true, if_true, if_false, decide_true, decide_false, decide_eq_true_eq, dIsN, dNotN, dIdx, dItems, at_int, at0, at1, at2, at3, cut2, gN, gT, gCo, gNl, wipeE, x_for_nil, x_for_cons, x_turn_nx, x_turn_ct, x_turn_bk, x_turn_rt, x_comp_nil, x_comp_cons, sz2, sz4, i_lt_int, i_lt_bl, i_lt_non, i_lt_lst, i_lt_tup, i_i_int, i_i_bl, i_b_int, i_b_bl, i_b_non, i_b_lst, i_b_tup, i_l_int, i_l_bl, i_l_non, i_l_lst, i_l_tup, i_t_int, i_t_lst, i_t_tup, i_d_int, i_d_bl, i_d_non, i_d_lst, i_d_tup, i_ltd_int, i_ltd_bl, i_ltd_non, l_lst, l_tup, t_lst, t_tup, a_lst, b_nil, b_cons, cut_lst, cut_tup, x_dEqb, x_dNeb, x_dEqn, x_zip, x_range1, x_range2, Int.cast_ofNat_Int, Nat.zero_add, List.all_cons, List.all_nil, id, Bool.and_true, Bool.true_and, Bool.and_false, Bool.false_and, Bool.or_true, Bool.true_or, Bool.or_false, Bool.false_or, Nat.reduceAdd, Nat.reduceSub, Int.reduceEq, Int.reduceLT, Int.reduceLE, Int.reduceNeg, szl0, szl1, szl2, szl3, szl4, szl5, szl6, szl7, szl8, szl9, szl10, x_extend, x_append, x_borT, x_frz, x_idxO, List.getElem?_cons_zero, List.getElem?_cons_succ, x_notIn, x_isIn, rg_m1, rg_m2, rg_2, rg_3, rg_5, x_abs, x_int, x_rep2, Int.reduceAdd, Int.reduceSub, Int.reduceToNat, and_self, ram3, rbm3, ram2, rbm2, ram1, rbm1, ra0, rb0, ra1, rb1, ra2, rb2, ra3, rb3, ra4, rb4, ra5, rb5, ra6, rb6, ra7, rb7, ra8, rb8, ra9, rb9, ra10, rb10, ra11, rb11, ra12, rb12, ra13, rb13, ra20, rb20, ra24, rb24]
  | one n =>
    have e1 := v_is_list_of4 t (some n) (some n) 0 n S
    have e2 := v_is_rest0 t n S
    cases t <;> simp only [qD, oD, Bool.false_eq_true, if_true, if_false] at e1 e2 <;> simp only [F_is_strip, m_is_strip, sL, qD, oD, x_def, startE, x_seq, x_nx, x_rt, x_bk, x_ct, x_bind, x_pure, x_c, x_nil, x_cons, x_tup, x_lst, x_op2, x_op1, x_tru, x_notT, x_ite, x_ifS, x_andT, x_orT, x_and, x_or, x_chain, x_bi, x_biF, x_call, x_perm, x_it, x_ret, x_drop, x_next, x_set, x_setF, x_asg, x_aug, x_for, x_comp, x_cat, x_dSub, x_dAdd, x_dAddI, x_dLt, x_dLe, x_dGt, x_dGe, x_dNeg, x_dNot, x_dTru, x_dEq, x_dNe, x_var0, x_varS, Option.bind_some, Option.map_some, List.map_cons, List.map_nil, List.length_cons, List.length_nil, List.replicate_succ, List.replicate_zero, List.cons_append, List.nil_append, List.set_cons_zero, List.set_cons_succ, Bool.not_true, Bool.not_false, Bool.false_eq_true, if_true, if_false, decide_true, decide_false, decide_eq_true_eq, dIsN, dNotN, dIdx, dItems, at_int, at0, at1, at2, at3, cut2, gN, gT, gCo, gNl, wipeE, x_for_nil, x_for_cons, x_turn_nx, x_turn_ct, x_turn_bk, x_turn_rt, x_comp_nil, x_comp_cons, sz2, sz4, i_lt_int, i_lt_bl, i_lt_non, i_lt_lst, i_lt_tup, i_i_int, i_i_bl, i_b_int, i_b_bl, i_b_non, i_b_lst, i_b_tup, i_l_int, i_l_bl, i_l_non, i_l_lst, i_l_tup, i_t_int, i_t_lst, i_t_tup, i_d_int, i_d_bl, i_d_non, i_d_lst, i_d_tup, i_ltd_int, i_ltd_bl, i_ltd_non, l_lst, l_tup, t_lst, t_tup, a_lst, b_nil, b_cons, cut_lst, cut_tup, x_dEqb, x_dNeb, x_dEqn, x_zip, x_range1, x_range2, Int.cast_ofNat_Int, Nat.zero_add, List.all_cons, List.all_nil, id, Bool.and_true, Bool.true_and, Bool.and_false, Bool.false_and, Bool.or_true, Bool.true_or, Bool.or_false, Bool.false_or, Nat.reduceAdd, Nat.reduceSub, Int.reduceEq, Int.reduceLT, Int.reduceLE, Int.reduceNeg, szl0, szl1, szl2, szl3, szl4, szl5, szl6, szl7, szl8, szl9, szl10, x_extend, x_append, x_borT, x_frz, x_idxO, List.getElem?_cons_zero, List.getElem?_cons_succ, x_notIn, x_isIn, rg_m1, rg_m2, rg_2, rg_3, rg_5, x_abs, x_int, x_rep2, Int.reduceAdd, Int.reduceSub, Int.reduceToNat, and_self, ram3, rbm3, ram2, rbm2, ram1, rbm1, ra0, rb0, ra1, rb1, ra2, rb2, ra3, rb3, ra4, rb4, ra5, rb5, ra6, rb6, ra7, rb7, ra8, rb8, ra9, rb9, ra10, rb10, ra11, rb11, ra12, rb12, ra13, rb13, ra20, rb20, ra24, rb24, e1, e2, v_isint, v_rest_has0]
  | @all m r hm h0 h1 =>
    have e1 := v_is_list_of4 t none none m r S
    have e2 := v_is_rest t h0 h1 S
    have hz : ¬ m = 0 := by omega
    cases t <;> simp only [qD, oD, Bool.false_eq_true, if_true, if_false] at e1 e2 <;> simp only [F_is_strip, m_is_strip, sL, qD, oD, x_def, startE, x_seq, x_nx, x_rt, x_bk, x_ct, x_bind, x_pure, x_c, x_nil, x_cons, x_tup, x_lst, x_op2, x_op1, x_tru, x_notT, x_ite, x_ifS, x_andT, x_orT, x_and, x_or, x_chain, x_bi, x_biF, x_call, x_perm, x_it, x_ret, x_drop, x_next, x_set, x_setF, x_asg, x_aug, x_for, x_comp, x_cat, x_dSub, x_dAdd, x_dAddI, x_dLt, x_dLe, x_dGt, x_dGe, x_dNeg, x_dNot, x_dTru, x_dEq, x_dNe, x_var0, x_varS, Option.bind_some, Option.map_some, List.map_cons, List.map_nil, List.length_cons, List.length_nil, List.replicate_succ, List.replicate_zero, List.cons_append, List.nil_append, List.set_cons_zero, List.set_cons_succ, Bool.not_true, Bool.not_false, Bool.false_eq_true, if_true, if_false, decide_true, decide_false, decide_eq_true_eq, dIsN, dNotN, dIdx, dItems, at_int, at0, at1, at2, at3, cut2, gN, gT, gCo, gNl, wipeE, x_for_nil, x_for_cons, x_turn_nx, x_turn_ct, x_turn_bk, x_turn_rt, x_comp_nil, x_comp_cons, sz2, sz4, i_lt_int, i_lt_bl, i_lt_non, i_lt_lst, i_lt_tup, i_i_int, i_i_bl, i_b_int, i_b_bl, i_b_non, i_b_lst, i_b_tup, i_l_int, i_l_bl, i_l_non, i_l_lst, i_l_tup, i_t_int, i_t_lst, i_t_tup, i_d_int, i_d_bl, i_d_non, i_d_lst, i_d_tup, i_ltd_int, i_ltd_bl, i_ltd_non, l_lst, l_tup, t_lst, t_tup, a_lst, b_nil, b_cons, cut_lst, cut_tup, x_dEqb, x_dNeb, x_dEqn, x_zip, x_range1, x_range2, Int.cast_ofNat_Int, Nat.zero_add, List.all_cons, List.all_nil, id, Bool.and_true, Bool.true_and, Bool.and_false, Bool.false_and, Bool.or_true, Bool.true_or, Bool.or_false, Bool.false_or, Nat.reduceAdd, Nat.reduceSub, Int.reduceEq, Int.reduceLT, Int.reduceLE, Int.reduceNeg, szl0, szl1, szl2, szl3, szl4, szl5, szl6, szl7, szl8, szl9, szl10, x_extend, x_append, x_borT, x_frz, x_idxO, List.getElem?_cons_zero, List.getElem?_cons_succ, x_notIn, x_isIn, rg_m1, rg_m2, rg_2, rg_3, rg_5, x_abs, x_int, x_rep2, Int.reduceAdd, Int.reduceSub, Int.reduceToNat, and_self, ram3, rbm3, ram2, rbm2, ram1, rbm1, ra0, rb0, ra1, rb1, ra2, rb2, ra3, rb3, ra4, rb4, ra5, rb5, ra6, rb6, ra7, rb7, ra8, rb8, ra9, rb9, ra10, rb10, ra11, rb11, ra12, rb12, ra13, rb13, ra20, rb20, ra24, rb24, e1, e2, v_isint, v_rest_has hm, hz]
  | @lo a m r hm h0 h1 ha =>
    have e1 := v_is_list_of4 t (some a) none m r S
    have e2 := v_is_rest t h0 h1 S
    have hz : ¬ m = 0 := by omega
    cases t <;> simp only [qD, oD, Bool.false_eq_true, if_true, if_false] at e1 e2 <;> simp only [F_is_strip, m_is_strip, sL, qD, oD, x_def, startE, x_seq, x_nx, x_rt, x_bk, x_ct, x_bind, x_pure, x_c, x_nil, x_cons, x_tup, x_lst, x_op2, x_op1, x_tru, x_notT, x_ite, x_ifS, x_andT, x_orT, x_and, x_or, x_chain, x_bi, x_biF, x_call, x_perm, x_it, x_ret, x_drop, x_next, x_set, x_setF, x_asg, x_aug, x_for, x_comp, x_cat, x_dSub, x_dAdd, x_dAddI, x_dLt, x_dLe, x_dGt, x_dGe, x_dNeg, x_dNot, x_dTru, x_dEq, x_dNe, x_var0, x_varS, Option.bind_some, Option.map_some, List.map_cons, List.map_nil, List.length_cons, List.length_nil, List.replicate_succ, List.replicate_zero, List.cons_append, List.nil_append, List.set_cons_zero, List.set_cons_succ, Bool.not_true, Bool.not_false, Bool.false_eq_true, if_true, if_false, decide_true, decide_false, decide_eq_true_eq, dIsN, dNotN, dIdx, dItems, at_int, at0, at1, at2, at3, cut2, gN, gT, gCo, gNl, wipeE, x_for_nil, x_for_cons, x_turn_nx, x_turn_ct, x_turn_bk, x_turn_rt, x_comp_nil, x_comp_cons, sz2, sz4, i_lt_int, i_lt_bl, i_lt_non, i_lt_lst, i_lt_tup, i_i_int, i_i_bl, i_b_int, i_b_bl, i_b_non, i_b_lst, i_b_tup, i_l_int, i_l_bl, i_l_non, i_l_lst, i_l_tup, i_t_int, i_t_lst, i_t_tup, i_d_int, i_d_bl, i_d_non, i_d_lst, i_d_tup, i_ltd_int, i_ltd_bl, i_ltd_non, l_lst, l_tup, t_lst, t_tup, a_lst, b_nil, b_cons, cut_lst, cut_tup, x_dEqb, x_dNeb, x_dEqn, x_zip, x_range1, x_range2, Int.cast_ofNat_Int, Nat.zero_add, List.all_cons, List.all_nil, id, Bool.and_true, Bool.true_and, Bool.and_false, Bool.false_and, Bool.or_true, Bool.true_or, Bool.or_false, Bool.false_or, Nat.reduceAdd, Nat.reduceSub, Int.reduceEq, Int.reduceLT, Int.reduceLE, Int.reduceNeg, szl0, szl1, szl2, szl3, szl4, szl5, szl6, szl7, szl8, szl9, szl10, x_extend, x_append, x_borT, x_frz, x_idxO, List.getElem?_cons_zero, List.getElem?_cons_succ, x_notIn, x_isIn, rg_m1, rg_m2, rg_2, rg_3, rg_5, x_abs, x_int, x_rep2, Int.reduceAdd, Int.reduceSub, Int.reduceToNat, and_self, ram3, rbm3, ram2, rbm2, ram1, rbm1, ra0, rb0, ra1, rb1, ra2, rb2, ra3, rb3, ra4, rb4, ra5, rb5, ra6, rb6, ra7, rb7, ra8, rb8, ra9, rb9, ra10, rb10, ra11, rb11, ra12, rb12, ra13, rb13, ra20, rb20, ra24, rb24, e1, e2, v_isint, v_rest_has hm, hz, ha]
  | @hi a m r hm h0 h1 ha =>
    have e1 := v_is_list_of4 t none (some a) m r S
    have e2 := v_is_rest t h0 h1 S
    have hz : ¬ m = 0 := by omega
    cases t <;> simp only [qD, oD, Bool.false_eq_true, if_true, if_false] at e1 e2 <;> simp only [F_is_strip, m_is_strip, sL, qD, oD, x_def, startE, x_seq, x_nx, x_rt, x_bk, x_ct, x_bind, x_pure, x_c, x_nil, x_cons, x_tup, x_lst, x_op2, x_op1, x_tru, x_notT, x_ite, x_ifS, x_andT, x_orT, x_and, x_or, x_chain, x_bi, x_biF, x_call, x_perm, x_it, x_ret, x_drop, x_next, x_set, x_setF, x_asg, x_aug, x_for, x_comp, x_cat, x_dSub, x_dAdd, x_dAddI, x_dLt, x_dLe, x_dGt, x_dGe, x_dNeg, x_dNot, x_dTru, x_dEq, x_dNe, x_var0, x_varS, Option.bind_some, Option.map_some, List.map_cons, List.map_nil, List.length_cons, List.length_nil, List.replicate_succ, List.replicate_zero, List.cons_append, List.nil_append, List.set_cons_zero, List.set_cons_succ, Bool.not_true, Bool.not_false, Bool.false_eq_true, if_true, if_false, decide_true, decide_false, decide_eq_true_eq, dIsN, dNotN, dIdx, dItems, at_int, at0, at1, at2, at3, cut2, gN, gT, gCo, gNl, wipeE, x_for_nil, x_for_cons, x_turn_nx, x_turn_ct, x_turn_bk, x_turn_rt, x_comp_nil, x_comp_cons, sz2, sz4, i_lt_int, i_lt_bl, i_lt_non, i_lt_lst, i_lt_tup, i_i_int, i_i_bl, i_b_int, i_b_bl, i_b_non, i_b_lst, i_b_tup, i_l_int, i_l_bl, i_l_non, i_l_lst, i_l_tup, i_t_int, i_t_lst, i_t_tup, i_d_int, i_d_bl, i_d_non, i_d_lst, i_d_tup, i_ltd_int, i_ltd_bl, i_ltd_non, l_lst, l_tup, t_lst, t_tup, a_lst, b_nil, b_cons, cut_lst, cut_tup, x_dEqb, x_dNeb, x_dEqn, x_zip, x_range1, x_range2, Int.cast_ofNat_Int, Nat.zero_add, List.all_cons, List.all_nil, id, Bool.and_true, Bool.true_and, Bool.and_false, Bool.false_and, Bool.or_true, Bool.true_or, Bool.or_false, Bool.false_or, Nat.reduceAdd, Nat.reduceSub, Int.reduceEq, Int.reduceLT, Int.reduceLE, Int.reduceNeg, szl0, szl1, szl2, szl3, szl4, szl5, szl6, szl7, szl8, szl9, szl10, x_extend, x_append, x_borT, x_frz, x_idxO, List.getElem?_cons_zero, List.getElem?_cons_succ, x_notIn, x_isIn, rg_m1, rg_m2, rg_2, rg_3, rg_5, x_abs, x_int, x_rep2, Int.reduceAdd, Int.reduceSub, Int.reduceToNat, and_self, ram3, rbm3, ram2, rbm2, ram1, rbm1, ra0, rb0, ra1, rb1, ra2, rb2, ra3, rb3, ra4, rb4, ra5, rb5, ra6, rb6, ra7, rb7, ra8, rb8, ra9, rb9, ra10, rb10, ra11, rb11, ra12, rb12, ra13, rb13, ra20, rb20, ra24, rb24, e1, e2, v_isint, v_rest_has hm, hz, ha]
  | @both a b m r hm h0 h1 ha hb hab =>
    have e1 := v_is_list_of4 t (some a) (some b) m r S
    have e2 := v_is_rest t h0 h1 S
    have hz : ¬ m = 0 := by omega
    cases t <;> simp only [qD, oD, Bool.false_eq_true, if_true, if_false] at e1 e2 <;> simp only [F_is_strip, m_is_strip, sL, qD, oD, x_def, startE, x_seq, x_nx, x_rt, x_bk, x_ct, x_bind, x_pure, x_c, x_nil, x_cons, x_tup, x_lst, x_op2, x_op1, x_tru, x_notT, x_ite, x_ifS, x_andT, x_orT, x_and, x_or, x_chain, x_bi, x_biF, x_call, x_perm, x_it, x_ret, x_drop, x_next, x_set, x_setF, x_asg, x_aug, x_for, x_comp, x_cat, x_dSub, x_dAdd, x_dAddI, x_dLt, x_dLe, x_dGt, x_dGe, x_dNeg, x_dNot, x_dTru, x_dEq, x_dNe, x_var0, x_varS, Option.bind_some, Option.map_some, List.map_cons, List.map_nil, List.length_cons, List.length_nil, List.replicate_succ, List.replicate_zero, List.cons_append, List.nil_append, List.set_cons_zero, List.set_cons_succ, Bool.not_true, Bool.not_false, Bool.false_eq_true, if_true, if_false, decide_true, decide_false, decide_eq_true_eq, dIsN, dNotN, dIdx, dItems, at_int, at0, at1, at2, at3, cut2, gN, gT, gCo, gNl, wipeE, x_for_nil, x_for_cons, x_turn_nx, x_turn_ct, x_turn_bk, x_turn_rt, x_comp_nil, x_comp_cons, sz2, sz4, i_lt_int, i_lt_bl, i_lt_non, i_lt_lst, i_lt_tup, i_i_int, i_i_bl, i_b_int, i_b_bl, i_b_non, i_b_lst, i_b_tup, i_l_int, i_l_bl, i_l_non, i_l_lst, i_l_tup, i_t_int, i_t_lst, i_t_tup, i_d_int, i_d_bl, i_d_non, i_d_lst, i_d_tup, i_ltd_int, i_ltd_bl, i_ltd_non, l_lst, l_tup, t_lst, t_tup, a_lst, b_nil, b_cons, cut_lst, cut_tup, x_dEqb, x_dNeb, x_dEqn, x_zip, x_range1, x_range2, Int.cast_ofNat_Int, Nat.zero_add, List.all_cons, List.all_nil, id, Bool.and_true, Bool.true_and, Bool.and_false, Bool.false_and, Bool.or_true, Bool.true_or, Bool.or_false, Bool.false_or, Nat.reduceAdd, Nat.reduceSub, Int.reduceEq, Int.reduceLT, Int.reduceLE, Int.reduceNeg, szl0, szl1, szl2, szl3, szl4, szl5, szl6, szl7, szl8, szl9, szl10, x_extend, x_append, x_borT, x_frz, x_idxO, List.getElem?_cons_zero, List.getElem?_cons_succ, x_notIn, x_isIn, rg_m1, rg_m2, rg_2, rg_3, rg_5, x_abs, x_int, x_rep2, Int.reduceAdd, Int.reduceSub, Int.reduceToNat, and_self, ram3, rbm3, ram2, rbm2, ram1, rbm1, ra0, rb0, ra1, rb1, ra2, rb2, ra3, rb3, ra4, rb4, ra5, rb5, ra6, rb6, ra7, rb7, ra8, rb8, ra9, rb9, ra10, rb10, ra11, rb11, ra12, rb12, ra13, rb13, ra20, rb20, ra24, rb24, e1, e2, v_isint, v_rest_has hm, hz, ha, hb, hab]
theorem v_check {s : ST} (hv : Vd s) (t : Bool) (S : Strm) : F_check_strip [sL t s] S = some (.non, S) := by
  simp only [F_check_strip, m_check_strip, x_def, startE, x_seq, x_nx, x_rt, x_bk, x_ct, x_bind, x_pure, x_c, x_nil, x_cons, x_tup, x_lst, x_op2, x_op1, x_tru, x_notT, x_ite, x_ifS, x_andT, x_orT, x_and, x_or, x_chain, x_bi, x_biF, x_call, x_perm, x_it, x_ret, x_drop, x_next, x_set, x_setF, x_asg, x_aug, x_for, x_comp, x_cat, x_dSub, x_dAdd, x_dAddI, x_dLt, x_dLe, x_dGt, x_dGe, x_dNeg, x_dNot, x_dTru, x_dEq, x_dNe, x_var0, x_varS, Option.bind_some, Option.map_some, List.map_cons, List.map_nil, List.length_cons, List.length_nil, List.replicate_succ, List.replicate_zero, List.cons_append, List.nil_append, List.set_cons_zero, List.set_cons_succ, Bool.not_true, Bool.not_false, Bool.false_eq_true, if_true, if_false, decide_true, decide_false, decide_eq_true_eq, dIsN, dNotN, dIdx, dItems, at_int, at0, at1, at2, at3, cut2, gN, gT, gCo, gNl, wipeE, x_for_nil, x_for_cons, x_turn_nx, x_turn_ct, x_turn_bk, x_turn_rt, x_comp_nil, x_comp_cons, sz2, sz4, i_lt_int, i_lt_bl, i_lt_non, i_lt_lst, i_lt_tup, i_i_int, i_i_bl, i_b_int, i_b_bl, i_b_non, i_b_lst, i_b_tup, i_l_int, i_l_bl, i_l_non, i_l_lst, i_l_tup, i_t_int, i_t_lst, i_t_tup, i_d_int, i_d_bl, i_d_non, i_d_lst, i_d_tup, i_ltd_int, i_ltd_bl, i_ltd_non, l_lst, l_tup, t_lst, t_tup, a_lst, b_nil, b_cons, cut_lst, cut_tup, x_dEqb, x_dNeb, x_dEqn, x_zip, x_range1, x_range2, Int.cast_ofNat_Int, Nat.zero_add, List.all_cons, List.all_nil, id, Bool.and_true, Bool.true_and, Bool.and_false, Bool.false_and, Bool.or_true, Bool.true_or, Bool.or_false, Bool.false_or, Nat.reduceAdd, Nat.reduceSub, Int.reduceEq, Int.reduceLT, Int.reduceLE, Int.reduceNeg, szl0, szl1, szl2, szl3, szl4, szl5, szl6, szl7, szl8, szl9, szl10, x_extend, x_append, x_borT, x_frz, x_idxO, List.getElem?_cons_zero, List.getElem?_cons_succ, x_notIn, x_isIn, rg_m1, rg_m2, rg_2, rg_3, rg_5, x_abs, x_int, x_rep2, Int.reduceAdd, Int.reduceSub, Int.reduceToNat, and_self, ram3, rbm3, ram2, rbm2, ram1, rbm1, ra0, rb0, ra1, rb1, ra2, rb2, ra3, rb3, ra4, rb4, ra5, rb5, ra6, rb6, ra7, rb7, ra8, rb8, ra9, rb9, ra10, rb10, ra11, rb11, ra12, rb12, ra13, rb13, ra20, rb20, ra24, rb24, v_is_strip hv]
end L2.Ev.K10
namespace L2.Ev.K10
open PySem PySem.Spec PyProof.Rows
theorem loose_non (n : Nat) (S : Strm) : F__law_loose (n + 1) [.strm, .non] S = some (.non, S) := by
  rw [F__law_loose]; simp only [m__law_loose, x_def, startE, x_seq, x_nx, x_rt, x_bk, x_ct, x_bind, x_pure, x_c, x_nil, x_cons, x_tup, x_lst, x_op2, x_op1, x_tru, x_notT, x_ite, x_ifS, x_andT, x_orT, x_and, x_or, x_chain, x_bi, x_biF, x_call, x_perm, x_it, x_ret, x_drop, x_next, x_set, x_setF, x_asg, x_aug, x_for, x_comp, x_cat, x_dSub, x_dAdd, x_dAddI, x_dLt, x_dLe, x_dGt, x_dGe, x_dNeg, x_dNot, x_dTru, x_dEq, x_dNe, x_var0, x_varS, Option.bind_some, Option.map_some, List.map_cons, List.map_nil, List.length_cons, List.length_nil, List.replicate_succ, List.replicate_zero, List.cons_append, List.nil_append, List.set_cons_zero, List.set_cons_succ, Bool.not_true, Bool.not_false, Bool.false_eq_true, if_true, if_false, decide_true, decide_false, decide_eq_true_eq, dIsN, dNotN, dIdx, dItems, at_int, at0, at1, at2, at3, cut2, gN, gT, gCo, gNl, wipeE, x_for_nil, x_for_cons, x_turn_nx, x_turn_ct, x_turn_bk, x_turn_rt, x_comp_nil, x_comp_cons, sz2, sz4, i_lt_int, i_lt_bl, i_lt_non, i_lt_lst, i_lt_tup, i_i_int, i_i_bl, i_b_int, i_b_bl, i_b_non, i_b_lst, i_b_tup, i_l_int, i_l_bl, i_l_non, i_l_lst, i_l_tup, i_t_int, i_t_lst, i_t_tup, i_d_int, i_d_bl, i_d_non, i_d_lst, i_d_tup, i_ltd_int, i_ltd_bl, i_ltd_non, l_lst, l_tup, t_lst, t_tup, a_lst, b_nil, b_cons, cut_lst, cut_tup, x_dEqb, x_dNeb, x_dEqn, x_zip, x_range1, x_range2, Int.cast_ofNat_Int, Nat.zero_add, List.all_cons, List.all_nil, id, Bool.and_true, Bool.true_and, Bool.and_false, Bool.false_and, Bool.or_true, Bool.true_or, Bool.or_false, Bool.false_or, Nat.reduceAdd, Nat.reduceSub, Int.reduceEq, Int.reduceLT, Int.reduceLE, Int.reduceNeg, szl0, szl1, szl2, szl3, szl4, szl5, szl6, szl7, szl8, szl9, szl10, x_extend, x_append, x_borT, x_frz, x_idxO, List.getElem?_cons_zero, List.getElem?_cons_succ, x_notIn, x_isIn, rg_m1, rg_m2, rg_2, rg_3, rg_5, x_abs, x_int, x_rep2, Int.reduceAdd, Int.reduceSub, Int.reduceToNat, and_self, ram3, rbm3, ram2, rbm2, ram1, rbm1, ra0, rb0, ra1, rb1, ra2, rb2, ra3, rb3, ra4, rb4, ra5, rb5, ra6, rb6, ra7, rb7, ra8, rb8, ra9, rb9, ra10, rb10, ra11, rb11, ra12, rb12, ra13, rb13, ra20, rb20, ra24, rb24]
theorem loose_int (n : Nat) (i : Int) (S : Strm) : F__law_loose (n + 1) [.strm, .int i] S = some (.int i, S) := by
  rw [F__law_loose]; simp only [m__law_loose, x_def, startE, x_seq, x_nx, x_rt, x_bk, x_ct, x_bind, x_pure, x_c, x_nil, x_cons, x_tup, x_lst, x_op2, x_op1, x_tru, x_notT, x_ite, x_ifS, x_andT, x_orT, x_and, x_or, x_chain, x_bi, x_biF, x_call, x_perm, x_it, x_ret, x_drop, x_next, x_set, x_setF, x_asg, x_aug, x_for, x_comp, x_cat, x_dSub, x_dAdd, x_dAddI, x_dLt, x_dLe, x_dGt, x_dGe, x_dNeg, x_dNot, x_dTru, x_dEq, x_dNe, x_var0, x_varS, Option.bind_some, Option.map_some, List.map_cons, List.map_nil, List.length_cons, List.length_nil, List.replicate_succ, List.replicate_zero, List.cons_append, List.nil_append, List.set_cons_zero, List.set_cons_succ, Bool.not_true, Bool.not_false, Bool.false_eq_true, if_true, if_false, decide_true, decide_false, decide_eq_true_eq, dIsN, dNotN, dIdx, dItems, at_int, at0, at1, at2, at3, cut2, gN, gT, gCo, gNl, wipeE, x_for_nil, x_for_cons, x_turn_nx, x_turn_ct, x_turn_bk, x_turn_rt, x_comp_nil, x_comp_cons, sz2, sz4, i_lt_int, i_lt_bl, i_lt_non, i_lt_lst, i_lt_tup, i_i_int, i_i_bl, i_b_int, i_b_bl, i_b_non, i_b_lst, i_b_tup, i_l_int, i_l_bl, i_l_non, i_l_lst, i_l_tup, i_t_int, i_t_lst, i_t_tup, i_d_int, i_d_bl, i_d_non, i_d_lst, i_d_tup, i_ltd_int, i_ltd_bl, i_ltd_non, l_lst, l_tup, t_lst, t_tup, a_lst, b_nil, b_cons, cut_lst, cut_tup, x_dEqb, x_dNeb, x_dEqn, x_zip, x_range1, x_range2, Int.cast_ofNat_Int, Nat.zero_add, List.all_cons, List.all_nil, id, Bool.and_true, Bool.true_and, Bool.and_false, Bool.false_and, Bool.or_true, Bool.true_or, Bool.or_false, Bool.false_or, Nat.reduceAdd, Nat.reduceSub, Int.reduceEq, Int.reduceLT, Int.reduceLE, Int.reduceNeg, szl0, szl1, szl2, szl3, szl4, szl5, szl6, szl7, szl8, szl9, szl10, x_extend, x_append, x_borT, x_frz, x_idxO, List.getElem?_cons_zero, List.getElem?_cons_succ, x_notIn, x_isIn, rg_m1, rg_m2, rg_2, rg_3, rg_5, x_abs, x_int, x_rep2, Int.reduceAdd, Int.reduceSub, Int.reduceToNat, and_self, ram3, rbm3, ram2, rbm2, ram1, rbm1, ra0, rb0, ra1, rb1, ra2, rb2, ra3, rb3, ra4, rb4, ra5, rb5, ra6, rb6, ra7, rb7, ra8, rb8, ra9, rb9, ra10, rb10, ra11, rb11, ra12, rb12, ra13, rb13, ra20, rb20, ra24, rb24]
theorem loose_o (n : Nat) (l : Option Int) (S : Strm) : F__law_loose (n + 1) [.strm, oD l] S = some (oD l, S) := by
  cases l with
  | none => exact loose_non n S
  | some i => exact loose_int n i S
theorem v_loose (s : ST) (S : Strm) : ∃ t S', F__law_loose 24 [.strm, sD s] S = some (sL t s, S') := by
  cases s with
  | none => exact ⟨true, S, loose_non 23 S⟩
  | some x =>
    obtain ⟨l, h, m, r⟩ := x
    obtain ⟨k, S1, hk, e⟩ := x_draw_at S (m := 2) (by decide)
    rw [F__law_loose]
    simp only [m__law_loose, sD, sL, qD, x_def, startE, x_seq, x_nx, x_rt, x_bk, x_ct, x_bind, x_pure, x_c, x_nil, x_cons, x_tup, x_lst, x_op2, x_op1, x_tru, x_notT, x_ite, x_ifS, x_andT, x_orT, x_and, x_or, x_chain, x_bi, x_biF, x_call, x_perm, x_it, x_ret, x_drop, x_next, x_set, x_setF, x_asg, x_aug, x_for, x_comp, x_cat, x_dSub, x_dAdd, x_dAddI, x_dLt, x_dLe, x_dGt, x_dGe, x_dNeg, x_dNot, x_dTru, x_dEq, x_dNe, x_var0, x_varS, Option.bind_some, Option.map_some, List.map_cons, List.map_nil, List.length_cons, List.length_nil, List.replicate_succ, List.replicate_zero, List.cons_append, List.nil_append, List.set_cons_zero, List.set_cons_succ, Bool.not_true, Bool.not_false, Bool.false_eq_true, if_true, if_false, decide_true, decide_false, decide_eq_true_eq, dIsN, dNotN, dIdx, dItems, at_int, at0, at1, at2, at3, cut2, gN, gT, gCo, gNl, wipeE, x_for_nil, x_for_cons, x_turn_nx, x_turn_ct, x_turn_bk, x_turn_rt, x_comp_nil, x_comp_cons, sz2, sz4, i_lt_int, i_lt_bl, i_lt_non, i_lt_lst, i_lt_tup, i_i_int, i_i_bl, i_b_int, i_b_bl, i_b_non, i_b_lst, i_b_tup, i_l_int, i_l_bl, i_l_non, i_l_lst, i_l_tup, i_t_int, i_t_lst, i_t_tup, i_d_int, i_d_bl, i_d_non, i_d_lst, i_d_tup, i_ltd_int, i_ltd_bl, i_ltd_non, l_lst, l_tup, t_lst, t_tup, a_lst, b_nil, b_cons, cut_lst, cut_tup, x_dEqb, x_dNeb, x_dEqn, x_zip, x_range1, x_range2, Int.cast_ofNat_Int, Nat.zero_add, List.all_cons, List.all_nil, id, Bool.and_true, Bool.true_and, Bool.and_false, Bool.false_and, Bool.or_true, Bool.true_or, Bool.or_false, Bool.false_or, Nat.reduceAdd, Nat.reduceSub, Int.reduceEq, Int.reduceLT, Int.reduceLE, Int.reduceNeg, szl0, szl1, szl2, szl3, szl4, szl5, szl6, szl7, szl8, szl9, szl10, x_extend, x_append, x_borT, x_frz, x_idxO, List.getElem?_cons_zero, List.getElem?_cons_succ, x_notIn, x_isIn, rg_m1, rg_m2, rg_2, rg_3, rg_5, x_abs, x_int, x_rep2, Int.reduceAdd, Int.reduceSub, Int.reduceToNat, and_self, ram3, rbm3, ram2, rbm2, ram1, rbm1, ra0, rb0, ra1, rb1, ra2, rb2, ra3, rb3, ra4, rb4, ra5, rb5, ra6, rb6, ra7, rb7, ra8, rb8, ra9, rb9, ra10, rb10, ra11, rb11, ra12, rb12, ra13, rb13, ra20, rb20, ra24, rb24, loose_o, loose_int, e]
    by_cases h0 : k = 0
    · refine ⟨true, S1, ?_⟩; simp only [x_def, startE, x_seq, x_nx, x_rt, x_bk, x_ct, x_bind, x_pure, x_c, x_nil, x_cons, x_tup, x_lst, x_op2, x_op1, x_tru, x_notT, x_ite, x_ifS, x_andT, x_orT, x_and, x_or, x_chain, x_bi, x_biF, x_call, x_perm, x_it, x_ret, x_drop, x_next, x_set, x_setF, x_asg, x_aug, x_for, x_comp, x_cat, x_dSub, x_dAdd, x_dAddI, x_dLt, x_dLe, x_dGt, x_dGe, x_dNeg, x_dNot, x_dTru, x_dEq, x_dNe, x_var0, x_varS, Option.bind_some, Option.map_some, List.map_cons, List.map_nil, List.length_cons, List.length_nil, List.replicate_succ, List.replicate_zero, List.cons_append, List.nil_append, List.set_cons_zero, List.set_cons_succ, Bool.not_true, Bool.not_false, Bool.false_eq_true, if_true, if_false, decide_true, decide_false, decide_eq_true_eq, dIsN, dNotN, dIdx, dItems, at_int, at0, at1, at2, at3, cut2, gN, gT, gCo, gNl, wipeE, x_for_nil, x_for_cons, x_turn_nx, x_turn_ct, x_turn_bk, x_turn_rt, x_comp_nil, x_comp_cons, sz2, sz4, i_lt_int, i_lt_bl, i_lt_non, i_lt_lst, i_lt_tup, i_i_int, i_i_bl, i_b_int, i_b_bl, i_b_non, i_b_lst, i_b_tup, i_l_int, i_l_bl, i_l_non, i_l_lst, i_l_tup, i_t_int, i_t_lst, i_t_tup, i_d_int, i_d_bl, i_d_non, i_d_lst, i_d_tup, i_ltd_int, i_ltd_bl, i_ltd_non, l_lst, l_tup, t_lst, t_tup, a_lst, b_nil, b_cons, cut_lst, cut_tup, x_dEqb, x_dNeb, x_dEqn, x_zip, x_range1, x_range2, Int.cast_ofNat_Int, Nat.zero_add, List.all_cons, List.all_nil, id, Bool.and_true, Bool.true_and, Bool.and_false, Bool.false_and, Bool.or_true, Bool.true_or, Bool.or_false, Bool.false_or, Nat.reduceAdd, Nat.reduceSub, Int.reduceEq, Int.reduceLT, Int.reduceLE, Int.reduceNeg, szl0, szl1, szl2, szl3, szl4, szl5, szl6, szl7, szl8, szl9, szl10, x_extend, x_append, x_borT, x_frz, x_idxO, List.getElem?_cons_zero, List.getElem?_cons_succ, x_notIn, x_isIn, rg_m1, rg_m2, rg_2, rg_3, rg_5, x_abs, x_int, x_rep2, Int.reduceAdd, Int.reduceSub, Int.reduceToNat, and_self, ram3, rbm3, ram2, rbm2, ram1, rbm1, ra0, rb0, ra1, rb1, ra2, rb2, ra3, rb3, ra4, rb4, ra5, rb5, ra6, rb6, ra7, rb7, ra8, rb8, ra9, rb9, ra10, rb10, ra11, rb11, ra12, rb12, ra13, rb13, ra20, rb20, ra24, rb24, h0]
    · refine ⟨false, S1, ?_⟩; simp only [x_def, startE, x_seq, x_nx, x_rt, x_bk, x_ct, x_bind, x_pure, x_c, x_nil, x_cons, x_tup, x_lst, x_op2, x_op1, x_tru, x_notT, x_ite, x_ifS, x_andT, x_orT, x_and, x_or, x_chain, x_bi, x_biF, x_call, x_perm, x_it, x_ret, x_drop, x_next, x_set, x_setF, x_asg, x_aug, x_for, x_comp, x_cat, x_dSub, x_dAdd, x_dAddI, x_dLt, x_dLe, x_dGt, x_dGe, x_dNeg, x_dNot, x_dTru, x_dEq, x_dNe, x_var0, x_varS, Option.bind_some, Option.map_some, List.map_cons, List.map_nil, List.length_cons, List.length_nil, List.replicate_succ, List.replicate_zero, List.cons_append, List.nil_append, List.set_cons_zero, List.set_cons_succ, Bool.not_true, Bool.not_false, Bool.false_eq_true, if_true, if_false, decide_true, decide_false, decide_eq_true_eq, dIsN, dNotN, dIdx, dItems, at_int, at0, at1, at2, at3, cut2, gN, gT, gCo, gNl, wipeE, x_for_nil, x_for_cons, x_turn_nx, x_turn_ct, x_turn_bk, x_turn_rt, x_comp_nil, x_comp_cons, sz2, sz4, i_lt_int, i_lt_bl, i_lt_non, i_lt_lst, i_lt_tup, i_i_int, i_i_bl, i_b_int, i_b_bl, i_b_non, i_b_lst, i_b_tup, i_l_int, i_l_bl, i_l_non, i_l_lst, i_l_tup, i_t_int, i_t_lst, i_t_tup, i_d_int, i_d_bl, i_d_non, i_d_lst, i_d_tup, i_ltd_int, i_ltd_bl, i_ltd_non, l_lst, l_tup, t_lst, t_tup, a_lst, b_nil, b_cons, cut_lst, cut_tup, x_dEqb, x_dNeb, x_dEqn, x_zip, x_range1, x_range2, Int.cast_ofNat_Int, Nat.zero_add, List.all_cons, List.all_nil, id, Bool.and_true, Bool.true_and, Bool.and_false, Bool.false_and, Bool.or_true, Bool.true_or, Bool.or_false, Bool.false_or, Nat.reduceAdd, Nat.reduceSub, Int.reduceEq, Int.reduceLT, Int.reduceLE, Int.reduceNeg, szl0, szl1, szl2, szl3, szl4, szl5, szl6, szl7, szl8, szl9, szl10, x_extend, x_append, x_borT, x_frz, x_idxO, List.getElem?_cons_zero, List.getElem?_cons_succ, x_notIn, x_isIn, rg_m1, rg_m2, rg_2, rg_3, rg_5, x_abs, x_int, x_rep2, Int.reduceAdd, Int.reduceSub, Int.reduceToNat, and_self, ram3, rbm3, ram2, rbm2, ram1, rbm1, ra0, rb0, ra1, rb1, ra2, rb2, ra3, rb3, ra4, rb4, ra5, rb5, ra6, rb6, ra7, rb7, ra8, rb8, ra9, rb9, ra10, rb10, ra11, rb11, ra12, rb12, ra13, rb13, ra20, rb20, ra24, rb24, h0]
theorem v_has {s : ST} (hv : Vd s) (t : Bool) (n : Int) (S : Strm) : F_strip_has [sL t s, .int n] S = some (.bl (inB s n), S) := by
  have ec := fun S => v_check hv t S
  cases hv with
  | none => simp only [F_strip_has, m_strip_has, F_has, m_has, sL, x_def, startE, x_seq, x_nx, x_rt, x_bk, x_ct, x_bind, x_pure, x_c, x_nil, x_cons, x_tup, x_lst, x_op2, x_op1, x_tru, x_notT, x_ite, x_ifS, x_andT, x_orT, x_and, x_or, x_chain, x_bi, x_biF, x_call, x_perm, x_it, x_ret, x_drop, x_next, x_set, x_setF, x_asg, x_aug, x_for, x_comp, x_cat, x_dSub, x_dAdd, x_dAddI, x_dLt, x_dLe, x_dGt, x_dGe, x_dNeg, x_dNot, x_dTru, x_dEq, x_dNe, x_var0, x_varS, Option.bind_some, Option.map_some, List.map_cons, List.map_nil, List.length_cons, List.length_nil, List.replicate_succ, List.replicate_zero, List.cons_append, List.nil_append, List.set_cons_zero, List.set_cons_succ, Bool.not_true, Bool.not_false, Bool.false_eq_true, if_true, if_false, decide_true, decide_false, decide_eq_true_eq, dIsN, dNotN, dIdx, dItems, at_int, at0, at1, at2, at3, cut2, gN, gT, gCo, gNl, wipeE, x_for_nil, x_for_cons, x_turn_nx, x_turn_ct, x_turn_bk, x_turn_rt, x_comp_nil, x_comp_cons, sz2, sz4, i_lt_int, i_lt_bl, i_lt_non, i_lt_lst, i_lt_tup, i_i_int, i_i_bl, i_b_int, i_b_bl, i_b_non, i_b_lst, i_b_tup, i_l_int, i_l_bl, i_l_non, i_l_lst, i_l_tup, i_t_int, i_t_lst, i_t_tup, i_d_int, i_d_bl, i_d_non, i_d_lst, i_d_tup, i_ltd_int, i_ltd_bl, i_ltd_non, l_lst, l_tup, t_lst, t_tup, a_lst, b_nil, b_cons, cut_lst, cut_tup, x_dEqb, x_dNeb, x_dEqn, x_zip, x_range1, x_range2, Int.cast_ofNat_Int, Nat.zero_add, List.all_cons, List.all_nil, id, Bool.and_true, Bool.true_and, Bool.and_false, Bool.false_and, Bool.or_true, Bool.true_or, Bool.or_false, Bool.false_or, Nat.reduceAdd, Nat.reduceSub, Int.reduceEq, Int.reduceLT, Int.reduceLE, Int.reduceNeg, szl0, szl1, szl2, szl3, szl4, szl5, szl6, szl7, szl8, szl9, szl10, x_extend, x_append, x_borT, x_frz, x_idxO, List.getElem?_cons_zero, List.getElem?_cons_succ, x_notIn, x_isIn, rg_m1, rg_m2, rg_2, rg_3, rg_5, x_abs, x_int, x_rep2, Int.reduceAdd, Int.reduceSub, Int.reduceToNat, and_self, ram3, rbm3, ram2, rbm2, ram1, rbm1, ra0, rb0, ra1, rb1, ra2, rb2, ra3, rb3, ra4, rb4, ra5, rb5, ra6, rb6, ra7, rb7, ra8, rb8, ra9, rb9, ra10, rb10, ra11, rb11, ra12, rb12, ra13, rb13, ra20, rb20, ra24, rb24, inB] at ec ⊢; simp only [ec, v_checkint, x_def, startE, x_seq, x_nx, x_rt, x_bk, x_ct, x_bind, x_pure, x_c, x_nil, x_cons, x_tup, x_lst, x_op2, x_op1, x_tru, x_notT, x_ite, x_ifS, x_andT, x_orT, x_and, x_or, x_chain, x_bi, x_biF, x_call, x_perm, x_it, x_ret, x_drop, x_next, x_set, x_setF, x_asg, x_aug, x_for, x_comp, x_cat, x_dSub, x_dAdd, x_dAddI, x_dLt, x_dLe, x_dGt, x_dGe, x_dNeg, x_dNot, x_dTru, x_dEq, x_dNe, x_var0, x_varS, Option.bind_some, Option.map_some, List.map_cons, List.map_nil, List.length_cons, List.length_nil, List.replicate_succ, List.replicate_zero, List.cons_append, List.nil_append, List.set_cons_zero, List.set_cons_succ, Bool.not_true, Bool.not_false, Bool.false_eq_true, if_true, if_false, decide_true, decide_false, decide_eq_true_eq, dIsN, dNotN, dIdx, dItems, at_int, at0, at1, at2, at3, cut2, gN, gT, gCo, gNl, wipeE, x_for_nil, x_for_cons, x_turn_nx, x_turn_ct, x_turn_bk, x_turn_rt, x_comp_nil, x_comp_cons, sz2, sz4, i_lt_int, i_lt_bl, i_lt_non, i_lt_lst, i_lt_tup, i_i_int, i_i_bl, i_b_int, i_b_bl, i_b_non, i_b_lst, i_b_tup, i_l_int, i_l_bl, i_l_non, i_l_lst, i_l_tup, i_t_int, i_t_lst, i_t_tup, i_d_int, i_d_bl, i_d_non, i_d_lst, i_d_tup, i_ltd_int, i_ltd_bl, i_ltd_non, l_lst, l_tup, t_lst, t_tup, a_lst, b_nil, b_cons, cut_lst, cut_tup, x_dEqb, x_dNeb, x_dEqn, x_zip, x_range1, x_range2, Int.cast_ofNat_Int, Nat.zero_add, List.all_cons, List.all_nil, id, Bool.and_true, Bool.true_and, Bool.and_false, Bool.false_and, Bool.or_true, Bool.true_or, Bool.or_false, Bool.false_or, Nat.reduceAdd, Nat.reduceSub, Int.reduceEq, Int.reduceLT, Int.reduceLE, Int.reduceNeg, szl0, szl1, szl2, szl3, szl4, szl5, szl6, szl7, szl8, szl9, szl10, x_extend, x_append, x_borT, x_frz, x_idxO, List.getElem?_cons_zero, List.getElem?_cons_succ, x_notIn, x_isIn, rg_m1, rg_m2, rg_2, rg_3, rg_5, x_abs, x_int, x_rep2, Int.reduceAdd, Int.reduceSub, Int.reduceToNat, and_self, ram3, rbm3, ram2, rbm2, ram1, rbm1, ra0, rb0, ra1, rb1, ra2, rb2, ra3, rb3, ra4, rb4, ra5, rb5, ra6, rb6, ra7, rb7, ra8, rb8, ra9, rb9, ra10, rb10, ra11, rb11, ra12, rb12, ra13, rb13, ra20, rb20, ra24, rb24]
  | one r =>
    cases t <;> simp only [sL, qD, oD, Bool.false_eq_true, if_true, if_false] at ec ⊢ <;>
      (simp only [F_strip_has, m_strip_has, F_has, m_has, x_def, startE, x_seq, x_nx, x_rt, x_bk, x_ct, x_bind, x_pure, x_c, x_nil, x_cons, x_tup, x_lst, x_op2, x_op1, x_tru, x_notT, x_ite, x_ifS, x_andT, x_orT, x_and, x_or, x_chain, x_bi, x_biF, x_call, x_perm, x_it, x_ret, x_drop, x_next, x_set, x_setF, x_asg, x_aug, x_for, x_comp, x_cat, x_dSub, x_dAdd, x_dAddI, x_dLt, x_dLe, x_dGt, x_dGe, x_dNeg, x_dNot, x_dTru, x_dEq, x_dNe, x_var0, x_varS, Option.bind_some, Option.map_some, List.map_cons, List.map_nil, List.length_cons, List.length_nil, List.replicate_succ, List.replicate_zero, List.cons_append, List.nil_append, List.set_cons_zero, List.set_cons_succ, Bool.not_true, Bool.not_false, Bool.false_eq_true, if_true, if_false, decide_true, decide_false, decide_eq_true_eq, dIsN, dNotN, dIdx, dItems, at_int, at0, at1, at2, at3, cut2, gN, gT, gCo, gNl, wipeE, x_for_nil, x_for_cons, x_turn_nx, x_turn_ct, x_turn_bk, x_turn_rt, x_comp_nil, x_comp_cons, sz2, sz4, i_lt_int, i_lt_bl, i_lt_non, i_lt_lst, i_lt_tup, i_i_int, i_i_bl, i_b_int, i_b_bl, i_b_non, i_b_lst, i_b_tup, i_l_int, i_l_bl, i_l_non, i_l_lst, i_l_tup, i_t_int, i_t_lst, i_t_tup, i_d_int, i_d_bl, i_d_non, i_d_lst, i_d_tup, i_ltd_int, i_ltd_bl, i_ltd_non, l_lst, l_tup, t_lst, t_tup, a_lst, b_nil, b_cons, cut_lst, cut_tup, x_dEqb, x_dNeb, x_dEqn, x_zip, x_range1, x_range2, Int.cast_ofNat_Int, Nat.zero_add, List.all_cons, List.all_nil, id, Bool.and_true, Bool.true_and, Bool.and_false, Bool.false_and, Bool.or_true, Bool.true_or, Bool.or_false, Bool.false_or, Nat.reduceAdd, Nat.reduceSub, Int.reduceEq, Int.reduceLT, Int.reduceLE, Int.reduceNeg, szl0, szl1, szl2, szl3, szl4, szl5, szl6, szl7, szl8, szl9, szl10, x_extend, x_append, x_borT, x_frz, x_idxO, List.getElem?_cons_zero, List.getElem?_cons_succ, x_notIn, x_isIn, rg_m1, rg_m2, rg_2, rg_3, rg_5, x_abs, x_int, x_rep2, Int.reduceAdd, Int.reduceSub, Int.reduceToNat, and_self, ram3, rbm3, ram2, rbm2, ram1, rbm1, ra0, rb0, ra1, rb1, ra2, rb2, ra3, rb3, ra4, rb4, ra5, rb5, ra6, rb6, ra7, rb7, ra8, rb8, ra9, rb9, ra10, rb10, ra11, rb11, ra12, rb12, ra13, rb13, ra20, rb20, ra24, rb24, inB, ec, v_checkint]
       by_cases k1 : n < r <;> by_cases k2 : r < n <;> simp [x_def, startE, x_seq, x_nx, x_rt, x_bk, x_ct, x_bind, x_pure, x_c, x_nil, x_cons, x_tup, x_lst, x_op2, x_op1, x_tru, x_notT, x_ite, x_ifS, x_andT, x_orT, x_and, x_or, x_chain, x_bi, x_biF, x_call, x_perm, x_it, x_ret, x_drop, x_next, x_set, x_setF, x_asg, x_aug, x_for, x_comp, x_cat, x_dSub, x_dAdd, x_dAddI, x_dLt, x_dLe, x_dGt, x_dGe, x_dNeg, x_dNot, x_dTru, x_dEq, x_dNe, x_var0, x_varS, Option.bind_some, Option.map_some, List.map_cons, List.map_nil, List.length_cons, List.length_nil, List.replicate_succ, List.replicate_zero, List.cons_append, List.nil_append, List.set_cons_zero, List.set_cons_succ, Bool.not_true, Bool.not_false, Bool.false_eq_true, if_true, if_false, decide_true, decide_false, decide_eq_true_eq, dIsN, dNotN, dIdx, dItems, at_int, at0, at1, at2, at3, cut2, gN, gT, gCo, gNl, wipeE, x_for_nil, x_for_cons, x_turn_nx, x_turn_ct, x_turn_bk, x_turn_rt, x_comp_nil, x_comp_cons, sz2, sz4, i_lt_int, i_lt_bl, i_lt_non, i_lt_lst, i_lt_tup, i_i_int, i_i_bl, i_b_int, i_b_bl, i_b_non, i_b_lst, i_b_tup, i_l_int, i_l_bl, i_l_non, i_l_lst, i_l_tup, i_t_int, i_t_lst, i_t_tup, i_d_int, i_d_bl, i_d_non, i_d_lst, i_d_tup, i_ltd_int, i_ltd_bl, i_ltd_non, l_lst, l_tup, t_lst, t_tup, a_lst, b_nil, b_cons, cut_lst, cut_tup, x_dEqb, x_dNeb, x_dEqn, x_zip, x_range1, x_range2, Int.cast_ofNat_Int, Nat.zero_add, List.all_cons, List.all_nil, id, Bool.and_true, Bool.true_and, Bool.and_false, Bool.false_and, Bool.or_true, Bool.true_or, Bool.or_false, Bool.false_or, Nat.reduceAdd, Nat.reduceSub, Int.reduceEq, Int.reduceLT, Int.reduceLE, Int.reduceNeg, szl0, szl1, szl2, szl3, szl4, szl5, szl6, szl7, szl8, szl9, szl10, x_extend, x_append, x_borT, x_frz, x_idxO, List.getElem?_cons_zero, List.getElem?_cons_succ, x_notIn, x_isIn, rg_m1, rg_m2, rg_2, rg_3, rg_5, x_abs, x_int, x_rep2, Int.reduceAdd, Int.reduceSub, Int.reduceToNat, and_self, ram3, rbm3, ram2, rbm2, ram1, rbm1, ra0, rb0, ra1, rb1, ra2, rb2, ra3, rb3, ra4, rb4, ra5, rb5, ra6, rb6, ra7, rb7, ra8, rb8, ra9, rb9, ra10, rb10, ra11, rb11, ra12, rb12, ra13, rb13, ra20, rb20, ra24, rb24, k1, k2, v_rest_has0])
  | @all m r hm h0 h1 =>
    have hz : ¬ m = 0 := by omega
    cases t <;> simp only [sL, qD, oD, Bool.false_eq_true, if_true, if_false] at ec ⊢ <;>
      simp only [F_strip_has, m_strip_has, F_has, m_has, x_def, startE, x_seq, x_nx, x_rt, x_bk, x_ct, x_bind, x_pure, x_c, x_nil, x_cons, x_tup, x_lst, x_op2, x_op1, x_tru, x_notT, x_ite, x_ifS, x_andT, x_orT, x_and, x_or, x_chain, x_bi, x_biF, x_call, x_perm, x_it, x_ret, x_drop, x_next, x_set, x_setF, x_asg, x_aug, x_for, x_comp, x_cat, x_dSub, x_dAdd, x_dAddI, x_dLt, x_dLe, x_dGt, x_dGe, x_dNeg, x_dNot, x_dTru, x_dEq, x_dNe, x_var0, x_varS, Option.bind_some, Option.map_some, List.map_cons, List.map_nil, List.length_cons, List.length_nil, List.replicate_succ, List.replicate_zero, List.cons_append, List.nil_append, List.set_cons_zero, List.set_cons_succ, Bool.not_true, Bool.not_false, Bool.false_eq_true, if_true, if_false, decide_true, decide_false, decide_eq_true_eq, dIsN, dNotN, dIdx, dItems, at_int, at0, at1, at2, at3, cut2, gN, gT, gCo, gNl, wipeE, x_for_nil, x_for_cons, x_turn_nx, x_turn_ct, x_turn_bk, x_turn_rt, x_comp_nil, x_comp_cons, sz2, sz4, i_lt_int, i_lt_bl, i_lt_non, i_lt_lst, i_lt_tup, i_i_int, i_i_bl, i_b_int, i_b_bl, i_b_non, i_b_lst, i_b_tup, i_l_int, i_l_bl, i_l_non, i_l_lst, i_l_tup, i_t_int, i_t_lst, i_t_tup, i_d_int, i_d_bl, i_d_non, i_d_lst, i_d_tup, i_ltd_int, i_ltd_bl, i_ltd_non, l_lst, l_tup, t_lst, t_tup, a_lst, b_nil, b_cons, cut_lst, cut_tup, x_dEqb, x_dNeb, x_dEqn, x_zip, x_range1, x_range2, Int.cast_ofNat_Int, Nat.zero_add, List.all_cons, List.all_nil, id, Bool.and_true, Bool.true_and, Bool.and_false, Bool.false_and, Bool.or_true, Bool.true_or, Bool.or_false, Bool.false_or, Nat.reduceAdd, Nat.reduceSub, Int.reduceEq, Int.reduceLT, Int.reduceLE, Int.reduceNeg, szl0, szl1, szl2, szl3, szl4, szl5, szl6, szl7, szl8, szl9, szl10, x_extend, x_append, x_borT, x_frz, x_idxO, List.getElem?_cons_zero, List.getElem?_cons_succ, x_notIn, x_isIn, rg_m1, rg_m2, rg_2, rg_3, rg_5, x_abs, x_int, x_rep2, Int.reduceAdd, Int.reduceSub, Int.reduceToNat, and_self, ram3, rbm3, ram2, rbm2, ram1, rbm1, ra0, rb0, ra1, rb1, ra2, rb2, ra3, rb3, ra4, rb4, ra5, rb5, ra6, rb6, ra7, rb7, ra8, rb8, ra9, rb9, ra10, rb10, ra11, rb11, ra12, rb12, ra13, rb13, ra20, rb20, ra24, rb24, inB, ec, v_checkint, v_rest_has hm, hz]
  | @lo a m r hm h0 h1 ha =>
    have hz : ¬ m = 0 := by omega
    cases t <;> simp only [sL, qD, oD, Bool.false_eq_true, if_true, if_false] at ec ⊢ <;>
      (simp only [F_strip_has, m_strip_has, F_has, m_has, x_def, startE, x_seq, x_nx, x_rt, x_bk, x_ct, x_bind, x_pure, x_c, x_nil, x_cons, x_tup, x_lst, x_op2, x_op1, x_tru, x_notT, x_ite, x_ifS, x_andT, x_orT, x_and, x_or, x_chain, x_bi, x_biF, x_call, x_perm, x_it, x_ret, x_drop, x_next, x_set, x_setF, x_asg, x_aug, x_for, x_comp, x_cat, x_dSub, x_dAdd, x_dAddI, x_dLt, x_dLe, x_dGt, x_dGe, x_dNeg, x_dNot, x_dTru, x_dEq, x_dNe, x_var0, x_varS, Option.bind_some, Option.map_some, List.map_cons, List.map_nil, List.length_cons, List.length_nil, List.replicate_succ, List.replicate_zero, List.cons_append, List.nil_append, List.set_cons_zero, List.set_cons_succ, Bool.not_true, Bool.not_false, Bool.false_eq_true, if_true, if_false, decide_true, decide_false, decide_eq_true_eq, dIsN, dNotN, dIdx, dItems, at_int, at0, at1, at2, at3, cut2, gN, gT, gCo, gNl, wipeE, x_for_nil, x_for_cons, x_turn_nx, x_turn_ct, x_turn_bk, x_turn_rt, x_comp_nil, x_comp_cons, sz2, sz4, i_lt_int, i_lt_bl, i_lt_non, i_lt_lst, i_lt_tup, i_i_int, i_i_bl, i_b_int, i_b_bl, i_b_non, i_b_lst, i_b_tup, i_l_int, i_l_bl, i_l_non, i_l_lst, i_l_tup, i_t_int, i_t_lst, i_t_tup, i_d_int, i_d_bl, i_d_non, i_d_lst, i_d_tup, i_ltd_int, i_ltd_bl, i_ltd_non, l_lst, l_tup, t_lst, t_tup, a_lst, b_nil, b_cons, cut_lst, cut_tup, x_dEqb, x_dNeb, x_dEqn, x_zip, x_range1, x_range2, Int.cast_ofNat_Int, Nat.zero_add, List.all_cons, List.all_nil, id, Bool.and_true, Bool.true_and, Bool.and_false, Bool.false_and, Bool.or_true, Bool.true_or, Bool.or_false, Bool.false_or, Nat.reduceAdd, Nat.reduceSub, Int.reduceEq, Int.reduceLT, Int.reduceLE, Int.reduceNeg, szl0, szl1, szl2, szl3, szl4, szl5, szl6, szl7, szl8, szl9, szl10, x_extend, x_append, x_borT, x_frz, x_idxO, List.getElem?_cons_zero, List.getElem?_cons_succ, x_notIn, x_isIn, rg_m1, rg_m2, rg_2, rg_3, rg_5, x_abs, x_int, x_rep2, Int.reduceAdd, Int.reduceSub, Int.reduceToNat, and_self, ram3, rbm3, ram2, rbm2, ram1, rbm1, ra0, rb0, ra1, rb1, ra2, rb2, ra3, rb3, ra4, rb4, ra5, rb5, ra6, rb6, ra7, rb7, ra8, rb8, ra9, rb9, ra10, rb10, ra11, rb11, ra12, rb12, ra13, rb13, ra20, rb20, ra24, rb24, inB, ec, v_checkint]
       by_cases k1 : n < a <;> simp [x_def, startE, x_seq, x_nx, x_rt, x_bk, x_ct, x_bind, x_pure, x_c, x_nil, x_cons, x_tup, x_lst, x_op2, x_op1, x_tru, x_notT, x_ite, x_ifS, x_andT, x_orT, x_and, x_or, x_chain, x_bi, x_biF, x_call, x_perm, x_it, x_ret, x_drop, x_next, x_set, x_setF, x_asg, x_aug, x_for, x_comp, x_cat, x_dSub, x_dAdd, x_dAddI, x_dLt, x_dLe, x_dGt, x_dGe, x_dNeg, x_dNot, x_dTru, x_dEq, x_dNe, x_var0, x_varS, Option.bind_some, Option.map_some, List.map_cons, List.map_nil, List.length_cons, List.length_nil, List.replicate_succ, List.replicate_zero, List.cons_append, List.nil_append, List.set_cons_zero, List.set_cons_succ, Bool.not_true, Bool.not_false, Bool.false_eq_true, if_true, if_false, decide_true, decide_false, decide_eq_true_eq, dIsN, dNotN, dIdx, dItems, at_int, at0, at1, at2, at3, cut2, gN, gT, gCo, gNl, wipeE, x_for_nil, x_for_cons, x_turn_nx, x_turn_ct, x_turn_bk, x_turn_rt, x_comp_nil, x_comp_cons, sz2, sz4, i_lt_int, i_lt_bl, i_lt_non, i_lt_lst, i_lt_tup, i_i_int, i_i_bl, i_b_int, i_b_bl, i_b_non, i_b_lst, i_b_tup, i_l_int, i_l_bl, i_l_non, i_l_lst, i_l_tup, i_t_int, i_t_lst, i_t_tup, i_d_int, i_d_bl, i_d_non, i_d_lst, i_d_tup, i_ltd_int, i_ltd_bl, i_ltd_non, l_lst, l_tup, t_lst, t_tup, a_lst, b_nil, b_cons, cut_lst, cut_tup, x_dEqb, x_dNeb, x_dEqn, x_zip, x_range1, x_range2, Int.cast_ofNat_Int, Nat.zero_add, List.all_cons, List.all_nil, id, Bool.and_true, Bool.true_and, Bool.and_false, Bool.false_and, Bool.or_true, Bool.true_or, Bool.or_false, Bool.false_or, Nat.reduceAdd, Nat.reduceSub, Int.reduceEq, Int.reduceLT, Int.reduceLE, Int.reduceNeg, szl0, szl1, szl2, szl3, szl4, szl5, szl6, szl7, szl8, szl9, szl10, x_extend, x_append, x_borT, x_frz, x_idxO, List.getElem?_cons_zero, List.getElem?_cons_succ, x_notIn, x_isIn, rg_m1, rg_m2, rg_2, rg_3, rg_5, x_abs, x_int, x_rep2, Int.reduceAdd, Int.reduceSub, Int.reduceToNat, and_self, ram3, rbm3, ram2, rbm2, ram1, rbm1, ra0, rb0, ra1, rb1, ra2, rb2, ra3, rb3, ra4, rb4, ra5, rb5, ra6, rb6, ra7, rb7, ra8, rb8, ra9, rb9, ra10, rb10, ra11, rb11, ra12, rb12, ra13, rb13, ra20, rb20, ra24, rb24, k1, v_rest_has hm, hz])
  | @hi a m r hm h0 h1 ha =>
    have hz : ¬ m = 0 := by omega
    cases t <;> simp only [sL, qD, oD, Bool.false_eq_true, if_true, if_false] at ec ⊢ <;>
      (simp only [F_strip_has, m_strip_has, F_has, m_has, x_def, startE, x_seq, x_nx, x_rt, x_bk, x_ct, x_bind, x_pure, x_c, x_nil, x_cons, x_tup, x_lst, x_op2, x_op1, x_tru, x_notT, x_ite, x_ifS, x_andT, x_orT, x_and, x_or, x_chain, x_bi, x_biF, x_call, x_perm, x_it, x_ret, x_drop, x_next, x_set, x_setF, x_asg, x_aug, x_for, x_comp, x_cat, x_dSub, x_dAdd, x_dAddI, x_dLt, x_dLe, x_dGt, x_dGe, x_dNeg, x_dNot, x_dTru, x_dEq, x_dNe, x_var0, x_varS, Option.bind_some, Option.map_some, List.map_cons, List.map_nil, List.length_cons, List.length_nil, List.replicate_succ, List.replicate_zero, List.cons_append, List.nil_append, List.set_cons_zero, List.set_cons_succ, Bool.not_true, Bool.not_false, Bool.false_eq_true, if_true, if_false, decide_true, decide_false, decide_eq_true_eq, dIsN, dNotN, dIdx, dItems, at_int, at0, at1, at2, at3, cut2, gN, gT, gCo, gNl, wipeE, x_for_nil, x_for_cons, x_turn_nx, x_turn_ct, x_turn_bk, x_turn_rt, x_comp_nil, x_comp_cons, sz2, sz4, i_lt_int, i_lt_bl, i_lt_non, i_lt_lst, i_lt_tup, i_i_int, i_i_bl, i_b_int, i_b_bl, i_b_non, i_b_lst, i_b_tup, i_l_int, i_l_bl, i_l_non, i_l_lst, i_l_tup, i_t_int, i_t_lst, i_t_tup, i_d_int, i_d_bl, i_d_non, i_d_lst, i_d_tup, i_ltd_int, i_ltd_bl, i_ltd_non, l_lst, l_tup, t_lst, t_tup, a_lst, b_nil, b_cons, cut_lst, cut_tup, x_dEqb, x_dNeb, x_dEqn, x_zip, x_range1, x_range2, Int.cast_ofNat_Int, Nat.zero_add, List.all_cons, List.all_nil, id, Bool.and_true, Bool.true_and, Bool.and_false, Bool.false_and, Bool.or_true, Bool.true_or, Bool.or_false, Bool.false_or, Nat.reduceAdd, Nat.reduceSub, Int.reduceEq, Int.reduceLT, Int.reduceLE, Int.reduceNeg, szl0, szl1, szl2, szl3, szl4, szl5, szl6, szl7, szl8, szl9, szl10, x_extend, x_append, x_borT, x_frz, x_idxO, List.getElem?_cons_zero, List.getElem?_cons_succ, x_notIn, x_isIn, rg_m1, rg_m2, rg_2, rg_3, rg_5, x_abs, x_int, x_rep2, Int.reduceAdd, Int.reduceSub, Int.reduceToNat, and_self, ram3, rbm3, ram2, rbm2, ram1, rbm1, ra0, rb0, ra1, rb1, ra2, rb2, ra3, rb3, ra4, rb4, ra5, rb5, ra6, rb6, ra7, rb7, ra8, rb8, ra9, rb9, ra10, rb10, ra11, rb11, ra12, rb12, ra13, rb13, ra20, rb20, ra24, rb24, inB, ec, v_checkint]
       by_cases k1 : a < n <;> simp [x_def, startE, x_seq, x_nx, x_rt, x_bk, x_ct, x_bind, x_pure, x_c, x_nil, x_cons, x_tup, x_lst, x_op2, x_op1, x_tru, x_notT, x_ite, x_ifS, x_andT, x_orT, x_and, x_or, x_chain, x_bi, x_biF, x_call, x_perm, x_it, x_ret, x_drop, x_next, x_set, x_setF, x_asg, x_aug, x_for, x_comp, x_cat, x_dSub, x_dAdd, x_dAddI, x_dLt, x_dLe, x_dGt, x_dGe, x_dNeg, x_dNot, x_dTru, x_dEq, x_dNe, x_var0, x_varS, Option.bind_some, Option.map_some, List.map_cons, List.map_nil, List.length_cons, List.length_nil, List.replicate_succ, List.replicate_zero, List.cons_append, List.nil_append, List.set_cons_zero, List.set_cons_succ, Bool.not_true, Bool.not_false, Bool.false_eq_true, if_true, if_false, decide_true, decide_false, decide_eq_true_eq, dIsN, dNotN, dIdx, dItems, at_int, at0, at1, at2, at3, cut2, gN, gT, gCo, gNl, wipeE, x_for_nil, x_for_cons, x_turn_nx, x_turn_ct, x_turn_bk, x_turn_rt, x_comp_nil, x_comp_cons, sz2, sz4, i_lt_int, i_lt_bl, i_lt_non, i_lt_lst, i_lt_tup, i_i_int, i_i_bl, i_b_int, i_b_bl, i_b_non, i_b_lst, i_b_tup, i_l_int, i_l_bl, i_l_non, i_l_lst, i_l_tup, i_t_int, i_t_lst, i_t_tup, i_d_int, i_d_bl, i_d_non, i_d_lst, i_d_tup, i_ltd_int, i_ltd_bl, i_ltd_non, l_lst, l_tup, t_lst, t_tup, a_lst, b_nil, b_cons, cut_lst, cut_tup, x_dEqb, x_dNeb, x_dEqn, x_zip, x_range1, x_range2, Int.cast_ofNat_Int, Nat.zero_add, List.all_cons, List.all_nil, id, Bool.and_true, Bool.true_and, Bool.and_false, Bool.false_and, Bool.or_true, Bool.true_or, Bool.or_false, Bool.false_or, Nat.reduceAdd, Nat.reduceSub, Int.reduceEq, Int.reduceLT, Int.reduceLE, Int.reduceNeg, szl0, szl1, szl2, szl3, szl4, szl5, szl6, szl7, szl8, szl9, szl10, x_extend, x_append, x_borT, x_frz, x_idxO, List.getElem?_cons_zero, List.getElem?_cons_succ, x_notIn, x_isIn, rg_m1, rg_m2, rg_2, rg_3, rg_5, x_abs, x_int, x_rep2, Int.reduceAdd, Int.reduceSub, Int.reduceToNat, and_self, ram3, rbm3, ram2, rbm2, ram1, rbm1, ra0, rb0, ra1, rb1, ra2, rb2, ra3, rb3, ra4, rb4, ra5, rb5, ra6, rb6, ra7, rb7, ra8, rb8, ra9, rb9, ra10, rb10, ra11, rb11, ra12, rb12, ra13, rb13, ra20, rb20, ra24, rb24, k1, v_rest_has hm, hz])
  | @both a b m r hm h0 h1 ha hb hab =>
    have hz : ¬ m = 0 := by omega
    cases t <;> simp only [sL, qD, oD, Bool.false_eq_true, if_true, if_false] at ec ⊢ <;>
      (simp only [F_strip_has, m_strip_has, F_has, m_has, x_def, startE, x_seq, x_nx, x_rt, x_bk, x_ct, x_bind, x_pure, x_c, x_nil, x_cons, x_tup, x_lst, x_op2, x_op1, x_tru, x_notT, x_ite, x_ifS, x_andT, x_orT, x_and, x_or, x_chain, x_bi, x_biF, x_call, x_perm, x_it, x_ret, x_drop, x_next, x_set, x_setF, x_asg, x_aug, x_for, x_comp, x_cat, x_dSub, x_dAdd, x_dAddI, x_dLt, x_dLe, x_dGt, x_dGe, x_dNeg, x_dNot, x_dTru, x_dEq, x_dNe, x_var0, x_varS, Option.bind_some, Option.map_some, List.map_cons, List.map_nil, List.length_cons, List.length_nil, List.replicate_succ, List.replicate_zero, List.cons_append, List.nil_append, List.set_cons_zero, List.set_cons_succ, Bool.not_true, Bool.not_false, Bool.false_eq_true, if_true, if_false, decide_true, decide_false, decide_eq_true_eq, dIsN, dNotN, dIdx, dItems, at_int, at0, at1, at2, at3, cut2, gN, gT, gCo, gNl, wipeE, x_for_nil, x_for_cons, x_turn_nx, x_turn_ct, x_turn_bk, x_turn_rt, x_comp_nil, x_comp_cons, sz2, sz4, i_lt_int, i_lt_bl, i_lt_non, i_lt_lst, i_lt_tup, i_i_int, i_i_bl, i_b_int, i_b_bl, i_b_non, i_b_lst, i_b_tup, i_l_int, i_l_bl, i_l_non, i_l_lst, i_l_tup, i_t_int, i_t_lst, i_t_tup, i_d_int, i_d_bl, i_d_non, i_d_lst, i_d_tup, i_ltd_int, i_ltd_bl, i_ltd_non, l_lst, l_tup, t_lst, t_tup, a_lst, b_nil, b_cons, cut_lst, cut_tup, x_dEqb, x_dNeb, x_dEqn, x_zip, x_range1, x_range2, Int.cast_ofNat_Int, Nat.zero_add, List.all_cons, List.all_nil, id, Bool.and_true, Bool.true_and, Bool.and_false, Bool.false_and, Bool.or_true, Bool.true_or, Bool.or_false, Bool.false_or, Nat.reduceAdd, Nat.reduceSub, Int.reduceEq, Int.reduceLT, Int.reduceLE, Int.reduceNeg, szl0, szl1, szl2, szl3, szl4, szl5, szl6, szl7, szl8, szl9, szl10, x_extend, x_append, x_borT, x_frz, x_idxO, List.getElem?_cons_zero, List.getElem?_cons_succ, x_notIn, x_isIn, rg_m1, rg_m2, rg_2, rg_3, rg_5, x_abs, x_int, x_rep2, Int.reduceAdd, Int.reduceSub, Int.reduceToNat, and_self, ram3, rbm3, ram2, rbm2, ram1, rbm1, ra0, rb0, ra1, rb1, ra2, rb2, ra3, rb3, ra4, rb4, ra5, rb5, ra6, rb6, ra7, rb7, ra8, rb8, ra9, rb9, ra10, rb10, ra11, rb11, ra12, rb12, ra13, rb13, ra20, rb20, ra24, rb24, inB, ec, v_checkint]
       by_cases k1 : n < a <;> by_cases k2 : b < n <;> simp [x_def, startE, x_seq, x_nx, x_rt, x_bk, x_ct, x_bind, x_pure, x_c, x_nil, x_cons, x_tup, x_lst, x_op2, x_op1, x_tru, x_notT, x_ite, x_ifS, x_andT, x_orT, x_and, x_or, x_chain, x_bi, x_biF, x_call, x_perm, x_it, x_ret, x_drop, x_next, x_set, x_setF, x_asg, x_aug, x_for, x_comp, x_cat, x_dSub, x_dAdd, x_dAddI, x_dLt, x_dLe, x_dGt, x_dGe, x_dNeg, x_dNot, x_dTru, x_dEq, x_dNe, x_var0, x_varS, Option.bind_some, Option.map_some, List.map_cons, List.map_nil, List.length_cons, List.length_nil, List.replicate_succ, List.replicate_zero, List.cons_append, List.nil_append, List.set_cons_zero, List.set_cons_succ, Bool.not_true, Bool.not_false, Bool.false_eq_true, if_true, if_false, decide_true, decide_false, decide_eq_true_eq, dIsN, dNotN, dIdx, dItems, at_int, at0, at1, at2, at3, cut2, gN, gT, gCo, gNl, wipeE, x_for_nil, x_for_cons, x_turn_nx, x_turn_ct, x_turn_bk, x_turn_rt, x_comp_nil, x_comp_cons, sz2, sz4, i_lt_int, i_lt_bl, i_lt_non, i_lt_lst, i_lt_tup, i_i_int, i_i_bl, i_b_int, i_b_bl, i_b_non, i_b_lst, i_b_tup, i_l_int, i_l_bl, i_l_non, i_l_lst, i_l_tup, i_t_int, i_t_lst, i_t_tup, i_d_int, i_d_bl, i_d_non, i_d_lst, i_d_tup, i_ltd_int, i_ltd_bl, i_ltd_non, l_lst, l_tup, t_lst, t_tup, a_lst, b_nil, b_cons, cut_lst, cut_tup, x_dEqb, x_dNeb, x_dEqn, x_zip, x_range1, x_range2, Int.cast_ofNat_Int, Nat.zero_add, List.all_cons, List.all_nil, id, Bool.and_true, Bool.true_and, Bool.and_false, Bool.false_and, Bool.or_true, Bool.true_or, Bool.or_false, Bool.false_or, Nat.reduceAdd, Nat.reduceSub, Int.reduceEq, Int.reduceLT, Int.reduceLE, Int.reduceNeg, szl0, szl1, szl2, szl3, szl4, szl5, szl6, szl7, szl8, szl9, szl10, x_extend, x_append, x_borT, x_frz, x_idxO, List.getElem?_cons_zero, List.getElem?_cons_succ, x_notIn, x_isIn, rg_m1, rg_m2, rg_2, rg_3, rg_5, x_abs, x_int, x_rep2, Int.reduceAdd, Int.reduceSub, Int.reduceToNat, and_self, ram3, rbm3, ram2, rbm2, ram1, rbm1, ra0, rb0, ra1, rb1, ra2, rb2, ra3, rb3, ra4, rb4, ra5, rb5, ra6, rb6, ra7, rb7, ra8, rb8, ra9, rb9, ra10, rb10, ra11, rb11, ra12, rb12, ra13, rb13, ra20, rb20, ra24, rb24, k1, k2, v_rest_has hm, hz])
def siz : ST → Option Int
  | none => some 0
  | some (some a, some b, m, r) => if m = 0 then some 1 else some ((b - a) / m + 1)
  | some (l, h, m, r) => if m = 0 then some 1 else none
theorem v_many {s : ST} (hv : Vd s) (hb : Bs 900 s) (t : Bool) (S : Strm) : F_strip_many [sL t s] S = some (oD (siz s), S) := by
  have ec := fun S => v_check hv t S
  cases hv with
  | none => simp only [F_strip_many, m_strip_many, sL, x_def, startE, x_seq, x_nx, x_rt, x_bk, x_ct, x_bind, x_pure, x_c, x_nil, x_cons, x_tup, x_lst, x_op2, x_op1, x_tru, x_notT, x_ite, x_ifS, x_andT, x_orT, x_and, x_or, x_chain, x_bi, x_biF, x_call, x_perm, x_it, x_ret, x_drop, x_next, x_set, x_setF, x_asg, x_aug, x_for, x_comp, x_cat, x_dSub, x_dAdd, x_dAddI, x_dLt, x_dLe, x_dGt, x_dGe, x_dNeg, x_dNot, x_dTru, x_dEq, x_dNe, x_var0, x_varS, Option.bind_some, Option.map_some, List.map_cons, List.map_nil, List.length_cons, List.length_nil, List.replicate_succ, List.replicate_zero, List.cons_append, List.nil_append, List.set_cons_zero, List.set_cons_succ, Bool.not_true, Bool.not_false, Bool.false_eq_true, if_true, if_false, decide_true, decide_false, decide_eq_true_eq, dIsN, dNotN, dIdx, dItems, at_int, at0, at1, at2, at3, cut2, gN, gT, gCo, gNl, wipeE, x_for_nil, x_for_cons, x_turn_nx, x_turn_ct, x_turn_bk, x_turn_rt, x_comp_nil, x_comp_cons, sz2, sz4, i_lt_int, i_lt_bl, i_lt_non, i_lt_lst, i_lt_tup, i_i_int, i_i_bl, i_b_int, i_b_bl, i_b_non, i_b_lst, i_b_tup, i_l_int, i_l_bl, i_l_non, i_l_lst, i_l_tup, i_t_int, i_t_lst, i_t_tup, i_d_int, i_d_bl, i_d_non, i_d_lst, i_d_tup, i_ltd_int, i_ltd_bl, i_ltd_non, l_lst, l_tup, t_lst, t_tup, a_lst, b_nil, b_cons, cut_lst, cut_tup, x_dEqb, x_dNeb, x_dEqn, x_zip, x_range1, x_range2, Int.cast_ofNat_Int, Nat.zero_add, List.all_cons, List.all_nil, id, Bool.and_true, Bool.true_and, Bool.and_false, Bool.false_and, Bool.or_true, Bool.true_or, Bool.or_false, Bool.false_or, Nat.reduceAdd, Nat.reduceSub, Int.reduceEq, Int.reduceLT, Int.reduceLE, Int.reduceNeg, szl0, szl1, szl2, szl3, szl4, szl5, szl6, szl7, szl8, szl9, szl10, x_extend, x_append, x_borT, x_frz, x_idxO, List.getElem?_cons_zero, List.getElem?_cons_succ, x_notIn, x_isIn, rg_m1, rg_m2, rg_2, rg_3, rg_5, x_abs, x_int, x_rep2, Int.reduceAdd, Int.reduceSub, Int.reduceToNat, and_self, ram3, rbm3, ram2, rbm2, ram1, rbm1, ra0, rb0, ra1, rb1, ra2, rb2, ra3, rb3, ra4, rb4, ra5, rb5, ra6, rb6, ra7, rb7, ra8, rb8, ra9, rb9, ra10, rb10, ra11, rb11, ra12, rb12, ra13, rb13, ra20, rb20, ra24, rb24, siz, oD] at ec ⊢; simp only [ec, x_def, startE, x_seq, x_nx, x_rt, x_bk, x_ct, x_bind, x_pure, x_c, x_nil, x_cons, x_tup, x_lst, x_op2, x_op1, x_tru, x_notT, x_ite, x_ifS, x_andT, x_orT, x_and, x_or, x_chain, x_bi, x_biF, x_call, x_perm, x_it, x_ret, x_drop, x_next, x_set, x_setF, x_asg, x_aug, x_for, x_comp, x_cat, x_dSub, x_dAdd, x_dAddI, x_dLt, x_dLe, x_dGt, x_dGe, x_dNeg, x_dNot, x_dTru, x_dEq, x_dNe, x_var0, x_varS, Option.bind_some, Option.map_some, List.map_cons, List.map_nil, List.length_cons, List.length_nil, List.replicate_succ, List.replicate_zero, List.cons_append, List.nil_append, List.set_cons_zero, List.set_cons_succ, Bool.not_true, Bool.not_false, Bool.false_eq_true, if_true, if_false, decide_true, decide_false, decide_eq_true_eq, dIsN, dNotN, dIdx, dItems, at_int, at0, at1, at2, at3, cut2, gN, gT, gCo, gNl, wipeE, x_for_nil, x_for_cons, x_turn_nx, x_turn_ct, x_turn_bk, x_turn_rt, x_comp_nil, x_comp_cons, sz2, sz4, i_lt_int, i_lt_bl, i_lt_non, i_lt_lst, i_lt_tup, i_i_int, i_i_bl, i_b_int, i_b_bl, i_b_non, i_b_lst, i_b_tup, i_l_int, i_l_bl, i_l_non, i_l_lst, i_l_tup, i_t_int, i_t_lst, i_t_tup, i_d_int, i_d_bl, i_d_non, i_d_lst, i_d_tup, i_ltd_int, i_ltd_bl, i_ltd_non, l_lst, l_tup, t_lst, t_tup, a_lst, b_nil, b_cons, cut_lst, cut_tup, x_dEqb, x_dNeb, x_dEqn, x_zip, x_range1, x_range2, Int.cast_ofNat_Int, Nat.zero_add, List.all_cons, List.all_nil, id, Bool.and_true, Bool.true_and, Bool.and_false, Bool.false_and, Bool.or_true, Bool.true_or, Bool.or_false, Bool.false_or, Nat.reduceAdd, Nat.reduceSub, Int.reduceEq, Int.reduceLT, Int.reduceLE, Int.reduceNeg, szl0, szl1, szl2, szl3, szl4, szl5, szl6, szl7, szl8, szl9, szl10, x_extend, x_append, x_borT, x_frz, x_idxO, List.getElem?_cons_zero, List.getElem?_cons_succ, x_notIn, x_isIn, rg_m1, rg_m2, rg_2, rg_3, rg_5, x_abs, x_int, x_rep2, Int.reduceAdd, Int.reduceSub, Int.reduceToNat, and_self, ram3, rbm3, ram2, rbm2, ram1, rbm1, ra0, rb0, ra1, rb1, ra2, rb2, ra3, rb3, ra4, rb4, ra5, rb5, ra6, rb6, ra7, rb7, ra8, rb8, ra9, rb9, ra10, rb10, ra11, rb11, ra12, rb12, ra13, rb13, ra20, rb20, ra24, rb24]
  | one r =>
    cases t <;> simp only [sL, qD, oD, Bool.false_eq_true, if_true, if_false] at ec ⊢ <;> simp only [F_strip_many, m_strip_many, mPar3, mBind, x_def, startE, x_seq, x_nx, x_rt, x_bk, x_ct, x_bind, x_pure, x_c, x_nil, x_cons, x_tup, x_lst, x_op2, x_op1, x_tru, x_notT, x_ite, x_ifS, x_andT, x_orT, x_and, x_or, x_chain, x_bi, x_biF, x_call, x_perm, x_it, x_ret, x_drop, x_next, x_set, x_setF, x_asg, x_aug, x_for, x_comp, x_cat, x_dSub, x_dAdd, x_dAddI, x_dLt, x_dLe, x_dGt, x_dGe, x_dNeg, x_dNot, x_dTru, x_dEq, x_dNe, x_var0, x_varS, Option.bind_some, Option.map_some, List.map_cons, List.map_nil, List.length_cons, List.length_nil, List.replicate_succ, List.replicate_zero, List.cons_append, List.nil_append, List.set_cons_zero, List.set_cons_succ, Bool.not_true, Bool.not_false, Bool.false_eq_true, if_true, if_false, decide_true, decide_false, decide_eq_true_eq, dIsN, dNotN, dIdx, dItems, at_int, at0, at1, at2, at3, cut2, gN, gT, gCo, gNl, wipeE, x_for_nil, x_for_cons, x_turn_nx, x_turn_ct, x_turn_bk, x_turn_rt, x_comp_nil, x_comp_cons, sz2, sz4, i_lt_int, i_lt_bl, i_lt_non, i_lt_lst, i_lt_tup, i_i_int, i_i_bl, i_b_int, i_b_bl, i_b_non, i_b_lst, i_b_tup, i_l_int, i_l_bl, i_l_non, i_l_lst, i_l_tup, i_t_int, i_t_lst, i_t_tup, i_d_int, i_d_bl, i_d_non, i_d_lst, i_d_tup, i_ltd_int, i_ltd_bl, i_ltd_non, l_lst, l_tup, t_lst, t_tup, a_lst, b_nil, b_cons, cut_lst, cut_tup, x_dEqb, x_dNeb, x_dEqn, x_zip, x_range1, x_range2, Int.cast_ofNat_Int, Nat.zero_add, List.all_cons, List.all_nil, id, Bool.and_true, Bool.true_and, Bool.and_false, Bool.false_and, Bool.or_true, Bool.true_or, Bool.or_false, Bool.false_or, Nat.reduceAdd, Nat.reduceSub, Int.reduceEq, Int.reduceLT, Int.reduceLE, Int.reduceNeg, szl0, szl1, szl2, szl3, szl4, szl5, szl6, szl7, szl8, szl9, szl10, x_extend, x_append, x_borT, x_frz, x_idxO, List.getElem?_cons_zero, List.getElem?_cons_succ, x_notIn, x_isIn, rg_m1, rg_m2, rg_2, rg_3, rg_5, x_abs, x_int, x_rep2, Int.reduceAdd, Int.reduceSub, Int.reduceToNat, and_self, ram3, rbm3, ram2, rbm2, ram1, rbm1, ra0, rb0, ra1, rb1, ra2, rb2, ra3, rb3, ra4, rb4, ra5, rb5, ra6, rb6, ra7, rb7, ra8, rb8, ra9, rb9, ra10, rb10, ra11, rb11, ra12, rb12, ra13, rb13, ra20, rb20, ra24, rb24, siz, oD, ec]
  | @all m r hm h0 h1 =>
    have hz : ¬ m = 0 := by omega
    cases t <;> simp only [sL, qD, oD, Bool.false_eq_true, if_true, if_false] at ec ⊢ <;> simp only [F_strip_many, m_strip_many, mPar3, mBind, x_def, startE, x_seq, x_nx, x_rt, x_bk, x_ct, x_bind, x_pure, x_c, x_nil, x_cons, x_tup, x_lst, x_op2, x_op1, x_tru, x_notT, x_ite, x_ifS, x_andT, x_orT, x_and, x_or, x_chain, x_bi, x_biF, x_call, x_perm, x_it, x_ret, x_drop, x_next, x_set, x_setF, x_asg, x_aug, x_for, x_comp, x_cat, x_dSub, x_dAdd, x_dAddI, x_dLt, x_dLe, x_dGt, x_dGe, x_dNeg, x_dNot, x_dTru, x_dEq, x_dNe, x_var0, x_varS, Option.bind_some, Option.map_some, List.map_cons, List.map_nil, List.length_cons, List.length_nil, List.replicate_succ, List.replicate_zero, List.cons_append, List.nil_append, List.set_cons_zero, List.set_cons_succ, Bool.not_true, Bool.not_false, Bool.false_eq_true, if_true, if_false, decide_true, decide_false, decide_eq_true_eq, dIsN, dNotN, dIdx, dItems, at_int, at0, at1, at2, at3, cut2, gN, gT, gCo, gNl, wipeE, x_for_nil, x_for_cons, x_turn_nx, x_turn_ct, x_turn_bk, x_turn_rt, x_comp_nil, x_comp_cons, sz2, sz4, i_lt_int, i_lt_bl, i_lt_non, i_lt_lst, i_lt_tup, i_i_int, i_i_bl, i_b_int, i_b_bl, i_b_non, i_b_lst, i_b_tup, i_l_int, i_l_bl, i_l_non, i_l_lst, i_l_tup, i_t_int, i_t_lst, i_t_tup, i_d_int, i_d_bl, i_d_non, i_d_lst, i_d_tup, i_ltd_int, i_ltd_bl, i_ltd_non, l_lst, l_tup, t_lst, t_tup, a_lst, b_nil, b_cons, cut_lst, cut_tup, x_dEqb, x_dNeb, x_dEqn, x_zip, x_range1, x_range2, Int.cast_ofNat_Int, Nat.zero_add, List.all_cons, List.all_nil, id, Bool.and_true, Bool.true_and, Bool.and_false, Bool.false_and, Bool.or_true, Bool.true_or, Bool.or_false, Bool.false_or, Nat.reduceAdd, Nat.reduceSub, Int.reduceEq, Int.reduceLT, Int.reduceLE, Int.reduceNeg, szl0, szl1, szl2, szl3, szl4, szl5, szl6, szl7, szl8, szl9, szl10, x_extend, x_append, x_borT, x_frz, x_idxO, List.getElem?_cons_zero, List.getElem?_cons_succ, x_notIn, x_isIn, rg_m1, rg_m2, rg_2, rg_3, rg_5, x_abs, x_int, x_rep2, Int.reduceAdd, Int.reduceSub, Int.reduceToNat, and_self, ram3, rbm3, ram2, rbm2, ram1, rbm1, ra0, rb0, ra1, rb1, ra2, rb2, ra3, rb3, ra4, rb4, ra5, rb5, ra6, rb6, ra7, rb7, ra8, rb8, ra9, rb9, ra10, rb10, ra11, rb11, ra12, rb12, ra13, rb13, ra20, rb20, ra24, rb24, siz, oD, ec, hz]
  | @lo a m r hm h0 h1 ha =>
    have hz : ¬ m = 0 := by omega
    cases t <;> simp only [sL, qD, oD, Bool.false_eq_true, if_true, if_false] at ec ⊢ <;> simp only [F_strip_many, m_strip_many, mPar3, mBind, x_def, startE, x_seq, x_nx, x_rt, x_bk, x_ct, x_bind, x_pure, x_c, x_nil, x_cons, x_tup, x_lst, x_op2, x_op1, x_tru, x_notT, x_ite, x_ifS, x_andT, x_orT, x_and, x_or, x_chain, x_bi, x_biF, x_call, x_perm, x_it, x_ret, x_drop, x_next, x_set, x_setF, x_asg, x_aug, x_for, x_comp, x_cat, x_dSub, x_dAdd, x_dAddI, x_dLt, x_dLe, x_dGt, x_dGe, x_dNeg, x_dNot, x_dTru, x_dEq, x_dNe, x_var0, x_varS, Option.bind_some, Option.map_some, List.map_cons, List.map_nil, List.length_cons, List.length_nil, List.replicate_succ, List.replicate_zero, List.cons_append, List.nil_append, List.set_cons_zero, List.set_cons_succ, Bool.not_true, Bool.not_false, Bool.false_eq_true, if_true, if_false, decide_true, decide_false, decide_eq_true_eq, dIsN, dNotN, dIdx, dItems, at_int, at0, at1, at2, at3, cut2, gN, gT, gCo, gNl, wipeE, x_for_nil, x_for_cons, x_turn_nx, x_turn_ct, x_turn_bk, x_turn_rt, x_comp_nil, x_comp_cons, sz2, sz4, i_lt_int, i_lt_bl, i_lt_non, i_lt_lst, i_lt_tup, i_i_int, i_i_bl, i_b_int, i_b_bl, i_b_non, i_b_lst, i_b_tup, i_l_int, i_l_bl, i_l_non, i_l_lst, i_l_tup, i_t_int, i_t_lst, i_t_tup, i_d_int, i_d_bl, i_d_non, i_d_lst, i_d_tup, i_ltd_int, i_ltd_bl, i_ltd_non, l_lst, l_tup, t_lst, t_tup, a_lst, b_nil, b_cons, cut_lst, cut_tup, x_dEqb, x_dNeb, x_dEqn, x_zip, x_range1, x_range2, Int.cast_ofNat_Int, Nat.zero_add, List.all_cons, List.all_nil, id, Bool.and_true, Bool.true_and, Bool.and_false, Bool.false_and, Bool.or_true, Bool.true_or, Bool.or_false, Bool.false_or, Nat.reduceAdd, Nat.reduceSub, Int.reduceEq, Int.reduceLT, Int.reduceLE, Int.reduceNeg, szl0, szl1, szl2, szl3, szl4, szl5, szl6, szl7, szl8, szl9, szl10, x_extend, x_append, x_borT, x_frz, x_idxO, List.getElem?_cons_zero, List.getElem?_cons_succ, x_notIn, x_isIn, rg_m1, rg_m2, rg_2, rg_3, rg_5, x_abs, x_int, x_rep2, Int.reduceAdd, Int.reduceSub, Int.reduceToNat, and_self, ram3, rbm3, ram2, rbm2, ram1, rbm1, ra0, rb0, ra1, rb1, ra2, rb2, ra3, rb3, ra4, rb4, ra5, rb5, ra6, rb6, ra7, rb7, ra8, rb8, ra9, rb9, ra10, rb10, ra11, rb11, ra12, rb12, ra13, rb13, ra20, rb20, ra24, rb24, siz, oD, ec, hz]
  | @hi a m r hm h0 h1 ha =>
    have hz : ¬ m = 0 := by omega
    cases t <;> simp only [sL, qD, oD, Bool.false_eq_true, if_true, if_false] at ec ⊢ <;> simp only [F_strip_many, m_strip_many, mPar3, mBind, x_def, startE, x_seq, x_nx, x_rt, x_bk, x_ct, x_bind, x_pure, x_c, x_nil, x_cons, x_tup, x_lst, x_op2, x_op1, x_tru, x_notT, x_ite, x_ifS, x_andT, x_orT, x_and, x_or, x_chain, x_bi, x_biF, x_call, x_perm, x_it, x_ret, x_drop, x_next, x_set, x_setF, x_asg, x_aug, x_for, x_comp, x_cat, x_dSub, x_dAdd, x_dAddI, x_dLt, x_dLe, x_dGt, x_dGe, x_dNeg, x_dNot, x_dTru, x_dEq, x_dNe, x_var0, x_varS, Option.bind_some, Option.map_some, List.map_cons, List.map_nil, List.length_cons, List.length_nil, List.replicate_succ, List.replicate_zero, List.cons_append, List.nil_append, List.set_cons_zero, List.set_cons_succ, Bool.not_true, Bool.not_false, Bool.false_eq_true, if_true, if_false, decide_true, decide_false, decide_eq_true_eq, dIsN, dNotN, dIdx, dItems, at_int, at0, at1, at2, at3, cut2, gN, gT, gCo, gNl, wipeE, x_for_nil, x_for_cons, x_turn_nx, x_turn_ct, x_turn_bk, x_turn_rt, x_comp_nil, x_comp_cons, sz2, sz4, i_lt_int, i_lt_bl, i_lt_non, i_lt_lst, i_lt_tup, i_i_int, i_i_bl, i_b_int, i_b_bl, i_b_non, i_b_lst, i_b_tup, i_l_int, i_l_bl, i_l_non, i_l_lst, i_l_tup, i_t_int, i_t_lst, i_t_tup, i_d_int, i_d_bl, i_d_non, i_d_lst, i_d_tup, i_ltd_int, i_ltd_bl, i_ltd_non, l_lst, l_tup, t_lst, t_tup, a_lst, b_nil, b_cons, cut_lst, cut_tup, x_dEqb, x_dNeb, x_dEqn, x_zip, x_range1, x_range2, Int.cast_ofNat_Int, Nat.zero_add, List.all_cons, List.all_nil, id, Bool.and_true, Bool.true_and, Bool.and_false, Bool.false_and, Bool.or_true, Bool.true_or, Bool.or_false, Bool.false_or, Nat.reduceAdd, Nat.reduceSub, Int.reduceEq, Int.reduceLT, Int.reduceLE, Int.reduceNeg, szl0, szl1, szl2, szl3, szl4, szl5, szl6, szl7, szl8, szl9, szl10, x_extend, x_append, x_borT, x_frz, x_idxO, List.getElem?_cons_zero, List.getElem?_cons_succ, x_notIn, x_isIn, rg_m1, rg_m2, rg_2, rg_3, rg_5, x_abs, x_int, x_rep2, Int.reduceAdd, Int.reduceSub, Int.reduceToNat, and_self, ram3, rbm3, ram2, rbm2, ram1, rbm1, ra0, rb0, ra1, rb1, ra2, rb2, ra3, rb3, ra4, rb4, ra5, rb5, ra6, rb6, ra7, rb7, ra8, rb8, ra9, rb9, ra10, rb10, ra11, rb11, ra12, rb12, ra13, rb13, ra20, rb20, ra24, rb24, siz, oD, ec, hz]
  | @both a b m r hm h0 h1 ha hb' hab =>
    have hz : ¬ m = 0 := by omega
    have e1 := div_ok (i := b - a) hm (Nat.lt_of_lt_of_le hb.2.2.1 (by decide))
    cases t <;> simp only [sL, qD, oD, Bool.false_eq_true, if_true, if_false] at ec ⊢ <;> simp only [F_strip_many, m_strip_many, mPar3, mBind, x_def, startE, x_seq, x_nx, x_rt, x_bk, x_ct, x_bind, x_pure, x_c, x_nil, x_cons, x_tup, x_lst, x_op2, x_op1, x_tru, x_notT, x_ite, x_ifS, x_andT, x_orT, x_and, x_or, x_chain, x_bi, x_biF, x_call, x_perm, x_it, x_ret, x_drop, x_next, x_set, x_setF, x_asg, x_aug, x_for, x_comp, x_cat, x_dSub, x_dAdd, x_dAddI, x_dLt, x_dLe, x_dGt, x_dGe, x_dNeg, x_dNot, x_dTru, x_dEq, x_dNe, x_var0, x_varS, Option.bind_some, Option.map_some, List.map_cons, List.map_nil, List.length_cons, List.length_nil, List.replicate_succ, List.replicate_zero, List.cons_append, List.nil_append, List.set_cons_zero, List.set_cons_succ, Bool.not_true, Bool.not_false, Bool.false_eq_true, if_true, if_false, decide_true, decide_false, decide_eq_true_eq, dIsN, dNotN, dIdx, dItems, at_int, at0, at1, at2, at3, cut2, gN, gT, gCo, gNl, wipeE, x_for_nil, x_for_cons, x_turn_nx, x_turn_ct, x_turn_bk, x_turn_rt, x_comp_nil, x_comp_cons, sz2, sz4, i_lt_int, i_lt_bl, i_lt_non, i_lt_lst, i_lt_tup, i_i_int, i_i_bl, i_b_int, i_b_bl, i_b_non, i_b_lst, i_b_tup, i_l_int, i_l_bl, i_l_non, i_l_lst, i_l_tup, i_t_int, i_t_lst, i_t_tup, i_d_int, i_d_bl, i_d_non, i_d_lst, i_d_tup, i_ltd_int, i_ltd_bl, i_ltd_non, l_lst, l_tup, t_lst, t_tup, a_lst, b_nil, b_cons, cut_lst, cut_tup, x_dEqb, x_dNeb, x_dEqn, x_zip, x_range1, x_range2, Int.cast_ofNat_Int, Nat.zero_add, List.all_cons, List.all_nil, id, Bool.and_true, Bool.true_and, Bool.and_false, Bool.false_and, Bool.or_true, Bool.true_or, Bool.or_false, Bool.false_or, Nat.reduceAdd, Nat.reduceSub, Int.reduceEq, Int.reduceLT, Int.reduceLE, Int.reduceNeg, szl0, szl1, szl2, szl3, szl4, szl5, szl6, szl7, szl8, szl9, szl10, x_extend, x_append, x_borT, x_frz, x_idxO, List.getElem?_cons_zero, List.getElem?_cons_succ, x_notIn, x_isIn, rg_m1, rg_m2, rg_2, rg_3, rg_5, x_abs, x_int, x_rep2, Int.reduceAdd, Int.reduceSub, Int.reduceToNat, and_self, ram3, rbm3, ram2, rbm2, ram1, rbm1, ra0, rb0, ra1, rb1, ra2, rb2, ra3, rb3, ra4, rb4, ra5, rb5, ra6, rb6, ra7, rb7, ra8, rb8, ra9, rb9, ra10, rb10, ra11, rb11, ra12, rb12, ra13, rb13, ra20, rb20, ra24, rb24, siz, oD, ec, hz, e1]
theorem v_size {s : ST} (hv : Vd s) (hb : Bs 900 s) (S : Strm) : F__law_strip_size [sD s] S = some (oD (siz s), S) := by
  cases hv with
  | none => simp only [F__law_strip_size, m__law_strip_size, sD, sL, x_def, startE, x_seq, x_nx, x_rt, x_bk, x_ct, x_bind, x_pure, x_c, x_nil, x_cons, x_tup, x_lst, x_op2, x_op1, x_tru, x_notT, x_ite, x_ifS, x_andT, x_orT, x_and, x_or, x_chain, x_bi, x_biF, x_call, x_perm, x_it, x_ret, x_drop, x_next, x_set, x_setF, x_asg, x_aug, x_for, x_comp, x_cat, x_dSub, x_dAdd, x_dAddI, x_dLt, x_dLe, x_dGt, x_dGe, x_dNeg, x_dNot, x_dTru, x_dEq, x_dNe, x_var0, x_varS, Option.bind_some, Option.map_some, List.map_cons, List.map_nil, List.length_cons, List.length_nil, List.replicate_succ, List.replicate_zero, List.cons_append, List.nil_append, List.set_cons_zero, List.set_cons_succ, Bool.not_true, Bool.not_false, Bool.false_eq_true, if_true, if_false, decide_true, decide_false, decide_eq_true_eq, dIsN, dNotN, dIdx, dItems, at_int, at0, at1, at2, at3, cut2, gN, gT, gCo, gNl, wipeE, x_for_nil, x_for_cons, x_turn_nx, x_turn_ct, x_turn_bk, x_turn_rt, x_comp_nil, x_comp_cons, sz2, sz4, i_lt_int, i_lt_bl, i_lt_non, i_lt_lst, i_lt_tup, i_i_int, i_i_bl, i_b_int, i_b_bl, i_b_non, i_b_lst, i_b_tup, i_l_int, i_l_bl, i_l_non, i_l_lst, i_l_tup, i_t_int, i_t_lst, i_t_tup, i_d_int, i_d_bl, i_d_non, i_d_lst, i_d_tup, i_ltd_int, i_ltd_bl, i_ltd_non, l_lst, l_tup, t_lst, t_tup, a_lst, b_nil, b_cons, cut_lst, cut_tup, x_dEqb, x_dNeb, x_dEqn, x_zip, x_range1, x_range2, Int.cast_ofNat_Int, Nat.zero_add, List.all_cons, List.all_nil, id, Bool.and_true, Bool.true_and, Bool.and_false, Bool.false_and, Bool.or_true, Bool.true_or, Bool.or_false, Bool.false_or, Nat.reduceAdd, Nat.reduceSub, Int.reduceEq, Int.reduceLT, Int.reduceLE, Int.reduceNeg, szl0, szl1, szl2, szl3, szl4, szl5, szl6, szl7, szl8, szl9, szl10, x_extend, x_append, x_borT, x_frz, x_idxO, List.getElem?_cons_zero, List.getElem?_cons_succ, x_notIn, x_isIn, rg_m1, rg_m2, rg_2, rg_3, rg_5, x_abs, x_int, x_rep2, Int.reduceAdd, Int.reduceSub, Int.reduceToNat, and_self, ram3, rbm3, ram2, rbm2, ram1, rbm1, ra0, rb0, ra1, rb1, ra2, rb2, ra3, rb3, ra4, rb4, ra5, rb5, ra6, rb6, ra7, rb7, ra8, rb8, ra9, rb9, ra10, rb10, ra11, rb11, ra12, rb12, ra13, rb13, ra20, rb20, ra24, rb24, siz, oD]
  | one r => simp only [F__law_strip_size, m__law_strip_size, sD, sL, qD, x_def, startE, x_seq, x_nx, x_rt, x_bk, x_ct, x_bind, x_pure, x_c, x_nil, x_cons, x_tup, x_lst, x_op2, x_op1, x_tru, x_notT, x_ite, x_ifS, x_andT, x_orT, x_and, x_or, x_chain, x_bi, x_biF, x_call, x_perm, x_it, x_ret, x_drop, x_next, x_set, x_setF, x_asg, x_aug, x_for, x_comp, x_cat, x_dSub, x_dAdd, x_dAddI, x_dLt, x_dLe, x_dGt, x_dGe, x_dNeg, x_dNot, x_dTru, x_dEq, x_dNe, x_var0, x_varS, Option.bind_some, Option.map_some, List.map_cons, List.map_nil, List.length_cons, List.length_nil, List.replicate_succ, List.replicate_zero, List.cons_append, List.nil_append, List.set_cons_zero, List.set_cons_succ, Bool.not_true, Bool.not_false, Bool.false_eq_true, if_true, if_false, decide_true, decide_false, decide_eq_true_eq, dIsN, dNotN, dIdx, dItems, at_int, at0, at1, at2, at3, cut2, gN, gT, gCo, gNl, wipeE, x_for_nil, x_for_cons, x_turn_nx, x_turn_ct, x_turn_bk, x_turn_rt, x_comp_nil, x_comp_cons, sz2, sz4, i_lt_int, i_lt_bl, i_lt_non, i_lt_lst, i_lt_tup, i_i_int, i_i_bl, i_b_int, i_b_bl, i_b_non, i_b_lst, i_b_tup, i_l_int, i_l_bl, i_l_non, i_l_lst, i_l_tup, i_t_int, i_t_lst, i_t_tup, i_d_int, i_d_bl, i_d_non, i_d_lst, i_d_tup, i_ltd_int, i_ltd_bl, i_ltd_non, l_lst, l_tup, t_lst, t_tup, a_lst, b_nil, b_cons, cut_lst, cut_tup, x_dEqb, x_dNeb, x_dEqn, x_zip, x_range1, x_range2, Int.cast_ofNat_Int, Nat.zero_add, List.all_cons, List.all_nil, id, Bool.and_true, Bool.true_and, Bool.and_false, Bool.false_and, Bool.or_true, Bool.true_or, Bool.or_false, Bool.false_or, Nat.reduceAdd, Nat.reduceSub, Int.reduceEq, Int.reduceLT, Int.reduceLE, Int.reduceNeg, szl0, szl1, szl2, szl3, szl4, szl5, szl6, szl7, szl8, szl9, szl10, x_extend, x_append, x_borT, x_frz, x_idxO, List.getElem?_cons_zero, List.getElem?_cons_succ, x_notIn, x_isIn, rg_m1, rg_m2, rg_2, rg_3, rg_5, x_abs, x_int, x_rep2, Int.reduceAdd, Int.reduceSub, Int.reduceToNat, and_self, ram3, rbm3, ram2, rbm2, ram1, rbm1, ra0, rb0, ra1, rb1, ra2, rb2, ra3, rb3, ra4, rb4, ra5, rb5, ra6, rb6, ra7, rb7, ra8, rb8, ra9, rb9, ra10, rb10, ra11, rb11, ra12, rb12, ra13, rb13, ra20, rb20, ra24, rb24, siz, oD]
  | @all m r hm h0 h1 =>
    have hz : ¬ m = 0 := by omega
    simp only [F__law_strip_size, m__law_strip_size, sD, sL, qD, x_def, startE, x_seq, x_nx, x_rt, x_bk, x_ct, x_bind, x_pure, x_c, x_nil, x_cons, x_tup, x_lst, x_op2, x_op1, x_tru, x_notT, x_ite, x_ifS, x_andT, x_orT, x_and, x_or, x_chain, x_bi, x_biF, x_call, x_perm, x_it, x_ret, x_drop, x_next, x_set, x_setF, x_asg, x_aug, x_for, x_comp, x_cat, x_dSub, x_dAdd, x_dAddI, x_dLt, x_dLe, x_dGt, x_dGe, x_dNeg, x_dNot, x_dTru, x_dEq, x_dNe, x_var0, x_varS, Option.bind_some, Option.map_some, List.map_cons, List.map_nil, List.length_cons, List.length_nil, List.replicate_succ, List.replicate_zero, List.cons_append, List.nil_append, List.set_cons_zero, List.set_cons_succ, Bool.not_true, Bool.not_false, Bool.false_eq_true, if_true, if_false, decide_true, decide_false, decide_eq_true_eq, dIsN, dNotN, dIdx, dItems, at_int, at0, at1, at2, at3, cut2, gN, gT, gCo, gNl, wipeE, x_for_nil, x_for_cons, x_turn_nx, x_turn_ct, x_turn_bk, x_turn_rt, x_comp_nil, x_comp_cons, sz2, sz4, i_lt_int, i_lt_bl, i_lt_non, i_lt_lst, i_lt_tup, i_i_int, i_i_bl, i_b_int, i_b_bl, i_b_non, i_b_lst, i_b_tup, i_l_int, i_l_bl, i_l_non, i_l_lst, i_l_tup, i_t_int, i_t_lst, i_t_tup, i_d_int, i_d_bl, i_d_non, i_d_lst, i_d_tup, i_ltd_int, i_ltd_bl, i_ltd_non, l_lst, l_tup, t_lst, t_tup, a_lst, b_nil, b_cons, cut_lst, cut_tup, x_dEqb, x_dNeb, x_dEqn, x_zip, x_range1, x_range2, Int.cast_ofNat_Int, Nat.zero_add, List.all_cons, List.all_nil, id, Bool.and_true, Bool.true_and, Bool.and_false, Bool.false_and, Bool.or_true, Bool.true_or, Bool.or_false, Bool.false_or, Nat.reduceAdd, Nat.reduceSub, Int.reduceEq, Int.reduceLT, Int.reduceLE, Int.reduceNeg, szl0, szl1, szl2, szl3, szl4, szl5, szl6, szl7, szl8, szl9, szl10, x_extend, x_append, x_borT, x_frz, x_idxO, List.getElem?_cons_zero, List.getElem?_cons_succ, x_notIn, x_isIn, rg_m1, rg_m2, rg_2, rg_3, rg_5, x_abs, x_int, x_rep2, Int.reduceAdd, Int.reduceSub, Int.reduceToNat, and_self, ram3, rbm3, ram2, rbm2, ram1, rbm1, ra0, rb0, ra1, rb1, ra2, rb2, ra3, rb3, ra4, rb4, ra5, rb5, ra6, rb6, ra7, rb7, ra8, rb8, ra9, rb9, ra10, rb10, ra11, rb11, ra12, rb12, ra13, rb13, ra20, rb20, ra24, rb24, siz, oD, hz]
  | @lo a m r hm h0 h1 ha =>
    have hz : ¬ m = 0 := by omega
    simp only [F__law_strip_size, m__law_strip_size, sD, sL, qD, x_def, startE, x_seq, x_nx, x_rt, x_bk, x_ct, x_bind, x_pure, x_c, x_nil, x_cons, x_tup, x_lst, x_op2, x_op1, x_tru, x_notT, x_ite, x_ifS, x_andT, x_orT, x_and, x_or, x_chain, x_bi, x_biF, x_call, x_perm, x_it, x_ret, x_drop, x_next, x_set, x_setF, x_asg, x_aug, x_for, x_comp, x_cat, x_dSub, x_dAdd, x_dAddI, x_dLt, x_dLe, x_dGt, x_dGe, x_dNeg, x_dNot, x_dTru, x_dEq, x_dNe, x_var0, x_varS, Option.bind_some, Option.map_some, List.map_cons, List.map_nil, List.length_cons, List.length_nil, List.replicate_succ, List.replicate_zero, List.cons_append, List.nil_append, List.set_cons_zero, List.set_cons_succ, Bool.not_true, Bool.not_false, Bool.false_eq_true, if_true, if_false, decide_true, decide_false, decide_eq_true_eq, dIsN, dNotN, dIdx, dItems, at_int, at0, at1, at2, at3, cut2, gN, gT, gCo, gNl, wipeE, x_for_nil, x_for_cons, x_turn_nx, x_turn_ct, x_turn_bk, x_turn_rt, x_comp_nil, x_comp_cons, sz2, sz4, i_lt_int, i_lt_bl, i_lt_non, i_lt_lst, i_lt_tup, i_i_int, i_i_bl, i_b_int, i_b_bl, i_b_non, i_b_lst, i_b_tup, i_l_int, i_l_bl, i_l_non, i_l_lst, i_l_tup, i_t_int, i_t_lst, i_t_tup, i_d_int, i_d_bl, i_d_non, i_d_lst, i_d_tup, i_ltd_int, i_ltd_bl, i_ltd_non, l_lst, l_tup, t_lst, t_tup, a_lst, b_nil, b_cons, cut_lst, cut_tup, x_dEqb, x_dNeb, x_dEqn, x_zip, x_range1, x_range2, Int.cast_ofNat_Int, Nat.zero_add, List.all_cons, List.all_nil, id, Bool.and_true, Bool.true_and, Bool.and_false, Bool.false_and, Bool.or_true, Bool.true_or, Bool.or_false, Bool.false_or, Nat.reduceAdd, Nat.reduceSub, Int.reduceEq, Int.reduceLT, Int.reduceLE, Int.reduceNeg, szl0, szl1, szl2, szl3, szl4, szl5, szl6, szl7, szl8, szl9, szl10, x_extend, x_append, x_borT, x_frz, x_idxO, List.getElem?_cons_zero, List.getElem?_cons_succ, x_notIn, x_isIn, rg_m1, rg_m2, rg_2, rg_3, rg_5, x_abs, x_int, x_rep2, Int.reduceAdd, Int.reduceSub, Int.reduceToNat, and_self, ram3, rbm3, ram2, rbm2, ram1, rbm1, ra0, rb0, ra1, rb1, ra2, rb2, ra3, rb3, ra4, rb4, ra5, rb5, ra6, rb6, ra7, rb7, ra8, rb8, ra9, rb9, ra10, rb10, ra11, rb11, ra12, rb12, ra13, rb13, ra20, rb20, ra24, rb24, siz, oD, hz]
  | @hi a m r hm h0 h1 ha =>
    have hz : ¬ m = 0 := by omega
    simp only [F__law_strip_size, m__law_strip_size, sD, sL, qD, x_def, startE, x_seq, x_nx, x_rt, x_bk, x_ct, x_bind, x_pure, x_c, x_nil, x_cons, x_tup, x_lst, x_op2, x_op1, x_tru, x_notT, x_ite, x_ifS, x_andT, x_orT, x_and, x_or, x_chain, x_bi, x_biF, x_call, x_perm, x_it, x_ret, x_drop, x_next, x_set, x_setF, x_asg, x_aug, x_for, x_comp, x_cat, x_dSub, x_dAdd, x_dAddI, x_dLt, x_dLe, x_dGt, x_dGe, x_dNeg, x_dNot, x_dTru, x_dEq, x_dNe, x_var0, x_varS, Option.bind_some, Option.map_some, List.map_cons, List.map_nil, List.length_cons, List.length_nil, List.replicate_succ, List.replicate_zero, List.cons_append, List.nil_append, List.set_cons_zero, List.set_cons_succ, Bool.not_true, Bool.not_false, Bool.false_eq_true, if_true, if_false, decide_true, decide_false, decide_eq_true_eq, dIsN, dNotN, dIdx, dItems, at_int, at0, at1, at2, at3, cut2, gN, gT, gCo, gNl, wipeE, x_for_nil, x_for_cons, x_turn_nx, x_turn_ct, x_turn_bk, x_turn_rt, x_comp_nil, x_comp_cons, sz2, sz4, i_lt_int, i_lt_bl, i_lt_non, i_lt_lst, i_lt_tup, i_i_int, i_i_bl, i_b_int, i_b_bl, i_b_non, i_b_lst, i_b_tup, i_l_int, i_l_bl, i_l_non, i_l_lst, i_l_tup, i_t_int, i_t_lst, i_t_tup, i_d_int, i_d_bl, i_d_non, i_d_lst, i_d_tup, i_ltd_int, i_ltd_bl, i_ltd_non, l_lst, l_tup, t_lst, t_tup, a_lst, b_nil, b_cons, cut_lst, cut_tup, x_dEqb, x_dNeb, x_dEqn, x_zip, x_range1, x_range2, Int.cast_ofNat_Int, Nat.zero_add, List.all_cons, List.all_nil, id, Bool.and_true, Bool.true_and, Bool.and_false, Bool.false_and, Bool.or_true, Bool.true_or, Bool.or_false, Bool.false_or, Nat.reduceAdd, Nat.reduceSub, Int.reduceEq, Int.reduceLT, Int.reduceLE, Int.reduceNeg, szl0, szl1, szl2, szl3, szl4, szl5, szl6, szl7, szl8, szl9, szl10, x_extend, x_append, x_borT, x_frz, x_idxO, List.getElem?_cons_zero, List.getElem?_cons_succ, x_notIn, x_isIn, rg_m1, rg_m2, rg_2, rg_3, rg_5, x_abs, x_int, x_rep2, Int.reduceAdd, Int.reduceSub, Int.reduceToNat, and_self, ram3, rbm3, ram2, rbm2, ram1, rbm1, ra0, rb0, ra1, rb1, ra2, rb2, ra3, rb3, ra4, rb4, ra5, rb5, ra6, rb6, ra7, rb7, ra8, rb8, ra9, rb9, ra10, rb10, ra11, rb11, ra12, rb12, ra13, rb13, ra20, rb20, ra24, rb24, siz, oD, hz]
  | @both a b m r hm h0 h1 ha hb' hab =>
    have hz : ¬ m = 0 := by omega
    have e1 := div_ok (i := b - a) hm (Nat.lt_of_lt_of_le hb.2.2.1 (by decide))
    simp only [F__law_strip_size, m__law_strip_size, sD, sL, qD, x_def, startE, x_seq, x_nx, x_rt, x_bk, x_ct, x_bind, x_pure, x_c, x_nil, x_cons, x_tup, x_lst, x_op2, x_op1, x_tru, x_notT, x_ite, x_ifS, x_andT, x_orT, x_and, x_or, x_chain, x_bi, x_biF, x_call, x_perm, x_it, x_ret, x_drop, x_next, x_set, x_setF, x_asg, x_aug, x_for, x_comp, x_cat, x_dSub, x_dAdd, x_dAddI, x_dLt, x_dLe, x_dGt, x_dGe, x_dNeg, x_dNot, x_dTru, x_dEq, x_dNe, x_var0, x_varS, Option.bind_some, Option.map_some, List.map_cons, List.map_nil, List.length_cons, List.length_nil, List.replicate_succ, List.replicate_zero, List.cons_append, List.nil_append, List.set_cons_zero, List.set_cons_succ, Bool.not_true, Bool.not_false, Bool.false_eq_true, if_true, if_false, decide_true, decide_false, decide_eq_true_eq, dIsN, dNotN, dIdx, dItems, at_int, at0, at1, at2, at3, cut2, gN, gT, gCo, gNl, wipeE, x_for_nil, x_for_cons, x_turn_nx, x_turn_ct, x_turn_bk, x_turn_rt, x_comp_nil, x_comp_cons, sz2, sz4, i_lt_int, i_lt_bl, i_lt_non, i_lt_lst, i_lt_tup, i_i_int, i_i_bl, i_b_int, i_b_bl, i_b_non, i_b_lst, i_b_tup, i_l_int, i_l_bl, i_l_non, i_l_lst, i_l_tup, i_t_int, i_t_lst, i_t_tup, i_d_int, i_d_bl, i_d_non, i_d_lst, i_d_tup, i_ltd_int, i_ltd_bl, i_ltd_non, l_lst, l_tup, t_lst, t_tup, a_lst, b_nil, b_cons, cut_lst, cut_tup, x_dEqb, x_dNeb, x_dEqn, x_zip, x_range1, x_range2, Int.cast_ofNat_Int, Nat.zero_add, List.all_cons, List.all_nil, id, Bool.and_true, Bool.true_and, Bool.and_false, Bool.false_and, Bool.or_true, Bool.true_or, Bool.or_false, Bool.false_or, Nat.reduceAdd, Nat.reduceSub, Int.reduceEq, Int.reduceLT, Int.reduceLE, Int.reduceNeg, szl0, szl1, szl2, szl3, szl4, szl5, szl6, szl7, szl8, szl9, szl10, x_extend, x_append, x_borT, x_frz, x_idxO, List.getElem?_cons_zero, List.getElem?_cons_succ, x_notIn, x_isIn, rg_m1, rg_m2, rg_2, rg_3, rg_5, x_abs, x_int, x_rep2, Int.reduceAdd, Int.reduceSub, Int.reduceToNat, and_self, ram3, rbm3, ram2, rbm2, ram1, rbm1, ra0, rb0, ra1, rb1, ra2, rb2, ra3, rb3, ra4, rb4, ra5, rb5, ra6, rb6, ra7, rb7, ra8, rb8, ra9, rb9, ra10, rb10, ra11, rb11, ra12, rb12, ra13, rb13, ra20, rb20, ra24, rb24, siz, oD, hz, e1, Int.add_comm]
theorem each_loop (x : Option Ent) : ∀ (ns ms : List Int) (y : Option Ent) (S : Strm), ms.length + ns.length ≤ sizeLine →
    ∃ (ms' : List Int) (z : Option Ent), forL (gN 2) (mExtend 1 (mIte (mBorT 1 (mTru (mOp2 (dInG true) (mVar 2) (mVar 1)))) (mLst (mCons (mVar 2) mNil)) (mLst mNil))) (ns.map D.int) [x, some (.ol (ms.map D.int)), y] S = some (.nx [x, some (.ol (ms'.map D.int)), z], S) ∧ (∀ n, n ∈ ms' ↔ n ∈ ms ∨ n ∈ ns) ∧ ms'.length ≤ ms.length + ns.length
  | [], ms, y, S, h => ⟨ms, y, rfl, by simp, by simp⟩
  | n :: ns, ms, y, S, h => by
    simp only [List.length_cons] at h
    by_cases hm : n ∈ ms
    · obtain ⟨ms', z, e, h1, h2⟩ := each_loop x ns ms (some (.sh (.int n))) S (by omega)
      have hl : ((ms.map D.int).length + 0 ≤ sizeLine) = True := by rw [List.length_map]; simp; omega
      refine ⟨ms', z, ?_, fun k => ?_, by simp only [List.length_cons]; omega⟩
      · simp only [List.map_cons, x_def, startE, x_seq, x_nx, x_rt, x_bk, x_ct, x_bind, x_pure, x_c, x_nil, x_cons, x_tup, x_lst, x_op2, x_op1, x_tru, x_notT, x_ite, x_ifS, x_andT, x_orT, x_and, x_or, x_chain, x_bi, x_biF, x_call, x_perm, x_it, x_ret, x_drop, x_next, x_set, x_setF, x_asg, x_aug, x_for, x_comp, x_cat, x_dSub, x_dAdd, x_dAddI, x_dLt, x_dLe, x_dGt, x_dGe, x_dNeg, x_dNot, x_dTru, x_dEq, x_dNe, x_var0, x_varS, Option.bind_some, Option.map_some, List.map_cons, List.map_nil, List.length_cons, List.length_nil, List.replicate_succ, List.replicate_zero, List.cons_append, List.nil_append, List.set_cons_zero, List.set_cons_succ, Bool.not_true, Bool.not_false, Bool.false_eq_true, if_true, if_false, decide_true, decide_false, decide_eq_true_eq, dIsN, dNotN, dIdx, dItems, at_int, at0, at1, at2, at3, cut2, gN, gT, gCo, gNl, wipeE, x_for_nil, x_for_cons, x_turn_nx, x_turn_ct, x_turn_bk, x_turn_rt, x_comp_nil, x_comp_cons, sz2, sz4, i_lt_int, i_lt_bl, i_lt_non, i_lt_lst, i_lt_tup, i_i_int, i_i_bl, i_b_int, i_b_bl, i_b_non, i_b_lst, i_b_tup, i_l_int, i_l_bl, i_l_non, i_l_lst, i_l_tup, i_t_int, i_t_lst, i_t_tup, i_d_int, i_d_bl, i_d_non, i_d_lst, i_d_tup, i_ltd_int, i_ltd_bl, i_ltd_non, l_lst, l_tup, t_lst, t_tup, a_lst, b_nil, b_cons, cut_lst, cut_tup, x_dEqb, x_dNeb, x_dEqn, x_zip, x_range1, x_range2, Int.cast_ofNat_Int, Nat.zero_add, List.all_cons, List.all_nil, id, Bool.and_true, Bool.true_and, Bool.and_false, Bool.false_and, Bool.or_true, Bool.true_or, Bool.or_false, Bool.false_or, Nat.reduceAdd, Nat.reduceSub, Int.reduceEq, Int.reduceLT, Int.reduceLE, Int.reduceNeg, szl0, szl1, szl2, szl3, szl4, szl5, szl6, szl7, szl8, szl9, szl10, x_extend, x_append, x_borT, x_frz, x_idxO, List.getElem?_cons_zero, List.getElem?_cons_succ, x_notIn, x_isIn, rg_m1, rg_m2, rg_2, rg_3, rg_5, x_abs, x_int, x_rep2, Int.reduceAdd, Int.reduceSub, Int.reduceToNat, and_self, ram3, rbm3, ram2, rbm2, ram1, rbm1, ra0, rb0, ra1, rb1, ra2, rb2, ra3, rb3, ra4, rb4, ra5, rb5, ra6, rb6, ra7, rb7, ra8, rb8, ra9, rb9, ra10, rb10, ra11, rb11, ra12, rb12, ra13, rb13, ra20, rb20, ra24, rb24, hm, hl, List.append_nil]
        exact e
      · rw [h1 k]
        constructor
        · rintro (a | a)
          · exact .inl a
          · exact .inr (.tail _ a)
        · rintro (a | a)
          · exact .inl a
          · rcases List.mem_cons.1 a with rfl | a
            · exact .inl hm
            · exact .inr a
    · obtain ⟨ms', z, e, h1, h2⟩ := each_loop x ns (ms ++ [n]) (some (.sh (.int n))) S (by simp only [List.length_append, List.length_cons, List.length_nil]; omega)
      have hl : ((ms.map D.int).length + 1 ≤ sizeLine) = True := by rw [List.length_map]; simp; omega
      refine ⟨ms', z, ?_, fun k => ?_, by simp only [List.length_append, List.length_cons, List.length_nil] at h2 ⊢; omega⟩
      · simp only [List.map_cons, x_def, startE, x_seq, x_nx, x_rt, x_bk, x_ct, x_bind, x_pure, x_c, x_nil, x_cons, x_tup, x_lst, x_op2, x_op1, x_tru, x_notT, x_ite, x_ifS, x_andT, x_orT, x_and, x_or, x_chain, x_bi, x_biF, x_call, x_perm, x_it, x_ret, x_drop, x_next, x_set, x_setF, x_asg, x_aug, x_for, x_comp, x_cat, x_dSub, x_dAdd, x_dAddI, x_dLt, x_dLe, x_dGt, x_dGe, x_dNeg, x_dNot, x_dTru, x_dEq, x_dNe, x_var0, x_varS, Option.bind_some, Option.map_some, List.map_cons, List.map_nil, List.length_cons, List.length_nil, List.replicate_succ, List.replicate_zero, List.cons_append, List.nil_append, List.set_cons_zero, List.set_cons_succ, Bool.not_true, Bool.not_false, Bool.false_eq_true, if_true, if_false, decide_true, decide_false, decide_eq_true_eq, dIsN, dNotN, dIdx, dItems, at_int, at0, at1, at2, at3, cut2, gN, gT, gCo, gNl, wipeE, x_for_nil, x_for_cons, x_turn_nx, x_turn_ct, x_turn_bk, x_turn_rt, x_comp_nil, x_comp_cons, sz2, sz4, i_lt_int, i_lt_bl, i_lt_non, i_lt_lst, i_lt_tup, i_i_int, i_i_bl, i_b_int, i_b_bl, i_b_non, i_b_lst, i_b_tup, i_l_int, i_l_bl, i_l_non, i_l_lst, i_l_tup, i_t_int, i_t_lst, i_t_tup, i_d_int, i_d_bl, i_d_non, i_d_lst, i_d_tup, i_ltd_int, i_ltd_bl, i_ltd_non, l_lst, l_tup, t_lst, t_tup, a_lst, b_nil, b_cons, cut_lst, cut_tup, x_dEqb, x_dNeb, x_dEqn, x_zip, x_range1, x_range2, Int.cast_ofNat_Int, Nat.zero_add, List.all_cons, List.all_nil, id, Bool.and_true, Bool.true_and, Bool.and_false, Bool.false_and, Bool.or_true, Bool.true_or, Bool.or_false, Bool.false_or, Nat.reduceAdd, Nat.reduceSub, Int.reduceEq, Int.reduceLT, Int.reduceLE, Int.reduceNeg, szl0, szl1, szl2, szl3, szl4, szl5, szl6, szl7, szl8, szl9, szl10, x_extend, x_append, x_borT, x_frz, x_idxO, List.getElem?_cons_zero, List.getElem?_cons_succ, x_notIn, x_isIn, rg_m1, rg_m2, rg_2, rg_3, rg_5, x_abs, x_int, x_rep2, Int.reduceAdd, Int.reduceSub, Int.reduceToNat, and_self, ram3, rbm3, ram2, rbm2, ram1, rbm1, ra0, rb0, ra1, rb1, ra2, rb2, ra3, rb3, ra4, rb4, ra5, rb5, ra6, rb6, ra7, rb7, ra8, rb8, ra9, rb9, ra10, rb10, ra11, rb11, ra12, rb12, ra13, rb13, ra20, rb20, ra24, rb24, hm, hl]
        rw [← e, List.map_append]; rfl
      · rw [h1 k]
        simp only [List.mem_append, List.mem_cons, List.mem_nil_iff, or_false, or_assoc]
theorem v_each (ns : List Int) (S : Strm) (h : ns.length ≤ sizeLine) : ∃ ms : List Int, F__law_each_once [.lst (ns.map D.int)] S = some (.lst (ms.map D.int), S) ∧ (∀ n, n ∈ ms ↔ n ∈ ns) ∧ ms.length ≤ ns.length := by
  obtain ⟨ms', z, e, h1, h2⟩ := each_loop (some (.sh (.lst (ns.map D.int)))) ns [] none S (by simpa using h)
  have hl : ((ns.map D.int).length ≤ sizeLine) = True := by rw [List.length_map]; simpa using h
  refine ⟨ms', ?_, fun n => by simpa using h1 n, by simpa using h2⟩
  simp only [List.map_nil] at e
  simp only [F__law_each_once, m__law_each_once, x_def, startE, x_seq, x_nx, x_rt, x_bk, x_ct, x_bind, x_pure, x_c, x_nil, x_cons, x_tup, x_lst, x_op2, x_op1, x_tru, x_notT, x_ite, x_ifS, x_andT, x_orT, x_and, x_or, x_chain, x_bi, x_biF, x_call, x_perm, x_it, x_ret, x_drop, x_next, x_set, x_setF, x_asg, x_aug, x_for, x_comp, x_cat, x_dSub, x_dAdd, x_dAddI, x_dLt, x_dLe, x_dGt, x_dGe, x_dNeg, x_dNot, x_dTru, x_dEq, x_dNe, x_var0, x_varS, Option.bind_some, Option.map_some, List.map_cons, List.map_nil, List.length_cons, List.length_nil, List.replicate_succ, List.replicate_zero, List.cons_append, List.nil_append, List.set_cons_zero, List.set_cons_succ, Bool.not_true, Bool.not_false, Bool.false_eq_true, if_true, if_false, decide_true, decide_false, decide_eq_true_eq, dIsN, dNotN, dIdx, dItems, at_int, at0, at1, at2, at3, cut2, gN, gT, gCo, gNl, wipeE, x_for_nil, x_for_cons, x_turn_nx, x_turn_ct, x_turn_bk, x_turn_rt, x_comp_nil, x_comp_cons, sz2, sz4, i_lt_int, i_lt_bl, i_lt_non, i_lt_lst, i_lt_tup, i_i_int, i_i_bl, i_b_int, i_b_bl, i_b_non, i_b_lst, i_b_tup, i_l_int, i_l_bl, i_l_non, i_l_lst, i_l_tup, i_t_int, i_t_lst, i_t_tup, i_d_int, i_d_bl, i_d_non, i_d_lst, i_d_tup, i_ltd_int, i_ltd_bl, i_ltd_non, l_lst, l_tup, t_lst, t_tup, a_lst, b_nil, b_cons, cut_lst, cut_tup, x_dEqb, x_dNeb, x_dEqn, x_zip, x_range1, x_range2, Int.cast_ofNat_Int, Nat.zero_add, List.all_cons, List.all_nil, id, Bool.and_true, Bool.true_and, Bool.and_false, Bool.false_and, Bool.or_true, Bool.true_or, Bool.or_false, Bool.false_or, Nat.reduceAdd, Nat.reduceSub, Int.reduceEq, Int.reduceLT, Int.reduceLE, Int.reduceNeg, szl0, szl1, szl2, szl3, szl4, szl5, szl6, szl7, szl8, szl9, szl10, x_extend, x_append, x_borT, x_frz, x_idxO, List.getElem?_cons_zero, List.getElem?_cons_succ, x_notIn, x_isIn, rg_m1, rg_m2, rg_2, rg_3, rg_5, x_abs, x_int, x_rep2, Int.reduceAdd, Int.reduceSub, Int.reduceToNat, and_self, ram3, rbm3, ram2, rbm2, ram1, rbm1, ra0, rb0, ra1, rb1, ra2, rb2, ra3, rb3, ra4, rb4, ra5, rb5, ra6, rb6, ra7, rb7, ra8, rb8, ra9, rb9, ra10, rb10, ra11, rb11, ra12, rb12, ra13, rb13, ra20, rb20, ra24, rb24, hl, e]

def isIn (s : ST) : D → Bool
  | .int n => inB s n
  | _ => false
theorem filter_in (s : ST) : ∀ cs : List Int, ((cs.map D.int).filter (isIn s)).map (fun d => d) = (cs.filter (inB s)).map D.int
  | [] => rfl
  | c :: cs => by
    have := filter_in s cs
    simp only [List.map_cons, List.filter_cons, isIn] at this ⊢
    by_cases h : inB s c = true
    · simp only [h, if_true, List.map_cons, this]
    · simp only [h, if_false, Bool.false_eq_true, this]
theorem some_comp {s : ST} (hv : Vd s) (hb : Bs 900 s) (x1 x2 x3 x4 x5 x6 x7 x8 : Option Ent) (cs : List Int) (hc : ∀ n ∈ cs, n.natAbs < 2 ^ 900) (S : Strm) :
    compL (gN 9) (mTru (mCall F__law_strip_in (mCons (mVar 0) (mCons (mVar 9) mNil)))) (mVar 9) [some (.sh (sD s)), x1, x2, x3, x4, x5, x6, x7, x8, none] (cs.map D.int) S = some ((cs.filter (inB s)).map D.int, S) := by
  rw [← filter_in]
  refine compL_pure (isIn s) (fun d => d) (fun d => ∃ n, n ∈ cs ∧ d = .int n) (fun d S hd => ?_) _ _ (fun d hd => ?_)
  · obtain ⟨n, hn, rfl⟩ := hd
    refine ⟨[some (.sh (sD s)), x1, x2, x3, x4, x5, x6, x7, x8, some (.sh (.int n))], rfl, ?_, fun _ => ?_⟩
    · simp only [x_def, startE, x_seq, x_nx, x_rt, x_bk, x_ct, x_bind, x_pure, x_c, x_nil, x_cons, x_tup, x_lst, x_op2, x_op1, x_tru, x_notT, x_ite, x_ifS, x_andT, x_orT, x_and, x_or, x_chain, x_bi, x_biF, x_call, x_perm, x_it, x_ret, x_drop, x_next, x_set, x_setF, x_asg, x_aug, x_for, x_comp, x_cat, x_dSub, x_dAdd, x_dAddI, x_dLt, x_dLe, x_dGt, x_dGe, x_dNeg, x_dNot, x_dTru, x_dEq, x_dNe, x_var0, x_varS, Option.bind_some, Option.map_some, List.map_cons, List.map_nil, List.length_cons, List.length_nil, List.replicate_succ, List.replicate_zero, List.cons_append, List.nil_append, List.set_cons_zero, List.set_cons_succ, Bool.not_true, Bool.not_false, Bool.false_eq_true, if_true, if_false, decide_true, decide_false, decide_eq_true_eq, dIsN, dNotN, dIdx, dItems, at_int, at0, at1, at2, at3, cut2, gN, gT, gCo, gNl, wipeE, x_for_nil, x_for_cons, x_turn_nx, x_turn_ct, x_turn_bk, x_turn_rt, x_comp_nil, x_comp_cons, sz2, sz4, i_lt_int, i_lt_bl, i_lt_non, i_lt_lst, i_lt_tup, i_i_int, i_i_bl, i_b_int, i_b_bl, i_b_non, i_b_lst, i_b_tup, i_l_int, i_l_bl, i_l_non, i_l_lst, i_l_tup, i_t_int, i_t_lst, i_t_tup, i_d_int, i_d_bl, i_d_non, i_d_lst, i_d_tup, i_ltd_int, i_ltd_bl, i_ltd_non, l_lst, l_tup, t_lst, t_tup, a_lst, b_nil, b_cons, cut_lst, cut_tup, x_dEqb, x_dNeb, x_dEqn, x_zip, x_range1, x_range2, Int.cast_ofNat_Int, Nat.zero_add, List.all_cons, List.all_nil, id, Bool.and_true, Bool.true_and, Bool.and_false, Bool.false_and, Bool.or_true, Bool.true_or, Bool.or_false, Bool.false_or, Nat.reduceAdd, Nat.reduceSub, Int.reduceEq, Int.reduceLT, Int.reduceLE, Int.reduceNeg, szl0, szl1, szl2, szl3, szl4, szl5, szl6, szl7, szl8, szl9, szl10, x_extend, x_append, x_borT, x_frz, x_idxO, List.getElem?_cons_zero, List.getElem?_cons_succ, x_notIn, x_isIn, rg_m1, rg_m2, rg_2, rg_3, rg_5, x_abs, x_int, x_rep2, Int.reduceAdd, Int.reduceSub, Int.reduceToNat, and_self, ram3, rbm3, ram2, rbm2, ram1, rbm1, ra0, rb0, ra1, rb1, ra2, rb2, ra3, rb3, ra4, rb4, ra5, rb5, ra6, rb6, ra7, rb7, ra8, rb8, ra9, rb9, ra10, rb10, ra11, rb11, ra12, rb12, ra13, rb13, ra20, rb20, ra24, rb24, v_in hv hb (hc n hn), isIn]
    · simp only [x_def, startE, x_seq, x_nx, x_rt, x_bk, x_ct, x_bind, x_pure, x_c, x_nil, x_cons, x_tup, x_lst, x_op2, x_op1, x_tru, x_notT, x_ite, x_ifS, x_andT, x_orT, x_and, x_or, x_chain, x_bi, x_biF, x_call, x_perm, x_it, x_ret, x_drop, x_next, x_set, x_setF, x_asg, x_aug, x_for, x_comp, x_cat, x_dSub, x_dAdd, x_dAddI, x_dLt, x_dLe, x_dGt, x_dGe, x_dNeg, x_dNot, x_dTru, x_dEq, x_dNe, x_var0, x_varS, Option.bind_some, Option.map_some, List.map_cons, List.map_nil, List.length_cons, List.length_nil, List.replicate_succ, List.replicate_zero, List.cons_append, List.nil_append, List.set_cons_zero, List.set_cons_succ, Bool.not_true, Bool.not_false, Bool.false_eq_true, if_true, if_false, decide_true, decide_false, decide_eq_true_eq, dIsN, dNotN, dIdx, dItems, at_int, at0, at1, at2, at3, cut2, gN, gT, gCo, gNl, wipeE, x_for_nil, x_for_cons, x_turn_nx, x_turn_ct, x_turn_bk, x_turn_rt, x_comp_nil, x_comp_cons, sz2, sz4, i_lt_int, i_lt_bl, i_lt_non, i_lt_lst, i_lt_tup, i_i_int, i_i_bl, i_b_int, i_b_bl, i_b_non, i_b_lst, i_b_tup, i_l_int, i_l_bl, i_l_non, i_l_lst, i_l_tup, i_t_int, i_t_lst, i_t_tup, i_d_int, i_d_bl, i_d_non, i_d_lst, i_d_tup, i_ltd_int, i_ltd_bl, i_ltd_non, l_lst, l_tup, t_lst, t_tup, a_lst, b_nil, b_cons, cut_lst, cut_tup, x_dEqb, x_dNeb, x_dEqn, x_zip, x_range1, x_range2, Int.cast_ofNat_Int, Nat.zero_add, List.all_cons, List.all_nil, id, Bool.and_true, Bool.true_and, Bool.and_false, Bool.false_and, Bool.or_true, Bool.true_or, Bool.or_false, Bool.false_or, Nat.reduceAdd, Nat.reduceSub, Int.reduceEq, Int.reduceLT, Int.reduceLE, Int.reduceNeg, szl0, szl1, szl2, szl3, szl4, szl5, szl6, szl7, szl8, szl9, szl10, x_extend, x_append, x_borT, x_frz, x_idxO, List.getElem?_cons_zero, List.getElem?_cons_succ, x_notIn, x_isIn, rg_m1, rg_m2, rg_2, rg_3, rg_5, x_abs, x_int, x_rep2, Int.reduceAdd, Int.reduceSub, Int.reduceToNat, and_self, ram3, rbm3, ram2, rbm2, ram1, rbm1, ra0, rb0, ra1, rb1, ra2, rb2, ra3, rb3, ra4, rb4, ra5, rb5, ra6, rb6, ra7, rb7, ra8, rb8, ra9, rb9, ra10, rb10, ra11, rb11, ra12, rb12, ra13, rb13, ra20, rb20, ra24, rb24]
  · obtain ⟨n, hn, rfl⟩ := List.mem_map.1 hd
    exact ⟨n, hn, rfl⟩
def beg (l h : Option Int) (r : Int) : Int := match l with
  | some a => a
  | none => match h with
    | some b => b
    | none => r
def cand1 : ST → List Int
  | none => []
  | some (l, h, m, r) => [beg l h r + -1 * m, beg l h r + 0 * m, beg l h r + 1 * m] ++ (match h with | some b => [b - 0 * m, b - 1 * m] | none => [])
def cand2 : ST → List Int
  | none => []
  | some (l, h, m, r) => [beg l h r + -2 * m, beg l h r + -1 * m, beg l h r + 0 * m, beg l h r + 1 * m, beg l h r + 2 * m] ++ (match h with | some b => [b - 0 * m, b - 1 * m, b - 2 * m] | none => [])
theorem k_mul {m : Int} (hm : m.natAbs < 2 ^ 900) (j : Int) (hj : j.natAbs < 2 ^ 4) : dMul (.int j) (.int m) = some (.int (j * m)) :=
  dMul_ok (Nat.lt_of_lt_of_le hj (by decide)) (Nat.lt_of_lt_of_le hm (by decide))
theorem filt_len {α : Type} (p : α → Bool) (l : List α) {k : Nat} (h : l.length ≤ k) : (l.filter p).length ≤ k := Nat.le_trans (List.length_filter_le p l) h
theorem v_some1 {s : ST} (hv : Vd s) (hb : Bs 890 s) (S : Strm) : ∃ ns : List Int, F__law_strip_some [sD s, .int 1] S = some (.lst (ns.map D.int), S) ∧ (∀ n, n ∈ ns ↔ n ∈ (cand1 s).filter (inB s)) ∧ (∀ n ∈ ns, n.natAbs < 2 ^ 900) ∧ ns.length ≤ 5 := by
  cases s with
  | none => exact ⟨[], by simp only [F__law_strip_some, m__law_strip_some, sD, sL, x_def, startE, x_seq, x_nx, x_rt, x_bk, x_ct, x_bind, x_pure, x_c, x_nil, x_cons, x_tup, x_lst, x_op2, x_op1, x_tru, x_notT, x_ite, x_ifS, x_andT, x_orT, x_and, x_or, x_chain, x_bi, x_biF, x_call, x_perm, x_it, x_ret, x_drop, x_next, x_set, x_setF, x_asg, x_aug, x_for, x_comp, x_cat, x_dSub, x_dAdd, x_dAddI, x_dLt, x_dLe, x_dGt, x_dGe, x_dNeg, x_dNot, x_dTru, x_dEq, x_dNe, x_var0, x_varS, Option.bind_some, Option.map_some, List.map_cons, List.map_nil, List.length_cons, List.length_nil, List.replicate_succ, List.replicate_zero, List.cons_append, List.nil_append, List.set_cons_zero, List.set_cons_succ, Bool.not_true, Bool.not_false, Bool.false_eq_true, if_true, if_false, decide_true, decide_false, decide_eq_true_eq, dIsN, dNotN, dIdx, dItems, at_int, at0, at1, at2, at3, cut2, gN, gT, gCo, gNl, wipeE, x_for_nil, x_for_cons, x_turn_nx, x_turn_ct, x_turn_bk, x_turn_rt, x_comp_nil, x_comp_cons, sz2, sz4, i_lt_int, i_lt_bl, i_lt_non, i_lt_lst, i_lt_tup, i_i_int, i_i_bl, i_b_int, i_b_bl, i_b_non, i_b_lst, i_b_tup, i_l_int, i_l_bl, i_l_non, i_l_lst, i_l_tup, i_t_int, i_t_lst, i_t_tup, i_d_int, i_d_bl, i_d_non, i_d_lst, i_d_tup, i_ltd_int, i_ltd_bl, i_ltd_non, l_lst, l_tup, t_lst, t_tup, a_lst, b_nil, b_cons, cut_lst, cut_tup, x_dEqb, x_dNeb, x_dEqn, x_zip, x_range1, x_range2, Int.cast_ofNat_Int, Nat.zero_add, List.all_cons, List.all_nil, id, Bool.and_true, Bool.true_and, Bool.and_false, Bool.false_and, Bool.or_true, Bool.true_or, Bool.or_false, Bool.false_or, Nat.reduceAdd, Nat.reduceSub, Int.reduceEq, Int.reduceLT, Int.reduceLE, Int.reduceNeg, szl0, szl1, szl2, szl3, szl4, szl5, szl6, szl7, szl8, szl9, szl10, x_extend, x_append, x_borT, x_frz, x_idxO, List.getElem?_cons_zero, List.getElem?_cons_succ, x_notIn, x_isIn, rg_m1, rg_m2, rg_2, rg_3, rg_5, x_abs, x_int, x_rep2, Int.reduceAdd, Int.reduceSub, Int.reduceToNat, and_self, ram3, rbm3, ram2, rbm2, ram1, rbm1, ra0, rb0, ra1, rb1, ra2, rb2, ra3, rb3, ra4, rb4, ra5, rb5, ra6, rb6, ra7, rb7, ra8, rb8, ra9, rb9, ra10, rb10, ra11, rb11, ra12, rb12, ra13, rb13, ra20, rb20, ra24, rb24], by simp [cand1], by simp, by simp⟩
  | some q =>
    obtain ⟨l, h, m, r⟩ := q
    have hb9 : Bs 900 (some (l, h, m, r)) := ⟨fun a e => Nat.lt_of_lt_of_le (hb.1 a e) (by decide), fun a e => Nat.lt_of_lt_of_le (hb.2.1 a e) (by decide), Nat.lt_of_lt_of_le hb.2.2.1 (by decide), Nat.lt_of_lt_of_le hb.2.2.2 (by decide)⟩
    have hm := hb9.2.2.1
    have k1 := k_mul hm (-1) (by decide)
    have k2 := k_mul hm 0 (by decide)
    have k3 := k_mul hm 1 (by decide)
    have hc : ∀ n ∈ cand1 (some (l, h, m, r)), n.natAbs < 2 ^ 900 := by
      have b1 := hb.2.2.1
      have b2 := hb.2.2.2
      intro n hn
      cases l with
      | none =>
        cases h with
        | none => simp only [cand1, beg, List.append_nil, List.mem_cons, List.mem_nil_iff, or_false] at hn; omega
        | some b => have b3 := hb.2.1 b rfl; simp only [cand1, beg, List.cons_append, List.nil_append, List.mem_cons, List.mem_nil_iff, or_false] at hn; omega
      | some a =>
        have b4 := hb.1 a rfl
        cases h with
        | none => simp only [cand1, beg, List.append_nil, List.mem_cons, List.mem_nil_iff, or_false] at hn; omega
        | some b => have b3 := hb.2.1 b rfl; simp only [cand1, beg, List.cons_append, List.nil_append, List.mem_cons, List.mem_nil_iff, or_false] at hn; omega
    have hl : (cand1 (some (l, h, m, r))).length ≤ 5 := by cases h <;> simp [cand1]
    obtain ⟨ms, e1, e2, e3⟩ := v_each ((cand1 (some (l, h, m, r))).filter (inB (some (l, h, m, r)))) S (Nat.le_trans (filt_len _ _ hl) (by simp [sizeLine]))
    refine ⟨ms, ?_, e2, fun n hn => hc n (List.mem_filter.1 ((e2 n).1 hn)).1, Nat.le_trans e3 (filt_len _ _ hl)⟩
    have ec := fun x1 x2 x3 x4 x5 x6 x7 x8 S => some_comp hv hb9 x1 x2 x3 x4 x5 x6 x7 x8 _ hc S
    cases l with
    | none =>
      cases h with
      | none =>
        simp only [cand1, beg, List.append_nil, List.map_cons, List.map_nil, sD, sL, qD, oD, Bool.false_eq_true, if_false] at ec e1
        simp only [F__law_strip_some, m__law_strip_some, sD, sL, qD, oD, x_def, startE, x_seq, x_nx, x_rt, x_bk, x_ct, x_bind, x_pure, x_c, x_nil, x_cons, x_tup, x_lst, x_op2, x_op1, x_tru, x_notT, x_ite, x_ifS, x_andT, x_orT, x_and, x_or, x_chain, x_bi, x_biF, x_call, x_perm, x_it, x_ret, x_drop, x_next, x_set, x_setF, x_asg, x_aug, x_for, x_comp, x_cat, x_dSub, x_dAdd, x_dAddI, x_dLt, x_dLe, x_dGt, x_dGe, x_dNeg, x_dNot, x_dTru, x_dEq, x_dNe, x_var0, x_varS, Option.bind_some, Option.map_some, List.map_cons, List.map_nil, List.length_cons, List.length_nil, List.replicate_succ, List.replicate_zero, List.cons_append, List.nil_append, List.set_cons_zero, List.set_cons_succ, Bool.not_true, Bool.not_false, Bool.false_eq_true, if_true, if_false, decide_true, decide_false, decide_eq_true_eq, dIsN, dNotN, dIdx, dItems, at_int, at0, at1, at2, at3, cut2, gN, gT, gCo, gNl, wipeE, x_for_nil, x_for_cons, x_turn_nx, x_turn_ct, x_turn_bk, x_turn_rt, x_comp_nil, x_comp_cons, sz2, sz4, i_lt_int, i_lt_bl, i_lt_non, i_lt_lst, i_lt_tup, i_i_int, i_i_bl, i_b_int, i_b_bl, i_b_non, i_b_lst, i_b_tup, i_l_int, i_l_bl, i_l_non, i_l_lst, i_l_tup, i_t_int, i_t_lst, i_t_tup, i_d_int, i_d_bl, i_d_non, i_d_lst, i_d_tup, i_ltd_int, i_ltd_bl, i_ltd_non, l_lst, l_tup, t_lst, t_tup, a_lst, b_nil, b_cons, cut_lst, cut_tup, x_dEqb, x_dNeb, x_dEqn, x_zip, x_range1, x_range2, Int.cast_ofNat_Int, Nat.zero_add, List.all_cons, List.all_nil, id, Bool.and_true, Bool.true_and, Bool.and_false, Bool.false_and, Bool.or_true, Bool.true_or, Bool.or_false, Bool.false_or, Nat.reduceAdd, Nat.reduceSub, Int.reduceEq, Int.reduceLT, Int.reduceLE, Int.reduceNeg, szl0, szl1, szl2, szl3, szl4, szl5, szl6, szl7, szl8, szl9, szl10, x_extend, x_append, x_borT, x_frz, x_idxO, List.getElem?_cons_zero, List.getElem?_cons_succ, x_notIn, x_isIn, rg_m1, rg_m2, rg_2, rg_3, rg_5, x_abs, x_int, x_rep2, Int.reduceAdd, Int.reduceSub, Int.reduceToNat, and_self, ram3, rbm3, ram2, rbm2, ram1, rbm1, ra0, rb0, ra1, rb1, ra2, rb2, ra3, rb3, ra4, rb4, ra5, rb5, ra6, rb6, ra7, rb7, ra8, rb8, ra9, rb9, ra10, rb10, ra11, rb11, ra12, rb12, ra13, rb13, ra20, rb20, ra24, rb24, k1, k2, k3, List.append_nil, ec, e1]
      | some b =>
        simp only [cand1, beg, List.cons_append, List.nil_append, List.map_cons, List.map_nil, sD, sL, qD, oD, Bool.false_eq_true, if_false] at ec e1
        simp only [F__law_strip_some, m__law_strip_some, sD, sL, qD, oD, x_def, startE, x_seq, x_nx, x_rt, x_bk, x_ct, x_bind, x_pure, x_c, x_nil, x_cons, x_tup, x_lst, x_op2, x_op1, x_tru, x_notT, x_ite, x_ifS, x_andT, x_orT, x_and, x_or, x_chain, x_bi, x_biF, x_call, x_perm, x_it, x_ret, x_drop, x_next, x_set, x_setF, x_asg, x_aug, x_for, x_comp, x_cat, x_dSub, x_dAdd, x_dAddI, x_dLt, x_dLe, x_dGt, x_dGe, x_dNeg, x_dNot, x_dTru, x_dEq, x_dNe, x_var0, x_varS, Option.bind_some, Option.map_some, List.map_cons, List.map_nil, List.length_cons, List.length_nil, List.replicate_succ, List.replicate_zero, List.cons_append, List.nil_append, List.set_cons_zero, List.set_cons_succ, Bool.not_true, Bool.not_false, Bool.false_eq_true, if_true, if_false, decide_true, decide_false, decide_eq_true_eq, dIsN, dNotN, dIdx, dItems, at_int, at0, at1, at2, at3, cut2, gN, gT, gCo, gNl, wipeE, x_for_nil, x_for_cons, x_turn_nx, x_turn_ct, x_turn_bk, x_turn_rt, x_comp_nil, x_comp_cons, sz2, sz4, i_lt_int, i_lt_bl, i_lt_non, i_lt_lst, i_lt_tup, i_i_int, i_i_bl, i_b_int, i_b_bl, i_b_non, i_b_lst, i_b_tup, i_l_int, i_l_bl, i_l_non, i_l_lst, i_l_tup, i_t_int, i_t_lst, i_t_tup, i_d_int, i_d_bl, i_d_non, i_d_lst, i_d_tup, i_ltd_int, i_ltd_bl, i_ltd_non, l_lst, l_tup, t_lst, t_tup, a_lst, b_nil, b_cons, cut_lst, cut_tup, x_dEqb, x_dNeb, x_dEqn, x_zip, x_range1, x_range2, Int.cast_ofNat_Int, Nat.zero_add, List.all_cons, List.all_nil, id, Bool.and_true, Bool.true_and, Bool.and_false, Bool.false_and, Bool.or_true, Bool.true_or, Bool.or_false, Bool.false_or, Nat.reduceAdd, Nat.reduceSub, Int.reduceEq, Int.reduceLT, Int.reduceLE, Int.reduceNeg, szl0, szl1, szl2, szl3, szl4, szl5, szl6, szl7, szl8, szl9, szl10, x_extend, x_append, x_borT, x_frz, x_idxO, List.getElem?_cons_zero, List.getElem?_cons_succ, x_notIn, x_isIn, rg_m1, rg_m2, rg_2, rg_3, rg_5, x_abs, x_int, x_rep2, Int.reduceAdd, Int.reduceSub, Int.reduceToNat, and_self, ram3, rbm3, ram2, rbm2, ram1, rbm1, ra0, rb0, ra1, rb1, ra2, rb2, ra3, rb3, ra4, rb4, ra5, rb5, ra6, rb6, ra7, rb7, ra8, rb8, ra9, rb9, ra10, rb10, ra11, rb11, ra12, rb12, ra13, rb13, ra20, rb20, ra24, rb24, k1, k2, k3, ec, e1]
    | some a =>
      cases h with
      | none =>
        simp only [cand1, beg, List.append_nil, List.map_cons, List.map_nil, sD, sL, qD, oD, Bool.false_eq_true, if_false] at ec e1
        simp only [F__law_strip_some, m__law_strip_some, sD, sL, qD, oD, x_def, startE, x_seq, x_nx, x_rt, x_bk, x_ct, x_bind, x_pure, x_c, x_nil, x_cons, x_tup, x_lst, x_op2, x_op1, x_tru, x_notT, x_ite, x_ifS, x_andT, x_orT, x_and, x_or, x_chain, x_bi, x_biF, x_call, x_perm, x_it, x_ret, x_drop, x_next, x_set, x_setF, x_asg, x_aug, x_for, x_comp, x_cat, x_dSub, x_dAdd, x_dAddI, x_dLt, x_dLe, x_dGt, x_dGe, x_dNeg, x_dNot, x_dTru, x_dEq, x_dNe, x_var0, x_varS, Option.bind_some, Option.map_some, List.map_cons, List.map_nil, List.length_cons, List.length_nil, List.replicate_succ, List.replicate_zero, List.cons_append, List.nil_append, List.set_cons_zero, List.set_cons_succ, Bool.not_true, Bool.not_false, Bool.false_eq_true, if_true, if_false, decide_true, decide_false, decide_eq_true_eq, dIsN, dNotN, dIdx, dItems, at_int, at0, at1, at2, at3, cut2, gN, gT, gCo, gNl, wipeE, x_for_nil, x_for_cons, x_turn_nx, x_turn_ct, x_turn_bk, x_turn_rt, x_comp_nil, x_comp_cons, sz2, sz4, i_lt_int, i_lt_bl, i_lt_non, i_lt_lst, i_lt_tup, i_i_int, i_i_bl, i_b_int, i_b_bl, i_b_non, i_b_lst, i_b_tup, i_l_int, i_l_bl, i_l_non, i_l_lst, i_l_tup, i_t_int, i_t_lst, i_t_tup, i_d_int, i_d_bl, i_d_non, i_d_lst, i_d_tup, i_ltd_int, i_ltd_bl, i_ltd_non, l_lst, l_tup, t_lst, t_tup, a_lst, b_nil, b_cons, cut_lst, cut_tup, x_dEqb, x_dNeb, x_dEqn, x_zip, x_range1, x_range2, Int.cast_ofNat_Int, Nat.zero_add, List.all_cons, List.all_nil, id, Bool.and_true, Bool.true_and, Bool.and_false, Bool.false_and, Bool.or_true, Bool.true_or, Bool.or_false, Bool.false_or, Nat.reduceAdd, Nat.reduceSub, Int.reduceEq, Int.reduceLT, Int.reduceLE, Int.reduceNeg, szl0, szl1, szl2, szl3, szl4, szl5, szl6, szl7, szl8, szl9, szl10, x_extend, x_append, x_borT, x_frz, x_idxO, List.getElem?_cons_zero, List.getElem?_cons_succ, x_notIn, x_isIn, rg_m1, rg_m2, rg_2, rg_3, rg_5, x_abs, x_int, x_rep2, Int.reduceAdd, Int.reduceSub, Int.reduceToNat, and_self, ram3, rbm3, ram2, rbm2, ram1, rbm1, ra0, rb0, ra1, rb1, ra2, rb2, ra3, rb3, ra4, rb4, ra5, rb5, ra6, rb6, ra7, rb7, ra8, rb8, ra9, rb9, ra10, rb10, ra11, rb11, ra12, rb12, ra13, rb13, ra20, rb20, ra24, rb24, k1, k2, k3, List.append_nil, ec, e1]
      | some b =>
        simp only [cand1, beg, List.cons_append, List.nil_append, List.map_cons, List.map_nil, sD, sL, qD, oD, Bool.false_eq_true, if_false] at ec e1
        simp only [F__law_strip_some, m__law_strip_some, sD, sL, qD, oD, x_def, startE, x_seq, x_nx, x_rt, x_bk, x_ct, x_bind, x_pure, x_c, x_nil, x_cons, x_tup, x_lst, x_op2, x_op1, x_tru, x_notT, x_ite, x_ifS, x_andT, x_orT, x_and, x_or, x_chain, x_bi, x_biF, x_call, x_perm, x_it, x_ret, x_drop, x_next, x_set, x_setF, x_asg, x_aug, x_for, x_comp, x_cat, x_dSub, x_dAdd, x_dAddI, x_dLt, x_dLe, x_dGt, x_dGe, x_dNeg, x_dNot, x_dTru, x_dEq, x_dNe, x_var0, x_varS, Option.bind_some, Option.map_some, List.map_cons, List.map_nil, List.length_cons, List.length_nil, List.replicate_succ, List.replicate_zero, List.cons_append, List.nil_append, List.set_cons_zero, List.set_cons_succ, Bool.not_true, Bool.not_false, Bool.false_eq_true, if_true, if_false, decide_true, decide_false, decide_eq_true_eq, dIsN, dNotN, dIdx, dItems, at_int, at0, at1, at2, at3, cut2, gN, gT, gCo, gNl, wipeE, x_for_nil, x_for_cons, x_turn_nx, x_turn_ct, x_turn_bk, x_turn_rt, x_comp_nil, x_comp_cons, sz2, sz4, i_lt_int, i_lt_bl, i_lt_non, i_lt_lst, i_lt_tup, i_i_int, i_i_bl, i_b_int, i_b_bl, i_b_non, i_b_lst, i_b_tup, i_l_int, i_l_bl, i_l_non, i_l_lst, i_l_tup, i_t_int, i_t_lst, i_t_tup, i_d_int, i_d_bl, i_d_non, i_d_lst, i_d_tup, i_ltd_int, i_ltd_bl, i_ltd_non, l_lst, l_tup, t_lst, t_tup, a_lst, b_nil, b_cons, cut_lst, cut_tup, x_dEqb, x_dNeb, x_dEqn, x_zip, x_range1, x_range2, Int.cast_ofNat_Int, Nat.zero_add, List.all_cons, List.all_nil, id, Bool.and_true, Bool.true_and, Bool.and_false, Bool.false_and, Bool.or_true, Bool.true_or, Bool.or_false, Bool.false_or, Nat.reduceAdd, Nat.reduceSub, Int.reduceEq, Int.reduceLT, Int.reduceLE, Int.reduceNeg, szl0, szl1, szl2, szl3, szl4, szl5, szl6, szl7, szl8, szl9, szl10, x_extend, x_append, x_borT, x_frz, x_idxO, List.getElem?_cons_zero, List.getElem?_cons_succ, x_notIn, x_isIn, rg_m1, rg_m2, rg_2, rg_3, rg_5, x_abs, x_int, x_rep2, Int.reduceAdd, Int.reduceSub, Int.reduceToNat, and_self, ram3, rbm3, ram2, rbm2, ram1, rbm1, ra0, rb0, ra1, rb1, ra2, rb2, ra3, rb3, ra4, rb4, ra5, rb5, ra6, rb6, ra7, rb7, ra8, rb8, ra9, rb9, ra10, rb10, ra11, rb11, ra12, rb12, ra13, rb13, ra20, rb20, ra24, rb24, k1, k2, k3, ec, e1]
theorem v_some2 {s : ST} (hv : Vd s) (hb : Bs 890 s) (S : Strm) : ∃ ns : List Int, F__law_strip_some [sD s, .int 2] S = some (.lst (ns.map D.int), S) ∧ ns.length ≤ 8 ∧ ∀ n ∈ ns, n.natAbs < 2 ^ 895 := by
  cases s with
  | none => exact ⟨[], by simp only [F__law_strip_some, m__law_strip_some, sD, sL, x_def, startE, x_seq, x_nx, x_rt, x_bk, x_ct, x_bind, x_pure, x_c, x_nil, x_cons, x_tup, x_lst, x_op2, x_op1, x_tru, x_notT, x_ite, x_ifS, x_andT, x_orT, x_and, x_or, x_chain, x_bi, x_biF, x_call, x_perm, x_it, x_ret, x_drop, x_next, x_set, x_setF, x_asg, x_aug, x_for, x_comp, x_cat, x_dSub, x_dAdd, x_dAddI, x_dLt, x_dLe, x_dGt, x_dGe, x_dNeg, x_dNot, x_dTru, x_dEq, x_dNe, x_var0, x_varS, Option.bind_some, Option.map_some, List.map_cons, List.map_nil, List.length_cons, List.length_nil, List.replicate_succ, List.replicate_zero, List.cons_append, List.nil_append, List.set_cons_zero, List.set_cons_succ, Bool.not_true, Bool.not_false, Bool.false_eq_true, if_true, if_false, decide_true, decide_false, decide_eq_true_eq, dIsN, dNotN, dIdx, dItems, at_int, at0, at1, at2, at3, cut2, gN, gT, gCo, gNl, wipeE, x_for_nil, x_for_cons, x_turn_nx, x_turn_ct, x_turn_bk, x_turn_rt, x_comp_nil, x_comp_cons, sz2, sz4, i_lt_int, i_lt_bl, i_lt_non, i_lt_lst, i_lt_tup, i_i_int, i_i_bl, i_b_int, i_b_bl, i_b_non, i_b_lst, i_b_tup, i_l_int, i_l_bl, i_l_non, i_l_lst, i_l_tup, i_t_int, i_t_lst, i_t_tup, i_d_int, i_d_bl, i_d_non, i_d_lst, i_d_tup, i_ltd_int, i_ltd_bl, i_ltd_non, l_lst, l_tup, t_lst, t_tup, a_lst, b_nil, b_cons, cut_lst, cut_tup, x_dEqb, x_dNeb, x_dEqn, x_zip, x_range1, x_range2, Int.cast_ofNat_Int, Nat.zero_add, List.all_cons, List.all_nil, id, Bool.and_true, Bool.true_and, Bool.and_false, Bool.false_and, Bool.or_true, Bool.true_or, Bool.or_false, Bool.false_or, Nat.reduceAdd, Nat.reduceSub, Int.reduceEq, Int.reduceLT, Int.reduceLE, Int.reduceNeg, szl0, szl1, szl2, szl3, szl4, szl5, szl6, szl7, szl8, szl9, szl10, x_extend, x_append, x_borT, x_frz, x_idxO, List.getElem?_cons_zero, List.getElem?_cons_succ, x_notIn, x_isIn, rg_m1, rg_m2, rg_2, rg_3, rg_5, x_abs, x_int, x_rep2, Int.reduceAdd, Int.reduceSub, Int.reduceToNat, and_self, ram3, rbm3, ram2, rbm2, ram1, rbm1, ra0, rb0, ra1, rb1, ra2, rb2, ra3, rb3, ra4, rb4, ra5, rb5, ra6, rb6, ra7, rb7, ra8, rb8, ra9, rb9, ra10, rb10, ra11, rb11, ra12, rb12, ra13, rb13, ra20, rb20, ra24, rb24], by simp, by simp⟩
  | some q =>
    obtain ⟨l, h, m, r⟩ := q
    have hb9 : Bs 900 (some (l, h, m, r)) := ⟨fun a e => Nat.lt_of_lt_of_le (hb.1 a e) (by decide), fun a e => Nat.lt_of_lt_of_le (hb.2.1 a e) (by decide), Nat.lt_of_lt_of_le hb.2.2.1 (by decide), Nat.lt_of_lt_of_le hb.2.2.2 (by decide)⟩
    have hm := hb9.2.2.1
    have k0 := k_mul hm (-2) (by decide)
    have k1 := k_mul hm (-1) (by decide)
    have k2 := k_mul hm 0 (by decide)
    have k3 := k_mul hm 1 (by decide)
    have k4 := k_mul hm 2 (by decide)
    have hc' : ∀ n ∈ cand2 (some (l, h, m, r)), n.natAbs < 2 ^ 895 := by
      have b1 := hb.2.2.1
      have b2 := hb.2.2.2
      intro n hn
      cases l with
      | none =>
        cases h with
        | none => simp only [cand2, beg, List.append_nil, List.mem_cons, List.mem_nil_iff, or_false] at hn; omega
        | some b => have b3 := hb.2.1 b rfl; simp only [cand2, beg, List.cons_append, List.nil_append, List.mem_cons, List.mem_nil_iff, or_false] at hn; omega
      | some a =>
        have b4 := hb.1 a rfl
        cases h with
        | none => simp only [cand2, beg, List.append_nil, List.mem_cons, List.mem_nil_iff, or_false] at hn; omega
        | some b => have b3 := hb.2.1 b rfl; simp only [cand2, beg, List.cons_append, List.nil_append, List.mem_cons, List.mem_nil_iff, or_false] at hn; omega
    have hc : ∀ n ∈ cand2 (some (l, h, m, r)), n.natAbs < 2 ^ 900 := fun n hn => Nat.lt_of_lt_of_le (hc' n hn) (by decide)
    have hl : (cand2 (some (l, h, m, r))).length ≤ 8 := by cases h <;> simp [cand2]
    obtain ⟨ms, e1, e2, e3⟩ := v_each ((cand2 (some (l, h, m, r))).filter (inB (some (l, h, m, r)))) S (Nat.le_trans (filt_len _ _ hl) (by simp [sizeLine]))
    refine ⟨ms, ?_, Nat.le_trans e3 (filt_len _ _ hl), fun n hn => hc' n (List.mem_filter.1 ((e2 n).1 hn)).1⟩
    have ec := fun x1 x2 x3 x4 x5 x6 x7 x8 S => some_comp hv hb9 x1 x2 x3 x4 x5 x6 x7 x8 _ hc S
    cases l with
    | none =>
      cases h with
      | none =>
        simp only [cand2, beg, List.append_nil, List.map_cons, List.map_nil, sD, sL, qD, oD, Bool.false_eq_true, if_false] at ec e1
        simp only [F__law_strip_some, m__law_strip_some, sD, sL, qD, oD, x_def, startE, x_seq, x_nx, x_rt, x_bk, x_ct, x_bind, x_pure, x_c, x_nil, x_cons, x_tup, x_lst, x_op2, x_op1, x_tru, x_notT, x_ite, x_ifS, x_andT, x_orT, x_and, x_or, x_chain, x_bi, x_biF, x_call, x_perm, x_it, x_ret, x_drop, x_next, x_set, x_setF, x_asg, x_aug, x_for, x_comp, x_cat, x_dSub, x_dAdd, x_dAddI, x_dLt, x_dLe, x_dGt, x_dGe, x_dNeg, x_dNot, x_dTru, x_dEq, x_dNe, x_var0, x_varS, Option.bind_some, Option.map_some, List.map_cons, List.map_nil, List.length_cons, List.length_nil, List.replicate_succ, List.replicate_zero, List.cons_append, List.nil_append, List.set_cons_zero, List.set_cons_succ, Bool.not_true, Bool.not_false, Bool.false_eq_true, if_true, if_false, decide_true, decide_false, decide_eq_true_eq, dIsN, dNotN, dIdx, dItems, at_int, at0, at1, at2, at3, cut2, gN, gT, gCo, gNl, wipeE, x_for_nil, x_for_cons, x_turn_nx, x_turn_ct, x_turn_bk, x_turn_rt, x_comp_nil, x_comp_cons, sz2, sz4, i_lt_int, i_lt_bl, i_lt_non, i_lt_lst, i_lt_tup, i_i_int, i_i_bl, i_b_int, i_b_bl, i_b_non, i_b_lst, i_b_tup, i_l_int, i_l_bl, i_l_non, i_l_lst, i_l_tup, i_t_int, i_t_lst, i_t_tup, i_d_int, i_d_bl, i_d_non, i_d_lst, i_d_tup, i_ltd_int, i_ltd_bl, i_ltd_non, l_lst, l_tup, t_lst, t_tup, a_lst, b_nil, b_cons, cut_lst, cut_tup, x_dEqb, x_dNeb, x_dEqn, x_zip, x_range1, x_range2, Int.cast_ofNat_Int, Nat.zero_add, List.all_cons, List.all_nil, id, Bool.and_true, Bool.true_and, Bool.and_false, Bool.false_and, Bool.or_true, Bool.true_or, Bool.or_false, Bool.false_or, Nat.reduceAdd, Nat.reduceSub, Int.reduceEq, Int.reduceLT, Int.reduceLE, Int.reduceNeg, szl0, szl1, szl2, szl3, szl4, szl5, szl6, szl7, szl8, szl9, szl10, x_extend, x_append, x_borT, x_frz, x_idxO, List.getElem?_cons_zero, List.getElem?_cons_succ, x_notIn, x_isIn, rg_m1, rg_m2, rg_2, rg_3, rg_5, x_abs, x_int, x_rep2, Int.reduceAdd, Int.reduceSub, Int.reduceToNat, and_self, ram3, rbm3, ram2, rbm2, ram1, rbm1, ra0, rb0, ra1, rb1, ra2, rb2, ra3, rb3, ra4, rb4, ra5, rb5, ra6, rb6, ra7, rb7, ra8, rb8, ra9, rb9, ra10, rb10, ra11, rb11, ra12, rb12, ra13, rb13, ra20, rb20, ra24, rb24, k0, k1, k2, k3, k4, List.append_nil, ec, e1]
      | some b =>
        simp only [cand2, beg, List.cons_append, List.nil_append, List.map_cons, List.map_nil, sD, sL, qD, oD, Bool.false_eq_true, if_false] at ec e1
        simp only [F__law_strip_some, m__law_strip_some, sD, sL, qD, oD, x_def, startE, x_seq, x_nx, x_rt, x_bk, x_ct, x_bind, x_pure, x_c, x_nil, x_cons, x_tup, x_lst, x_op2, x_op1, x_tru, x_notT, x_ite, x_ifS, x_andT, x_orT, x_and, x_or, x_chain, x_bi, x_biF, x_call, x_perm, x_it, x_ret, x_drop, x_next, x_set, x_setF, x_asg, x_aug, x_for, x_comp, x_cat, x_dSub, x_dAdd, x_dAddI, x_dLt, x_dLe, x_dGt, x_dGe, x_dNeg, x_dNot, x_dTru, x_dEq, x_dNe, x_var0, x_varS, Option.bind_some, Option.map_some, List.map_cons, List.map_nil, List.length_cons, List.length_nil, List.replicate_succ, List.replicate_zero, List.cons_append, List.nil_append, List.set_cons_zero, List.set_cons_succ, Bool.not_true, Bool.not_false, Bool.false_eq_true, if_true, if_false, decide_true, decide_false, decide_eq_true_eq, dIsN, dNotN, dIdx, dItems, at_int, at0, at1, at2, at3, cut2, gN, gT, gCo, gNl, wipeE, x_for_nil, x_for_cons, x_turn_nx, x_turn_ct, x_turn_bk, x_turn_rt, x_comp_nil, x_comp_cons, sz2, sz4, i_lt_int, i_lt_bl, i_lt_non, i_lt_lst, i_lt_tup, i_i_int, i_i_bl, i_b_int, i_b_bl, i_b_non, i_b_lst, i_b_tup, i_l_int, i_l_bl, i_l_non, i_l_lst, i_l_tup, i_t_int, i_t_lst, i_t_tup, i_d_int, i_d_bl, i_d_non, i_d_lst, i_d_tup, i_ltd_int, i_ltd_bl, i_ltd_non, l_lst, l_tup, t_lst, t_tup, a_lst, b_nil, b_cons, cut_lst, cut_tup, x_dEqb, x_dNeb, x_dEqn, x_zip, x_range1, x_range2, Int.cast_ofNat_Int, Nat.zero_add, List.all_cons, List.all_nil, id, Bool.and_true, Bool.true_and, Bool.and_false, Bool.false_and, Bool.or_true, Bool.true_or, Bool.or_false, Bool.false_or, Nat.reduceAdd, Nat.reduceSub, Int.reduceEq, Int.reduceLT, Int.reduceLE, Int.reduceNeg, szl0, szl1, szl2, szl3, szl4, szl5, szl6, szl7, szl8, szl9, szl10, x_extend, x_append, x_borT, x_frz, x_idxO, List.getElem?_cons_zero, List.getElem?_cons_succ, x_notIn, x_isIn, rg_m1, rg_m2, rg_2, rg_3, rg_5, x_abs, x_int, x_rep2, Int.reduceAdd, Int.reduceSub, Int.reduceToNat, and_self, ram3, rbm3, ram2, rbm2, ram1, rbm1, ra0, rb0, ra1, rb1, ra2, rb2, ra3, rb3, ra4, rb4, ra5, rb5, ra6, rb6, ra7, rb7, ra8, rb8, ra9, rb9, ra10, rb10, ra11, rb11, ra12, rb12, ra13, rb13, ra20, rb20, ra24, rb24, k0, k1, k2, k3, k4, ec, e1]
    | some a =>
      cases h with
      | none =>
        simp only [cand2, beg, List.append_nil, List.map_cons, List.map_nil, sD, sL, qD, oD, Bool.false_eq_true, if_false] at ec e1
        simp only [F__law_strip_some, m__law_strip_some, sD, sL, qD, oD, x_def, startE, x_seq, x_nx, x_rt, x_bk, x_ct, x_bind, x_pure, x_c, x_nil, x_cons, x_tup, x_lst, x_op2, x_op1, x_tru, x_notT, x_ite, x_ifS, x_andT, x_orT, x_and, x_or, x_chain, x_bi, x_biF, x_call, x_perm, x_it, x_ret, x_drop, x_next, x_set, x_setF, x_asg, x_aug, x_for, x_comp, x_cat, x_dSub, x_dAdd, x_dAddI, x_dLt, x_dLe, x_dGt, x_dGe, x_dNeg, x_dNot, x_dTru, x_dEq, x_dNe, x_var0, x_varS, Option.bind_some, Option.map_some, List.map_cons, List.map_nil, List.length_cons, List.length_nil, List.replicate_succ, List.replicate_zero, List.cons_append, List.nil_append, List.set_cons_zero, List.set_cons_succ, Bool.not_true, Bool.not_false, Bool.false_eq_true, if_true, if_false, decide_true, decide_false, decide_eq_true_eq, dIsN, dNotN, dIdx, dItems, at_int, at0, at1, at2, at3, cut2, gN, gT, gCo, gNl, wipeE, x_for_nil, x_for_cons, x_turn_nx, x_turn_ct, x_turn_bk, x_turn_rt, x_comp_nil, x_comp_cons, sz2, sz4, i_lt_int, i_lt_bl, i_lt_non, i_lt_lst, i_lt_tup, i_i_int, i_i_bl, i_b_int, i_b_bl, i_b_non, i_b_lst, i_b_tup, i_l_int, i_l_bl, i_l_non, i_l_lst, i_l_tup, i_t_int, i_t_lst, i_t_tup, i_d_int, i_d_bl, i_d_non, i_d_lst, i_d_tup, i_ltd_int, i_ltd_bl, i_ltd_non, l_lst, l_tup, t_lst, t_tup, a_lst, b_nil, b_cons, cut_lst, cut_tup, x_dEqb, x_dNeb, x_dEqn, x_zip, x_range1, x_range2, Int.cast_ofNat_Int, Nat.zero_add, List.all_cons, List.all_nil, id, Bool.and_true, Bool.true_and, Bool.and_false, Bool.false_and, Bool.or_true, Bool.true_or, Bool.or_false, Bool.false_or, Nat.reduceAdd, Nat.reduceSub, Int.reduceEq, Int.reduceLT, Int.reduceLE, Int.reduceNeg, szl0, szl1, szl2, szl3, szl4, szl5, szl6, szl7, szl8, szl9, szl10, x_extend, x_append, x_borT, x_frz, x_idxO, List.getElem?_cons_zero, List.getElem?_cons_succ, x_notIn, x_isIn, rg_m1, rg_m2, rg_2, rg_3, rg_5, x_abs, x_int, x_rep2, Int.reduceAdd, Int.reduceSub, Int.reduceToNat, and_self, ram3, rbm3, ram2, rbm2, ram1, rbm1, ra0, rb0, ra1, rb1, ra2, rb2, ra3, rb3, ra4, rb4, ra5, rb5, ra6, rb6, ra7, rb7, ra8, rb8, ra9, rb9, ra10, rb10, ra11, rb11, ra12, rb12, ra13, rb13, ra20, rb20, ra24, rb24, k0, k1, k2, k3, k4, List.append_nil, ec, e1]
      | some b =>
        simp only [cand2, beg, List.cons_append, List.nil_append, List.map_cons, List.map_nil, sD, sL, qD, oD, Bool.false_eq_true, if_false] at ec e1
        simp only [F__law_strip_some, m__law_strip_some, sD, sL, qD, oD, x_def, startE, x_seq, x_nx, x_rt, x_bk, x_ct, x_bind, x_pure, x_c, x_nil, x_cons, x_tup, x_lst, x_op2, x_op1, x_tru, x_notT, x_ite, x_ifS, x_andT, x_orT, x_and, x_or, x_chain, x_bi, x_biF, x_call, x_perm, x_it, x_ret, x_drop, x_next, x_set, x_setF, x_asg, x_aug, x_for, x_comp, x_cat, x_dSub, x_dAdd, x_dAddI, x_dLt, x_dLe, x_dGt, x_dGe, x_dNeg, x_dNot, x_dTru, x_dEq, x_dNe, x_var0, x_varS, Option.bind_some, Option.map_some, List.map_cons, List.map_nil, List.length_cons, List.length_nil, List.replicate_succ, List.replicate_zero, List.cons_append, List.nil_append, List.set_cons_zero, List.set_cons_succ, Bool.not_true, Bool.not_false, Bool.false_eq_true, if_true, if_false, decide_true, decide_false, decide_eq_true_eq, dIsN, dNotN, dIdx, dItems, at_int, at0, at1, at2, at3, cut2, gN, gT, gCo, gNl, wipeE, x_for_nil, x_for_cons, x_turn_nx, x_turn_ct, x_turn_bk, x_turn_rt, x_comp_nil, x_comp_cons, sz2, sz4, i_lt_int, i_lt_bl, i_lt_non, i_lt_lst, i_lt_tup, i_i_int, i_i_bl, i_b_int, i_b_bl, i_b_non, i_b_lst, i_b_tup, i_l_int, i_l_bl, i_l_non, i_l_lst, i_l_tup, i_t_int, i_t_lst, i_t_tup, i_d_int, i_d_bl, i_d_non, i_d_lst, i_d_tup, i_ltd_int, i_ltd_bl, i_ltd_non, l_lst, l_tup, t_lst, t_tup, a_lst, b_nil, b_cons, cut_lst, cut_tup, x_dEqb, x_dNeb, x_dEqn, x_zip, x_range1, x_range2, Int.cast_ofNat_Int, Nat.zero_add, List.all_cons, List.all_nil, id, Bool.and_true, Bool.true_and, Bool.and_false, Bool.false_and, Bool.or_true, Bool.true_or, Bool.or_false, Bool.false_or, Nat.reduceAdd, Nat.reduceSub, Int.reduceEq, Int.reduceLT, Int.reduceLE, Int.reduceNeg, szl0, szl1, szl2, szl3, szl4, szl5, szl6, szl7, szl8, szl9, szl10, x_extend, x_append, x_borT, x_frz, x_idxO, List.getElem?_cons_zero, List.getElem?_cons_succ, x_notIn, x_isIn, rg_m1, rg_m2, rg_2, rg_3, rg_5, x_abs, x_int, x_rep2, Int.reduceAdd, Int.reduceSub, Int.reduceToNat, and_self, ram3, rbm3, ram2, rbm2, ram1, rbm1, ra0, rb0, ra1, rb1, ra2, rb2, ra3, rb3, ra4, rb4, ra5, rb5, ra6, rb6, ra7, rb7, ra8, rb8, ra9, rb9, ra10, rb10, ra11, rb11, ra12, rb12, ra13, rb13, ra20, rb20, ra24, rb24, k0, k1, k2, k3, k4, ec, e1]
end L2.Ev.K10
namespace L2.Ev.K10
open PySem PySem.Spec PyProof.Rows
theorem bro_valid (l h : Option Int) (m r : Int) (hm : 0 ≤ m) : Vd (bro l h m r) := by
  unfold bro
  by_cases h0 : m = 0
  · rw [if_pos h0]
    split
    · exact .one r
    · exact .none
  · rw [if_neg h0]
    have pm : 0 < m := by omega
    have hr := mod_lt (r := r) pm
    have e1 : ∀ a, (a + (r - a) % m) % m = r % m := fun a => by rw [Int.add_emod_emod]; congr 1; omega
    have e2 : ∀ b, (b - (b - r) % m) % m = r % m := fun b => by rw [Int.sub_emod_emod]; congr 1; omega
    cases l with
    | none =>
      cases h with
      | none => exact .all pm hr.1 hr.2
      | some b => exact .hi pm hr.1 hr.2 (e2 b)
    | some a =>
      cases h with
      | none => exact .lo pm hr.1 hr.2 (e1 a)
      | some b =>
        dsimp only
        split
        · split
          · exact .none
          · exact .one _
        · exact .both pm hr.1 hr.2 (e1 a) (e2 b) (by omega)
theorem bro_bound (l h : Option Int) (m r : Int) (hm : 0 ≤ m) (bl : Sm 200 l) (bh : Sm 200 h) (bm : m.natAbs < 2 ^ 200) (br : r.natAbs < 2 ^ 200) : Bs 202 (bro l h m r) := by
  unfold bro
  by_cases h0 : m = 0
  · rw [if_pos h0]
    split
    · exact ⟨(fun a e => by cases e; omega), (fun a e => by cases e; omega), by decide, by omega⟩
    · trivial
  · rw [if_neg h0]
    have pm : 0 < m := by omega
    have hr := mod_lt (r := r) pm
    cases l with
    | none =>
      cases h with
      | none => exact ⟨(fun a e => by cases e), (fun a e => by cases e), by omega, by omega⟩
      | some b =>
        have b1 := bh b rfl
        have b2 := mod_lt (r := b - r) pm
        exact ⟨(fun a e => by cases e), (fun a e => by cases e; omega), by omega, by omega⟩
    | some a =>
      have a1 := bl a rfl
      have a2 := mod_lt (r := r - a) pm
      cases h with
      | none => exact ⟨(fun a e => by cases e; omega), (fun a e => by cases e), by omega, by omega⟩
      | some b =>
        have b1 := bh b rfl
        have b2 := mod_lt (r := b - r) pm
        dsimp only
        split
        · split
          · trivial
          · exact ⟨(fun a e => by cases e; omega), (fun a e => by cases e; omega), by decide, by omega⟩
        · exact ⟨(fun a e => by cases e; omega), (fun a e => by cases e; omega), by omega, by omega⟩
theorem Bs.up {j k : Nat} {s : ST} (h : Bs j s) (hk : j ≤ k) : Bs k s := by
  cases s with
  | none => trivial
  | some q =>
    obtain ⟨l, h', m, r⟩ := q
    have e : 2 ^ j ≤ 2 ^ k := Nat.pow_le_pow_right (by decide) hk
    exact ⟨fun a e' => Nat.lt_of_lt_of_le (h.1 a e') e, fun a e' => Nat.lt_of_lt_of_le (h.2.1 a e') e, Nat.lt_of_lt_of_le h.2.2.1 e, Nat.lt_of_lt_of_le h.2.2.2 e⟩
theorem comp_add (x0 x1 x2 x3 x4 : Option Ent) (ns : List Int) (S : Strm) : compL (gN 5) (mPure (some true)) (mOp2 dAdd (mVar 5) (mC (.int 1))) [x0, x1, x2, x3, x4, none] (ns.map D.int) S = some ((ns.map (· + 1)).map D.int, S) := by
  induction ns with
  | nil => rfl
  | cons n ns ih => simp only [List.map_cons, x_def, startE, x_seq, x_nx, x_rt, x_bk, x_ct, x_bind, x_pure, x_c, x_nil, x_cons, x_tup, x_lst, x_op2, x_op1, x_tru, x_notT, x_ite, x_ifS, x_andT, x_orT, x_and, x_or, x_chain, x_bi, x_biF, x_call, x_perm, x_it, x_ret, x_drop, x_next, x_set, x_setF, x_asg, x_aug, x_for, x_comp, x_cat, x_dSub, x_dAdd, x_dAddI, x_dLt, x_dLe, x_dGt, x_dGe, x_dNeg, x_dNot, x_dTru, x_dEq, x_dNe, x_var0, x_varS, Option.bind_some, Option.map_some, List.map_cons, List.map_nil, List.length_cons, List.length_nil, List.replicate_succ, List.replicate_zero, List.cons_append, List.nil_append, List.set_cons_zero, List.set_cons_succ, Bool.not_true, Bool.not_false, Bool.false_eq_true, if_true, if_false, decide_true, decide_false, decide_eq_true_eq, dIsN, dNotN, dIdx, dItems, at_int, at0, at1, at2, at3, cut2, gN, gT, gCo, gNl, wipeE, x_for_nil, x_for_cons, x_turn_nx, x_turn_ct, x_turn_bk, x_turn_rt, x_comp_nil, x_comp_cons, sz2, sz4, i_lt_int, i_lt_bl, i_lt_non, i_lt_lst, i_lt_tup, i_i_int, i_i_bl, i_b_int, i_b_bl, i_b_non, i_b_lst, i_b_tup, i_l_int, i_l_bl, i_l_non, i_l_lst, i_l_tup, i_t_int, i_t_lst, i_t_tup, i_d_int, i_d_bl, i_d_non, i_d_lst, i_d_tup, i_ltd_int, i_ltd_bl, i_ltd_non, l_lst, l_tup, t_lst, t_tup, a_lst, b_nil, b_cons, cut_lst, cut_tup, x_dEqb, x_dNeb, x_dEqn, x_zip, x_range1, x_range2, Int.cast_ofNat_Int, Nat.zero_add, List.all_cons, List.all_nil, id, Bool.and_true, Bool.true_and, Bool.and_false, Bool.false_and, Bool.or_true, Bool.true_or, Bool.or_false, Bool.false_or, Nat.reduceAdd, Nat.reduceSub, Int.reduceEq, Int.reduceLT, Int.reduceLE, Int.reduceNeg, szl0, szl1, szl2, szl3, szl4, szl5, szl6, szl7, szl8, szl9, szl10, x_extend, x_append, x_borT, x_frz, x_idxO, List.getElem?_cons_zero, List.getElem?_cons_succ, x_notIn, x_isIn, rg_m1, rg_m2, rg_2, rg_3, rg_5, x_abs, x_int, x_rep2, Int.reduceAdd, Int.reduceSub, Int.reduceToNat, and_self, ram3, rbm3, ram2, rbm2, ram1, rbm1, ra0, rb0, ra1, rb1, ra2, rb2, ra3, rb3, ra4, rb4, ra5, rb5, ra6, rb6, ra7, rb7, ra8, rb8, ra9, rb9, ra10, rb10, ra11, rb11, ra12, rb12, ra13, rb13, ra20, rb20, ra24, rb24] at ih ⊢; simp only [ih, x_def, startE, x_seq, x_nx, x_rt, x_bk, x_ct, x_bind, x_pure, x_c, x_nil, x_cons, x_tup, x_lst, x_op2, x_op1, x_tru, x_notT, x_ite, x_ifS, x_andT, x_orT, x_and, x_or, x_chain, x_bi, x_biF, x_call, x_perm, x_it, x_ret, x_drop, x_next, x_set, x_setF, x_asg, x_aug, x_for, x_comp, x_cat, x_dSub, x_dAdd, x_dAddI, x_dLt, x_dLe, x_dGt, x_dGe, x_dNeg, x_dNot, x_dTru, x_dEq, x_dNe, x_var0, x_varS, Option.bind_some, Option.map_some, List.map_cons, List.map_nil, List.length_cons, List.length_nil, List.replicate_succ, List.replicate_zero, List.cons_append, List.nil_append, List.set_cons_zero, List.set_cons_succ, Bool.not_true, Bool.not_false, Bool.false_eq_true, if_true, if_false, decide_true, decide_false, decide_eq_true_eq, dIsN, dNotN, dIdx, dItems, at_int, at0, at1, at2, at3, cut2, gN, gT, gCo, gNl, wipeE, x_for_nil, x_for_cons, x_turn_nx, x_turn_ct, x_turn_bk, x_turn_rt, x_comp_nil, x_comp_cons, sz2, sz4, i_lt_int, i_lt_bl, i_lt_non, i_lt_lst, i_lt_tup, i_i_int, i_i_bl, i_b_int, i_b_bl, i_b_non, i_b_lst, i_b_tup, i_l_int, i_l_bl, i_l_non, i_l_lst, i_l_tup, i_t_int, i_t_lst, i_t_tup, i_d_int, i_d_bl, i_d_non, i_d_lst, i_d_tup, i_ltd_int, i_ltd_bl, i_ltd_non, l_lst, l_tup, t_lst, t_tup, a_lst, b_nil, b_cons, cut_lst, cut_tup, x_dEqb, x_dNeb, x_dEqn, x_zip, x_range1, x_range2, Int.cast_ofNat_Int, Nat.zero_add, List.all_cons, List.all_nil, id, Bool.and_true, Bool.true_and, Bool.and_false, Bool.false_and, Bool.or_true, Bool.true_or, Bool.or_false, Bool.false_or, Nat.reduceAdd, Nat.reduceSub, Int.reduceEq, Int.reduceLT, Int.reduceLE, Int.reduceNeg, szl0, szl1, szl2, szl3, szl4, szl5, szl6, szl7, szl8, szl9, szl10, x_extend, x_append, x_borT, x_frz, x_idxO, List.getElem?_cons_zero, List.getElem?_cons_succ, x_notIn, x_isIn, rg_m1, rg_m2, rg_2, rg_3, rg_5, x_abs, x_int, x_rep2, Int.reduceAdd, Int.reduceSub, Int.reduceToNat, and_self, ram3, rbm3, ram2, rbm2, ram1, rbm1, ra0, rb0, ra1, rb1, ra2, rb2, ra3, rb3, ra4, rb4, ra5, rb5, ra6, rb6, ra7, rb7, ra8, rb8, ra9, rb9, ra10, rb10, ra11, rb11, ra12, rb12, ra13, rb13, ra20, rb20, ra24, rb24]
theorem comp_sub (x0 x1 x2 x3 x4 : Option Ent) (ns : List Int) (S : Strm) : compL (gN 5) (mPure (some true)) (mOp2 dSub (mVar 5) (mC (.int 1))) [x0, x1, x2, x3, x4, none] (ns.map D.int) S = some ((ns.map (· - 1)).map D.int, S) := by
  induction ns with
  | nil => rfl
  | cons n ns ih => simp only [List.map_cons, x_def, startE, x_seq, x_nx, x_rt, x_bk, x_ct, x_bind, x_pure, x_c, x_nil, x_cons, x_tup, x_lst, x_op2, x_op1, x_tru, x_notT, x_ite, x_ifS, x_andT, x_orT, x_and, x_or, x_chain, x_bi, x_biF, x_call, x_perm, x_it, x_ret, x_drop, x_next, x_set, x_setF, x_asg, x_aug, x_for, x_comp, x_cat, x_dSub, x_dAdd, x_dAddI, x_dLt, x_dLe, x_dGt, x_dGe, x_dNeg, x_dNot, x_dTru, x_dEq, x_dNe, x_var0, x_varS, Option.bind_some, Option.map_some, List.map_cons, List.map_nil, List.length_cons, List.length_nil, List.replicate_succ, List.replicate_zero, List.cons_append, List.nil_append, List.set_cons_zero, List.set_cons_succ, Bool.not_true, Bool.not_false, Bool.false_eq_true, if_true, if_false, decide_true, decide_false, decide_eq_true_eq, dIsN, dNotN, dIdx, dItems, at_int, at0, at1, at2, at3, cut2, gN, gT, gCo, gNl, wipeE, x_for_nil, x_for_cons, x_turn_nx, x_turn_ct, x_turn_bk, x_turn_rt, x_comp_nil, x_comp_cons, sz2, sz4, i_lt_int, i_lt_bl, i_lt_non, i_lt_lst, i_lt_tup, i_i_int, i_i_bl, i_b_int, i_b_bl, i_b_non, i_b_lst, i_b_tup, i_l_int, i_l_bl, i_l_non, i_l_lst, i_l_tup, i_t_int, i_t_lst, i_t_tup, i_d_int, i_d_bl, i_d_non, i_d_lst, i_d_tup, i_ltd_int, i_ltd_bl, i_ltd_non, l_lst, l_tup, t_lst, t_tup, a_lst, b_nil, b_cons, cut_lst, cut_tup, x_dEqb, x_dNeb, x_dEqn, x_zip, x_range1, x_range2, Int.cast_ofNat_Int, Nat.zero_add, List.all_cons, List.all_nil, id, Bool.and_true, Bool.true_and, Bool.and_false, Bool.false_and, Bool.or_true, Bool.true_or, Bool.or_false, Bool.false_or, Nat.reduceAdd, Nat.reduceSub, Int.reduceEq, Int.reduceLT, Int.reduceLE, Int.reduceNeg, szl0, szl1, szl2, szl3, szl4, szl5, szl6, szl7, szl8, szl9, szl10, x_extend, x_append, x_borT, x_frz, x_idxO, List.getElem?_cons_zero, List.getElem?_cons_succ, x_notIn, x_isIn, rg_m1, rg_m2, rg_2, rg_3, rg_5, x_abs, x_int, x_rep2, Int.reduceAdd, Int.reduceSub, Int.reduceToNat, and_self, ram3, rbm3, ram2, rbm2, ram1, rbm1, ra0, rb0, ra1, rb1, ra2, rb2, ra3, rb3, ra4, rb4, ra5, rb5, ra6, rb6, ra7, rb7, ra8, rb8, ra9, rb9, ra10, rb10, ra11, rb11, ra12, rb12, ra13, rb13, ra20, rb20, ra24, rb24] at ih ⊢; simp only [ih, x_def, startE, x_seq, x_nx, x_rt, x_bk, x_ct, x_bind, x_pure, x_c, x_nil, x_cons, x_tup, x_lst, x_op2, x_op1, x_tru, x_notT, x_ite, x_ifS, x_andT, x_orT, x_and, x_or, x_chain, x_bi, x_biF, x_call, x_perm, x_it, x_ret, x_drop, x_next, x_set, x_setF, x_asg, x_aug, x_for, x_comp, x_cat, x_dSub, x_dAdd, x_dAddI, x_dLt, x_dLe, x_dGt, x_dGe, x_dNeg, x_dNot, x_dTru, x_dEq, x_dNe, x_var0, x_varS, Option.bind_some, Option.map_some, List.map_cons, List.map_nil, List.length_cons, List.length_nil, List.replicate_succ, List.replicate_zero, List.cons_append, List.nil_append, List.set_cons_zero, List.set_cons_succ, Bool.not_true, Bool.not_false, Bool.false_eq_true, if_true, if_false, decide_true, decide_false, decide_eq_true_eq, dIsN, dNotN, dIdx, dItems, at_int, at0, at1, at2, at3, cut2, gN, gT, gCo, gNl, wipeE, x_for_nil, x_for_cons, x_turn_nx, x_turn_ct, x_turn_bk, x_turn_rt, x_comp_nil, x_comp_cons, sz2, sz4, i_lt_int, i_lt_bl, i_lt_non, i_lt_lst, i_lt_tup, i_i_int, i_i_bl, i_b_int, i_b_bl, i_b_non, i_b_lst, i_b_tup, i_l_int, i_l_bl, i_l_non, i_l_lst, i_l_tup, i_t_int, i_t_lst, i_t_tup, i_d_int, i_d_bl, i_d_non, i_d_lst, i_d_tup, i_ltd_int, i_ltd_bl, i_ltd_non, l_lst, l_tup, t_lst, t_tup, a_lst, b_nil, b_cons, cut_lst, cut_tup, x_dEqb, x_dNeb, x_dEqn, x_zip, x_range1, x_range2, Int.cast_ofNat_Int, Nat.zero_add, List.all_cons, List.all_nil, id, Bool.and_true, Bool.true_and, Bool.and_false, Bool.false_and, Bool.or_true, Bool.true_or, Bool.or_false, Bool.false_or, Nat.reduceAdd, Nat.reduceSub, Int.reduceEq, Int.reduceLT, Int.reduceLE, Int.reduceNeg, szl0, szl1, szl2, szl3, szl4, szl5, szl6, szl7, szl8, szl9, szl10, x_extend, x_append, x_borT, x_frz, x_idxO, List.getElem?_cons_zero, List.getElem?_cons_succ, x_notIn, x_isIn, rg_m1, rg_m2, rg_2, rg_3, rg_5, x_abs, x_int, x_rep2, Int.reduceAdd, Int.reduceSub, Int.reduceToNat, and_self, ram3, rbm3, ram2, rbm2, ram1, rbm1, ra0, rb0, ra1, rb1, ra2, rb2, ra3, rb3, ra4, rb4, ra5, rb5, ra6, rb6, ra7, rb7, ra8, rb8, ra9, rb9, ra10, rb10, ra11, rb11, ra12, rb12, ra13, rb13, ra20, rb20, ra24, rb24]
def oL : Option Int → List Int
  | none => []
  | some a => [a]
theorem dAdd_ints (xs ys : List Int) (h : xs.length + ys.length ≤ 1000) : dAdd (.lst (xs.map D.int)) (.lst (ys.map D.int)) = some (.lst ((xs ++ ys).map D.int)) := by
  rw [x_dAddL (by simp only [List.length_map]; exact Nat.le_trans h (by simp [sizeLine])), List.map_append]
theorem dAdd_ints1 (xs : List Int) (y : Int) (h : xs.length + 1 ≤ 1000) : dAdd (.lst (xs.map D.int)) (.lst [.int y]) = some (.lst ((xs ++ [y]).map D.int)) := dAdd_ints xs [y] h
theorem ints_ok (ns : List Int) (h : ns.length ≤ 1000) : ((ns.map D.int).length ≤ sizeLine) = True := by
  simp only [List.length_map]; exact eq_true (Nat.le_trans h (by simp [sizeLine]))
theorem quad_comp (l h : Option Int) (m r : Int) (x0 x1 x2 x3 x5 : Option Ent) (S : Strm) :
    compL (gN 4) (mTru (mOp1 dNotN (mVar 4))) (mVar 4) [x0, x1, x2, x3, none, x5] [oD l, oD h, .int m, .int r] S = some ((oL l ++ oL h ++ [m, r]).map D.int, S) := by
  cases l <;> cases h <;> simp only [oD, oL, x_def, startE, x_seq, x_nx, x_rt, x_bk, x_ct, x_bind, x_pure, x_c, x_nil, x_cons, x_tup, x_lst, x_op2, x_op1, x_tru, x_notT, x_ite, x_ifS, x_andT, x_orT, x_and, x_or, x_chain, x_bi, x_biF, x_call, x_perm, x_it, x_ret, x_drop, x_next, x_set, x_setF, x_asg, x_aug, x_for, x_comp, x_cat, x_dSub, x_dAdd, x_dAddI, x_dLt, x_dLe, x_dGt, x_dGe, x_dNeg, x_dNot, x_dTru, x_dEq, x_dNe, x_var0, x_varS, Option.bind_some, Option.map_some, List.map_cons, List.map_nil, List.length_cons, List.length_nil, List.replicate_succ, List.replicate_zero, List.cons_append, List.nil_append, List.set_cons_zero, List.set_cons_succ, Bool.not_true, Bool.not_false, Bool.false_eq_true, if_true, if_false, decide_true, decide_false, decide_eq_true_eq, dIsN, dNotN, dIdx, dItems, at_int, at0, at1, at2, at3, cut2, gN, gT, gCo, gNl, wipeE, x_for_nil, x_for_cons, x_turn_nx, x_turn_ct, x_turn_bk, x_turn_rt, x_comp_nil, x_comp_cons, sz2, sz4, i_lt_int, i_lt_bl, i_lt_non, i_lt_lst, i_lt_tup, i_i_int, i_i_bl, i_b_int, i_b_bl, i_b_non, i_b_lst, i_b_tup, i_l_int, i_l_bl, i_l_non, i_l_lst, i_l_tup, i_t_int, i_t_lst, i_t_tup, i_d_int, i_d_bl, i_d_non, i_d_lst, i_d_tup, i_ltd_int, i_ltd_bl, i_ltd_non, l_lst, l_tup, t_lst, t_tup, a_lst, b_nil, b_cons, cut_lst, cut_tup, x_dEqb, x_dNeb, x_dEqn, x_zip, x_range1, x_range2, Int.cast_ofNat_Int, Nat.zero_add, List.all_cons, List.all_nil, id, Bool.and_true, Bool.true_and, Bool.and_false, Bool.false_and, Bool.or_true, Bool.true_or, Bool.or_false, Bool.false_or, Nat.reduceAdd, Nat.reduceSub, Int.reduceEq, Int.reduceLT, Int.reduceLE, Int.reduceNeg, szl0, szl1, szl2, szl3, szl4, szl5, szl6, szl7, szl8, szl9, szl10, x_extend, x_append, x_borT, x_frz, x_idxO, List.getElem?_cons_zero, List.getElem?_cons_succ, x_notIn, x_isIn, rg_m1, rg_m2, rg_2, rg_3, rg_5, x_abs, x_int, x_rep2, Int.reduceAdd, Int.reduceSub, Int.reduceToNat, and_self, ram3, rbm3, ram2, rbm2, ram1, rbm1, ra0, rb0, ra1, rb1, ra2, rb2, ra3, rb3, ra4, rb4, ra5, rb5, ra6, rb6, ra7, rb7, ra8, rb8, ra9, rb9, ra10, rb10, ra11, rb11, ra12, rb12, ra13, rb13, ra20, rb20, ra24, rb24]
theorem v_probes {s : ST} (hv : Vd s) (hb : Bs 890 s) (l h : Option Int) (m r : Int) (bl : Sm 200 l) (bh : Sm 200 h) (bm : m.natAbs < 2 ^ 200) (br : r.natAbs < 2 ^ 200) (S : Strm) :
    ∃ (ns : List Int) (S' : Strm), F__law_probes [.strm, sD s, qD false l h m r] S = some (.lst (ns.map D.int), S') ∧ (∀ n ∈ ns, n.natAbs < 2 ^ 900) ∧ ns.length ≤ 100 := by
  obtain ⟨as, ea, la, ba⟩ := v_some2 hv hb S
  obtain ⟨k, S1, ek, bk⟩ := v_any S
  have lq : (oL l ++ oL h ++ [m, r]).length ≤ 4 := by cases l <;> cases h <;> simp [oL]
  have bq : ∀ n ∈ oL l ++ oL h ++ [m, r], n.natAbs < 2 ^ 895 := by
    intro n hn
    simp only [List.mem_append, List.mem_cons, List.mem_nil_iff, or_false] at hn
    rcases hn with (hn | hn) | rfl | rfl
    · cases l with
      | none => cases hn
      | some a => have := bl a rfl; simp only [oL, List.mem_cons, List.mem_nil_iff, or_false] at hn; subst hn; omega
    · cases h with
      | none => cases hn
      | some a => have := bh a rfl; simp only [oL, List.mem_cons, List.mem_nil_iff, or_false] at hn; subst hn; omega
    · omega
    · omega
  generalize hqs : oL l ++ oL h ++ [m, r] = qs at lq bq
  have eq := fun x0 x1 x2 x3 x5 S => quad_comp l h m r x0 x1 x2 x3 x5 S
  rw [hqs] at eq
  have s1 := dAdd_ints as qs (by omega)
  have o1 := ints_ok (as ++ qs) (by simp only [List.length_append]; omega)
  have s2 := dAdd_ints (as ++ qs) ((as ++ qs).map (· + 1)) (by simp only [List.length_append, List.length_map]; omega)
  have s3 := dAdd_ints (as ++ qs ++ (as ++ qs).map (· + 1)) ((as ++ qs).map (· - 1)) (by simp only [List.length_append, List.length_map]; omega)
  have s4 := dAdd_ints1 (as ++ qs ++ (as ++ qs).map (· + 1) ++ (as ++ qs).map (· - 1)) k (by simp only [List.length_append, List.length_map]; omega)
  obtain ⟨ns, en, mn, ln⟩ := v_each (as ++ qs ++ (as ++ qs).map (· + 1) ++ (as ++ qs).map (· - 1) ++ [k]) S1 (Nat.le_trans (by simp only [List.length_append, List.length_map, List.length_cons, List.length_nil]; omega : _ ≤ 100) (by simp [sizeLine]))
  refine ⟨ns, S1, ?_, fun n hn => ?_, by simp only [List.length_append, List.length_map, List.length_cons, List.length_nil] at ln; omega⟩
  · simp only [F__law_probes, m__law_probes, qD, x_def, startE, x_seq, x_nx, x_rt, x_bk, x_ct, x_bind, x_pure, x_c, x_nil, x_cons, x_tup, x_lst, x_op2, x_op1, x_tru, x_notT, x_ite, x_ifS, x_andT, x_orT, x_and, x_or, x_chain, x_bi, x_biF, x_call, x_perm, x_it, x_ret, x_drop, x_next, x_set, x_setF, x_asg, x_aug, x_for, x_comp, x_cat, x_dSub, x_dAdd, x_dAddI, x_dLt, x_dLe, x_dGt, x_dGe, x_dNeg, x_dNot, x_dTru, x_dEq, x_dNe, x_var0, x_varS, Option.bind_some, Option.map_some, List.map_cons, List.map_nil, List.length_cons, List.length_nil, List.replicate_succ, List.replicate_zero, List.cons_append, List.nil_append, List.set_cons_zero, List.set_cons_succ, Bool.not_true, Bool.not_false, Bool.false_eq_true, if_true, if_false, decide_true, decide_false, decide_eq_true_eq, dIsN, dNotN, dIdx, dItems, at_int, at0, at1, at2, at3, cut2, gN, gT, gCo, gNl, wipeE, x_for_nil, x_for_cons, x_turn_nx, x_turn_ct, x_turn_bk, x_turn_rt, x_comp_nil, x_comp_cons, sz2, sz4, i_lt_int, i_lt_bl, i_lt_non, i_lt_lst, i_lt_tup, i_i_int, i_i_bl, i_b_int, i_b_bl, i_b_non, i_b_lst, i_b_tup, i_l_int, i_l_bl, i_l_non, i_l_lst, i_l_tup, i_t_int, i_t_lst, i_t_tup, i_d_int, i_d_bl, i_d_non, i_d_lst, i_d_tup, i_ltd_int, i_ltd_bl, i_ltd_non, l_lst, l_tup, t_lst, t_tup, a_lst, b_nil, b_cons, cut_lst, cut_tup, x_dEqb, x_dNeb, x_dEqn, x_zip, x_range1, x_range2, Int.cast_ofNat_Int, Nat.zero_add, List.all_cons, List.all_nil, id, Bool.and_true, Bool.true_and, Bool.and_false, Bool.false_and, Bool.or_true, Bool.true_or, Bool.or_false, Bool.false_or, Nat.reduceAdd, Nat.reduceSub, Int.reduceEq, Int.reduceLT, Int.reduceLE, Int.reduceNeg, szl0, szl1, szl2, szl3, szl4, szl5, szl6, szl7, szl8, szl9, szl10, x_extend, x_append, x_borT, x_frz, x_idxO, List.getElem?_cons_zero, List.getElem?_cons_succ, x_notIn, x_isIn, rg_m1, rg_m2, rg_2, rg_3, rg_5, x_abs, x_int, x_rep2, Int.reduceAdd, Int.reduceSub, Int.reduceToNat, and_self, ram3, rbm3, ram2, rbm2, ram1, rbm1, ra0, rb0, ra1, rb1, ra2, rb2, ra3, rb3, ra4, rb4, ra5, rb5, ra6, rb6, ra7, rb7, ra8, rb8, ra9, rb9, ra10, rb10, ra11, rb11, ra12, rb12, ra13, rb13, ra20, rb20, ra24, rb24, ea, eq, s1, o1, comp_add, comp_sub, s2, s3, ek, s4, en]
  · have := (mn n).1 hn
    have hh : ∀ x ∈ as ++ qs, x.natAbs < 2 ^ 895 := fun x hx => by
      rcases List.mem_append.1 hx with hx | hx
      · exact ba x hx
      · exact bq x hx
    rcases List.mem_append.1 this with h1 | h1
    · rcases List.mem_append.1 h1 with h1 | h1
      · rcases List.mem_append.1 h1 with h1 | h1
        · have := hh n h1; omega
        · obtain ⟨x, hx, rfl⟩ := List.mem_map.1 h1
          have := hh x hx; omega
      · obtain ⟨x, hx, rfl⟩ := List.mem_map.1 h1
        have := hh x hx; omega
    · simp only [List.mem_cons, List.mem_nil_iff, or_false] at h1
      subst h1; omega
theorem plain_o (n : Nat) (l : Option Int) : Plain n (oD l) := by cases l <;> cases n <;> trivial
theorem plain_i (n : Nat) (l : Int) : Plain n (.int l) := by cases n <;> trivial
theorem plain_b (n : Nat) (l : Bool) : Plain n (.bl l) := by cases n <;> trivial
theorem plain_s (n : Nat) (s : ST) : Plain (n + 1) (sD s) := by
  cases s with
  | none => trivial
  | some q =>
    obtain ⟨l, h, m, r⟩ := q
    refine ⟨len4_ok _ _ _ _, fun d hd => ?_⟩
    simp only [List.mem_cons, List.mem_nil_iff, or_false] at hd
    rcases hd with rfl | rfl | rfl | rfl
    · exact plain_o _ _
    · exact plain_o _ _
    · exact plain_i _ _
    · exact plain_i _ _
theorem same2 {d : D} (h : Plain 22 d) (S : Strm) : F__law_same 24 [.lst [d, d], .lst [d, d]] S = some (.bl true, S) :=
  v_same 23 _ S ⟨len2_ok _ _, fun x hx => by
    simp only [List.mem_cons, List.mem_nil_iff, or_false, or_self] at hx; subst hx; exact h⟩
end L2.Ev.K10
namespace L2.Ev.K10
open PySem PySem.Spec PyProof.Rows
theorem sm_up {j k : Nat} {l : Option Int} (h : Sm j l) (hk : j ≤ k) : Sm k l := fun a e => Nat.lt_of_lt_of_le (h a e) (Nat.pow_le_pow_right (by decide) hk)
theorem nat_up {j k n : Nat} (h : n < 2 ^ j) (hk : j ≤ k) : n < 2 ^ k := Nat.lt_of_lt_of_le h (Nat.pow_le_pow_right (by decide) hk)
theorem v_brought' (l h : Option Int) (m r : Int) (S : Strm) (hm : 0 ≤ m) (bl : Sm 200 l) (bh : Sm 200 h) (bm : m.natAbs < 2 ^ 200) (br : r.natAbs < 2 ^ 200) :
    F__law_strip_brought [oD l, oD h, .int m, .int r] S = some (sD (bro l h m r), S) :=
  v_brought l h m r S hm (sm_up bl (by decide)) (sm_up bh (by decide)) (nat_up bm (by decide)) (nat_up br (by decide))
theorem perm4 (a b c d : D) : [3, 2, 1, 0].map (fun i => [a, b, c, d].getD i .non) = [d, c, b, a] := rfl
theorem perm2 (a b : D) : [1, 0].map (fun i => [a, b].getD i .non) = [b, a] := rfl
theorem perm1 (a : D) : [0].map (fun i => [a].getD i .non) = [a] := rfl
theorem y_perm4 (a b c d : D) : mPerm [3, 2, 1, 0] = fun g ρ S => (g ρ S).bind fun x => some ([x.1.getD 3 .non, x.1.getD 2 .non, x.1.getD 1 .non, x.1.getD 0 .non], x.2) := rfl
theorem told_loop (l h : Option Int) (m r : Int) {s : ST} (hv : Vd s) (hb : Bs 890 s) (ns : List Int) (hn : ∀ n ∈ ns, n.natAbs < 2 ^ 900) (y3 y4 : Option Ent) (S : Strm) :
    ∃ (z3 z4 : Option Ent) (S' : Strm), forL (gN 3) (mSeq (mSet 4 (mLst (mCons (mCall F_strip_has (mCons (mVar 2) (mCons (mVar 3) mNil))) (mCons (mCall F_strip_has (mPerm [1, 0] (mCons (mVar 3) (mCons (mCall (F__law_loose 24) (mCons (mVar 0) (mCons (mVar 2) mNil))) mNil)))) mNil)))) (mIfS (mNotT (mTru (mCall (F__law_same 24) (mCons (mVar 4) (mCons (mOp2 dRep (mLst (mCons (mCall F__law_strip_in (mCons (mVar 2) (mCons (mVar 3) mNil))) mNil)) (mC (.int 2))) mNil))))) (mRet (mC (.bl false))) mNext))
      (ns.map D.int) [some (.sh .strm), some (.sh (qD false l h m r)), some (.sh (sD s)), y3, y4, some (.sh (oD l)), some (.sh (oD h)), some (.sh (.int m)), some (.sh (.int r))] S
      = some (.nx [some (.sh .strm), some (.sh (qD false l h m r)), some (.sh (sD s)), z3, z4, some (.sh (oD l)), some (.sh (oD h)), some (.sh (.int m)), some (.sh (.int r))], S') := by
  have step : ∀ d ρ S, (∃ n : Int, d = .int n ∧ n.natAbs < 2 ^ 900) → (∃ z3 z4, ρ = [some (.sh .strm), some (.sh (qD false l h m r)), some (.sh (sD s)), z3, z4, some (.sh (oD l)), some (.sh (oD h)), some (.sh (.int m)), some (.sh (.int r))]) →
      ∃ ρ1, gN 3 d ρ = some ρ1 ∧ ∃ ρ' S', mSeq (mSet 4 (mLst (mCons (mCall F_strip_has (mCons (mVar 2) (mCons (mVar 3) mNil))) (mCons (mCall F_strip_has (mPerm [1, 0] (mCons (mVar 3) (mCons (mCall (F__law_loose 24) (mCons (mVar 0) (mCons (mVar 2) mNil))) mNil)))) mNil)))) (mIfS (mNotT (mTru (mCall (F__law_same 24) (mCons (mVar 4) (mCons (mOp2 dRep (mLst (mCons (mCall F__law_strip_in (mCons (mVar 2) (mCons (mVar 3) mNil))) mNil)) (mC (.int 2))) mNil))))) (mRet (mC (.bl false))) mNext) ρ1 S = some (.nx ρ', S') ∧
        ∃ z3 z4, ρ' = [some (.sh .strm), some (.sh (qD false l h m r)), some (.sh (sD s)), z3, z4, some (.sh (oD l)), some (.sh (oD h)), some (.sh (.int m)), some (.sh (.int r))] := by
    rintro d ρ S ⟨n, rfl, hn⟩ ⟨z3, z4, rfl⟩
    obtain ⟨t, S1, el⟩ := v_loose s S
    have eh : F_strip_has [sD s, .int n] S = some (.bl (inB s n), S) := v_has hv false n S
    have ei := v_in hv (hb.up (by decide)) hn S1
    have es := same2 (plain_b 22 (inB s n)) S1
    refine ⟨_, rfl, [some (.sh .strm), some (.sh (qD false l h m r)), some (.sh (sD s)), some (.sh (.int n)), some (.sh (.lst [.bl (inB s n), .bl (inB s n)])), some (.sh (oD l)), some (.sh (oD h)), some (.sh (.int m)), some (.sh (.int r))], S1, ?_, _, _, rfl⟩
    simp only [x_def, startE, x_seq, x_nx, x_rt, x_bk, x_ct, x_bind, x_pure, x_c, x_nil, x_cons, x_tup, x_lst, x_op2, x_op1, x_tru, x_notT, x_ite, x_ifS, x_andT, x_orT, x_and, x_or, x_chain, x_bi, x_biF, x_call, x_perm, x_it, x_ret, x_drop, x_next, x_set, x_setF, x_asg, x_aug, x_for, x_comp, x_cat, x_dSub, x_dAdd, x_dAddI, x_dLt, x_dLe, x_dGt, x_dGe, x_dNeg, x_dNot, x_dTru, x_dEq, x_dNe, x_var0, x_varS, Option.bind_some, Option.map_some, List.map_cons, List.map_nil, List.length_cons, List.length_nil, List.replicate_succ, List.replicate_zero, List.cons_append, List.nil_append, List.set_cons_zero, List.set_cons_succ, Bool.not_true, Bool.not_false, Bool.false_eq_true, if_true, if_false, decide_true, decide_false, decide_eq_true_eq, dIsN, dNotN, dIdx, dItems, at_int, at0, at1, at2, at3, cut2, gN, gT, gCo, gNl, wipeE, x_for_nil, x_for_cons, x_turn_nx, x_turn_ct, x_turn_bk, x_turn_rt, x_comp_nil, x_comp_cons, sz2, sz4, i_lt_int, i_lt_bl, i_lt_non, i_lt_lst, i_lt_tup, i_i_int, i_i_bl, i_b_int, i_b_bl, i_b_non, i_b_lst, i_b_tup, i_l_int, i_l_bl, i_l_non, i_l_lst, i_l_tup, i_t_int, i_t_lst, i_t_tup, i_d_int, i_d_bl, i_d_non, i_d_lst, i_d_tup, i_ltd_int, i_ltd_bl, i_ltd_non, l_lst, l_tup, t_lst, t_tup, a_lst, b_nil, b_cons, cut_lst, cut_tup, x_dEqb, x_dNeb, x_dEqn, x_zip, x_range1, x_range2, Int.cast_ofNat_Int, Nat.zero_add, List.all_cons, List.all_nil, id, Bool.and_true, Bool.true_and, Bool.and_false, Bool.false_and, Bool.or_true, Bool.true_or, Bool.or_false, Bool.false_or, Nat.reduceAdd, Nat.reduceSub, Int.reduceEq, Int.reduceLT, Int.reduceLE, Int.reduceNeg, szl0, szl1, szl2, szl3, szl4, szl5, szl6, szl7, szl8, szl9, szl10, x_extend, x_append, x_borT, x_frz, x_idxO, List.getElem?_cons_zero, List.getElem?_cons_succ, x_notIn, x_isIn, rg_m1, rg_m2, rg_2, rg_3, rg_5, x_abs, x_int, x_rep2, Int.reduceAdd, Int.reduceSub, Int.reduceToNat, and_self, ram3, rbm3, ram2, rbm2, ram1, rbm1, ra0, rb0, ra1, rb1, ra2, rb2, ra3, rb3, ra4, rb4, ra5, rb5, ra6, rb6, ra7, rb7, ra8, rb8, ra9, rb9, ra10, rb10, ra11, rb11, ra12, rb12, ra13, rb13, ra20, rb20, ra24, rb24, eh, el, List.getD_cons_zero, List.getD_cons_succ, v_has hv t n S1, ei, es]
  have pr : ∀ d ∈ ns.map D.int, ∃ n : Int, d = .int n ∧ n.natAbs < 2 ^ 900 := by
    intro d hd
    obtain ⟨n, hn', rfl⟩ := List.mem_map.1 hd
    exact ⟨n, rfl, hn n hn'⟩
  obtain ⟨ρ', S', e, z3, z4, e2⟩ := forL_inv _ _ (fun d ρ S a b => step d ρ S a b) (ns.map D.int) _ S pr ⟨y3, y4, rfl⟩
  subst e2
  exact ⟨z3, z4, S', e⟩
theorem v_told (l h : Option Int) (m r : Int) (hm : 0 ≤ m) (bl : Sm 200 l) (bh : Sm 200 h) (bm : m.natAbs < 2 ^ 200) (br : r.natAbs < 2 ^ 200) (S : Strm) :
    ∃ S', F__law_told_right [.strm, qD false l h m r] S = some (.bl true, S') := by
  have eb := fun S => v_brought' l h m r S hm bl bh bm br
  have er := fun S => v_reduced l h m r S hm
  have hv := bro_valid l h m r hm
  have hb : Bs 890 (bro l h m r) := (bro_bound l h m r hm bl bh bm br).up (by decide)
  generalize bro l h m r = s at *
  have es1 := fun S => same2 (plain_s 21 s) S
  obtain ⟨ns, S1, ep, bn, ln⟩ := v_probes hv hb l h m r bl bh bm br S
  have o1 := ints_ok ns (by omega)
  obtain ⟨z3, z4, S2, e2⟩ := told_loop l h m r hv hb ns bn none none S1
  obtain ⟨t, S3, el⟩ := v_loose s S2
  have eh : F_strip_many [sD s] S2 = some (oD (siz s), S2) := v_many hv (hb.up (by decide)) false S2
  have em := v_many hv (hb.up (by decide)) t S3
  have ez := v_size hv (hb.up (by decide)) S3
  have es := same2 (plain_o 22 (siz s)) S3
  refine ⟨S3, ?_⟩
  simp only [qD, Bool.false_eq_true, if_false] at ep e2
  simp only [F__law_told_right, m__law_told_right, qD, x_def, startE, x_seq, x_nx, x_rt, x_bk, x_ct, x_bind, x_pure, x_c, x_nil, x_cons, x_tup, x_lst, x_op2, x_op1, x_tru, x_notT, x_ite, x_ifS, x_andT, x_orT, x_and, x_or, x_chain, x_bi, x_biF, x_call, x_perm, x_it, x_ret, x_drop, x_next, x_set, x_setF, x_asg, x_aug, x_for, x_comp, x_cat, x_dSub, x_dAdd, x_dAddI, x_dLt, x_dLe, x_dGt, x_dGe, x_dNeg, x_dNot, x_dTru, x_dEq, x_dNe, x_var0, x_varS, Option.bind_some, Option.map_some, List.map_cons, List.map_nil, List.length_cons, List.length_nil, List.replicate_succ, List.replicate_zero, List.cons_append, List.nil_append, List.set_cons_zero, List.set_cons_succ, Bool.not_true, Bool.not_false, Bool.false_eq_true, if_true, if_false, decide_true, decide_false, decide_eq_true_eq, dIsN, dNotN, dIdx, dItems, at_int, at0, at1, at2, at3, cut2, gN, gT, gCo, gNl, wipeE, x_for_nil, x_for_cons, x_turn_nx, x_turn_ct, x_turn_bk, x_turn_rt, x_comp_nil, x_comp_cons, sz2, sz4, i_lt_int, i_lt_bl, i_lt_non, i_lt_lst, i_lt_tup, i_i_int, i_i_bl, i_b_int, i_b_bl, i_b_non, i_b_lst, i_b_tup, i_l_int, i_l_bl, i_l_non, i_l_lst, i_l_tup, i_t_int, i_t_lst, i_t_tup, i_d_int, i_d_bl, i_d_non, i_d_lst, i_d_tup, i_ltd_int, i_ltd_bl, i_ltd_non, l_lst, l_tup, t_lst, t_tup, a_lst, b_nil, b_cons, cut_lst, cut_tup, x_dEqb, x_dNeb, x_dEqn, x_zip, x_range1, x_range2, Int.cast_ofNat_Int, Nat.zero_add, List.all_cons, List.all_nil, id, Bool.and_true, Bool.true_and, Bool.and_false, Bool.false_and, Bool.or_true, Bool.true_or, Bool.or_false, Bool.false_or, Nat.reduceAdd, Nat.reduceSub, Int.reduceEq, Int.reduceLT, Int.reduceLE, Int.reduceNeg, szl0, szl1, szl2, szl3, szl4, szl5, szl6, szl7, szl8, szl9, szl10, x_extend, x_append, x_borT, x_frz, x_idxO, List.getElem?_cons_zero, List.getElem?_cons_succ, x_notIn, x_isIn, rg_m1, rg_m2, rg_2, rg_3, rg_5, x_abs, x_int, x_rep2, Int.reduceAdd, Int.reduceSub, Int.reduceToNat, and_self, ram3, rbm3, ram2, rbm2, ram1, rbm1, ra0, rb0, ra1, rb1, ra2, rb2, ra3, rb3, ra4, rb4, ra5, rb5, ra6, rb6, ra7, rb7, ra8, rb8, ra9, rb9, ra10, rb10, ra11, rb11, ra12, rb12, ra13, rb13, ra20, rb20, ra24, rb24, eb, er, List.getD_cons_zero, List.getD_cons_succ, es1, ep, o1, e2, eh, el, em, ez, es]
end L2.Ev.K10
namespace L2.Ev.K10
open PySem PySem.Spec PyProof.Rows
def rwB (m r m' r' : Int) : Bool := if m' = 0 then decide (m = 0) && decide (r = r') else decide (m % m' = 0) && decide ((r - r') % m' = 0)
def loB : Option Int → Option Int → Bool
  | _, none => true
  | none, some _ => false
  | some a, some b => decide (b ≤ a)
def hiB : Option Int → Option Int → Bool
  | _, none => true
  | none, some _ => false
  | some a, some b => decide (a ≤ b)
def wi : ST → ST → Bool
  | none, _ => true
  | some _, none => false
  | some (l, h, m, r), some (l', h', m', r') => rwB m r m' r' && (loB l l' && hiB h h')
def pD (t : Bool) (m r : Int) : D := if t then .lst [.int m, .int r] else .tup [.int m, .int r]
theorem v_rw (t u : Bool) (m r m' r' : Int) (h : 0 ≤ m') (S : Strm) : F_rest_within [pD t m r, pD u m' r'] S = some (.bl (rwB m r m' r'), S) := by
  by_cases h0 : m' = 0
  · subst h0
    by_cases h1 : m = 0
    · subst h1
      cases t <;> cases u <;> simp [F_rest_within, m_rest_within, pD, x_def, startE, x_seq, x_nx, x_rt, x_bk, x_ct, x_bind, x_pure, x_c, x_nil, x_cons, x_tup, x_lst, x_op2, x_op1, x_tru, x_notT, x_ite, x_ifS, x_andT, x_orT, x_and, x_or, x_chain, x_bi, x_biF, x_call, x_perm, x_it, x_ret, x_drop, x_next, x_set, x_setF, x_asg, x_aug, x_for, x_comp, x_cat, x_dSub, x_dAdd, x_dAddI, x_dLt, x_dLe, x_dGt, x_dGe, x_dNeg, x_dNot, x_dTru, x_dEq, x_dNe, x_var0, x_varS, Option.bind_some, Option.map_some, List.map_cons, List.map_nil, List.length_cons, List.length_nil, List.replicate_succ, List.replicate_zero, List.cons_append, List.nil_append, List.set_cons_zero, List.set_cons_succ, Bool.not_true, Bool.not_false, Bool.false_eq_true, if_true, if_false, decide_true, decide_false, decide_eq_true_eq, dIsN, dNotN, dIdx, dItems, at_int, at0, at1, at2, at3, cut2, gN, gT, gCo, gNl, wipeE, x_for_nil, x_for_cons, x_turn_nx, x_turn_ct, x_turn_bk, x_turn_rt, x_comp_nil, x_comp_cons, sz2, sz4, i_lt_int, i_lt_bl, i_lt_non, i_lt_lst, i_lt_tup, i_i_int, i_i_bl, i_b_int, i_b_bl, i_b_non, i_b_lst, i_b_tup, i_l_int, i_l_bl, i_l_non, i_l_lst, i_l_tup, i_t_int, i_t_lst, i_t_tup, i_d_int, i_d_bl, i_d_non, i_d_lst, i_d_tup, i_ltd_int, i_ltd_bl, i_ltd_non, l_lst, l_tup, t_lst, t_tup, a_lst, b_nil, b_cons, cut_lst, cut_tup, x_dEqb, x_dNeb, x_dEqn, x_zip, x_range1, x_range2, Int.cast_ofNat_Int, Nat.zero_add, List.all_cons, List.all_nil, id, Bool.and_true, Bool.true_and, Bool.and_false, Bool.false_and, Bool.or_true, Bool.true_or, Bool.or_false, Bool.false_or, Nat.reduceAdd, Nat.reduceSub, Int.reduceEq, Int.reduceLT, Int.reduceLE, Int.reduceNeg, szl0, szl1, szl2, szl3, szl4, szl5, szl6, szl7, szl8, szl9, szl10, x_extend, x_append, x_borT, x_frz, x_idxO, List.getElem?_cons_zero, List.getElem?_cons_succ, x_notIn, x_isIn, rg_m1, rg_m2, rg_2, rg_3, rg_5, x_abs, x_int, x_rep2, Int.reduceAdd, Int.reduceSub, Int.reduceToNat, and_self, ram3, rbm3, ram2, rbm2, ram1, rbm1, ra0, rb0, ra1, rb1, ra2, rb2, ra3, rb3, ra4, rb4, ra5, rb5, ra6, rb6, ra7, rb7, ra8, rb8, ra9, rb9, ra10, rb10, ra11, rb11, ra12, rb12, ra13, rb13, ra20, rb20, ra24, rb24, rwB]
    · cases t <;> cases u <;> simp [F_rest_within, m_rest_within, pD, x_def, startE, x_seq, x_nx, x_rt, x_bk, x_ct, x_bind, x_pure, x_c, x_nil, x_cons, x_tup, x_lst, x_op2, x_op1, x_tru, x_notT, x_ite, x_ifS, x_andT, x_orT, x_and, x_or, x_chain, x_bi, x_biF, x_call, x_perm, x_it, x_ret, x_drop, x_next, x_set, x_setF, x_asg, x_aug, x_for, x_comp, x_cat, x_dSub, x_dAdd, x_dAddI, x_dLt, x_dLe, x_dGt, x_dGe, x_dNeg, x_dNot, x_dTru, x_dEq, x_dNe, x_var0, x_varS, Option.bind_some, Option.map_some, List.map_cons, List.map_nil, List.length_cons, List.length_nil, List.replicate_succ, List.replicate_zero, List.cons_append, List.nil_append, List.set_cons_zero, List.set_cons_succ, Bool.not_true, Bool.not_false, Bool.false_eq_true, if_true, if_false, decide_true, decide_false, decide_eq_true_eq, dIsN, dNotN, dIdx, dItems, at_int, at0, at1, at2, at3, cut2, gN, gT, gCo, gNl, wipeE, x_for_nil, x_for_cons, x_turn_nx, x_turn_ct, x_turn_bk, x_turn_rt, x_comp_nil, x_comp_cons, sz2, sz4, i_lt_int, i_lt_bl, i_lt_non, i_lt_lst, i_lt_tup, i_i_int, i_i_bl, i_b_int, i_b_bl, i_b_non, i_b_lst, i_b_tup, i_l_int, i_l_bl, i_l_non, i_l_lst, i_l_tup, i_t_int, i_t_lst, i_t_tup, i_d_int, i_d_bl, i_d_non, i_d_lst, i_d_tup, i_ltd_int, i_ltd_bl, i_ltd_non, l_lst, l_tup, t_lst, t_tup, a_lst, b_nil, b_cons, cut_lst, cut_tup, x_dEqb, x_dNeb, x_dEqn, x_zip, x_range1, x_range2, Int.cast_ofNat_Int, Nat.zero_add, List.all_cons, List.all_nil, id, Bool.and_true, Bool.true_and, Bool.and_false, Bool.false_and, Bool.or_true, Bool.true_or, Bool.or_false, Bool.false_or, Nat.reduceAdd, Nat.reduceSub, Int.reduceEq, Int.reduceLT, Int.reduceLE, Int.reduceNeg, szl0, szl1, szl2, szl3, szl4, szl5, szl6, szl7, szl8, szl9, szl10, x_extend, x_append, x_borT, x_frz, x_idxO, List.getElem?_cons_zero, List.getElem?_cons_succ, x_notIn, x_isIn, rg_m1, rg_m2, rg_2, rg_3, rg_5, x_abs, x_int, x_rep2, Int.reduceAdd, Int.reduceSub, Int.reduceToNat, and_self, ram3, rbm3, ram2, rbm2, ram1, rbm1, ra0, rb0, ra1, rb1, ra2, rb2, ra3, rb3, ra4, rb4, ra5, rb5, ra6, rb6, ra7, rb7, ra8, rb8, ra9, rb9, ra10, rb10, ra11, rb11, ra12, rb12, ra13, rb13, ra20, rb20, ra24, rb24, rwB, h1]
  · have pm : 0 < m' := by omega
    have e1 := fun i : Int => x_dMod (i := i) pm
    by_cases h1 : m % m' = 0
    · cases t <;> cases u <;> simp [F_rest_within, m_rest_within, pD, x_def, startE, x_seq, x_nx, x_rt, x_bk, x_ct, x_bind, x_pure, x_c, x_nil, x_cons, x_tup, x_lst, x_op2, x_op1, x_tru, x_notT, x_ite, x_ifS, x_andT, x_orT, x_and, x_or, x_chain, x_bi, x_biF, x_call, x_perm, x_it, x_ret, x_drop, x_next, x_set, x_setF, x_asg, x_aug, x_for, x_comp, x_cat, x_dSub, x_dAdd, x_dAddI, x_dLt, x_dLe, x_dGt, x_dGe, x_dNeg, x_dNot, x_dTru, x_dEq, x_dNe, x_var0, x_varS, Option.bind_some, Option.map_some, List.map_cons, List.map_nil, List.length_cons, List.length_nil, List.replicate_succ, List.replicate_zero, List.cons_append, List.nil_append, List.set_cons_zero, List.set_cons_succ, Bool.not_true, Bool.not_false, Bool.false_eq_true, if_true, if_false, decide_true, decide_false, decide_eq_true_eq, dIsN, dNotN, dIdx, dItems, at_int, at0, at1, at2, at3, cut2, gN, gT, gCo, gNl, wipeE, x_for_nil, x_for_cons, x_turn_nx, x_turn_ct, x_turn_bk, x_turn_rt, x_comp_nil, x_comp_cons, sz2, sz4, i_lt_int, i_lt_bl, i_lt_non, i_lt_lst, i_lt_tup, i_i_int, i_i_bl, i_b_int, i_b_bl, i_b_non, i_b_lst, i_b_tup, i_l_int, i_l_bl, i_l_non, i_l_lst, i_l_tup, i_t_int, i_t_lst, i_t_tup, i_d_int, i_d_bl, i_d_non, i_d_lst, i_d_tup, i_ltd_int, i_ltd_bl, i_ltd_non, l_lst, l_tup, t_lst, t_tup, a_lst, b_nil, b_cons, cut_lst, cut_tup, x_dEqb, x_dNeb, x_dEqn, x_zip, x_range1, x_range2, Int.cast_ofNat_Int, Nat.zero_add, List.all_cons, List.all_nil, id, Bool.and_true, Bool.true_and, Bool.and_false, Bool.false_and, Bool.or_true, Bool.true_or, Bool.or_false, Bool.false_or, Nat.reduceAdd, Nat.reduceSub, Int.reduceEq, Int.reduceLT, Int.reduceLE, Int.reduceNeg, szl0, szl1, szl2, szl3, szl4, szl5, szl6, szl7, szl8, szl9, szl10, x_extend, x_append, x_borT, x_frz, x_idxO, List.getElem?_cons_zero, List.getElem?_cons_succ, x_notIn, x_isIn, rg_m1, rg_m2, rg_2, rg_3, rg_5, x_abs, x_int, x_rep2, Int.reduceAdd, Int.reduceSub, Int.reduceToNat, and_self, ram3, rbm3, ram2, rbm2, ram1, rbm1, ra0, rb0, ra1, rb1, ra2, rb2, ra3, rb3, ra4, rb4, ra5, rb5, ra6, rb6, ra7, rb7, ra8, rb8, ra9, rb9, ra10, rb10, ra11, rb11, ra12, rb12, ra13, rb13, ra20, rb20, ra24, rb24, rwB, h0, e1, h1]
    · cases t <;> cases u <;> simp [F_rest_within, m_rest_within, pD, x_def, startE, x_seq, x_nx, x_rt, x_bk, x_ct, x_bind, x_pure, x_c, x_nil, x_cons, x_tup, x_lst, x_op2, x_op1, x_tru, x_notT, x_ite, x_ifS, x_andT, x_orT, x_and, x_or, x_chain, x_bi, x_biF, x_call, x_perm, x_it, x_ret, x_drop, x_next, x_set, x_setF, x_asg, x_aug, x_for, x_comp, x_cat, x_dSub, x_dAdd, x_dAddI, x_dLt, x_dLe, x_dGt, x_dGe, x_dNeg, x_dNot, x_dTru, x_dEq, x_dNe, x_var0, x_varS, Option.bind_some, Option.map_some, List.map_cons, List.map_nil, List.length_cons, List.length_nil, List.replicate_succ, List.replicate_zero, List.cons_append, List.nil_append, List.set_cons_zero, List.set_cons_succ, Bool.not_true, Bool.not_false, Bool.false_eq_true, if_true, if_false, decide_true, decide_false, decide_eq_true_eq, dIsN, dNotN, dIdx, dItems, at_int, at0, at1, at2, at3, cut2, gN, gT, gCo, gNl, wipeE, x_for_nil, x_for_cons, x_turn_nx, x_turn_ct, x_turn_bk, x_turn_rt, x_comp_nil, x_comp_cons, sz2, sz4, i_lt_int, i_lt_bl, i_lt_non, i_lt_lst, i_lt_tup, i_i_int, i_i_bl, i_b_int, i_b_bl, i_b_non, i_b_lst, i_b_tup, i_l_int, i_l_bl, i_l_non, i_l_lst, i_l_tup, i_t_int, i_t_lst, i_t_tup, i_d_int, i_d_bl, i_d_non, i_d_lst, i_d_tup, i_ltd_int, i_ltd_bl, i_ltd_non, l_lst, l_tup, t_lst, t_tup, a_lst, b_nil, b_cons, cut_lst, cut_tup, x_dEqb, x_dNeb, x_dEqn, x_zip, x_range1, x_range2, Int.cast_ofNat_Int, Nat.zero_add, List.all_cons, List.all_nil, id, Bool.and_true, Bool.true_and, Bool.and_false, Bool.false_and, Bool.or_true, Bool.true_or, Bool.or_false, Bool.false_or, Nat.reduceAdd, Nat.reduceSub, Int.reduceEq, Int.reduceLT, Int.reduceLE, Int.reduceNeg, szl0, szl1, szl2, szl3, szl4, szl5, szl6, szl7, szl8, szl9, szl10, x_extend, x_append, x_borT, x_frz, x_idxO, List.getElem?_cons_zero, List.getElem?_cons_succ, x_notIn, x_isIn, rg_m1, rg_m2, rg_2, rg_3, rg_5, x_abs, x_int, x_rep2, Int.reduceAdd, Int.reduceSub, Int.reduceToNat, and_self, ram3, rbm3, ram2, rbm2, ram1, rbm1, ra0, rb0, ra1, rb1, ra2, rb2, ra3, rb3, ra4, rb4, ra5, rb5, ra6, rb6, ra7, rb7, ra8, rb8, ra9, rb9, ra10, rb10, ra11, rb11, ra12, rb12, ra13, rb13, ra20, rb20, ra24, rb24, rwB, h0, e1, h1]
theorem cut_q (t : Bool) (l h : Option Int) (m r : Int) : dCut (some 2) none (qD t l h m r) = some (pD t m r) := by cases t <;> rfl
theorem ix0_q (t : Bool) (l h : Option Int) (m r : Int) : dIdx (qD t l h m r) (.int 0) = some (oD l) := by cases t <;> rfl
theorem ix1_q (t : Bool) (l h : Option Int) (m r : Int) : dIdx (qD t l h m r) (.int 1) = some (oD h) := by cases t <;> rfl
theorem isN_q (t : Bool) (l h : Option Int) (m r : Int) : dIsN (qD t l h m r) = some (.bl false) := by cases t <;> rfl
theorem n_non : dIsN .non = some (.bl true) := rfl
theorem n_int (i : Int) : dIsN (.int i) = some (.bl false) := rfl
theorem nn_non : dNotN .non = some (.bl false) := rfl
theorem nn_int (i : Int) : dNotN (.int i) = some (.bl true) := rfl
theorem v_lies (t u : Bool) (l h : Option Int) (m r : Int) (l' h' : Option Int) (m' r' : Int) (hm : 0 ≤ m') (S : Strm) :
    F_lies_within [qD t l h m r, qD u l' h' m' r'] S = some (.bl (rwB m r m' r' && (loB l l' && hiB h h')), S) := by
  have er := v_rw t u m r m' r' hm
  simp only [F_lies_within, m_lies_within, x_def, startE, x_seq, x_bind, x_ifS, x_orT, x_notT, x_tru, x_op1, x_op2, x_call, x_cons, x_nil, x_c, x_var0, x_varS, x_ret, x_next, x_nx, List.map_cons, List.map_nil, List.length_cons, List.length_nil, Nat.reduceAdd, Nat.reduceSub, List.replicate_succ, List.replicate_zero, List.cons_append, List.nil_append, Option.bind_some, Option.map_some, isN_q, x_dTru, Bool.false_eq_true, if_false, cut_q, er, x_set, x_or, x_and, ix0_q, ix1_q, List.set_cons_zero, List.set_cons_succ]
  cases rwB m r m' r' with
  | false => simp only [x_def, startE, x_seq, x_nx, x_rt, x_bk, x_ct, x_bind, x_pure, x_c, x_nil, x_cons, x_tup, x_lst, x_op2, x_op1, x_tru, x_notT, x_ite, x_ifS, x_andT, x_orT, x_and, x_or, x_chain, x_bi, x_biF, x_call, x_perm, x_it, x_ret, x_drop, x_next, x_set, x_setF, x_asg, x_aug, x_for, x_comp, x_cat, x_dSub, x_dAdd, x_dAddI, x_dLt, x_dLe, x_dGt, x_dGe, x_dNeg, x_dNot, x_dTru, x_dEq, x_dNe, x_var0, x_varS, Option.bind_some, Option.map_some, List.map_cons, List.map_nil, List.length_cons, List.length_nil, List.replicate_succ, List.replicate_zero, List.cons_append, List.nil_append, List.set_cons_zero, List.set_cons_succ, Bool.not_true, Bool.not_false, Bool.false_eq_true, if_true, if_false, decide_true, decide_false, decide_eq_true_eq, dIsN, dNotN, dIdx, dItems, at_int, at0, at1, at2, at3, cut2, gN, gT, gCo, gNl, wipeE, x_for_nil, x_for_cons, x_turn_nx, x_turn_ct, x_turn_bk, x_turn_rt, x_comp_nil, x_comp_cons, sz2, sz4, i_lt_int, i_lt_bl, i_lt_non, i_lt_lst, i_lt_tup, i_i_int, i_i_bl, i_b_int, i_b_bl, i_b_non, i_b_lst, i_b_tup, i_l_int, i_l_bl, i_l_non, i_l_lst, i_l_tup, i_t_int, i_t_lst, i_t_tup, i_d_int, i_d_bl, i_d_non, i_d_lst, i_d_tup, i_ltd_int, i_ltd_bl, i_ltd_non, l_lst, l_tup, t_lst, t_tup, a_lst, b_nil, b_cons, cut_lst, cut_tup, x_dEqb, x_dNeb, x_dEqn, x_zip, x_range1, x_range2, Int.cast_ofNat_Int, Nat.zero_add, List.all_cons, List.all_nil, id, Bool.and_true, Bool.true_and, Bool.and_false, Bool.false_and, Bool.or_true, Bool.true_or, Bool.or_false, Bool.false_or, Nat.reduceAdd, Nat.reduceSub, Int.reduceEq, Int.reduceLT, Int.reduceLE, Int.reduceNeg, szl0, szl1, szl2, szl3, szl4, szl5, szl6, szl7, szl8, szl9, szl10, x_extend, x_append, x_borT, x_frz, x_idxO, List.getElem?_cons_zero, List.getElem?_cons_succ, x_notIn, x_isIn, rg_m1, rg_m2, rg_2, rg_3, rg_5, x_abs, x_int, x_rep2, Int.reduceAdd, Int.reduceSub, Int.reduceToNat, and_self, ram3, rbm3, ram2, rbm2, ram1, rbm1, ra0, rb0, ra1, rb1, ra2, rb2, ra3, rb3, ra4, rb4, ra5, rb5, ra6, rb6, ra7, rb7, ra8, rb8, ra9, rb9, ra10, rb10, ra11, rb11, ra12, rb12, ra13, rb13, ra20, rb20, ra24, rb24]
  | true =>
    simp only [x_def, startE, x_seq, x_nx, x_rt, x_bk, x_ct, x_bind, x_pure, x_c, x_nil, x_cons, x_tup, x_lst, x_op2, x_op1, x_tru, x_notT, x_ite, x_ifS, x_andT, x_orT, x_and, x_or, x_chain, x_bi, x_biF, x_call, x_perm, x_it, x_ret, x_drop, x_next, x_set, x_setF, x_asg, x_aug, x_for, x_comp, x_cat, x_dSub, x_dAdd, x_dAddI, x_dLt, x_dLe, x_dGt, x_dGe, x_dNeg, x_dNot, x_dTru, x_dEq, x_dNe, x_var0, x_varS, Option.bind_some, Option.map_some, List.map_cons, List.map_nil, List.length_cons, List.length_nil, List.replicate_succ, List.replicate_zero, List.cons_append, List.nil_append, List.set_cons_zero, List.set_cons_succ, Bool.not_true, Bool.not_false, Bool.false_eq_true, if_true, if_false, decide_true, decide_false, decide_eq_true_eq, at_int, at0, at1, at2, at3, cut2, gN, gT, gCo, gNl, wipeE, x_for_nil, x_for_cons, x_turn_nx, x_turn_ct, x_turn_bk, x_turn_rt, x_comp_nil, x_comp_cons, sz2, sz4, i_lt_int, i_lt_bl, i_lt_non, i_lt_lst, i_lt_tup, i_i_int, i_i_bl, i_b_int, i_b_bl, i_b_non, i_b_lst, i_b_tup, i_l_int, i_l_bl, i_l_non, i_l_lst, i_l_tup, i_t_int, i_t_lst, i_t_tup, i_d_int, i_d_bl, i_d_non, i_d_lst, i_d_tup, i_ltd_int, i_ltd_bl, i_ltd_non, l_lst, l_tup, t_lst, t_tup, a_lst, b_nil, b_cons, cut_lst, cut_tup, x_dEqb, x_dNeb, x_dEqn, x_zip, x_range1, x_range2, Int.cast_ofNat_Int, Nat.zero_add, List.all_cons, List.all_nil, id, Bool.and_true, Bool.true_and, Bool.and_false, Bool.false_and, Bool.or_true, Bool.true_or, Bool.or_false, Bool.false_or, Nat.reduceAdd, Nat.reduceSub, Int.reduceEq, Int.reduceLT, Int.reduceLE, Int.reduceNeg, szl0, szl1, szl2, szl3, szl4, szl5, szl6, szl7, szl8, szl9, szl10, x_extend, x_append, x_borT, x_frz, x_idxO, List.getElem?_cons_zero, List.getElem?_cons_succ, x_notIn, x_isIn, rg_m1, rg_m2, rg_2, rg_3, rg_5, x_abs, x_int, x_rep2, Int.reduceAdd, Int.reduceSub, Int.reduceToNat, and_self, ram3, rbm3, ram2, rbm2, ram1, rbm1, ra0, rb0, ra1, rb1, ra2, rb2, ra3, rb3, ra4, rb4, ra5, rb5, ra6, rb6, ra7, rb7, ra8, rb8, ra9, rb9, ra10, rb10, ra11, rb11, ra12, rb12, ra13, rb13, ra20, rb20, ra24, rb24, isN_q, ix0_q, ix1_q]
    cases l' with
    | none =>
      cases h' with
      | none => simp only [x_def, startE, x_seq, x_nx, x_rt, x_bk, x_ct, x_bind, x_pure, x_c, x_nil, x_cons, x_tup, x_lst, x_op2, x_op1, x_tru, x_notT, x_ite, x_ifS, x_andT, x_orT, x_and, x_or, x_chain, x_bi, x_biF, x_call, x_perm, x_it, x_ret, x_drop, x_next, x_set, x_setF, x_asg, x_aug, x_for, x_comp, x_cat, x_dSub, x_dAdd, x_dAddI, x_dLt, x_dLe, x_dGt, x_dGe, x_dNeg, x_dNot, x_dTru, x_dEq, x_dNe, x_var0, x_varS, Option.bind_some, Option.map_some, List.map_cons, List.map_nil, List.length_cons, List.length_nil, List.replicate_succ, List.replicate_zero, List.cons_append, List.nil_append, List.set_cons_zero, List.set_cons_succ, Bool.not_true, Bool.not_false, Bool.false_eq_true, if_true, if_false, decide_true, decide_false, decide_eq_true_eq, at_int, at0, at1, at2, at3, cut2, gN, gT, gCo, gNl, wipeE, x_for_nil, x_for_cons, x_turn_nx, x_turn_ct, x_turn_bk, x_turn_rt, x_comp_nil, x_comp_cons, sz2, sz4, i_lt_int, i_lt_bl, i_lt_non, i_lt_lst, i_lt_tup, i_i_int, i_i_bl, i_b_int, i_b_bl, i_b_non, i_b_lst, i_b_tup, i_l_int, i_l_bl, i_l_non, i_l_lst, i_l_tup, i_t_int, i_t_lst, i_t_tup, i_d_int, i_d_bl, i_d_non, i_d_lst, i_d_tup, i_ltd_int, i_ltd_bl, i_ltd_non, l_lst, l_tup, t_lst, t_tup, a_lst, b_nil, b_cons, cut_lst, cut_tup, x_dEqb, x_dNeb, x_dEqn, x_zip, x_range1, x_range2, Int.cast_ofNat_Int, Nat.zero_add, List.all_cons, List.all_nil, id, Bool.and_true, Bool.true_and, Bool.and_false, Bool.false_and, Bool.or_true, Bool.true_or, Bool.or_false, Bool.false_or, Nat.reduceAdd, Nat.reduceSub, Int.reduceEq, Int.reduceLT, Int.reduceLE, Int.reduceNeg, szl0, szl1, szl2, szl3, szl4, szl5, szl6, szl7, szl8, szl9, szl10, x_extend, x_append, x_borT, x_frz, x_idxO, List.getElem?_cons_zero, List.getElem?_cons_succ, x_notIn, x_isIn, rg_m1, rg_m2, rg_2, rg_3, rg_5, x_abs, x_int, x_rep2, Int.reduceAdd, Int.reduceSub, Int.reduceToNat, and_self, ram3, rbm3, ram2, rbm2, ram1, rbm1, ra0, rb0, ra1, rb1, ra2, rb2, ra3, rb3, ra4, rb4, ra5, rb5, ra6, rb6, ra7, rb7, ra8, rb8, ra9, rb9, ra10, rb10, ra11, rb11, ra12, rb12, ra13, rb13, ra20, rb20, ra24, rb24, ix0_q, ix1_q, n_non, n_int, nn_non, nn_int, oD, loB, hiB]
      | some b =>
        cases h with
        | none => simp only [x_def, startE, x_seq, x_nx, x_rt, x_bk, x_ct, x_bind, x_pure, x_c, x_nil, x_cons, x_tup, x_lst, x_op2, x_op1, x_tru, x_notT, x_ite, x_ifS, x_andT, x_orT, x_and, x_or, x_chain, x_bi, x_biF, x_call, x_perm, x_it, x_ret, x_drop, x_next, x_set, x_setF, x_asg, x_aug, x_for, x_comp, x_cat, x_dSub, x_dAdd, x_dAddI, x_dLt, x_dLe, x_dGt, x_dGe, x_dNeg, x_dNot, x_dTru, x_dEq, x_dNe, x_var0, x_varS, Option.bind_some, Option.map_some, List.map_cons, List.map_nil, List.length_cons, List.length_nil, List.replicate_succ, List.replicate_zero, List.cons_append, List.nil_append, List.set_cons_zero, List.set_cons_succ, Bool.not_true, Bool.not_false, Bool.false_eq_true, if_true, if_false, decide_true, decide_false, decide_eq_true_eq, at_int, at0, at1, at2, at3, cut2, gN, gT, gCo, gNl, wipeE, x_for_nil, x_for_cons, x_turn_nx, x_turn_ct, x_turn_bk, x_turn_rt, x_comp_nil, x_comp_cons, sz2, sz4, i_lt_int, i_lt_bl, i_lt_non, i_lt_lst, i_lt_tup, i_i_int, i_i_bl, i_b_int, i_b_bl, i_b_non, i_b_lst, i_b_tup, i_l_int, i_l_bl, i_l_non, i_l_lst, i_l_tup, i_t_int, i_t_lst, i_t_tup, i_d_int, i_d_bl, i_d_non, i_d_lst, i_d_tup, i_ltd_int, i_ltd_bl, i_ltd_non, l_lst, l_tup, t_lst, t_tup, a_lst, b_nil, b_cons, cut_lst, cut_tup, x_dEqb, x_dNeb, x_dEqn, x_zip, x_range1, x_range2, Int.cast_ofNat_Int, Nat.zero_add, List.all_cons, List.all_nil, id, Bool.and_true, Bool.true_and, Bool.and_false, Bool.false_and, Bool.or_true, Bool.true_or, Bool.or_false, Bool.false_or, Nat.reduceAdd, Nat.reduceSub, Int.reduceEq, Int.reduceLT, Int.reduceLE, Int.reduceNeg, szl0, szl1, szl2, szl3, szl4, szl5, szl6, szl7, szl8, szl9, szl10, x_extend, x_append, x_borT, x_frz, x_idxO, List.getElem?_cons_zero, List.getElem?_cons_succ, x_notIn, x_isIn, rg_m1, rg_m2, rg_2, rg_3, rg_5, x_abs, x_int, x_rep2, Int.reduceAdd, Int.reduceSub, Int.reduceToNat, and_self, ram3, rbm3, ram2, rbm2, ram1, rbm1, ra0, rb0, ra1, rb1, ra2, rb2, ra3, rb3, ra4, rb4, ra5, rb5, ra6, rb6, ra7, rb7, ra8, rb8, ra9, rb9, ra10, rb10, ra11, rb11, ra12, rb12, ra13, rb13, ra20, rb20, ra24, rb24, ix0_q, ix1_q, n_non, n_int, nn_non, nn_int, oD, loB, hiB]
        | some c => simp only [x_def, startE, x_seq, x_nx, x_rt, x_bk, x_ct, x_bind, x_pure, x_c, x_nil, x_cons, x_tup, x_lst, x_op2, x_op1, x_tru, x_notT, x_ite, x_ifS, x_andT, x_orT, x_and, x_or, x_chain, x_bi, x_biF, x_call, x_perm, x_it, x_ret, x_drop, x_next, x_set, x_setF, x_asg, x_aug, x_for, x_comp, x_cat, x_dSub, x_dAdd, x_dAddI, x_dLt, x_dLe, x_dGt, x_dGe, x_dNeg, x_dNot, x_dTru, x_dEq, x_dNe, x_var0, x_varS, Option.bind_some, Option.map_some, List.map_cons, List.map_nil, List.length_cons, List.length_nil, List.replicate_succ, List.replicate_zero, List.cons_append, List.nil_append, List.set_cons_zero, List.set_cons_succ, Bool.not_true, Bool.not_false, Bool.false_eq_true, if_true, if_false, decide_true, decide_false, decide_eq_true_eq, at_int, at0, at1, at2, at3, cut2, gN, gT, gCo, gNl, wipeE, x_for_nil, x_for_cons, x_turn_nx, x_turn_ct, x_turn_bk, x_turn_rt, x_comp_nil, x_comp_cons, sz2, sz4, i_lt_int, i_lt_bl, i_lt_non, i_lt_lst, i_lt_tup, i_i_int, i_i_bl, i_b_int, i_b_bl, i_b_non, i_b_lst, i_b_tup, i_l_int, i_l_bl, i_l_non, i_l_lst, i_l_tup, i_t_int, i_t_lst, i_t_tup, i_d_int, i_d_bl, i_d_non, i_d_lst, i_d_tup, i_ltd_int, i_ltd_bl, i_ltd_non, l_lst, l_tup, t_lst, t_tup, a_lst, b_nil, b_cons, cut_lst, cut_tup, x_dEqb, x_dNeb, x_dEqn, x_zip, x_range1, x_range2, Int.cast_ofNat_Int, Nat.zero_add, List.all_cons, List.all_nil, id, Bool.and_true, Bool.true_and, Bool.and_false, Bool.false_and, Bool.or_true, Bool.true_or, Bool.or_false, Bool.false_or, Nat.reduceAdd, Nat.reduceSub, Int.reduceEq, Int.reduceLT, Int.reduceLE, Int.reduceNeg, szl0, szl1, szl2, szl3, szl4, szl5, szl6, szl7, szl8, szl9, szl10, x_extend, x_append, x_borT, x_frz, x_idxO, List.getElem?_cons_zero, List.getElem?_cons_succ, x_notIn, x_isIn, rg_m1, rg_m2, rg_2, rg_3, rg_5, x_abs, x_int, x_rep2, Int.reduceAdd, Int.reduceSub, Int.reduceToNat, and_self, ram3, rbm3, ram2, rbm2, ram1, rbm1, ra0, rb0, ra1, rb1, ra2, rb2, ra3, rb3, ra4, rb4, ra5, rb5, ra6, rb6, ra7, rb7, ra8, rb8, ra9, rb9, ra10, rb10, ra11, rb11, ra12, rb12, ra13, rb13, ra20, rb20, ra24, rb24, ix0_q, ix1_q, n_non, n_int, nn_non, nn_int, oD, loB, hiB]
    | some a =>
      cases l with
      | none =>
        cases h' with
        | none => simp only [x_def, startE, x_seq, x_nx, x_rt, x_bk, x_ct, x_bind, x_pure, x_c, x_nil, x_cons, x_tup, x_lst, x_op2, x_op1, x_tru, x_notT, x_ite, x_ifS, x_andT, x_orT, x_and, x_or, x_chain, x_bi, x_biF, x_call, x_perm, x_it, x_ret, x_drop, x_next, x_set, x_setF, x_asg, x_aug, x_for, x_comp, x_cat, x_dSub, x_dAdd, x_dAddI, x_dLt, x_dLe, x_dGt, x_dGe, x_dNeg, x_dNot, x_dTru, x_dEq, x_dNe, x_var0, x_varS, Option.bind_some, Option.map_some, List.map_cons, List.map_nil, List.length_cons, List.length_nil, List.replicate_succ, List.replicate_zero, List.cons_append, List.nil_append, List.set_cons_zero, List.set_cons_succ, Bool.not_true, Bool.not_false, Bool.false_eq_true, if_true, if_false, decide_true, decide_false, decide_eq_true_eq, at_int, at0, at1, at2, at3, cut2, gN, gT, gCo, gNl, wipeE, x_for_nil, x_for_cons, x_turn_nx, x_turn_ct, x_turn_bk, x_turn_rt, x_comp_nil, x_comp_cons, sz2, sz4, i_lt_int, i_lt_bl, i_lt_non, i_lt_lst, i_lt_tup, i_i_int, i_i_bl, i_b_int, i_b_bl, i_b_non, i_b_lst, i_b_tup, i_l_int, i_l_bl, i_l_non, i_l_lst, i_l_tup, i_t_int, i_t_lst, i_t_tup, i_d_int, i_d_bl, i_d_non, i_d_lst, i_d_tup, i_ltd_int, i_ltd_bl, i_ltd_non, l_lst, l_tup, t_lst, t_tup, a_lst, b_nil, b_cons, cut_lst, cut_tup, x_dEqb, x_dNeb, x_dEqn, x_zip, x_range1, x_range2, Int.cast_ofNat_Int, Nat.zero_add, List.all_cons, List.all_nil, id, Bool.and_true, Bool.true_and, Bool.and_false, Bool.false_and, Bool.or_true, Bool.true_or, Bool.or_false, Bool.false_or, Nat.reduceAdd, Nat.reduceSub, Int.reduceEq, Int.reduceLT, Int.reduceLE, Int.reduceNeg, szl0, szl1, szl2, szl3, szl4, szl5, szl6, szl7, szl8, szl9, szl10, x_extend, x_append, x_borT, x_frz, x_idxO, List.getElem?_cons_zero, List.getElem?_cons_succ, x_notIn, x_isIn, rg_m1, rg_m2, rg_2, rg_3, rg_5, x_abs, x_int, x_rep2, Int.reduceAdd, Int.reduceSub, Int.reduceToNat, and_self, ram3, rbm3, ram2, rbm2, ram1, rbm1, ra0, rb0, ra1, rb1, ra2, rb2, ra3, rb3, ra4, rb4, ra5, rb5, ra6, rb6, ra7, rb7, ra8, rb8, ra9, rb9, ra10, rb10, ra11, rb11, ra12, rb12, ra13, rb13, ra20, rb20, ra24, rb24, ix0_q, ix1_q, n_non, n_int, nn_non, nn_int, oD, loB, hiB]
        | some b =>
          cases h with
          | none => simp only [x_def, startE, x_seq, x_nx, x_rt, x_bk, x_ct, x_bind, x_pure, x_c, x_nil, x_cons, x_tup, x_lst, x_op2, x_op1, x_tru, x_notT, x_ite, x_ifS, x_andT, x_orT, x_and, x_or, x_chain, x_bi, x_biF, x_call, x_perm, x_it, x_ret, x_drop, x_next, x_set, x_setF, x_asg, x_aug, x_for, x_comp, x_cat, x_dSub, x_dAdd, x_dAddI, x_dLt, x_dLe, x_dGt, x_dGe, x_dNeg, x_dNot, x_dTru, x_dEq, x_dNe, x_var0, x_varS, Option.bind_some, Option.map_some, List.map_cons, List.map_nil, List.length_cons, List.length_nil, List.replicate_succ, List.replicate_zero, List.cons_append, List.nil_append, List.set_cons_zero, List.set_cons_succ, Bool.not_true, Bool.not_false, Bool.false_eq_true, if_true, if_false, decide_true, decide_false, decide_eq_true_eq, at_int, at0, at1, at2, at3, cut2, gN, gT, gCo, gNl, wipeE, x_for_nil, x_for_cons, x_turn_nx, x_turn_ct, x_turn_bk, x_turn_rt, x_comp_nil, x_comp_cons, sz2, sz4, i_lt_int, i_lt_bl, i_lt_non, i_lt_lst, i_lt_tup, i_i_int, i_i_bl, i_b_int, i_b_bl, i_b_non, i_b_lst, i_b_tup, i_l_int, i_l_bl, i_l_non, i_l_lst, i_l_tup, i_t_int, i_t_lst, i_t_tup, i_d_int, i_d_bl, i_d_non, i_d_lst, i_d_tup, i_ltd_int, i_ltd_bl, i_ltd_non, l_lst, l_tup, t_lst, t_tup, a_lst, b_nil, b_cons, cut_lst, cut_tup, x_dEqb, x_dNeb, x_dEqn, x_zip, x_range1, x_range2, Int.cast_ofNat_Int, Nat.zero_add, List.all_cons, List.all_nil, id, Bool.and_true, Bool.true_and, Bool.and_false, Bool.false_and, Bool.or_true, Bool.true_or, Bool.or_false, Bool.false_or, Nat.reduceAdd, Nat.reduceSub, Int.reduceEq, Int.reduceLT, Int.reduceLE, Int.reduceNeg, szl0, szl1, szl2, szl3, szl4, szl5, szl6, szl7, szl8, szl9, szl10, x_extend, x_append, x_borT, x_frz, x_idxO, List.getElem?_cons_zero, List.getElem?_cons_succ, x_notIn, x_isIn, rg_m1, rg_m2, rg_2, rg_3, rg_5, x_abs, x_int, x_rep2, Int.reduceAdd, Int.reduceSub, Int.reduceToNat, and_self, ram3, rbm3, ram2, rbm2, ram1, rbm1, ra0, rb0, ra1, rb1, ra2, rb2, ra3, rb3, ra4, rb4, ra5, rb5, ra6, rb6, ra7, rb7, ra8, rb8, ra9, rb9, ra10, rb10, ra11, rb11, ra12, rb12, ra13, rb13, ra20, rb20, ra24, rb24, ix0_q, ix1_q, n_non, n_int, nn_non, nn_int, oD, loB, hiB]
          | some c => simp only [x_def, startE, x_seq, x_nx, x_rt, x_bk, x_ct, x_bind, x_pure, x_c, x_nil, x_cons, x_tup, x_lst, x_op2, x_op1, x_tru, x_notT, x_ite, x_ifS, x_andT, x_orT, x_and, x_or, x_chain, x_bi, x_biF, x_call, x_perm, x_it, x_ret, x_drop, x_next, x_set, x_setF, x_asg, x_aug, x_for, x_comp, x_cat, x_dSub, x_dAdd, x_dAddI, x_dLt, x_dLe, x_dGt, x_dGe, x_dNeg, x_dNot, x_dTru, x_dEq, x_dNe, x_var0, x_varS, Option.bind_some, Option.map_some, List.map_cons, List.map_nil, List.length_cons, List.length_nil, List.replicate_succ, List.replicate_zero, List.cons_append, List.nil_append, List.set_cons_zero, List.set_cons_succ, Bool.not_true, Bool.not_false, Bool.false_eq_true, if_true, if_false, decide_true, decide_false, decide_eq_true_eq, at_int, at0, at1, at2, at3, cut2, gN, gT, gCo, gNl, wipeE, x_for_nil, x_for_cons, x_turn_nx, x_turn_ct, x_turn_bk, x_turn_rt, x_comp_nil, x_comp_cons, sz2, sz4, i_lt_int, i_lt_bl, i_lt_non, i_lt_lst, i_lt_tup, i_i_int, i_i_bl, i_b_int, i_b_bl, i_b_non, i_b_lst, i_b_tup, i_l_int, i_l_bl, i_l_non, i_l_lst, i_l_tup, i_t_int, i_t_lst, i_t_tup, i_d_int, i_d_bl, i_d_non, i_d_lst, i_d_tup, i_ltd_int, i_ltd_bl, i_ltd_non, l_lst, l_tup, t_lst, t_tup, a_lst, b_nil, b_cons, cut_lst, cut_tup, x_dEqb, x_dNeb, x_dEqn, x_zip, x_range1, x_range2, Int.cast_ofNat_Int, Nat.zero_add, List.all_cons, List.all_nil, id, Bool.and_true, Bool.true_and, Bool.and_false, Bool.false_and, Bool.or_true, Bool.true_or, Bool.or_false, Bool.false_or, Nat.reduceAdd, Nat.reduceSub, Int.reduceEq, Int.reduceLT, Int.reduceLE, Int.reduceNeg, szl0, szl1, szl2, szl3, szl4, szl5, szl6, szl7, szl8, szl9, szl10, x_extend, x_append, x_borT, x_frz, x_idxO, List.getElem?_cons_zero, List.getElem?_cons_succ, x_notIn, x_isIn, rg_m1, rg_m2, rg_2, rg_3, rg_5, x_abs, x_int, x_rep2, Int.reduceAdd, Int.reduceSub, Int.reduceToNat, and_self, ram3, rbm3, ram2, rbm2, ram1, rbm1, ra0, rb0, ra1, rb1, ra2, rb2, ra3, rb3, ra4, rb4, ra5, rb5, ra6, rb6, ra7, rb7, ra8, rb8, ra9, rb9, ra10, rb10, ra11, rb11, ra12, rb12, ra13, rb13, ra20, rb20, ra24, rb24, ix0_q, ix1_q, n_non, n_int, nn_non, nn_int, oD, loB, hiB]
      | some a' =>
        by_cases k : a ≤ a'
        · cases h' with
          | none => simp only [x_def, startE, x_seq, x_nx, x_rt, x_bk, x_ct, x_bind, x_pure, x_c, x_nil, x_cons, x_tup, x_lst, x_op2, x_op1, x_tru, x_notT, x_ite, x_ifS, x_andT, x_orT, x_and, x_or, x_chain, x_bi, x_biF, x_call, x_perm, x_it, x_ret, x_drop, x_next, x_set, x_setF, x_asg, x_aug, x_for, x_comp, x_cat, x_dSub, x_dAdd, x_dAddI, x_dLt, x_dLe, x_dGt, x_dGe, x_dNeg, x_dNot, x_dTru, x_dEq, x_dNe, x_var0, x_varS, Option.bind_some, Option.map_some, List.map_cons, List.map_nil, List.length_cons, List.length_nil, List.replicate_succ, List.replicate_zero, List.cons_append, List.nil_append, List.set_cons_zero, List.set_cons_succ, Bool.not_true, Bool.not_false, Bool.false_eq_true, if_true, if_false, decide_true, decide_false, decide_eq_true_eq, at_int, at0, at1, at2, at3, cut2, gN, gT, gCo, gNl, wipeE, x_for_nil, x_for_cons, x_turn_nx, x_turn_ct, x_turn_bk, x_turn_rt, x_comp_nil, x_comp_cons, sz2, sz4, i_lt_int, i_lt_bl, i_lt_non, i_lt_lst, i_lt_tup, i_i_int, i_i_bl, i_b_int, i_b_bl, i_b_non, i_b_lst, i_b_tup, i_l_int, i_l_bl, i_l_non, i_l_lst, i_l_tup, i_t_int, i_t_lst, i_t_tup, i_d_int, i_d_bl, i_d_non, i_d_lst, i_d_tup, i_ltd_int, i_ltd_bl, i_ltd_non, l_lst, l_tup, t_lst, t_tup, a_lst, b_nil, b_cons, cut_lst, cut_tup, x_dEqb, x_dNeb, x_dEqn, x_zip, x_range1, x_range2, Int.cast_ofNat_Int, Nat.zero_add, List.all_cons, List.all_nil, id, Bool.and_true, Bool.true_and, Bool.and_false, Bool.false_and, Bool.or_true, Bool.true_or, Bool.or_false, Bool.false_or, Nat.reduceAdd, Nat.reduceSub, Int.reduceEq, Int.reduceLT, Int.reduceLE, Int.reduceNeg, szl0, szl1, szl2, szl3, szl4, szl5, szl6, szl7, szl8, szl9, szl10, x_extend, x_append, x_borT, x_frz, x_idxO, List.getElem?_cons_zero, List.getElem?_cons_succ, x_notIn, x_isIn, rg_m1, rg_m2, rg_2, rg_3, rg_5, x_abs, x_int, x_rep2, Int.reduceAdd, Int.reduceSub, Int.reduceToNat, and_self, ram3, rbm3, ram2, rbm2, ram1, rbm1, ra0, rb0, ra1, rb1, ra2, rb2, ra3, rb3, ra4, rb4, ra5, rb5, ra6, rb6, ra7, rb7, ra8, rb8, ra9, rb9, ra10, rb10, ra11, rb11, ra12, rb12, ra13, rb13, ra20, rb20, ra24, rb24, ix0_q, ix1_q, n_non, n_int, nn_non, nn_int, oD, loB, hiB, k]
          | some b =>
            cases h with
            | none => simp only [x_def, startE, x_seq, x_nx, x_rt, x_bk, x_ct, x_bind, x_pure, x_c, x_nil, x_cons, x_tup, x_lst, x_op2, x_op1, x_tru, x_notT, x_ite, x_ifS, x_andT, x_orT, x_and, x_or, x_chain, x_bi, x_biF, x_call, x_perm, x_it, x_ret, x_drop, x_next, x_set, x_setF, x_asg, x_aug, x_for, x_comp, x_cat, x_dSub, x_dAdd, x_dAddI, x_dLt, x_dLe, x_dGt, x_dGe, x_dNeg, x_dNot, x_dTru, x_dEq, x_dNe, x_var0, x_varS, Option.bind_some, Option.map_some, List.map_cons, List.map_nil, List.length_cons, List.length_nil, List.replicate_succ, List.replicate_zero, List.cons_append, List.nil_append, List.set_cons_zero, List.set_cons_succ, Bool.not_true, Bool.not_false, Bool.false_eq_true, if_true, if_false, decide_true, decide_false, decide_eq_true_eq, at_int, at0, at1, at2, at3, cut2, gN, gT, gCo, gNl, wipeE, x_for_nil, x_for_cons, x_turn_nx, x_turn_ct, x_turn_bk, x_turn_rt, x_comp_nil, x_comp_cons, sz2, sz4, i_lt_int, i_lt_bl, i_lt_non, i_lt_lst, i_lt_tup, i_i_int, i_i_bl, i_b_int, i_b_bl, i_b_non, i_b_lst, i_b_tup, i_l_int, i_l_bl, i_l_non, i_l_lst, i_l_tup, i_t_int, i_t_lst, i_t_tup, i_d_int, i_d_bl, i_d_non, i_d_lst, i_d_tup, i_ltd_int, i_ltd_bl, i_ltd_non, l_lst, l_tup, t_lst, t_tup, a_lst, b_nil, b_cons, cut_lst, cut_tup, x_dEqb, x_dNeb, x_dEqn, x_zip, x_range1, x_range2, Int.cast_ofNat_Int, Nat.zero_add, List.all_cons, List.all_nil, id, Bool.and_true, Bool.true_and, Bool.and_false, Bool.false_and, Bool.or_true, Bool.true_or, Bool.or_false, Bool.false_or, Nat.reduceAdd, Nat.reduceSub, Int.reduceEq, Int.reduceLT, Int.reduceLE, Int.reduceNeg, szl0, szl1, szl2, szl3, szl4, szl5, szl6, szl7, szl8, szl9, szl10, x_extend, x_append, x_borT, x_frz, x_idxO, List.getElem?_cons_zero, List.getElem?_cons_succ, x_notIn, x_isIn, rg_m1, rg_m2, rg_2, rg_3, rg_5, x_abs, x_int, x_rep2, Int.reduceAdd, Int.reduceSub, Int.reduceToNat, and_self, ram3, rbm3, ram2, rbm2, ram1, rbm1, ra0, rb0, ra1, rb1, ra2, rb2, ra3, rb3, ra4, rb4, ra5, rb5, ra6, rb6, ra7, rb7, ra8, rb8, ra9, rb9, ra10, rb10, ra11, rb11, ra12, rb12, ra13, rb13, ra20, rb20, ra24, rb24, ix0_q, ix1_q, n_non, n_int, nn_non, nn_int, oD, loB, hiB, k]
            | some c => simp only [x_def, startE, x_seq, x_nx, x_rt, x_bk, x_ct, x_bind, x_pure, x_c, x_nil, x_cons, x_tup, x_lst, x_op2, x_op1, x_tru, x_notT, x_ite, x_ifS, x_andT, x_orT, x_and, x_or, x_chain, x_bi, x_biF, x_call, x_perm, x_it, x_ret, x_drop, x_next, x_set, x_setF, x_asg, x_aug, x_for, x_comp, x_cat, x_dSub, x_dAdd, x_dAddI, x_dLt, x_dLe, x_dGt, x_dGe, x_dNeg, x_dNot, x_dTru, x_dEq, x_dNe, x_var0, x_varS, Option.bind_some, Option.map_some, List.map_cons, List.map_nil, List.length_cons, List.length_nil, List.replicate_succ, List.replicate_zero, List.cons_append, List.nil_append, List.set_cons_zero, List.set_cons_succ, Bool.not_true, Bool.not_false, Bool.false_eq_true, if_true, if_false, decide_true, decide_false, decide_eq_true_eq, at_int, at0, at1, at2, at3, cut2, gN, gT, gCo, gNl, wipeE, x_for_nil, x_for_cons, x_turn_nx, x_turn_ct, x_turn_bk, x_turn_rt, x_comp_nil, x_comp_cons, sz2, sz4, i_lt_int, i_lt_bl, i_lt_non, i_lt_lst, i_lt_tup, i_i_int, i_i_bl, i_b_int, i_b_bl, i_b_non, i_b_lst, i_b_tup, i_l_int, i_l_bl, i_l_non, i_l_lst, i_l_tup, i_t_int, i_t_lst, i_t_tup, i_d_int, i_d_bl, i_d_non, i_d_lst, i_d_tup, i_ltd_int, i_ltd_bl, i_ltd_non, l_lst, l_tup, t_lst, t_tup, a_lst, b_nil, b_cons, cut_lst, cut_tup, x_dEqb, x_dNeb, x_dEqn, x_zip, x_range1, x_range2, Int.cast_ofNat_Int, Nat.zero_add, List.all_cons, List.all_nil, id, Bool.and_true, Bool.true_and, Bool.and_false, Bool.false_and, Bool.or_true, Bool.true_or, Bool.or_false, Bool.false_or, Nat.reduceAdd, Nat.reduceSub, Int.reduceEq, Int.reduceLT, Int.reduceLE, Int.reduceNeg, szl0, szl1, szl2, szl3, szl4, szl5, szl6, szl7, szl8, szl9, szl10, x_extend, x_append, x_borT, x_frz, x_idxO, List.getElem?_cons_zero, List.getElem?_cons_succ, x_notIn, x_isIn, rg_m1, rg_m2, rg_2, rg_3, rg_5, x_abs, x_int, x_rep2, Int.reduceAdd, Int.reduceSub, Int.reduceToNat, and_self, ram3, rbm3, ram2, rbm2, ram1, rbm1, ra0, rb0, ra1, rb1, ra2, rb2, ra3, rb3, ra4, rb4, ra5, rb5, ra6, rb6, ra7, rb7, ra8, rb8, ra9, rb9, ra10, rb10, ra11, rb11, ra12, rb12, ra13, rb13, ra20, rb20, ra24, rb24, ix0_q, ix1_q, n_non, n_int, nn_non, nn_int, oD, loB, hiB, k]
        · cases h' with
          | none => simp only [x_def, startE, x_seq, x_nx, x_rt, x_bk, x_ct, x_bind, x_pure, x_c, x_nil, x_cons, x_tup, x_lst, x_op2, x_op1, x_tru, x_notT, x_ite, x_ifS, x_andT, x_orT, x_and, x_or, x_chain, x_bi, x_biF, x_call, x_perm, x_it, x_ret, x_drop, x_next, x_set, x_setF, x_asg, x_aug, x_for, x_comp, x_cat, x_dSub, x_dAdd, x_dAddI, x_dLt, x_dLe, x_dGt, x_dGe, x_dNeg, x_dNot, x_dTru, x_dEq, x_dNe, x_var0, x_varS, Option.bind_some, Option.map_some, List.map_cons, List.map_nil, List.length_cons, List.length_nil, List.replicate_succ, List.replicate_zero, List.cons_append, List.nil_append, List.set_cons_zero, List.set_cons_succ, Bool.not_true, Bool.not_false, Bool.false_eq_true, if_true, if_false, decide_true, decide_false, decide_eq_true_eq, at_int, at0, at1, at2, at3, cut2, gN, gT, gCo, gNl, wipeE, x_for_nil, x_for_cons, x_turn_nx, x_turn_ct, x_turn_bk, x_turn_rt, x_comp_nil, x_comp_cons, sz2, sz4, i_lt_int, i_lt_bl, i_lt_non, i_lt_lst, i_lt_tup, i_i_int, i_i_bl, i_b_int, i_b_bl, i_b_non, i_b_lst, i_b_tup, i_l_int, i_l_bl, i_l_non, i_l_lst, i_l_tup, i_t_int, i_t_lst, i_t_tup, i_d_int, i_d_bl, i_d_non, i_d_lst, i_d_tup, i_ltd_int, i_ltd_bl, i_ltd_non, l_lst, l_tup, t_lst, t_tup, a_lst, b_nil, b_cons, cut_lst, cut_tup, x_dEqb, x_dNeb, x_dEqn, x_zip, x_range1, x_range2, Int.cast_ofNat_Int, Nat.zero_add, List.all_cons, List.all_nil, id, Bool.and_true, Bool.true_and, Bool.and_false, Bool.false_and, Bool.or_true, Bool.true_or, Bool.or_false, Bool.false_or, Nat.reduceAdd, Nat.reduceSub, Int.reduceEq, Int.reduceLT, Int.reduceLE, Int.reduceNeg, szl0, szl1, szl2, szl3, szl4, szl5, szl6, szl7, szl8, szl9, szl10, x_extend, x_append, x_borT, x_frz, x_idxO, List.getElem?_cons_zero, List.getElem?_cons_succ, x_notIn, x_isIn, rg_m1, rg_m2, rg_2, rg_3, rg_5, x_abs, x_int, x_rep2, Int.reduceAdd, Int.reduceSub, Int.reduceToNat, and_self, ram3, rbm3, ram2, rbm2, ram1, rbm1, ra0, rb0, ra1, rb1, ra2, rb2, ra3, rb3, ra4, rb4, ra5, rb5, ra6, rb6, ra7, rb7, ra8, rb8, ra9, rb9, ra10, rb10, ra11, rb11, ra12, rb12, ra13, rb13, ra20, rb20, ra24, rb24, ix0_q, ix1_q, n_non, n_int, nn_non, nn_int, oD, loB, hiB, k]
          | some b =>
            cases h with
            | none => simp only [x_def, startE, x_seq, x_nx, x_rt, x_bk, x_ct, x_bind, x_pure, x_c, x_nil, x_cons, x_tup, x_lst, x_op2, x_op1, x_tru, x_notT, x_ite, x_ifS, x_andT, x_orT, x_and, x_or, x_chain, x_bi, x_biF, x_call, x_perm, x_it, x_ret, x_drop, x_next, x_set, x_setF, x_asg, x_aug, x_for, x_comp, x_cat, x_dSub, x_dAdd, x_dAddI, x_dLt, x_dLe, x_dGt, x_dGe, x_dNeg, x_dNot, x_dTru, x_dEq, x_dNe, x_var0, x_varS, Option.bind_some, Option.map_some, List.map_cons, List.map_nil, List.length_cons, List.length_nil, List.replicate_succ, List.replicate_zero, List.cons_append, List.nil_append, List.set_cons_zero, List.set_cons_succ, Bool.not_true, Bool.not_false, Bool.false_eq_true, if_true, if_false, decide_true, decide_false, decide_eq_true_eq, at_int, at0, at1, at2, at3, cut2, gN, gT, gCo, gNl, wipeE, x_for_nil, x_for_cons, x_turn_nx, x_turn_ct, x_turn_bk, x_turn_rt, x_comp_nil, x_comp_cons, sz2, sz4, i_lt_int, i_lt_bl, i_lt_non, i_lt_lst, i_lt_tup, i_i_int, i_i_bl, i_b_int, i_b_bl, i_b_non, i_b_lst, i_b_tup, i_l_int, i_l_bl, i_l_non, i_l_lst, i_l_tup, i_t_int, i_t_lst, i_t_tup, i_d_int, i_d_bl, i_d_non, i_d_lst, i_d_tup, i_ltd_int, i_ltd_bl, i_ltd_non, l_lst, l_tup, t_lst, t_tup, a_lst, b_nil, b_cons, cut_lst, cut_tup, x_dEqb, x_dNeb, x_dEqn, x_zip, x_range1, x_range2, Int.cast_ofNat_Int, Nat.zero_add, List.all_cons, List.all_nil, id, Bool.and_true, Bool.true_and, Bool.and_false, Bool.false_and, Bool.or_true, Bool.true_or, Bool.or_false, Bool.false_or, Nat.reduceAdd, Nat.reduceSub, Int.reduceEq, Int.reduceLT, Int.reduceLE, Int.reduceNeg, szl0, szl1, szl2, szl3, szl4, szl5, szl6, szl7, szl8, szl9, szl10, x_extend, x_append, x_borT, x_frz, x_idxO, List.getElem?_cons_zero, List.getElem?_cons_succ, x_notIn, x_isIn, rg_m1, rg_m2, rg_2, rg_3, rg_5, x_abs, x_int, x_rep2, Int.reduceAdd, Int.reduceSub, Int.reduceToNat, and_self, ram3, rbm3, ram2, rbm2, ram1, rbm1, ra0, rb0, ra1, rb1, ra2, rb2, ra3, rb3, ra4, rb4, ra5, rb5, ra6, rb6, ra7, rb7, ra8, rb8, ra9, rb9, ra10, rb10, ra11, rb11, ra12, rb12, ra13, rb13, ra20, rb20, ra24, rb24, ix0_q, ix1_q, n_non, n_int, nn_non, nn_int, oD, loB, hiB, k]
            | some c => simp only [x_def, startE, x_seq, x_nx, x_rt, x_bk, x_ct, x_bind, x_pure, x_c, x_nil, x_cons, x_tup, x_lst, x_op2, x_op1, x_tru, x_notT, x_ite, x_ifS, x_andT, x_orT, x_and, x_or, x_chain, x_bi, x_biF, x_call, x_perm, x_it, x_ret, x_drop, x_next, x_set, x_setF, x_asg, x_aug, x_for, x_comp, x_cat, x_dSub, x_dAdd, x_dAddI, x_dLt, x_dLe, x_dGt, x_dGe, x_dNeg, x_dNot, x_dTru, x_dEq, x_dNe, x_var0, x_varS, Option.bind_some, Option.map_some, List.map_cons, List.map_nil, List.length_cons, List.length_nil, List.replicate_succ, List.replicate_zero, List.cons_append, List.nil_append, List.set_cons_zero, List.set_cons_succ, Bool.not_true, Bool.not_false, Bool.false_eq_true, if_true, if_false, decide_true, decide_false, decide_eq_true_eq, at_int, at0, at1, at2, at3, cut2, gN, gT, gCo, gNl, wipeE, x_for_nil, x_for_cons, x_turn_nx, x_turn_ct, x_turn_bk, x_turn_rt, x_comp_nil, x_comp_cons, sz2, sz4, i_lt_int, i_lt_bl, i_lt_non, i_lt_lst, i_lt_tup, i_i_int, i_i_bl, i_b_int, i_b_bl, i_b_non, i_b_lst, i_b_tup, i_l_int, i_l_bl, i_l_non, i_l_lst, i_l_tup, i_t_int, i_t_lst, i_t_tup, i_d_int, i_d_bl, i_d_non, i_d_lst, i_d_tup, i_ltd_int, i_ltd_bl, i_ltd_non, l_lst, l_tup, t_lst, t_tup, a_lst, b_nil, b_cons, cut_lst, cut_tup, x_dEqb, x_dNeb, x_dEqn, x_zip, x_range1, x_range2, Int.cast_ofNat_Int, Nat.zero_add, List.all_cons, List.all_nil, id, Bool.and_true, Bool.true_and, Bool.and_false, Bool.false_and, Bool.or_true, Bool.true_or, Bool.or_false, Bool.false_or, Nat.reduceAdd, Nat.reduceSub, Int.reduceEq, Int.reduceLT, Int.reduceLE, Int.reduceNeg, szl0, szl1, szl2, szl3, szl4, szl5, szl6, szl7, szl8, szl9, szl10, x_extend, x_append, x_borT, x_frz, x_idxO, List.getElem?_cons_zero, List.getElem?_cons_succ, x_notIn, x_isIn, rg_m1, rg_m2, rg_2, rg_3, rg_5, x_abs, x_int, x_rep2, Int.reduceAdd, Int.reduceSub, Int.reduceToNat, and_self, ram3, rbm3, ram2, rbm2, ram1, rbm1, ra0, rb0, ra1, rb1, ra2, rb2, ra3, rb3, ra4, rb4, ra5, rb5, ra6, rb6, ra7, rb7, ra8, rb8, ra9, rb9, ra10, rb10, ra11, rb11, ra12, rb12, ra13, rb13, ra20, rb20, ra24, rb24, ix0_q, ix1_q, n_non, n_int, nn_non, nn_int, oD, loB, hiB, k]
theorem Vd.pos {l h : Option Int} {m r : Int} (v : Vd (some (l, h, m, r))) : 0 ≤ m := by cases v <;> omega
theorem v_within {a b : ST} (va : Vd a) (vb : Vd b) (t u : Bool) (S : Strm) : F_strip_within [sL t a, sL u b] S = some (.bl (wi a b), S) := by
  have e1 := fun S => v_check va t S
  have e2 := fun S => v_check vb u S
  have e3 : ∀ S, F_lies_within [sL t a, sL u b] S = some (.bl (wi a b), S) := by
    intro S
    cases a with
    | none => simp only [F_lies_within, m_lies_within, sL, wi, x_def, startE, x_seq, x_nx, x_rt, x_bk, x_ct, x_bind, x_pure, x_c, x_nil, x_cons, x_tup, x_lst, x_op2, x_op1, x_tru, x_notT, x_ite, x_ifS, x_andT, x_orT, x_and, x_or, x_chain, x_bi, x_biF, x_call, x_perm, x_it, x_ret, x_drop, x_next, x_set, x_setF, x_asg, x_aug, x_for, x_comp, x_cat, x_dSub, x_dAdd, x_dAddI, x_dLt, x_dLe, x_dGt, x_dGe, x_dNeg, x_dNot, x_dTru, x_dEq, x_dNe, x_var0, x_varS, Option.bind_some, Option.map_some, List.map_cons, List.map_nil, List.length_cons, List.length_nil, List.replicate_succ, List.replicate_zero, List.cons_append, List.nil_append, List.set_cons_zero, List.set_cons_succ, Bool.not_true, Bool.not_false, Bool.false_eq_true, if_true, if_false, decide_true, decide_false, decide_eq_true_eq, dIsN, dNotN, dIdx, dItems, at_int, at0, at1, at2, at3, cut2, gN, gT, gCo, gNl, wipeE, x_for_nil, x_for_cons, x_turn_nx, x_turn_ct, x_turn_bk, x_turn_rt, x_comp_nil, x_comp_cons, sz2, sz4, i_lt_int, i_lt_bl, i_lt_non, i_lt_lst, i_lt_tup, i_i_int, i_i_bl, i_b_int, i_b_bl, i_b_non, i_b_lst, i_b_tup, i_l_int, i_l_bl, i_l_non, i_l_lst, i_l_tup, i_t_int, i_t_lst, i_t_tup, i_d_int, i_d_bl, i_d_non, i_d_lst, i_d_tup, i_ltd_int, i_ltd_bl, i_ltd_non, l_lst, l_tup, t_lst, t_tup, a_lst, b_nil, b_cons, cut_lst, cut_tup, x_dEqb, x_dNeb, x_dEqn, x_zip, x_range1, x_range2, Int.cast_ofNat_Int, Nat.zero_add, List.all_cons, List.all_nil, id, Bool.and_true, Bool.true_and, Bool.and_false, Bool.false_and, Bool.or_true, Bool.true_or, Bool.or_false, Bool.false_or, Nat.reduceAdd, Nat.reduceSub, Int.reduceEq, Int.reduceLT, Int.reduceLE, Int.reduceNeg, szl0, szl1, szl2, szl3, szl4, szl5, szl6, szl7, szl8, szl9, szl10, x_extend, x_append, x_borT, x_frz, x_idxO, List.getElem?_cons_zero, List.getElem?_cons_succ, x_notIn, x_isIn, rg_m1, rg_m2, rg_2, rg_3, rg_5, x_abs, x_int, x_rep2, Int.reduceAdd, Int.reduceSub, Int.reduceToNat, and_self, ram3, rbm3, ram2, rbm2, ram1, rbm1, ra0, rb0, ra1, rb1, ra2, rb2, ra3, rb3, ra4, rb4, ra5, rb5, ra6, rb6, ra7, rb7, ra8, rb8, ra9, rb9, ra10, rb10, ra11, rb11, ra12, rb12, ra13, rb13, ra20, rb20, ra24, rb24]
    | some q =>
      obtain ⟨l, h, m, r⟩ := q
      cases b with
      | none => cases t <;> simp only [F_lies_within, m_lies_within, sL, qD, wi, x_def, startE, x_seq, x_nx, x_rt, x_bk, x_ct, x_bind, x_pure, x_c, x_nil, x_cons, x_tup, x_lst, x_op2, x_op1, x_tru, x_notT, x_ite, x_ifS, x_andT, x_orT, x_and, x_or, x_chain, x_bi, x_biF, x_call, x_perm, x_it, x_ret, x_drop, x_next, x_set, x_setF, x_asg, x_aug, x_for, x_comp, x_cat, x_dSub, x_dAdd, x_dAddI, x_dLt, x_dLe, x_dGt, x_dGe, x_dNeg, x_dNot, x_dTru, x_dEq, x_dNe, x_var0, x_varS, Option.bind_some, Option.map_some, List.map_cons, List.map_nil, List.length_cons, List.length_nil, List.replicate_succ, List.replicate_zero, List.cons_append, List.nil_append, List.set_cons_zero, List.set_cons_succ, Bool.not_true, Bool.not_false, Bool.false_eq_true, if_true, if_false, decide_true, decide_false, decide_eq_true_eq, dIsN, dNotN, dIdx, dItems, at_int, at0, at1, at2, at3, cut2, gN, gT, gCo, gNl, wipeE, x_for_nil, x_for_cons, x_turn_nx, x_turn_ct, x_turn_bk, x_turn_rt, x_comp_nil, x_comp_cons, sz2, sz4, i_lt_int, i_lt_bl, i_lt_non, i_lt_lst, i_lt_tup, i_i_int, i_i_bl, i_b_int, i_b_bl, i_b_non, i_b_lst, i_b_tup, i_l_int, i_l_bl, i_l_non, i_l_lst, i_l_tup, i_t_int, i_t_lst, i_t_tup, i_d_int, i_d_bl, i_d_non, i_d_lst, i_d_tup, i_ltd_int, i_ltd_bl, i_ltd_non, l_lst, l_tup, t_lst, t_tup, a_lst, b_nil, b_cons, cut_lst, cut_tup, x_dEqb, x_dNeb, x_dEqn, x_zip, x_range1, x_range2, Int.cast_ofNat_Int, Nat.zero_add, List.all_cons, List.all_nil, id, Bool.and_true, Bool.true_and, Bool.and_false, Bool.false_and, Bool.or_true, Bool.true_or, Bool.or_false, Bool.false_or, Nat.reduceAdd, Nat.reduceSub, Int.reduceEq, Int.reduceLT, Int.reduceLE, Int.reduceNeg, szl0, szl1, szl2, szl3, szl4, szl5, szl6, szl7, szl8, szl9, szl10, x_extend, x_append, x_borT, x_frz, x_idxO, List.getElem?_cons_zero, List.getElem?_cons_succ, x_notIn, x_isIn, rg_m1, rg_m2, rg_2, rg_3, rg_5, x_abs, x_int, x_rep2, Int.reduceAdd, Int.reduceSub, Int.reduceToNat, and_self, ram3, rbm3, ram2, rbm2, ram1, rbm1, ra0, rb0, ra1, rb1, ra2, rb2, ra3, rb3, ra4, rb4, ra5, rb5, ra6, rb6, ra7, rb7, ra8, rb8, ra9, rb9, ra10, rb10, ra11, rb11, ra12, rb12, ra13, rb13, ra20, rb20, ra24, rb24]
      | some q' =>
        obtain ⟨l', h', m', r'⟩ := q'
        exact v_lies t u l h m r l' h' m' r' vb.pos S
  simp only [F_strip_within, m_strip_within, x_def, startE, x_seq, x_nx, x_rt, x_bk, x_ct, x_bind, x_pure, x_c, x_nil, x_cons, x_tup, x_lst, x_op2, x_op1, x_tru, x_notT, x_ite, x_ifS, x_andT, x_orT, x_and, x_or, x_chain, x_bi, x_biF, x_call, x_perm, x_it, x_ret, x_drop, x_next, x_set, x_setF, x_asg, x_aug, x_for, x_comp, x_cat, x_dSub, x_dAdd, x_dAddI, x_dLt, x_dLe, x_dGt, x_dGe, x_dNeg, x_dNot, x_dTru, x_dEq, x_dNe, x_var0, x_varS, Option.bind_some, Option.map_some, List.map_cons, List.map_nil, List.length_cons, List.length_nil, List.replicate_succ, List.replicate_zero, List.cons_append, List.nil_append, List.set_cons_zero, List.set_cons_succ, Bool.not_true, Bool.not_false, Bool.false_eq_true, if_true, if_false, decide_true, decide_false, decide_eq_true_eq, dIsN, dNotN, dIdx, dItems, at_int, at0, at1, at2, at3, cut2, gN, gT, gCo, gNl, wipeE, x_for_nil, x_for_cons, x_turn_nx, x_turn_ct, x_turn_bk, x_turn_rt, x_comp_nil, x_comp_cons, sz2, sz4, i_lt_int, i_lt_bl, i_lt_non, i_lt_lst, i_lt_tup, i_i_int, i_i_bl, i_b_int, i_b_bl, i_b_non, i_b_lst, i_b_tup, i_l_int, i_l_bl, i_l_non, i_l_lst, i_l_tup, i_t_int, i_t_lst, i_t_tup, i_d_int, i_d_bl, i_d_non, i_d_lst, i_d_tup, i_ltd_int, i_ltd_bl, i_ltd_non, l_lst, l_tup, t_lst, t_tup, a_lst, b_nil, b_cons, cut_lst, cut_tup, x_dEqb, x_dNeb, x_dEqn, x_zip, x_range1, x_range2, Int.cast_ofNat_Int, Nat.zero_add, List.all_cons, List.all_nil, id, Bool.and_true, Bool.true_and, Bool.and_false, Bool.false_and, Bool.or_true, Bool.true_or, Bool.or_false, Bool.false_or, Nat.reduceAdd, Nat.reduceSub, Int.reduceEq, Int.reduceLT, Int.reduceLE, Int.reduceNeg, szl0, szl1, szl2, szl3, szl4, szl5, szl6, szl7, szl8, szl9, szl10, x_extend, x_append, x_borT, x_frz, x_idxO, List.getElem?_cons_zero, List.getElem?_cons_succ, x_notIn, x_isIn, rg_m1, rg_m2, rg_2, rg_3, rg_5, x_abs, x_int, x_rep2, Int.reduceAdd, Int.reduceSub, Int.reduceToNat, and_self, ram3, rbm3, ram2, rbm2, ram1, rbm1, ra0, rb0, ra1, rb1, ra2, rb2, ra3, rb3, ra4, rb4, ra5, rb5, ra6, rb6, ra7, rb7, ra8, rb8, ra9, rb9, ra10, rb10, ra11, rb11, ra12, rb12, ra13, rb13, ra20, rb20, ra24, rb24, e1, e2, e3]
/-- what is in a strip, as a row -/
def inP (l h : Option Int) (m r n : Int) : Prop := (∀ a, l = some a → a ≤ n) ∧ (∀ b, h = some b → n ≤ b) ∧ (if m = 0 then n = r else n % m = r)
theorem inB_iff (l h : Option Int) (m r n : Int) : inB (some (l, h, m, r)) n = true ↔ inP l h m r n := by
  unfold inB inP
  cases l <;> cases h <;> by_cases h0 : m = 0 <;> simp [h0, and_assoc]
theorem mem_low {a : Int} {h : Option Int} {m r : Int} (v : Vd (some (some a, h, m, r))) : a ∈ cand1 (some (some a, h, m, r)) ∧ inP (some a) h m r a := by
  refine ⟨by simp [cand1, beg], ?_⟩
  cases v with
  | one => exact ⟨fun _ e => by cases e; omega, fun _ e => by cases e; omega, by simp⟩
  | lo hm h0 h1 ha => exact ⟨fun _ e => by cases e; omega, nofun, by rw [if_neg (by omega)]; exact ha⟩
  | both hm h0 h1 ha hb hab => exact ⟨fun _ e => by cases e; omega, fun _ e => by cases e; omega, by rw [if_neg (by omega)]; exact ha⟩
theorem mem_high {b : Int} {l : Option Int} {m r : Int} (v : Vd (some (l, some b, m, r))) : b ∈ cand1 (some (l, some b, m, r)) ∧ inP l (some b) m r b := by
  refine ⟨by simp [cand1, beg], ?_⟩
  cases v with
  | one => exact ⟨fun _ e => by cases e; omega, fun _ e => by cases e; omega, by simp⟩
  | hi hm h0 h1 ha => exact ⟨nofun, fun _ e => by cases e; omega, by rw [if_neg (by omega)]; exact ha⟩
  | both hm h0 h1 ha hb hab => exact ⟨fun _ e => by cases e; omega, fun _ e => by cases e; omega, by rw [if_neg (by omega)]; exact hb⟩
theorem gap {a b m r : Int} (hm : 0 < m) (ha : a % m = r) (hb : b % m = r) (hab : a < b) : a + m ≤ b := by
  have h1 : (b - a) % m = 0 := Int.emod_eq_emod_iff_emod_sub_eq_zero.1 (by rw [hb, ha])
  have h2 := Int.emod_def (b - a) m
  have h3 : 0 < (b - a) / m := by
    rcases Int.lt_or_le 0 ((b - a) / m) with h | h
    · exact h
    · have : m * ((b - a) / m) ≤ 0 := Int.mul_nonpos_of_nonneg_of_nonpos (by omega) h
      omega
  have h4 : m * 1 ≤ m * ((b - a) / m) := Int.mul_le_mul_of_nonneg_left (by omega) (by omega)
  omega
/-- two neighbours of a strip that isn't one alone -/
theorem two_in {l h : Option Int} {m r : Int} (v : Vd (some (l, h, m, r))) (hm : m ≠ 0) : ∃ x, (x ∈ cand1 (some (l, h, m, r)) ∧ inP l h m r x) ∧ (x + m ∈ cand1 (some (l, h, m, r)) ∧ inP l h m r (x + m)) ∧ x % m = r := by
  cases v with
  | one => exact absurd rfl hm
  | all hm' h0 h1 => exact ⟨r, ⟨by simp [cand1, beg], nofun, nofun, by rw [if_neg hm, Int.emod_eq_of_lt h0 h1]⟩, ⟨by simp [cand1, beg], nofun, nofun, by rw [if_neg hm, Int.add_emod_right, Int.emod_eq_of_lt h0 h1]⟩, Int.emod_eq_of_lt h0 h1⟩
  | @lo a _ _ hm' h0 h1 ha => exact ⟨a, ⟨by simp [cand1, beg], fun _ e => by cases e; omega, nofun, by rw [if_neg hm, ha]⟩, ⟨by simp [cand1, beg], fun _ e => by cases e; omega, nofun, by rw [if_neg hm, Int.add_emod_right, ha]⟩, ha⟩
  | @hi b _ _ hm' h0 h1 hb => exact ⟨b - m, ⟨by simp [cand1, beg], nofun, fun _ e => by cases e; omega, by rw [if_neg hm, Int.sub_emod_right, hb]⟩, ⟨by simp [cand1, beg], nofun, fun _ e => by cases e; omega, by rw [if_neg hm, Int.sub_add_cancel, hb]⟩, by rw [Int.sub_emod_right, hb]⟩
  | @both a b _ _ hm' h0 h1 ha hb hab =>
    have g := gap hm' ha hb hab
    exact ⟨a, ⟨by simp [cand1, beg], fun _ e => by cases e; omega, fun _ e => by cases e; omega, by rw [if_neg hm, ha]⟩, ⟨by simp [cand1, beg], fun _ e => by cases e; omega, fun _ e => by cases e; omega, by rw [if_neg hm, Int.add_emod_right, ha]⟩, ha⟩
theorem Vd.rest {l h : Option Int} {m r : Int} (v : Vd (some (l, h, m, r))) (hm : m ≠ 0) : 0 < m ∧ 0 ≤ r ∧ r < m := by
  cases v with
  | one => exact absurd rfl hm
  | all a b c => exact ⟨a, b, c⟩
  | lo a b c => exact ⟨a, b, c⟩
  | hi a b c => exact ⟨a, b, c⟩
  | both a b c => exact ⟨a, b, c⟩
theorem Vd.alone {l h : Option Int} {r : Int} (v : Vd (some (l, h, 0, r))) : l = some r ∧ h = some r := by
  cases v with
  | one => exact ⟨rfl, rfl⟩
  | all a b c => omega
  | lo a b c => omega
  | hi a b c => omega
  | both a b c => omega
theorem key {l h : Option Int} {m r : Int} {l' h' : Option Int} {m' r' : Int} (va : Vd (some (l, h, m, r))) (vb : Vd (some (l', h', m', r'))) (hl : l' ≠ none → l ≠ none) (hh : h' ≠ none → h ≠ none) :
    (∀ n, n ∈ cand1 (some (l, h, m, r)) → inP l h m r n → inP l' h' m' r' n) ↔ rwB m r m' r' = true ∧ loB l l' = true ∧ hiB h h' = true := by
  constructor
  · intro H
    refine ⟨?_, ?_, ?_⟩
    · unfold rwB
      by_cases m0 : m = 0
      · subst m0
        obtain ⟨rfl, rfl⟩ := va.alone
        have := (H r (mem_low va).1 (mem_low va).2).2.2
        by_cases m0' : m' = 0
        · subst m0'
          simp only [if_true] at this
          simp [this]
        · rw [if_neg m0'] at this
          rw [if_neg m0']
          have h2 := vb.rest m0'
          have : (r - r') % m' = 0 := Int.emod_eq_emod_iff_emod_sub_eq_zero.1 (by rw [this, Int.emod_eq_of_lt h2.2.1 h2.2.2])
          simp [this]
      · obtain ⟨x, ⟨c1, p1⟩, ⟨c2, p2⟩, e⟩ := two_in va m0
        have q1 := (H x c1 p1).2.2
        have q2 := (H (x + m) c2 p2).2.2
        by_cases m0' : m' = 0
        · subst m0'
          simp only [if_true] at q1 q2
          omega
        · rw [if_neg m0'] at q1 q2
          rw [if_neg m0']
          have h2 := vb.rest m0'
          have h3 : m % m' = 0 := by
            have := Int.emod_eq_emod_iff_emod_sub_eq_zero.1 (q2.trans q1.symm)
            rwa [show x + m - x = m by omega] at this
          have h4 : (r - r') % m' = 0 := by
            have e1 : (x - r') % m' = 0 := Int.emod_eq_emod_iff_emod_sub_eq_zero.1 (by rw [q1, Int.emod_eq_of_lt h2.2.1 h2.2.2])
            have e2 := Int.emod_def x m
            have d1 := Int.dvd_of_emod_eq_zero h3
            have d2 := Int.dvd_of_emod_eq_zero e1
            have d3 : m' ∣ m * (x / m) := Int.dvd_trans d1 (Int.dvd_mul_right _ _)
            apply Int.emod_eq_zero_of_dvd
            have : r - r' = (x - r') - m * (x / m) := by omega
            rw [this]
            exact Int.dvd_sub d2 d3
          simp [h3, h4]
    · cases l' with
      | none => cases l <;> rfl
      | some b =>
        cases l with
        | none => exact absurd rfl (hl nofun)
        | some a => exact decide_eq_true ((H a (mem_low va).1 (mem_low va).2).1 b rfl)
    · cases h' with
      | none => cases h <;> rfl
      | some b =>
        cases h with
        | none => exact absurd rfl (hh nofun)
        | some a => exact decide_eq_true ((H a (mem_high va).1 (mem_high va).2).2.1 b rfl)
  · rintro ⟨H1, H2, H3⟩ n _ ⟨n1, n2, n3⟩
    refine ⟨?_, ?_, ?_⟩
    · rintro b rfl
      cases l with
      | none => exact absurd rfl (hl nofun)
      | some a =>
        have := n1 a rfl
        have : b ≤ a := of_decide_eq_true H2
        omega
    · rintro b rfl
      cases h with
      | none => exact absurd rfl (hh nofun)
      | some a =>
        have := n2 a rfl
        have : a ≤ b := of_decide_eq_true H3
        omega
    · unfold rwB at H1
      by_cases m0' : m' = 0
      · subst m0'
        simp only [if_true, Bool.and_eq_true, decide_eq_true_eq] at H1
        obtain ⟨rfl, rfl⟩ := H1
        simp only [if_true] at n3 ⊢
        exact n3
      · rw [if_neg m0'] at H1 ⊢
        simp only [Bool.and_eq_true, decide_eq_true_eq] at H1
        have h2 := vb.rest m0'
        have d1 := Int.dvd_of_emod_eq_zero H1.1
        have d2 := Int.dvd_of_emod_eq_zero H1.2
        have d3 : m' ∣ n - r := by
          by_cases m0 : m = 0
          · rw [if_pos m0] at n3
            exact ⟨0, by omega⟩
          · rw [if_neg m0] at n3
            have e2 := Int.emod_def n m
            have : n - r = m * (n / m) := by omega
            rw [this]
            exact Int.dvd_trans d1 (Int.dvd_mul_right _ _)
        have d4 : m' ∣ n - r' := by
          have : n - r' = (n - r) + (r - r') := by omega
          rw [this]
          exact Int.dvd_add d3 d2
        rw [Int.emod_eq_emod_iff_emod_sub_eq_zero.2 (Int.emod_eq_zero_of_dvd d4), Int.emod_eq_of_lt h2.2.1 h2.2.2]
end L2.Ev.K10
namespace L2.Ev.K10
open PySem PySem.Spec PyProof.Rows
theorem oD_none : oD none = .non := rfl
theorem oD_some (i : Int) : oD (some i) = .int i := rfl
theorem in_map (b : ST) : ∀ ns : List Int, (ns.map D.int).map (fun d => D.bl (isIn b d)) = (ns.map (inB b)).map D.bl
  | [] => rfl
  | n :: ns => by
    have := in_map b ns
    simp only [List.map_cons] at this ⊢
    rw [this]; rfl
theorem bools_bl : ∀ bs : List Bool, dBools (bs.map D.bl) = some bs
  | [] => rfl
  | b :: bs => by simp only [List.map_cons, b_cons, bools_bl bs, Option.map_some]
theorem in_comp {b : ST} (hv : Vd b) (hb : Bs 900 b) (x0 : Option Ent) (ns : List Int) (hc : ∀ n ∈ ns, n.natAbs < 2 ^ 900) (S : Strm) :
    compL (gN 2) (mPure (some true)) (mCall F__law_strip_in (mCons (mVar 1) (mCons (mVar 2) mNil))) [x0, some (.sh (sD b)), none] (ns.map D.int) S = some ((ns.map (inB b)).map D.bl, S) := by
  rw [← in_map]
  refine (compL_pure (fun _ => true) (fun d => .bl (isIn b d)) (fun d => ∃ n, n ∈ ns ∧ d = .int n) (fun d S hd => ?_) _ _ (fun d hd => ?_)).trans ?_
  · obtain ⟨n, hn, rfl⟩ := hd
    refine ⟨[x0, some (.sh (sD b)), some (.sh (.int n))], rfl, rfl, fun _ => ?_⟩
    simp only [x_def, startE, x_seq, x_nx, x_rt, x_bk, x_ct, x_bind, x_pure, x_c, x_nil, x_cons, x_tup, x_lst, x_op2, x_op1, x_tru, x_notT, x_ite, x_ifS, x_andT, x_orT, x_and, x_or, x_chain, x_bi, x_biF, x_call, x_perm, x_it, x_ret, x_drop, x_next, x_set, x_setF, x_asg, x_aug, x_for, x_comp, x_cat, x_dSub, x_dAdd, x_dAddI, x_dLt, x_dLe, x_dGt, x_dGe, x_dNeg, x_dNot, x_dTru, x_dEq, x_dNe, x_var0, x_varS, Option.bind_some, Option.map_some, List.map_cons, List.map_nil, List.length_cons, List.length_nil, List.replicate_succ, List.replicate_zero, List.cons_append, List.nil_append, List.set_cons_zero, List.set_cons_succ, Bool.not_true, Bool.not_false, Bool.false_eq_true, if_true, if_false, decide_true, decide_false, decide_eq_true_eq, dIsN, dNotN, dIdx, dItems, at_int, at0, at1, at2, at3, cut2, gN, gT, gCo, gNl, wipeE, x_for_nil, x_for_cons, x_turn_nx, x_turn_ct, x_turn_bk, x_turn_rt, x_comp_nil, x_comp_cons, sz2, sz4, i_lt_int, i_lt_bl, i_lt_non, i_lt_lst, i_lt_tup, i_i_int, i_i_bl, i_b_int, i_b_bl, i_b_non, i_b_lst, i_b_tup, i_l_int, i_l_bl, i_l_non, i_l_lst, i_l_tup, i_t_int, i_t_lst, i_t_tup, i_d_int, i_d_bl, i_d_non, i_d_lst, i_d_tup, i_ltd_int, i_ltd_bl, i_ltd_non, l_lst, l_tup, t_lst, t_tup, a_lst, b_nil, b_cons, cut_lst, cut_tup, x_dEqb, x_dNeb, x_dEqn, x_zip, x_range1, x_range2, Int.cast_ofNat_Int, Nat.zero_add, List.all_cons, List.all_nil, id, Bool.and_true, Bool.true_and, Bool.and_false, Bool.false_and, Bool.or_true, Bool.true_or, Bool.or_false, Bool.false_or, Nat.reduceAdd, Nat.reduceSub, Int.reduceEq, Int.reduceLT, Int.reduceLE, Int.reduceNeg, szl0, szl1, szl2, szl3, szl4, szl5, szl6, szl7, szl8, szl9, szl10, x_extend, x_append, x_borT, x_frz, x_idxO, List.getElem?_cons_zero, List.getElem?_cons_succ, x_notIn, x_isIn, rg_m1, rg_m2, rg_2, rg_3, rg_5, x_abs, x_int, x_rep2, Int.reduceAdd, Int.reduceSub, Int.reduceToNat, and_self, ram3, rbm3, ram2, rbm2, ram1, rbm1, ra0, rb0, ra1, rb1, ra2, rb2, ra3, rb3, ra4, rb4, ra5, rb5, ra6, rb6, ra7, rb7, ra8, rb8, ra9, rb9, ra10, rb10, ra11, rb11, ra12, rb12, ra13, rb13, ra20, rb20, ra24, rb24, v_in hv hb (hc n hn), isIn]
  · obtain ⟨n, hn, rfl⟩ := List.mem_map.1 hd
    exact ⟨n, hn, rfl⟩
  · rw [List.filter_eq_self.2 (fun _ _ => rfl)]
theorem inside_val {l h : Option Int} {m r : Int} {l' h' : Option Int} {m' r' : Int} (va : Vd (some (l, h, m, r))) (vb : Vd (some (l', h', m', r'))) (hl : l' ≠ none → l ≠ none) (hh : h' ≠ none → h ≠ none) (ns : List Int)
    (e : ∀ n, n ∈ ns ↔ n ∈ (cand1 (some (l, h, m, r))).filter (inB (some (l, h, m, r)))) : (ns.map (inB (some (l', h', m', r')))).all id = wi (some (l, h, m, r)) (some (l', h', m', r')) := by
  rw [Bool.eq_iff_iff]
  simp only [wi, Bool.and_eq_true]
  rw [← key va vb hl hh, List.all_eq_true]
  constructor
  · intro H n hn hp
    have h1 : n ∈ ns := (e n).2 (List.mem_filter.2 ⟨hn, (inB_iff l h m r n).2 hp⟩)
    exact (inB_iff l' h' m' r' n).1 (H _ (List.mem_map.2 ⟨n, h1, rfl⟩))
  · intro H x hx
    obtain ⟨n, hn, rfl⟩ := List.mem_map.1 hx
    have h1 := List.mem_filter.1 ((e n).1 hn)
    exact (inB_iff l' h' m' r' n).2 (H n h1.1 ((inB_iff l h m r n).1 h1.2))
theorem wi_lo {h : Option Int} {m r a : Int} {h' : Option Int} {m' r' : Int} : wi (some (none, h, m, r)) (some (some a, h', m', r')) = false := by simp [wi, loB]
theorem wi_hi {l : Option Int} {m r a : Int} {l' : Option Int} {m' r' : Int} : wi (some (l, none, m, r)) (some (l', some a, m', r')) = false := by simp [wi, hiB]
theorem v_inside {a b : ST} (va : Vd a) (vb : Vd b) (ba : Bs 890 a) (bb : Bs 890 b) (S : Strm) : F__law_strip_inside [sD a, sD b] S = some (.bl (wi a b), S) := by
  obtain ⟨ns, es, en, bn, ln⟩ := v_some1 va ba S
  have ec := fun x0 S => in_comp vb (bb.up (by decide)) x0 ns bn S
  have o1 := ints_ok ns (by omega)
  cases a with
  | none => cases b <;> simp only [F__law_strip_inside, m__law_strip_inside, sD, sL, qD, wi, x_def, startE, x_seq, x_nx, x_rt, x_bk, x_ct, x_bind, x_pure, x_c, x_nil, x_cons, x_tup, x_lst, x_op2, x_op1, x_tru, x_notT, x_ite, x_ifS, x_andT, x_orT, x_and, x_or, x_chain, x_bi, x_biF, x_call, x_perm, x_it, x_ret, x_drop, x_next, x_set, x_setF, x_asg, x_aug, x_for, x_comp, x_cat, x_dSub, x_dAdd, x_dAddI, x_dLt, x_dLe, x_dGt, x_dGe, x_dNeg, x_dNot, x_dTru, x_dEq, x_dNe, x_var0, x_varS, Option.bind_some, Option.map_some, List.map_cons, List.map_nil, List.length_cons, List.length_nil, List.replicate_succ, List.replicate_zero, List.cons_append, List.nil_append, List.set_cons_zero, List.set_cons_succ, Bool.not_true, Bool.not_false, Bool.false_eq_true, if_true, if_false, decide_true, decide_false, decide_eq_true_eq, dIsN, dNotN, dIdx, dItems, at_int, at0, at1, at2, at3, cut2, gN, gT, gCo, gNl, wipeE, x_for_nil, x_for_cons, x_turn_nx, x_turn_ct, x_turn_bk, x_turn_rt, x_comp_nil, x_comp_cons, sz2, sz4, i_lt_int, i_lt_bl, i_lt_non, i_lt_lst, i_lt_tup, i_i_int, i_i_bl, i_b_int, i_b_bl, i_b_non, i_b_lst, i_b_tup, i_l_int, i_l_bl, i_l_non, i_l_lst, i_l_tup, i_t_int, i_t_lst, i_t_tup, i_d_int, i_d_bl, i_d_non, i_d_lst, i_d_tup, i_ltd_int, i_ltd_bl, i_ltd_non, l_lst, l_tup, t_lst, t_tup, a_lst, b_nil, b_cons, cut_lst, cut_tup, x_dEqb, x_dNeb, x_dEqn, x_zip, x_range1, x_range2, Int.cast_ofNat_Int, Nat.zero_add, List.all_cons, List.all_nil, id, Bool.and_true, Bool.true_and, Bool.and_false, Bool.false_and, Bool.or_true, Bool.true_or, Bool.or_false, Bool.false_or, Nat.reduceAdd, Nat.reduceSub, Int.reduceEq, Int.reduceLT, Int.reduceLE, Int.reduceNeg, szl0, szl1, szl2, szl3, szl4, szl5, szl6, szl7, szl8, szl9, szl10, x_extend, x_append, x_borT, x_frz, x_idxO, List.getElem?_cons_zero, List.getElem?_cons_succ, x_notIn, x_isIn, rg_m1, rg_m2, rg_2, rg_3, rg_5, x_abs, x_int, x_rep2, Int.reduceAdd, Int.reduceSub, Int.reduceToNat, and_self, ram3, rbm3, ram2, rbm2, ram1, rbm1, ra0, rb0, ra1, rb1, ra2, rb2, ra3, rb3, ra4, rb4, ra5, rb5, ra6, rb6, ra7, rb7, ra8, rb8, ra9, rb9, ra10, rb10, ra11, rb11, ra12, rb12, ra13, rb13, ra20, rb20, ra24, rb24]
  | some q =>
    obtain ⟨l, h, m, r⟩ := q
    cases b with
    | none => simp only [F__law_strip_inside, m__law_strip_inside, sD, sL, qD, wi, x_def, startE, x_seq, x_nx, x_rt, x_bk, x_ct, x_bind, x_pure, x_c, x_nil, x_cons, x_tup, x_lst, x_op2, x_op1, x_tru, x_notT, x_ite, x_ifS, x_andT, x_orT, x_and, x_or, x_chain, x_bi, x_biF, x_call, x_perm, x_it, x_ret, x_drop, x_next, x_set, x_setF, x_asg, x_aug, x_for, x_comp, x_cat, x_dSub, x_dAdd, x_dAddI, x_dLt, x_dLe, x_dGt, x_dGe, x_dNeg, x_dNot, x_dTru, x_dEq, x_dNe, x_var0, x_varS, Option.bind_some, Option.map_some, List.map_cons, List.map_nil, List.length_cons, List.length_nil, List.replicate_succ, List.replicate_zero, List.cons_append, List.nil_append, List.set_cons_zero, List.set_cons_succ, Bool.not_true, Bool.not_false, Bool.false_eq_true, if_true, if_false, decide_true, decide_false, decide_eq_true_eq, dIsN, dNotN, dIdx, dItems, at_int, at0, at1, at2, at3, cut2, gN, gT, gCo, gNl, wipeE, x_for_nil, x_for_cons, x_turn_nx, x_turn_ct, x_turn_bk, x_turn_rt, x_comp_nil, x_comp_cons, sz2, sz4, i_lt_int, i_lt_bl, i_lt_non, i_lt_lst, i_lt_tup, i_i_int, i_i_bl, i_b_int, i_b_bl, i_b_non, i_b_lst, i_b_tup, i_l_int, i_l_bl, i_l_non, i_l_lst, i_l_tup, i_t_int, i_t_lst, i_t_tup, i_d_int, i_d_bl, i_d_non, i_d_lst, i_d_tup, i_ltd_int, i_ltd_bl, i_ltd_non, l_lst, l_tup, t_lst, t_tup, a_lst, b_nil, b_cons, cut_lst, cut_tup, x_dEqb, x_dNeb, x_dEqn, x_zip, x_range1, x_range2, Int.cast_ofNat_Int, Nat.zero_add, List.all_cons, List.all_nil, id, Bool.and_true, Bool.true_and, Bool.and_false, Bool.false_and, Bool.or_true, Bool.true_or, Bool.or_false, Bool.false_or, Nat.reduceAdd, Nat.reduceSub, Int.reduceEq, Int.reduceLT, Int.reduceLE, Int.reduceNeg, szl0, szl1, szl2, szl3, szl4, szl5, szl6, szl7, szl8, szl9, szl10, x_extend, x_append, x_borT, x_frz, x_idxO, List.getElem?_cons_zero, List.getElem?_cons_succ, x_notIn, x_isIn, rg_m1, rg_m2, rg_2, rg_3, rg_5, x_abs, x_int, x_rep2, Int.reduceAdd, Int.reduceSub, Int.reduceToNat, and_self, ram3, rbm3, ram2, rbm2, ram1, rbm1, ra0, rb0, ra1, rb1, ra2, rb2, ra3, rb3, ra4, rb4, ra5, rb5, ra6, rb6, ra7, rb7, ra8, rb8, ra9, rb9, ra10, rb10, ra11, rb11, ra12, rb12, ra13, rb13, ra20, rb20, ra24, rb24]
    | some q' =>
      obtain ⟨l', h', m', r'⟩ := q'
      have ev := fun hl hh => inside_val va vb hl hh ns en
      simp only [sD, sL, qD, Bool.false_eq_true, if_false] at es ec
      cases l' with
      | none =>
        cases h' with
        | none =>
          have e2 := ev (fun k => absurd rfl k) (fun k => absurd rfl k)
          simp only [F__law_strip_inside, m__law_strip_inside, sD, sL, qD, oD_none, oD_some, x_def, startE, x_seq, x_nx, x_rt, x_bk, x_ct, x_bind, x_pure, x_c, x_nil, x_cons, x_tup, x_lst, x_op2, x_op1, x_tru, x_notT, x_ite, x_ifS, x_andT, x_orT, x_and, x_or, x_chain, x_bi, x_biF, x_call, x_perm, x_it, x_ret, x_drop, x_next, x_set, x_setF, x_asg, x_aug, x_for, x_comp, x_cat, x_dSub, x_dAdd, x_dAddI, x_dLt, x_dLe, x_dGt, x_dGe, x_dNeg, x_dNot, x_dTru, x_dEq, x_dNe, x_var0, x_varS, Option.bind_some, Option.map_some, List.map_cons, List.map_nil, List.length_cons, List.length_nil, List.replicate_succ, List.replicate_zero, List.cons_append, List.nil_append, List.set_cons_zero, List.set_cons_succ, Bool.not_true, Bool.not_false, Bool.false_eq_true, if_true, if_false, decide_true, decide_false, decide_eq_true_eq, dIsN, dNotN, dIdx, dItems, at_int, at0, at1, at2, at3, cut2, gN, gT, gCo, gNl, wipeE, x_for_nil, x_for_cons, x_turn_nx, x_turn_ct, x_turn_bk, x_turn_rt, x_comp_nil, x_comp_cons, sz2, sz4, i_lt_int, i_lt_bl, i_lt_non, i_lt_lst, i_lt_tup, i_i_int, i_i_bl, i_b_int, i_b_bl, i_b_non, i_b_lst, i_b_tup, i_l_int, i_l_bl, i_l_non, i_l_lst, i_l_tup, i_t_int, i_t_lst, i_t_tup, i_d_int, i_d_bl, i_d_non, i_d_lst, i_d_tup, i_ltd_int, i_ltd_bl, i_ltd_non, l_lst, l_tup, t_lst, t_tup, a_lst, b_nil, b_cons, cut_lst, cut_tup, x_dEqb, x_dNeb, x_dEqn, x_zip, x_range1, x_range2, Int.cast_ofNat_Int, Nat.zero_add, List.all_cons, List.all_nil, id, Bool.and_true, Bool.true_and, Bool.and_false, Bool.false_and, Bool.or_true, Bool.true_or, Bool.or_false, Bool.false_or, Nat.reduceAdd, Nat.reduceSub, Int.reduceEq, Int.reduceLT, Int.reduceLE, Int.reduceNeg, szl0, szl1, szl2, szl3, szl4, szl5, szl6, szl7, szl8, szl9, szl10, x_extend, x_append, x_borT, x_frz, x_idxO, List.getElem?_cons_zero, List.getElem?_cons_succ, x_notIn, x_isIn, rg_m1, rg_m2, rg_2, rg_3, rg_5, x_abs, x_int, x_rep2, Int.reduceAdd, Int.reduceSub, Int.reduceToNat, and_self, ram3, rbm3, ram2, rbm2, ram1, rbm1, ra0, rb0, ra1, rb1, ra2, rb2, ra3, rb3, ra4, rb4, ra5, rb5, ra6, rb6, ra7, rb7, ra8, rb8, ra9, rb9, ra10, rb10, ra11, rb11, ra12, rb12, ra13, rb13, ra20, rb20, ra24, rb24] at es ec ⊢
          cases l <;> cases h <;> (try simp only [oD, x_def, startE, x_seq, x_nx, x_rt, x_bk, x_ct, x_bind, x_pure, x_c, x_nil, x_cons, x_tup, x_lst, x_op2, x_op1, x_tru, x_notT, x_ite, x_ifS, x_andT, x_orT, x_and, x_or, x_chain, x_bi, x_biF, x_call, x_perm, x_it, x_ret, x_drop, x_next, x_set, x_setF, x_asg, x_aug, x_for, x_comp, x_cat, x_dSub, x_dAdd, x_dAddI, x_dLt, x_dLe, x_dGt, x_dGe, x_dNeg, x_dNot, x_dTru, x_dEq, x_dNe, x_var0, x_varS, Option.bind_some, Option.map_some, List.map_cons, List.map_nil, List.length_cons, List.length_nil, List.replicate_succ, List.replicate_zero, List.cons_append, List.nil_append, List.set_cons_zero, List.set_cons_succ, Bool.not_true, Bool.not_false, Bool.false_eq_true, if_true, if_false, decide_true, decide_false, decide_eq_true_eq, dIsN, dNotN, dIdx, dItems, at_int, at0, at1, at2, at3, cut2, gN, gT, gCo, gNl, wipeE, x_for_nil, x_for_cons, x_turn_nx, x_turn_ct, x_turn_bk, x_turn_rt, x_comp_nil, x_comp_cons, sz2, sz4, i_lt_int, i_lt_bl, i_lt_non, i_lt_lst, i_lt_tup, i_i_int, i_i_bl, i_b_int, i_b_bl, i_b_non, i_b_lst, i_b_tup, i_l_int, i_l_bl, i_l_non, i_l_lst, i_l_tup, i_t_int, i_t_lst, i_t_tup, i_d_int, i_d_bl, i_d_non, i_d_lst, i_d_tup, i_ltd_int, i_ltd_bl, i_ltd_non, l_lst, l_tup, t_lst, t_tup, a_lst, b_nil, b_cons, cut_lst, cut_tup, x_dEqb, x_dNeb, x_dEqn, x_zip, x_range1, x_range2, Int.cast_ofNat_Int, Nat.zero_add, List.all_cons, List.all_nil, id, Bool.and_true, Bool.true_and, Bool.and_false, Bool.false_and, Bool.or_true, Bool.true_or, Bool.or_false, Bool.false_or, Nat.reduceAdd, Nat.reduceSub, Int.reduceEq, Int.reduceLT, Int.reduceLE, Int.reduceNeg, szl0, szl1, szl2, szl3, szl4, szl5, szl6, szl7, szl8, szl9, szl10, x_extend, x_append, x_borT, x_frz, x_idxO, List.getElem?_cons_zero, List.getElem?_cons_succ, x_notIn, x_isIn, rg_m1, rg_m2, rg_2, rg_3, rg_5, x_abs, x_int, x_rep2, Int.reduceAdd, Int.reduceSub, Int.reduceToNat, and_self, ram3, rbm3, ram2, rbm2, ram1, rbm1, ra0, rb0, ra1, rb1, ra2, rb2, ra3, rb3, ra4, rb4, ra5, rb5, ra6, rb6, ra7, rb7, ra8, rb8, ra9, rb9, ra10, rb10, ra11, rb11, ra12, rb12, ra13, rb13, ra20, rb20, ra24, rb24] at es ⊢) <;> (try simp only [x_def, startE, x_seq, x_nx, x_rt, x_bk, x_ct, x_bind, x_pure, x_c, x_nil, x_cons, x_tup, x_lst, x_op2, x_op1, x_tru, x_notT, x_ite, x_ifS, x_andT, x_orT, x_and, x_or, x_chain, x_bi, x_biF, x_call, x_perm, x_it, x_ret, x_drop, x_next, x_set, x_setF, x_asg, x_aug, x_for, x_comp, x_cat, x_dSub, x_dAdd, x_dAddI, x_dLt, x_dLe, x_dGt, x_dGe, x_dNeg, x_dNot, x_dTru, x_dEq, x_dNe, x_var0, x_varS, Option.bind_some, Option.map_some, List.map_cons, List.map_nil, List.length_cons, List.length_nil, List.replicate_succ, List.replicate_zero, List.cons_append, List.nil_append, List.set_cons_zero, List.set_cons_succ, Bool.not_true, Bool.not_false, Bool.false_eq_true, if_true, if_false, decide_true, decide_false, decide_eq_true_eq, dIsN, dNotN, dIdx, dItems, at_int, at0, at1, at2, at3, cut2, gN, gT, gCo, gNl, wipeE, x_for_nil, x_for_cons, x_turn_nx, x_turn_ct, x_turn_bk, x_turn_rt, x_comp_nil, x_comp_cons, sz2, sz4, i_lt_int, i_lt_bl, i_lt_non, i_lt_lst, i_lt_tup, i_i_int, i_i_bl, i_b_int, i_b_bl, i_b_non, i_b_lst, i_b_tup, i_l_int, i_l_bl, i_l_non, i_l_lst, i_l_tup, i_t_int, i_t_lst, i_t_tup, i_d_int, i_d_bl, i_d_non, i_d_lst, i_d_tup, i_ltd_int, i_ltd_bl, i_ltd_non, l_lst, l_tup, t_lst, t_tup, a_lst, b_nil, b_cons, cut_lst, cut_tup, x_dEqb, x_dNeb, x_dEqn, x_zip, x_range1, x_range2, Int.cast_ofNat_Int, Nat.zero_add, List.all_cons, List.all_nil, id, Bool.and_true, Bool.true_and, Bool.and_false, Bool.false_and, Bool.or_true, Bool.true_or, Bool.or_false, Bool.false_or, Nat.reduceAdd, Nat.reduceSub, Int.reduceEq, Int.reduceLT, Int.reduceLE, Int.reduceNeg, szl0, szl1, szl2, szl3, szl4, szl5, szl6, szl7, szl8, szl9, szl10, x_extend, x_append, x_borT, x_frz, x_idxO, List.getElem?_cons_zero, List.getElem?_cons_succ, x_notIn, x_isIn, rg_m1, rg_m2, rg_2, rg_3, rg_5, x_abs, x_int, x_rep2, Int.reduceAdd, Int.reduceSub, Int.reduceToNat, and_self, ram3, rbm3, ram2, rbm2, ram1, rbm1, ra0, rb0, ra1, rb1, ra2, rb2, ra3, rb3, ra4, rb4, ra5, rb5, ra6, rb6, ra7, rb7, ra8, rb8, ra9, rb9, ra10, rb10, ra11, rb11, ra12, rb12, ra13, rb13, ra20, rb20, ra24, rb24, es, ec, o1, bools_bl]) <;> exact congrArg (fun k => some (D.bl k, S)) e2
        | some b' =>
          cases h with
          | none =>
            rw [wi_hi]
            simp only [F__law_strip_inside, m__law_strip_inside, sD, sL, qD, oD, x_def, startE, x_seq, x_nx, x_rt, x_bk, x_ct, x_bind, x_pure, x_c, x_nil, x_cons, x_tup, x_lst, x_op2, x_op1, x_tru, x_notT, x_ite, x_ifS, x_andT, x_orT, x_and, x_or, x_chain, x_bi, x_biF, x_call, x_perm, x_it, x_ret, x_drop, x_next, x_set, x_setF, x_asg, x_aug, x_for, x_comp, x_cat, x_dSub, x_dAdd, x_dAddI, x_dLt, x_dLe, x_dGt, x_dGe, x_dNeg, x_dNot, x_dTru, x_dEq, x_dNe, x_var0, x_varS, Option.bind_some, Option.map_some, List.map_cons, List.map_nil, List.length_cons, List.length_nil, List.replicate_succ, List.replicate_zero, List.cons_append, List.nil_append, List.set_cons_zero, List.set_cons_succ, Bool.not_true, Bool.not_false, Bool.false_eq_true, if_true, if_false, decide_true, decide_false, decide_eq_true_eq, dIsN, dNotN, dIdx, dItems, at_int, at0, at1, at2, at3, cut2, gN, gT, gCo, gNl, wipeE, x_for_nil, x_for_cons, x_turn_nx, x_turn_ct, x_turn_bk, x_turn_rt, x_comp_nil, x_comp_cons, sz2, sz4, i_lt_int, i_lt_bl, i_lt_non, i_lt_lst, i_lt_tup, i_i_int, i_i_bl, i_b_int, i_b_bl, i_b_non, i_b_lst, i_b_tup, i_l_int, i_l_bl, i_l_non, i_l_lst, i_l_tup, i_t_int, i_t_lst, i_t_tup, i_d_int, i_d_bl, i_d_non, i_d_lst, i_d_tup, i_ltd_int, i_ltd_bl, i_ltd_non, l_lst, l_tup, t_lst, t_tup, a_lst, b_nil, b_cons, cut_lst, cut_tup, x_dEqb, x_dNeb, x_dEqn, x_zip, x_range1, x_range2, Int.cast_ofNat_Int, Nat.zero_add, List.all_cons, List.all_nil, id, Bool.and_true, Bool.true_and, Bool.and_false, Bool.false_and, Bool.or_true, Bool.true_or, Bool.or_false, Bool.false_or, Nat.reduceAdd, Nat.reduceSub, Int.reduceEq, Int.reduceLT, Int.reduceLE, Int.reduceNeg, szl0, szl1, szl2, szl3, szl4, szl5, szl6, szl7, szl8, szl9, szl10, x_extend, x_append, x_borT, x_frz, x_idxO, List.getElem?_cons_zero, List.getElem?_cons_succ, x_notIn, x_isIn, rg_m1, rg_m2, rg_2, rg_3, rg_5, x_abs, x_int, x_rep2, Int.reduceAdd, Int.reduceSub, Int.reduceToNat, and_self, ram3, rbm3, ram2, rbm2, ram1, rbm1, ra0, rb0, ra1, rb1, ra2, rb2, ra3, rb3, ra4, rb4, ra5, rb5, ra6, rb6, ra7, rb7, ra8, rb8, ra9, rb9, ra10, rb10, ra11, rb11, ra12, rb12, ra13, rb13, ra20, rb20, ra24, rb24] at es ec ⊢
          | some c =>
            have e2 := ev (fun k => absurd rfl k) (fun _ => nofun)
            simp only [F__law_strip_inside, m__law_strip_inside, sD, sL, qD, oD, x_def, startE, x_seq, x_nx, x_rt, x_bk, x_ct, x_bind, x_pure, x_c, x_nil, x_cons, x_tup, x_lst, x_op2, x_op1, x_tru, x_notT, x_ite, x_ifS, x_andT, x_orT, x_and, x_or, x_chain, x_bi, x_biF, x_call, x_perm, x_it, x_ret, x_drop, x_next, x_set, x_setF, x_asg, x_aug, x_for, x_comp, x_cat, x_dSub, x_dAdd, x_dAddI, x_dLt, x_dLe, x_dGt, x_dGe, x_dNeg, x_dNot, x_dTru, x_dEq, x_dNe, x_var0, x_varS, Option.bind_some, Option.map_some, List.map_cons, List.map_nil, List.length_cons, List.length_nil, List.replicate_succ, List.replicate_zero, List.cons_append, List.nil_append, List.set_cons_zero, List.set_cons_succ, Bool.not_true, Bool.not_false, Bool.false_eq_true, if_true, if_false, decide_true, decide_false, decide_eq_true_eq, dIsN, dNotN, dIdx, dItems, at_int, at0, at1, at2, at3, cut2, gN, gT, gCo, gNl, wipeE, x_for_nil, x_for_cons, x_turn_nx, x_turn_ct, x_turn_bk, x_turn_rt, x_comp_nil, x_comp_cons, sz2, sz4, i_lt_int, i_lt_bl, i_lt_non, i_lt_lst, i_lt_tup, i_i_int, i_i_bl, i_b_int, i_b_bl, i_b_non, i_b_lst, i_b_tup, i_l_int, i_l_bl, i_l_non, i_l_lst, i_l_tup, i_t_int, i_t_lst, i_t_tup, i_d_int, i_d_bl, i_d_non, i_d_lst, i_d_tup, i_ltd_int, i_ltd_bl, i_ltd_non, l_lst, l_tup, t_lst, t_tup, a_lst, b_nil, b_cons, cut_lst, cut_tup, x_dEqb, x_dNeb, x_dEqn, x_zip, x_range1, x_range2, Int.cast_ofNat_Int, Nat.zero_add, List.all_cons, List.all_nil, id, Bool.and_true, Bool.true_and, Bool.and_false, Bool.false_and, Bool.or_true, Bool.true_or, Bool.or_false, Bool.false_or, Nat.reduceAdd, Nat.reduceSub, Int.reduceEq, Int.reduceLT, Int.reduceLE, Int.reduceNeg, szl0, szl1, szl2, szl3, szl4, szl5, szl6, szl7, szl8, szl9, szl10, x_extend, x_append, x_borT, x_frz, x_idxO, List.getElem?_cons_zero, List.getElem?_cons_succ, x_notIn, x_isIn, rg_m1, rg_m2, rg_2, rg_3, rg_5, x_abs, x_int, x_rep2, Int.reduceAdd, Int.reduceSub, Int.reduceToNat, and_self, ram3, rbm3, ram2, rbm2, ram1, rbm1, ra0, rb0, ra1, rb1, ra2, rb2, ra3, rb3, ra4, rb4, ra5, rb5, ra6, rb6, ra7, rb7, ra8, rb8, ra9, rb9, ra10, rb10, ra11, rb11, ra12, rb12, ra13, rb13, ra20, rb20, ra24, rb24] at es ec ⊢
            cases l <;> (try simp only [oD, x_def, startE, x_seq, x_nx, x_rt, x_bk, x_ct, x_bind, x_pure, x_c, x_nil, x_cons, x_tup, x_lst, x_op2, x_op1, x_tru, x_notT, x_ite, x_ifS, x_andT, x_orT, x_and, x_or, x_chain, x_bi, x_biF, x_call, x_perm, x_it, x_ret, x_drop, x_next, x_set, x_setF, x_asg, x_aug, x_for, x_comp, x_cat, x_dSub, x_dAdd, x_dAddI, x_dLt, x_dLe, x_dGt, x_dGe, x_dNeg, x_dNot, x_dTru, x_dEq, x_dNe, x_var0, x_varS, Option.bind_some, Option.map_some, List.map_cons, List.map_nil, List.length_cons, List.length_nil, List.replicate_succ, List.replicate_zero, List.cons_append, List.nil_append, List.set_cons_zero, List.set_cons_succ, Bool.not_true, Bool.not_false, Bool.false_eq_true, if_true, if_false, decide_true, decide_false, decide_eq_true_eq, dIsN, dNotN, dIdx, dItems, at_int, at0, at1, at2, at3, cut2, gN, gT, gCo, gNl, wipeE, x_for_nil, x_for_cons, x_turn_nx, x_turn_ct, x_turn_bk, x_turn_rt, x_comp_nil, x_comp_cons, sz2, sz4, i_lt_int, i_lt_bl, i_lt_non, i_lt_lst, i_lt_tup, i_i_int, i_i_bl, i_b_int, i_b_bl, i_b_non, i_b_lst, i_b_tup, i_l_int, i_l_bl, i_l_non, i_l_lst, i_l_tup, i_t_int, i_t_lst, i_t_tup, i_d_int, i_d_bl, i_d_non, i_d_lst, i_d_tup, i_ltd_int, i_ltd_bl, i_ltd_non, l_lst, l_tup, t_lst, t_tup, a_lst, b_nil, b_cons, cut_lst, cut_tup, x_dEqb, x_dNeb, x_dEqn, x_zip, x_range1, x_range2, Int.cast_ofNat_Int, Nat.zero_add, List.all_cons, List.all_nil, id, Bool.and_true, Bool.true_and, Bool.and_false, Bool.false_and, Bool.or_true, Bool.true_or, Bool.or_false, Bool.false_or, Nat.reduceAdd, Nat.reduceSub, Int.reduceEq, Int.reduceLT, Int.reduceLE, Int.reduceNeg, szl0, szl1, szl2, szl3, szl4, szl5, szl6, szl7, szl8, szl9, szl10, x_extend, x_append, x_borT, x_frz, x_idxO, List.getElem?_cons_zero, List.getElem?_cons_succ, x_notIn, x_isIn, rg_m1, rg_m2, rg_2, rg_3, rg_5, x_abs, x_int, x_rep2, Int.reduceAdd, Int.reduceSub, Int.reduceToNat, and_self, ram3, rbm3, ram2, rbm2, ram1, rbm1, ra0, rb0, ra1, rb1, ra2, rb2, ra3, rb3, ra4, rb4, ra5, rb5, ra6, rb6, ra7, rb7, ra8, rb8, ra9, rb9, ra10, rb10, ra11, rb11, ra12, rb12, ra13, rb13, ra20, rb20, ra24, rb24] at es ⊢) <;> (try simp only [x_def, startE, x_seq, x_nx, x_rt, x_bk, x_ct, x_bind, x_pure, x_c, x_nil, x_cons, x_tup, x_lst, x_op2, x_op1, x_tru, x_notT, x_ite, x_ifS, x_andT, x_orT, x_and, x_or, x_chain, x_bi, x_biF, x_call, x_perm, x_it, x_ret, x_drop, x_next, x_set, x_setF, x_asg, x_aug, x_for, x_comp, x_cat, x_dSub, x_dAdd, x_dAddI, x_dLt, x_dLe, x_dGt, x_dGe, x_dNeg, x_dNot, x_dTru, x_dEq, x_dNe, x_var0, x_varS, Option.bind_some, Option.map_some, List.map_cons, List.map_nil, List.length_cons, List.length_nil, List.replicate_succ, List.replicate_zero, List.cons_append, List.nil_append, List.set_cons_zero, List.set_cons_succ, Bool.not_true, Bool.not_false, Bool.false_eq_true, if_true, if_false, decide_true, decide_false, decide_eq_true_eq, dIsN, dNotN, dIdx, dItems, at_int, at0, at1, at2, at3, cut2, gN, gT, gCo, gNl, wipeE, x_for_nil, x_for_cons, x_turn_nx, x_turn_ct, x_turn_bk, x_turn_rt, x_comp_nil, x_comp_cons, sz2, sz4, i_lt_int, i_lt_bl, i_lt_non, i_lt_lst, i_lt_tup, i_i_int, i_i_bl, i_b_int, i_b_bl, i_b_non, i_b_lst, i_b_tup, i_l_int, i_l_bl, i_l_non, i_l_lst, i_l_tup, i_t_int, i_t_lst, i_t_tup, i_d_int, i_d_bl, i_d_non, i_d_lst, i_d_tup, i_ltd_int, i_ltd_bl, i_ltd_non, l_lst, l_tup, t_lst, t_tup, a_lst, b_nil, b_cons, cut_lst, cut_tup, x_dEqb, x_dNeb, x_dEqn, x_zip, x_range1, x_range2, Int.cast_ofNat_Int, Nat.zero_add, List.all_cons, List.all_nil, id, Bool.and_true, Bool.true_and, Bool.and_false, Bool.false_and, Bool.or_true, Bool.true_or, Bool.or_false, Bool.false_or, Nat.reduceAdd, Nat.reduceSub, Int.reduceEq, Int.reduceLT, Int.reduceLE, Int.reduceNeg, szl0, szl1, szl2, szl3, szl4, szl5, szl6, szl7, szl8, szl9, szl10, x_extend, x_append, x_borT, x_frz, x_idxO, List.getElem?_cons_zero, List.getElem?_cons_succ, x_notIn, x_isIn, rg_m1, rg_m2, rg_2, rg_3, rg_5, x_abs, x_int, x_rep2, Int.reduceAdd, Int.reduceSub, Int.reduceToNat, and_self, ram3, rbm3, ram2, rbm2, ram1, rbm1, ra0, rb0, ra1, rb1, ra2, rb2, ra3, rb3, ra4, rb4, ra5, rb5, ra6, rb6, ra7, rb7, ra8, rb8, ra9, rb9, ra10, rb10, ra11, rb11, ra12, rb12, ra13, rb13, ra20, rb20, ra24, rb24, es, ec, o1, bools_bl]) <;> exact congrArg (fun k => some (D.bl k, S)) e2
      | some a' =>
        cases l with
        | none =>
          rw [wi_lo]
          simp only [F__law_strip_inside, m__law_strip_inside, sD, sL, qD, oD, x_def, startE, x_seq, x_nx, x_rt, x_bk, x_ct, x_bind, x_pure, x_c, x_nil, x_cons, x_tup, x_lst, x_op2, x_op1, x_tru, x_notT, x_ite, x_ifS, x_andT, x_orT, x_and, x_or, x_chain, x_bi, x_biF, x_call, x_perm, x_it, x_ret, x_drop, x_next, x_set, x_setF, x_asg, x_aug, x_for, x_comp, x_cat, x_dSub, x_dAdd, x_dAddI, x_dLt, x_dLe, x_dGt, x_dGe, x_dNeg, x_dNot, x_dTru, x_dEq, x_dNe, x_var0, x_varS, Option.bind_some, Option.map_some, List.map_cons, List.map_nil, List.length_cons, List.length_nil, List.replicate_succ, List.replicate_zero, List.cons_append, List.nil_append, List.set_cons_zero, List.set_cons_succ, Bool.not_true, Bool.not_false, Bool.false_eq_true, if_true, if_false, decide_true, decide_false, decide_eq_true_eq, dIsN, dNotN, dIdx, dItems, at_int, at0, at1, at2, at3, cut2, gN, gT, gCo, gNl, wipeE, x_for_nil, x_for_cons, x_turn_nx, x_turn_ct, x_turn_bk, x_turn_rt, x_comp_nil, x_comp_cons, sz2, sz4, i_lt_int, i_lt_bl, i_lt_non, i_lt_lst, i_lt_tup, i_i_int, i_i_bl, i_b_int, i_b_bl, i_b_non, i_b_lst, i_b_tup, i_l_int, i_l_bl, i_l_non, i_l_lst, i_l_tup, i_t_int, i_t_lst, i_t_tup, i_d_int, i_d_bl, i_d_non, i_d_lst, i_d_tup, i_ltd_int, i_ltd_bl, i_ltd_non, l_lst, l_tup, t_lst, t_tup, a_lst, b_nil, b_cons, cut_lst, cut_tup, x_dEqb, x_dNeb, x_dEqn, x_zip, x_range1, x_range2, Int.cast_ofNat_Int, Nat.zero_add, List.all_cons, List.all_nil, id, Bool.and_true, Bool.true_and, Bool.and_false, Bool.false_and, Bool.or_true, Bool.true_or, Bool.or_false, Bool.false_or, Nat.reduceAdd, Nat.reduceSub, Int.reduceEq, Int.reduceLT, Int.reduceLE, Int.reduceNeg, szl0, szl1, szl2, szl3, szl4, szl5, szl6, szl7, szl8, szl9, szl10, x_extend, x_append, x_borT, x_frz, x_idxO, List.getElem?_cons_zero, List.getElem?_cons_succ, x_notIn, x_isIn, rg_m1, rg_m2, rg_2, rg_3, rg_5, x_abs, x_int, x_rep2, Int.reduceAdd, Int.reduceSub, Int.reduceToNat, and_self, ram3, rbm3, ram2, rbm2, ram1, rbm1, ra0, rb0, ra1, rb1, ra2, rb2, ra3, rb3, ra4, rb4, ra5, rb5, ra6, rb6, ra7, rb7, ra8, rb8, ra9, rb9, ra10, rb10, ra11, rb11, ra12, rb12, ra13, rb13, ra20, rb20, ra24, rb24] at es ec ⊢
        | some c =>
          cases h' with
          | none =>
            have e2 := ev (fun _ => nofun) (fun k => absurd rfl k)
            simp only [F__law_strip_inside, m__law_strip_inside, sD, sL, qD, oD, x_def, startE, x_seq, x_nx, x_rt, x_bk, x_ct, x_bind, x_pure, x_c, x_nil, x_cons, x_tup, x_lst, x_op2, x_op1, x_tru, x_notT, x_ite, x_ifS, x_andT, x_orT, x_and, x_or, x_chain, x_bi, x_biF, x_call, x_perm, x_it, x_ret, x_drop, x_next, x_set, x_setF, x_asg, x_aug, x_for, x_comp, x_cat, x_dSub, x_dAdd, x_dAddI, x_dLt, x_dLe, x_dGt, x_dGe, x_dNeg, x_dNot, x_dTru, x_dEq, x_dNe, x_var0, x_varS, Option.bind_some, Option.map_some, List.map_cons, List.map_nil, List.length_cons, List.length_nil, List.replicate_succ, List.replicate_zero, List.cons_append, List.nil_append, List.set_cons_zero, List.set_cons_succ, Bool.not_true, Bool.not_false, Bool.false_eq_true, if_true, if_false, decide_true, decide_false, decide_eq_true_eq, dIsN, dNotN, dIdx, dItems, at_int, at0, at1, at2, at3, cut2, gN, gT, gCo, gNl, wipeE, x_for_nil, x_for_cons, x_turn_nx, x_turn_ct, x_turn_bk, x_turn_rt, x_comp_nil, x_comp_cons, sz2, sz4, i_lt_int, i_lt_bl, i_lt_non, i_lt_lst, i_lt_tup, i_i_int, i_i_bl, i_b_int, i_b_bl, i_b_non, i_b_lst, i_b_tup, i_l_int, i_l_bl, i_l_non, i_l_lst, i_l_tup, i_t_int, i_t_lst, i_t_tup, i_d_int, i_d_bl, i_d_non, i_d_lst, i_d_tup, i_ltd_int, i_ltd_bl, i_ltd_non, l_lst, l_tup, t_lst, t_tup, a_lst, b_nil, b_cons, cut_lst, cut_tup, x_dEqb, x_dNeb, x_dEqn, x_zip, x_range1, x_range2, Int.cast_ofNat_Int, Nat.zero_add, List.all_cons, List.all_nil, id, Bool.and_true, Bool.true_and, Bool.and_false, Bool.false_and, Bool.or_true, Bool.true_or, Bool.or_false, Bool.false_or, Nat.reduceAdd, Nat.reduceSub, Int.reduceEq, Int.reduceLT, Int.reduceLE, Int.reduceNeg, szl0, szl1, szl2, szl3, szl4, szl5, szl6, szl7, szl8, szl9, szl10, x_extend, x_append, x_borT, x_frz, x_idxO, List.getElem?_cons_zero, List.getElem?_cons_succ, x_notIn, x_isIn, rg_m1, rg_m2, rg_2, rg_3, rg_5, x_abs, x_int, x_rep2, Int.reduceAdd, Int.reduceSub, Int.reduceToNat, and_self, ram3, rbm3, ram2, rbm2, ram1, rbm1, ra0, rb0, ra1, rb1, ra2, rb2, ra3, rb3, ra4, rb4, ra5, rb5, ra6, rb6, ra7, rb7, ra8, rb8, ra9, rb9, ra10, rb10, ra11, rb11, ra12, rb12, ra13, rb13, ra20, rb20, ra24, rb24] at es ec ⊢
            cases h <;> (try simp only [oD, x_def, startE, x_seq, x_nx, x_rt, x_bk, x_ct, x_bind, x_pure, x_c, x_nil, x_cons, x_tup, x_lst, x_op2, x_op1, x_tru, x_notT, x_ite, x_ifS, x_andT, x_orT, x_and, x_or, x_chain, x_bi, x_biF, x_call, x_perm, x_it, x_ret, x_drop, x_next, x_set, x_setF, x_asg, x_aug, x_for, x_comp, x_cat, x_dSub, x_dAdd, x_dAddI, x_dLt, x_dLe, x_dGt, x_dGe, x_dNeg, x_dNot, x_dTru, x_dEq, x_dNe, x_var0, x_varS, Option.bind_some, Option.map_some, List.map_cons, List.map_nil, List.length_cons, List.length_nil, List.replicate_succ, List.replicate_zero, List.cons_append, List.nil_append, List.set_cons_zero, List.set_cons_succ, Bool.not_true, Bool.not_false, Bool.false_eq_true, if_true, if_false, decide_true, decide_false, decide_eq_true_eq, dIsN, dNotN, dIdx, dItems, at_int, at0, at1, at2, at3, cut2, gN, gT, gCo, gNl, wipeE, x_for_nil, x_for_cons, x_turn_nx, x_turn_ct, x_turn_bk, x_turn_rt, x_comp_nil, x_comp_cons, sz2, sz4, i_lt_int, i_lt_bl, i_lt_non, i_lt_lst, i_lt_tup, i_i_int, i_i_bl, i_b_int, i_b_bl, i_b_non, i_b_lst, i_b_tup, i_l_int, i_l_bl, i_l_non, i_l_lst, i_l_tup, i_t_int, i_t_lst, i_t_tup, i_d_int, i_d_bl, i_d_non, i_d_lst, i_d_tup, i_ltd_int, i_ltd_bl, i_ltd_non, l_lst, l_tup, t_lst, t_tup, a_lst, b_nil, b_cons, cut_lst, cut_tup, x_dEqb, x_dNeb, x_dEqn, x_zip, x_range1, x_range2, Int.cast_ofNat_Int, Nat.zero_add, List.all_cons, List.all_nil, id, Bool.and_true, Bool.true_and, Bool.and_false, Bool.false_and, Bool.or_true, Bool.true_or, Bool.or_false, Bool.false_or, Nat.reduceAdd, Nat.reduceSub, Int.reduceEq, Int.reduceLT, Int.reduceLE, Int.reduceNeg, szl0, szl1, szl2, szl3, szl4, szl5, szl6, szl7, szl8, szl9, szl10, x_extend, x_append, x_borT, x_frz, x_idxO, List.getElem?_cons_zero, List.getElem?_cons_succ, x_notIn, x_isIn, rg_m1, rg_m2, rg_2, rg_3, rg_5, x_abs, x_int, x_rep2, Int.reduceAdd, Int.reduceSub, Int.reduceToNat, and_self, ram3, rbm3, ram2, rbm2, ram1, rbm1, ra0, rb0, ra1, rb1, ra2, rb2, ra3, rb3, ra4, rb4, ra5, rb5, ra6, rb6, ra7, rb7, ra8, rb8, ra9, rb9, ra10, rb10, ra11, rb11, ra12, rb12, ra13, rb13, ra20, rb20, ra24, rb24] at es ⊢) <;> (try simp only [x_def, startE, x_seq, x_nx, x_rt, x_bk, x_ct, x_bind, x_pure, x_c, x_nil, x_cons, x_tup, x_lst, x_op2, x_op1, x_tru, x_notT, x_ite, x_ifS, x_andT, x_orT, x_and, x_or, x_chain, x_bi, x_biF, x_call, x_perm, x_it, x_ret, x_drop, x_next, x_set, x_setF, x_asg, x_aug, x_for, x_comp, x_cat, x_dSub, x_dAdd, x_dAddI, x_dLt, x_dLe, x_dGt, x_dGe, x_dNeg, x_dNot, x_dTru, x_dEq, x_dNe, x_var0, x_varS, Option.bind_some, Option.map_some, List.map_cons, List.map_nil, List.length_cons, List.length_nil, List.replicate_succ, List.replicate_zero, List.cons_append, List.nil_append, List.set_cons_zero, List.set_cons_succ, Bool.not_true, Bool.not_false, Bool.false_eq_true, if_true, if_false, decide_true, decide_false, decide_eq_true_eq, dIsN, dNotN, dIdx, dItems, at_int, at0, at1, at2, at3, cut2, gN, gT, gCo, gNl, wipeE, x_for_nil, x_for_cons, x_turn_nx, x_turn_ct, x_turn_bk, x_turn_rt, x_comp_nil, x_comp_cons, sz2, sz4, i_lt_int, i_lt_bl, i_lt_non, i_lt_lst, i_lt_tup, i_i_int, i_i_bl, i_b_int, i_b_bl, i_b_non, i_b_lst, i_b_tup, i_l_int, i_l_bl, i_l_non, i_l_lst, i_l_tup, i_t_int, i_t_lst, i_t_tup, i_d_int, i_d_bl, i_d_non, i_d_lst, i_d_tup, i_ltd_int, i_ltd_bl, i_ltd_non, l_lst, l_tup, t_lst, t_tup, a_lst, b_nil, b_cons, cut_lst, cut_tup, x_dEqb, x_dNeb, x_dEqn, x_zip, x_range1, x_range2, Int.cast_ofNat_Int, Nat.zero_add, List.all_cons, List.all_nil, id, Bool.and_true, Bool.true_and, Bool.and_false, Bool.false_and, Bool.or_true, Bool.true_or, Bool.or_false, Bool.false_or, Nat.reduceAdd, Nat.reduceSub, Int.reduceEq, Int.reduceLT, Int.reduceLE, Int.reduceNeg, szl0, szl1, szl2, szl3, szl4, szl5, szl6, szl7, szl8, szl9, szl10, x_extend, x_append, x_borT, x_frz, x_idxO, List.getElem?_cons_zero, List.getElem?_cons_succ, x_notIn, x_isIn, rg_m1, rg_m2, rg_2, rg_3, rg_5, x_abs, x_int, x_rep2, Int.reduceAdd, Int.reduceSub, Int.reduceToNat, and_self, ram3, rbm3, ram2, rbm2, ram1, rbm1, ra0, rb0, ra1, rb1, ra2, rb2, ra3, rb3, ra4, rb4, ra5, rb5, ra6, rb6, ra7, rb7, ra8, rb8, ra9, rb9, ra10, rb10, ra11, rb11, ra12, rb12, ra13, rb13, ra20, rb20, ra24, rb24, es, ec, o1, bools_bl]) <;> exact congrArg (fun k => some (D.bl k, S)) e2
          | some b' =>
            cases h with
            | none =>
              rw [wi_hi]
              simp only [F__law_strip_inside, m__law_strip_inside, sD, sL, qD, oD, x_def, startE, x_seq, x_nx, x_rt, x_bk, x_ct, x_bind, x_pure, x_c, x_nil, x_cons, x_tup, x_lst, x_op2, x_op1, x_tru, x_notT, x_ite, x_ifS, x_andT, x_orT, x_and, x_or, x_chain, x_bi, x_biF, x_call, x_perm, x_it, x_ret, x_drop, x_next, x_set, x_setF, x_asg, x_aug, x_for, x_comp, x_cat, x_dSub, x_dAdd, x_dAddI, x_dLt, x_dLe, x_dGt, x_dGe, x_dNeg, x_dNot, x_dTru, x_dEq, x_dNe, x_var0, x_varS, Option.bind_some, Option.map_some, List.map_cons, List.map_nil, List.length_cons, List.length_nil, List.replicate_succ, List.replicate_zero, List.cons_append, List.nil_append, List.set_cons_zero, List.set_cons_succ, Bool.not_true, Bool.not_false, Bool.false_eq_true, if_true, if_false, decide_true, decide_false, decide_eq_true_eq, dIsN, dNotN, dIdx, dItems, at_int, at0, at1, at2, at3, cut2, gN, gT, gCo, gNl, wipeE, x_for_nil, x_for_cons, x_turn_nx, x_turn_ct, x_turn_bk, x_turn_rt, x_comp_nil, x_comp_cons, sz2, sz4, i_lt_int, i_lt_bl, i_lt_non, i_lt_lst, i_lt_tup, i_i_int, i_i_bl, i_b_int, i_b_bl, i_b_non, i_b_lst, i_b_tup, i_l_int, i_l_bl, i_l_non, i_l_lst, i_l_tup, i_t_int, i_t_lst, i_t_tup, i_d_int, i_d_bl, i_d_non, i_d_lst, i_d_tup, i_ltd_int, i_ltd_bl, i_ltd_non, l_lst, l_tup, t_lst, t_tup, a_lst, b_nil, b_cons, cut_lst, cut_tup, x_dEqb, x_dNeb, x_dEqn, x_zip, x_range1, x_range2, Int.cast_ofNat_Int, Nat.zero_add, List.all_cons, List.all_nil, id, Bool.and_true, Bool.true_and, Bool.and_false, Bool.false_and, Bool.or_true, Bool.true_or, Bool.or_false, Bool.false_or, Nat.reduceAdd, Nat.reduceSub, Int.reduceEq, Int.reduceLT, Int.reduceLE, Int.reduceNeg, szl0, szl1, szl2, szl3, szl4, szl5, szl6, szl7, szl8, szl9, szl10, x_extend, x_append, x_borT, x_frz, x_idxO, List.getElem?_cons_zero, List.getElem?_cons_succ, x_notIn, x_isIn, rg_m1, rg_m2, rg_2, rg_3, rg_5, x_abs, x_int, x_rep2, Int.reduceAdd, Int.reduceSub, Int.reduceToNat, and_self, ram3, rbm3, ram2, rbm2, ram1, rbm1, ra0, rb0, ra1, rb1, ra2, rb2, ra3, rb3, ra4, rb4, ra5, rb5, ra6, rb6, ra7, rb7, ra8, rb8, ra9, rb9, ra10, rb10, ra11, rb11, ra12, rb12, ra13, rb13, ra20, rb20, ra24, rb24] at es ec ⊢
            | some c' =>
              have e2 := ev (fun _ => nofun) (fun _ => nofun)
              simp only [F__law_strip_inside, m__law_strip_inside, sD, sL, qD, oD, x_def, startE, x_seq, x_nx, x_rt, x_bk, x_ct, x_bind, x_pure, x_c, x_nil, x_cons, x_tup, x_lst, x_op2, x_op1, x_tru, x_notT, x_ite, x_ifS, x_andT, x_orT, x_and, x_or, x_chain, x_bi, x_biF, x_call, x_perm, x_it, x_ret, x_drop, x_next, x_set, x_setF, x_asg, x_aug, x_for, x_comp, x_cat, x_dSub, x_dAdd, x_dAddI, x_dLt, x_dLe, x_dGt, x_dGe, x_dNeg, x_dNot, x_dTru, x_dEq, x_dNe, x_var0, x_varS, Option.bind_some, Option.map_some, List.map_cons, List.map_nil, List.length_cons, List.length_nil, List.replicate_succ, List.replicate_zero, List.cons_append, List.nil_append, List.set_cons_zero, List.set_cons_succ, Bool.not_true, Bool.not_false, Bool.false_eq_true, if_true, if_false, decide_true, decide_false, decide_eq_true_eq, dIsN, dNotN, dIdx, dItems, at_int, at0, at1, at2, at3, cut2, gN, gT, gCo, gNl, wipeE, x_for_nil, x_for_cons, x_turn_nx, x_turn_ct, x_turn_bk, x_turn_rt, x_comp_nil, x_comp_cons, sz2, sz4, i_lt_int, i_lt_bl, i_lt_non, i_lt_lst, i_lt_tup, i_i_int, i_i_bl, i_b_int, i_b_bl, i_b_non, i_b_lst, i_b_tup, i_l_int, i_l_bl, i_l_non, i_l_lst, i_l_tup, i_t_int, i_t_lst, i_t_tup, i_d_int, i_d_bl, i_d_non, i_d_lst, i_d_tup, i_ltd_int, i_ltd_bl, i_ltd_non, l_lst, l_tup, t_lst, t_tup, a_lst, b_nil, b_cons, cut_lst, cut_tup, x_dEqb, x_dNeb, x_dEqn, x_zip, x_range1, x_range2, Int.cast_ofNat_Int, Nat.zero_add, List.all_cons, List.all_nil, id, Bool.and_true, Bool.true_and, Bool.and_false, Bool.false_and, Bool.or_true, Bool.true_or, Bool.or_false, Bool.false_or, Nat.reduceAdd, Nat.reduceSub, Int.reduceEq, Int.reduceLT, Int.reduceLE, Int.reduceNeg, szl0, szl1, szl2, szl3, szl4, szl5, szl6, szl7, szl8, szl9, szl10, x_extend, x_append, x_borT, x_frz, x_idxO, List.getElem?_cons_zero, List.getElem?_cons_succ, x_notIn, x_isIn, rg_m1, rg_m2, rg_2, rg_3, rg_5, x_abs, x_int, x_rep2, Int.reduceAdd, Int.reduceSub, Int.reduceToNat, and_self, ram3, rbm3, ram2, rbm2, ram1, rbm1, ra0, rb0, ra1, rb1, ra2, rb2, ra3, rb3, ra4, rb4, ra5, rb5, ra6, rb6, ra7, rb7, ra8, rb8, ra9, rb9, ra10, rb10, ra11, rb11, ra12, rb12, ra13, rb13, ra20, rb20, ra24, rb24] at es ec ⊢
              simp only [x_def, startE, x_seq, x_nx, x_rt, x_bk, x_ct, x_bind, x_pure, x_c, x_nil, x_cons, x_tup, x_lst, x_op2, x_op1, x_tru, x_notT, x_ite, x_ifS, x_andT, x_orT, x_and, x_or, x_chain, x_bi, x_biF, x_call, x_perm, x_it, x_ret, x_drop, x_next, x_set, x_setF, x_asg, x_aug, x_for, x_comp, x_cat, x_dSub, x_dAdd, x_dAddI, x_dLt, x_dLe, x_dGt, x_dGe, x_dNeg, x_dNot, x_dTru, x_dEq, x_dNe, x_var0, x_varS, Option.bind_some, Option.map_some, List.map_cons, List.map_nil, List.length_cons, List.length_nil, List.replicate_succ, List.replicate_zero, List.cons_append, List.nil_append, List.set_cons_zero, List.set_cons_succ, Bool.not_true, Bool.not_false, Bool.false_eq_true, if_true, if_false, decide_true, decide_false, decide_eq_true_eq, dIsN, dNotN, dIdx, dItems, at_int, at0, at1, at2, at3, cut2, gN, gT, gCo, gNl, wipeE, x_for_nil, x_for_cons, x_turn_nx, x_turn_ct, x_turn_bk, x_turn_rt, x_comp_nil, x_comp_cons, sz2, sz4, i_lt_int, i_lt_bl, i_lt_non, i_lt_lst, i_lt_tup, i_i_int, i_i_bl, i_b_int, i_b_bl, i_b_non, i_b_lst, i_b_tup, i_l_int, i_l_bl, i_l_non, i_l_lst, i_l_tup, i_t_int, i_t_lst, i_t_tup, i_d_int, i_d_bl, i_d_non, i_d_lst, i_d_tup, i_ltd_int, i_ltd_bl, i_ltd_non, l_lst, l_tup, t_lst, t_tup, a_lst, b_nil, b_cons, cut_lst, cut_tup, x_dEqb, x_dNeb, x_dEqn, x_zip, x_range1, x_range2, Int.cast_ofNat_Int, Nat.zero_add, List.all_cons, List.all_nil, id, Bool.and_true, Bool.true_and, Bool.and_false, Bool.false_and, Bool.or_true, Bool.true_or, Bool.or_false, Bool.false_or, Nat.reduceAdd, Nat.reduceSub, Int.reduceEq, Int.reduceLT, Int.reduceLE, Int.reduceNeg, szl0, szl1, szl2, szl3, szl4, szl5, szl6, szl7, szl8, szl9, szl10, x_extend, x_append, x_borT, x_frz, x_idxO, List.getElem?_cons_zero, List.getElem?_cons_succ, x_notIn, x_isIn, rg_m1, rg_m2, rg_2, rg_3, rg_5, x_abs, x_int, x_rep2, Int.reduceAdd, Int.reduceSub, Int.reduceToNat, and_self, ram3, rbm3, ram2, rbm2, ram1, rbm1, ra0, rb0, ra1, rb1, ra2, rb2, ra3, rb3, ra4, rb4, ra5, rb5, ra6, rb6, ra7, rb7, ra8, rb8, ra9, rb9, ra10, rb10, ra11, rb11, ra12, rb12, ra13, rb13, ra20, rb20, ra24, rb24, es, ec, o1, bools_bl]
              exact congrArg (fun k => some (D.bl k, S)) e2
theorem v_pick (ds : List D) (S : Strm) (h0 : 0 < ds.length) (h1 : ds.length < 2 ^ 60) : ∃ d S', d ∈ ds ∧ F__law_pick [.strm, .lst ds] S = some (d, S') := by
  obtain ⟨k, S1, hk, e⟩ := x_draw_at S (m := (ds.length : Int)) ⟨by omega, Nat.lt_of_lt_of_le (log2_lt (k := 60) (by simpa using h1) (by decide)) (by decide)⟩
  have hi : k.toNat < ds.length := by omega
  have ek : ((k.toNat : Nat) : Int) = k := by omega
  have ea := atN (ds := ds) (i := k.toNat) (List.getElem?_eq_getElem hi)
  rw [ek] at ea
  refine ⟨ds[k.toNat], S1, List.getElem_mem hi, ?_⟩
  simp only [F__law_pick, m__law_pick, x_def, startE, x_ret, x_op2, x_call, x_cons, x_nil, x_bi, x_var0, x_varS, Option.bind_some, Option.map_some, List.map_cons, List.map_nil, List.length_cons, List.length_nil, Nat.reduceAdd, Nat.reduceSub, List.replicate_zero, List.cons_append, List.nil_append, l_lst, e, dIdx, dItems, atD, ea]
theorem v_quad (S : Strm) : ∃ l h m r S', F__law_strip_quadruple [.strm] S = some (qD false l h m r, S') ∧ 0 ≤ m ∧ Sm 150 l ∧ Sm 150 h ∧ m.natAbs < 2 ^ 150 ∧ r.natAbs < 2 ^ 150 := by
  have lowd : ∀ S, ∃ l S', mIte (mTru (mOp2 dEq (mCall F_draw (mCons (mVar 0) (mCons (mC (.int 4)) mNil))) (mC (.int 0)))) (mC .non) (mCall F__law_any_integer (mCons (mVar 0) mNil)) [some (.sh .strm), none, none, none] S = some (oD l, S') ∧ Sm 140 l := by
    intro S
    obtain ⟨k, S1, hk, e⟩ := x_draw_at S (m := 4) (by decide)
    by_cases k0 : k = 0
    · exact ⟨none, S1, by simp only [x_def, startE, x_seq, x_nx, x_rt, x_bk, x_ct, x_bind, x_pure, x_c, x_nil, x_cons, x_tup, x_lst, x_op2, x_op1, x_tru, x_notT, x_ite, x_ifS, x_andT, x_orT, x_and, x_or, x_chain, x_bi, x_biF, x_call, x_perm, x_it, x_ret, x_drop, x_next, x_set, x_setF, x_asg, x_aug, x_for, x_comp, x_cat, x_dSub, x_dAdd, x_dAddI, x_dLt, x_dLe, x_dGt, x_dGe, x_dNeg, x_dNot, x_dTru, x_dEq, x_dNe, x_var0, x_varS, Option.bind_some, Option.map_some, List.map_cons, List.map_nil, List.length_cons, List.length_nil, List.replicate_succ, List.replicate_zero, List.cons_append, List.nil_append, List.set_cons_zero, List.set_cons_succ, Bool.not_true, Bool.not_false, Bool.false_eq_true, if_true, if_false, decide_true, decide_false, decide_eq_true_eq, dIsN, dNotN, dIdx, dItems, at_int, at0, at1, at2, at3, cut2, gN, gT, gCo, gNl, wipeE, x_for_nil, x_for_cons, x_turn_nx, x_turn_ct, x_turn_bk, x_turn_rt, x_comp_nil, x_comp_cons, sz2, sz4, i_lt_int, i_lt_bl, i_lt_non, i_lt_lst, i_lt_tup, i_i_int, i_i_bl, i_b_int, i_b_bl, i_b_non, i_b_lst, i_b_tup, i_l_int, i_l_bl, i_l_non, i_l_lst, i_l_tup, i_t_int, i_t_lst, i_t_tup, i_d_int, i_d_bl, i_d_non, i_d_lst, i_d_tup, i_ltd_int, i_ltd_bl, i_ltd_non, l_lst, l_tup, t_lst, t_tup, a_lst, b_nil, b_cons, cut_lst, cut_tup, x_dEqb, x_dNeb, x_dEqn, x_zip, x_range1, x_range2, Int.cast_ofNat_Int, Nat.zero_add, List.all_cons, List.all_nil, id, Bool.and_true, Bool.true_and, Bool.and_false, Bool.false_and, Bool.or_true, Bool.true_or, Bool.or_false, Bool.false_or, Nat.reduceAdd, Nat.reduceSub, Int.reduceEq, Int.reduceLT, Int.reduceLE, Int.reduceNeg, szl0, szl1, szl2, szl3, szl4, szl5, szl6, szl7, szl8, szl9, szl10, x_extend, x_append, x_borT, x_frz, x_idxO, List.getElem?_cons_zero, List.getElem?_cons_succ, x_notIn, x_isIn, rg_m1, rg_m2, rg_2, rg_3, rg_5, x_abs, x_int, x_rep2, Int.reduceAdd, Int.reduceSub, Int.reduceToNat, and_self, ram3, rbm3, ram2, rbm2, ram1, rbm1, ra0, rb0, ra1, rb1, ra2, rb2, ra3, rb3, ra4, rb4, ra5, rb5, ra6, rb6, ra7, rb7, ra8, rb8, ra9, rb9, ra10, rb10, ra11, rb11, ra12, rb12, ra13, rb13, ra20, rb20, ra24, rb24, e, k0, oD], nofun⟩
    · obtain ⟨n, S2, e2, b2⟩ := v_any S1
      exact ⟨some n, S2, by simp only [x_def, startE, x_seq, x_nx, x_rt, x_bk, x_ct, x_bind, x_pure, x_c, x_nil, x_cons, x_tup, x_lst, x_op2, x_op1, x_tru, x_notT, x_ite, x_ifS, x_andT, x_orT, x_and, x_or, x_chain, x_bi, x_biF, x_call, x_perm, x_it, x_ret, x_drop, x_next, x_set, x_setF, x_asg, x_aug, x_for, x_comp, x_cat, x_dSub, x_dAdd, x_dAddI, x_dLt, x_dLe, x_dGt, x_dGe, x_dNeg, x_dNot, x_dTru, x_dEq, x_dNe, x_var0, x_varS, Option.bind_some, Option.map_some, List.map_cons, List.map_nil, List.length_cons, List.length_nil, List.replicate_succ, List.replicate_zero, List.cons_append, List.nil_append, List.set_cons_zero, List.set_cons_succ, Bool.not_true, Bool.not_false, Bool.false_eq_true, if_true, if_false, decide_true, decide_false, decide_eq_true_eq, dIsN, dNotN, dIdx, dItems, at_int, at0, at1, at2, at3, cut2, gN, gT, gCo, gNl, wipeE, x_for_nil, x_for_cons, x_turn_nx, x_turn_ct, x_turn_bk, x_turn_rt, x_comp_nil, x_comp_cons, sz2, sz4, i_lt_int, i_lt_bl, i_lt_non, i_lt_lst, i_lt_tup, i_i_int, i_i_bl, i_b_int, i_b_bl, i_b_non, i_b_lst, i_b_tup, i_l_int, i_l_bl, i_l_non, i_l_lst, i_l_tup, i_t_int, i_t_lst, i_t_tup, i_d_int, i_d_bl, i_d_non, i_d_lst, i_d_tup, i_ltd_int, i_ltd_bl, i_ltd_non, l_lst, l_tup, t_lst, t_tup, a_lst, b_nil, b_cons, cut_lst, cut_tup, x_dEqb, x_dNeb, x_dEqn, x_zip, x_range1, x_range2, Int.cast_ofNat_Int, Nat.zero_add, List.all_cons, List.all_nil, id, Bool.and_true, Bool.true_and, Bool.and_false, Bool.false_and, Bool.or_true, Bool.true_or, Bool.or_false, Bool.false_or, Nat.reduceAdd, Nat.reduceSub, Int.reduceEq, Int.reduceLT, Int.reduceLE, Int.reduceNeg, szl0, szl1, szl2, szl3, szl4, szl5, szl6, szl7, szl8, szl9, szl10, x_extend, x_append, x_borT, x_frz, x_idxO, List.getElem?_cons_zero, List.getElem?_cons_succ, x_notIn, x_isIn, rg_m1, rg_m2, rg_2, rg_3, rg_5, x_abs, x_int, x_rep2, Int.reduceAdd, Int.reduceSub, Int.reduceToNat, and_self, ram3, rbm3, ram2, rbm2, ram1, rbm1, ra0, rb0, ra1, rb1, ra2, rb2, ra3, rb3, ra4, rb4, ra5, rb5, ra6, rb6, ra7, rb7, ra8, rb8, ra9, rb9, ra10, rb10, ra11, rb11, ra12, rb12, ra13, rb13, ra20, rb20, ra24, rb24, e, k0, e2, oD], fun a ea => by cases ea; exact b2⟩
  have highd : ∀ (x : Option Ent) S, ∃ l S', mIte (mTru (mOp2 dEq (mCall F_draw (mCons (mVar 0) (mCons (mC (.int 4)) mNil))) (mC (.int 0)))) (mC .non) (mCall F__law_any_integer (mCons (mVar 0) mNil)) [some (.sh .strm), x, none, none] S = some (oD l, S') ∧ Sm 140 l := by
    intro x S
    obtain ⟨k, S1, hk, e⟩ := x_draw_at S (m := 4) (by decide)
    by_cases k0 : k = 0
    · exact ⟨none, S1, by simp only [x_def, startE, x_seq, x_nx, x_rt, x_bk, x_ct, x_bind, x_pure, x_c, x_nil, x_cons, x_tup, x_lst, x_op2, x_op1, x_tru, x_notT, x_ite, x_ifS, x_andT, x_orT, x_and, x_or, x_chain, x_bi, x_biF, x_call, x_perm, x_it, x_ret, x_drop, x_next, x_set, x_setF, x_asg, x_aug, x_for, x_comp, x_cat, x_dSub, x_dAdd, x_dAddI, x_dLt, x_dLe, x_dGt, x_dGe, x_dNeg, x_dNot, x_dTru, x_dEq, x_dNe, x_var0, x_varS, Option.bind_some, Option.map_some, List.map_cons, List.map_nil, List.length_cons, List.length_nil, List.replicate_succ, List.replicate_zero, List.cons_append, List.nil_append, List.set_cons_zero, List.set_cons_succ, Bool.not_true, Bool.not_false, Bool.false_eq_true, if_true, if_false, decide_true, decide_false, decide_eq_true_eq, dIsN, dNotN, dIdx, dItems, at_int, at0, at1, at2, at3, cut2, gN, gT, gCo, gNl, wipeE, x_for_nil, x_for_cons, x_turn_nx, x_turn_ct, x_turn_bk, x_turn_rt, x_comp_nil, x_comp_cons, sz2, sz4, i_lt_int, i_lt_bl, i_lt_non, i_lt_lst, i_lt_tup, i_i_int, i_i_bl, i_b_int, i_b_bl, i_b_non, i_b_lst, i_b_tup, i_l_int, i_l_bl, i_l_non, i_l_lst, i_l_tup, i_t_int, i_t_lst, i_t_tup, i_d_int, i_d_bl, i_d_non, i_d_lst, i_d_tup, i_ltd_int, i_ltd_bl, i_ltd_non, l_lst, l_tup, t_lst, t_tup, a_lst, b_nil, b_cons, cut_lst, cut_tup, x_dEqb, x_dNeb, x_dEqn, x_zip, x_range1, x_range2, Int.cast_ofNat_Int, Nat.zero_add, List.all_cons, List.all_nil, id, Bool.and_true, Bool.true_and, Bool.and_false, Bool.false_and, Bool.or_true, Bool.true_or, Bool.or_false, Bool.false_or, Nat.reduceAdd, Nat.reduceSub, Int.reduceEq, Int.reduceLT, Int.reduceLE, Int.reduceNeg, szl0, szl1, szl2, szl3, szl4, szl5, szl6, szl7, szl8, szl9, szl10, x_extend, x_append, x_borT, x_frz, x_idxO, List.getElem?_cons_zero, List.getElem?_cons_succ, x_notIn, x_isIn, rg_m1, rg_m2, rg_2, rg_3, rg_5, x_abs, x_int, x_rep2, Int.reduceAdd, Int.reduceSub, Int.reduceToNat, and_self, ram3, rbm3, ram2, rbm2, ram1, rbm1, ra0, rb0, ra1, rb1, ra2, rb2, ra3, rb3, ra4, rb4, ra5, rb5, ra6, rb6, ra7, rb7, ra8, rb8, ra9, rb9, ra10, rb10, ra11, rb11, ra12, rb12, ra13, rb13, ra20, rb20, ra24, rb24, e, k0, oD], nofun⟩
    · obtain ⟨n, S2, e2, b2⟩ := v_any S1
      exact ⟨some n, S2, by simp only [x_def, startE, x_seq, x_nx, x_rt, x_bk, x_ct, x_bind, x_pure, x_c, x_nil, x_cons, x_tup, x_lst, x_op2, x_op1, x_tru, x_notT, x_ite, x_ifS, x_andT, x_orT, x_and, x_or, x_chain, x_bi, x_biF, x_call, x_perm, x_it, x_ret, x_drop, x_next, x_set, x_setF, x_asg, x_aug, x_for, x_comp, x_cat, x_dSub, x_dAdd, x_dAddI, x_dLt, x_dLe, x_dGt, x_dGe, x_dNeg, x_dNot, x_dTru, x_dEq, x_dNe, x_var0, x_varS, Option.bind_some, Option.map_some, List.map_cons, List.map_nil, List.length_cons, List.length_nil, List.replicate_succ, List.replicate_zero, List.cons_append, List.nil_append, List.set_cons_zero, List.set_cons_succ, Bool.not_true, Bool.not_false, Bool.false_eq_true, if_true, if_false, decide_true, decide_false, decide_eq_true_eq, dIsN, dNotN, dIdx, dItems, at_int, at0, at1, at2, at3, cut2, gN, gT, gCo, gNl, wipeE, x_for_nil, x_for_cons, x_turn_nx, x_turn_ct, x_turn_bk, x_turn_rt, x_comp_nil, x_comp_cons, sz2, sz4, i_lt_int, i_lt_bl, i_lt_non, i_lt_lst, i_lt_tup, i_i_int, i_i_bl, i_b_int, i_b_bl, i_b_non, i_b_lst, i_b_tup, i_l_int, i_l_bl, i_l_non, i_l_lst, i_l_tup, i_t_int, i_t_lst, i_t_tup, i_d_int, i_d_bl, i_d_non, i_d_lst, i_d_tup, i_ltd_int, i_ltd_bl, i_ltd_non, l_lst, l_tup, t_lst, t_tup, a_lst, b_nil, b_cons, cut_lst, cut_tup, x_dEqb, x_dNeb, x_dEqn, x_zip, x_range1, x_range2, Int.cast_ofNat_Int, Nat.zero_add, List.all_cons, List.all_nil, id, Bool.and_true, Bool.true_and, Bool.and_false, Bool.false_and, Bool.or_true, Bool.true_or, Bool.or_false, Bool.false_or, Nat.reduceAdd, Nat.reduceSub, Int.reduceEq, Int.reduceLT, Int.reduceLE, Int.reduceNeg, szl0, szl1, szl2, szl3, szl4, szl5, szl6, szl7, szl8, szl9, szl10, x_extend, x_append, x_borT, x_frz, x_idxO, List.getElem?_cons_zero, List.getElem?_cons_succ, x_notIn, x_isIn, rg_m1, rg_m2, rg_2, rg_3, rg_5, x_abs, x_int, x_rep2, Int.reduceAdd, Int.reduceSub, Int.reduceToNat, and_self, ram3, rbm3, ram2, rbm2, ram1, rbm1, ra0, rb0, ra1, rb1, ra2, rb2, ra3, rb3, ra4, rb4, ra5, rb5, ra6, rb6, ra7, rb7, ra8, rb8, ra9, rb9, ra10, rb10, ra11, rb11, ra12, rb12, ra13, rb13, ra20, rb20, ra24, rb24, e, k0, e2, oD], fun a ea => by cases ea; exact b2⟩
  have stepd : ∀ S, ∃ n S1 m S2, F__law_any_integer [.strm] S = some (.int n, S1) ∧ F__law_pick [.strm, .lst [.int 0, .int 1, .int 1, .int 2, .int 3, .int 4, .int 5, .int 6, .int 8, .int 9, .int 12, .int 60, .int (if n < 0 then -n else n)]] S1 = some (.int m, S2) ∧ 0 ≤ m ∧ m.natAbs < 2 ^ 150 := by
    intro S
    obtain ⟨n, S1, e1, b1⟩ := v_any S
    obtain ⟨d, S2, hd, e2⟩ := v_pick [.int 0, .int 1, .int 1, .int 2, .int 3, .int 4, .int 5, .int 6, .int 8, .int 9, .int 12, .int 60, .int (if n < 0 then -n else n)] S1 (by simp) (by simp)
    simp only [List.mem_cons, List.mem_nil_iff, or_false] at hd
    have hn : 0 ≤ (if n < 0 then -n else n) ∧ (if n < 0 then -n else n).natAbs < 2 ^ 150 := by split <;> omega
    rcases hd with rfl | rfl | rfl | rfl | rfl | rfl | rfl | rfl | rfl | rfl | rfl | rfl | rfl
    all_goals first
      | exact ⟨n, S1, _, S2, e1, e2, by decide, by decide⟩
      | exact ⟨n, S1, _, S2, e1, e2, hn.1, hn.2⟩
  obtain ⟨l, S1, e1, b1⟩ := lowd S
  obtain ⟨h, S2, e2, b2⟩ := highd (some (.sh (oD l))) S1
  cases l with
  | none =>
    obtain ⟨nn, T1, m, S3, f3, e3, p3, b3⟩ := stepd S2
    obtain ⟨r, S4, e4, b4⟩ := v_any S3
    refine ⟨none, h, m, r, S4, ?_, p3, nofun, sm_up b2 (by decide), b3, nat_up b4 (by decide)⟩
    simp only [oD_none, oD_some] at e1 e2
    simp only [F__law_strip_quadruple, m__law_strip_quadruple, x_def, startE, x_seq, x_nx, x_set, x_ifS, x_andT, x_tru, x_op1, x_ret, x_tup, x_next, x_var0, x_varS, x_bi, x_abs, x_lst, x_c, List.map_cons, List.map_nil, List.length_cons, List.length_nil, Nat.reduceAdd, Nat.reduceSub, List.replicate_succ, List.replicate_zero, List.cons_append, List.nil_append, List.set_cons_zero, List.set_cons_succ, Option.bind_some, Option.map_some, e1, e2, nn_non, x_dTru, Bool.false_eq_true, if_false, f3, e3, x_cons, x_nil, x_call, e4, qD, oD_none, oD_some, Bool.false_eq_true, if_false]
  | some a =>
    obtain ⟨k, S3, hk, e3⟩ := x_draw_at S2 (m := 3) (by decide)
    by_cases k0 : 0 < k
    · obtain ⟨d, S4, hd, e4⟩ := v_pick [.int 0, .int 1, .int 2, .int 5, .int 9, .int 17, .int 40, .int 400] S3 (by simp) (by simp)
      have hd' : ∃ j : Int, d = .int j ∧ j.natAbs < 1000 := by
        simp only [List.mem_cons, List.mem_nil_iff, or_false] at hd
        rcases hd with rfl | rfl | rfl | rfl | rfl | rfl | rfl | rfl
        all_goals exact ⟨_, rfl, by decide⟩
      obtain ⟨j, rfl, bj⟩ := hd'
      obtain ⟨nn, T1, m, S5, f5, e5, p5, b5⟩ := stepd S4
      obtain ⟨r, S6, e6, b6⟩ := v_any S5
      have ba := b1 a rfl
      refine ⟨some a, some (a + j), m, r, S6, ?_, p5, sm_up b1 (by decide), fun x ex => by cases ex; omega, b5, nat_up b6 (by decide)⟩
      simp only [oD_none, oD_some] at e1 e2
      simp only [F__law_strip_quadruple, m__law_strip_quadruple, x_def, startE, x_seq, x_nx, x_set, x_ifS, x_andT, x_tru, x_op1, x_ret, x_tup, x_next, x_var0, x_varS, x_bi, x_abs, x_lst, x_c, List.map_cons, List.map_nil, List.length_cons, List.length_nil, Nat.reduceAdd, Nat.reduceSub, List.replicate_succ, List.replicate_zero, List.cons_append, List.nil_append, List.set_cons_zero, List.set_cons_succ, Option.bind_some, Option.map_some, e1, e2, nn_int, x_dTru, if_true, e3, x_cons, x_nil, x_call, x_c, x_lst, x_op2, x_dGt, x_dAdd, k0, decide_true, e4, f5, e5, e6, qD, oD_none, oD_some, Bool.false_eq_true, if_false]
    · obtain ⟨nn, T1, m, S5, f5, e5, p5, b5⟩ := stepd S3
      obtain ⟨r, S6, e6, b6⟩ := v_any S5
      refine ⟨some a, h, m, r, S6, ?_, p5, sm_up b1 (by decide), sm_up b2 (by decide), b5, nat_up b6 (by decide)⟩
      simp only [oD_none, oD_some] at e1 e2
      simp only [F__law_strip_quadruple, m__law_strip_quadruple, x_def, startE, x_seq, x_nx, x_set, x_ifS, x_andT, x_tru, x_op1, x_ret, x_tup, x_next, x_var0, x_varS, x_bi, x_abs, x_lst, x_c, List.map_cons, List.map_nil, List.length_cons, List.length_nil, Nat.reduceAdd, Nat.reduceSub, List.replicate_succ, List.replicate_zero, List.cons_append, List.nil_append, List.set_cons_zero, List.set_cons_succ, Option.bind_some, Option.map_some, e1, e2, nn_int, x_dTru, if_true, e3, x_cons, x_nil, x_call, x_c, x_lst, x_op2, x_dGt, x_dAdd, k0, decide_false, f5, e5, e6, qD, oD_none, oD_some, Bool.false_eq_true, if_false]
end L2.Ev.K10
namespace L2.Ev.K10
open PySem PySem.Spec PyProof.Rows
theorem bro_bound2 (l h : Option Int) (m r : Int) (hm : 0 ≤ m) (bl : Sm 210 l) (bh : Sm 210 h) (bm : m.natAbs < 2 ^ 210) (br : r.natAbs < 2 ^ 210) : Bs 212 (bro l h m r) := by
  unfold bro
  by_cases h0 : m = 0
  · rw [if_pos h0]
    split
    · exact ⟨(fun a e => by cases e; omega), (fun a e => by cases e; omega), by decide, by omega⟩
    · trivial
  · rw [if_neg h0]
    have pm : 0 < m := by omega
    have hr := mod_lt (r := r) pm
    cases l with
    | none =>
      cases h with
      | none => exact ⟨(fun a e => by cases e), (fun a e => by cases e), by omega, by omega⟩
      | some b =>
        have b1 := bh b rfl
        have b2 := mod_lt (r := b - r) pm
        exact ⟨(fun a e => by cases e), (fun a e => by cases e; omega), by omega, by omega⟩
    | some a =>
      have a1 := bl a rfl
      have a2 := mod_lt (r := r - a) pm
      cases h with
      | none => exact ⟨(fun a e => by cases e; omega), (fun a e => by cases e), by omega, by omega⟩
      | some b =>
        have b1 := bh b rfl
        have b2 := mod_lt (r := b - r) pm
        dsimp only
        split
        · split
          · trivial
          · exact ⟨(fun a e => by cases e; omega), (fun a e => by cases e; omega), by decide, by omega⟩
        · exact ⟨(fun a e => by cases e; omega), (fun a e => by cases e; omega), by omega, by omega⟩
theorem bb (l h : Option Int) (m r : Int) (S : Strm) (hm : 0 ≤ m) (bl : Sm 210 l) (bh : Sm 210 h) (bm : m.natAbs < 2 ^ 210) (br : r.natAbs < 2 ^ 210) :
    ∃ s', F__law_strip_brought [oD l, oD h, .int m, .int r] S = some (sD s', S) ∧ Vd s' ∧ Bs 212 s' :=
  ⟨bro l h m r, v_brought l h m r S hm (sm_up bl (by decide)) (sm_up bh (by decide)) (nat_up bm (by decide)) (nat_up br (by decide)), bro_valid l h m r hm, bro_bound2 l h m r hm bl bh bm br⟩
theorem sm_some {k : Nat} {a : Int} (h : a.natAbs < 2 ^ k) : Sm k (some a) := fun x e => by cases e; exact h
theorem sm_none {k : Nat} : Sm k none := nofun
theorem beside_one (n : Int) (hn : n.natAbs < 2 ^ 205) (S : Strm) :
    ∃ s' S', F__law_pick [.strm, .lst [.non, .tup [.int n, .int n, .int 0, .int n], .tup [.int (n + 1), .int (n + 1), .int 0, .int (n + 1)], .tup [.int (n - 2), .int n, .int 2, .int (n % 2)], .tup [.int n, .non, .int 1, .int 0]]] S = some (sD s', S') ∧ Vd s' ∧ Bs 212 s' := by
  obtain ⟨d, S', hd, e⟩ := v_pick [.non, .tup [.int n, .int n, .int 0, .int n], .tup [.int (n + 1), .int (n + 1), .int 0, .int (n + 1)], .tup [.int (n - 2), .int n, .int 2, .int (n % 2)], .tup [.int n, .non, .int 1, .int 0]] S (by simp) (by simp)
  simp only [List.mem_cons, List.mem_nil_iff, or_false] at hd
  rcases hd with rfl | rfl | rfl | rfl | rfl
  · exact ⟨none, S', e, .none, trivial⟩
  · exact ⟨some (some n, some n, 0, n), S', e, .one n, sm_some (by omega), sm_some (by omega), by decide, by omega⟩
  · exact ⟨some (some (n + 1), some (n + 1), 0, n + 1), S', e, .one _, sm_some (by omega), sm_some (by omega), by decide, by omega⟩
  · exact ⟨some (some (n - 2), some n, 2, n % 2), S', e, .both (by decide) (by omega) (by omega) (by omega) rfl (by omega), sm_some (by omega), sm_some (by omega), by decide, by omega⟩
  · exact ⟨some (some n, none, 1, 0), S', e, .lo (by decide) (by decide) (by decide) (by omega), sm_some (by omega), sm_none, by decide, by decide⟩
theorem beside_last {l h : Option Int} {m r : Int} (v : Vd (some (l, h, m, r))) (hm : m ≠ 0) (bs : Bs 202 (some (l, h, m, r))) (S : Strm) :
    ∃ s' S', F__law_pick [.strm, .lst [.non, .tup [.int r, .int r, .int 0, .int r], .tup [oD l, .non, .int m, .int r], .tup [.non, oD h, .int m, .int r], .tup [oD l, oD h, .int m, .int r]]] S = some (sD s', S') ∧ Vd s' ∧ Bs 212 s' := by
  obtain ⟨d, S', hd, e⟩ := v_pick [.non, .tup [.int r, .int r, .int 0, .int r], .tup [oD l, .non, .int m, .int r], .tup [.non, oD h, .int m, .int r], .tup [oD l, oD h, .int m, .int r]] S (by simp) (by simp)
  obtain ⟨b1, b2, b3, b4⟩ := (bs.up (by decide) : Bs 212 _)
  simp only [List.mem_cons, List.mem_nil_iff, or_false] at hd
  rcases hd with rfl | rfl | rfl | rfl | rfl
  · exact ⟨none, S', e, .none, trivial⟩
  · exact ⟨some (some r, some r, 0, r), S', e, .one r, sm_some b4, sm_some b4, by decide, b4⟩
  · refine ⟨some (l, none, m, r), S', e, ?_, b1, sm_none, b3, b4⟩
    cases v with
    | one => exact absurd rfl hm
    | all x y z => exact .all x y z
    | lo x y z w => exact .lo x y z w
    | hi x y z w => exact .all x y z
    | both x y z w => exact .lo x y z w
  · refine ⟨some (none, h, m, r), S', e, ?_, sm_none, b2, b3, b4⟩
    cases v with
    | one => exact absurd rfl hm
    | all x y z => exact .all x y z
    | lo x y z w => exact .all x y z
    | hi x y z w => exact .hi x y z w
    | both x y z w u => exact .hi x y z u
  · exact ⟨some (l, h, m, r), S', e, v, b1, b2, b3, b4⟩
theorem beside_0 {m r : Int} (v : Vd (some (none, none, m, r))) (hm : m ≠ 0) (bs : Bs 202 (some (none, none, m, r))) (S : Strm) :
    ∃ s' S', F__law_strip_beside [.strm, sD (some (none, none, m, r))] S = some (sD s', S') ∧ Vd s' ∧ Bs 212 s' := by
  obtain ⟨k, S1, hk, ek⟩ := x_draw_at S (m := 9) (by decide)
  have ⟨b1, b2, b3, b4⟩ := bs
  have pm := (v.rest hm).1
  have hk9 : k = 0 ∨ k = 1 ∨ k = 2 ∨ k = 3 ∨ k = 4 ∨ k = 5 ∨ k = 6 ∨ k = 7 ∨ k = 8 := by omega
  rcases hk9 with rfl | rfl | rfl | rfl | rfl | rfl | rfl | rfl | rfl
  · obtain ⟨s', S2, e, p, q⟩ := beside_last v hm bs S1
    simp only [oD_none, oD_some] at e
    refine ⟨s', S2, ?_, p, q⟩
    simp only [F__law_strip_beside, m__law_strip_beside, sD, sL, qD, oD_none, oD_some, x_def, startE, x_seq, x_nx, x_rt, x_bk, x_ct, x_bind, x_pure, x_c, x_nil, x_cons, x_tup, x_lst, x_op2, x_op1, x_tru, x_notT, x_ite, x_ifS, x_andT, x_orT, x_and, x_or, x_chain, x_bi, x_biF, x_call, x_perm, x_it, x_ret, x_drop, x_next, x_set, x_setF, x_asg, x_aug, x_for, x_comp, x_cat, x_dSub, x_dAdd, x_dAddI, x_dLt, x_dLe, x_dGt, x_dGe, x_dNeg, x_dNot, x_dTru, x_dEq, x_dNe, x_var0, x_varS, Option.bind_some, Option.map_some, List.map_cons, List.map_nil, List.length_cons, List.length_nil, List.replicate_succ, List.replicate_zero, List.cons_append, List.nil_append, List.set_cons_zero, List.set_cons_succ, Bool.not_true, Bool.not_false, Bool.false_eq_true, if_true, if_false, decide_true, decide_false, decide_eq_true_eq, dIsN, dNotN, dIdx, dItems, at_int, at0, at1, at2, at3, cut2, gN, gT, gCo, gNl, wipeE, x_for_nil, x_for_cons, x_turn_nx, x_turn_ct, x_turn_bk, x_turn_rt, x_comp_nil, x_comp_cons, sz2, sz4, i_lt_int, i_lt_bl, i_lt_non, i_lt_lst, i_lt_tup, i_i_int, i_i_bl, i_b_int, i_b_bl, i_b_non, i_b_lst, i_b_tup, i_l_int, i_l_bl, i_l_non, i_l_lst, i_l_tup, i_t_int, i_t_lst, i_t_tup, i_d_int, i_d_bl, i_d_non, i_d_lst, i_d_tup, i_ltd_int, i_ltd_bl, i_ltd_non, l_lst, l_tup, t_lst, t_tup, a_lst, b_nil, b_cons, cut_lst, cut_tup, x_dEqb, x_dNeb, x_dEqn, x_zip, x_range1, x_range2, Int.cast_ofNat_Int, Nat.zero_add, List.all_cons, List.all_nil, id, Bool.and_true, Bool.true_and, Bool.and_false, Bool.false_and, Bool.or_true, Bool.true_or, Bool.or_false, Bool.false_or, Nat.reduceAdd, Nat.reduceSub, Int.reduceEq, Int.reduceLT, Int.reduceLE, Int.reduceNeg, szl0, szl1, szl2, szl3, szl4, szl5, szl6, szl7, szl8, szl9, szl10, x_extend, x_append, x_borT, x_frz, x_idxO, List.getElem?_cons_zero, List.getElem?_cons_succ, x_notIn, x_isIn, rg_m1, rg_m2, rg_2, rg_3, rg_5, x_abs, x_int, x_rep2, Int.reduceAdd, Int.reduceSub, Int.reduceToNat, and_self, ram3, rbm3, ram2, rbm2, ram1, rbm1, ra0, rb0, ra1, rb1, ra2, rb2, ra3, rb3, ra4, rb4, ra5, rb5, ra6, rb6, ra7, rb7, ra8, rb8, ra9, rb9, ra10, rb10, ra11, rb11, ra12, rb12, ra13, rb13, ra20, rb20, ra24, rb24, ek, hm, e]
  · obtain ⟨s', S2, e, p, q⟩ := beside_last v hm bs S1
    simp only [oD_none, oD_some] at e
    refine ⟨s', S2, ?_, p, q⟩
    simp only [F__law_strip_beside, m__law_strip_beside, sD, sL, qD, oD_none, oD_some, x_def, startE, x_seq, x_nx, x_rt, x_bk, x_ct, x_bind, x_pure, x_c, x_nil, x_cons, x_tup, x_lst, x_op2, x_op1, x_tru, x_notT, x_ite, x_ifS, x_andT, x_orT, x_and, x_or, x_chain, x_bi, x_biF, x_call, x_perm, x_it, x_ret, x_drop, x_next, x_set, x_setF, x_asg, x_aug, x_for, x_comp, x_cat, x_dSub, x_dAdd, x_dAddI, x_dLt, x_dLe, x_dGt, x_dGe, x_dNeg, x_dNot, x_dTru, x_dEq, x_dNe, x_var0, x_varS, Option.bind_some, Option.map_some, List.map_cons, List.map_nil, List.length_cons, List.length_nil, List.replicate_succ, List.replicate_zero, List.cons_append, List.nil_append, List.set_cons_zero, List.set_cons_succ, Bool.not_true, Bool.not_false, Bool.false_eq_true, if_true, if_false, decide_true, decide_false, decide_eq_true_eq, dIsN, dNotN, dIdx, dItems, at_int, at0, at1, at2, at3, cut2, gN, gT, gCo, gNl, wipeE, x_for_nil, x_for_cons, x_turn_nx, x_turn_ct, x_turn_bk, x_turn_rt, x_comp_nil, x_comp_cons, sz2, sz4, i_lt_int, i_lt_bl, i_lt_non, i_lt_lst, i_lt_tup, i_i_int, i_i_bl, i_b_int, i_b_bl, i_b_non, i_b_lst, i_b_tup, i_l_int, i_l_bl, i_l_non, i_l_lst, i_l_tup, i_t_int, i_t_lst, i_t_tup, i_d_int, i_d_bl, i_d_non, i_d_lst, i_d_tup, i_ltd_int, i_ltd_bl, i_ltd_non, l_lst, l_tup, t_lst, t_tup, a_lst, b_nil, b_cons, cut_lst, cut_tup, x_dEqb, x_dNeb, x_dEqn, x_zip, x_range1, x_range2, Int.cast_ofNat_Int, Nat.zero_add, List.all_cons, List.all_nil, id, Bool.and_true, Bool.true_and, Bool.and_false, Bool.false_and, Bool.or_true, Bool.true_or, Bool.or_false, Bool.false_or, Nat.reduceAdd, Nat.reduceSub, Int.reduceEq, Int.reduceLT, Int.reduceLE, Int.reduceNeg, szl0, szl1, szl2, szl3, szl4, szl5, szl6, szl7, szl8, szl9, szl10, x_extend, x_append, x_borT, x_frz, x_idxO, List.getElem?_cons_zero, List.getElem?_cons_succ, x_notIn, x_isIn, rg_m1, rg_m2, rg_2, rg_3, rg_5, x_abs, x_int, x_rep2, Int.reduceAdd, Int.reduceSub, Int.reduceToNat, and_self, ram3, rbm3, ram2, rbm2, ram1, rbm1, ra0, rb0, ra1, rb1, ra2, rb2, ra3, rb3, ra4, rb4, ra5, rb5, ra6, rb6, ra7, rb7, ra8, rb8, ra9, rb9, ra10, rb10, ra11, rb11, ra12, rb12, ra13, rb13, ra20, rb20, ra24, rb24, ek, hm, e]
  · obtain ⟨s', S2, e, p, q⟩ := beside_last v hm bs S1
    simp only [oD_none, oD_some] at e
    refine ⟨s', S2, ?_, p, q⟩
    simp only [F__law_strip_beside, m__law_strip_beside, sD, sL, qD, oD_none, oD_some, x_def, startE, x_seq, x_nx, x_rt, x_bk, x_ct, x_bind, x_pure, x_c, x_nil, x_cons, x_tup, x_lst, x_op2, x_op1, x_tru, x_notT, x_ite, x_ifS, x_andT, x_orT, x_and, x_or, x_chain, x_bi, x_biF, x_call, x_perm, x_it, x_ret, x_drop, x_next, x_set, x_setF, x_asg, x_aug, x_for, x_comp, x_cat, x_dSub, x_dAdd, x_dAddI, x_dLt, x_dLe, x_dGt, x_dGe, x_dNeg, x_dNot, x_dTru, x_dEq, x_dNe, x_var0, x_varS, Option.bind_some, Option.map_some, List.map_cons, List.map_nil, List.length_cons, List.length_nil, List.replicate_succ, List.replicate_zero, List.cons_append, List.nil_append, List.set_cons_zero, List.set_cons_succ, Bool.not_true, Bool.not_false, Bool.false_eq_true, if_true, if_false, decide_true, decide_false, decide_eq_true_eq, dIsN, dNotN, dIdx, dItems, at_int, at0, at1, at2, at3, cut2, gN, gT, gCo, gNl, wipeE, x_for_nil, x_for_cons, x_turn_nx, x_turn_ct, x_turn_bk, x_turn_rt, x_comp_nil, x_comp_cons, sz2, sz4, i_lt_int, i_lt_bl, i_lt_non, i_lt_lst, i_lt_tup, i_i_int, i_i_bl, i_b_int, i_b_bl, i_b_non, i_b_lst, i_b_tup, i_l_int, i_l_bl, i_l_non, i_l_lst, i_l_tup, i_t_int, i_t_lst, i_t_tup, i_d_int, i_d_bl, i_d_non, i_d_lst, i_d_tup, i_ltd_int, i_ltd_bl, i_ltd_non, l_lst, l_tup, t_lst, t_tup, a_lst, b_nil, b_cons, cut_lst, cut_tup, x_dEqb, x_dNeb, x_dEqn, x_zip, x_range1, x_range2, Int.cast_ofNat_Int, Nat.zero_add, List.all_cons, List.all_nil, id, Bool.and_true, Bool.true_and, Bool.and_false, Bool.false_and, Bool.or_true, Bool.true_or, Bool.or_false, Bool.false_or, Nat.reduceAdd, Nat.reduceSub, Int.reduceEq, Int.reduceLT, Int.reduceLE, Int.reduceNeg, szl0, szl1, szl2, szl3, szl4, szl5, szl6, szl7, szl8, szl9, szl10, x_extend, x_append, x_borT, x_frz, x_idxO, List.getElem?_cons_zero, List.getElem?_cons_succ, x_notIn, x_isIn, rg_m1, rg_m2, rg_2, rg_3, rg_5, x_abs, x_int, x_rep2, Int.reduceAdd, Int.reduceSub, Int.reduceToNat, and_self, ram3, rbm3, ram2, rbm2, ram1, rbm1, ra0, rb0, ra1, rb1, ra2, rb2, ra3, rb3, ra4, rb4, ra5, rb5, ra6, rb6, ra7, rb7, ra8, rb8, ra9, rb9, ra10, rb10, ra11, rb11, ra12, rb12, ra13, rb13, ra20, rb20, ra24, rb24, ek, hm, e]
  · obtain ⟨s', S2, e, p, q⟩ := beside_last v hm bs S1
    simp only [oD_none, oD_some] at e
    refine ⟨s', S2, ?_, p, q⟩
    simp only [F__law_strip_beside, m__law_strip_beside, sD, sL, qD, oD_none, oD_some, x_def, startE, x_seq, x_nx, x_rt, x_bk, x_ct, x_bind, x_pure, x_c, x_nil, x_cons, x_tup, x_lst, x_op2, x_op1, x_tru, x_notT, x_ite, x_ifS, x_andT, x_orT, x_and, x_or, x_chain, x_bi, x_biF, x_call, x_perm, x_it, x_ret, x_drop, x_next, x_set, x_setF, x_asg, x_aug, x_for, x_comp, x_cat, x_dSub, x_dAdd, x_dAddI, x_dLt, x_dLe, x_dGt, x_dGe, x_dNeg, x_dNot, x_dTru, x_dEq, x_dNe, x_var0, x_varS, Option.bind_some, Option.map_some, List.map_cons, List.map_nil, List.length_cons, List.length_nil, List.replicate_succ, List.replicate_zero, List.cons_append, List.nil_append, List.set_cons_zero, List.set_cons_succ, Bool.not_true, Bool.not_false, Bool.false_eq_true, if_true, if_false, decide_true, decide_false, decide_eq_true_eq, dIsN, dNotN, dIdx, dItems, at_int, at0, at1, at2, at3, cut2, gN, gT, gCo, gNl, wipeE, x_for_nil, x_for_cons, x_turn_nx, x_turn_ct, x_turn_bk, x_turn_rt, x_comp_nil, x_comp_cons, sz2, sz4, i_lt_int, i_lt_bl, i_lt_non, i_lt_lst, i_lt_tup, i_i_int, i_i_bl, i_b_int, i_b_bl, i_b_non, i_b_lst, i_b_tup, i_l_int, i_l_bl, i_l_non, i_l_lst, i_l_tup, i_t_int, i_t_lst, i_t_tup, i_d_int, i_d_bl, i_d_non, i_d_lst, i_d_tup, i_ltd_int, i_ltd_bl, i_ltd_non, l_lst, l_tup, t_lst, t_tup, a_lst, b_nil, b_cons, cut_lst, cut_tup, x_dEqb, x_dNeb, x_dEqn, x_zip, x_range1, x_range2, Int.cast_ofNat_Int, Nat.zero_add, List.all_cons, List.all_nil, id, Bool.and_true, Bool.true_and, Bool.and_false, Bool.false_and, Bool.or_true, Bool.true_or, Bool.or_false, Bool.false_or, Nat.reduceAdd, Nat.reduceSub, Int.reduceEq, Int.reduceLT, Int.reduceLE, Int.reduceNeg, szl0, szl1, szl2, szl3, szl4, szl5, szl6, szl7, szl8, szl9, szl10, x_extend, x_append, x_borT, x_frz, x_idxO, List.getElem?_cons_zero, List.getElem?_cons_succ, x_notIn, x_isIn, rg_m1, rg_m2, rg_2, rg_3, rg_5, x_abs, x_int, x_rep2, Int.reduceAdd, Int.reduceSub, Int.reduceToNat, and_self, ram3, rbm3, ram2, rbm2, ram1, rbm1, ra0, rb0, ra1, rb1, ra2, rb2, ra3, rb3, ra4, rb4, ra5, rb5, ra6, rb6, ra7, rb7, ra8, rb8, ra9, rb9, ra10, rb10, ra11, rb11, ra12, rb12, ra13, rb13, ra20, rb20, ra24, rb24, ek, hm, e]
  · obtain ⟨s', e, p, q⟩ := bb (none) (none) (2 * m) r S1 (by omega) (sm_none) (sm_none) (by omega) (by omega)
    simp only [oD_none, oD_some] at e
    refine ⟨s', S1, ?_, p, q⟩
    simp only [F__law_strip_beside, m__law_strip_beside, sD, sL, qD, oD_none, oD_some, x_def, startE, x_seq, x_nx, x_rt, x_bk, x_ct, x_bind, x_pure, x_c, x_nil, x_cons, x_tup, x_lst, x_op2, x_op1, x_tru, x_notT, x_ite, x_ifS, x_andT, x_orT, x_and, x_or, x_chain, x_bi, x_biF, x_call, x_perm, x_it, x_ret, x_drop, x_next, x_set, x_setF, x_asg, x_aug, x_for, x_comp, x_cat, x_dSub, x_dAdd, x_dAddI, x_dLt, x_dLe, x_dGt, x_dGe, x_dNeg, x_dNot, x_dTru, x_dEq, x_dNe, x_var0, x_varS, Option.bind_some, Option.map_some, List.map_cons, List.map_nil, List.length_cons, List.length_nil, List.replicate_succ, List.replicate_zero, List.cons_append, List.nil_append, List.set_cons_zero, List.set_cons_succ, Bool.not_true, Bool.not_false, Bool.false_eq_true, if_true, if_false, decide_true, decide_false, decide_eq_true_eq, dIsN, dNotN, dIdx, dItems, at_int, at0, at1, at2, at3, cut2, gN, gT, gCo, gNl, wipeE, x_for_nil, x_for_cons, x_turn_nx, x_turn_ct, x_turn_bk, x_turn_rt, x_comp_nil, x_comp_cons, sz2, sz4, i_lt_int, i_lt_bl, i_lt_non, i_lt_lst, i_lt_tup, i_i_int, i_i_bl, i_b_int, i_b_bl, i_b_non, i_b_lst, i_b_tup, i_l_int, i_l_bl, i_l_non, i_l_lst, i_l_tup, i_t_int, i_t_lst, i_t_tup, i_d_int, i_d_bl, i_d_non, i_d_lst, i_d_tup, i_ltd_int, i_ltd_bl, i_ltd_non, l_lst, l_tup, t_lst, t_tup, a_lst, b_nil, b_cons, cut_lst, cut_tup, x_dEqb, x_dNeb, x_dEqn, x_zip, x_range1, x_range2, Int.cast_ofNat_Int, Nat.zero_add, List.all_cons, List.all_nil, id, Bool.and_true, Bool.true_and, Bool.and_false, Bool.false_and, Bool.or_true, Bool.true_or, Bool.or_false, Bool.false_or, Nat.reduceAdd, Nat.reduceSub, Int.reduceEq, Int.reduceLT, Int.reduceLE, Int.reduceNeg, szl0, szl1, szl2, szl3, szl4, szl5, szl6, szl7, szl8, szl9, szl10, x_extend, x_append, x_borT, x_frz, x_idxO, List.getElem?_cons_zero, List.getElem?_cons_succ, x_notIn, x_isIn, rg_m1, rg_m2, rg_2, rg_3, rg_5, x_abs, x_int, x_rep2, Int.reduceAdd, Int.reduceSub, Int.reduceToNat, and_self, ram3, rbm3, ram2, rbm2, ram1, rbm1, ra0, rb0, ra1, rb1, ra2, rb2, ra3, rb3, ra4, rb4, ra5, rb5, ra6, rb6, ra7, rb7, ra8, rb8, ra9, rb9, ra10, rb10, ra11, rb11, ra12, rb12, ra13, rb13, ra20, rb20, ra24, rb24, ek, hm, k_mul (m := m) (by omega : m.natAbs < 2 ^ 900) 2 (by decide), e]
  · by_cases hp : m % 2 = 0
    · obtain ⟨s', e, p, q⟩ := bb (none) (none) (m / 2) r S1 (by omega) (sm_none) (sm_none) (by omega) (by omega)
      simp only [oD_none, oD_some] at e
      refine ⟨s', S1, ?_, p, q⟩
      simp only [F__law_strip_beside, m__law_strip_beside, sD, sL, qD, oD_none, oD_some, x_def, startE, x_seq, x_nx, x_rt, x_bk, x_ct, x_bind, x_pure, x_c, x_nil, x_cons, x_tup, x_lst, x_op2, x_op1, x_tru, x_notT, x_ite, x_ifS, x_andT, x_orT, x_and, x_or, x_chain, x_bi, x_biF, x_call, x_perm, x_it, x_ret, x_drop, x_next, x_set, x_setF, x_asg, x_aug, x_for, x_comp, x_cat, x_dSub, x_dAdd, x_dAddI, x_dLt, x_dLe, x_dGt, x_dGe, x_dNeg, x_dNot, x_dTru, x_dEq, x_dNe, x_var0, x_varS, Option.bind_some, Option.map_some, List.map_cons, List.map_nil, List.length_cons, List.length_nil, List.replicate_succ, List.replicate_zero, List.cons_append, List.nil_append, List.set_cons_zero, List.set_cons_succ, Bool.not_true, Bool.not_false, Bool.false_eq_true, if_true, if_false, decide_true, decide_false, decide_eq_true_eq, dIsN, dNotN, dIdx, dItems, at_int, at0, at1, at2, at3, cut2, gN, gT, gCo, gNl, wipeE, x_for_nil, x_for_cons, x_turn_nx, x_turn_ct, x_turn_bk, x_turn_rt, x_comp_nil, x_comp_cons, sz2, sz4, i_lt_int, i_lt_bl, i_lt_non, i_lt_lst, i_lt_tup, i_i_int, i_i_bl, i_b_int, i_b_bl, i_b_non, i_b_lst, i_b_tup, i_l_int, i_l_bl, i_l_non, i_l_lst, i_l_tup, i_t_int, i_t_lst, i_t_tup, i_d_int, i_d_bl, i_d_non, i_d_lst, i_d_tup, i_ltd_int, i_ltd_bl, i_ltd_non, l_lst, l_tup, t_lst, t_tup, a_lst, b_nil, b_cons, cut_lst, cut_tup, x_dEqb, x_dNeb, x_dEqn, x_zip, x_range1, x_range2, Int.cast_ofNat_Int, Nat.zero_add, List.all_cons, List.all_nil, id, Bool.and_true, Bool.true_and, Bool.and_false, Bool.false_and, Bool.or_true, Bool.true_or, Bool.or_false, Bool.false_or, Nat.reduceAdd, Nat.reduceSub, Int.reduceEq, Int.reduceLT, Int.reduceLE, Int.reduceNeg, szl0, szl1, szl2, szl3, szl4, szl5, szl6, szl7, szl8, szl9, szl10, x_extend, x_append, x_borT, x_frz, x_idxO, List.getElem?_cons_zero, List.getElem?_cons_succ, x_notIn, x_isIn, rg_m1, rg_m2, rg_2, rg_3, rg_5, x_abs, x_int, x_rep2, Int.reduceAdd, Int.reduceSub, Int.reduceToNat, and_self, ram3, rbm3, ram2, rbm2, ram1, rbm1, ra0, rb0, ra1, rb1, ra2, rb2, ra3, rb3, ra4, rb4, ra5, rb5, ra6, rb6, ra7, rb7, ra8, rb8, ra9, rb9, ra10, rb10, ra11, rb11, ra12, rb12, ra13, rb13, ra20, rb20, ra24, rb24, ek, hm, x_dMod (i := m) (j := 2) (by decide), hp, dDiv_ok (i := m) (j := 2) (by decide) (by decide), e]
    · obtain ⟨s', e, p, q⟩ := bb (none) (none) 1 r S1 (by omega) (sm_none) (sm_none) (by omega) (by omega)
      simp only [oD_none, oD_some] at e
      refine ⟨s', S1, ?_, p, q⟩
      simp only [F__law_strip_beside, m__law_strip_beside, sD, sL, qD, oD_none, oD_some, x_def, startE, x_seq, x_nx, x_rt, x_bk, x_ct, x_bind, x_pure, x_c, x_nil, x_cons, x_tup, x_lst, x_op2, x_op1, x_tru, x_notT, x_ite, x_ifS, x_andT, x_orT, x_and, x_or, x_chain, x_bi, x_biF, x_call, x_perm, x_it, x_ret, x_drop, x_next, x_set, x_setF, x_asg, x_aug, x_for, x_comp, x_cat, x_dSub, x_dAdd, x_dAddI, x_dLt, x_dLe, x_dGt, x_dGe, x_dNeg, x_dNot, x_dTru, x_dEq, x_dNe, x_var0, x_varS, Option.bind_some, Option.map_some, List.map_cons, List.map_nil, List.length_cons, List.length_nil, List.replicate_succ, List.replicate_zero, List.cons_append, List.nil_append, List.set_cons_zero, List.set_cons_succ, Bool.not_true, Bool.not_false, Bool.false_eq_true, if_true, if_false, decide_true, decide_false, decide_eq_true_eq, dIsN, dNotN, dIdx, dItems, at_int, at0, at1, at2, at3, cut2, gN, gT, gCo, gNl, wipeE, x_for_nil, x_for_cons, x_turn_nx, x_turn_ct, x_turn_bk, x_turn_rt, x_comp_nil, x_comp_cons, sz2, sz4, i_lt_int, i_lt_bl, i_lt_non, i_lt_lst, i_lt_tup, i_i_int, i_i_bl, i_b_int, i_b_bl, i_b_non, i_b_lst, i_b_tup, i_l_int, i_l_bl, i_l_non, i_l_lst, i_l_tup, i_t_int, i_t_lst, i_t_tup, i_d_int, i_d_bl, i_d_non, i_d_lst, i_d_tup, i_ltd_int, i_ltd_bl, i_ltd_non, l_lst, l_tup, t_lst, t_tup, a_lst, b_nil, b_cons, cut_lst, cut_tup, x_dEqb, x_dNeb, x_dEqn, x_zip, x_range1, x_range2, Int.cast_ofNat_Int, Nat.zero_add, List.all_cons, List.all_nil, id, Bool.and_true, Bool.true_and, Bool.and_false, Bool.false_and, Bool.or_true, Bool.true_or, Bool.or_false, Bool.false_or, Nat.reduceAdd, Nat.reduceSub, Int.reduceEq, Int.reduceLT, Int.reduceLE, Int.reduceNeg, szl0, szl1, szl2, szl3, szl4, szl5, szl6, szl7, szl8, szl9, szl10, x_extend, x_append, x_borT, x_frz, x_idxO, List.getElem?_cons_zero, List.getElem?_cons_succ, x_notIn, x_isIn, rg_m1, rg_m2, rg_2, rg_3, rg_5, x_abs, x_int, x_rep2, Int.reduceAdd, Int.reduceSub, Int.reduceToNat, and_self, ram3, rbm3, ram2, rbm2, ram1, rbm1, ra0, rb0, ra1, rb1, ra2, rb2, ra3, rb3, ra4, rb4, ra5, rb5, ra6, rb6, ra7, rb7, ra8, rb8, ra9, rb9, ra10, rb10, ra11, rb11, ra12, rb12, ra13, rb13, ra20, rb20, ra24, rb24, ek, hm, x_dMod (i := m) (j := 2) (by decide), hp, e]
  · obtain ⟨s', e, p, q⟩ := bb (none) (none) m (r + 1) S1 (by omega) (sm_none) (sm_none) (by omega) (by omega)
    simp only [oD_none, oD_some] at e
    refine ⟨s', S1, ?_, p, q⟩
    simp only [F__law_strip_beside, m__law_strip_beside, sD, sL, qD, oD_none, oD_some, x_def, startE, x_seq, x_nx, x_rt, x_bk, x_ct, x_bind, x_pure, x_c, x_nil, x_cons, x_tup, x_lst, x_op2, x_op1, x_tru, x_notT, x_ite, x_ifS, x_andT, x_orT, x_and, x_or, x_chain, x_bi, x_biF, x_call, x_perm, x_it, x_ret, x_drop, x_next, x_set, x_setF, x_asg, x_aug, x_for, x_comp, x_cat, x_dSub, x_dAdd, x_dAddI, x_dLt, x_dLe, x_dGt, x_dGe, x_dNeg, x_dNot, x_dTru, x_dEq, x_dNe, x_var0, x_varS, Option.bind_some, Option.map_some, List.map_cons, List.map_nil, List.length_cons, List.length_nil, List.replicate_succ, List.replicate_zero, List.cons_append, List.nil_append, List.set_cons_zero, List.set_cons_succ, Bool.not_true, Bool.not_false, Bool.false_eq_true, if_true, if_false, decide_true, decide_false, decide_eq_true_eq, dIsN, dNotN, dIdx, dItems, at_int, at0, at1, at2, at3, cut2, gN, gT, gCo, gNl, wipeE, x_for_nil, x_for_cons, x_turn_nx, x_turn_ct, x_turn_bk, x_turn_rt, x_comp_nil, x_comp_cons, sz2, sz4, i_lt_int, i_lt_bl, i_lt_non, i_lt_lst, i_lt_tup, i_i_int, i_i_bl, i_b_int, i_b_bl, i_b_non, i_b_lst, i_b_tup, i_l_int, i_l_bl, i_l_non, i_l_lst, i_l_tup, i_t_int, i_t_lst, i_t_tup, i_d_int, i_d_bl, i_d_non, i_d_lst, i_d_tup, i_ltd_int, i_ltd_bl, i_ltd_non, l_lst, l_tup, t_lst, t_tup, a_lst, b_nil, b_cons, cut_lst, cut_tup, x_dEqb, x_dNeb, x_dEqn, x_zip, x_range1, x_range2, Int.cast_ofNat_Int, Nat.zero_add, List.all_cons, List.all_nil, id, Bool.and_true, Bool.true_and, Bool.and_false, Bool.false_and, Bool.or_true, Bool.true_or, Bool.or_false, Bool.false_or, Nat.reduceAdd, Nat.reduceSub, Int.reduceEq, Int.reduceLT, Int.reduceLE, Int.reduceNeg, szl0, szl1, szl2, szl3, szl4, szl5, szl6, szl7, szl8, szl9, szl10, x_extend, x_append, x_borT, x_frz, x_idxO, List.getElem?_cons_zero, List.getElem?_cons_succ, x_notIn, x_isIn, rg_m1, rg_m2, rg_2, rg_3, rg_5, x_abs, x_int, x_rep2, Int.reduceAdd, Int.reduceSub, Int.reduceToNat, and_self, ram3, rbm3, ram2, rbm2, ram1, rbm1, ra0, rb0, ra1, rb1, ra2, rb2, ra3, rb3, ra4, rb4, ra5, rb5, ra6, rb6, ra7, rb7, ra8, rb8, ra9, rb9, ra10, rb10, ra11, rb11, ra12, rb12, ra13, rb13, ra20, rb20, ra24, rb24, ek, hm, e]
  · obtain ⟨s', S2, e, p, q⟩ := beside_last v hm bs S1
    simp only [oD_none, oD_some] at e
    refine ⟨s', S2, ?_, p, q⟩
    simp only [F__law_strip_beside, m__law_strip_beside, sD, sL, qD, oD_none, oD_some, x_def, startE, x_seq, x_nx, x_rt, x_bk, x_ct, x_bind, x_pure, x_c, x_nil, x_cons, x_tup, x_lst, x_op2, x_op1, x_tru, x_notT, x_ite, x_ifS, x_andT, x_orT, x_and, x_or, x_chain, x_bi, x_biF, x_call, x_perm, x_it, x_ret, x_drop, x_next, x_set, x_setF, x_asg, x_aug, x_for, x_comp, x_cat, x_dSub, x_dAdd, x_dAddI, x_dLt, x_dLe, x_dGt, x_dGe, x_dNeg, x_dNot, x_dTru, x_dEq, x_dNe, x_var0, x_varS, Option.bind_some, Option.map_some, List.map_cons, List.map_nil, List.length_cons, List.length_nil, List.replicate_succ, List.replicate_zero, List.cons_append, List.nil_append, List.set_cons_zero, List.set_cons_succ, Bool.not_true, Bool.not_false, Bool.false_eq_true, if_true, if_false, decide_true, decide_false, decide_eq_true_eq, dIsN, dNotN, dIdx, dItems, at_int, at0, at1, at2, at3, cut2, gN, gT, gCo, gNl, wipeE, x_for_nil, x_for_cons, x_turn_nx, x_turn_ct, x_turn_bk, x_turn_rt, x_comp_nil, x_comp_cons, sz2, sz4, i_lt_int, i_lt_bl, i_lt_non, i_lt_lst, i_lt_tup, i_i_int, i_i_bl, i_b_int, i_b_bl, i_b_non, i_b_lst, i_b_tup, i_l_int, i_l_bl, i_l_non, i_l_lst, i_l_tup, i_t_int, i_t_lst, i_t_tup, i_d_int, i_d_bl, i_d_non, i_d_lst, i_d_tup, i_ltd_int, i_ltd_bl, i_ltd_non, l_lst, l_tup, t_lst, t_tup, a_lst, b_nil, b_cons, cut_lst, cut_tup, x_dEqb, x_dNeb, x_dEqn, x_zip, x_range1, x_range2, Int.cast_ofNat_Int, Nat.zero_add, List.all_cons, List.all_nil, id, Bool.and_true, Bool.true_and, Bool.and_false, Bool.false_and, Bool.or_true, Bool.true_or, Bool.or_false, Bool.false_or, Nat.reduceAdd, Nat.reduceSub, Int.reduceEq, Int.reduceLT, Int.reduceLE, Int.reduceNeg, szl0, szl1, szl2, szl3, szl4, szl5, szl6, szl7, szl8, szl9, szl10, x_extend, x_append, x_borT, x_frz, x_idxO, List.getElem?_cons_zero, List.getElem?_cons_succ, x_notIn, x_isIn, rg_m1, rg_m2, rg_2, rg_3, rg_5, x_abs, x_int, x_rep2, Int.reduceAdd, Int.reduceSub, Int.reduceToNat, and_self, ram3, rbm3, ram2, rbm2, ram1, rbm1, ra0, rb0, ra1, rb1, ra2, rb2, ra3, rb3, ra4, rb4, ra5, rb5, ra6, rb6, ra7, rb7, ra8, rb8, ra9, rb9, ra10, rb10, ra11, rb11, ra12, rb12, ra13, rb13, ra20, rb20, ra24, rb24, ek, hm, e]
  · obtain ⟨s', S2, e, p, q⟩ := beside_last v hm bs S1
    simp only [oD_none, oD_some] at e
    refine ⟨s', S2, ?_, p, q⟩
    simp only [F__law_strip_beside, m__law_strip_beside, sD, sL, qD, oD_none, oD_some, x_def, startE, x_seq, x_nx, x_rt, x_bk, x_ct, x_bind, x_pure, x_c, x_nil, x_cons, x_tup, x_lst, x_op2, x_op1, x_tru, x_notT, x_ite, x_ifS, x_andT, x_orT, x_and, x_or, x_chain, x_bi, x_biF, x_call, x_perm, x_it, x_ret, x_drop, x_next, x_set, x_setF, x_asg, x_aug, x_for, x_comp, x_cat, x_dSub, x_dAdd, x_dAddI, x_dLt, x_dLe, x_dGt, x_dGe, x_dNeg, x_dNot, x_dTru, x_dEq, x_dNe, x_var0, x_varS, Option.bind_some, Option.map_some, List.map_cons, List.map_nil, List.length_cons, List.length_nil, List.replicate_succ, List.replicate_zero, List.cons_append, List.nil_append, List.set_cons_zero, List.set_cons_succ, Bool.not_true, Bool.not_false, Bool.false_eq_true, if_true, if_false, decide_true, decide_false, decide_eq_true_eq, dIsN, dNotN, dIdx, dItems, at_int, at0, at1, at2, at3, cut2, gN, gT, gCo, gNl, wipeE, x_for_nil, x_for_cons, x_turn_nx, x_turn_ct, x_turn_bk, x_turn_rt, x_comp_nil, x_comp_cons, sz2, sz4, i_lt_int, i_lt_bl, i_lt_non, i_lt_lst, i_lt_tup, i_i_int, i_i_bl, i_b_int, i_b_bl, i_b_non, i_b_lst, i_b_tup, i_l_int, i_l_bl, i_l_non, i_l_lst, i_l_tup, i_t_int, i_t_lst, i_t_tup, i_d_int, i_d_bl, i_d_non, i_d_lst, i_d_tup, i_ltd_int, i_ltd_bl, i_ltd_non, l_lst, l_tup, t_lst, t_tup, a_lst, b_nil, b_cons, cut_lst, cut_tup, x_dEqb, x_dNeb, x_dEqn, x_zip, x_range1, x_range2, Int.cast_ofNat_Int, Nat.zero_add, List.all_cons, List.all_nil, id, Bool.and_true, Bool.true_and, Bool.and_false, Bool.false_and, Bool.or_true, Bool.true_or, Bool.or_false, Bool.false_or, Nat.reduceAdd, Nat.reduceSub, Int.reduceEq, Int.reduceLT, Int.reduceLE, Int.reduceNeg, szl0, szl1, szl2, szl3, szl4, szl5, szl6, szl7, szl8, szl9, szl10, x_extend, x_append, x_borT, x_frz, x_idxO, List.getElem?_cons_zero, List.getElem?_cons_succ, x_notIn, x_isIn, rg_m1, rg_m2, rg_2, rg_3, rg_5, x_abs, x_int, x_rep2, Int.reduceAdd, Int.reduceSub, Int.reduceToNat, and_self, ram3, rbm3, ram2, rbm2, ram1, rbm1, ra0, rb0, ra1, rb1, ra2, rb2, ra3, rb3, ra4, rb4, ra5, rb5, ra6, rb6, ra7, rb7, ra8, rb8, ra9, rb9, ra10, rb10, ra11, rb11, ra12, rb12, ra13, rb13, ra20, rb20, ra24, rb24, ek, hm, e]
theorem beside_1 {a : Int} {m r : Int} (v : Vd (some (some a, none, m, r))) (hm : m ≠ 0) (bs : Bs 202 (some (some a, none, m, r))) (S : Strm) :
    ∃ s' S', F__law_strip_beside [.strm, sD (some (some a, none, m, r))] S = some (sD s', S') ∧ Vd s' ∧ Bs 212 s' := by
  obtain ⟨k, S1, hk, ek⟩ := x_draw_at S (m := 9) (by decide)
  have ⟨b1, b2, b3, b4⟩ := bs
  have pm := (v.rest hm).1
  have b1 := b1 a rfl
  have hk9 : k = 0 ∨ k = 1 ∨ k = 2 ∨ k = 3 ∨ k = 4 ∨ k = 5 ∨ k = 6 ∨ k = 7 ∨ k = 8 := by omega
  rcases hk9 with rfl | rfl | rfl | rfl | rfl | rfl | rfl | rfl | rfl
  · obtain ⟨s', e, p, q⟩ := bb (some (a + m)) (none) m r S1 (by omega) (sm_some (by omega)) (sm_none) (by omega) (by omega)
    simp only [oD_none, oD_some] at e
    refine ⟨s', S1, ?_, p, q⟩
    simp only [F__law_strip_beside, m__law_strip_beside, sD, sL, qD, oD_none, oD_some, x_def, startE, x_seq, x_nx, x_rt, x_bk, x_ct, x_bind, x_pure, x_c, x_nil, x_cons, x_tup, x_lst, x_op2, x_op1, x_tru, x_notT, x_ite, x_ifS, x_andT, x_orT, x_and, x_or, x_chain, x_bi, x_biF, x_call, x_perm, x_it, x_ret, x_drop, x_next, x_set, x_setF, x_asg, x_aug, x_for, x_comp, x_cat, x_dSub, x_dAdd, x_dAddI, x_dLt, x_dLe, x_dGt, x_dGe, x_dNeg, x_dNot, x_dTru, x_dEq, x_dNe, x_var0, x_varS, Option.bind_some, Option.map_some, List.map_cons, List.map_nil, List.length_cons, List.length_nil, List.replicate_succ, List.replicate_zero, List.cons_append, List.nil_append, List.set_cons_zero, List.set_cons_succ, Bool.not_true, Bool.not_false, Bool.false_eq_true, if_true, if_false, decide_true, decide_false, decide_eq_true_eq, dIsN, dNotN, dIdx, dItems, at_int, at0, at1, at2, at3, cut2, gN, gT, gCo, gNl, wipeE, x_for_nil, x_for_cons, x_turn_nx, x_turn_ct, x_turn_bk, x_turn_rt, x_comp_nil, x_comp_cons, sz2, sz4, i_lt_int, i_lt_bl, i_lt_non, i_lt_lst, i_lt_tup, i_i_int, i_i_bl, i_b_int, i_b_bl, i_b_non, i_b_lst, i_b_tup, i_l_int, i_l_bl, i_l_non, i_l_lst, i_l_tup, i_t_int, i_t_lst, i_t_tup, i_d_int, i_d_bl, i_d_non, i_d_lst, i_d_tup, i_ltd_int, i_ltd_bl, i_ltd_non, l_lst, l_tup, t_lst, t_tup, a_lst, b_nil, b_cons, cut_lst, cut_tup, x_dEqb, x_dNeb, x_dEqn, x_zip, x_range1, x_range2, Int.cast_ofNat_Int, Nat.zero_add, List.all_cons, List.all_nil, id, Bool.and_true, Bool.true_and, Bool.and_false, Bool.false_and, Bool.or_true, Bool.true_or, Bool.or_false, Bool.false_or, Nat.reduceAdd, Nat.reduceSub, Int.reduceEq, Int.reduceLT, Int.reduceLE, Int.reduceNeg, szl0, szl1, szl2, szl3, szl4, szl5, szl6, szl7, szl8, szl9, szl10, x_extend, x_append, x_borT, x_frz, x_idxO, List.getElem?_cons_zero, List.getElem?_cons_succ, x_notIn, x_isIn, rg_m1, rg_m2, rg_2, rg_3, rg_5, x_abs, x_int, x_rep2, Int.reduceAdd, Int.reduceSub, Int.reduceToNat, and_self, ram3, rbm3, ram2, rbm2, ram1, rbm1, ra0, rb0, ra1, rb1, ra2, rb2, ra3, rb3, ra4, rb4, ra5, rb5, ra6, rb6, ra7, rb7, ra8, rb8, ra9, rb9, ra10, rb10, ra11, rb11, ra12, rb12, ra13, rb13, ra20, rb20, ra24, rb24, ek, hm, e]
  · obtain ⟨s', e, p, q⟩ := bb (some (a - m)) (none) m r S1 (by omega) (sm_some (by omega)) (sm_none) (by omega) (by omega)
    simp only [oD_none, oD_some] at e
    refine ⟨s', S1, ?_, p, q⟩
    simp only [F__law_strip_beside, m__law_strip_beside, sD, sL, qD, oD_none, oD_some, x_def, startE, x_seq, x_nx, x_rt, x_bk, x_ct, x_bind, x_pure, x_c, x_nil, x_cons, x_tup, x_lst, x_op2, x_op1, x_tru, x_notT, x_ite, x_ifS, x_andT, x_orT, x_and, x_or, x_chain, x_bi, x_biF, x_call, x_perm, x_it, x_ret, x_drop, x_next, x_set, x_setF, x_asg, x_aug, x_for, x_comp, x_cat, x_dSub, x_dAdd, x_dAddI, x_dLt, x_dLe, x_dGt, x_dGe, x_dNeg, x_dNot, x_dTru, x_dEq, x_dNe, x_var0, x_varS, Option.bind_some, Option.map_some, List.map_cons, List.map_nil, List.length_cons, List.length_nil, List.replicate_succ, List.replicate_zero, List.cons_append, List.nil_append, List.set_cons_zero, List.set_cons_succ, Bool.not_true, Bool.not_false, Bool.false_eq_true, if_true, if_false, decide_true, decide_false, decide_eq_true_eq, dIsN, dNotN, dIdx, dItems, at_int, at0, at1, at2, at3, cut2, gN, gT, gCo, gNl, wipeE, x_for_nil, x_for_cons, x_turn_nx, x_turn_ct, x_turn_bk, x_turn_rt, x_comp_nil, x_comp_cons, sz2, sz4, i_lt_int, i_lt_bl, i_lt_non, i_lt_lst, i_lt_tup, i_i_int, i_i_bl, i_b_int, i_b_bl, i_b_non, i_b_lst, i_b_tup, i_l_int, i_l_bl, i_l_non, i_l_lst, i_l_tup, i_t_int, i_t_lst, i_t_tup, i_d_int, i_d_bl, i_d_non, i_d_lst, i_d_tup, i_ltd_int, i_ltd_bl, i_ltd_non, l_lst, l_tup, t_lst, t_tup, a_lst, b_nil, b_cons, cut_lst, cut_tup, x_dEqb, x_dNeb, x_dEqn, x_zip, x_range1, x_range2, Int.cast_ofNat_Int, Nat.zero_add, List.all_cons, List.all_nil, id, Bool.and_true, Bool.true_and, Bool.and_false, Bool.false_and, Bool.or_true, Bool.true_or, Bool.or_false, Bool.false_or, Nat.reduceAdd, Nat.reduceSub, Int.reduceEq, Int.reduceLT, Int.reduceLE, Int.reduceNeg, szl0, szl1, szl2, szl3, szl4, szl5, szl6, szl7, szl8, szl9, szl10, x_extend, x_append, x_borT, x_frz, x_idxO, List.getElem?_cons_zero, List.getElem?_cons_succ, x_notIn, x_isIn, rg_m1, rg_m2, rg_2, rg_3, rg_5, x_abs, x_int, x_rep2, Int.reduceAdd, Int.reduceSub, Int.reduceToNat, and_self, ram3, rbm3, ram2, rbm2, ram1, rbm1, ra0, rb0, ra1, rb1, ra2, rb2, ra3, rb3, ra4, rb4, ra5, rb5, ra6, rb6, ra7, rb7, ra8, rb8, ra9, rb9, ra10, rb10, ra11, rb11, ra12, rb12, ra13, rb13, ra20, rb20, ra24, rb24, ek, hm, e]
  · obtain ⟨s', S2, e, p, q⟩ := beside_last v hm bs S1
    simp only [oD_none, oD_some] at e
    refine ⟨s', S2, ?_, p, q⟩
    simp only [F__law_strip_beside, m__law_strip_beside, sD, sL, qD, oD_none, oD_some, x_def, startE, x_seq, x_nx, x_rt, x_bk, x_ct, x_bind, x_pure, x_c, x_nil, x_cons, x_tup, x_lst, x_op2, x_op1, x_tru, x_notT, x_ite, x_ifS, x_andT, x_orT, x_and, x_or, x_chain, x_bi, x_biF, x_call, x_perm, x_it, x_ret, x_drop, x_next, x_set, x_setF, x_asg, x_aug, x_for, x_comp, x_cat, x_dSub, x_dAdd, x_dAddI, x_dLt, x_dLe, x_dGt, x_dGe, x_dNeg, x_dNot, x_dTru, x_dEq, x_dNe, x_var0, x_varS, Option.bind_some, Option.map_some, List.map_cons, List.map_nil, List.length_cons, List.length_nil, List.replicate_succ, List.replicate_zero, List.cons_append, List.nil_append, List.set_cons_zero, List.set_cons_succ, Bool.not_true, Bool.not_false, Bool.false_eq_true, if_true, if_false, decide_true, decide_false, decide_eq_true_eq, dIsN, dNotN, dIdx, dItems, at_int, at0, at1, at2, at3, cut2, gN, gT, gCo, gNl, wipeE, x_for_nil, x_for_cons, x_turn_nx, x_turn_ct, x_turn_bk, x_turn_rt, x_comp_nil, x_comp_cons, sz2, sz4, i_lt_int, i_lt_bl, i_lt_non, i_lt_lst, i_lt_tup, i_i_int, i_i_bl, i_b_int, i_b_bl, i_b_non, i_b_lst, i_b_tup, i_l_int, i_l_bl, i_l_non, i_l_lst, i_l_tup, i_t_int, i_t_lst, i_t_tup, i_d_int, i_d_bl, i_d_non, i_d_lst, i_d_tup, i_ltd_int, i_ltd_bl, i_ltd_non, l_lst, l_tup, t_lst, t_tup, a_lst, b_nil, b_cons, cut_lst, cut_tup, x_dEqb, x_dNeb, x_dEqn, x_zip, x_range1, x_range2, Int.cast_ofNat_Int, Nat.zero_add, List.all_cons, List.all_nil, id, Bool.and_true, Bool.true_and, Bool.and_false, Bool.false_and, Bool.or_true, Bool.true_or, Bool.or_false, Bool.false_or, Nat.reduceAdd, Nat.reduceSub, Int.reduceEq, Int.reduceLT, Int.reduceLE, Int.reduceNeg, szl0, szl1, szl2, szl3, szl4, szl5, szl6, szl7, szl8, szl9, szl10, x_extend, x_append, x_borT, x_frz, x_idxO, List.getElem?_cons_zero, List.getElem?_cons_succ, x_notIn, x_isIn, rg_m1, rg_m2, rg_2, rg_3, rg_5, x_abs, x_int, x_rep2, Int.reduceAdd, Int.reduceSub, Int.reduceToNat, and_self, ram3, rbm3, ram2, rbm2, ram1, rbm1, ra0, rb0, ra1, rb1, ra2, rb2, ra3, rb3, ra4, rb4, ra5, rb5, ra6, rb6, ra7, rb7, ra8, rb8, ra9, rb9, ra10, rb10, ra11, rb11, ra12, rb12, ra13, rb13, ra20, rb20, ra24, rb24, ek, hm, e]
  · obtain ⟨s', S2, e, p, q⟩ := beside_last v hm bs S1
    simp only [oD_none, oD_some] at e
    refine ⟨s', S2, ?_, p, q⟩
    simp only [F__law_strip_beside, m__law_strip_beside, sD, sL, qD, oD_none, oD_some, x_def, startE, x_seq, x_nx, x_rt, x_bk, x_ct, x_bind, x_pure, x_c, x_nil, x_cons, x_tup, x_lst, x_op2, x_op1, x_tru, x_notT, x_ite, x_ifS, x_andT, x_orT, x_and, x_or, x_chain, x_bi, x_biF, x_call, x_perm, x_it, x_ret, x_drop, x_next, x_set, x_setF, x_asg, x_aug, x_for, x_comp, x_cat, x_dSub, x_dAdd, x_dAddI, x_dLt, x_dLe, x_dGt, x_dGe, x_dNeg, x_dNot, x_dTru, x_dEq, x_dNe, x_var0, x_varS, Option.bind_some, Option.map_some, List.map_cons, List.map_nil, List.length_cons, List.length_nil, List.replicate_succ, List.replicate_zero, List.cons_append, List.nil_append, List.set_cons_zero, List.set_cons_succ, Bool.not_true, Bool.not_false, Bool.false_eq_true, if_true, if_false, decide_true, decide_false, decide_eq_true_eq, dIsN, dNotN, dIdx, dItems, at_int, at0, at1, at2, at3, cut2, gN, gT, gCo, gNl, wipeE, x_for_nil, x_for_cons, x_turn_nx, x_turn_ct, x_turn_bk, x_turn_rt, x_comp_nil, x_comp_cons, sz2, sz4, i_lt_int, i_lt_bl, i_lt_non, i_lt_lst, i_lt_tup, i_i_int, i_i_bl, i_b_int, i_b_bl, i_b_non, i_b_lst, i_b_tup, i_l_int, i_l_bl, i_l_non, i_l_lst, i_l_tup, i_t_int, i_t_lst, i_t_tup, i_d_int, i_d_bl, i_d_non, i_d_lst, i_d_tup, i_ltd_int, i_ltd_bl, i_ltd_non, l_lst, l_tup, t_lst, t_tup, a_lst, b_nil, b_cons, cut_lst, cut_tup, x_dEqb, x_dNeb, x_dEqn, x_zip, x_range1, x_range2, Int.cast_ofNat_Int, Nat.zero_add, List.all_cons, List.all_nil, id, Bool.and_true, Bool.true_and, Bool.and_false, Bool.false_and, Bool.or_true, Bool.true_or, Bool.or_false, Bool.false_or, Nat.reduceAdd, Nat.reduceSub, Int.reduceEq, Int.reduceLT, Int.reduceLE, Int.reduceNeg, szl0, szl1, szl2, szl3, szl4, szl5, szl6, szl7, szl8, szl9, szl10, x_extend, x_append, x_borT, x_frz, x_idxO, List.getElem?_cons_zero, List.getElem?_cons_succ, x_notIn, x_isIn, rg_m1, rg_m2, rg_2, rg_3, rg_5, x_abs, x_int, x_rep2, Int.reduceAdd, Int.reduceSub, Int.reduceToNat, and_self, ram3, rbm3, ram2, rbm2, ram1, rbm1, ra0, rb0, ra1, rb1, ra2, rb2, ra3, rb3, ra4, rb4, ra5, rb5, ra6, rb6, ra7, rb7, ra8, rb8, ra9, rb9, ra10, rb10, ra11, rb11, ra12, rb12, ra13, rb13, ra20, rb20, ra24, rb24, ek, hm, e]
  · obtain ⟨s', e, p, q⟩ := bb (some a) (none) (2 * m) r S1 (by omega) (sm_some (by omega)) (sm_none) (by omega) (by omega)
    simp only [oD_none, oD_some] at e
    refine ⟨s', S1, ?_, p, q⟩
    simp only [F__law_strip_beside, m__law_strip_beside, sD, sL, qD, oD_none, oD_some, x_def, startE, x_seq, x_nx, x_rt, x_bk, x_ct, x_bind, x_pure, x_c, x_nil, x_cons, x_tup, x_lst, x_op2, x_op1, x_tru, x_notT, x_ite, x_ifS, x_andT, x_orT, x_and, x_or, x_chain, x_bi, x_biF, x_call, x_perm, x_it, x_ret, x_drop, x_next, x_set, x_setF, x_asg, x_aug, x_for, x_comp, x_cat, x_dSub, x_dAdd, x_dAddI, x_dLt, x_dLe, x_dGt, x_dGe, x_dNeg, x_dNot, x_dTru, x_dEq, x_dNe, x_var0, x_varS, Option.bind_some, Option.map_some, List.map_cons, List.map_nil, List.length_cons, List.length_nil, List.replicate_succ, List.replicate_zero, List.cons_append, List.nil_append, List.set_cons_zero, List.set_cons_succ, Bool.not_true, Bool.not_false, Bool.false_eq_true, if_true, if_false, decide_true, decide_false, decide_eq_true_eq, dIsN, dNotN, dIdx, dItems, at_int, at0, at1, at2, at3, cut2, gN, gT, gCo, gNl, wipeE, x_for_nil, x_for_cons, x_turn_nx, x_turn_ct, x_turn_bk, x_turn_rt, x_comp_nil, x_comp_cons, sz2, sz4, i_lt_int, i_lt_bl, i_lt_non, i_lt_lst, i_lt_tup, i_i_int, i_i_bl, i_b_int, i_b_bl, i_b_non, i_b_lst, i_b_tup, i_l_int, i_l_bl, i_l_non, i_l_lst, i_l_tup, i_t_int, i_t_lst, i_t_tup, i_d_int, i_d_bl, i_d_non, i_d_lst, i_d_tup, i_ltd_int, i_ltd_bl, i_ltd_non, l_lst, l_tup, t_lst, t_tup, a_lst, b_nil, b_cons, cut_lst, cut_tup, x_dEqb, x_dNeb, x_dEqn, x_zip, x_range1, x_range2, Int.cast_ofNat_Int, Nat.zero_add, List.all_cons, List.all_nil, id, Bool.and_true, Bool.true_and, Bool.and_false, Bool.false_and, Bool.or_true, Bool.true_or, Bool.or_false, Bool.false_or, Nat.reduceAdd, Nat.reduceSub, Int.reduceEq, Int.reduceLT, Int.reduceLE, Int.reduceNeg, szl0, szl1, szl2, szl3, szl4, szl5, szl6, szl7, szl8, szl9, szl10, x_extend, x_append, x_borT, x_frz, x_idxO, List.getElem?_cons_zero, List.getElem?_cons_succ, x_notIn, x_isIn, rg_m1, rg_m2, rg_2, rg_3, rg_5, x_abs, x_int, x_rep2, Int.reduceAdd, Int.reduceSub, Int.reduceToNat, and_self, ram3, rbm3, ram2, rbm2, ram1, rbm1, ra0, rb0, ra1, rb1, ra2, rb2, ra3, rb3, ra4, rb4, ra5, rb5, ra6, rb6, ra7, rb7, ra8, rb8, ra9, rb9, ra10, rb10, ra11, rb11, ra12, rb12, ra13, rb13, ra20, rb20, ra24, rb24, ek, hm, k_mul (m := m) (by omega : m.natAbs < 2 ^ 900) 2 (by decide), e]
  · by_cases hp : m % 2 = 0
    · obtain ⟨s', e, p, q⟩ := bb (some a) (none) (m / 2) r S1 (by omega) (sm_some (by omega)) (sm_none) (by omega) (by omega)
      simp only [oD_none, oD_some] at e
      refine ⟨s', S1, ?_, p, q⟩
      simp only [F__law_strip_beside, m__law_strip_beside, sD, sL, qD, oD_none, oD_some, x_def, startE, x_seq, x_nx, x_rt, x_bk, x_ct, x_bind, x_pure, x_c, x_nil, x_cons, x_tup, x_lst, x_op2, x_op1, x_tru, x_notT, x_ite, x_ifS, x_andT, x_orT, x_and, x_or, x_chain, x_bi, x_biF, x_call, x_perm, x_it, x_ret, x_drop, x_next, x_set, x_setF, x_asg, x_aug, x_for, x_comp, x_cat, x_dSub, x_dAdd, x_dAddI, x_dLt, x_dLe, x_dGt, x_dGe, x_dNeg, x_dNot, x_dTru, x_dEq, x_dNe, x_var0, x_varS, Option.bind_some, Option.map_some, List.map_cons, List.map_nil, List.length_cons, List.length_nil, List.replicate_succ, List.replicate_zero, List.cons_append, List.nil_append, List.set_cons_zero, List.set_cons_succ, Bool.not_true, Bool.not_false, Bool.false_eq_true, if_true, if_false, decide_true, decide_false, decide_eq_true_eq, dIsN, dNotN, dIdx, dItems, at_int, at0, at1, at2, at3, cut2, gN, gT, gCo, gNl, wipeE, x_for_nil, x_for_cons, x_turn_nx, x_turn_ct, x_turn_bk, x_turn_rt, x_comp_nil, x_comp_cons, sz2, sz4, i_lt_int, i_lt_bl, i_lt_non, i_lt_lst, i_lt_tup, i_i_int, i_i_bl, i_b_int, i_b_bl, i_b_non, i_b_lst, i_b_tup, i_l_int, i_l_bl, i_l_non, i_l_lst, i_l_tup, i_t_int, i_t_lst, i_t_tup, i_d_int, i_d_bl, i_d_non, i_d_lst, i_d_tup, i_ltd_int, i_ltd_bl, i_ltd_non, l_lst, l_tup, t_lst, t_tup, a_lst, b_nil, b_cons, cut_lst, cut_tup, x_dEqb, x_dNeb, x_dEqn, x_zip, x_range1, x_range2, Int.cast_ofNat_Int, Nat.zero_add, List.all_cons, List.all_nil, id, Bool.and_true, Bool.true_and, Bool.and_false, Bool.false_and, Bool.or_true, Bool.true_or, Bool.or_false, Bool.false_or, Nat.reduceAdd, Nat.reduceSub, Int.reduceEq, Int.reduceLT, Int.reduceLE, Int.reduceNeg, szl0, szl1, szl2, szl3, szl4, szl5, szl6, szl7, szl8, szl9, szl10, x_extend, x_append, x_borT, x_frz, x_idxO, List.getElem?_cons_zero, List.getElem?_cons_succ, x_notIn, x_isIn, rg_m1, rg_m2, rg_2, rg_3, rg_5, x_abs, x_int, x_rep2, Int.reduceAdd, Int.reduceSub, Int.reduceToNat, and_self, ram3, rbm3, ram2, rbm2, ram1, rbm1, ra0, rb0, ra1, rb1, ra2, rb2, ra3, rb3, ra4, rb4, ra5, rb5, ra6, rb6, ra7, rb7, ra8, rb8, ra9, rb9, ra10, rb10, ra11, rb11, ra12, rb12, ra13, rb13, ra20, rb20, ra24, rb24, ek, hm, x_dMod (i := m) (j := 2) (by decide), hp, dDiv_ok (i := m) (j := 2) (by decide) (by decide), e]
    · obtain ⟨s', e, p, q⟩ := bb (some a) (none) 1 r S1 (by omega) (sm_some (by omega)) (sm_none) (by omega) (by omega)
      simp only [oD_none, oD_some] at e
      refine ⟨s', S1, ?_, p, q⟩
      simp only [F__law_strip_beside, m__law_strip_beside, sD, sL, qD, oD_none, oD_some, x_def, startE, x_seq, x_nx, x_rt, x_bk, x_ct, x_bind, x_pure, x_c, x_nil, x_cons, x_tup, x_lst, x_op2, x_op1, x_tru, x_notT, x_ite, x_ifS, x_andT, x_orT, x_and, x_or, x_chain, x_bi, x_biF, x_call, x_perm, x_it, x_ret, x_drop, x_next, x_set, x_setF, x_asg, x_aug, x_for, x_comp, x_cat, x_dSub, x_dAdd, x_dAddI, x_dLt, x_dLe, x_dGt, x_dGe, x_dNeg, x_dNot, x_dTru, x_dEq, x_dNe, x_var0, x_varS, Option.bind_some, Option.map_some, List.map_cons, List.map_nil, List.length_cons, List.length_nil, List.replicate_succ, List.replicate_zero, List.cons_append, List.nil_append, List.set_cons_zero, List.set_cons_succ, Bool.not_true, Bool.not_false, Bool.false_eq_true, if_true, if_false, decide_true, decide_false, decide_eq_true_eq, dIsN, dNotN, dIdx, dItems, at_int, at0, at1, at2, at3, cut2, gN, gT, gCo, gNl, wipeE, x_for_nil, x_for_cons, x_turn_nx, x_turn_ct, x_turn_bk, x_turn_rt, x_comp_nil, x_comp_cons, sz2, sz4, i_lt_int, i_lt_bl, i_lt_non, i_lt_lst, i_lt_tup, i_i_int, i_i_bl, i_b_int, i_b_bl, i_b_non, i_b_lst, i_b_tup, i_l_int, i_l_bl, i_l_non, i_l_lst, i_l_tup, i_t_int, i_t_lst, i_t_tup, i_d_int, i_d_bl, i_d_non, i_d_lst, i_d_tup, i_ltd_int, i_ltd_bl, i_ltd_non, l_lst, l_tup, t_lst, t_tup, a_lst, b_nil, b_cons, cut_lst, cut_tup, x_dEqb, x_dNeb, x_dEqn, x_zip, x_range1, x_range2, Int.cast_ofNat_Int, Nat.zero_add, List.all_cons, List.all_nil, id, Bool.and_true, Bool.true_and, Bool.and_false, Bool.false_and, Bool.or_true, Bool.true_or, Bool.or_false, Bool.false_or, Nat.reduceAdd, Nat.reduceSub, Int.reduceEq, Int.reduceLT, Int.reduceLE, Int.reduceNeg, szl0, szl1, szl2, szl3, szl4, szl5, szl6, szl7, szl8, szl9, szl10, x_extend, x_append, x_borT, x_frz, x_idxO, List.getElem?_cons_zero, List.getElem?_cons_succ, x_notIn, x_isIn, rg_m1, rg_m2, rg_2, rg_3, rg_5, x_abs, x_int, x_rep2, Int.reduceAdd, Int.reduceSub, Int.reduceToNat, and_self, ram3, rbm3, ram2, rbm2, ram1, rbm1, ra0, rb0, ra1, rb1, ra2, rb2, ra3, rb3, ra4, rb4, ra5, rb5, ra6, rb6, ra7, rb7, ra8, rb8, ra9, rb9, ra10, rb10, ra11, rb11, ra12, rb12, ra13, rb13, ra20, rb20, ra24, rb24, ek, hm, x_dMod (i := m) (j := 2) (by decide), hp, e]
  · obtain ⟨s', e, p, q⟩ := bb (some a) (none) m (r + 1) S1 (by omega) (sm_some (by omega)) (sm_none) (by omega) (by omega)
    simp only [oD_none, oD_some] at e
    refine ⟨s', S1, ?_, p, q⟩
    simp only [F__law_strip_beside, m__law_strip_beside, sD, sL, qD, oD_none, oD_some, x_def, startE, x_seq, x_nx, x_rt, x_bk, x_ct, x_bind, x_pure, x_c, x_nil, x_cons, x_tup, x_lst, x_op2, x_op1, x_tru, x_notT, x_ite, x_ifS, x_andT, x_orT, x_and, x_or, x_chain, x_bi, x_biF, x_call, x_perm, x_it, x_ret, x_drop, x_next, x_set, x_setF, x_asg, x_aug, x_for, x_comp, x_cat, x_dSub, x_dAdd, x_dAddI, x_dLt, x_dLe, x_dGt, x_dGe, x_dNeg, x_dNot, x_dTru, x_dEq, x_dNe, x_var0, x_varS, Option.bind_some, Option.map_some, List.map_cons, List.map_nil, List.length_cons, List.length_nil, List.replicate_succ, List.replicate_zero, List.cons_append, List.nil_append, List.set_cons_zero, List.set_cons_succ, Bool.not_true, Bool.not_false, Bool.false_eq_true, if_true, if_false, decide_true, decide_false, decide_eq_true_eq, dIsN, dNotN, dIdx, dItems, at_int, at0, at1, at2, at3, cut2, gN, gT, gCo, gNl, wipeE, x_for_nil, x_for_cons, x_turn_nx, x_turn_ct, x_turn_bk, x_turn_rt, x_comp_nil, x_comp_cons, sz2, sz4, i_lt_int, i_lt_bl, i_lt_non, i_lt_lst, i_lt_tup, i_i_int, i_i_bl, i_b_int, i_b_bl, i_b_non, i_b_lst, i_b_tup, i_l_int, i_l_bl, i_l_non, i_l_lst, i_l_tup, i_t_int, i_t_lst, i_t_tup, i_d_int, i_d_bl, i_d_non, i_d_lst, i_d_tup, i_ltd_int, i_ltd_bl, i_ltd_non, l_lst, l_tup, t_lst, t_tup, a_lst, b_nil, b_cons, cut_lst, cut_tup, x_dEqb, x_dNeb, x_dEqn, x_zip, x_range1, x_range2, Int.cast_ofNat_Int, Nat.zero_add, List.all_cons, List.all_nil, id, Bool.and_true, Bool.true_and, Bool.and_false, Bool.false_and, Bool.or_true, Bool.true_or, Bool.or_false, Bool.false_or, Nat.reduceAdd, Nat.reduceSub, Int.reduceEq, Int.reduceLT, Int.reduceLE, Int.reduceNeg, szl0, szl1, szl2, szl3, szl4, szl5, szl6, szl7, szl8, szl9, szl10, x_extend, x_append, x_borT, x_frz, x_idxO, List.getElem?_cons_zero, List.getElem?_cons_succ, x_notIn, x_isIn, rg_m1, rg_m2, rg_2, rg_3, rg_5, x_abs, x_int, x_rep2, Int.reduceAdd, Int.reduceSub, Int.reduceToNat, and_self, ram3, rbm3, ram2, rbm2, ram1, rbm1, ra0, rb0, ra1, rb1, ra2, rb2, ra3, rb3, ra4, rb4, ra5, rb5, ra6, rb6, ra7, rb7, ra8, rb8, ra9, rb9, ra10, rb10, ra11, rb11, ra12, rb12, ra13, rb13, ra20, rb20, ra24, rb24, ek, hm, e]
  · obtain ⟨s', S2, e, p, q⟩ := beside_last v hm bs S1
    simp only [oD_none, oD_some] at e
    refine ⟨s', S2, ?_, p, q⟩
    simp only [F__law_strip_beside, m__law_strip_beside, sD, sL, qD, oD_none, oD_some, x_def, startE, x_seq, x_nx, x_rt, x_bk, x_ct, x_bind, x_pure, x_c, x_nil, x_cons, x_tup, x_lst, x_op2, x_op1, x_tru, x_notT, x_ite, x_ifS, x_andT, x_orT, x_and, x_or, x_chain, x_bi, x_biF, x_call, x_perm, x_it, x_ret, x_drop, x_next, x_set, x_setF, x_asg, x_aug, x_for, x_comp, x_cat, x_dSub, x_dAdd, x_dAddI, x_dLt, x_dLe, x_dGt, x_dGe, x_dNeg, x_dNot, x_dTru, x_dEq, x_dNe, x_var0, x_varS, Option.bind_some, Option.map_some, List.map_cons, List.map_nil, List.length_cons, List.length_nil, List.replicate_succ, List.replicate_zero, List.cons_append, List.nil_append, List.set_cons_zero, List.set_cons_succ, Bool.not_true, Bool.not_false, Bool.false_eq_true, if_true, if_false, decide_true, decide_false, decide_eq_true_eq, dIsN, dNotN, dIdx, dItems, at_int, at0, at1, at2, at3, cut2, gN, gT, gCo, gNl, wipeE, x_for_nil, x_for_cons, x_turn_nx, x_turn_ct, x_turn_bk, x_turn_rt, x_comp_nil, x_comp_cons, sz2, sz4, i_lt_int, i_lt_bl, i_lt_non, i_lt_lst, i_lt_tup, i_i_int, i_i_bl, i_b_int, i_b_bl, i_b_non, i_b_lst, i_b_tup, i_l_int, i_l_bl, i_l_non, i_l_lst, i_l_tup, i_t_int, i_t_lst, i_t_tup, i_d_int, i_d_bl, i_d_non, i_d_lst, i_d_tup, i_ltd_int, i_ltd_bl, i_ltd_non, l_lst, l_tup, t_lst, t_tup, a_lst, b_nil, b_cons, cut_lst, cut_tup, x_dEqb, x_dNeb, x_dEqn, x_zip, x_range1, x_range2, Int.cast_ofNat_Int, Nat.zero_add, List.all_cons, List.all_nil, id, Bool.and_true, Bool.true_and, Bool.and_false, Bool.false_and, Bool.or_true, Bool.true_or, Bool.or_false, Bool.false_or, Nat.reduceAdd, Nat.reduceSub, Int.reduceEq, Int.reduceLT, Int.reduceLE, Int.reduceNeg, szl0, szl1, szl2, szl3, szl4, szl5, szl6, szl7, szl8, szl9, szl10, x_extend, x_append, x_borT, x_frz, x_idxO, List.getElem?_cons_zero, List.getElem?_cons_succ, x_notIn, x_isIn, rg_m1, rg_m2, rg_2, rg_3, rg_5, x_abs, x_int, x_rep2, Int.reduceAdd, Int.reduceSub, Int.reduceToNat, and_self, ram3, rbm3, ram2, rbm2, ram1, rbm1, ra0, rb0, ra1, rb1, ra2, rb2, ra3, rb3, ra4, rb4, ra5, rb5, ra6, rb6, ra7, rb7, ra8, rb8, ra9, rb9, ra10, rb10, ra11, rb11, ra12, rb12, ra13, rb13, ra20, rb20, ra24, rb24, ek, hm, e]
  · obtain ⟨s', S2, e, p, q⟩ := beside_last v hm bs S1
    simp only [oD_none, oD_some] at e
    refine ⟨s', S2, ?_, p, q⟩
    simp only [F__law_strip_beside, m__law_strip_beside, sD, sL, qD, oD_none, oD_some, x_def, startE, x_seq, x_nx, x_rt, x_bk, x_ct, x_bind, x_pure, x_c, x_nil, x_cons, x_tup, x_lst, x_op2, x_op1, x_tru, x_notT, x_ite, x_ifS, x_andT, x_orT, x_and, x_or, x_chain, x_bi, x_biF, x_call, x_perm, x_it, x_ret, x_drop, x_next, x_set, x_setF, x_asg, x_aug, x_for, x_comp, x_cat, x_dSub, x_dAdd, x_dAddI, x_dLt, x_dLe, x_dGt, x_dGe, x_dNeg, x_dNot, x_dTru, x_dEq, x_dNe, x_var0, x_varS, Option.bind_some, Option.map_some, List.map_cons, List.map_nil, List.length_cons, List.length_nil, List.replicate_succ, List.replicate_zero, List.cons_append, List.nil_append, List.set_cons_zero, List.set_cons_succ, Bool.not_true, Bool.not_false, Bool.false_eq_true, if_true, if_false, decide_true, decide_false, decide_eq_true_eq, dIsN, dNotN, dIdx, dItems, at_int, at0, at1, at2, at3, cut2, gN, gT, gCo, gNl, wipeE, x_for_nil, x_for_cons, x_turn_nx, x_turn_ct, x_turn_bk, x_turn_rt, x_comp_nil, x_comp_cons, sz2, sz4, i_lt_int, i_lt_bl, i_lt_non, i_lt_lst, i_lt_tup, i_i_int, i_i_bl, i_b_int, i_b_bl, i_b_non, i_b_lst, i_b_tup, i_l_int, i_l_bl, i_l_non, i_l_lst, i_l_tup, i_t_int, i_t_lst, i_t_tup, i_d_int, i_d_bl, i_d_non, i_d_lst, i_d_tup, i_ltd_int, i_ltd_bl, i_ltd_non, l_lst, l_tup, t_lst, t_tup, a_lst, b_nil, b_cons, cut_lst, cut_tup, x_dEqb, x_dNeb, x_dEqn, x_zip, x_range1, x_range2, Int.cast_ofNat_Int, Nat.zero_add, List.all_cons, List.all_nil, id, Bool.and_true, Bool.true_and, Bool.and_false, Bool.false_and, Bool.or_true, Bool.true_or, Bool.or_false, Bool.false_or, Nat.reduceAdd, Nat.reduceSub, Int.reduceEq, Int.reduceLT, Int.reduceLE, Int.reduceNeg, szl0, szl1, szl2, szl3, szl4, szl5, szl6, szl7, szl8, szl9, szl10, x_extend, x_append, x_borT, x_frz, x_idxO, List.getElem?_cons_zero, List.getElem?_cons_succ, x_notIn, x_isIn, rg_m1, rg_m2, rg_2, rg_3, rg_5, x_abs, x_int, x_rep2, Int.reduceAdd, Int.reduceSub, Int.reduceToNat, and_self, ram3, rbm3, ram2, rbm2, ram1, rbm1, ra0, rb0, ra1, rb1, ra2, rb2, ra3, rb3, ra4, rb4, ra5, rb5, ra6, rb6, ra7, rb7, ra8, rb8, ra9, rb9, ra10, rb10, ra11, rb11, ra12, rb12, ra13, rb13, ra20, rb20, ra24, rb24, ek, hm, e]
theorem beside_2 {b : Int} {m r : Int} (v : Vd (some (none, some b, m, r))) (hm : m ≠ 0) (bs : Bs 202 (some (none, some b, m, r))) (S : Strm) :
    ∃ s' S', F__law_strip_beside [.strm, sD (some (none, some b, m, r))] S = some (sD s', S') ∧ Vd s' ∧ Bs 212 s' := by
  obtain ⟨k, S1, hk, ek⟩ := x_draw_at S (m := 9) (by decide)
  have ⟨b1, b2, b3, b4⟩ := bs
  have pm := (v.rest hm).1
  have b2 := b2 b rfl
  have hk9 : k = 0 ∨ k = 1 ∨ k = 2 ∨ k = 3 ∨ k = 4 ∨ k = 5 ∨ k = 6 ∨ k = 7 ∨ k = 8 := by omega
  rcases hk9 with rfl | rfl | rfl | rfl | rfl | rfl | rfl | rfl | rfl
  · obtain ⟨s', S2, e, p, q⟩ := beside_last v hm bs S1
    simp only [oD_none, oD_some] at e
    refine ⟨s', S2, ?_, p, q⟩
    simp only [F__law_strip_beside, m__law_strip_beside, sD, sL, qD, oD_none, oD_some, x_def, startE, x_seq, x_nx, x_rt, x_bk, x_ct, x_bind, x_pure, x_c, x_nil, x_cons, x_tup, x_lst, x_op2, x_op1, x_tru, x_notT, x_ite, x_ifS, x_andT, x_orT, x_and, x_or, x_chain, x_bi, x_biF, x_call, x_perm, x_it, x_ret, x_drop, x_next, x_set, x_setF, x_asg, x_aug, x_for, x_comp, x_cat, x_dSub, x_dAdd, x_dAddI, x_dLt, x_dLe, x_dGt, x_dGe, x_dNeg, x_dNot, x_dTru, x_dEq, x_dNe, x_var0, x_varS, Option.bind_some, Option.map_some, List.map_cons, List.map_nil, List.length_cons, List.length_nil, List.replicate_succ, List.replicate_zero, List.cons_append, List.nil_append, List.set_cons_zero, List.set_cons_succ, Bool.not_true, Bool.not_false, Bool.false_eq_true, if_true, if_false, decide_true, decide_false, decide_eq_true_eq, dIsN, dNotN, dIdx, dItems, at_int, at0, at1, at2, at3, cut2, gN, gT, gCo, gNl, wipeE, x_for_nil, x_for_cons, x_turn_nx, x_turn_ct, x_turn_bk, x_turn_rt, x_comp_nil, x_comp_cons, sz2, sz4, i_lt_int, i_lt_bl, i_lt_non, i_lt_lst, i_lt_tup, i_i_int, i_i_bl, i_b_int, i_b_bl, i_b_non, i_b_lst, i_b_tup, i_l_int, i_l_bl, i_l_non, i_l_lst, i_l_tup, i_t_int, i_t_lst, i_t_tup, i_d_int, i_d_bl, i_d_non, i_d_lst, i_d_tup, i_ltd_int, i_ltd_bl, i_ltd_non, l_lst, l_tup, t_lst, t_tup, a_lst, b_nil, b_cons, cut_lst, cut_tup, x_dEqb, x_dNeb, x_dEqn, x_zip, x_range1, x_range2, Int.cast_ofNat_Int, Nat.zero_add, List.all_cons, List.all_nil, id, Bool.and_true, Bool.true_and, Bool.and_false, Bool.false_and, Bool.or_true, Bool.true_or, Bool.or_false, Bool.false_or, Nat.reduceAdd, Nat.reduceSub, Int.reduceEq, Int.reduceLT, Int.reduceLE, Int.reduceNeg, szl0, szl1, szl2, szl3, szl4, szl5, szl6, szl7, szl8, szl9, szl10, x_extend, x_append, x_borT, x_frz, x_idxO, List.getElem?_cons_zero, List.getElem?_cons_succ, x_notIn, x_isIn, rg_m1, rg_m2, rg_2, rg_3, rg_5, x_abs, x_int, x_rep2, Int.reduceAdd, Int.reduceSub, Int.reduceToNat, and_self, ram3, rbm3, ram2, rbm2, ram1, rbm1, ra0, rb0, ra1, rb1, ra2, rb2, ra3, rb3, ra4, rb4, ra5, rb5, ra6, rb6, ra7, rb7, ra8, rb8, ra9, rb9, ra10, rb10, ra11, rb11, ra12, rb12, ra13, rb13, ra20, rb20, ra24, rb24, ek, hm, e]
  · obtain ⟨s', S2, e, p, q⟩ := beside_last v hm bs S1
    simp only [oD_none, oD_some] at e
    refine ⟨s', S2, ?_, p, q⟩
    simp only [F__law_strip_beside, m__law_strip_beside, sD, sL, qD, oD_none, oD_some, x_def, startE, x_seq, x_nx, x_rt, x_bk, x_ct, x_bind, x_pure, x_c, x_nil, x_cons, x_tup, x_lst, x_op2, x_op1, x_tru, x_notT, x_ite, x_ifS, x_andT, x_orT, x_and, x_or, x_chain, x_bi, x_biF, x_call, x_perm, x_it, x_ret, x_drop, x_next, x_set, x_setF, x_asg, x_aug, x_for, x_comp, x_cat, x_dSub, x_dAdd, x_dAddI, x_dLt, x_dLe, x_dGt, x_dGe, x_dNeg, x_dNot, x_dTru, x_dEq, x_dNe, x_var0, x_varS, Option.bind_some, Option.map_some, List.map_cons, List.map_nil, List.length_cons, List.length_nil, List.replicate_succ, List.replicate_zero, List.cons_append, List.nil_append, List.set_cons_zero, List.set_cons_succ, Bool.not_true, Bool.not_false, Bool.false_eq_true, if_true, if_false, decide_true, decide_false, decide_eq_true_eq, dIsN, dNotN, dIdx, dItems, at_int, at0, at1, at2, at3, cut2, gN, gT, gCo, gNl, wipeE, x_for_nil, x_for_cons, x_turn_nx, x_turn_ct, x_turn_bk, x_turn_rt, x_comp_nil, x_comp_cons, sz2, sz4, i_lt_int, i_lt_bl, i_lt_non, i_lt_lst, i_lt_tup, i_i_int, i_i_bl, i_b_int, i_b_bl, i_b_non, i_b_lst, i_b_tup, i_l_int, i_l_bl, i_l_non, i_l_lst, i_l_tup, i_t_int, i_t_lst, i_t_tup, i_d_int, i_d_bl, i_d_non, i_d_lst, i_d_tup, i_ltd_int, i_ltd_bl, i_ltd_non, l_lst, l_tup, t_lst, t_tup, a_lst, b_nil, b_cons, cut_lst, cut_tup, x_dEqb, x_dNeb, x_dEqn, x_zip, x_range1, x_range2, Int.cast_ofNat_Int, Nat.zero_add, List.all_cons, List.all_nil, id, Bool.and_true, Bool.true_and, Bool.and_false, Bool.false_and, Bool.or_true, Bool.true_or, Bool.or_false, Bool.false_or, Nat.reduceAdd, Nat.reduceSub, Int.reduceEq, Int.reduceLT, Int.reduceLE, Int.reduceNeg, szl0, szl1, szl2, szl3, szl4, szl5, szl6, szl7, szl8, szl9, szl10, x_extend, x_append, x_borT, x_frz, x_idxO, List.getElem?_cons_zero, List.getElem?_cons_succ, x_notIn, x_isIn, rg_m1, rg_m2, rg_2, rg_3, rg_5, x_abs, x_int, x_rep2, Int.reduceAdd, Int.reduceSub, Int.reduceToNat, and_self, ram3, rbm3, ram2, rbm2, ram1, rbm1, ra0, rb0, ra1, rb1, ra2, rb2, ra3, rb3, ra4, rb4, ra5, rb5, ra6, rb6, ra7, rb7, ra8, rb8, ra9, rb9, ra10, rb10, ra11, rb11, ra12, rb12, ra13, rb13, ra20, rb20, ra24, rb24, ek, hm, e]
  · obtain ⟨s', e, p, q⟩ := bb (none) (some (b - m)) m r S1 (by omega) (sm_none) (sm_some (by omega)) (by omega) (by omega)
    simp only [oD_none, oD_some] at e
    refine ⟨s', S1, ?_, p, q⟩
    simp only [F__law_strip_beside, m__law_strip_beside, sD, sL, qD, oD_none, oD_some, x_def, startE, x_seq, x_nx, x_rt, x_bk, x_ct, x_bind, x_pure, x_c, x_nil, x_cons, x_tup, x_lst, x_op2, x_op1, x_tru, x_notT, x_ite, x_ifS, x_andT, x_orT, x_and, x_or, x_chain, x_bi, x_biF, x_call, x_perm, x_it, x_ret, x_drop, x_next, x_set, x_setF, x_asg, x_aug, x_for, x_comp, x_cat, x_dSub, x_dAdd, x_dAddI, x_dLt, x_dLe, x_dGt, x_dGe, x_dNeg, x_dNot, x_dTru, x_dEq, x_dNe, x_var0, x_varS, Option.bind_some, Option.map_some, List.map_cons, List.map_nil, List.length_cons, List.length_nil, List.replicate_succ, List.replicate_zero, List.cons_append, List.nil_append, List.set_cons_zero, List.set_cons_succ, Bool.not_true, Bool.not_false, Bool.false_eq_true, if_true, if_false, decide_true, decide_false, decide_eq_true_eq, dIsN, dNotN, dIdx, dItems, at_int, at0, at1, at2, at3, cut2, gN, gT, gCo, gNl, wipeE, x_for_nil, x_for_cons, x_turn_nx, x_turn_ct, x_turn_bk, x_turn_rt, x_comp_nil, x_comp_cons, sz2, sz4, i_lt_int, i_lt_bl, i_lt_non, i_lt_lst, i_lt_tup, i_i_int, i_i_bl, i_b_int, i_b_bl, i_b_non, i_b_lst, i_b_tup, i_l_int, i_l_bl, i_l_non, i_l_lst, i_l_tup, i_t_int, i_t_lst, i_t_tup, i_d_int, i_d_bl, i_d_non, i_d_lst, i_d_tup, i_ltd_int, i_ltd_bl, i_ltd_non, l_lst, l_tup, t_lst, t_tup, a_lst, b_nil, b_cons, cut_lst, cut_tup, x_dEqb, x_dNeb, x_dEqn, x_zip, x_range1, x_range2, Int.cast_ofNat_Int, Nat.zero_add, List.all_cons, List.all_nil, id, Bool.and_true, Bool.true_and, Bool.and_false, Bool.false_and, Bool.or_true, Bool.true_or, Bool.or_false, Bool.false_or, Nat.reduceAdd, Nat.reduceSub, Int.reduceEq, Int.reduceLT, Int.reduceLE, Int.reduceNeg, szl0, szl1, szl2, szl3, szl4, szl5, szl6, szl7, szl8, szl9, szl10, x_extend, x_append, x_borT, x_frz, x_idxO, List.getElem?_cons_zero, List.getElem?_cons_succ, x_notIn, x_isIn, rg_m1, rg_m2, rg_2, rg_3, rg_5, x_abs, x_int, x_rep2, Int.reduceAdd, Int.reduceSub, Int.reduceToNat, and_self, ram3, rbm3, ram2, rbm2, ram1, rbm1, ra0, rb0, ra1, rb1, ra2, rb2, ra3, rb3, ra4, rb4, ra5, rb5, ra6, rb6, ra7, rb7, ra8, rb8, ra9, rb9, ra10, rb10, ra11, rb11, ra12, rb12, ra13, rb13, ra20, rb20, ra24, rb24, ek, hm, e]
  · obtain ⟨s', e, p, q⟩ := bb (none) (some (b + m)) m r S1 (by omega) (sm_none) (sm_some (by omega)) (by omega) (by omega)
    simp only [oD_none, oD_some] at e
    refine ⟨s', S1, ?_, p, q⟩
    simp only [F__law_strip_beside, m__law_strip_beside, sD, sL, qD, oD_none, oD_some, x_def, startE, x_seq, x_nx, x_rt, x_bk, x_ct, x_bind, x_pure, x_c, x_nil, x_cons, x_tup, x_lst, x_op2, x_op1, x_tru, x_notT, x_ite, x_ifS, x_andT, x_orT, x_and, x_or, x_chain, x_bi, x_biF, x_call, x_perm, x_it, x_ret, x_drop, x_next, x_set, x_setF, x_asg, x_aug, x_for, x_comp, x_cat, x_dSub, x_dAdd, x_dAddI, x_dLt, x_dLe, x_dGt, x_dGe, x_dNeg, x_dNot, x_dTru, x_dEq, x_dNe, x_var0, x_varS, Option.bind_some, Option.map_some, List.map_cons, List.map_nil, List.length_cons, List.length_nil, List.replicate_succ, List.replicate_zero, List.cons_append, List.nil_append, List.set_cons_zero, List.set_cons_succ, Bool.not_true, Bool.not_false, Bool.false_eq_true, if_true, if_false, decide_true, decide_false, decide_eq_true_eq, dIsN, dNotN, dIdx, dItems, at_int, at0, at1, at2, at3, cut2, gN, gT, gCo, gNl, wipeE, x_for_nil, x_for_cons, x_turn_nx, x_turn_ct, x_turn_bk, x_turn_rt, x_comp_nil, x_comp_cons, sz2, sz4, i_lt_int, i_lt_bl, i_lt_non, i_lt_lst, i_lt_tup, i_i_int, i_i_bl, i_b_int, i_b_bl, i_b_non, i_b_lst, i_b_tup, i_l_int, i_l_bl, i_l_non, i_l_lst, i_l_tup, i_t_int, i_t_lst, i_t_tup, i_d_int, i_d_bl, i_d_non, i_d_lst, i_d_tup, i_ltd_int, i_ltd_bl, i_ltd_non, l_lst, l_tup, t_lst, t_tup, a_lst, b_nil, b_cons, cut_lst, cut_tup, x_dEqb, x_dNeb, x_dEqn, x_zip, x_range1, x_range2, Int.cast_ofNat_Int, Nat.zero_add, List.all_cons, List.all_nil, id, Bool.and_true, Bool.true_and, Bool.and_false, Bool.false_and, Bool.or_true, Bool.true_or, Bool.or_false, Bool.false_or, Nat.reduceAdd, Nat.reduceSub, Int.reduceEq, Int.reduceLT, Int.reduceLE, Int.reduceNeg, szl0, szl1, szl2, szl3, szl4, szl5, szl6, szl7, szl8, szl9, szl10, x_extend, x_append, x_borT, x_frz, x_idxO, List.getElem?_cons_zero, List.getElem?_cons_succ, x_notIn, x_isIn, rg_m1, rg_m2, rg_2, rg_3, rg_5, x_abs, x_int, x_rep2, Int.reduceAdd, Int.reduceSub, Int.reduceToNat, and_self, ram3, rbm3, ram2, rbm2, ram1, rbm1, ra0, rb0, ra1, rb1, ra2, rb2, ra3, rb3, ra4, rb4, ra5, rb5, ra6, rb6, ra7, rb7, ra8, rb8, ra9, rb9, ra10, rb10, ra11, rb11, ra12, rb12, ra13, rb13, ra20, rb20, ra24, rb24, ek, hm, e]
  · obtain ⟨s', e, p, q⟩ := bb (none) (some b) (2 * m) r S1 (by omega) (sm_none) (sm_some (by omega)) (by omega) (by omega)
    simp only [oD_none, oD_some] at e
    refine ⟨s', S1, ?_, p, q⟩
    simp only [F__law_strip_beside, m__law_strip_beside, sD, sL, qD, oD_none, oD_some, x_def, startE, x_seq, x_nx, x_rt, x_bk, x_ct, x_bind, x_pure, x_c, x_nil, x_cons, x_tup, x_lst, x_op2, x_op1, x_tru, x_notT, x_ite, x_ifS, x_andT, x_orT, x_and, x_or, x_chain, x_bi, x_biF, x_call, x_perm, x_it, x_ret, x_drop, x_next, x_set, x_setF, x_asg, x_aug, x_for, x_comp, x_cat, x_dSub, x_dAdd, x_dAddI, x_dLt, x_dLe, x_dGt, x_dGe, x_dNeg, x_dNot, x_dTru, x_dEq, x_dNe, x_var0, x_varS, Option.bind_some, Option.map_some, List.map_cons, List.map_nil, List.length_cons, List.length_nil, List.replicate_succ, List.replicate_zero, List.cons_append, List.nil_append, List.set_cons_zero, List.set_cons_succ, Bool.not_true, Bool.not_false, Bool.false_eq_true, if_true, if_false, decide_true, decide_false, decide_eq_true_eq, dIsN, dNotN, dIdx, dItems, at_int, at0, at1, at2, at3, cut2, gN, gT, gCo, gNl, wipeE, x_for_nil, x_for_cons, x_turn_nx, x_turn_ct, x_turn_bk, x_turn_rt, x_comp_nil, x_comp_cons, sz2, sz4, i_lt_int, i_lt_bl, i_lt_non, i_lt_lst, i_lt_tup, i_i_int, i_i_bl, i_b_int, i_b_bl, i_b_non, i_b_lst, i_b_tup, i_l_int, i_l_bl, i_l_non, i_l_lst, i_l_tup, i_t_int, i_t_lst, i_t_tup, i_d_int, i_d_bl, i_d_non, i_d_lst, i_d_tup, i_ltd_int, i_ltd_bl, i_ltd_non, l_lst, l_tup, t_lst, t_tup, a_lst, b_nil, b_cons, cut_lst, cut_tup, x_dEqb, x_dNeb, x_dEqn, x_zip, x_range1, x_range2, Int.cast_ofNat_Int, Nat.zero_add, List.all_cons, List.all_nil, id, Bool.and_true, Bool.true_and, Bool.and_false, Bool.false_and, Bool.or_true, Bool.true_or, Bool.or_false, Bool.false_or, Nat.reduceAdd, Nat.reduceSub, Int.reduceEq, Int.reduceLT, Int.reduceLE, Int.reduceNeg, szl0, szl1, szl2, szl3, szl4, szl5, szl6, szl7, szl8, szl9, szl10, x_extend, x_append, x_borT, x_frz, x_idxO, List.getElem?_cons_zero, List.getElem?_cons_succ, x_notIn, x_isIn, rg_m1, rg_m2, rg_2, rg_3, rg_5, x_abs, x_int, x_rep2, Int.reduceAdd, Int.reduceSub, Int.reduceToNat, and_self, ram3, rbm3, ram2, rbm2, ram1, rbm1, ra0, rb0, ra1, rb1, ra2, rb2, ra3, rb3, ra4, rb4, ra5, rb5, ra6, rb6, ra7, rb7, ra8, rb8, ra9, rb9, ra10, rb10, ra11, rb11, ra12, rb12, ra13, rb13, ra20, rb20, ra24, rb24, ek, hm, k_mul (m := m) (by omega : m.natAbs < 2 ^ 900) 2 (by decide), e]
  · by_cases hp : m % 2 = 0
    · obtain ⟨s', e, p, q⟩ := bb (none) (some b) (m / 2) r S1 (by omega) (sm_none) (sm_some (by omega)) (by omega) (by omega)
      simp only [oD_none, oD_some] at e
      refine ⟨s', S1, ?_, p, q⟩
      simp only [F__law_strip_beside, m__law_strip_beside, sD, sL, qD, oD_none, oD_some, x_def, startE, x_seq, x_nx, x_rt, x_bk, x_ct, x_bind, x_pure, x_c, x_nil, x_cons, x_tup, x_lst, x_op2, x_op1, x_tru, x_notT, x_ite, x_ifS, x_andT, x_orT, x_and, x_or, x_chain, x_bi, x_biF, x_call, x_perm, x_it, x_ret, x_drop, x_next, x_set, x_setF, x_asg, x_aug, x_for, x_comp, x_cat, x_dSub, x_dAdd, x_dAddI, x_dLt, x_dLe, x_dGt, x_dGe, x_dNeg, x_dNot, x_dTru, x_dEq, x_dNe, x_var0, x_varS, Option.bind_some, Option.map_some, List.map_cons, List.map_nil, List.length_cons, List.length_nil, List.replicate_succ, List.replicate_zero, List.cons_append, List.nil_append, List.set_cons_zero, List.set_cons_succ, Bool.not_true, Bool.not_false, Bool.false_eq_true, if_true, if_false, decide_true, decide_false, decide_eq_true_eq, dIsN, dNotN, dIdx, dItems, at_int, at0, at1, at2, at3, cut2, gN, gT, gCo, gNl, wipeE, x_for_nil, x_for_cons, x_turn_nx, x_turn_ct, x_turn_bk, x_turn_rt, x_comp_nil, x_comp_cons, sz2, sz4, i_lt_int, i_lt_bl, i_lt_non, i_lt_lst, i_lt_tup, i_i_int, i_i_bl, i_b_int, i_b_bl, i_b_non, i_b_lst, i_b_tup, i_l_int, i_l_bl, i_l_non, i_l_lst, i_l_tup, i_t_int, i_t_lst, i_t_tup, i_d_int, i_d_bl, i_d_non, i_d_lst, i_d_tup, i_ltd_int, i_ltd_bl, i_ltd_non, l_lst, l_tup, t_lst, t_tup, a_lst, b_nil, b_cons, cut_lst, cut_tup, x_dEqb, x_dNeb, x_dEqn, x_zip, x_range1, x_range2, Int.cast_ofNat_Int, Nat.zero_add, List.all_cons, List.all_nil, id, Bool.and_true, Bool.true_and, Bool.and_false, Bool.false_and, Bool.or_true, Bool.true_or, Bool.or_false, Bool.false_or, Nat.reduceAdd, Nat.reduceSub, Int.reduceEq, Int.reduceLT, Int.reduceLE, Int.reduceNeg, szl0, szl1, szl2, szl3, szl4, szl5, szl6, szl7, szl8, szl9, szl10, x_extend, x_append, x_borT, x_frz, x_idxO, List.getElem?_cons_zero, List.getElem?_cons_succ, x_notIn, x_isIn, rg_m1, rg_m2, rg_2, rg_3, rg_5, x_abs, x_int, x_rep2, Int.reduceAdd, Int.reduceSub, Int.reduceToNat, and_self, ram3, rbm3, ram2, rbm2, ram1, rbm1, ra0, rb0, ra1, rb1, ra2, rb2, ra3, rb3, ra4, rb4, ra5, rb5, ra6, rb6, ra7, rb7, ra8, rb8, ra9, rb9, ra10, rb10, ra11, rb11, ra12, rb12, ra13, rb13, ra20, rb20, ra24, rb24, ek, hm, x_dMod (i := m) (j := 2) (by decide), hp, dDiv_ok (i := m) (j := 2) (by decide) (by decide), e]
    · obtain ⟨s', e, p, q⟩ := bb (none) (some b) 1 r S1 (by omega) (sm_none) (sm_some (by omega)) (by omega) (by omega)
      simp only [oD_none, oD_some] at e
      refine ⟨s', S1, ?_, p, q⟩
      simp only [F__law_strip_beside, m__law_strip_beside, sD, sL, qD, oD_none, oD_some, x_def, startE, x_seq, x_nx, x_rt, x_bk, x_ct, x_bind, x_pure, x_c, x_nil, x_cons, x_tup, x_lst, x_op2, x_op1, x_tru, x_notT, x_ite, x_ifS, x_andT, x_orT, x_and, x_or, x_chain, x_bi, x_biF, x_call, x_perm, x_it, x_ret, x_drop, x_next, x_set, x_setF, x_asg, x_aug, x_for, x_comp, x_cat, x_dSub, x_dAdd, x_dAddI, x_dLt, x_dLe, x_dGt, x_dGe, x_dNeg, x_dNot, x_dTru, x_dEq, x_dNe, x_var0, x_varS, Option.bind_some, Option.map_some, List.map_cons, List.map_nil, List.length_cons, List.length_nil, List.replicate_succ, List.replicate_zero, List.cons_append, List.nil_append, List.set_cons_zero, List.set_cons_succ, Bool.not_true, Bool.not_false, Bool.false_eq_true, if_true, if_false, decide_true, decide_false, decide_eq_true_eq, dIsN, dNotN, dIdx, dItems, at_int, at0, at1, at2, at3, cut2, gN, gT, gCo, gNl, wipeE, x_for_nil, x_for_cons, x_turn_nx, x_turn_ct, x_turn_bk, x_turn_rt, x_comp_nil, x_comp_cons, sz2, sz4, i_lt_int, i_lt_bl, i_lt_non, i_lt_lst, i_lt_tup, i_i_int, i_i_bl, i_b_int, i_b_bl, i_b_non, i_b_lst, i_b_tup, i_l_int, i_l_bl, i_l_non, i_l_lst, i_l_tup, i_t_int, i_t_lst, i_t_tup, i_d_int, i_d_bl, i_d_non, i_d_lst, i_d_tup, i_ltd_int, i_ltd_bl, i_ltd_non, l_lst, l_tup, t_lst, t_tup, a_lst, b_nil, b_cons, cut_lst, cut_tup, x_dEqb, x_dNeb, x_dEqn, x_zip, x_range1, x_range2, Int.cast_ofNat_Int, Nat.zero_add, List.all_cons, List.all_nil, id, Bool.and_true, Bool.true_and, Bool.and_false, Bool.false_and, Bool.or_true, Bool.true_or, Bool.or_false, Bool.false_or, Nat.reduceAdd, Nat.reduceSub, Int.reduceEq, Int.reduceLT, Int.reduceLE, Int.reduceNeg, szl0, szl1, szl2, szl3, szl4, szl5, szl6, szl7, szl8, szl9, szl10, x_extend, x_append, x_borT, x_frz, x_idxO, List.getElem?_cons_zero, List.getElem?_cons_succ, x_notIn, x_isIn, rg_m1, rg_m2, rg_2, rg_3, rg_5, x_abs, x_int, x_rep2, Int.reduceAdd, Int.reduceSub, Int.reduceToNat, and_self, ram3, rbm3, ram2, rbm2, ram1, rbm1, ra0, rb0, ra1, rb1, ra2, rb2, ra3, rb3, ra4, rb4, ra5, rb5, ra6, rb6, ra7, rb7, ra8, rb8, ra9, rb9, ra10, rb10, ra11, rb11, ra12, rb12, ra13, rb13, ra20, rb20, ra24, rb24, ek, hm, x_dMod (i := m) (j := 2) (by decide), hp, e]
  · obtain ⟨s', e, p, q⟩ := bb (none) (some b) m (r + 1) S1 (by omega) (sm_none) (sm_some (by omega)) (by omega) (by omega)
    simp only [oD_none, oD_some] at e
    refine ⟨s', S1, ?_, p, q⟩
    simp only [F__law_strip_beside, m__law_strip_beside, sD, sL, qD, oD_none, oD_some, x_def, startE, x_seq, x_nx, x_rt, x_bk, x_ct, x_bind, x_pure, x_c, x_nil, x_cons, x_tup, x_lst, x_op2, x_op1, x_tru, x_notT, x_ite, x_ifS, x_andT, x_orT, x_and, x_or, x_chain, x_bi, x_biF, x_call, x_perm, x_it, x_ret, x_drop, x_next, x_set, x_setF, x_asg, x_aug, x_for, x_comp, x_cat, x_dSub, x_dAdd, x_dAddI, x_dLt, x_dLe, x_dGt, x_dGe, x_dNeg, x_dNot, x_dTru, x_dEq, x_dNe, x_var0, x_varS, Option.bind_some, Option.map_some, List.map_cons, List.map_nil, List.length_cons, List.length_nil, List.replicate_succ, List.replicate_zero, List.cons_append, List.nil_append, List.set_cons_zero, List.set_cons_succ, Bool.not_true, Bool.not_false, Bool.false_eq_true, if_true, if_false, decide_true, decide_false, decide_eq_true_eq, dIsN, dNotN, dIdx, dItems, at_int, at0, at1, at2, at3, cut2, gN, gT, gCo, gNl, wipeE, x_for_nil, x_for_cons, x_turn_nx, x_turn_ct, x_turn_bk, x_turn_rt, x_comp_nil, x_comp_cons, sz2, sz4, i_lt_int, i_lt_bl, i_lt_non, i_lt_lst, i_lt_tup, i_i_int, i_i_bl, i_b_int, i_b_bl, i_b_non, i_b_lst, i_b_tup, i_l_int, i_l_bl, i_l_non, i_l_lst, i_l_tup, i_t_int, i_t_lst, i_t_tup, i_d_int, i_d_bl, i_d_non, i_d_lst, i_d_tup, i_ltd_int, i_ltd_bl, i_ltd_non, l_lst, l_tup, t_lst, t_tup, a_lst, b_nil, b_cons, cut_lst, cut_tup, x_dEqb, x_dNeb, x_dEqn, x_zip, x_range1, x_range2, Int.cast_ofNat_Int, Nat.zero_add, List.all_cons, List.all_nil, id, Bool.and_true, Bool.true_and, Bool.and_false, Bool.false_and, Bool.or_true, Bool.true_or, Bool.or_false, Bool.false_or, Nat.reduceAdd, Nat.reduceSub, Int.reduceEq, Int.reduceLT, Int.reduceLE, Int.reduceNeg, szl0, szl1, szl2, szl3, szl4, szl5, szl6, szl7, szl8, szl9, szl10, x_extend, x_append, x_borT, x_frz, x_idxO, List.getElem?_cons_zero, List.getElem?_cons_succ, x_notIn, x_isIn, rg_m1, rg_m2, rg_2, rg_3, rg_5, x_abs, x_int, x_rep2, Int.reduceAdd, Int.reduceSub, Int.reduceToNat, and_self, ram3, rbm3, ram2, rbm2, ram1, rbm1, ra0, rb0, ra1, rb1, ra2, rb2, ra3, rb3, ra4, rb4, ra5, rb5, ra6, rb6, ra7, rb7, ra8, rb8, ra9, rb9, ra10, rb10, ra11, rb11, ra12, rb12, ra13, rb13, ra20, rb20, ra24, rb24, ek, hm, e]
  · obtain ⟨s', S2, e, p, q⟩ := beside_last v hm bs S1
    simp only [oD_none, oD_some] at e
    refine ⟨s', S2, ?_, p, q⟩
    simp only [F__law_strip_beside, m__law_strip_beside, sD, sL, qD, oD_none, oD_some, x_def, startE, x_seq, x_nx, x_rt, x_bk, x_ct, x_bind, x_pure, x_c, x_nil, x_cons, x_tup, x_lst, x_op2, x_op1, x_tru, x_notT, x_ite, x_ifS, x_andT, x_orT, x_and, x_or, x_chain, x_bi, x_biF, x_call, x_perm, x_it, x_ret, x_drop, x_next, x_set, x_setF, x_asg, x_aug, x_for, x_comp, x_cat, x_dSub, x_dAdd, x_dAddI, x_dLt, x_dLe, x_dGt, x_dGe, x_dNeg, x_dNot, x_dTru, x_dEq, x_dNe, x_var0, x_varS, Option.bind_some, Option.map_some, List.map_cons, List.map_nil, List.length_cons, List.length_nil, List.replicate_succ, List.replicate_zero, List.cons_append, List.nil_append, List.set_cons_zero, List.set_cons_succ, Bool.not_true, Bool.not_false, Bool.false_eq_true, if_true, if_false, decide_true, decide_false, decide_eq_true_eq, dIsN, dNotN, dIdx, dItems, at_int, at0, at1, at2, at3, cut2, gN, gT, gCo, gNl, wipeE, x_for_nil, x_for_cons, x_turn_nx, x_turn_ct, x_turn_bk, x_turn_rt, x_comp_nil, x_comp_cons, sz2, sz4, i_lt_int, i_lt_bl, i_lt_non, i_lt_lst, i_lt_tup, i_i_int, i_i_bl, i_b_int, i_b_bl, i_b_non, i_b_lst, i_b_tup, i_l_int, i_l_bl, i_l_non, i_l_lst, i_l_tup, i_t_int, i_t_lst, i_t_tup, i_d_int, i_d_bl, i_d_non, i_d_lst, i_d_tup, i_ltd_int, i_ltd_bl, i_ltd_non, l_lst, l_tup, t_lst, t_tup, a_lst, b_nil, b_cons, cut_lst, cut_tup, x_dEqb, x_dNeb, x_dEqn, x_zip, x_range1, x_range2, Int.cast_ofNat_Int, Nat.zero_add, List.all_cons, List.all_nil, id, Bool.and_true, Bool.true_and, Bool.and_false, Bool.false_and, Bool.or_true, Bool.true_or, Bool.or_false, Bool.false_or, Nat.reduceAdd, Nat.reduceSub, Int.reduceEq, Int.reduceLT, Int.reduceLE, Int.reduceNeg, szl0, szl1, szl2, szl3, szl4, szl5, szl6, szl7, szl8, szl9, szl10, x_extend, x_append, x_borT, x_frz, x_idxO, List.getElem?_cons_zero, List.getElem?_cons_succ, x_notIn, x_isIn, rg_m1, rg_m2, rg_2, rg_3, rg_5, x_abs, x_int, x_rep2, Int.reduceAdd, Int.reduceSub, Int.reduceToNat, and_self, ram3, rbm3, ram2, rbm2, ram1, rbm1, ra0, rb0, ra1, rb1, ra2, rb2, ra3, rb3, ra4, rb4, ra5, rb5, ra6, rb6, ra7, rb7, ra8, rb8, ra9, rb9, ra10, rb10, ra11, rb11, ra12, rb12, ra13, rb13, ra20, rb20, ra24, rb24, ek, hm, e]
  · obtain ⟨s', S2, e, p, q⟩ := beside_last v hm bs S1
    simp only [oD_none, oD_some] at e
    refine ⟨s', S2, ?_, p, q⟩
    simp only [F__law_strip_beside, m__law_strip_beside, sD, sL, qD, oD_none, oD_some, x_def, startE, x_seq, x_nx, x_rt, x_bk, x_ct, x_bind, x_pure, x_c, x_nil, x_cons, x_tup, x_lst, x_op2, x_op1, x_tru, x_notT, x_ite, x_ifS, x_andT, x_orT, x_and, x_or, x_chain, x_bi, x_biF, x_call, x_perm, x_it, x_ret, x_drop, x_next, x_set, x_setF, x_asg, x_aug, x_for, x_comp, x_cat, x_dSub, x_dAdd, x_dAddI, x_dLt, x_dLe, x_dGt, x_dGe, x_dNeg, x_dNot, x_dTru, x_dEq, x_dNe, x_var0, x_varS, Option.bind_some, Option.map_some, List.map_cons, List.map_nil, List.length_cons, List.length_nil, List.replicate_succ, List.replicate_zero, List.cons_append, List.nil_append, List.set_cons_zero, List.set_cons_succ, Bool.not_true, Bool.not_false, Bool.false_eq_true, if_true, if_false, decide_true, decide_false, decide_eq_true_eq, dIsN, dNotN, dIdx, dItems, at_int, at0, at1, at2, at3, cut2, gN, gT, gCo, gNl, wipeE, x_for_nil, x_for_cons, x_turn_nx, x_turn_ct, x_turn_bk, x_turn_rt, x_comp_nil, x_comp_cons, sz2, sz4, i_lt_int, i_lt_bl, i_lt_non, i_lt_lst, i_lt_tup, i_i_int, i_i_bl, i_b_int, i_b_bl, i_b_non, i_b_lst, i_b_tup, i_l_int, i_l_bl, i_l_non, i_l_lst, i_l_tup, i_t_int, i_t_lst, i_t_tup, i_d_int, i_d_bl, i_d_non, i_d_lst, i_d_tup, i_ltd_int, i_ltd_bl, i_ltd_non, l_lst, l_tup, t_lst, t_tup, a_lst, b_nil, b_cons, cut_lst, cut_tup, x_dEqb, x_dNeb, x_dEqn, x_zip, x_range1, x_range2, Int.cast_ofNat_Int, Nat.zero_add, List.all_cons, List.all_nil, id, Bool.and_true, Bool.true_and, Bool.and_false, Bool.false_and, Bool.or_true, Bool.true_or, Bool.or_false, Bool.false_or, Nat.reduceAdd, Nat.reduceSub, Int.reduceEq, Int.reduceLT, Int.reduceLE, Int.reduceNeg, szl0, szl1, szl2, szl3, szl4, szl5, szl6, szl7, szl8, szl9, szl10, x_extend, x_append, x_borT, x_frz, x_idxO, List.getElem?_cons_zero, List.getElem?_cons_succ, x_notIn, x_isIn, rg_m1, rg_m2, rg_2, rg_3, rg_5, x_abs, x_int, x_rep2, Int.reduceAdd, Int.reduceSub, Int.reduceToNat, and_self, ram3, rbm3, ram2, rbm2, ram1, rbm1, ra0, rb0, ra1, rb1, ra2, rb2, ra3, rb3, ra4, rb4, ra5, rb5, ra6, rb6, ra7, rb7, ra8, rb8, ra9, rb9, ra10, rb10, ra11, rb11, ra12, rb12, ra13, rb13, ra20, rb20, ra24, rb24, ek, hm, e]
theorem beside_3 {a b : Int} {m r : Int} (v : Vd (some (some a, some b, m, r))) (hm : m ≠ 0) (bs : Bs 202 (some (some a, some b, m, r))) (S : Strm) :
    ∃ s' S', F__law_strip_beside [.strm, sD (some (some a, some b, m, r))] S = some (sD s', S') ∧ Vd s' ∧ Bs 212 s' := by
  obtain ⟨k, S1, hk, ek⟩ := x_draw_at S (m := 9) (by decide)
  have ⟨b1, b2, b3, b4⟩ := bs
  have pm := (v.rest hm).1
  have b1 := b1 a rfl
  have b2 := b2 b rfl
  have hk9 : k = 0 ∨ k = 1 ∨ k = 2 ∨ k = 3 ∨ k = 4 ∨ k = 5 ∨ k = 6 ∨ k = 7 ∨ k = 8 := by omega
  rcases hk9 with rfl | rfl | rfl | rfl | rfl | rfl | rfl | rfl | rfl
  · obtain ⟨s', e, p, q⟩ := bb (some (a + m)) (some b) m r S1 (by omega) (sm_some (by omega)) (sm_some (by omega)) (by omega) (by omega)
    simp only [oD_none, oD_some] at e
    refine ⟨s', S1, ?_, p, q⟩
    simp only [F__law_strip_beside, m__law_strip_beside, sD, sL, qD, oD_none, oD_some, x_def, startE, x_seq, x_nx, x_rt, x_bk, x_ct, x_bind, x_pure, x_c, x_nil, x_cons, x_tup, x_lst, x_op2, x_op1, x_tru, x_notT, x_ite, x_ifS, x_andT, x_orT, x_and, x_or, x_chain, x_bi, x_biF, x_call, x_perm, x_it, x_ret, x_drop, x_next, x_set, x_setF, x_asg, x_aug, x_for, x_comp, x_cat, x_dSub, x_dAdd, x_dAddI, x_dLt, x_dLe, x_dGt, x_dGe, x_dNeg, x_dNot, x_dTru, x_dEq, x_dNe, x_var0, x_varS, Option.bind_some, Option.map_some, List.map_cons, List.map_nil, List.length_cons, List.length_nil, List.replicate_succ, List.replicate_zero, List.cons_append, List.nil_append, List.set_cons_zero, List.set_cons_succ, Bool.not_true, Bool.not_false, Bool.false_eq_true, if_true, if_false, decide_true, decide_false, decide_eq_true_eq, dIsN, dNotN, dIdx, dItems, at_int, at0, at1, at2, at3, cut2, gN, gT, gCo, gNl, wipeE, x_for_nil, x_for_cons, x_turn_nx, x_turn_ct, x_turn_bk, x_turn_rt, x_comp_nil, x_comp_cons, sz2, sz4, i_lt_int, i_lt_bl, i_lt_non, i_lt_lst, i_lt_tup, i_i_int, i_i_bl, i_b_int, i_b_bl, i_b_non, i_b_lst, i_b_tup, i_l_int, i_l_bl, i_l_non, i_l_lst, i_l_tup, i_t_int, i_t_lst, i_t_tup, i_d_int, i_d_bl, i_d_non, i_d_lst, i_d_tup, i_ltd_int, i_ltd_bl, i_ltd_non, l_lst, l_tup, t_lst, t_tup, a_lst, b_nil, b_cons, cut_lst, cut_tup, x_dEqb, x_dNeb, x_dEqn, x_zip, x_range1, x_range2, Int.cast_ofNat_Int, Nat.zero_add, List.all_cons, List.all_nil, id, Bool.and_true, Bool.true_and, Bool.and_false, Bool.false_and, Bool.or_true, Bool.true_or, Bool.or_false, Bool.false_or, Nat.reduceAdd, Nat.reduceSub, Int.reduceEq, Int.reduceLT, Int.reduceLE, Int.reduceNeg, szl0, szl1, szl2, szl3, szl4, szl5, szl6, szl7, szl8, szl9, szl10, x_extend, x_append, x_borT, x_frz, x_idxO, List.getElem?_cons_zero, List.getElem?_cons_succ, x_notIn, x_isIn, rg_m1, rg_m2, rg_2, rg_3, rg_5, x_abs, x_int, x_rep2, Int.reduceAdd, Int.reduceSub, Int.reduceToNat, and_self, ram3, rbm3, ram2, rbm2, ram1, rbm1, ra0, rb0, ra1, rb1, ra2, rb2, ra3, rb3, ra4, rb4, ra5, rb5, ra6, rb6, ra7, rb7, ra8, rb8, ra9, rb9, ra10, rb10, ra11, rb11, ra12, rb12, ra13, rb13, ra20, rb20, ra24, rb24, ek, hm, e]
  · obtain ⟨s', e, p, q⟩ := bb (some (a - m)) (some b) m r S1 (by omega) (sm_some (by omega)) (sm_some (by omega)) (by omega) (by omega)
    simp only [oD_none, oD_some] at e
    refine ⟨s', S1, ?_, p, q⟩
    simp only [F__law_strip_beside, m__law_strip_beside, sD, sL, qD, oD_none, oD_some, x_def, startE, x_seq, x_nx, x_rt, x_bk, x_ct, x_bind, x_pure, x_c, x_nil, x_cons, x_tup, x_lst, x_op2, x_op1, x_tru, x_notT, x_ite, x_ifS, x_andT, x_orT, x_and, x_or, x_chain, x_bi, x_biF, x_call, x_perm, x_it, x_ret, x_drop, x_next, x_set, x_setF, x_asg, x_aug, x_for, x_comp, x_cat, x_dSub, x_dAdd, x_dAddI, x_dLt, x_dLe, x_dGt, x_dGe, x_dNeg, x_dNot, x_dTru, x_dEq, x_dNe, x_var0, x_varS, Option.bind_some, Option.map_some, List.map_cons, List.map_nil, List.length_cons, List.length_nil, List.replicate_succ, List.replicate_zero, List.cons_append, List.nil_append, List.set_cons_zero, List.set_cons_succ, Bool.not_true, Bool.not_false, Bool.false_eq_true, if_true, if_false, decide_true, decide_false, decide_eq_true_eq, dIsN, dNotN, dIdx, dItems, at_int, at0, at1, at2, at3, cut2, gN, gT, gCo, gNl, wipeE, x_for_nil, x_for_cons, x_turn_nx, x_turn_ct, x_turn_bk, x_turn_rt, x_comp_nil, x_comp_cons, sz2, sz4, i_lt_int, i_lt_bl, i_lt_non, i_lt_lst, i_lt_tup, i_i_int, i_i_bl, i_b_int, i_b_bl, i_b_non, i_b_lst, i_b_tup, i_l_int, i_l_bl, i_l_non, i_l_lst, i_l_tup, i_t_int, i_t_lst, i_t_tup, i_d_int, i_d_bl, i_d_non, i_d_lst, i_d_tup, i_ltd_int, i_ltd_bl, i_ltd_non, l_lst, l_tup, t_lst, t_tup, a_lst, b_nil, b_cons, cut_lst, cut_tup, x_dEqb, x_dNeb, x_dEqn, x_zip, x_range1, x_range2, Int.cast_ofNat_Int, Nat.zero_add, List.all_cons, List.all_nil, id, Bool.and_true, Bool.true_and, Bool.and_false, Bool.false_and, Bool.or_true, Bool.true_or, Bool.or_false, Bool.false_or, Nat.reduceAdd, Nat.reduceSub, Int.reduceEq, Int.reduceLT, Int.reduceLE, Int.reduceNeg, szl0, szl1, szl2, szl3, szl4, szl5, szl6, szl7, szl8, szl9, szl10, x_extend, x_append, x_borT, x_frz, x_idxO, List.getElem?_cons_zero, List.getElem?_cons_succ, x_notIn, x_isIn, rg_m1, rg_m2, rg_2, rg_3, rg_5, x_abs, x_int, x_rep2, Int.reduceAdd, Int.reduceSub, Int.reduceToNat, and_self, ram3, rbm3, ram2, rbm2, ram1, rbm1, ra0, rb0, ra1, rb1, ra2, rb2, ra3, rb3, ra4, rb4, ra5, rb5, ra6, rb6, ra7, rb7, ra8, rb8, ra9, rb9, ra10, rb10, ra11, rb11, ra12, rb12, ra13, rb13, ra20, rb20, ra24, rb24, ek, hm, e]
  · obtain ⟨s', e, p, q⟩ := bb (some a) (some (b - m)) m r S1 (by omega) (sm_some (by omega)) (sm_some (by omega)) (by omega) (by omega)
    simp only [oD_none, oD_some] at e
    refine ⟨s', S1, ?_, p, q⟩
    simp only [F__law_strip_beside, m__law_strip_beside, sD, sL, qD, oD_none, oD_some, x_def, startE, x_seq, x_nx, x_rt, x_bk, x_ct, x_bind, x_pure, x_c, x_nil, x_cons, x_tup, x_lst, x_op2, x_op1, x_tru, x_notT, x_ite, x_ifS, x_andT, x_orT, x_and, x_or, x_chain, x_bi, x_biF, x_call, x_perm, x_it, x_ret, x_drop, x_next, x_set, x_setF, x_asg, x_aug, x_for, x_comp, x_cat, x_dSub, x_dAdd, x_dAddI, x_dLt, x_dLe, x_dGt, x_dGe, x_dNeg, x_dNot, x_dTru, x_dEq, x_dNe, x_var0, x_varS, Option.bind_some, Option.map_some, List.map_cons, List.map_nil, List.length_cons, List.length_nil, List.replicate_succ, List.replicate_zero, List.cons_append, List.nil_append, List.set_cons_zero, List.set_cons_succ, Bool.not_true, Bool.not_false, Bool.false_eq_true, if_true, if_false, decide_true, decide_false, decide_eq_true_eq, dIsN, dNotN, dIdx, dItems, at_int, at0, at1, at2, at3, cut2, gN, gT, gCo, gNl, wipeE, x_for_nil, x_for_cons, x_turn_nx, x_turn_ct, x_turn_bk, x_turn_rt, x_comp_nil, x_comp_cons, sz2, sz4, i_lt_int, i_lt_bl, i_lt_non, i_lt_lst, i_lt_tup, i_i_int, i_i_bl, i_b_int, i_b_bl, i_b_non, i_b_lst, i_b_tup, i_l_int, i_l_bl, i_l_non, i_l_lst, i_l_tup, i_t_int, i_t_lst, i_t_tup, i_d_int, i_d_bl, i_d_non, i_d_lst, i_d_tup, i_ltd_int, i_ltd_bl, i_ltd_non, l_lst, l_tup, t_lst, t_tup, a_lst, b_nil, b_cons, cut_lst, cut_tup, x_dEqb, x_dNeb, x_dEqn, x_zip, x_range1, x_range2, Int.cast_ofNat_Int, Nat.zero_add, List.all_cons, List.all_nil, id, Bool.and_true, Bool.true_and, Bool.and_false, Bool.false_and, Bool.or_true, Bool.true_or, Bool.or_false, Bool.false_or, Nat.reduceAdd, Nat.reduceSub, Int.reduceEq, Int.reduceLT, Int.reduceLE, Int.reduceNeg, szl0, szl1, szl2, szl3, szl4, szl5, szl6, szl7, szl8, szl9, szl10, x_extend, x_append, x_borT, x_frz, x_idxO, List.getElem?_cons_zero, List.getElem?_cons_succ, x_notIn, x_isIn, rg_m1, rg_m2, rg_2, rg_3, rg_5, x_abs, x_int, x_rep2, Int.reduceAdd, Int.reduceSub, Int.reduceToNat, and_self, ram3, rbm3, ram2, rbm2, ram1, rbm1, ra0, rb0, ra1, rb1, ra2, rb2, ra3, rb3, ra4, rb4, ra5, rb5, ra6, rb6, ra7, rb7, ra8, rb8, ra9, rb9, ra10, rb10, ra11, rb11, ra12, rb12, ra13, rb13, ra20, rb20, ra24, rb24, ek, hm, e]
  · obtain ⟨s', e, p, q⟩ := bb (some a) (some (b + m)) m r S1 (by omega) (sm_some (by omega)) (sm_some (by omega)) (by omega) (by omega)
    simp only [oD_none, oD_some] at e
    refine ⟨s', S1, ?_, p, q⟩
    simp only [F__law_strip_beside, m__law_strip_beside, sD, sL, qD, oD_none, oD_some, x_def, startE, x_seq, x_nx, x_rt, x_bk, x_ct, x_bind, x_pure, x_c, x_nil, x_cons, x_tup, x_lst, x_op2, x_op1, x_tru, x_notT, x_ite, x_ifS, x_andT, x_orT, x_and, x_or, x_chain, x_bi, x_biF, x_call, x_perm, x_it, x_ret, x_drop, x_next, x_set, x_setF, x_asg, x_aug, x_for, x_comp, x_cat, x_dSub, x_dAdd, x_dAddI, x_dLt, x_dLe, x_dGt, x_dGe, x_dNeg, x_dNot, x_dTru, x_dEq, x_dNe, x_var0, x_varS, Option.bind_some, Option.map_some, List.map_cons, List.map_nil, List.length_cons, List.length_nil, List.replicate_succ, List.replicate_zero, List.cons_append, List.nil_append, List.set_cons_zero, List.set_cons_succ, Bool.not_true, Bool.not_false, Bool.false_eq_true, if_true, if_false, decide_true, decide_false, decide_eq_true_eq, dIsN, dNotN, dIdx, dItems, at_int, at0, at1, at2, at3, cut2, gN, gT, gCo, gNl, wipeE, x_for_nil, x_for_cons, x_turn_nx, x_turn_ct, x_turn_bk, x_turn_rt, x_comp_nil, x_comp_cons, sz2, sz4, i_lt_int, i_lt_bl, i_lt_non, i_lt_lst, i_lt_tup, i_i_int, i_i_bl, i_b_int, i_b_bl, i_b_non, i_b_lst, i_b_tup, i_l_int, i_l_bl, i_l_non, i_l_lst, i_l_tup, i_t_int, i_t_lst, i_t_tup, i_d_int, i_d_bl, i_d_non, i_d_lst, i_d_tup, i_ltd_int, i_ltd_bl, i_ltd_non, l_lst, l_tup, t_lst, t_tup, a_lst, b_nil, b_cons, cut_lst, cut_tup, x_dEqb, x_dNeb, x_dEqn, x_zip, x_range1, x_range2, Int.cast_ofNat_Int, Nat.zero_add, List.all_cons, List.all_nil, id, Bool.and_true, Bool.true_and, Bool.and_false, Bool.false_and, Bool.or_true, Bool.true_or, Bool.or_false, Bool.false_or, Nat.reduceAdd, Nat.reduceSub, Int.reduceEq, Int.reduceLT, Int.reduceLE, Int.reduceNeg, szl0, szl1, szl2, szl3, szl4, szl5, szl6, szl7, szl8, szl9, szl10, x_extend, x_append, x_borT, x_frz, x_idxO, List.getElem?_cons_zero, List.getElem?_cons_succ, x_notIn, x_isIn, rg_m1, rg_m2, rg_2, rg_3, rg_5, x_abs, x_int, x_rep2, Int.reduceAdd, Int.reduceSub, Int.reduceToNat, and_self, ram3, rbm3, ram2, rbm2, ram1, rbm1, ra0, rb0, ra1, rb1, ra2, rb2, ra3, rb3, ra4, rb4, ra5, rb5, ra6, rb6, ra7, rb7, ra8, rb8, ra9, rb9, ra10, rb10, ra11, rb11, ra12, rb12, ra13, rb13, ra20, rb20, ra24, rb24, ek, hm, e]
  · obtain ⟨s', e, p, q⟩ := bb (some a) (some b) (2 * m) r S1 (by omega) (sm_some (by omega)) (sm_some (by omega)) (by omega) (by omega)
    simp only [oD_none, oD_some] at e
    refine ⟨s', S1, ?_, p, q⟩
    simp only [F__law_strip_beside, m__law_strip_beside, sD, sL, qD, oD_none, oD_some, x_def, startE, x_seq, x_nx, x_rt, x_bk, x_ct, x_bind, x_pure, x_c, x_nil, x_cons, x_tup, x_lst, x_op2, x_op1, x_tru, x_notT, x_ite, x_ifS, x_andT, x_orT, x_and, x_or, x_chain, x_bi, x_biF, x_call, x_perm, x_it, x_ret, x_drop, x_next, x_set, x_setF, x_asg, x_aug, x_for, x_comp, x_cat, x_dSub, x_dAdd, x_dAddI, x_dLt, x_dLe, x_dGt, x_dGe, x_dNeg, x_dNot, x_dTru, x_dEq, x_dNe, x_var0, x_varS, Option.bind_some, Option.map_some, List.map_cons, List.map_nil, List.length_cons, List.length_nil, List.replicate_succ, List.replicate_zero, List.cons_append, List.nil_append, List.set_cons_zero, List.set_cons_succ, Bool.not_true, Bool.not_false, Bool.false_eq_true, if_true, if_false, decide_true, decide_false, decide_eq_true_eq, dIsN, dNotN, dIdx, dItems, at_int, at0, at1, at2, at3, cut2, gN, gT, gCo, gNl, wipeE, x_for_nil, x_for_cons, x_turn_nx, x_turn_ct, x_turn_bk, x_turn_rt, x_comp_nil, x_comp_cons, sz2, sz4, i_lt_int, i_lt_bl, i_lt_non, i_lt_lst, i_lt_tup, i_i_int, i_i_bl, i_b_int, i_b_bl, i_b_non, i_b_lst, i_b_tup, i_l_int, i_l_bl, i_l_non, i_l_lst, i_l_tup, i_t_int, i_t_lst, i_t_tup, i_d_int, i_d_bl, i_d_non, i_d_lst, i_d_tup, i_ltd_int, i_ltd_bl, i_ltd_non, l_lst, l_tup, t_lst, t_tup, a_lst, b_nil, b_cons, cut_lst, cut_tup, x_dEqb, x_dNeb, x_dEqn, x_zip, x_range1, x_range2, Int.cast_ofNat_Int, Nat.zero_add, List.all_cons, List.all_nil, id, Bool.and_true, Bool.true_and, Bool.and_false, Bool.false_and, Bool.or_true, Bool.true_or, Bool.or_false, Bool.false_or, Nat.reduceAdd, Nat.reduceSub, Int.reduceEq, Int.reduceLT, Int.reduceLE, Int.reduceNeg, szl0, szl1, szl2, szl3, szl4, szl5, szl6, szl7, szl8, szl9, szl10, x_extend, x_append, x_borT, x_frz, x_idxO, List.getElem?_cons_zero, List.getElem?_cons_succ, x_notIn, x_isIn, rg_m1, rg_m2, rg_2, rg_3, rg_5, x_abs, x_int, x_rep2, Int.reduceAdd, Int.reduceSub, Int.reduceToNat, and_self, ram3, rbm3, ram2, rbm2, ram1, rbm1, ra0, rb0, ra1, rb1, ra2, rb2, ra3, rb3, ra4, rb4, ra5, rb5, ra6, rb6, ra7, rb7, ra8, rb8, ra9, rb9, ra10, rb10, ra11, rb11, ra12, rb12, ra13, rb13, ra20, rb20, ra24, rb24, ek, hm, k_mul (m := m) (by omega : m.natAbs < 2 ^ 900) 2 (by decide), e]
  · by_cases hp : m % 2 = 0
    · obtain ⟨s', e, p, q⟩ := bb (some a) (some b) (m / 2) r S1 (by omega) (sm_some (by omega)) (sm_some (by omega)) (by omega) (by omega)
      simp only [oD_none, oD_some] at e
      refine ⟨s', S1, ?_, p, q⟩
      simp only [F__law_strip_beside, m__law_strip_beside, sD, sL, qD, oD_none, oD_some, x_def, startE, x_seq, x_nx, x_rt, x_bk, x_ct, x_bind, x_pure, x_c, x_nil, x_cons, x_tup, x_lst, x_op2, x_op1, x_tru, x_notT, x_ite, x_ifS, x_andT, x_orT, x_and, x_or, x_chain, x_bi, x_biF, x_call, x_perm, x_it, x_ret, x_drop, x_next, x_set, x_setF, x_asg, x_aug, x_for, x_comp, x_cat, x_dSub, x_dAdd, x_dAddI, x_dLt, x_dLe, x_dGt, x_dGe, x_dNeg, x_dNot, x_dTru, x_dEq, x_dNe, x_var0, x_varS, Option.bind_some, Option.map_some, List.map_cons, List.map_nil, List.length_cons, List.length_nil, List.replicate_succ, List.replicate_zero, List.cons_append, List.nil_append, List.set_cons_zero, List.set_cons_succ, Bool.not_true, Bool.not_false, Bool.false_eq_true, if_true, if_false, decide_true, decide_false, decide_eq_true_eq, dIsN, dNotN, dIdx, dItems, at_int, at0, at1, at2, at3, cut2, gN, gT, gCo, gNl, wipeE, x_for_nil, x_for_cons, x_turn_nx, x_turn_ct, x_turn_bk, x_turn_rt, x_comp_nil, x_comp_cons, sz2, sz4, i_lt_int, i_lt_bl, i_lt_non, i_lt_lst, i_lt_tup, i_i_int, i_i_bl, i_b_int, i_b_bl, i_b_non, i_b_lst, i_b_tup, i_l_int, i_l_bl, i_l_non, i_l_lst, i_l_tup, i_t_int, i_t_lst, i_t_tup, i_d_int, i_d_bl, i_d_non, i_d_lst, i_d_tup, i_ltd_int, i_ltd_bl, i_ltd_non, l_lst, l_tup, t_lst, t_tup, a_lst, b_nil, b_cons, cut_lst, cut_tup, x_dEqb, x_dNeb, x_dEqn, x_zip, x_range1, x_range2, Int.cast_ofNat_Int, Nat.zero_add, List.all_cons, List.all_nil, id, Bool.and_true, Bool.true_and, Bool.and_false, Bool.false_and, Bool.or_true, Bool.true_or, Bool.or_false, Bool.false_or, Nat.reduceAdd, Nat.reduceSub, Int.reduceEq, Int.reduceLT, Int.reduceLE, Int.reduceNeg, szl0, szl1, szl2, szl3, szl4, szl5, szl6, szl7, szl8, szl9, szl10, x_extend, x_append, x_borT, x_frz, x_idxO, List.getElem?_cons_zero, List.getElem?_cons_succ, x_notIn, x_isIn, rg_m1, rg_m2, rg_2, rg_3, rg_5, x_abs, x_int, x_rep2, Int.reduceAdd, Int.reduceSub, Int.reduceToNat, and_self, ram3, rbm3, ram2, rbm2, ram1, rbm1, ra0, rb0, ra1, rb1, ra2, rb2, ra3, rb3, ra4, rb4, ra5, rb5, ra6, rb6, ra7, rb7, ra8, rb8, ra9, rb9, ra10, rb10, ra11, rb11, ra12, rb12, ra13, rb13, ra20, rb20, ra24, rb24, ek, hm, x_dMod (i := m) (j := 2) (by decide), hp, dDiv_ok (i := m) (j := 2) (by decide) (by decide), e]
    · obtain ⟨s', e, p, q⟩ := bb (some a) (some b) 1 r S1 (by omega) (sm_some (by omega)) (sm_some (by omega)) (by omega) (by omega)
      simp only [oD_none, oD_some] at e
      refine ⟨s', S1, ?_, p, q⟩
      simp only [F__law_strip_beside, m__law_strip_beside, sD, sL, qD, oD_none, oD_some, x_def, startE, x_seq, x_nx, x_rt, x_bk, x_ct, x_bind, x_pure, x_c, x_nil, x_cons, x_tup, x_lst, x_op2, x_op1, x_tru, x_notT, x_ite, x_ifS, x_andT, x_orT, x_and, x_or, x_chain, x_bi, x_biF, x_call, x_perm, x_it, x_ret, x_drop, x_next, x_set, x_setF, x_asg, x_aug, x_for, x_comp, x_cat, x_dSub, x_dAdd, x_dAddI, x_dLt, x_dLe, x_dGt, x_dGe, x_dNeg, x_dNot, x_dTru, x_dEq, x_dNe, x_var0, x_varS, Option.bind_some, Option.map_some, List.map_cons, List.map_nil, List.length_cons, List.length_nil, List.replicate_succ, List.replicate_zero, List.cons_append, List.nil_append, List.set_cons_zero, List.set_cons_succ, Bool.not_true, Bool.not_false, Bool.false_eq_true, if_true, if_false, decide_true, decide_false, decide_eq_true_eq, dIsN, dNotN, dIdx, dItems, at_int, at0, at1, at2, at3, cut2, gN, gT, gCo, gNl, wipeE, x_for_nil, x_for_cons, x_turn_nx, x_turn_ct, x_turn_bk, x_turn_rt, x_comp_nil, x_comp_cons, sz2, sz4, i_lt_int, i_lt_bl, i_lt_non, i_lt_lst, i_lt_tup, i_i_int, i_i_bl, i_b_int, i_b_bl, i_b_non, i_b_lst, i_b_tup, i_l_int, i_l_bl, i_l_non, i_l_lst, i_l_tup, i_t_int, i_t_lst, i_t_tup, i_d_int, i_d_bl, i_d_non, i_d_lst, i_d_tup, i_ltd_int, i_ltd_bl, i_ltd_non, l_lst, l_tup, t_lst, t_tup, a_lst, b_nil, b_cons, cut_lst, cut_tup, x_dEqb, x_dNeb, x_dEqn, x_zip, x_range1, x_range2, Int.cast_ofNat_Int, Nat.zero_add, List.all_cons, List.all_nil, id, Bool.and_true, Bool.true_and, Bool.and_false, Bool.false_and, Bool.or_true, Bool.true_or, Bool.or_false, Bool.false_or, Nat.reduceAdd, Nat.reduceSub, Int.reduceEq, Int.reduceLT, Int.reduceLE, Int.reduceNeg, szl0, szl1, szl2, szl3, szl4, szl5, szl6, szl7, szl8, szl9, szl10, x_extend, x_append, x_borT, x_frz, x_idxO, List.getElem?_cons_zero, List.getElem?_cons_succ, x_notIn, x_isIn, rg_m1, rg_m2, rg_2, rg_3, rg_5, x_abs, x_int, x_rep2, Int.reduceAdd, Int.reduceSub, Int.reduceToNat, and_self, ram3, rbm3, ram2, rbm2, ram1, rbm1, ra0, rb0, ra1, rb1, ra2, rb2, ra3, rb3, ra4, rb4, ra5, rb5, ra6, rb6, ra7, rb7, ra8, rb8, ra9, rb9, ra10, rb10, ra11, rb11, ra12, rb12, ra13, rb13, ra20, rb20, ra24, rb24, ek, hm, x_dMod (i := m) (j := 2) (by decide), hp, e]
  · obtain ⟨s', e, p, q⟩ := bb (some a) (some b) m (r + 1) S1 (by omega) (sm_some (by omega)) (sm_some (by omega)) (by omega) (by omega)
    simp only [oD_none, oD_some] at e
    refine ⟨s', S1, ?_, p, q⟩
    simp only [F__law_strip_beside, m__law_strip_beside, sD, sL, qD, oD_none, oD_some, x_def, startE, x_seq, x_nx, x_rt, x_bk, x_ct, x_bind, x_pure, x_c, x_nil, x_cons, x_tup, x_lst, x_op2, x_op1, x_tru, x_notT, x_ite, x_ifS, x_andT, x_orT, x_and, x_or, x_chain, x_bi, x_biF, x_call, x_perm, x_it, x_ret, x_drop, x_next, x_set, x_setF, x_asg, x_aug, x_for, x_comp, x_cat, x_dSub, x_dAdd, x_dAddI, x_dLt, x_dLe, x_dGt, x_dGe, x_dNeg, x_dNot, x_dTru, x_dEq, x_dNe, x_var0, x_varS, Option.bind_some, Option.map_some, List.map_cons, List.map_nil, List.length_cons, List.length_nil, List.replicate_succ, List.replicate_zero, List.cons_append, List.nil_append, List.set_cons_zero, List.set_cons_succ, Bool.not_true, Bool.not_false, Bool.false_eq_true, if_true, if_false, decide_true, decide_false, decide_eq_true_eq, dIsN, dNotN, dIdx, dItems, at_int, at0, at1, at2, at3, cut2, gN, gT, gCo, gNl, wipeE, x_for_nil, x_for_cons, x_turn_nx, x_turn_ct, x_turn_bk, x_turn_rt, x_comp_nil, x_comp_cons, sz2, sz4, i_lt_int, i_lt_bl, i_lt_non, i_lt_lst, i_lt_tup, i_i_int, i_i_bl, i_b_int, i_b_bl, i_b_non, i_b_lst, i_b_tup, i_l_int, i_l_bl, i_l_non, i_l_lst, i_l_tup, i_t_int, i_t_lst, i_t_tup, i_d_int, i_d_bl, i_d_non, i_d_lst, i_d_tup, i_ltd_int, i_ltd_bl, i_ltd_non, l_lst, l_tup, t_lst, t_tup, a_lst, b_nil, b_cons, cut_lst, cut_tup, x_dEqb, x_dNeb, x_dEqn, x_zip, x_range1, x_range2, Int.cast_ofNat_Int, Nat.zero_add, List.all_cons, List.all_nil, id, Bool.and_true, Bool.true_and, Bool.and_false, Bool.false_and, Bool.or_true, Bool.true_or, Bool.or_false, Bool.false_or, Nat.reduceAdd, Nat.reduceSub, Int.reduceEq, Int.reduceLT, Int.reduceLE, Int.reduceNeg, szl0, szl1, szl2, szl3, szl4, szl5, szl6, szl7, szl8, szl9, szl10, x_extend, x_append, x_borT, x_frz, x_idxO, List.getElem?_cons_zero, List.getElem?_cons_succ, x_notIn, x_isIn, rg_m1, rg_m2, rg_2, rg_3, rg_5, x_abs, x_int, x_rep2, Int.reduceAdd, Int.reduceSub, Int.reduceToNat, and_self, ram3, rbm3, ram2, rbm2, ram1, rbm1, ra0, rb0, ra1, rb1, ra2, rb2, ra3, rb3, ra4, rb4, ra5, rb5, ra6, rb6, ra7, rb7, ra8, rb8, ra9, rb9, ra10, rb10, ra11, rb11, ra12, rb12, ra13, rb13, ra20, rb20, ra24, rb24, ek, hm, e]
  · obtain ⟨s', S2, e, p, q⟩ := beside_last v hm bs S1
    simp only [oD_none, oD_some] at e
    refine ⟨s', S2, ?_, p, q⟩
    simp only [F__law_strip_beside, m__law_strip_beside, sD, sL, qD, oD_none, oD_some, x_def, startE, x_seq, x_nx, x_rt, x_bk, x_ct, x_bind, x_pure, x_c, x_nil, x_cons, x_tup, x_lst, x_op2, x_op1, x_tru, x_notT, x_ite, x_ifS, x_andT, x_orT, x_and, x_or, x_chain, x_bi, x_biF, x_call, x_perm, x_it, x_ret, x_drop, x_next, x_set, x_setF, x_asg, x_aug, x_for, x_comp, x_cat, x_dSub, x_dAdd, x_dAddI, x_dLt, x_dLe, x_dGt, x_dGe, x_dNeg, x_dNot, x_dTru, x_dEq, x_dNe, x_var0, x_varS, Option.bind_some, Option.map_some, List.map_cons, List.map_nil, List.length_cons, List.length_nil, List.replicate_succ, List.replicate_zero, List.cons_append, List.nil_append, List.set_cons_zero, List.set_cons_succ, Bool.not_true, Bool.not_false, Bool.false_eq_true, if_true, if_false, decide_true, decide_false, decide_eq_true_eq, dIsN, dNotN, dIdx, dItems, at_int, at0, at1, at2, at3, cut2, gN, gT, gCo, gNl, wipeE, x_for_nil, x_for_cons, x_turn_nx, x_turn_ct, x_turn_bk, x_turn_rt, x_comp_nil, x_comp_cons, sz2, sz4, i_lt_int, i_lt_bl, i_lt_non, i_lt_lst, i_lt_tup, i_i_int, i_i_bl, i_b_int, i_b_bl, i_b_non, i_b_lst, i_b_tup, i_l_int, i_l_bl, i_l_non, i_l_lst, i_l_tup, i_t_int, i_t_lst, i_t_tup, i_d_int, i_d_bl, i_d_non, i_d_lst, i_d_tup, i_ltd_int, i_ltd_bl, i_ltd_non, l_lst, l_tup, t_lst, t_tup, a_lst, b_nil, b_cons, cut_lst, cut_tup, x_dEqb, x_dNeb, x_dEqn, x_zip, x_range1, x_range2, Int.cast_ofNat_Int, Nat.zero_add, List.all_cons, List.all_nil, id, Bool.and_true, Bool.true_and, Bool.and_false, Bool.false_and, Bool.or_true, Bool.true_or, Bool.or_false, Bool.false_or, Nat.reduceAdd, Nat.reduceSub, Int.reduceEq, Int.reduceLT, Int.reduceLE, Int.reduceNeg, szl0, szl1, szl2, szl3, szl4, szl5, szl6, szl7, szl8, szl9, szl10, x_extend, x_append, x_borT, x_frz, x_idxO, List.getElem?_cons_zero, List.getElem?_cons_succ, x_notIn, x_isIn, rg_m1, rg_m2, rg_2, rg_3, rg_5, x_abs, x_int, x_rep2, Int.reduceAdd, Int.reduceSub, Int.reduceToNat, and_self, ram3, rbm3, ram2, rbm2, ram1, rbm1, ra0, rb0, ra1, rb1, ra2, rb2, ra3, rb3, ra4, rb4, ra5, rb5, ra6, rb6, ra7, rb7, ra8, rb8, ra9, rb9, ra10, rb10, ra11, rb11, ra12, rb12, ra13, rb13, ra20, rb20, ra24, rb24, ek, hm, e]
  · obtain ⟨s', S2, e, p, q⟩ := beside_last v hm bs S1
    simp only [oD_none, oD_some] at e
    refine ⟨s', S2, ?_, p, q⟩
    simp only [F__law_strip_beside, m__law_strip_beside, sD, sL, qD, oD_none, oD_some, x_def, startE, x_seq, x_nx, x_rt, x_bk, x_ct, x_bind, x_pure, x_c, x_nil, x_cons, x_tup, x_lst, x_op2, x_op1, x_tru, x_notT, x_ite, x_ifS, x_andT, x_orT, x_and, x_or, x_chain, x_bi, x_biF, x_call, x_perm, x_it, x_ret, x_drop, x_next, x_set, x_setF, x_asg, x_aug, x_for, x_comp, x_cat, x_dSub, x_dAdd, x_dAddI, x_dLt, x_dLe, x_dGt, x_dGe, x_dNeg, x_dNot, x_dTru, x_dEq, x_dNe, x_var0, x_varS, Option.bind_some, Option.map_some, List.map_cons, List.map_nil, List.length_cons, List.length_nil, List.replicate_succ, List.replicate_zero, List.cons_append, List.nil_append, List.set_cons_zero, List.set_cons_succ, Bool.not_true, Bool.not_false, Bool.false_eq_true, if_true, if_false, decide_true, decide_false, decide_eq_true_eq, dIsN, dNotN, dIdx, dItems, at_int, at0, at1, at2, at3, cut2, gN, gT, gCo, gNl, wipeE, x_for_nil, x_for_cons, x_turn_nx, x_turn_ct, x_turn_bk, x_turn_rt, x_comp_nil, x_comp_cons, sz2, sz4, i_lt_int, i_lt_bl, i_lt_non, i_lt_lst, i_lt_tup, i_i_int, i_i_bl, i_b_int, i_b_bl, i_b_non, i_b_lst, i_b_tup, i_l_int, i_l_bl, i_l_non, i_l_lst, i_l_tup, i_t_int, i_t_lst, i_t_tup, i_d_int, i_d_bl, i_d_non, i_d_lst, i_d_tup, i_ltd_int, i_ltd_bl, i_ltd_non, l_lst, l_tup, t_lst, t_tup, a_lst, b_nil, b_cons, cut_lst, cut_tup, x_dEqb, x_dNeb, x_dEqn, x_zip, x_range1, x_range2, Int.cast_ofNat_Int, Nat.zero_add, List.all_cons, List.all_nil, id, Bool.and_true, Bool.true_and, Bool.and_false, Bool.false_and, Bool.or_true, Bool.true_or, Bool.or_false, Bool.false_or, Nat.reduceAdd, Nat.reduceSub, Int.reduceEq, Int.reduceLT, Int.reduceLE, Int.reduceNeg, szl0, szl1, szl2, szl3, szl4, szl5, szl6, szl7, szl8, szl9, szl10, x_extend, x_append, x_borT, x_frz, x_idxO, List.getElem?_cons_zero, List.getElem?_cons_succ, x_notIn, x_isIn, rg_m1, rg_m2, rg_2, rg_3, rg_5, x_abs, x_int, x_rep2, Int.reduceAdd, Int.reduceSub, Int.reduceToNat, and_self, ram3, rbm3, ram2, rbm2, ram1, rbm1, ra0, rb0, ra1, rb1, ra2, rb2, ra3, rb3, ra4, rb4, ra5, rb5, ra6, rb6, ra7, rb7, ra8, rb8, ra9, rb9, ra10, rb10, ra11, rb11, ra12, rb12, ra13, rb13, ra20, rb20, ra24, rb24, ek, hm, e]
theorem v_beside {s : ST} (v : Vd s) (bs : Bs 202 s) (S : Strm) : ∃ s' S', F__law_strip_beside [.strm, sD s] S = some (sD s', S') ∧ Vd s' ∧ Bs 212 s' := by
  cases s with
  | none =>
    obtain ⟨s', S2, e, p, q⟩ := beside_one 3 (by decide) S
    simp only [Int.reduceAdd, Int.reduceSub, Int.reduceMod] at e
    refine ⟨s', S2, ?_, p, q⟩
    have e2 : F__law_strip_beside [.strm, sD none] S = some (sD s', S2) := by
      simp only [F__law_strip_beside, m__law_strip_beside, sD, sL, x_def, startE, x_seq, x_nx, x_rt, x_bk, x_ct, x_bind, x_pure, x_c, x_nil, x_cons, x_tup, x_lst, x_op2, x_op1, x_tru, x_notT, x_ite, x_ifS, x_andT, x_orT, x_and, x_or, x_chain, x_bi, x_biF, x_call, x_perm, x_it, x_ret, x_drop, x_next, x_set, x_setF, x_asg, x_aug, x_for, x_comp, x_cat, x_dSub, x_dAdd, x_dAddI, x_dLt, x_dLe, x_dGt, x_dGe, x_dNeg, x_dNot, x_dTru, x_dEq, x_dNe, x_var0, x_varS, Option.bind_some, Option.map_some, List.map_cons, List.map_nil, List.length_cons, List.length_nil, List.replicate_succ, List.replicate_zero, List.cons_append, List.nil_append, List.set_cons_zero, List.set_cons_succ, Bool.not_true, Bool.not_false, Bool.false_eq_true, if_true, if_false, decide_true, decide_false, decide_eq_true_eq, dIsN, dNotN, dIdx, dItems, at_int, at0, at1, at2, at3, cut2, gN, gT, gCo, gNl, wipeE, x_for_nil, x_for_cons, x_turn_nx, x_turn_ct, x_turn_bk, x_turn_rt, x_comp_nil, x_comp_cons, sz2, sz4, i_lt_int, i_lt_bl, i_lt_non, i_lt_lst, i_lt_tup, i_i_int, i_i_bl, i_b_int, i_b_bl, i_b_non, i_b_lst, i_b_tup, i_l_int, i_l_bl, i_l_non, i_l_lst, i_l_tup, i_t_int, i_t_lst, i_t_tup, i_d_int, i_d_bl, i_d_non, i_d_lst, i_d_tup, i_ltd_int, i_ltd_bl, i_ltd_non, l_lst, l_tup, t_lst, t_tup, a_lst, b_nil, b_cons, cut_lst, cut_tup, x_dEqb, x_dNeb, x_dEqn, x_zip, x_range1, x_range2, Int.cast_ofNat_Int, Nat.zero_add, List.all_cons, List.all_nil, id, Bool.and_true, Bool.true_and, Bool.and_false, Bool.false_and, Bool.or_true, Bool.true_or, Bool.or_false, Bool.false_or, Nat.reduceAdd, Nat.reduceSub, Int.reduceEq, Int.reduceLT, Int.reduceLE, Int.reduceNeg, szl0, szl1, szl2, szl3, szl4, szl5, szl6, szl7, szl8, szl9, szl10, x_extend, x_append, x_borT, x_frz, x_idxO, List.getElem?_cons_zero, List.getElem?_cons_succ, x_notIn, x_isIn, rg_m1, rg_m2, rg_2, rg_3, rg_5, x_abs, x_int, x_rep2, Int.reduceAdd, Int.reduceSub, Int.reduceToNat, and_self, ram3, rbm3, ram2, rbm2, ram1, rbm1, ra0, rb0, ra1, rb1, ra2, rb2, ra3, rb3, ra4, rb4, ra5, rb5, ra6, rb6, ra7, rb7, ra8, rb8, ra9, rb9, ra10, rb10, ra11, rb11, ra12, rb12, ra13, rb13, ra20, rb20, ra24, rb24, x_dMod (i := 3) (j := 2) (by decide), Int.reduceMod, e]
    exact e2
  | some x =>
    obtain ⟨l, h, m, r⟩ := x
    by_cases hm : m = 0
    · subst hm
      obtain ⟨rfl, rfl⟩ := v.alone
      have ⟨b1, b2, b3, b4⟩ := bs
      obtain ⟨s', S2, e, p, q⟩ := beside_one r (by omega) S
      refine ⟨s', S2, ?_, p, q⟩
      simp only [F__law_strip_beside, m__law_strip_beside, sD, sL, qD, oD_some, x_def, startE, x_seq, x_nx, x_rt, x_bk, x_ct, x_bind, x_pure, x_c, x_nil, x_cons, x_tup, x_lst, x_op2, x_op1, x_tru, x_notT, x_ite, x_ifS, x_andT, x_orT, x_and, x_or, x_chain, x_bi, x_biF, x_call, x_perm, x_it, x_ret, x_drop, x_next, x_set, x_setF, x_asg, x_aug, x_for, x_comp, x_cat, x_dSub, x_dAdd, x_dAddI, x_dLt, x_dLe, x_dGt, x_dGe, x_dNeg, x_dNot, x_dTru, x_dEq, x_dNe, x_var0, x_varS, Option.bind_some, Option.map_some, List.map_cons, List.map_nil, List.length_cons, List.length_nil, List.replicate_succ, List.replicate_zero, List.cons_append, List.nil_append, List.set_cons_zero, List.set_cons_succ, Bool.not_true, Bool.not_false, Bool.false_eq_true, if_true, if_false, decide_true, decide_false, decide_eq_true_eq, dIsN, dNotN, dIdx, dItems, at_int, at0, at1, at2, at3, cut2, gN, gT, gCo, gNl, wipeE, x_for_nil, x_for_cons, x_turn_nx, x_turn_ct, x_turn_bk, x_turn_rt, x_comp_nil, x_comp_cons, sz2, sz4, i_lt_int, i_lt_bl, i_lt_non, i_lt_lst, i_lt_tup, i_i_int, i_i_bl, i_b_int, i_b_bl, i_b_non, i_b_lst, i_b_tup, i_l_int, i_l_bl, i_l_non, i_l_lst, i_l_tup, i_t_int, i_t_lst, i_t_tup, i_d_int, i_d_bl, i_d_non, i_d_lst, i_d_tup, i_ltd_int, i_ltd_bl, i_ltd_non, l_lst, l_tup, t_lst, t_tup, a_lst, b_nil, b_cons, cut_lst, cut_tup, x_dEqb, x_dNeb, x_dEqn, x_zip, x_range1, x_range2, Int.cast_ofNat_Int, Nat.zero_add, List.all_cons, List.all_nil, id, Bool.and_true, Bool.true_and, Bool.and_false, Bool.false_and, Bool.or_true, Bool.true_or, Bool.or_false, Bool.false_or, Nat.reduceAdd, Nat.reduceSub, Int.reduceEq, Int.reduceLT, Int.reduceLE, Int.reduceNeg, szl0, szl1, szl2, szl3, szl4, szl5, szl6, szl7, szl8, szl9, szl10, x_extend, x_append, x_borT, x_frz, x_idxO, List.getElem?_cons_zero, List.getElem?_cons_succ, x_notIn, x_isIn, rg_m1, rg_m2, rg_2, rg_3, rg_5, x_abs, x_int, x_rep2, Int.reduceAdd, Int.reduceSub, Int.reduceToNat, and_self, ram3, rbm3, ram2, rbm2, ram1, rbm1, ra0, rb0, ra1, rb1, ra2, rb2, ra3, rb3, ra4, rb4, ra5, rb5, ra6, rb6, ra7, rb7, ra8, rb8, ra9, rb9, ra10, rb10, ra11, rb11, ra12, rb12, ra13, rb13, ra20, rb20, ra24, rb24, x_dMod (i := r) (j := 2) (by decide), e]
    · cases l with
      | none =>
        cases h with
        | none => exact beside_0 v hm bs S
        | some b => exact beside_2 v hm bs S
      | some a =>
        cases h with
        | none => exact beside_1 v hm bs S
        | some b => exact beside_3 v hm bs S
end L2.Ev.K10
namespace L2.Ev.K10
open PySem PySem.Spec PyProof.Rows
def B1 : MS := (mSeq (mSet 5 (mCall F__law_strip_quadruple (mCons (mVar 1) mNil))) (mSeq (mIfS (mNotT (mTru (mCall F__law_told_right (mCons (mVar 1) (mCons (mVar 5) mNil))))) (mRet (mC (.bl false))) mNext) (mSeq (mAsg (gT 4 (gCo (gN 7) (gCo (gN 8) (gCo (gN 9) (gCo (gN 10) gNl))))) (mVar 5)) (mSeq (mAppend 2 (mCall F__law_strip_brought (mCons (mVar 7) (mCons (mVar 8) (mCons (mVar 9) (mCons (mVar 10) mNil)))))) (mAppend 2 (mCall F__law_strip_beside (mCons (mVar 1) (mCons (mIdxO 2 (mOp1 dNeg (mC (.int 1)))) mNil))))))))
def B3 : MS := (mSeq (mSet 11 (mLst (mCons (mCall F_strip_within (mCons (mVar 4) (mCons (mVar 6) mNil))) (mCons (mCall F_strip_within (mPerm [1, 0] (mCons (mCall (F__law_loose 24) (mCons (mVar 1) (mCons (mVar 6) mNil))) (mCons (mCall (F__law_loose 24) (mCons (mVar 1) (mCons (mVar 4) mNil))) mNil)))) mNil)))) (mIfS (mNotT (mTru (mCall (F__law_same 24) (mCons (mVar 11) (mCons (mOp2 dRep (mLst (mCons (mCall F__law_strip_inside (mCons (mVar 4) (mCons (mVar 6) mNil))) mNil)) (mC (.int 2))) mNil))))) (mRet (mC (.bl false))) mNext))
def Ok (s : ST) : Prop := Vd s ∧ Bs 212 s
theorem turn (ss : List ST) (hs : ss.length + 2 ≤ 1000) (t x4 x5 x6 x7 x8 x9 x10 x11 : Option Ent) (S : Strm) :
    ∃ (a b : ST) (y5 y7 y8 y9 y10 : Option Ent) (S' : Strm), B1 [none, some (.sh .strm), some (.ol (ss.map sD)), t, x4, x5, x6, x7, x8, x9, x10, x11] S = some (.nx [none, some (.sh .strm), some (.ol ((ss ++ [a, b]).map sD)), t, x4, y5, x6, y7, y8, y9, y10, x11], S') ∧ Ok a ∧ Ok b := by
  obtain ⟨l, h, m, r, S1, e1, pm, bl, bh, bm, br⟩ := v_quad S
  have bl' := sm_up bl (by decide : 150 ≤ 200)
  have bh' := sm_up bh (by decide : 150 ≤ 200)
  have bm' := nat_up bm (by decide : 150 ≤ 200)
  have br' := nat_up br (by decide : 150 ≤ 200)
  obtain ⟨S2, e2⟩ := v_told l h m r pm bl' bh' bm' br' S1
  have e3 := v_brought' l h m r S2 pm bl' bh' bm' br'
  have va := bro_valid l h m r pm
  have ba := bro_bound l h m r pm bl' bh' bm' br'
  generalize bro l h m r = a at e3 va ba
  obtain ⟨b, S3, e4, vb, bb⟩ := v_beside va ba S2
  have l1 : ((ss.map sD).length < sizeLine) = True := by rw [List.length_map]; exact eq_true (Nat.lt_of_lt_of_le (by omega : ss.length < 1000) (by simp [sizeLine]))
  have l2 : ((ss.map sD ++ [sD a]).length < sizeLine) = True := by rw [List.length_append, List.length_map]; exact eq_true (Nat.lt_of_lt_of_le (by simp only [List.length_cons, List.length_nil]; omega : _ < 1000) (by simp [sizeLine]))
  refine ⟨a, b, some (.sh (.tup [oD l, oD h, .int m, .int r])), some (.sh (oD l)), some (.sh (oD h)), some (.sh (.int m)), some (.sh (.int r)), S3, ?_, ⟨va, ba.up (by decide)⟩, ⟨vb, bb⟩⟩
  simp only [qD, Bool.false_eq_true, if_false] at e1 e2
  rw [show (ss ++ [a, b]).map sD = ss.map sD ++ [sD a] ++ [sD b] by simp]
  simp only [B1, x_def, startE, x_seq, x_nx, x_rt, x_bk, x_ct, x_bind, x_pure, x_c, x_nil, x_cons, x_tup, x_lst, x_op2, x_op1, x_tru, x_notT, x_ite, x_ifS, x_andT, x_orT, x_and, x_or, x_chain, x_bi, x_biF, x_call, x_perm, x_it, x_ret, x_drop, x_next, x_set, x_setF, x_asg, x_aug, x_for, x_comp, x_cat, x_dSub, x_dAdd, x_dAddI, x_dLt, x_dLe, x_dGt, x_dGe, x_dNeg, x_dNot, x_dTru, x_dEq, x_dNe, x_var0, x_varS, Option.bind_some, Option.map_some, List.map_cons, List.map_nil, List.length_cons, List.length_nil, List.replicate_succ, List.replicate_zero, List.cons_append, List.nil_append, List.set_cons_zero, List.set_cons_succ, Bool.not_true, Bool.not_false, Bool.false_eq_true, if_true, if_false, decide_true, decide_false, decide_eq_true_eq, dIsN, dNotN, dIdx, dItems, at_int, at0, at1, at2, at3, cut2, gN, gT, gCo, gNl, wipeE, x_for_nil, x_for_cons, x_turn_nx, x_turn_ct, x_turn_bk, x_turn_rt, x_comp_nil, x_comp_cons, sz2, sz4, i_lt_int, i_lt_bl, i_lt_non, i_lt_lst, i_lt_tup, i_i_int, i_i_bl, i_b_int, i_b_bl, i_b_non, i_b_lst, i_b_tup, i_l_int, i_l_bl, i_l_non, i_l_lst, i_l_tup, i_t_int, i_t_lst, i_t_tup, i_d_int, i_d_bl, i_d_non, i_d_lst, i_d_tup, i_ltd_int, i_ltd_bl, i_ltd_non, l_lst, l_tup, t_lst, t_tup, a_lst, b_nil, b_cons, cut_lst, cut_tup, x_dEqb, x_dNeb, x_dEqn, x_zip, x_range1, x_range2, Int.cast_ofNat_Int, Nat.zero_add, List.all_cons, List.all_nil, id, Bool.and_true, Bool.true_and, Bool.and_false, Bool.false_and, Bool.or_true, Bool.true_or, Bool.or_false, Bool.false_or, Nat.reduceAdd, Nat.reduceSub, Int.reduceEq, Int.reduceLT, Int.reduceLE, Int.reduceNeg, szl0, szl1, szl2, szl3, szl4, szl5, szl6, szl7, szl8, szl9, szl10, x_extend, x_append, x_borT, x_frz, x_idxO, List.getElem?_cons_zero, List.getElem?_cons_succ, x_notIn, x_isIn, rg_m1, rg_m2, rg_2, rg_3, rg_5, x_abs, x_int, x_rep2, Int.reduceAdd, Int.reduceSub, Int.reduceToNat, and_self, ram3, rbm3, ram2, rbm2, ram1, rbm1, ra0, rb0, ra1, rb1, ra2, rb2, ra3, rb3, ra4, rb4, ra5, rb5, ra6, rb6, ra7, rb7, ra8, rb8, ra9, rb9, ra10, rb10, ra11, rb11, ra12, rb12, ra13, rb13, ra20, rb20, ra24, rb24, e1, e2, e3, l1, l2, at_last, e4]
theorem turns (x4 x6 x11 : Option Ent) : ∀ (ds : List D) (ss : List ST) (t x5 x7 x8 x9 x10 : Option Ent) (S : Strm), ss.length + 2 * ds.length ≤ 1000 → (∀ s ∈ ss, Ok s) →
    ∃ (ss' : List ST) (t' y5 y7 y8 y9 y10 : Option Ent) (S' : Strm), forL (gN 3) B1 ds [none, some (.sh .strm), some (.ol (ss.map sD)), t, x4, x5, x6, x7, x8, x9, x10, x11] S = some (.nx [none, some (.sh .strm), some (.ol (ss'.map sD)), t', x4, y5, x6, y7, y8, y9, y10, x11], S') ∧ (∀ s ∈ ss', Ok s) ∧ ss'.length ≤ ss.length + 2 * ds.length
  | [], ss, t, x5, x7, x8, x9, x10, S, hl, hs => ⟨ss, t, x5, x7, x8, x9, x10, S, rfl, hs, by simp⟩
  | d :: ds, ss, t, x5, x7, x8, x9, x10, S, hl, hs => by
    simp only [List.length_cons] at hl
    obtain ⟨a, b, y5, y7, y8, y9, y10, S1, e1, oa, ob⟩ := turn ss (by omega) (some (.sh d)) x4 x5 x6 x7 x8 x9 x10 x11 S
    obtain ⟨ss', t', z5, z7, z8, z9, z10, S2, e2, h2, l2⟩ := turns x4 x6 x11 ds (ss ++ [a, b]) (some (.sh d)) y5 y7 y8 y9 y10 S1 (by simp only [List.length_append, List.length_cons, List.length_nil]; omega) (by
      intro s h
      rcases List.mem_append.1 h with h | h
      · exact hs s h
      · simp only [List.mem_cons, List.mem_nil_iff, or_false] at h
        rcases h with rfl | rfl
        · exact oa
        · exact ob)
    refine ⟨ss', t', z5, z7, z8, z9, z10, S2, ?_, h2, by simp only [List.length_append, List.length_cons, List.length_nil] at l2 ⊢; omega⟩
    show ((gN 3 d _).bind fun ρ1 => (B1 ρ1 S).bind (afterTurn (forL (gN 3) B1 ds))) = _
    show (B1 [none, some (.sh .strm), some (.ol (ss.map sD)), some (.sh d), x4, x5, x6, x7, x8, x9, x10, x11] S).bind (afterTurn (forL (gN 3) B1 ds)) = _
    rw [e1]
    exact e2
def Fr (k : D) (one : Option Ent) (ρ : En) : Prop := ∃ x0 x3 x5 x6 x7 x8 x9 x10 x11, ρ = [x0, some (.sh .strm), some (.sh k), x3, one, x5, x6, x7, x8, x9, x10, x11]
theorem pair {a b : ST} (oa : Ok a) (ob : Ok b) (k : D) (ρ : En) (S : Strm) (hρ : Fr k (some (.sh (sD a))) ρ) :
    ∃ ρ1, gN 6 (sD b) ρ = some ρ1 ∧ ∃ ρ' S', B3 ρ1 S = some (.nx ρ', S') ∧ Fr k (some (.sh (sD a))) ρ' := by
  obtain ⟨x0, x3, x5, x6, x7, x8, x9, x10, x11, rfl⟩ := hρ
  obtain ⟨t1, S1, e1⟩ := v_loose b S
  obtain ⟨t2, S2, e2⟩ := v_loose a S1
  have f1 : F_strip_within [sD a, sD b] S = some (.bl (wi a b), S) := v_within oa.1 ob.1 false false S
  have f2 := v_within oa.1 ob.1 t2 t1 S2
  have f3 := v_inside oa.1 ob.1 (oa.2.up (by decide)) (ob.2.up (by decide)) S2
  have f4 := same2 (plain_b 22 (wi a b)) S2
  refine ⟨_, rfl, _, S2, ?_, x0, x3, x5, some (.sh (sD b)), x7, x8, x9, x10, some (.sh (.lst [.bl (wi a b), .bl (wi a b)])), rfl⟩
  simp only [B3, x_def, startE, x_seq, x_nx, x_rt, x_bk, x_ct, x_bind, x_pure, x_c, x_nil, x_cons, x_tup, x_lst, x_op2, x_op1, x_tru, x_notT, x_ite, x_ifS, x_andT, x_orT, x_and, x_or, x_chain, x_bi, x_biF, x_call, x_perm, x_it, x_ret, x_drop, x_next, x_set, x_setF, x_asg, x_aug, x_for, x_comp, x_cat, x_dSub, x_dAdd, x_dAddI, x_dLt, x_dLe, x_dGt, x_dGe, x_dNeg, x_dNot, x_dTru, x_dEq, x_dNe, x_var0, x_varS, Option.bind_some, Option.map_some, List.map_cons, List.map_nil, List.length_cons, List.length_nil, List.replicate_succ, List.replicate_zero, List.cons_append, List.nil_append, List.set_cons_zero, List.set_cons_succ, Bool.not_true, Bool.not_false, Bool.false_eq_true, if_true, if_false, decide_true, decide_false, decide_eq_true_eq, dIsN, dNotN, dIdx, dItems, at_int, at0, at1, at2, at3, cut2, gN, gT, gCo, gNl, wipeE, x_for_nil, x_for_cons, x_turn_nx, x_turn_ct, x_turn_bk, x_turn_rt, x_comp_nil, x_comp_cons, sz2, sz4, i_lt_int, i_lt_bl, i_lt_non, i_lt_lst, i_lt_tup, i_i_int, i_i_bl, i_b_int, i_b_bl, i_b_non, i_b_lst, i_b_tup, i_l_int, i_l_bl, i_l_non, i_l_lst, i_l_tup, i_t_int, i_t_lst, i_t_tup, i_d_int, i_d_bl, i_d_non, i_d_lst, i_d_tup, i_ltd_int, i_ltd_bl, i_ltd_non, l_lst, l_tup, t_lst, t_tup, a_lst, b_nil, b_cons, cut_lst, cut_tup, x_dEqb, x_dNeb, x_dEqn, x_zip, x_range1, x_range2, Int.cast_ofNat_Int, Nat.zero_add, List.all_cons, List.all_nil, id, Bool.and_true, Bool.true_and, Bool.and_false, Bool.false_and, Bool.or_true, Bool.true_or, Bool.or_false, Bool.false_or, Nat.reduceAdd, Nat.reduceSub, Int.reduceEq, Int.reduceLT, Int.reduceLE, Int.reduceNeg, szl0, szl1, szl2, szl3, szl4, szl5, szl6, szl7, szl8, szl9, szl10, x_extend, x_append, x_borT, x_frz, x_idxO, List.getElem?_cons_zero, List.getElem?_cons_succ, x_notIn, x_isIn, rg_m1, rg_m2, rg_2, rg_3, rg_5, x_abs, x_int, x_rep2, Int.reduceAdd, Int.reduceSub, Int.reduceToNat, and_self, ram3, rbm3, ram2, rbm2, ram1, rbm1, ra0, rb0, ra1, rb1, ra2, rb2, ra3, rb3, ra4, rb4, ra5, rb5, ra6, rb6, ra7, rb7, ra8, rb8, ra9, rb9, ra10, rb10, ra11, rb11, ra12, rb12, ra13, rb13, ra20, rb20, ra24, rb24, List.getD_cons_zero, List.getD_cons_succ, e1, e2, f1, f2, f3, f4]
def Fr4 (k : D) (ρ : En) : Prop := ∃ one, Fr k one ρ
theorem ss_pr {ss : List ST} (hs : ∀ s ∈ ss, Ok s) : ∀ d ∈ ss.map sD, ∃ s, d = sD s ∧ Ok s := fun d hd => by
  obtain ⟨s, h, rfl⟩ := List.mem_map.1 hd
  exact ⟨s, rfl, hs s h⟩
theorem row {ss : List ST} (hs : ∀ s ∈ ss, Ok s) (hl : ss.length ≤ 1000) {a : ST} (oa : Ok a) (ρ : En) (S : Strm) (hρ : Fr4 (.lst (ss.map sD)) ρ) :
    ∃ ρ1, gN 4 (sD a) ρ = some ρ1 ∧ ∃ ρ' S', mFor (gN 6) (mIt (mVar 2)) B3 ρ1 S = some (.nx ρ', S') ∧ Fr4 (.lst (ss.map sD)) ρ' := by
  obtain ⟨one, x0, x3, x5, x6, x7, x8, x9, x10, x11, rfl⟩ := hρ
  have o1 : ((ss.map sD).length ≤ sizeLine) = True := by rw [List.length_map]; exact eq_true (Nat.le_trans hl (by simp [sizeLine]))
  obtain ⟨ρ', S', e, h⟩ := forL_inv (f := gN 6) (body := B3) (fun ρ _ => Fr (.lst (ss.map sD)) (some (.sh (sD a))) ρ) (fun d => ∃ s, d = sD s ∧ Ok s)
    (fun d ρ S ⟨s, hd, os⟩ hi => by subst hd; exact pair oa os _ ρ S hi) (ss.map sD) [x0, some (.sh .strm), some (.sh (.lst (ss.map sD))), x3, some (.sh (sD a)), x5, x6, x7, x8, x9, x10, x11] S (ss_pr hs) ⟨_, _, _, _, _, _, _, _, _, rfl⟩
  refine ⟨[x0, some (.sh .strm), some (.sh (.lst (ss.map sD))), x3, some (.sh (sD a)), x5, x6, x7, x8, x9, x10, x11], rfl, ρ', S', ?_, _, h⟩
  simp only [x_for, x_it, x_var0, x_varS, Option.bind_some, Option.map_some, dItems, o1, if_true]
  exact e
theorem main : Main := by
  intro ns hns
  obtain ⟨ss, t, y5, y7, y8, y9, y10, S1, e1, h1, l1⟩ := turns none none none (dRange 0 5) [none, some (none, none, 1, 0)] none none none none none none (S0 ns) (by decide) (by
    intro s hs
    simp only [List.mem_cons, List.mem_nil_iff, or_false] at hs
    rcases hs with rfl | rfl
    · exact ⟨.none, trivial⟩
    · exact ⟨.all (by decide) (by decide) (by decide), sm_none, sm_none, by decide, by decide⟩)
  have l2 : ss.length ≤ 1000 := Nat.le_trans l1 (by decide)
  have o1 : ((ss.map sD).length ≤ sizeLine) = True := by rw [List.length_map]; exact eq_true (Nat.le_trans l2 (by simp [sizeLine]))
  obtain ⟨ρ', S', e2, h2⟩ := forL_inv (f := gN 4) (body := mFor (gN 6) (mIt (mVar 2)) B3) (fun ρ _ => Fr4 (.lst (ss.map sD)) ρ) (fun d => ∃ s, d = sD s ∧ Ok s)
    (fun d ρ S ⟨s, hd, os⟩ hi => by subst hd; exact row h1 l2 os ρ S hi) (ss.map sD) [none, some (.sh .strm), some (.sh (.lst (ss.map sD))), t, none, y5, none, y7, y8, y9, y10, none] S1 (ss_pr h1) ⟨_, _, _, _, _, _, _, _, _, _, rfl⟩
  obtain ⟨one, x0, x3, x5, x6, x7, x8, x9, x10, x11, rfl⟩ := h2
  refine ⟨S', ?_⟩
  have e0 : m_law = mSeq (mSetF 2 (mCons (mC .non) (mCons (mTup (mCons (mC .non) (mCons (mC .non) (mCons (mC (.int 1)) (mCons (mC (.int 0)) mNil))))) mNil))) (mSeq (mFor (gN 3) (mRange1 (mCons (mC (.int 5)) mNil)) B1) (mSeq (mFrz 2 (mFor (gN 4) (mIt (mVar 2)) (mFor (gN 6) (mIt (mVar 2)) B3))) (mRet (mC (.bl true))))) := rfl
  rw [e0]
  have e1' : forL (gN 3) B1 [.int 0, .int 1, .int 2, .int 3, .int 4] [none, some (.sh .strm), some (.ol [.non, .tup [.non, .non, .int 1, .int 0]]), none, none, none, none, none, none, none, none, none] (S0 ns) = _ := e1
  generalize hB3 : mFor (gN 6) (mIt (mVar 2)) B3 = B2 at *
  generalize B1 = B1' at *
  simp only [x_def, startE, x_seq, x_nx, x_rt, x_bk, x_ct, x_bind, x_pure, x_c, x_nil, x_cons, x_tup, x_lst, x_op2, x_op1, x_tru, x_notT, x_ite, x_ifS, x_andT, x_orT, x_and, x_or, x_chain, x_bi, x_biF, x_call, x_perm, x_it, x_ret, x_drop, x_next, x_set, x_setF, x_asg, x_aug, x_for, x_comp, x_cat, x_dSub, x_dAdd, x_dAddI, x_dLt, x_dLe, x_dGt, x_dGe, x_dNeg, x_dNot, x_dTru, x_dEq, x_dNe, x_var0, x_varS, Option.bind_some, Option.map_some, List.map_cons, List.map_nil, List.length_cons, List.length_nil, List.replicate_succ, List.replicate_zero, List.cons_append, List.nil_append, List.set_cons_zero, List.set_cons_succ, Bool.not_true, Bool.not_false, Bool.false_eq_true, if_true, if_false, decide_true, decide_false, decide_eq_true_eq, dIsN, dNotN, dIdx, dItems, at_int, at0, at1, at2, at3, cut2, gN, gT, gCo, gNl, wipeE, x_for_nil, x_for_cons, x_turn_nx, x_turn_ct, x_turn_bk, x_turn_rt, x_comp_nil, x_comp_cons, sz2, sz4, i_lt_int, i_lt_bl, i_lt_non, i_lt_lst, i_lt_tup, i_i_int, i_i_bl, i_b_int, i_b_bl, i_b_non, i_b_lst, i_b_tup, i_l_int, i_l_bl, i_l_non, i_l_lst, i_l_tup, i_t_int, i_t_lst, i_t_tup, i_d_int, i_d_bl, i_d_non, i_d_lst, i_d_tup, i_ltd_int, i_ltd_bl, i_ltd_non, l_lst, l_tup, t_lst, t_tup, a_lst, b_nil, b_cons, cut_lst, cut_tup, x_dEqb, x_dNeb, x_dEqn, x_zip, x_range1, x_range2, Int.cast_ofNat_Int, Nat.zero_add, List.all_cons, List.all_nil, id, Bool.and_true, Bool.true_and, Bool.and_false, Bool.false_and, Bool.or_true, Bool.true_or, Bool.or_false, Bool.false_or, Nat.reduceAdd, Nat.reduceSub, Int.reduceEq, Int.reduceLT, Int.reduceLE, Int.reduceNeg, szl0, szl1, szl2, szl3, szl4, szl5, szl6, szl7, szl8, szl9, szl10, x_extend, x_append, x_borT, x_frz, x_idxO, List.getElem?_cons_zero, List.getElem?_cons_succ, x_notIn, x_isIn, rg_m1, rg_m2, rg_2, rg_3, rg_5, x_abs, x_int, x_rep2, Int.reduceAdd, Int.reduceSub, Int.reduceToNat, and_self, ram3, rbm3, ram2, rbm2, ram1, rbm1, ra0, rb0, ra1, rb1, ra2, rb2, ra3, rb3, ra4, rb4, ra5, rb5, ra6, rb6, ra7, rb7, ra8, rb8, ra9, rb9, ra10, rb10, ra11, rb11, ra12, rb12, ra13, rb13, ra20, rb20, ra24, rb24, e1', o1, e2]
end L2.Ev.K10
open PySem PySem.W PyProof.Rows
set_option maxHeartbeats 0 in
theorem PySem.Challenge.cw_everypath_k10_strips_told_holds : PySem.Challenge.rw_everypath_k10_strips_told.Holds := by
  w_on; o_law; k_head; (case hw => w_witness2)
  k_fill
  refine L2.walk_of (l := PySem.Challenge.rw_everypath_k10_strips_told) (n := 63) (k := 28) (x := "_law_script") (CX := fun _ => L2.CX0) (sp := fun w => L2.Ev.spLaw _) rfl (by decide) rfl ⟨rfl, by decide, by decide⟩ (fun w h Y => PySem.W.kIn_of Y) ?F (fun _ _ a ns hl _ hS => ⟨a, ns, rfl, hS, hl, fun _ => rfl⟩) (fun _ _ _ _ _ h => h)
  case F =>
    intro w mg fa h KX G hmg
    refine' L2.Ev.K10.all_mk L2.Ev.K10.main KX G hmg ?a0 ?l0 ?c0 ?k0 ?a1 ?l1 ?c1 ?k1 ?a2 ?l2 ?c2 ?k2 ?a3 ?l3 ?c3 ?k3 ?a4 ?l4 ?c4 ?k4 ?a5 ?l5 ?c5 ?k5 ?a6 ?l6 ?c6 ?k6 ?a7 ?l7 ?c7 ?k7 ?a8 ?l8 ?c8 ?k8 ?a9 ?l9 ?c9 ?k9 ?a10 ?l10 ?c10 ?k10 ?a11 ?l11 ?c11 ?k11 ?a12 ?l12 ?c12 ?k12 ?a13 ?l13 ?c13 ?k13 ?a14 ?l14 ?c14 ?k14 ?a15 ?l15 ?c15 ?k15 ?a16 ?l16 ?c16 ?k16 ?a17 ?l17 ?c17 ?k17 ?a18 ?l18 ?c18 ?k18 ?a19 ?l19 ?c19 ?k19 ?a20 ?l20 ?c20 ?k20 ?a21 ?l21 ?c21 ?k21 ?a22 ?l22 ?c22 ?k22 ?a23 ?l23 ?c23 ?k23 ?a24 ?l24 ?c24 ?k24 ?a25 ?l25 ?c25 ?k25 ?a26 ?l26 ?c26 ?k26 ?a27 ?l27 ?c27 ?k27 ?a28 ?l28 ?c28 ?k28 ?a29 ?l29 ?c29 ?k29 ?a30 ?l30 ?c30 ?k30 ?a31 ?l31 ?c31 ?k31 ?a32 ?l32 ?c32 ?k32 ?a33 ?l33 ?c33 ?k33 ?a34 ?l34 ?c34 ?k34 ?a35 ?l35 ?c35 ?k35 ?z0 ?z1 ?z2 ?z3 ?z4 ?z5 ?z6 ?z7 ?z8 ?z9 ?z10
    (case a0 => k_is); (case l0 => k_is); (case c0 => k_is); (case k0 => k_is); (case a1 => k_is); (case l1 => k_is); (case c1 => k_is); (case k1 => k_is); (case a2 => k_is); (case l2 => k_is); (case c2 => k_is); (case k2 => k_is); (case a3 => k_is); (case l3 => k_is); (case c3 => k_is); (case k3 => k_is); (case a4 => k_is); (case l4 => k_is); (case c4 => k_is); (case k4 => k_is); (case a5 => k_is); (case l5 => k_is); (case c5 => k_is); (case k5 => k_is); (case a6 => k_is); (case l6 => k_is); (case c6 => k_is); (case k6 => k_is); (case a7 => k_is); (case l7 => k_is); (case c7 => k_is); (case k7 => k_is); (case a8 => k_is); (case l8 => k_is); (case c8 => k_is); (case k8 => k_is); (case a9 => k_is); (case l9 => k_is); (case c9 => k_is); (case k9 => k_is); (case a10 => k_is); (case l10 => k_is); (case c10 => k_is); (case k10 => k_is); (case a11 => k_is); (case l11 => k_is); (case c11 => k_is); (case k11 => k_is); (case a12 => k_is); (case l12 => k_is); (case c12 => k_is); (case k12 => k_is); (case a13 => k_is); (case l13 => k_is); (case c13 => k_is); (case k13 => k_is); (case a14 => k_is); (case l14 => k_is); (case c14 => k_is); (case k14 => k_is); (case a15 => k_is); (case l15 => k_is); (case c15 => k_is); (case k15 => k_is); (case a16 => k_is); (case l16 => k_is); (case c16 => k_is); (case k16 => k_is); (case a17 => k_is); (case l17 => k_is); (case c17 => k_is); (case k17 => k_is); (case a18 => k_is); (case l18 => k_is); (case c18 => k_is); (case k18 => k_is); (case a19 => k_is); (case l19 => k_is); (case c19 => k_is); (case k19 => k_is); (case a20 => k_is); (case l20 => k_is); (case c20 => k_is); (case k20 => k_is); (case a21 => k_is); (case l21 => k_is); (case c21 => k_is); (case k21 => k_is); (case a22 => k_is); (case l22 => k_is); (case c22 => k_is); (case k22 => k_is); (case a23 => k_is); (case l23 => k_is); (case c23 => k_is); (case k23 => k_is); (case a24 => k_is); (case l24 => k_is); (case c24 => k_is); (case k24 => k_is); (case a25 => k_is); (case l25 => k_is); (case c25 => k_is); (case k25 => k_is); (case a26 => k_is); (case l26 => k_is); (case c26 => k_is); (case k26 => k_is); (case a27 => k_is); (case l27 => k_is); (case c27 => k_is); (case k27 => k_is); (case a28 => k_is); (case l28 => k_is); (case c28 => k_is); (case k28 => k_is); (case a29 => k_is); (case l29 => k_is); (case c29 => k_is); (case k29 => k_is); (case a30 => k_is); (case l30 => k_is); (case c30 => k_is); (case k30 => k_is); (case a31 => k_is); (case l31 => k_is); (case c31 => k_is); (case k31 => k_is); (case a32 => k_is); (case l32 => k_is); (case c32 => k_is); (case k32 => k_is); (case a33 => k_is); (case l33 => k_is); (case c33 => k_is); (case k33 => k_is); (case a34 => k_is); (case l34 => k_is); (case c34 => k_is); (case k34 => k_is); (case a35 => k_is); (case l35 => k_is); (case c35 => k_is); (case k35 => k_is); (case z0 => k_is); (case z1 => k_is); (case z2 => k_is); (case z3 => k_is); (case z4 => k_is); (case z5 => k_is); (case z6 => k_is); (case z7 => k_is); (case z8 => k_is); (case z9 => k_is); (case z10 => k_is)
