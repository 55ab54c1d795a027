import PyProof.Rows.All
import Wide.All
import OpenK.AllK
import Wide.FinOn
import HandS.ForMost
import HandS.Exc
import HandS.TupAny
import HandS.TupMul
import HandS.Deep
import HandS.Wide
import HandS.IsInst
import HandS.TupLen
import HandS.TupLe
import HandS.Conv
import HandS.More
import HandS.OwnEq
import KE.GoesMore
import HandS.Zip
import HandS.ExcOwn
import HandS.WordsExc
import HandS.Defaults
import HandS.ExcInit
import HandS.ExcField
import HandS.ExcIs
import HandS.DeepEq
import KE.KExcIs
import PyProof.NeKinds
import HandS.MakeKwOnly
import HandS.Star
import KE.KStar
import HandS.Strs
import HandS.SortKw
import PyProof.MinMaxWalk
import PyProof.WalkInts
import KE.KMinKey
import HandS.Flow
import HandS.AnyAll
import PyProof.AutoSeq1
import HandS.DictTup
import HandS.DictComp
import KE.DataEq
import HandS.Ends
import HandS.Walk
import PySem.Challenge.RW_takenahead_k10_run_one_session
set_option Elab.async false
set_option linter.all false
set_option maxRecDepth 100000
/-! Plain data for the values of a program: trees D, a store of what changes, and what it means that a heap holds them. -/
namespace Mm
open PySem L2
inductive D where
  | non | bl (b : Bool) | int (i : Int) | str (x : Str)
  | tup (ds : List D) | lst (ds : List D) | dic (ks vs : List D) | obj (c : Nat) (ds : List D)
  | fz (ns : List Int) | loc (n : Nat) | oth (v : V) | ttp (ds : List D)
  deriving Inhabited
inductive SO where
  | lst (ds : List D) | dic (ks vs : List D) | ins (c : Nat) (ds : List D)
  deriving Inhabited
structure Exn where
  c : Nat
  ds : List D
inductive R (α : Type) where
  | ok (a : α) (S : List SO) | ex (x : Exn) (S : List SO) | bad
def R.bind {α β : Type} (r : R α) (f : α → List SO → R β) : R β := match r with
  | .ok a S => f a S
  | .ex x S => .ex x S
  | .bad => .bad
@[simp] theorem R.bind_ok {α β : Type} (a : α) (S : List SO) (f : α → List SO → R β) : (R.ok a S).bind f = f a S := rfl
@[simp] theorem R.bind_ex {α β : Type} (x : Exn) (S : List SO) (f : α → List SO → R β) : (R.ex x S : R α).bind f = .ex x S := rfl
@[simp] theorem R.bind_bad {α β : Type} (f : α → List SO → R β) : (R.bad : R α).bind f = .bad := rfl
abbrev Env := List (Option D)
abbrev Sto := List SO
abbrev EM := Env → Sto → R D
/-- where the store's places stand in the heap; what is never changed any more -/
structure Cn where
  ρ : Nat → Addr
  F : Addr → Prop
/-- the classes: where they stand, their fields in the order in which they are set -/
structure Cls' where
  at_ : Nat → Option Addr
  fs : Nat → List Str
/-- what is fixed: the written part, the classes -/
structure Wn where
  K : PySem.W.Frag
  Γ : Cls'
def isOth : V → Bool
  | .byt _ => true
  | .flt _ => true
  | .ty _ => true
  | _ => false
def keyD : Key → D
  | .inl i => .int i
  | .inr x => .str x
/-- a list of ints that nobody can change: frozen, or written in the text -/
def FzL (K : PySem.W.Frag) (H : Hp) (a : Addr) (xs : List V) : Prop := (∃ o, H a = some (.frz o (.lst xs))) ∨ ∀ H', SqL K H' a xs
theorem FzL.sq {K : PySem.W.Frag} {H : Hp} {a : Addr} {xs : List V} (h : FzL K H a xs) : SqL K H a xs := by
  rcases h with h | h
  · exact .inl (.inr h)
  · exact h H
section
variable (w : Wn) (c : Cn) (H : Hp) (n : Nat)
mutual
def At : D → V → Prop
  | .non, v => v = .non
  | .bl b, v => v = .bl b
  | .int i, v => v = .int i
  | .str x, v => v = .str x
  | .tup ds, v => ∃ a vs, v = .ref a ∧ SqT w.K H a vs ∧ Ats ds vs
  | .ttp ds, v => ∃ a vs, v = .ref a ∧ H a = some (.tup vs) ∧ Ats ds vs
  | .lst ds, v => ∃ a vs, v = .ref a ∧ c.F a ∧ H a = some (.lst vs) ∧ Ats ds vs
  | .dic ks ds, v => ∃ a vs, v = .ref a ∧ c.F a ∧ ((∃ kk : List Key, H a = some (.dK (kk.zip vs)) ∧ kk.length = vs.length ∧ ks = kk.map keyD) ∨ (∃ kk : List (List Key), H a = some (.dT (kk.zip vs)) ∧ kk.length = vs.length ∧ ks = .non :: kk.map fun k => .tup (k.map keyD))) ∧ Ats ds vs
  | .obj k ds, v => ∃ a vs C dx, v = .ref a ∧ c.F a ∧ w.Γ.at_ k = some C ∧ vs.length ≤ (w.Γ.fs k).length ∧ H a = some (.ins C dx ((w.Γ.fs k).zip vs)) ∧ Ats ds vs
  | .fz ns, v => ∃ a, v = .ref a ∧ FzL w.K H a (ns.map V.int)
  | .loc k, v => k < n ∧ v = .ref (c.ρ k)
  | .oth u, v => v = u ∧ isOth u = true
def Ats : List D → List V → Prop
  | [], vs => vs = []
  | d :: ds, vs => ∃ v r, vs = v :: r ∧ At d v ∧ Ats ds r
end
def OAt (a : Addr) : SO → Prop
  | .lst ds => ∃ vs, H a = some (.lst vs) ∧ Ats w c H n ds vs
  | .dic ks ds => ∃ vs, ((∃ kk : List Key, H a = some (.dK (kk.zip vs)) ∧ kk.length = vs.length ∧ ks = kk.map keyD) ∨ (∃ kk : List (List Key), H a = some (.dT (kk.zip vs)) ∧ kk.length = vs.length ∧ ks = .non :: kk.map fun k => .tup (k.map keyD))) ∧ Ats w c H n ds vs
  | .ins k ds => ∃ vs C dx, w.Γ.at_ k = some C ∧ vs.length ≤ (w.Γ.fs k).length ∧ H a = some (.ins C dx ((w.Γ.fs k).zip vs)) ∧ Ats w c H n ds vs
end
structure Rep (w : Wn) (c : Cn) (H : Hp) (S : Sto) : Prop where
  obj : ∀ k o, S[k]? = some o → OAt w c H S.length (c.ρ k) o
  inj : ∀ k m, k < S.length → m < S.length → c.ρ k = c.ρ m → k = m
  live : ∀ k, k < S.length → ¬ c.F (c.ρ k)
  fro : ∀ a, c.F a → ∃ u, H a = some u
/-- what values lean on is kept -/
structure ExtA (c : Cn) (H : Hp) (n : Nat) (c' : Cn) (H' : Hp) (n' : Nat) : Prop where
  le : n ≤ n'
  rho : ∀ k, k < n → c'.ρ k = c.ρ k
  fro : ∀ a, c.F a → c'.F a
  tup : ∀ a xs, H a = some (.tup xs) → H' a = some (.tup xs)
  frz : ∀ a o u, H a = some (.frz o u) → H' a = some (.frz o u)
  keepF : ∀ a o, c.F a → H a = some o → H' a = some o
structure Ext (c : Cn) (H : Hp) (n : Nat) (c' : Cn) (H' : Hp) (n' : Nat) : Prop where
  le : n ≤ n'
  rho : ∀ k, k < n → c'.ρ k = c.ρ k
  fro : ∀ a, c.F a → c'.F a
  tup : ∀ a xs, H a = some (.tup xs) → H' a = some (.tup xs)
  frz : ∀ a o u, H a = some (.frz o u) → H' a = some (.frz o u)
  keep : ∀ a o, H a = some o → (∀ k, k < n → c.ρ k ≠ a) → H' a = some o
  keepF : ∀ a o, c.F a → H a = some o → H' a = some o
  new : ∀ k, n ≤ k → k < n' → H (c'.ρ k) = none
  there : ∀ a o, H a = some o → ∃ o', H' a = some o'
  nF : ∀ a, c'.F a → c.F a ∨ H a = none
theorem Ext.A {c c' : Cn} {H H' : Hp} {n n' : Nat} (e : Ext c H n c' H' n') : ExtA c H n c' H' n' := ⟨e.le, e.rho, e.fro, e.tup, e.frz, e.keepF⟩
theorem Ext.refl {c : Cn} {H : Hp} {n : Nat} : Ext c H n c H n := ⟨Nat.le_refl _, fun _ _ => rfl, fun _ h => h, fun _ _ h => h, fun _ _ _ h => h, fun _ _ h _ => h, fun _ _ _ h => h, fun k a b => absurd b (Nat.not_lt.mpr a), fun _ o h => ⟨o, h⟩, fun _ h => .inl h⟩
theorem Ext.trans {c c1 c2 : Cn} {H H1 H2 : Hp} {n n1 n2 : Nat} (a : Ext c H n c1 H1 n1) (b : Ext c1 H1 n1 c2 H2 n2) : Ext c H n c2 H2 n2 where
  le := Nat.le_trans a.le b.le
  rho := fun k h => (b.rho k (Nat.lt_of_lt_of_le h a.le)).trans (a.rho k h)
  fro := fun x h => b.fro x (a.fro x h)
  tup := fun x xs h => b.tup x xs (a.tup x xs h)
  frz := fun x o u h => b.frz x o u (a.frz x o u h)
  keep := fun x o h q => b.keep x o (a.keep x o h q) fun k hk => by
      by_cases hn : k < n
      · rw [a.rho k hn]; exact q k hn
      · intro e
        have := a.new k (Nat.le_of_not_lt hn) hk
        rw [e, h] at this; cases this
  keepF := fun x o f h => b.keepF x o (a.fro x f) (a.keepF x o f h)
  new := fun k h1 h2 => by
      by_cases hn : k < n1
      · rw [b.rho k hn]; exact a.new k h1 hn
      · have q := b.new k (Nat.le_of_not_lt hn) h2
        cases e : H (c2.ρ k) with
        | none => rfl
        | some o =>
          obtain ⟨o', e'⟩ := a.there _ o e
          rw [q] at e'; cases e'
  there := fun x o h => by
      obtain ⟨o', e⟩ := a.there x o h
      exact b.there x o' e
  nF := fun x h => by
      rcases b.nF x h with h | h
      · exact a.nF x h
      · right
        cases e : H x with
        | none => rfl
        | some o =>
          obtain ⟨o', e'⟩ := a.there _ o e
          rw [h] at e'; cases e'
section
variable {w : Wn} {c c' : Cn} {H H' : Hp} {n n' : Nat}
theorem ExtA.sqT (e : ExtA c H n c' H' n') {K : PySem.W.Frag} {a : Addr} {xs : List V} (h : SqT K H a xs) : SqT K H' a xs := by
  rcases h with (h | ⟨o, h⟩) | h
  · exact .inl (.inl (e.tup _ _ h))
  · exact .inl (.inr ⟨o, e.frz _ _ _ h⟩)
  · exact .inr h
theorem ExtA.sqL (e : ExtA c H n c' H' n') {K : PySem.W.Frag} {a : Addr} {xs : List V} (f : c.F a) (h : SqL K H a xs) : SqL K H' a xs := by
  rcases h with (h | ⟨o, h⟩) | h
  · exact .inl (.inl (e.keepF _ _ f h))
  · exact .inl (.inr ⟨o, e.frz _ _ _ h⟩)
  · exact .inr h
theorem Ext.sqT (e : Ext c H n c' H' n') {K : PySem.W.Frag} {a : Addr} {xs : List V} (h : SqT K H a xs) : SqT K H' a xs := e.A.sqT h
theorem Ext.sqL (e : Ext c H n c' H' n') {K : PySem.W.Frag} {a : Addr} {xs : List V} (f : c.F a) (h : SqL K H a xs) : SqL K H' a xs := e.A.sqL f h
theorem ExtA.fzL (e : ExtA c H n c' H' n') {K : PySem.W.Frag} {a : Addr} {xs : List V} (h : FzL K H a xs) : FzL K H' a xs := by
  rcases h with ⟨o, h⟩ | h
  · exact .inl ⟨o, e.frz _ _ _ h⟩
  · exact .inr h
mutual
theorem At.monoA (e : ExtA c H n c' H' n') : ∀ (d : D) (v : V), At w c H n d v → At w c' H' n' d v
  | .non, v, h => h
  | .bl b, v, h => h
  | .int i, v, h => h
  | .str x, v, h => h
  | .tup ds, v, h => by
    unfold At at h ⊢
    obtain ⟨a, vs, r, s, t⟩ := h
    exact ⟨a, vs, r, e.sqT s, Ats.monoA e ds vs t⟩
  | .ttp ds, v, h => by
    unfold At at h ⊢
    obtain ⟨a, vs, r, s, t⟩ := h
    exact ⟨a, vs, r, e.tup _ _ s, Ats.monoA e ds vs t⟩
  | .lst ds, v, h => by
    unfold At at h ⊢
    obtain ⟨a, vs, r, f, s, t⟩ := h
    exact ⟨a, vs, r, e.fro _ f, e.keepF _ _ f s, Ats.monoA e ds vs t⟩
  | .dic ks ds, v, h => by
    unfold At at h ⊢
    obtain ⟨a, vs, r, f, s, t⟩ := h
    refine ⟨a, vs, r, e.fro _ f, ?_, Ats.monoA e ds vs t⟩
    rcases s with ⟨kk, s⟩ | ⟨kk, s⟩
    · exact .inl ⟨kk, e.keepF _ _ f s.1, s.2⟩
    · exact .inr ⟨kk, e.keepF _ _ f s.1, s.2⟩
  | .obj k ds, v, h => by
    unfold At at h ⊢
    obtain ⟨a, vs, C, dx, r, f, g, l, s, t⟩ := h
    exact ⟨a, vs, C, dx, r, e.fro _ f, g, l, e.keepF _ _ f s, Ats.monoA e ds vs t⟩
  | .fz ns, v, h => by
    unfold At at h ⊢
    obtain ⟨a, r, s⟩ := h
    exact ⟨a, r, e.fzL s⟩
  | .loc k, v, h => by
    unfold At at h ⊢
    exact ⟨Nat.lt_of_lt_of_le h.1 e.le, by rw [e.rho k h.1]; exact h.2⟩
  | .oth u, v, h => h
theorem Ats.monoA (e : ExtA c H n c' H' n') : ∀ (ds : List D) (vs : List V), Ats w c H n ds vs → Ats w c' H' n' ds vs
  | [], vs, h => h
  | d :: ds, vs, h => by
    unfold Ats at h ⊢
    obtain ⟨v, r, q, a, b⟩ := h
    exact ⟨v, r, q, At.monoA e d v a, Ats.monoA e ds r b⟩
end
theorem At.mono (e : Ext c H n c' H' n') (d : D) (v : V) (h : At w c H n d v) : At w c' H' n' d v := At.monoA e.A d v h
theorem Ats.mono (e : Ext c H n c' H' n') (ds : List D) (vs : List V) (h : Ats w c H n ds vs) : Ats w c' H' n' ds vs := Ats.monoA e.A ds vs h
theorem Ats.len : ∀ {ds : List D} {vs : List V}, Ats w c H n ds vs → vs.length = ds.length
  | [], vs, h => by unfold Ats at h; rw [h]; rfl
  | d :: ds, vs, h => by
    unfold Ats at h
    obtain ⟨v, r, q, a, b⟩ := h
    rw [q, List.length_cons, List.length_cons, Ats.len b]
theorem Ats.get : ∀ {ds : List D} {vs : List V} {i : Nat} {d : D}, Ats w c H n ds vs → ds[i]? = some d → ∃ v, vs[i]? = some v ∧ At w c H n d v
  | [], vs, i, d, h, e => by simp at e
  | d :: ds, vs, i, d', h, e => by
    unfold Ats at h
    obtain ⟨v, r, q, a, b⟩ := h
    subst q
    cases i with
    | zero => cases e; exact ⟨v, rfl, a⟩
    | succ i => exact Ats.get (i := i) b (by simpa using e)
theorem Ats.get' : ∀ {ds : List D} {vs : List V} {i : Nat} {v : V}, Ats w c H n ds vs → vs[i]? = some v → ∃ d, ds[i]? = some d ∧ At w c H n d v
  | [], vs, i, v, h, e => by unfold Ats at h; subst h; simp at e
  | d :: ds, vs, i, v', h, e => by
    unfold Ats at h
    obtain ⟨v, r, q, a, b⟩ := h
    subst q
    cases i with
    | zero => cases e; exact ⟨d, rfl, a⟩
    | succ i => exact Ats.get' (i := i) b (by simpa using e)
theorem Ats.nil : Ats w c H n [] [] := by unfold Ats; rfl
theorem Ats.cons {d : D} {ds : List D} {v : V} {vs : List V} (a : At w c H n d v) (b : Ats w c H n ds vs) : Ats w c H n (d :: ds) (v :: vs) := by
  unfold Ats; exact ⟨v, vs, rfl, a, b⟩
theorem Ats.app : ∀ {ds es : List D} {vs ws : List V}, Ats w c H n ds vs → Ats w c H n es ws → Ats w c H n (ds ++ es) (vs ++ ws)
  | [], es, vs, ws, h, g => by unfold Ats at h; rw [h]; exact g
  | d :: ds, es, vs, ws, h, g => by
    unfold Ats at h
    obtain ⟨v, r, q, a, b⟩ := h
    rw [q]
    exact .cons a (Ats.app b g)
theorem Ats.one {d : D} {v : V} (a : At w c H n d v) : Ats w c H n [d] [v] := .cons a .nil
theorem Ats.drop : ∀ {ds : List D} {vs : List V} (k : Nat), Ats w c H n ds vs → Ats w c H n (ds.drop k) (vs.drop k)
  | ds, vs, 0, h => h
  | [], vs, k + 1, h => by unfold Ats at h; rw [h]; exact .nil
  | d :: ds, vs, k + 1, h => by
    unfold Ats at h
    obtain ⟨v, r, q, a, b⟩ := h
    rw [q]; exact Ats.drop k b
theorem Ats.take : ∀ {ds : List D} {vs : List V} (k : Nat), Ats w c H n ds vs → Ats w c H n (ds.take k) (vs.take k)
  | ds, vs, 0, h => by simp [Ats]
  | [], vs, k + 1, h => by unfold Ats at h; rw [h]; exact .nil
  | d :: ds, vs, k + 1, h => by
    unfold Ats at h
    obtain ⟨v, r, q, a, b⟩ := h
    rw [q]; exact .cons a (Ats.take k b)
theorem Ats.set {d : D} {v : V} (x : At w c H n d v) : ∀ {ds : List D} {vs : List V} (k : Nat), Ats w c H n ds vs → Ats w c H n (ds.set k d) (vs.set k v)
  | [], vs, k, h => by unfold Ats at h; rw [h]; simp [Ats]
  | d :: ds, vs, k, h => by
    unfold Ats at h
    obtain ⟨v, r, q, a, b⟩ := h
    rw [q]
    cases k with
    | zero => exact .cons x b
    | succ k => exact .cons a (Ats.set x k b)
theorem Ats.uncons {d : D} {ds : List D} {vs : List V} (h : Ats w c H n (d :: ds) vs) : ∃ v r, vs = v :: r ∧ At w c H n d v ∧ Ats w c H n ds r := by unfold Ats at h; exact h
theorem Ats.unnil {vs : List V} (h : Ats w c H n [] vs) : vs = [] := by unfold Ats at h; exact h
theorem OAt.monoA (e : ExtA c H n c' H' n') {a : Addr} (ka : ∀ o, H a = some o → H' a = some o) : ∀ {o : SO}, OAt w c H n a o → OAt w c' H' n' a o
  | .lst ds, h => by
    obtain ⟨vs, g, t⟩ := h
    exact ⟨vs, ka _ g, Ats.monoA e _ _ t⟩
  | .dic ks ds, h => by
    obtain ⟨vs, g, t⟩ := h
    refine ⟨vs, ?_, Ats.monoA e _ _ t⟩
    rcases g with ⟨kk, s⟩ | ⟨kk, s⟩
    · exact .inl ⟨kk, ka _ s.1, s.2⟩
    · exact .inr ⟨kk, ka _ s.1, s.2⟩
  | .ins k ds, h => by
    obtain ⟨vs, C, dx, g, l, s, t⟩ := h
    exact ⟨vs, C, dx, g, l, ka _ s, Ats.monoA e _ _ t⟩
theorem OAt.mono (e : Ext c H n c' H' n') {a : Addr} (ka : ∀ o, H a = some o → H' a = some o) {o : SO} (h : OAt w c H n a o) : OAt w c' H' n' a o := OAt.monoA e.A ka h
theorem OAt.some {a : Addr} : ∀ {o : SO}, OAt w c H n a o → ∃ u, H a = .some u ∧ Mut (.some u)
  | .lst ds, h => by
    obtain ⟨vs, g, t⟩ := h
    exact ⟨_, g, trivial⟩
  | .dic ks ds, h => by
    obtain ⟨vs, g, t⟩ := h
    rcases g with ⟨kk, s⟩ | ⟨kk, s⟩
    · exact ⟨_, s.1, trivial⟩
    · exact ⟨_, s.1, trivial⟩
  | .ins k ds, h => by
    obtain ⟨vs, C, dx, g, l, s, t⟩ := h
    exact ⟨_, s, trivial⟩
end
section
variable {w : Wn} {c c' : Cn} {H H' : Hp} {S : Sto}
theorem Rep.get (r : Rep w c H S) {k : Nat} {o : SO} (h : S[k]? = some o) : OAt w c H S.length (c.ρ k) o := r.obj k o h
theorem Rep.lt {k : Nat} {o : SO} (h : S[k]? = some o) : k < S.length := (List.getElem?_eq_some_iff.mp h).1
theorem Rep.some (r : Rep w c H S) {k : Nat} (h : k < S.length) : ∃ u, H (c.ρ k) = .some u ∧ Mut (.some u) := (r.obj k _ (List.getElem?_eq_getElem h)).some
theorem Rep.ne (r : Rep w c H S) {a : Addr} (h : H a = none) {k : Nat} (hk : k < S.length) : c.ρ k ≠ a := fun e => by
  obtain ⟨u, q, _⟩ := r.some hk
  rw [e, h] at q; cases q
theorem Rep.nF (r : Rep w c H S) {a : Addr} (h : H a = none) : ¬ c.F a := fun f => by
  obtain ⟨u, q⟩ := r.fro a f
  rw [h] at q; cases q
/-- the heap grows by a new object that is neither a place of the store nor unchangeable by name: a tuple, or anything else -/
theorem Ext.grow {n : Nat} {p : Addr} {o : HO} (hp : H p = none) : Ext c H n c (upd H p o) n :=
  ⟨Nat.le_refl _, fun _ _ => rfl, fun _ h => h, fun a xs h => by rw [upd_ne (ne_of_none h hp)]; exact h, fun a o u h => by rw [upd_ne (ne_of_none h hp)]; exact h, fun a u h _ => by rw [upd_ne (ne_of_none h hp)]; exact h,
    fun a u _ h => by rw [upd_ne (ne_of_none h hp)]; exact h, fun k a b => absurd b (Nat.not_lt.mpr a), fun a u h => ⟨u, by rw [upd_ne (ne_of_none h hp)]; exact h⟩, fun _ h => .inl h⟩
theorem Rep.grow (r : Rep w c H S) {p : Addr} {o : HO} (hp : H p = none) : Rep w c (upd H p o) S :=
  ⟨fun k u h => (r.obj k u h).mono (Ext.grow hp) fun x hx => by rw [upd_ne (ne_of_none hx hp)]; exact hx, r.inj, r.live, fun a f => by
    obtain ⟨u, q⟩ := r.fro a f
    exact ⟨u, by rw [upd_ne (ne_of_none q hp)]; exact q⟩⟩
/-- what stands at p is not changed any more -/
def Cn.fr (c : Cn) (p : Addr) : Cn := { c with F := fun a => c.F a ∨ a = p }
theorem Ext.fr {n : Nat} {p : Addr} {o : HO} (hp : H p = none) : Ext c H n (c.fr p) (upd H p o) n :=
  let e := Ext.grow (c := c) (n := n) (o := o) hp
  ⟨e.le, fun _ _ => rfl, fun _ h => .inl h, e.tup, e.frz, e.keep, e.keepF, e.new, e.there, fun a h => by
    rcases h with h | h
    · exact .inl h
    · right; rw [h]; exact hp⟩
theorem Rep.fr (r : Rep w c H S) {p : Addr} {o : HO} (hp : H p = none) : Rep w (c.fr p) (upd H p o) S :=
  ⟨fun k u h => (r.obj k u h).mono (Ext.fr hp) fun x hx => by rw [upd_ne (ne_of_none hx hp)]; exact hx, r.inj, fun k hk f => by
    rcases f with f | f
    · exact r.live k hk f
    · exact r.ne hp hk f, fun a f => by
    rcases f with f | f
    · obtain ⟨u, q⟩ := r.fro a f
      exact ⟨u, by rw [upd_ne (ne_of_none q hp)]; exact q⟩
    · rw [f]; exact ⟨o, upd_same⟩⟩
/-- a new place of the store -/
def Cn.nw (c : Cn) (n : Nat) (p : Addr) : Cn := { c with ρ := fun k => if k = n then p else c.ρ k }
theorem Cn.nw_at {n : Nat} {p : Addr} : (c.nw n p).ρ n = p := if_pos rfl
theorem Cn.nw_ne {n k : Nat} {p : Addr} (h : k ≠ n) : (c.nw n p).ρ k = c.ρ k := if_neg h
theorem Ext.nw {n : Nat} {p : Addr} {o : HO} (hp : H p = none) : Ext c H n (c.nw n p) (upd H p o) (n + 1) :=
  let e := Ext.grow (c := c) (n := n) (o := o) hp
  ⟨Nat.le_succ _, fun k h => Cn.nw_ne (Nat.ne_of_lt h), fun _ h => h, e.tup, e.frz, e.keep, e.keepF, fun k h1 h2 => by
    have : k = n := by omega
    rw [this, Cn.nw_at]; exact hp, e.there, fun a h => .inl h⟩
theorem Rep.nw (r : Rep w c H S) {p : Addr} {o : HO} {so : SO} (hp : H p = none) (q : OAt w (c.nw S.length p) (upd H p o) (S.length + 1) p so) : Rep w (c.nw S.length p) (upd H p o) (S ++ [so]) := by
  have e : Ext c H S.length (c.nw S.length p) (upd H p o) (S.length + 1) := Ext.nw hp
  refine ⟨fun k u h => ?_, fun k m hk hm he => ?_, fun k hk f => ?_, fun a f => ?_⟩
  · rw [List.length_append, List.length_singleton]
    by_cases hk : k < S.length
    · rw [List.getElem?_append_left hk] at h
      have := (r.obj k u h).mono e fun x hx => by rw [upd_ne (ne_of_none hx hp)]; exact hx
      rw [Cn.nw_ne (Nat.ne_of_lt hk)]
      exact this
    · have hl := Rep.lt h
      rw [List.length_append, List.length_singleton] at hl
      have ek : k = S.length := by omega
      subst ek
      rw [List.getElem?_append_right (Nat.le_refl _)] at h
      simp at h
      subst h
      rw [Cn.nw_at]
      exact q
  · rw [List.length_append, List.length_singleton] at hk hm
    by_cases h1 : k = S.length
    · by_cases h2 : m = S.length
      · rw [h1, h2]
      · rw [h1, Cn.nw_at, Cn.nw_ne h2] at he
        exact absurd he.symm (r.ne hp (by omega))
    · by_cases h2 : m = S.length
      · rw [h2, Cn.nw_at, Cn.nw_ne h1] at he
        exact absurd he (r.ne hp (by omega))
      · rw [Cn.nw_ne h1, Cn.nw_ne h2] at he
        exact r.inj k m (by omega) (by omega) he
  · rw [List.length_append, List.length_singleton] at hk
    by_cases h1 : k = S.length
    · rw [h1, Cn.nw_at] at f
      exact r.nF hp f
    · rw [Cn.nw_ne h1] at f
      exact r.live k (by omega) f
  · obtain ⟨u, q⟩ := r.fro a f
    exact ⟨u, by rw [upd_ne (ne_of_none q hp)]; exact q⟩
/-- what stands at a place of the store is changed -/
theorem Ext.wr (r : Rep w c H S) {k : Nat} {o : HO} (hk : k < S.length) : Ext c H S.length c (upd H (c.ρ k) o) S.length := by
  obtain ⟨u, q, m⟩ := r.some hk
  have nm : ∀ a x, H a = .some x → ¬ Mut (.some x) → a ≠ c.ρ k := fun a x h z e => by
    rw [e, q] at h; cases h; exact z m
  refine ⟨Nat.le_refl _, fun _ _ => rfl, fun _ h => h, fun a xs h => ?_, fun a x y h => ?_, fun a x h hn => ?_, fun a x f h => ?_, fun k a b => absurd b (Nat.not_lt.mpr a), fun a x h => ?_, fun _ h => .inl h⟩
  · rw [upd_ne (nm a _ h fun z => z)]; exact h
  · rw [upd_ne (nm a _ h fun z => z)]; exact h
  · rw [upd_ne fun e => hn k hk e.symm]; exact h
  · rw [upd_ne fun e => r.live k hk (by rw [← e]; exact f)]; exact h
  · by_cases e : a = c.ρ k
    · rw [e]; exact ⟨o, upd_same⟩
    · exact ⟨x, by rw [upd_ne e]; exact h⟩
theorem Rep.wr (r : Rep w c H S) {k : Nat} {o : HO} {so : SO} (hk : k < S.length) (q : OAt w c (upd H (c.ρ k) o) S.length (c.ρ k) so) : Rep w c (upd H (c.ρ k) o) (S.set k so) := by
  have e : Ext c H S.length c (upd H (c.ρ k) o) S.length := Ext.wr r hk
  refine ⟨fun m u h => ?_, fun i j hi hj => ?_, fun i hi => ?_, fun a f => ?_⟩
  · rw [List.length_set]
    by_cases hm : m = k
    · subst hm
      rw [List.getElem?_set_self hk] at h
      cases h; exact q
    · rw [List.getElem?_set_ne (Ne.symm hm)] at h
      refine (r.obj m u h).mono e fun x hx => ?_
      rw [upd_ne fun z => hm (r.inj m k (Rep.lt h) hk z)]; exact hx
  · rw [List.length_set] at hi hj; exact r.inj i j hi hj
  · rw [List.length_set] at hi; exact r.live i hi
  · obtain ⟨u, q⟩ := r.fro a f
    exact e.there a u q
/-- a list that stands neither in the store nor under what is unchangeable is changed -/
theorem ExtA.side {n : Nat} {p : Addr} {xs ys : List V} (hp : H p = .some (.lst xs)) (hf : ¬ c.F p) : ExtA c H n c (upd H p (.lst ys)) n :=
  ⟨Nat.le_refl _, fun _ _ => rfl, fun _ h => h, fun a us h => by rw [upd_ne (ne_of h hp fun z => nomatch z)]; exact h, fun a o u h => by rw [upd_ne (ne_of h hp fun z => nomatch z)]; exact h, fun a o f h => by
    rw [upd_ne fun e => hf (by rw [← e]; exact f)]; exact h⟩
theorem Rep.side (r : Rep w c H S) {p : Addr} {xs ys : List V} (hp : H p = .some (.lst xs)) (hf : ¬ c.F p) (hn : ∀ k, k < S.length → c.ρ k ≠ p) : Rep w c (upd H p (.lst ys)) S :=
  ⟨fun k o h => (r.obj k o h).monoA (ExtA.side hp hf) fun u hu => by rw [upd_ne (hn k (Rep.lt h))]; exact hu, r.inj, r.live, fun a f => by
    obtain ⟨u, q⟩ := r.fro a f
    exact ⟨u, by rw [upd_ne fun e => hf (by rw [← e]; exact f)]; exact q⟩⟩
/-- seen from a time when nothing stood there -/
theorem Ext.side {c0 : Cn} {H0 : Hp} {n0 n : Nat} {p : Addr} {o u : HO} (e : Ext c0 H0 n0 c H n) (h0 : H0 p = none) (hp : H p = .some u) : Ext c0 H0 n0 c (upd H p o) n :=
  ⟨e.le, e.rho, e.fro, fun a xs h => by rw [upd_ne (ne_of_none h h0)]; exact e.tup a xs h, fun a x y h => by rw [upd_ne (ne_of_none h h0)]; exact e.frz a x y h, fun a x h q => by rw [upd_ne (ne_of_none h h0)]; exact e.keep a x h q,
    fun a x f h => by rw [upd_ne (ne_of_none h h0)]; exact e.keepF a x f h, e.new, fun a x h => by
      obtain ⟨x', q⟩ := e.there a x h
      exact ⟨x', by rw [upd_ne (ne_of_none h h0)]; exact q⟩, e.nF⟩
end
end Mm
set_option maxRecDepth 100000
/-! Expressions over the plain data. -/
namespace Mm
open PySem L2
abbrev TM := Env → Sto → R Bool
abbrev AM := Env → Sto → R (List D)
section
variable (w : Wn) (W : WX)
def XAt (c : Cn) (H : Hp) (n : Nat) (x : Exn) (C : Value) (dd : Option Addr) : Prop :=
  ∃ (a d : Addr) (vs : List V), w.Γ.at_ x.c = some a ∧ C = .ref a ∧ dd = some d ∧ vs.length ≤ (w.Γ.fs x.c).length ∧ H d = some (.xd ((w.Γ.fs x.c).zip vs)) ∧ Ats w c H n x.ds vs
/-- what an outcome asks: of each value and heap that may have come of it -/
def Po {α β : Type} (rel : Cn → Hp → Nat → α → β → Prop) (σ : St) (c : Cn) (H : Hp) (n : Nat) (r : R α) (Q : β → Hp → Prop) : Prop := match r with
  | .ok d S => ∀ c' H' v, Ext c H n c' H' S.length → Rep w c' H' S → rel c' H' S.length d v → Q v H'
  | .ex x S => ∀ c' H' C dd, Ext c H n c' H' S.length → Rep w c' H' S → XAt w c' H' S.length x C dd → W C dd σ H'
  | .bad => False
def relB (_ : Cn) (_ : Hp) (_ : Nat) (b v : Bool) : Prop := v = b
abbrev PoE := Po w W (At w)
abbrev PoA := Po w W (Ats w)
abbrev PoT := Po w W relB
def EnvR (c : Cn) (H : Hp) (n : Nat) (σ : List (Option V)) (env : Env) : Prop := σ.length = env.length ∧ ∀ (i : Nat) (d : D), env[i]? = some (some d) → ∃ v : V, σ[i]? = some (some v) ∧ At w c H n d v
def mG {α β : Type} (rel : Cn → Hp → Nat → α → β → Prop) (m : Env → Sto → R α) (σ : St) (H : Hp) (Q : β → Hp → Prop) : Prop :=
  ∃ c env S, Rep w c H S ∧ EnvR w c H S.length σ env ∧ Po w W rel σ c H S.length (m env S) Q
def mE (m : EM) : TE := fun σ H Q => mG w W (At w) m σ H Q
def mA (m : AM) : TA := fun σ H Q => mG w W (Ats w) m σ H Q
def mT (m : TM) : TT := fun σ H Q => mG w W relB m σ H Q
end
abbrev CE (Γ : Cls') (X : Cx) (W : WX) (e : Expr) (m : EM) : Prop := PE X e (mE ⟨X.K, Γ⟩ W m)
abbrev CA (Γ : Cls') (X : Cx) (W : WX) (es : List Expr) (m : AM) : Prop := PA X es (mA ⟨X.K, Γ⟩ W m)
abbrev CT (Γ : Cls') (X : Cx) (W : WX) (e : Expr) (m : TM) : Prop := PT X e (mT ⟨X.K, Γ⟩ W m)
theorem PE.weak {X : Cx} {e : Expr} {t t' : TE} (h : PE X e t) (i : ∀ σ H Q, t' σ H Q → t σ H Q) : PE X e t' := ⟨fun pins s σ H Q I q => h.run pins s σ H Q I (i σ H Q q)⟩
theorem PA.weak {X : Cx} {e : List Expr} {t t' : TA} (h : PA X e t) (i : ∀ σ H Q, t' σ H Q → t σ H Q) : PA X e t' := ⟨fun pos pins s σ H Q I q => h.run pos pins s σ H Q I (i σ H Q q)⟩
theorem PT.weak {X : Cx} {e : Expr} {t t' : TT} (h : PT X e t) (i : ∀ σ H Q, t' σ H Q → t σ H Q) : PT X e t' := ⟨fun pins s σ H Q I q => h.run pins s σ H Q I (i σ H Q q)⟩
theorem PW.weak {X : Cx} {e : Expr} {t t' : TT} (h : PW X e t) (i : ∀ σ H Q, t' σ H Q → t σ H Q) : PW X e t' := ⟨fun wh pins s σ H Q I q => h.run wh pins s σ H Q I (i σ H Q q)⟩
section
variable {w : Wn} {W : WX} {σ : St} {c c' : Cn} {H H' : Hp} {n n' : Nat} {S : Sto} {env : Env}
theorem EnvR.mono (e : Ext c H n c' H' n') (h : EnvR w c H n σ env) : EnvR w c' H' n' σ env := ⟨h.1, fun i d q => by
  obtain ⟨v, a, b⟩ := h.2 i d q
  exact ⟨v, a, b.mono e⟩⟩
theorem EnvR.get {i : Nat} {d : D} (h : EnvR w c H n σ env) (q : env[i]? = some (some d)) : ∃ v, σ[i]? = some (some v) ∧ At w c H n d v := h.2 i d q
theorem EnvR.set {i : Nat} {d : D} {v : V} (h : EnvR w c H n σ env) (a : At w c H n d v) : EnvR w c H n (σ.set i (some v)) (env.set i (some d)) := by
  refine ⟨by rw [List.length_set, List.length_set]; exact h.1, fun j d' q => ?_⟩
  by_cases e : j = i
  · subst e
    by_cases hl : j < env.length
    · rw [List.getElem?_set_self hl] at q
      cases q
      exact ⟨v, List.getElem?_set_self (by rw [h.1]; exact hl), a⟩
    · rw [List.getElem?_eq_none (by rw [List.length_set]; omega)] at q; cases q
  · rw [List.getElem?_set_ne (Ne.symm e)] at q ⊢
    exact h.2 j d' q
theorem Po.mono {α β : Type} {rel : Cn → Hp → Nat → α → β → Prop} {r : R α} {Q : β → Hp → Prop} (e : Ext c H n c' H' n') (h : Po w W rel σ c H n r Q) : Po w W rel σ c' H' n' r Q := by
  cases r with
  | ok d S => exact fun c2 H2 v e2 r2 a => h c2 H2 v (e.trans e2) r2 a
  | ex x S => exact fun c2 H2 C dd e2 r2 a => h c2 H2 C dd (e.trans e2) r2 a
  | bad => exact h.elim
theorem Po.imp {α β : Type} {rel : Cn → Hp → Nat → α → β → Prop} {r : R α} {Q Q' : β → Hp → Prop} (h : Po w W rel σ c H n r Q) (i : ∀ v H, Q v H → Q' v H) : Po w W rel σ c H n r Q' := by
  cases r with
  | ok d S => exact fun c2 H2 v e2 r2 a => i _ _ (h c2 H2 v e2 r2 a)
  | ex x S => exact h
  | bad => exact h.elim
/-- one part, then the rest -/
theorem Po.bind {α β γ δ : Type} {rel : Cn → Hp → Nat → α → β → Prop} {rel2 : Cn → Hp → Nat → γ → δ → Prop} {r : R α} {f : α → Sto → R γ} {Q : δ → Hp → Prop} (h : Po w W rel2 σ c H n (r.bind f) Q) :
    Po w W rel σ c H n r fun v H1 => ∃ c1 S1 d, Ext c H n c1 H1 S1.length ∧ Rep w c1 H1 S1 ∧ rel c1 H1 S1.length d v ∧ Po w W rel2 σ c1 H1 S1.length (f d S1) Q := by
  cases r with
  | ok d S => exact fun c2 H2 v e2 r2 a => ⟨c2, S, d, e2, r2, a, Po.mono e2 h⟩
  | ex x S => exact h
  | bad => exact h.elim
/-! ## ends -/
theorem fin_ok {d : D} {v : V} {Q : VK} (h : PoE w W σ c H S.length (.ok d S) Q) (r : Rep w c H S) (a : At w c H S.length d v) : Q v H := h c H v Ext.refl r a
theorem fin_tup {ds : List D} {vs : List V} {Q : VK} (h : PoE w W σ c H S.length (.ok (.tup ds) S) Q) (r : Rep w c H S) (a : Ats w c H S.length ds vs) {p : Addr} (hp : H p = none) : Q (.ref p) (upd H p (.tup vs)) := by
  refine h c _ (.ref p) (Ext.grow hp) (r.grow hp) ?_
  unfold At
  exact ⟨p, vs, rfl, SqT.of upd_same, a.mono (Ext.grow hp)⟩
theorem fin_lst {ds : List D} {vs : List V} {Q : VK} (h : PoE w W σ c H S.length (.ok (.lst ds) S) Q) (r : Rep w c H S) (a : Ats w c H S.length ds vs) {p : Addr} (hp : H p = none) : Q (.ref p) (upd H p (.lst vs)) := by
  refine h (c.fr p) _ (.ref p) (Ext.fr hp) (r.fr hp) ?_
  unfold At
  exact ⟨p, vs, rfl, .inr rfl, upd_same, a.mono (Ext.fr hp)⟩
theorem fin_new {ds : List D} {vs : List V} {Q : VK} (h : PoE w W σ c H S.length (.ok (.loc S.length) (S ++ [.lst ds])) Q) (r : Rep w c H S) (a : Ats w c H S.length ds vs) {p : Addr} (hp : H p = none) : Q (.ref p) (upd H p (.lst vs)) := by
  have hl : (S ++ [SO.lst ds]).length = S.length + 1 := by rw [List.length_append]; rfl
  refine h (c.nw S.length p) _ (.ref p) (by rw [hl]; exact Ext.nw hp) (r.nw hp ⟨vs, upd_same, a.mono (Ext.nw hp)⟩) ?_
  unfold At
  exact ⟨by rw [hl]; exact Nat.lt_succ_self _, by rw [Cn.nw_at]⟩
/-! ## a list: unchangeable, or in the store -/
def lstOf (S : Sto) : D → Option (List D)
  | .lst ds => some ds
  | .loc k => match S[k]? with
    | some (.lst ds) => some ds
    | _ => none
  | _ => none
@[simp] theorem lstOf_lst (S : Sto) (ds : List D) : lstOf S (.lst ds) = some ds := rfl
theorem lstOf_loc {S : Sto} {k : Nat} {ds : List D} (h : S[k]? = some (.lst ds)) : lstOf S (.loc k) = some ds := by
  show (match S[k]? with
    | some (.lst ds) => some ds
    | _ => none) = some ds
  rw [h]
theorem lstOf_at {x : D} {v : V} {ds : List D} (r : Rep w c H S) (a : At w c H S.length x v) (h : lstOf S x = some ds) : ∃ p vs, v = .ref p ∧ H p = some (.lst vs) ∧ Ats w c H S.length ds vs := by
  cases x with
  | lst es =>
    cases h
    unfold At at a
    obtain ⟨p, vs, e, f, g, t⟩ := a
    exact ⟨p, vs, e, g, t⟩
  | loc k =>
    unfold At at a
    change (match S[k]? with
      | some (.lst ds) => some ds
      | _ => none) = some ds at h
    cases hk : S[k]? with
    | none => rw [hk] at h; cases h
    | some o =>
      rw [hk] at h
      cases o with
      | lst es =>
        cases h
        obtain ⟨vs, g, t⟩ := r.get hk
        exact ⟨_, vs, a.2, g, t⟩
      | _ => cases h
  | _ => cases h
def tupOf : D → Option (List D)
  | .tup ds => some ds
  | _ => none
/-- a list or a tuple, read -/
def seqOf (S : Sto) (d : D) : Option (List D) := match d with
  | .tup ds => some ds
  | .ttp ds => some ds
  | .fz ns => some (ns.map .int)
  | d => lstOf S d
@[simp] theorem seqOf_ttp (S : Sto) (ds : List D) : seqOf S (.ttp ds) = some ds := rfl
@[simp] theorem seqOf_tup (S : Sto) (ds : List D) : seqOf S (.tup ds) = some ds := rfl
@[simp] theorem seqOf_lst (S : Sto) (ds : List D) : seqOf S (.lst ds) = some ds := rfl
@[simp] theorem seqOf_fz (S : Sto) (ns : List Int) : seqOf S (.fz ns) = some (ns.map .int) := rfl
theorem seqOf_loc {S : Sto} {k : Nat} {ds : List D} (h : S[k]? = some (.lst ds)) : seqOf S (.loc k) = some ds := lstOf_loc h
theorem ats_ints : ∀ ns : List Int, Ats w c H n (ns.map .int) (ns.map V.int)
  | [] => .nil
  | i :: r => .cons (by unfold At; rfl) (ats_ints r)
theorem seqOf_at {x : D} {v : V} {ds : List D} (r : Rep w c H S) (a : At w c H S.length x v) (h : seqOf S x = some ds) : ∃ p vs, v = .ref p ∧ (SqL w.K H p vs ∨ SqT w.K H p vs) ∧ Ats w c H S.length ds vs := by
  have go : lstOf S x = some ds → ∃ p vs, v = .ref p ∧ (SqL w.K H p vs ∨ SqT w.K H p vs) ∧ Ats w c H S.length ds vs := fun h => by
    obtain ⟨p, vs, e, g, t⟩ := lstOf_at r a h
    exact ⟨p, vs, e, .inl (SqL.of g), t⟩
  cases x with
  | tup es =>
    cases h
    unfold At at a
    obtain ⟨p, vs, e, g, t⟩ := a
    exact ⟨p, vs, e, .inr g, t⟩
  | ttp es =>
    cases h
    unfold At at a
    obtain ⟨p, vs, e, g, t⟩ := a
    exact ⟨p, vs, e, .inr (SqT.of g), t⟩
  | fz ns =>
    cases h
    unfold At at a
    obtain ⟨p, e, g⟩ := a
    exact ⟨p, _, e, .inl g.sq, ats_ints ns⟩
  | lst es => exact go h
  | loc k => exact go h
  | _ => cases h
end
/-! ## the parts -/
section
variable {Γ : Cls'} {X : Cx} {W : WX}
def e_k (d : D) : EM := fun _ S => .ok d S
def e_v (i : Nat) : EM := fun env S => match env[i]? with
  | some (some d) => .ok d S
  | _ => .bad
@[simp] theorem e_k_eq (d : D) (env : Env) (S : Sto) : e_k d env S = .ok d S := rfl
theorem c_int {i : Int} {j pos} : CE Γ X W (.Constant (.int i) j pos) (e_k (.int i)) := PE.weak pe_int fun σ H Q ⟨c, env, S, r, ev, h⟩ => fin_ok h r (by unfold At; rfl)
theorem c_bl {b : Bool} {j pos} : CE Γ X W (.Constant (.bool b) j pos) (e_k (.bl b)) := PE.weak pe_bl fun σ H Q ⟨c, env, S, r, ev, h⟩ => fin_ok h r (by unfold At; rfl)
theorem c_non {j pos} : CE Γ X W (.Constant .none j pos) (e_k .non) := PE.weak pe_non fun σ H Q ⟨c, env, S, r, ev, h⟩ => fin_ok h r (by unfold At; rfl)
theorem c_str {x : Str} {j pos} : CE Γ X W (.Constant (.str x) j pos) (e_k (.str x)) := PE.weak pe_str fun σ H Q ⟨c, env, S, r, ev, h⟩ => fin_ok h r (by unfold At; rfl)
theorem c_var {i : Nat} {x : Str} {pos : Pos} (hN : X.N[i]? = some x) (hv : Vis X.env.scope x) (hd : (x == ("__debug__" : Str)) = false := by decide) (hcd : (x == ("__classdict__" : Str)) = false := by decide) : CE Γ X W (.Name x pos) (e_v i) :=
  PE.weak (pe_var hN hv hd hcd) fun σ H Q ⟨c, env, S, r, ev, h⟩ => by
    change PoE _ W σ c H S.length (match env[i]? with
      | some (some d) => .ok d S
      | _ => .bad) Q at h
    cases he : env[i]? with
    | none => rw [he] at h; exact h.elim
    | some o =>
      cases o with
      | none => rw [he] at h; exact h.elim
      | some d =>
        rw [he] at h
        obtain ⟨v, q, a⟩ := ev.get he
        exact ⟨v, q, fin_ok h r a⟩
/-- two operands and what is made of them -/
def e_op (g : D → D → Sto → R D) (ma mb : EM) : EM := fun env S => (ma env S).bind fun x S1 => (mb env S1).bind fun y S2 => g x y S2
/-- g is what f does -/
def GOp (Γ : Cls') (X : Cx) (g : D → D → Sto → R D) (r : R2) : Prop := ∀ (W : WX) (σ : St) (c : Cn) (H : Hp) (S : Sto) (x y : D) (v u : V) (Q : VK), Rep ⟨X.K, Γ⟩ c H S → At ⟨X.K, Γ⟩ c H S.length x v → At ⟨X.K, Γ⟩ c H S.length y u → PoE ⟨X.K, Γ⟩ W σ c H S.length (g x y S) Q → r v u H Q
variable {a b : Expr} {ma mb : EM} {pos : Pos}
theorem c_bin {op : Operator} {r : R2} {g : D → D → Sto → R D} (ho : OpR X (binaryOp op) r) (hg : GOp Γ X g r) (ha : CE Γ X W a ma) (hb : CE Γ X W b mb) : CE Γ X W (.BinOp a op b pos) (e_op g ma mb) := by
  refine PE.weak (pe_op ho ha hb) fun σ H Q ⟨c, env, S, r, ev, h⟩ => ?_
  refine ⟨c, env, S, r, ev, (Po.bind h).imp fun v H1 ⟨c1, S1, d1, e1, r1, a1, h1⟩ => ?_⟩
  refine ⟨c1, env, S1, r1, ev.mono e1, (Po.bind h1).imp fun u H2 ⟨c2, S2, d2, e2, r2, a2, h2⟩ => ?_⟩
  exact hg W σ c2 H2 S2 d1 d2 v u Q r2 (a1.mono e2) a2 h2
end
end Mm
set_option maxRecDepth 100000
/-! Operators over the plain data. -/
namespace Mm
open PySem L2
section
variable {w : Wn} {W : WX} {σ : St} {c c' : Cn} {H H' : Hp} {n n' : Nat} {S : Sto} {env : Env}
/-! ## as data -/
mutual
def pyD : D → Option PyData
  | .non => some .none
  | .bl b => some (.bool b)
  | .int i => some (.int i)
  | .str x => some (.str x)
  | .lst ds => (pyDs ds).map .list
  | .tup ds => (pyDs ds).map .tuple
  | _ => none
def pyDs : List D → Option (List PyData)
  | [] => some []
  | d :: r => (pyD d).bind fun p => (pyDs r).map fun q => p :: q
end
mutual
theorem pyD_at : ∀ (d : D) (v : V) (p : PyData), At w c H n d v → pyD d = some p → Dp w.K H v p
  | .non, v, p, a, h => by unfold At at a; unfold pyD at h; cases h; rw [a]; exact .non
  | .bl b, v, p, a, h => by unfold At at a; unfold pyD at h; cases h; rw [a]; exact .bl b
  | .int i, v, p, a, h => by unfold At at a; unfold pyD at h; cases h; rw [a]; exact .int i
  | .str x, v, p, a, h => by unfold At at a; unfold pyD at h; cases h; rw [a]; exact .str x
  | .lst ds, v, p, a, h => by
    unfold At at a; unfold pyD at h
    obtain ⟨q, vs, e, f, g, t⟩ := a
    cases hq : pyDs ds with
    | none => rw [hq] at h; cases h
    | some ps => rw [hq] at h; cases h; rw [e]; exact .lst (SqL.of g) (pyDs_at ds vs ps t hq)
  | .tup ds, v, p, a, h => by
    unfold At at a; unfold pyD at h
    obtain ⟨q, vs, e, g, t⟩ := a
    cases hq : pyDs ds with
    | none => rw [hq] at h; cases h
    | some ps => rw [hq] at h; cases h; rw [e]; exact .tup g (pyDs_at ds vs ps t hq)
  | .dic _ _, _, _, _, h => by unfold pyD at h; cases h
  | .obj _ _, _, _, _, h => by unfold pyD at h; cases h
  | .fz _, _, _, _, h => by unfold pyD at h; cases h
  | .loc _, _, _, _, h => by unfold pyD at h; cases h
  | .oth _, _, _, _, h => by unfold pyD at h; cases h
  | .ttp _, _, _, _, h => by unfold pyD at h; cases h
theorem pyDs_at : ∀ (ds : List D) (vs : List V) (ps : List PyData), Ats w c H n ds vs → pyDs ds = some ps → DpAll w.K H vs ps
  | [], vs, ps, a, h => by unfold Ats at a; unfold pyDs at h; cases h; rw [a]; exact .nil
  | d :: r, vs, ps, a, h => by
    unfold Ats at a; unfold pyDs at h
    obtain ⟨v, vr, e, a1, a2⟩ := a
    cases h1 : pyD d with
    | none => rw [h1] at h; cases h
    | some p =>
      rw [h1] at h
      cases h2 : pyDs r with
      | none => rw [h2] at h; cases h
      | some q => rw [h2] at h; cases h; rw [e]; exact .cons (pyD_at d v p a1 h1) (pyDs_at r vr q a2 h2)
end
def pyOf (S : Sto) (d : D) : Option PyData := match d with
  | .loc k => match S[k]? with
    | some (.lst ds) => (pyDs ds).map .list
    | _ => none
  | d => pyD d
theorem pyOf_at {d : D} {v : V} {p : PyData} (r : Rep w c H S) (a : At w c H S.length d v) (h : pyOf S d = some p) : Dp w.K H v p := by
  cases d with
  | loc k =>
    unfold At at a
    change (match S[k]? with
      | some (.lst ds) => (pyDs ds).map .list
      | _ => none) = some p at h
    cases hk : S[k]? with
    | none => rw [hk] at h; cases h
    | some o =>
      rw [hk] at h
      cases o with
      | lst es =>
        obtain ⟨vs, g, t⟩ := r.get hk
        rw [a.2]
        cases hq : pyDs es with
        | none => simp only [hq] at h; cases h
        | some ps => simp only [hq] at h; cases h; exact .lst (SqL.of g) (pyDs_at es vs ps t hq)
      | _ => cases h
  | _ => exact pyD_at _ v p a h
/-! ## what operators do -/
def R.if {α : Type} (b : Prop) [Decidable b] (r : R α) : R α := if b then r else .bad
@[simp] theorem R.if_pos {α : Type} {b : Prop} [Decidable b] {r : R α} (h : b) : R.if b r = r := _root_.if_pos h
theorem Po.if {α β : Type} {rel : Cn → Hp → Nat → α → β → Prop} {b : Prop} [Decidable b] {r : R α} {Q : β → Hp → Prop} (h : Po w W rel σ c H n (R.if b r) Q) : b ∧ Po w W rel σ c H n r Q := by
  unfold R.if at h
  by_cases hb : b
  · rw [_root_.if_pos hb] at h; exact ⟨hb, h⟩
  · rw [if_neg hb] at h; exact h.elim
def addL (S : Sto) (x y : D) : R D := match lstOf S x, lstOf S y with
  | some a, some b => .if (a.length + b.length ≤ sizeLine) (.ok (.lst (a ++ b)) S)
  | _, _ => .bad
def addD (x y : D) (S : Sto) : R D := match x, y with
  | .int i, .int j => .ok (.int (i + j)) S
  | .str a, .str b => .if (a.length + b.length ≤ sizeLine) (.ok (.str (a ++ b)) S)
  | .tup a, .tup b => .if (a.length + b.length ≤ sizeLine) (.ok (.tup (a ++ b)) S)
  | .lst a, y => addL S (.lst a) y
  | .loc a, y => addL S (.loc a) y
  | _, _ => .bad
def rAdd4 (K : PySem.W.Frag) : R2 := fun x y H Q => (((∃ i j, x = .int i ∧ y = .int j ∧ Q (.int (i + j)) H) ∨ (∃ i j, x = .str i ∧ y = .str j ∧ i.length + j.length ≤ sizeLine ∧ Q (.str (i ++ j)) H)) ∨ rCatA K x y H Q) ∨ rCat x y H Q
theorem op_add4 {X : Cx} : OpR X (binaryOp .Add) (rAdd4 X.K) := ((op_add.or op_add_str).or op_catA).or op_cat
theorem At.int {i : Int} {v : V} (h : At w c H n (.int i) v) : v = .int i := by unfold At at h; exact h
theorem At.str {i : Str} {v : V} (h : At w c H n (.str i) v) : v = .str i := by unfold At at h; exact h
theorem At.bl {i : Bool} {v : V} (h : At w c H n (.bl i) v) : v = .bl i := by unfold At at h; exact h
theorem At.non {v : V} (h : At w c H n .non v) : v = .non := by unfold At at h; exact h
theorem At.tup {ds : List D} {v : V} (h : At w c H n (.tup ds) v) : ∃ a vs, v = .ref a ∧ SqT w.K H a vs ∧ Ats w c H n ds vs := by unfold At at h; exact h
theorem At.i (i : Int) : At w c H n (.int i) (.int i) := by unfold At; rfl
theorem At.b (b : Bool) : At w c H n (.bl b) (.bl b) := by unfold At; rfl
theorem At.s (x : Str) : At w c H n (.str x) (.str x) := by unfold At; rfl
theorem At.o : At w c H n .non .non := by unfold At; rfl
theorem addL_at {x y : D} {v u : V} {Q : VK} (r : Rep w c H S) (a : At w c H S.length x v) (b : At w c H S.length y u) (h : PoE w W σ c H S.length (addL S x y) Q) : rCat v u H Q := by
  unfold addL at h
  cases hx : lstOf S x with
  | none => rw [hx] at h; exact h.elim
  | some as =>
    cases hy : lstOf S y with
    | none => rw [hx, hy] at h; exact h.elim
    | some bs =>
      rw [hx, hy] at h
      obtain ⟨hl, h⟩ := Po.if h
      obtain ⟨p, vs, rfl, g, t⟩ := lstOf_at r a hx
      obtain ⟨q, us, rfl, g', t'⟩ := lstOf_at r b hy
      exact ⟨p, q, vs, us, rfl, rfl, g, g', by rw [t.len, t'.len]; exact hl, fun z hz => fin_lst h r (t.app t') hz⟩
theorem g_add {Γ : Cls'} {X : Cx} : GOp Γ X addD (rAdd4 X.K) := by
  intro W σ c H S x y v u Q r a b h
  cases x with
  | int i =>
    cases y with
    | int j => exact .inl (.inl (.inl ⟨i, j, a.int, b.int, fin_ok h r (.i _)⟩))
    | _ => exact h.elim
  | str i =>
    cases y with
    | str j =>
      obtain ⟨hl, h⟩ := Po.if h
      exact .inl (.inl (.inr ⟨i, j, a.str, b.str, hl, fin_ok h r (.s _)⟩))
    | _ => exact h.elim
  | tup i =>
    cases y with
    | tup j =>
      obtain ⟨hl, h⟩ := Po.if h
      have a' := a
      have b' := b
      obtain ⟨p, vs, rfl, g, t⟩ := a.tup
      obtain ⟨q, us, rfl, g', t'⟩ := b.tup
      refine .inl (.inr ⟨p, q, vs, us, rfl, rfl, g, g', by rw [t.len, t'.len]; exact hl, fun e => ?_, fun _ e => ?_, fun _ _ z hz => fin_tup h r (t.app t') hz⟩)
      · have : i = [] := by
          have := t.len; rw [e] at this; exact List.length_eq_zero_iff.mp this.symm
        subst this
        exact fin_ok h r b'
      · have : j = [] := by
          have := t'.len; rw [e] at this; exact List.length_eq_zero_iff.mp this.symm
        subst this
        exact fin_ok h r (by rw [List.append_nil]; exact a')
    | _ => exact h.elim
  | lst i => exact .inr (addL_at r a b h)
  | loc k => exact .inr (addL_at r a b h)
  | _ => exact h.elim
@[simp] theorem addD_int (i j : Int) (S : Sto) : addD (.int i) (.int j) S = .ok (.int (i + j)) S := rfl
@[simp] theorem addD_str (i j : Str) (S : Sto) : addD (.str i) (.str j) S = .if (i.length + j.length ≤ sizeLine) (.ok (.str (i ++ j)) S) := rfl
@[simp] theorem addD_tup (i j : List D) (S : Sto) : addD (.tup i) (.tup j) S = .if (i.length + j.length ≤ sizeLine) (.ok (.tup (i ++ j)) S) := rfl
@[simp] theorem addD_ll (i j : List D) (S : Sto) : addD (.lst i) (.lst j) S = .if (i.length + j.length ≤ sizeLine) (.ok (.lst (i ++ j)) S) := rfl
/-- two ints -/
def intD (C : Int → Int → Prop) [∀ i j, Decidable (C i j)] (f : Int → Int → D) (x y : D) (S : Sto) : R D := match x, y with
  | .int i, .int j => .if (C i j) (.ok (f i j) S)
  | _, _ => .bad
def intD0 (f : Int → Int → D) (x y : D) (S : Sto) : R D := match x, y with
  | .int i, .int j => .ok (f i j) S
  | _, _ => .bad
@[simp] theorem intD_int (C : Int → Int → Prop) [∀ i j, Decidable (C i j)] (f : Int → Int → D) (i j : Int) (S : Sto) : intD C f (.int i) (.int j) S = .if (C i j) (.ok (f i j) S) := rfl
@[simp] theorem intD0_int (f : Int → Int → D) (i j : Int) (S : Sto) : intD0 f (.int i) (.int j) S = .ok (f i j) S := rfl
def DV : D → Option V
  | .int i => some (.int i)
  | .bl b => some (.bl b)
  | .str x => some (.str x)
  | .non => some .non
  | _ => none
theorem DV.at {d : D} {v : V} (h : DV d = some v) : At w c H n d v := by
  cases d with
  | int i => cases h; exact .i _
  | bl i => cases h; exact .b _
  | str i => cases h; exact .s _
  | non => cases h; exact .o
  | _ => cases h
theorem g_int {Γ : Cls'} {X : Cx} {C : Int → Int → Prop} [∀ i j, Decidable (C i j)] {f : Int → Int → D} {fv : Int → Int → V} (hf : ∀ i j, DV (f i j) = some (fv i j)) : GOp Γ X (intD C f) (rI C fv) := by
  intro W σ c H S x y v u Q r a b h
  cases x with
  | int i =>
    cases y with
    | int j =>
      obtain ⟨hl, h⟩ := Po.if h
      exact ⟨i, j, a.int, b.int, hl, fin_ok h r (DV.at (hf i j))⟩
    | _ => exact h.elim
  | _ => cases y <;> exact h.elim
theorem g_int0 {Γ : Cls'} {X : Cx} {f : Int → Int → D} {fv : Int → Int → V} (hf : ∀ i j, DV (f i j) = some (fv i j)) : GOp Γ X (intD0 f) (rI0 fv) := by
  intro W σ c H S x y v u Q r a b h
  cases x with
  | int i =>
    cases y with
    | int j => exact ⟨i, j, a.int, b.int, fin_ok h r (DV.at (hf i j))⟩
    | _ => exact h.elim
  | _ => cases y <;> exact h.elim
instance : ∀ i j, Decidable (CDiv i j) := fun _ _ => inferInstanceAs (Decidable (_ ∧ _))
instance : ∀ i j, Decidable (CPow i j) := fun _ _ => inferInstanceAs (Decidable (_ ∧ _ ∧ _))
instance : ∀ i j, Decidable (CMul i j) := fun _ _ => inferInstanceAs (Decidable (_ ∨ _))
instance : ∀ i j, Decidable (CMulW i j) := fun _ _ => inferInstanceAs (Decidable (_ < _))
def repD (x y : D) (S : Sto) : R D := match y with
  | .int k => match lstOf S x with
    | some a => .if (-(2 ^ 63) ≤ k ∧ k < 2 ^ 63 ∧ a.length * k.toNat ≤ sizeLine) (.ok (.lst (List.replicate k.toNat a).flatten) S)
    | none => .bad
  | _ => .bad
def mulD (x y : D) (S : Sto) : R D := match x, y with
  | .int i, .int j => .if (CMul i j ∨ CMulW i j) (.ok (.int (i * j)) S)
  | x, y => repD x y S
@[simp] theorem mulD_int (i j : Int) (S : Sto) : mulD (.int i) (.int j) S = .if (CMul i j ∨ CMulW i j) (.ok (.int (i * j)) S) := rfl
def rMul3 : R2 := fun x y H Q => ((rI CMul fun i j => .int (i * j)) x y H Q ∨ (rI CMulW fun i j => .int (i * j)) x y H Q) ∨ rRep x y H Q
theorem op_mul3 {X : Cx} : OpR X (binaryOp .Mult) rMul3 := (op_mul.or op_mulW).or op_rep
theorem ats_rep {ds : List D} {vs : List V} (t : Ats w c H n ds vs) : ∀ k, Ats w c H n (List.replicate k ds).flatten (List.replicate k vs).flatten
  | 0 => .nil
  | k + 1 => by rw [List.replicate_succ, List.replicate_succ, List.flatten_cons, List.flatten_cons]; exact t.app (ats_rep t k)
theorem g_mul {Γ : Cls'} {X : Cx} : GOp Γ X mulD rMul3 := by
  intro W σ c H S x y v u Q r a b h
  have go : PoE ⟨X.K, Γ⟩ W σ c H S.length (repD x y S) Q → rMul3 v u H Q := fun h => by
    unfold repD at h
    cases y with
    | int k =>
      dsimp only at h
      cases hx : lstOf S x with
      | none => rw [hx] at h; exact h.elim
      | some as =>
        rw [hx] at h
        obtain ⟨⟨k1, k2, hl⟩, h⟩ := Po.if h
        obtain ⟨p, vs, rfl, g, t⟩ := lstOf_at r a hx
        exact .inr ⟨p, k, vs, rfl, b.int, g, k1, k2, by rw [t.len]; exact hl, fun z hz => fin_lst h r (ats_rep t _) hz⟩
    | _ => exact h.elim
  cases x with
  | int i =>
    cases y with
    | int j =>
      obtain ⟨hl, h⟩ := Po.if h
      rcases hl with hl | hl
      · exact .inl (.inl ⟨i, j, a.int, b.int, hl, fin_ok h r (.i _)⟩)
      · exact .inl (.inr ⟨i, j, a.int, b.int, hl, fin_ok h r (.i _)⟩)
    | _ => exact go h
  | _ => exact go h
/-! ## comparisons -/
def eqD (neg : Bool) (x y : D) (S : Sto) : R D := match x, y with
  | .int i, .int j => .ok (.bl (neg ^^ decide (i = j))) S
  | .str i, .str j => .ok (.bl (neg ^^ decide (i = j))) S
  | x, y => match pyOf S x, pyOf S y with
    | some p, some q => .if (SeqAt.shaped p = true ∧ SeqAt.shaped q = true) (.ok (.bl (neg ^^ PyData.eqv p q)) S)
    | _, _ => .bad
@[simp] theorem eqD_int (neg : Bool) (i j : Int) (S : Sto) : eqD neg (.int i) (.int j) S = .ok (.bl (neg ^^ decide (i = j))) S := rfl
@[simp] theorem eqD_str (neg : Bool) (i j : Str) (S : Sto) : eqD neg (.str i) (.str j) S = .ok (.bl (neg ^^ decide (i = j))) S := rfl
def rEq2 (K : PySem.W.Frag) : R2 := fun x y H Q => rEq x y H Q ∨ rEqD K x y H Q
def rNe2 (K : PySem.W.Frag) : R2 := fun x y H Q => rNe x y H Q ∨ rNeD K x y H Q
theorem op_eq2 {X : Cx} (hu : X.A.units + 64 < cLine) : OpR X (compareOp .Eq) (rEq2 X.K) := op_eq.or (op_eqD hu)
theorem op_ne2 {X : Cx} (hu : X.A.units + 64 < cLine) : OpR X (compareOp .NotEq) (rNe2 X.K) := op_ne.or (op_neD hu)
theorem dint {i j : Int} : decide (V.int i = V.int j) = decide (i = j) := by by_cases h : i = j <;> simp [h]
theorem dstr {i j : Str} : decide (V.str i = V.str j) = decide (i = j) := by by_cases h : i = j <;> simp [h]
theorem eqD_at {neg : Bool} {x y : D} {v u : V} {Q : VK} (r : Rep w c H S) (a : At w c H S.length x v) (b : At w c H S.length y u) (h : PoE w W σ c H S.length (eqD neg x y S) Q) :
    (scal v u = true ∧ Q (.bl (neg ^^ decide (v = u))) H) ∨ ∃ d e, Dp w.K H v d ∧ Dp w.K H u e ∧ SeqAt.shaped d = true ∧ SeqAt.shaped e = true ∧ Q (.bl (neg ^^ PyData.eqv d e)) H := by
  have go : PoE w W σ c H S.length (match pyOf S x, pyOf S y with
    | some p, some q => .if (SeqAt.shaped p = true ∧ SeqAt.shaped q = true) (.ok (.bl (neg ^^ PyData.eqv p q)) S)
    | _, _ => .bad) Q → ((scal v u = true ∧ Q (.bl (neg ^^ decide (v = u))) H) ∨ ∃ d e, Dp w.K H v d ∧ Dp w.K H u e ∧ SeqAt.shaped d = true ∧ SeqAt.shaped e = true ∧ Q (.bl (neg ^^ PyData.eqv d e)) H) := fun h => by
    cases hx : pyOf S x with
    | none => rw [hx] at h; exact h.elim
    | some p =>
      cases hy : pyOf S y with
      | none => rw [hx, hy] at h; exact h.elim
      | some q =>
        rw [hx, hy] at h
        obtain ⟨⟨s1, s2⟩, h⟩ := Po.if h
        exact .inr ⟨p, q, pyOf_at r a hx, pyOf_at r b hy, s1, s2, fin_ok h r (.b _)⟩
  cases x with
  | int i =>
    cases y with
    | int j =>
      left
      have e1 := a.int; have e2 := b.int
      subst e1; subst e2
      refine ⟨rfl, ?_⟩
      rw [dint]
      exact fin_ok h r (.b _)
    | _ => exact go h
  | str i =>
    cases y with
    | str j =>
      left
      have e1 := a.str; have e2 := b.str
      subst e1; subst e2
      refine ⟨rfl, ?_⟩
      rw [dstr]
      exact fin_ok h r (.b _)
    | _ => exact go h
  | _ => exact go h
theorem g_eq {Γ : Cls'} {X : Cx} : GOp Γ X (eqD false) (rEq2 X.K) := by
  intro W σ c H S x y v u Q r a b h
  rcases eqD_at r a b h with ⟨h1, h2⟩ | ⟨d, e, h1, h2, h3, h4, h5⟩
  · exact .inl ⟨h1, by simpa using h2⟩
  · exact .inr ⟨d, e, h1, h2, h3, h4, by simpa using h5⟩
theorem g_ne {Γ : Cls'} {X : Cx} : GOp Γ X (eqD true) (rNe2 X.K) := by
  intro W σ c H S x y v u Q r a b h
  rcases eqD_at r a b h with ⟨h1, h2⟩ | ⟨d, e, h1, h2, h3, h4, h5⟩
  · exact .inl ⟨h1, by simpa using h2⟩
  · exact .inr ⟨d, e, h1, h2, h3, h4, by simpa using h5⟩
def isNon : D → Bool
  | .non => true
  | _ => false
def isD (neg : Bool) (x y : D) (S : Sto) : R D := match y with
  | .non => .ok (.bl (neg ^^ isNon x)) S
  | _ => .bad
@[simp] theorem isD_non (neg : Bool) (x : D) (S : Sto) : isD neg x .non S = .ok (.bl (neg ^^ isNon x)) S := rfl
theorem isNon_at {x : D} {v : V} (a : At w c H n x v) : decide (v = .non) = isNon x := by
  cases x with
  | non => rw [a.non]; rfl
  | int i => rw [a.int]; rfl
  | str i => rw [a.str]; rfl
  | bl i => rw [a.bl]; rfl
  | tup ds => unfold At at a; obtain ⟨p, vs, rfl, _⟩ := a; rfl
  | ttp ds => unfold At at a; obtain ⟨p, vs, rfl, _⟩ := a; rfl
  | lst ds => unfold At at a; obtain ⟨p, vs, rfl, _⟩ := a; rfl
  | dic ds => unfold At at a; obtain ⟨p, vs, rfl, _⟩ := a; rfl
  | obj ds => unfold At at a; obtain ⟨p, vs, C, dx, rfl, _⟩ := a; rfl
  | fz ds => unfold At at a; obtain ⟨p, rfl, _⟩ := a; rfl
  | loc k => unfold At at a; rw [a.2]; rfl
  | oth u =>
    unfold At at a
    obtain ⟨rfl, n⟩ := a
    cases v <;> first | rfl | cases n
end
end Mm
set_option maxRecDepth 100000
/-! More expressions over the plain data. -/
namespace Mm
open PySem L2
section
variable {w : Wn} {W : WX} {σ : St} {c c' : Cn} {H H' : Hp} {n n' : Nat} {S : Sto} {env : Env}
variable {Γ : Cls'} {X : Cx} {a b e : Expr} {ma mb : EM} {pos : Pos}
theorem c_cmp {op : CmpOp} {r : R2} {g : D → D → Sto → R D} (ho : OpR X (compareOp op) r) (hg : GOp Γ X g r) (ha : CE Γ X W a ma) (hb : CE Γ X W b mb) (hm : behindInMarks op b = false) : CE Γ X W (.Compare a [op] [b] pos) (e_op g ma mb) := by
  refine PE.weak (pe_cmpR ho ha hb hm) fun σ H Q ⟨c, env, S, r, ev, h⟩ => ?_
  refine ⟨c, env, S, r, ev, (Po.bind h).imp fun v H1 ⟨c1, S1, d1, e1, r1, a1, h1⟩ => ?_⟩
  refine ⟨c1, env, S1, r1, ev.mono e1, (Po.bind h1).imp fun u H2 ⟨c2, S2, d2, e2, r2, a2, h2⟩ => ?_⟩
  exact hg W σ c2 H2 S2 d1 d2 v u Q r2 (a1.mono e2) a2 h2
/-- a value's truth -/
def truD (S : Sto) (d : D) : Option Bool := match d with
  | .bl b => some b
  | .non => some false
  | .int i => some (i != 0)
  | .str x => if x.length ≤ sizeLine then some ((x.length : Int) != 0) else none
  | d => (seqOf S d).map fun ds => !ds.isEmpty
@[simp] theorem truD_bl (S : Sto) (b : Bool) : truD S (.bl b) = some b := rfl
@[simp] theorem truD_int (S : Sto) (i : Int) : truD S (.int i) = some (i != 0) := rfl
@[simp] theorem truD_tup (S : Sto) (ds : List D) : truD S (.tup ds) = some (!ds.isEmpty) := rfl
@[simp] theorem truD_lst (S : Sto) (ds : List D) : truD S (.lst ds) = some (!ds.isEmpty) := rfl
@[simp] theorem truD_non (S : Sto) : truD S .non = some false := rfl
theorem isEmpty_eq {α β : Type} {x : List α} {y : List β} (h : x.length = y.length) : x.isEmpty = y.isEmpty := by
  cases x <;> cases y <;> simp_all
theorem truD_at {d : D} {v : V} {k : Bool} (r : Rep w c H S) (a : At w c H S.length d v) (h : truD S d = some k) : TruV w.K v H k := by
  have go : ∀ ds, seqOf S d = some ds → k = !ds.isEmpty → TruV w.K v H k := fun ds h e => by
    obtain ⟨p, vs, rfl, g, t⟩ := seqOf_at r a h
    rw [← isEmpty_eq t.len] at e
    rcases g with g | g
    · exact .inl ⟨vs, g, e⟩
    · exact .inr (.inl ⟨vs, g, e⟩)
  have go2 : (seqOf S d).map (fun ds => !ds.isEmpty) = some k → TruV w.K v H k := fun h => by
    cases hs : seqOf S d with
    | none => rw [hs] at h; cases h
    | some ds => rw [hs] at h; cases h; exact go ds hs rfl
  cases d with
  | bl b => cases h; rw [a.bl]; rfl
  | non => cases h; rw [a.non]; rfl
  | int i => cases h; rw [a.int]; rfl
  | str x =>
    change (if x.length ≤ sizeLine then some ((x.length : Int) != 0) else none) = some k at h
    by_cases hl : x.length ≤ sizeLine
    · rw [if_pos hl] at h; cases h; rw [a.str]; exact ⟨hl, rfl⟩
    · rw [if_neg hl] at h; cases h
  | tup ds => exact go2 h
  | ttp ds => exact go2 h
  | lst ds => exact go2 h
  | fz ns => exact go2 h
  | loc k => exact go2 h
  | dic ks ds => cases h
  | obj k ds => cases h
  | oth u => cases h
def R.ofO {α : Type} (o : Option α) (S : Sto) : R α := match o with
  | some a => .ok a S
  | none => .bad
@[simp] theorem R.ofO_some {α : Type} (a : α) (S : Sto) : R.ofO (some a) S = .ok a S := rfl
theorem Po.ofO {α β : Type} {rel : Cn → Hp → Nat → α → β → Prop} {o : Option α} {Q : β → Hp → Prop} (h : Po w W rel σ c H n (R.ofO o S) Q) : ∃ a, o = some a ∧ Po w W rel σ c H n (.ok a S) Q := by
  cases o with
  | none => exact h.elim
  | some a => exact ⟨a, rfl, h⟩
def t_v (m : EM) : TM := fun env S => (m env S).bind fun d S1 => .ofO (truD S1 d) S1
theorem c_tru (ha : CE Γ X W a ma) (he : ∀ whole, isTrue a X.env whole = (do let v ← whole; standAt a.pos; holding [v] (truthy v)) := by intro _; rfl) : CT Γ X W a (t_v ma) := by
  refine PT.weak (pt_truth ha he) fun σ H Q ⟨c, env, S, r, ev, h⟩ => ?_
  refine ⟨c, env, S, r, ev, (Po.bind h).imp fun v H1 ⟨c1, S1, d1, e1, r1, a1, h1⟩ => ?_⟩
  obtain ⟨k, hk, h1⟩ := Po.ofO h1
  exact ⟨k, truD_at r1 a1 hk, h1 c1 H1 k Ext.refl r1 rfl⟩
/-- a comparison whose answer is a bool, as a test -/
def blD : D → Option Bool
  | .bl b => some b
  | _ => none
def t_b (m : EM) : TM := fun env S => (m env S).bind fun d S1 => .ofO (blD d) S1
@[simp] theorem blD_bl (b : Bool) : blD (.bl b) = some b := rfl
theorem tB_ok {m : EM} {σ : St} {H : Hp} {Q : Bool → Hp → Prop} (h : mT w W (t_b m) σ H Q) : mE w W m σ H fun x H' => ∃ k, x = .bl k ∧ Q k H' := by
  obtain ⟨c, env, S, r, ev, h⟩ := h
  refine ⟨c, env, S, r, ev, (Po.bind h).imp fun v H1 ⟨c1, S1, d1, e1, r1, a1, h1⟩ => ?_⟩
  obtain ⟨k, hk, h1⟩ := Po.ofO h1
  cases d1 with
  | bl b =>
    cases hk
    exact ⟨_, a1.bl, h1 c1 H1 _ Ext.refl r1 rfl⟩
  | _ => cases hk
theorem c_tcmp {op : CmpOp} {r : R2} {g : D → D → Sto → R D} (ho : OpR X (compareOp op) r) (hg : GOp Γ X g r) (ha : CE Γ X W a ma) (hb : CE Γ X W b mb) (hm : behindInMarks op b = false) : CT Γ X W (.Compare a [op] [b] pos) (t_b (e_op g ma mb)) := by
  refine PT.weak (pt_cmpR ho ha hb hm) fun σ H Q h => ?_
  obtain ⟨c, env, S, r, ev, h⟩ := tB_ok h
  refine ⟨c, env, S, r, ev, (Po.bind h).imp fun v H1 ⟨c1, S1, d1, e1, r1, a1, h1⟩ => ?_⟩
  refine ⟨c1, env, S1, r1, ev.mono e1, (Po.bind h1).imp fun u H2 ⟨c2, S2, d2, e2, r2, a2, h2⟩ => ?_⟩
  exact hg W σ c2 H2 S2 d1 d2 v u _ r2 (a1.mono e2) a2 h2
/-! ## and, or, not, if -/
def t_and (p q : TM) : TM := fun env S => (p env S).bind fun k S1 => if k = true then q env S1 else .ok false S1
def t_or (p q : TM) : TM := fun env S => (p env S).bind fun k S1 => if k = true then .ok true S1 else q env S1
def t_not (p : TM) : TM := fun env S => (p env S).bind fun k S1 => .ok (!k) S1
def e_and (p q : EM) : EM := fun env S => (p env S).bind fun d S1 => match d with
  | .bl true => q env S1
  | .bl false => .ok (.bl false) S1
  | _ => .bad
def e_or (p q : EM) : EM := fun env S => (p env S).bind fun d S1 => match d with
  | .bl true => .ok (.bl true) S1
  | .bl false => q env S1
  | _ => .bad
def e_not (p : EM) : EM := fun env S => (p env S).bind fun d S1 => match d with
  | .bl k => .ok (.bl (!k)) S1
  | _ => .bad
def e_if (t : TM) (p q : EM) : EM := fun env S => (t env S).bind fun k S1 => if k = true then p env S1 else q env S1
variable {pm qm : TM} {rest : List Expr}
abbrev CW (Γ : Cls') (X : Cx) (W : WX) (e : Expr) (m : TM) : Prop := PW X e (mT ⟨X.K, Γ⟩ W m)
theorem c_wand1 (ha : CT Γ X W a pm) : CW Γ X W (.BoolOp .And [a] pos) pm := pw_and1 ha
theorem c_wor1 (ha : CT Γ X W a pm) : CW Γ X W (.BoolOp .Or [a] pos) pm := pw_or1 ha
theorem c_wand (ha : CT Γ X W a pm) (hb : CW Γ X W (.BoolOp .And (b :: rest) pos) qm) : CW Γ X W (.BoolOp .And (a :: b :: rest) pos) (t_and pm qm) := by
  refine PW.weak (pw_and ha hb) fun σ H Q ⟨c, env, S, r, ev, h⟩ => ?_
  refine ⟨c, env, S, r, ev, (Po.bind h).imp fun k H1 ⟨c1, S1, d1, e1, r1, a1, h1⟩ => ?_⟩
  cases (show k = d1 from a1)
  cases k with
  | true => exact ⟨c1, env, S1, r1, ev.mono e1, h1⟩
  | false => exact h1 c1 H1 false Ext.refl r1 rfl
theorem c_wor (ha : CT Γ X W a pm) (hb : CW Γ X W (.BoolOp .Or (b :: rest) pos) qm) : CW Γ X W (.BoolOp .Or (a :: b :: rest) pos) (t_or pm qm) := by
  refine PW.weak (pw_or ha hb) fun σ H Q ⟨c, env, S, r, ev, h⟩ => ?_
  refine ⟨c, env, S, r, ev, (Po.bind h).imp fun k H1 ⟨c1, S1, d1, e1, r1, a1, h1⟩ => ?_⟩
  cases (show k = d1 from a1)
  cases k with
  | false => exact ⟨c1, env, S1, r1, ev.mono e1, h1⟩
  | true => exact h1 c1 H1 true Ext.refl r1 rfl
theorem c_wt (h : CW Γ X W e pm) : CT Γ X W e pm := h.pt
theorem c_tnot (ha : CT Γ X W a pm) : CT Γ X W (.UnaryOp .Not a pos) (t_not pm) := by
  refine PT.weak (pt_not ha) fun σ H Q ⟨c, env, S, r, ev, h⟩ => ?_
  refine ⟨c, env, S, r, ev, (Po.bind h).imp fun k H1 ⟨c1, S1, d1, e1, r1, a1, h1⟩ => ?_⟩
  cases (show k = d1 from a1)
  exact h1 c1 H1 _ Ext.refl r1 rfl
theorem c_one {op} (ha : CE Γ X W a ma) : CE Γ X W (.BoolOp op [a] pos) ma := pe_one ha
theorem c_and (ha : CE Γ X W a ma) (hb : CE Γ X W (.BoolOp .And (b :: rest) pos) mb) : CE Γ X W (.BoolOp .And (a :: b :: rest) pos) (e_and ma mb) := by
  refine PE.weak (pe_and ha hb) fun σ H Q ⟨c, env, S, r, ev, h⟩ => ?_
  refine ⟨c, env, S, r, ev, (Po.bind h).imp fun v H1 ⟨c1, S1, d1, e1, r1, a1, h1⟩ => ?_⟩
  cases d1 with
  | bl k =>
    refine ⟨k, a1.bl, ?_⟩
    cases k with
    | true => exact ⟨c1, env, S1, r1, ev.mono e1, h1⟩
    | false => exact fin_ok h1 r1 (.b _)
  | _ => exact h1.elim
theorem c_or (ha : CE Γ X W a ma) (hb : CE Γ X W (.BoolOp .Or (b :: rest) pos) mb) : CE Γ X W (.BoolOp .Or (a :: b :: rest) pos) (e_or ma mb) := by
  refine PE.weak (pe_or ha hb) fun σ H Q ⟨c, env, S, r, ev, h⟩ => ?_
  refine ⟨c, env, S, r, ev, (Po.bind h).imp fun v H1 ⟨c1, S1, d1, e1, r1, a1, h1⟩ => ?_⟩
  cases d1 with
  | bl k =>
    refine ⟨k, a1.bl, ?_⟩
    cases k with
    | false => exact ⟨c1, env, S1, r1, ev.mono e1, h1⟩
    | true => exact fin_ok h1 r1 (.b _)
  | _ => exact h1.elim
theorem c_not (ha : CE Γ X W a ma) : CE Γ X W (.UnaryOp .Not a pos) (e_not ma) := by
  refine PE.weak (pe_not ha) fun σ H Q ⟨c, env, S, r, ev, h⟩ => ?_
  refine ⟨c, env, S, r, ev, (Po.bind h).imp fun v H1 ⟨c1, S1, d1, e1, r1, a1, h1⟩ => ?_⟩
  cases d1 with
  | bl k => exact ⟨k, a1.bl, fin_ok h1 r1 (.b _)⟩
  | _ => exact h1.elim
theorem c_ifx {t : Expr} (ht : CT Γ X W t pm) (ha : CE Γ X W a ma) (hb : CE Γ X W b mb) : CE Γ X W (.IfExp t a b pos) (e_if pm ma mb) := by
  refine PE.weak (pe_ifExp ht ha hb) fun σ H Q ⟨c, env, S, r, ev, h⟩ => ?_
  refine ⟨c, env, S, r, ev, (Po.bind h).imp fun k H1 ⟨c1, S1, d1, e1, r1, a1, h1⟩ => ?_⟩
  cases (show k = d1 from a1)
  cases k with
  | true => exact ⟨c1, env, S1, r1, ev.mono e1, h1⟩
  | false => exact ⟨c1, env, S1, r1, ev.mono e1, h1⟩
/-! ## arguments, displays -/
def a_nil : AM := fun _ S => .ok [] S
def a_cons (m : EM) (r : AM) : AM := fun env S => (m env S).bind fun d S1 => (r env S1).bind fun ds S2 => .ok (d :: ds) S2
variable {es : List Expr} {am : AM}
theorem c_anil : CA Γ X W [] a_nil := PA.weak pa_nil fun σ H Q ⟨c, env, S, r, ev, h⟩ => h c H [] Ext.refl r .nil
theorem c_acons (ha : CE Γ X W e ma) (hr : CA Γ X W es am) (hs : starEach (e :: es) X.env = (false, eval e X.env) :: starEach es X.env := by rfl) : CA Γ X W (e :: es) (a_cons ma am) := by
  refine PA.weak (pa_cons ha hr hs) fun σ H Q ⟨c, env, S, r, ev, h⟩ => ?_
  refine ⟨c, env, S, r, ev, (Po.bind h).imp fun v H1 ⟨c1, S1, d1, e1, r1, a1, h1⟩ => ?_⟩
  refine ⟨c1, env, S1, r1, ev.mono e1, (Po.bind h1).imp fun u H2 ⟨c2, S2, d2, e2, r2, a2, h2⟩ => ?_⟩
  exact h2 c2 H2 _ Ext.refl r2 (.cons (a1.mono e2) a2)
def e_tup (m : AM) : EM := fun env S => (m env S).bind fun ds S1 => .if (ds.length ≤ 1000) (.ok (.tup ds) S1)
/-- an unchangeable list -/
def e_lst (m : AM) : EM := fun env S => (m env S).bind fun ds S1 => .if (ds.length ≤ 1000) (.ok (.lst ds) S1)
/-- a new place of the store -/
def e_new (m : AM) : EM := fun env S => (m env S).bind fun ds S1 => .if (ds.length ≤ 1000) (.ok (.loc S1.length) (S1 ++ [.lst ds]))
theorem line1000 : 1000 ≤ sizeLine := by rw [sizeLine_eq]; decide
theorem c_tup {k} (h : CA Γ X W es am) : CE Γ X W (.Tuple es k pos) (e_tup am) := by
  refine PE.weak (pe_tup h) fun σ H Q ⟨c, env, S, r, ev, h⟩ => ?_
  refine ⟨c, env, S, r, ev, (Po.bind h).imp fun vs H1 ⟨c1, S1, ds, e1, r1, a1, h1⟩ => ?_⟩
  obtain ⟨hl, h1⟩ := Po.if h1
  exact ⟨by rw [a1.len]; exact Nat.le_trans hl line1000, fun p hp => fin_tup h1 r1 a1 hp⟩
theorem c_lst (h : CA Γ X W es am) : CE Γ X W (.List es pos) (e_lst am) := by
  refine PE.weak (pe_lst h) fun σ H Q ⟨c, env, S, r, ev, h⟩ => ?_
  refine ⟨c, env, S, r, ev, (Po.bind h).imp fun vs H1 ⟨c1, S1, ds, e1, r1, a1, h1⟩ => ?_⟩
  obtain ⟨hl, h1⟩ := Po.if h1
  exact ⟨by rw [a1.len]; exact Nat.le_trans hl line1000, fun p hp => fin_lst h1 r1 a1 hp⟩
theorem c_new (h : CA Γ X W es am) : CE Γ X W (.List es pos) (e_new am) := by
  refine PE.weak (pe_lst h) fun σ H Q ⟨c, env, S, r, ev, h⟩ => ?_
  refine ⟨c, env, S, r, ev, (Po.bind h).imp fun vs H1 ⟨c1, S1, ds, e1, r1, a1, h1⟩ => ?_⟩
  obtain ⟨hl, h1⟩ := Po.if h1
  exact ⟨by rw [a1.len]; exact Nat.le_trans hl line1000, fun p hp => fin_new h1 r1 a1 hp⟩
/-! ## a[i], a[i:j] -/
def ixD (x y : D) (S : Sto) : R D := match x, y with
  | .str z, .int i => .if (z.length ≤ sizeLine) (.ofO ((atI z.cps.toList i).map fun k => .str ⟨#[k]⟩) S)
  | x, .int i => .ofO ((seqOf S x).bind fun ds => atI ds i) S
  | _, _ => .bad
@[simp] theorem ixD_tup (ds : List D) (i : Int) (S : Sto) : ixD (.tup ds) (.int i) S = .ofO (atI ds i) S := rfl
@[simp] theorem ixD_lst (ds : List D) (i : Int) (S : Sto) : ixD (.lst ds) (.int i) S = .ofO (atI ds i) S := rfl
@[simp] theorem ixD_fz (ns : List Int) (i : Int) (S : Sto) : ixD (.fz ns) (.int i) S = .ofO (atI (ns.map D.int) i) S := rfl
@[simp] theorem ixD_str (z : Str) (i : Int) (S : Sto) : ixD (.str z) (.int i) S = .if (z.length ≤ sizeLine) (.ofO ((atI z.cps.toList i).map fun k => .str ⟨#[k]⟩) S) := rfl
theorem ixD_loc {k : Nat} {ds : List D} {i : Int} {S : Sto} (h : S[k]? = some (.lst ds)) : ixD (.loc k) (.int i) S = .ofO (atI ds i) S := by
  show R.ofO ((lstOf S (.loc k)).bind fun ds => atI ds i) S = _
  rw [lstOf_loc h]; rfl
def rIx3 (K : PySem.W.Frag) : R2 := fun x y H Q => (rIxL K x y H Q ∨ rIxT K x y H Q) ∨ rIxS x y H Q
theorem ix3 : IxR X (rIx3 X.K) := (ix_list.or ix_tup).or ix_str
theorem Ats.atI {ds : List D} {vs : List V} {i : Int} {d : D} (t : Ats w c H n ds vs) (h : L2.atI ds i = some d) : ∃ v, L2.atI vs i = some v ∧ At w c H n d v := by
  unfold L2.atI at h ⊢
  rw [t.len]
  cases hj : ixN ds.length i with
  | none => rw [hj] at h; cases h
  | some j =>
    rw [hj] at h
    exact t.get h
theorem g_ix : GOp Γ X ixD (rIx3 X.K) := by
  intro W σ c H S x y v u Q r a b h
  have go : ∀ i, y = .int i → PoE ⟨X.K, Γ⟩ W σ c H S.length (.ofO ((seqOf S x).bind fun ds => L2.atI ds i) S) Q → rIx3 X.K v u H Q := fun i e h' => by
    subst e
    obtain ⟨d, hd, h⟩ := Po.ofO h'
    cases hx : seqOf S x with
    | none => rw [hx] at hd; cases hd
    | some ds =>
      rw [hx] at hd
      obtain ⟨p, vs, rfl, g, t⟩ := seqOf_at r a hx
      obtain ⟨z, hz, az⟩ := t.atI hd
      rcases g with g | g
      · exact .inl (.inl ⟨p, vs, i, z, rfl, b.int, g, hz, fin_ok h r az⟩)
      · exact .inl (.inr ⟨p, vs, i, z, rfl, b.int, g, hz, fin_ok h r az⟩)
  cases y with
  | int i =>
    cases x with
    | str z =>
      change PoE ⟨X.K, Γ⟩ W σ c H S.length (.if (z.length ≤ sizeLine) (.ofO ((L2.atI z.cps.toList i).map fun k => .str ⟨#[k]⟩) S)) Q at h
      obtain ⟨hl, h⟩ := Po.if h
      obtain ⟨d, hd, h⟩ := Po.ofO h
      cases hk : L2.atI z.cps.toList i with
      | none => rw [hk] at hd; cases hd
      | some k =>
        rw [hk] at hd
        cases hd
        exact .inr ⟨z, i, k, a.str, b.int, hl, hk, fin_ok h r (.s _)⟩
    | tup _ => exact go i rfl h
    | lst _ => exact go i rfl h
    | fz _ => exact go i rfl h
    | loc _ => exact go i rfl h
    | non => exact go i rfl h
    | bl _ => exact go i rfl h
    | int _ => exact go i rfl h
    | dic _ _ => exact go i rfl h
    | obj _ _ => exact go i rfl h
    | oth _ => exact go i rfl h
    | ttp _ => exact go i rfl h
  | _ => cases x <;> exact h.elim
theorem c_ix (ha : CE Γ X W a ma) (hb : CE Γ X W b mb) (hs : PlainIx b := by exact fun _ _ => rfl) : CE Γ X W (.Subscript a b pos) (e_op ixD ma mb) := by
  refine PE.weak (pe_ix ix3 ha hb hs) fun σ H Q ⟨c, env, S, r, ev, h⟩ => ?_
  refine ⟨c, env, S, r, ev, (Po.bind h).imp fun v H1 ⟨c1, S1, d1, e1, r1, a1, h1⟩ => ?_⟩
  refine ⟨c1, env, S1, r1, ev.mono e1, (Po.bind h1).imp fun u H2 ⟨c2, S2, d2, e2, r2, a2, h2⟩ => ?_⟩
  exact g_ix W σ c2 H2 S2 d1 d2 v u Q r2 (a1.mono e2) a2 h2
abbrev OM := Env → Sto → R (Option Int)
def relO (_ : Cn) (_ : Hp) (_ : Nat) (x v : Option Int) : Prop := v = x
def mO (w : Wn) (W : WX) (m : OM) : TO := fun σ H Q => mG w W relO m σ H Q
abbrev CO (Γ : Cls') (X : Cx) (W : WX) (e : Option Expr) (m : OM) : Prop := PO X e (mO ⟨X.K, Γ⟩ W m)
def o_none : OM := fun _ S => .ok none S
def o_some (m : EM) : OM := fun env S => (m env S).bind fun d S1 => match d with
  | .int i => .ok (some i) S1
  | _ => .bad
theorem PO.weak {e : Option Expr} {t t' : TO} (h : PO X e t) (i : ∀ σ H Q, t' σ H Q → t σ H Q) : PO X e t' := ⟨fun pins s σ H Q I q => h.run pins s σ H Q I (i σ H Q q)⟩
theorem c_onone : CO Γ X W none o_none := PO.weak po_none fun σ H Q ⟨c, env, S, r, ev, h⟩ => h c H none Ext.refl r rfl
theorem c_osome (ha : CE Γ X W a ma) : CO Γ X W (some a) (o_some ma) := by
  refine PO.weak (po_some ha) fun σ H Q ⟨c, env, S, r, ev, h⟩ => ?_
  refine ⟨c, env, S, r, ev, (Po.bind h).imp fun v H1 ⟨c1, S1, d1, e1, r1, a1, h1⟩ => ?_⟩
  cases d1 with
  | int i => exact ⟨i, a1.int, h1 c1 H1 _ Ext.refl r1 rfl⟩
  | _ => exact h1.elim
def cutD (ds : List D) (lo hi : Option Int) : List D := (ds.drop (HT.sIx ds.length 0 lo)).take (HT.sIx ds.length ds.length hi - HT.sIx ds.length 0 lo)
theorem Ats.cut {ds : List D} {vs : List V} (t : Ats w c H n ds vs) (lo hi : Option Int) : Ats w c H n (cutD ds lo hi) (cutV vs lo hi) := by
  unfold cutD cutV
  rw [t.len]
  exact (t.drop _).take _
def slD (x : D) (lo hi : Option Int) (S : Sto) : R D := match x with
  | .tup ds => .ok (.tup (cutD ds lo hi)) S
  | .str z => .if (z.length ≤ sizeLine) (.ok (.str (cutS z lo hi)) S)
  | x => match lstOf S x with
    | some ds => .ok (.lst (cutD ds lo hi)) S
    | none => .bad
@[simp] theorem slD_tup (ds : List D) (lo hi : Option Int) (S : Sto) : slD (.tup ds) lo hi S = .ok (.tup (cutD ds lo hi)) S := rfl
@[simp] theorem slD_lst (ds : List D) (lo hi : Option Int) (S : Sto) : slD (.lst ds) lo hi S = .ok (.lst (cutD ds lo hi)) S := rfl
@[simp] theorem slD_str (z : Str) (lo hi : Option Int) (S : Sto) : slD (.str z) lo hi S = .if (z.length ≤ sizeLine) (.ok (.str (cutS z lo hi)) S) := rfl
def e_sl (m : EM) (l h : OM) : EM := fun env S => (m env S).bind fun d S1 => (l env S1).bind fun lo S2 => (h env S2).bind fun hi S3 => slD d lo hi S3
theorem sl3 : SlR X (fun x lo hi H Q => (rSlL X.K x lo hi H Q ∨ rSlA X.K x lo hi H Q) ∨ rSlS x lo hi H Q) := (sl_list.or sl_tupA).or sl_str
theorem c_sl {lo hi : Option Expr} {lm hm : OM} {p2 : Pos} (ha : CE Γ X W a ma) (hl : CO Γ X W lo lm) (hh : CO Γ X W hi hm) : CE Γ X W (.Subscript a (.Slice lo hi none p2) pos) (e_sl ma lm hm) := by
  refine PE.weak (pe_slice sl3 ha hl hh) fun σ H Q ⟨c, env, S, r, ev, h⟩ => ?_
  refine ⟨c, env, S, r, ev, (Po.bind h).imp fun v H1 ⟨c1, S1, d1, e1, r1, a1, h1⟩ => ?_⟩
  refine ⟨c1, env, S1, r1, ev.mono e1, (Po.bind h1).imp fun u H2 ⟨c2, S2, d2, e2, r2, a2, h2⟩ => ?_⟩
  refine ⟨c2, env, S2, r2, (ev.mono e1).mono e2, (Po.bind h2).imp fun u3 H3 ⟨c3, S3, d3, e3, r3, a3, h3⟩ => ?_⟩
  cases (show u = d2 from a2)
  cases (show u3 = d3 from a3)
  have ax := (a1.mono e2).mono e3
  have go : (match lstOf S3 d1 with
    | some ds => R.ok (.lst (cutD ds u u3)) S3
    | none => .bad) = slD d1 u u3 S3 → (rSlL X.K v u u3 H3 Q ∨ rSlA X.K v u u3 H3 Q) ∨ rSlS v u u3 H3 Q := fun e => by
    cases hx : lstOf S3 d1 with
    | none => rw [hx] at e; rw [← e] at h3; exact h3.elim
    | some ds =>
      rw [hx] at e; rw [← e] at h3
      obtain ⟨p, vs, rfl, g, t⟩ := lstOf_at r3 ax hx
      exact .inl (.inl ⟨p, vs, rfl, SqL.of g, fun z hz => fin_lst h3 r3 (t.cut _ _) hz⟩)
  cases d1 with
  | tup ds =>
    have ax' := ax
    obtain ⟨p, vs, rfl, g, t⟩ := ax.tup
    refine .inl (.inr ⟨p, vs, rfl, g, fun hw => ?_, fun _ z hz => fin_tup h3 r3 (t.cut _ _) hz⟩)
    have e : cutD ds u u3 = ds := by
      unfold cutD
      rw [t.len] at hw
      rw [hw.1, hw.2, List.drop_zero, Nat.sub_zero, List.take_length]
    refine fin_ok h3 r3 ?_
    rw [e]; exact ax'
  | str z =>
    obtain ⟨hl, h3⟩ := Po.if h3
    exact .inr ⟨z, ax.str, hl, fin_ok h3 r3 (.s _)⟩
  | lst ds => exact go rfl
  | loc k => exact go rfl
  | non => exact go rfl
  | bl _ => exact go rfl
  | int _ => exact go rfl
  | dic _ _ => exact go rfl
  | obj _ _ => exact go rfl
  | fz _ => exact go rfl
  | oth _ => exact go rfl
  | ttp _ => exact go rfl
/-! ## calls of what is built in -/
def e_call (g : List D → Sto → R D) (m : AM) : EM := fun env S => (m env S).bind fun ds S1 => g ds S1
def GCall (Γ : Cls') (X : Cx) (g : List D → Sto → R D) (r : List V → Hp → VK → Prop) : Prop := ∀ (W : WX) (σ : St) (c : Cn) (H : Hp) (S : Sto) (ds : List D) (vs : List V) (Q : VK), Rep ⟨X.K, Γ⟩ c H S → Ats ⟨X.K, Γ⟩ c H S.length ds vs → PoE ⟨X.K, Γ⟩ W σ c H S.length (g ds S) Q → r vs H Q
theorem c_callB {id : String} {x : Str} {p : Pos} {r : List V → Hp → VK → Prop} {g : List D → Sto → R D} (hc : CallR X (.builtin id) r) (hg : GCall Γ X g r) (hgl : Gl X x) (hm : X.mg x = none) (hv : bootBuiltins x = some (.builtin id)) (ha : CA Γ X W (e :: es) am) (hn : x ≠ "__name__" := by decide) (hdb : (x == ("__debug__" : Str)) = false := by decide)
    (he : starEach (e :: es) X.env = (false, eval e X.env) :: starEach es X.env := by rfl) (hpl : (backTo pos (starEach es X.env)).any (·.1) = false := by rfl) : CE Γ X W (.Call (.Name x p) (e :: es) [] pos) (e_call g am) := by
  refine PE.weak (pe_callB hc hgl hm hv ha hn hdb he hpl) fun σ H Q ⟨c, env, S, r, ev, h⟩ => ?_
  exact ⟨c, env, S, r, ev, (Po.bind h).imp fun vs H1 ⟨c1, S1, ds, e1, r1, a1, h1⟩ => hg W σ c1 H1 S1 ds vs Q r1 a1 h1⟩
theorem c_callTy {T : String} {x : Str} {p : Pos} {r : List V → Hp → VK → Prop} {g : List D → Sto → R D} (hc : CallR X (.type T) r) (hg : GCall Γ X g r) (hgl : Gl X x) (hm : X.mg x = none) (hv : bootBuiltins x = some (.type T)) (ha : CA Γ X W (e :: es) am) (hn : x ≠ "__name__" := by decide) (hdb : (x == ("__debug__" : Str)) = false := by decide)
    (he : starEach (e :: es) X.env = (false, eval e X.env) :: starEach es X.env := by rfl) (hpl : (backTo pos (starEach es X.env)).any (·.1) = false := by rfl) : CE Γ X W (.Call (.Name x p) (e :: es) [] pos) (e_call g am) := by
  refine PE.weak (pe_callTy hc hgl hm hv ha hn hdb he hpl) fun σ H Q ⟨c, env, S, r, ev, h⟩ => ?_
  exact ⟨c, env, S, r, ev, (Po.bind h).imp fun vs H1 ⟨c1, S1, ds, e1, r1, a1, h1⟩ => hg W σ c1 H1 S1 ds vs Q r1 a1 h1⟩
theorem Ats.un1 {d : D} {vs : List V} (h : Ats w c H n [d] vs) : ∃ v, vs = [v] ∧ At w c H n d v := by
  obtain ⟨v, r, rfl, a, b⟩ := h.uncons
  rw [b.unnil]
  exact ⟨v, rfl, a⟩
theorem Ats.un2 {d d' : D} {vs : List V} (h : Ats w c H n [d, d'] vs) : ∃ v v', vs = [v, v'] ∧ At w c H n d v ∧ At w c H n d' v' := by
  obtain ⟨v, r, rfl, a, b⟩ := h.uncons
  obtain ⟨v', rfl, b'⟩ := b.un1
  exact ⟨v, v', rfl, a, b'⟩
def f1 (g : D → Sto → R D) (ds : List D) (S : Sto) : R D := match ds with
  | [x] => g x S
  | _ => .bad
def f2 (g : D → D → Sto → R D) (ds : List D) (S : Sto) : R D := match ds with
  | [x, y] => g x y S
  | _ => .bad
@[simp] theorem f1_eq (g : D → Sto → R D) (x : D) (S : Sto) : f1 g [x] S = g x S := rfl
@[simp] theorem f2_eq (g : D → D → Sto → R D) (x y : D) (S : Sto) : f2 g [x, y] S = g x y S := rfl
theorem GCall.one {g : D → Sto → R D} {r : List V → Hp → VK → Prop} (h : ∀ (W : WX) (σ : St) (c : Cn) (H : Hp) (S : Sto) (d : D) (v : V) (Q : VK), Rep ⟨X.K, Γ⟩ c H S → At ⟨X.K, Γ⟩ c H S.length d v → PoE ⟨X.K, Γ⟩ W σ c H S.length (g d S) Q → r [v] H Q) : GCall Γ X (f1 g) r := by
  intro W σ c H S ds vs Q rp a q
  cases ds with
  | nil => exact q.elim
  | cons x rs =>
    cases rs with
    | nil =>
      obtain ⟨v, rfl, a'⟩ := a.un1
      exact h W σ c H S x v Q rp a' q
    | cons y rs => exact q.elim
theorem GCall.two {g : D → D → Sto → R D} {r : List V → Hp → VK → Prop} (h : ∀ (W : WX) (σ : St) (c : Cn) (H : Hp) (S : Sto) (d e : D) (v u : V) (Q : VK), Rep ⟨X.K, Γ⟩ c H S → At ⟨X.K, Γ⟩ c H S.length d v → At ⟨X.K, Γ⟩ c H S.length e u → PoE ⟨X.K, Γ⟩ W σ c H S.length (g d e S) Q → r [v, u] H Q) : GCall Γ X (f2 g) r := by
  intro W σ c H S ds vs Q rp a q
  cases ds with
  | nil => exact q.elim
  | cons x rs =>
    cases rs with
    | nil => exact q.elim
    | cons y rs =>
      cases rs with
      | nil =>
        obtain ⟨v, v', rfl, a', b'⟩ := a.un2
        exact h W σ c H S x y v v' Q rp a' b' q
      | cons z rs => exact q.elim
def lenD (x : D) (S : Sto) : R D := match x with
  | .str z => .if (z.length ≤ sizeLine) (.ok (.int z.length) S)
  | x => .ofO ((seqOf S x).map fun ds => D.int ds.length) S
@[simp] theorem lenD_tup (ds : List D) (S : Sto) : lenD (.tup ds) S = .ok (.int ds.length) S := rfl
@[simp] theorem lenD_lst (ds : List D) (S : Sto) : lenD (.lst ds) S = .ok (.int ds.length) S := rfl
@[simp] theorem lenD_fz (ds : List Int) (S : Sto) : lenD (.fz ds) S = .ok (.int ds.length) S := by
  show R.ok (D.int ((ds.map D.int).length : Int)) S = _
  rw [List.length_map]
@[simp] theorem lenD_str (z : Str) (S : Sto) : lenD (.str z) S = .if (z.length ≤ sizeLine) (.ok (.int z.length) S) := rfl
theorem lenD_loc {k : Nat} {ds : List D} {S : Sto} (h : S[k]? = some (.lst ds)) : lenD (.loc k) S = .ok (.int ds.length) S := by
  show R.ofO ((lstOf S (.loc k)).map fun ds => D.int ds.length) S = _
  rw [lstOf_loc h]; rfl
theorem g_len : GCall Γ X (f1 lenD) (fun xs H Q => ∃ x n, xs = [x] ∧ LenV X.K x H n ∧ Q (.int n) H) := by
  refine .one fun W σ c H S x v Q r a h => ?_
  have go : PoE ⟨X.K, Γ⟩ W σ c H S.length (.ofO ((seqOf S x).map fun ds => D.int ds.length) S) Q → ∃ y n, [v] = [y] ∧ LenV X.K y H n ∧ Q (.int n) H := fun h => by
    obtain ⟨d, hd, h⟩ := Po.ofO h
    cases hx : seqOf S x with
    | none => rw [hx] at hd; cases hd
    | some ds =>
      rw [hx] at hd
      cases hd
      obtain ⟨p, vs, rfl, g, t⟩ := seqOf_at r a hx
      refine ⟨.ref p, ds.length, rfl, ?_, fin_ok h r (.i _)⟩
      rcases g with g | g
      · exact .inl ⟨vs, g, t.len.symm⟩
      · exact .inr ⟨vs, g, t.len.symm⟩
  cases x with
  | str z =>
    obtain ⟨hl, h⟩ := Po.if h
    exact ⟨v, z.length, rfl, by rw [a.str]; exact ⟨hl, rfl⟩, fin_ok h r (.i _)⟩
  | _ => exact go h
def intcD (x : D) (S : Sto) : R D := match x with
  | .int i => .ok (.int i) S
  | .bl k => .ok (.int (if k then 1 else 0)) S
  | _ => .bad
@[simp] theorem intcD_i (i : Int) (S : Sto) : intcD (.int i) S = .ok (.int i) S := rfl
@[simp] theorem intcD_b (k : Bool) (S : Sto) : intcD (.bl k) S = .ok (.int (if k then 1 else 0)) S := rfl
theorem g_intc : GCall Γ X (f1 intcD) (fun xs H Q => (∃ i, xs = [.int i] ∧ Q (.int i) H) ∨ ∃ k, xs = [.bl k] ∧ Q (.int (if k then 1 else 0)) H) := by
  refine .one fun W σ c H S x v Q r a h => ?_
  cases x with
  | int i => exact .inl ⟨i, by rw [a.int], fin_ok h r (.i _)⟩
  | bl k => exact .inr ⟨k, by rw [a.bl], fin_ok h r (.i _)⟩
  | _ => exact h.elim
theorem g_int2 {f : Int → Int → Int} : GCall Γ X (f2 (intD0 fun i j => .int (f i j))) (fun xs H Q => ∃ i j, xs = [.int i, .int j] ∧ Q (.int (f i j)) H) := by
  refine .two fun W σ c H S x y v u Q r a b h => ?_
  cases x with
  | int i =>
    cases y with
    | int j => exact ⟨i, j, by rw [a.int, b.int], fin_ok h r (.i _)⟩
    | _ => exact h.elim
  | _ => cases y <;> exact h.elim
def tupleD (x : D) (S : Sto) : R D := .ofO ((seqOf S x).map D.tup) S
def listD (x : D) (S : Sto) : R D := .ofO ((seqOf S x).map D.lst) S
/-- list(x) as a new place of the store -/
def listN (x : D) (S : Sto) : R D := match seqOf S x with
  | some ds => .ok (.loc S.length) (S ++ [SO.lst ds])
  | none => .bad
@[simp] theorem tupleD_t (ds : List D) (S : Sto) : tupleD (.tup ds) S = .ok (.tup ds) S := rfl
@[simp] theorem tupleD_l (ds : List D) (S : Sto) : tupleD (.lst ds) S = .ok (.tup ds) S := rfl
theorem tupleD_loc {k : Nat} {ds : List D} {S : Sto} (h : S[k]? = some (.lst ds)) : tupleD (.loc k) S = .ok (.tup ds) S := by
  show R.ofO ((lstOf S (.loc k)).map D.tup) S = _
  rw [lstOf_loc h]; rfl
@[simp] theorem listD_t (ds : List D) (S : Sto) : listD (.tup ds) S = .ok (.lst ds) S := rfl
@[simp] theorem listD_l (ds : List D) (S : Sto) : listD (.lst ds) S = .ok (.lst ds) S := rfl
theorem listD_loc {k : Nat} {ds : List D} {S : Sto} (h : S[k]? = some (.lst ds)) : listD (.loc k) S = .ok (.lst ds) S := by
  show R.ofO ((lstOf S (.loc k)).map D.lst) S = _
  rw [lstOf_loc h]; rfl
@[simp] theorem listN_t (ds : List D) (S : Sto) : listN (.tup ds) S = .ok (.loc S.length) (S ++ [.lst ds]) := rfl
@[simp] theorem listN_l (ds : List D) (S : Sto) : listN (.lst ds) S = .ok (.loc S.length) (S ++ [.lst ds]) := rfl
theorem listN_loc {k : Nat} {ds : List D} {S : Sto} (h : S[k]? = some (.lst ds)) : listN (.loc k) S = .ok (.loc S.length) (S ++ [.lst ds]) := by
  show (match lstOf S (.loc k) with
    | some ds => R.ok (D.loc S.length) (S ++ [SO.lst ds])
    | none => .bad) = _
  rw [lstOf_loc h]
theorem seqO {f : List D → D} {x : D} {v : V} {Q : VK} (r : Rep w c H S) (a : At w c H S.length x v) (h : PoE w W σ c H S.length (.ofO ((seqOf S x).map f) S) Q) :
    ∃ p vs ds, v = .ref p ∧ (SqL w.K H p vs ∨ SqT w.K H p vs) ∧ Ats w c H S.length ds vs ∧ PoE w W σ c H S.length (.ok (f ds) S) Q := by
  obtain ⟨d, hd, h⟩ := Po.ofO h
  cases hx : seqOf S x with
  | none => rw [hx] at hd; cases hd
  | some ds =>
    rw [hx] at hd
    cases hd
    obtain ⟨p, vs, rfl, g, t⟩ := seqOf_at r a hx
    exact ⟨p, vs, ds, rfl, g, t, h⟩
theorem g_tuple : GCall Γ X (f1 tupleD) (fun xs H Q => ∃ p ys, xs = [.ref p] ∧ ((SqL X.K H p ys ∧ ∀ l, H l = none → Q (.ref l) (upd H l (.tup ys))) ∨ (SqT X.K H p ys ∧ Q (.ref p) H))) := by
  refine .one fun W σ c H S x v Q r a h => ?_
  obtain ⟨p, vs, ds, rfl, g, t, h⟩ := seqO r a h
  refine ⟨p, vs, rfl, ?_⟩
  rcases g with g | g
  · exact .inl ⟨g, fun l hl => fin_tup h r t hl⟩
  · exact .inr ⟨g, fin_ok h r (by unfold At; exact ⟨p, vs, rfl, g, t⟩)⟩
theorem g_list : GCall Γ X (f1 listD) (fun xs H Q => ∃ p ys, xs = [.ref p] ∧ (SqL X.K H p ys ∨ SqT X.K H p ys) ∧ ∀ l, H l = none → Q (.ref l) (upd H l (.lst ys))) := by
  refine .one fun W σ c H S x v Q r a h => ?_
  obtain ⟨p, vs, ds, rfl, g, t, h⟩ := seqO r a h
  exact ⟨p, vs, rfl, g, fun l hl => fin_lst h r t hl⟩
theorem g_listN : GCall Γ X (f1 listN) (fun xs H Q => ∃ p ys, xs = [.ref p] ∧ (SqL X.K H p ys ∨ SqT X.K H p ys) ∧ ∀ l, H l = none → Q (.ref l) (upd H l (.lst ys))) := by
  refine .one fun W σ c H S x v Q r a h => ?_
  unfold listN at h
  cases hx : seqOf S x with
  | none => rw [hx] at h; exact h.elim
  | some ds =>
    rw [hx] at h
    obtain ⟨p, vs, rfl, g, t⟩ := seqOf_at r a hx
    exact ⟨p, vs, rfl, g, fun l hl => fin_new h r t hl⟩
end
end Mm
set_option maxRecDepth 100000
/-! Statements over the plain data. -/
namespace Mm
open PySem L2
inductive RS where
  | next (env : Env) (S : Sto) | ret (d : D) (S : Sto) | brk (env : Env) (S : Sto) | cnt (env : Env) (S : Sto) | ex (x : Exn) (env : Env) (S : Sto) | bad
abbrev SM := Env → Sto → RS
def R.toS {α : Type} (r : R α) (env : Env) (f : α → Sto → RS) : RS := match r with
  | .ok a S => f a S
  | .ex x S => .ex x env S
  | .bad => .bad
@[simp] theorem R.toS_ok {α : Type} (a : α) (S : Sto) (env : Env) (f : α → Sto → RS) : (R.ok a S).toS env f = f a S := rfl
@[simp] theorem R.toS_ex {α : Type} (x : Exn) (S : Sto) (env : Env) (f : α → Sto → RS) : (R.ex x S : R α).toS env f = .ex x env S := rfl
@[simp] theorem R.toS_bad {α : Type} (env : Env) (f : α → Sto → RS) : (R.bad : R α).toS env f = .bad := rfl
def RS.bind (r : RS) (f : Env → Sto → RS) : RS := match r with
  | .next env S => f env S
  | r => r
@[simp] theorem RS.bind_next (env : Env) (S : Sto) (f : Env → Sto → RS) : (RS.next env S).bind f = f env S := rfl
@[simp] theorem RS.bind_ret (d : D) (S : Sto) (f : Env → Sto → RS) : (RS.ret d S).bind f = .ret d S := rfl
@[simp] theorem RS.bind_brk (env : Env) (S : Sto) (f : Env → Sto → RS) : (RS.brk env S).bind f = .brk env S := rfl
@[simp] theorem RS.bind_cnt (env : Env) (S : Sto) (f : Env → Sto → RS) : (RS.cnt env S).bind f = .cnt env S := rfl
@[simp] theorem RS.bind_ex (x : Exn) (env : Env) (S : Sto) (f : Env → Sto → RS) : (RS.ex x env S).bind f = .ex x env S := rfl
@[simp] theorem RS.bind_bad (f : Env → Sto → RS) : RS.bad.bind f = .bad := rfl
def RS.if (b : Prop) [Decidable b] (r : RS) : RS := if b then r else .bad
@[simp] theorem RS.if_pos {b : Prop} [Decidable b] {r : RS} (h : b) : RS.if b r = r := _root_.if_pos h
section
variable (w : Wn) (W : WX)
def PoS (c : Cn) (H : Hp) (n : Nat) (r : RS) (Dn : Ends) : Prop := match r with
  | .next env S => ∀ c' H' σ', Ext c H n c' H' S.length → Rep w c' H' S → EnvR w c' H' S.length σ' env → Dn.nx σ' H'
  | .brk env S => ∀ c' H' σ', Ext c H n c' H' S.length → Rep w c' H' S → EnvR w c' H' S.length σ' env → Dn.bk σ' H'
  | .cnt env S => ∀ c' H' σ', Ext c H n c' H' S.length → Rep w c' H' S → EnvR w c' H' S.length σ' env → Dn.ct σ' H'
  | .ret d S => ∀ c' H' v, Ext c H n c' H' S.length → Rep w c' H' S → At w c' H' S.length d v → Dn.rt v H'
  | .ex x env S => ∀ c' H' σ' C dd, Ext c H n c' H' S.length → Rep w c' H' S → EnvR w c' H' S.length σ' env → XAt w c' H' S.length x C dd → W C dd σ' H'
  | .bad => False
def mS (m : SM) : TS := fun Dn σ H => ∃ c env S, Rep w c H S ∧ EnvR w c H S.length σ env ∧ PoS w W c H S.length (m env S) Dn
end
abbrev CS (Γ : Cls') (X : Cx) (W : WX) (st : Stmt) (m : SM) : Prop := PS X st (mS ⟨X.K, Γ⟩ W m)
abbrev CSs (Γ : Cls') (X : Cx) (W : WX) (st : List Stmt) (m : SM) : Prop := PSs X st (mS ⟨X.K, Γ⟩ W m)
theorem PS.weak {X : Cx} {st : Stmt} {t t' : TS} (h : PS X st t) (i : ∀ D σ H, t' D σ H → t D σ H) : PS X st t' := ⟨fun pins s σ H D I q => h.run pins s σ H D I (i D σ H q)⟩
theorem PSs.weak {X : Cx} {st : List Stmt} {t t' : TS} (h : PSs X st t) (i : ∀ D σ H, t' D σ H → t D σ H) : PSs X st t' := ⟨fun pins s σ H D I q => h.run pins s σ H D I (i D σ H q)⟩
section
variable {w : Wn} {W : WX} {σ : St} {c c' : Cn} {H H' : Hp} {n n' : Nat} {S : Sto} {env : Env}
variable {Γ : Cls'} {X : Cx} {a b e : Expr} {ma mb : EM} {pos : Pos} {Dn : Ends}
theorem PoS.mono {r : RS} (e : Ext c H n c' H' n') (h : PoS w W c H n r Dn) : PoS w W c' H' n' r Dn := by
  cases r with
  | next env S => exact fun c2 H2 s e2 r2 a => h c2 H2 s (e.trans e2) r2 a
  | brk env S => exact fun c2 H2 s e2 r2 a => h c2 H2 s (e.trans e2) r2 a
  | cnt env S => exact fun c2 H2 s e2 r2 a => h c2 H2 s (e.trans e2) r2 a
  | ret d S => exact fun c2 H2 v e2 r2 a => h c2 H2 v (e.trans e2) r2 a
  | ex x env S => exact fun c2 H2 s C dd e2 r2 a b => h c2 H2 s C dd (e.trans e2) r2 a b
  | bad => exact h.elim
theorem PoS.if {p : Prop} [Decidable p] {r : RS} (h : PoS w W c H n (.if p r) Dn) : p ∧ PoS w W c H n r Dn := by
  unfold RS.if at h
  by_cases hb : p
  · rw [_root_.if_pos hb] at h; exact ⟨hb, h⟩
  · rw [if_neg hb] at h; exact h.elim
theorem PoS.part {α β : Type} {rel : Cn → Hp → Nat → α → β → Prop} {r : R α} {f : α → Sto → RS} (ev : EnvR w c H n σ env) (h : PoS w W c H n (r.toS env f) Dn) :
    Po w W rel σ c H n r fun v H1 => ∃ c1 S1 d, Ext c H n c1 H1 S1.length ∧ Rep w c1 H1 S1 ∧ rel c1 H1 S1.length d v ∧ EnvR w c1 H1 S1.length σ env ∧ PoS w W c1 H1 S1.length (f d S1) Dn := by
  cases r with
  | ok d S => exact fun c2 H2 v e2 r2 a => ⟨c2, S, d, e2, r2, a, ev.mono e2, PoS.mono e2 h⟩
  | ex x S => exact fun c2 H2 C dd e2 r2 a => h c2 H2 σ C dd e2 r2 (ev.mono e2) a
  | bad => exact h.elim
theorem PoS.seq {r : RS} {f : SM} (h : PoS w W c H n (r.bind f) Dn) : PoS w W c H n r { Dn with nx := mS w W f Dn } := by
  cases r with
  | next env S => exact fun c2 H2 s e2 r2 a => ⟨c2, env, S, r2, a, PoS.mono e2 h⟩
  | brk env S => exact h
  | cnt env S => exact h
  | ret d S => exact h
  | ex x env S => exact h
  | bad => exact h.elim
def s_nil : SM := fun env S => .next env S
def s_seq (m f : SM) : SM := fun env S => (m env S).bind f
variable {st : Stmt} {sts : List Stmt} {m f : SM}
theorem c_nil : CSs Γ X W [] s_nil := PSs.weak pss_nil fun Dn σ H ⟨c, env, S, r, ev, h⟩ => h c H σ Ext.refl r ev
theorem c_seq (h1 : CS Γ X W st m) (h2 : CSs Γ X W sts f) : CSs Γ X W (st :: sts) (s_seq m f) := PSs.weak (pss_cons h1 h2) fun Dn σ H ⟨c, env, S, r, ev, h⟩ => ⟨c, env, S, r, ev, PoS.seq h⟩
theorem c_last (h1 : CS Γ X W st m) : CSs Γ X W [st] m := pss_one h1
def s_pass : SM := fun env S => .next env S
def s_brk : SM := fun env S => .brk env S
def s_cnt : SM := fun env S => .cnt env S
theorem c_pass : CS Γ X W (.Pass pos) s_pass := PS.weak ps_pass fun Dn σ H ⟨c, env, S, r, ev, h⟩ => h c H σ Ext.refl r ev
theorem c_brk : CS Γ X W (.Break pos) s_brk := PS.weak ps_break fun Dn σ H ⟨c, env, S, r, ev, h⟩ => h c H σ Ext.refl r ev
theorem c_cnt : CS Γ X W (.Continue pos) s_cnt := PS.weak ps_continue fun Dn σ H ⟨c, env, S, r, ev, h⟩ => h c H σ Ext.refl r ev
/-- code that is not reached -/
def s_bad : SM := fun _ _ => .bad
theorem c_bad : CS Γ X W st s_bad := PS.weak ps_never fun Dn σ H ⟨c, env, S, r, ev, h⟩ => h
theorem c_bads : CSs Γ X W sts s_bad := PSs.weak pss_never fun Dn σ H ⟨c, env, S, r, ev, h⟩ => h
def s_ex (m : EM) : SM := fun env S => (m env S).toS env fun _ S1 => .next env S1
def s_ret (m : EM) : SM := fun env S => (m env S).toS env fun d S1 => .ret d S1
def s_set (i : Nat) (m : EM) : SM := fun env S => (m env S).toS env fun d S1 => .next (env.set i (some d)) S1
def s_if (t : TM) (p q : SM) : SM := fun env S => (t env S).toS env fun k S1 => if k = true then p env S1 else q env S1
theorem c_expr (he : CE Γ X W e ma) (hs : swapsWith e none pos.line X.env = pure false := by rfl) : CS Γ X W (.Expr e pos) (s_ex ma) := by
  refine PS.weak (ps_expr he hs) fun Dn σ H ⟨c, env, S, r, ev, h⟩ => ?_
  exact ⟨c, env, S, r, ev, (PoS.part ev h).imp fun v H1 ⟨c1, S1, d1, e1, r1, a1, ev1, h1⟩ => h1 c1 H1 σ Ext.refl r1 ev1⟩
theorem c_ret (he : CE Γ X W e ma) : CS Γ X W (.Return (some e) pos) (s_ret ma) := by
  refine PS.weak (ps_ret he) fun Dn σ H ⟨c, env, S, r, ev, h⟩ => ?_
  exact ⟨c, env, S, r, ev, (PoS.part ev h).imp fun v H1 ⟨c1, S1, d1, e1, r1, a1, ev1, h1⟩ => h1 c1 H1 v Ext.refl r1 a1⟩
theorem c_retN : CS Γ X W (.Return none pos) (s_ret (e_k .non)) := PS.weak ps_retN fun Dn σ H ⟨c, env, S, r, ev, h⟩ => h c H .non Ext.refl r .o
theorem c_set {i : Nat} {x : Str} {pos' : Pos} (hN : X.N.Nodup) (hi : X.N[i]? = some x) (hx : Loc X.env.scope x) (he : CE Γ X W e ma) (hs : swapsWith e (some (.Name x pos')) pos.line X.env = pure false := by rfl) (hf : X.fn x = true ∨ X.env.scope.names.lookup x = some .local := by first | exact .inl rfl | exact .inr rfl | assumption) :
    CS Γ X W (.Assign [.Name x pos'] e pos) (s_set i ma) := by
  refine PS.weak (ps_set hN hi hx he hs hf) fun Dn σ H ⟨c, env, S, r, ev, h⟩ => ?_
  exact ⟨c, env, S, r, ev, (PoS.part ev h).imp fun v H1 ⟨c1, S1, d1, e1, r1, a1, ev1, h1⟩ => h1 c1 H1 _ Ext.refl r1 (ev1.set a1)⟩
theorem c_if {t : Expr} {pm : TM} {as bs : List Stmt} {p q : SM} (ht : CT Γ X W t pm) (ha : CSs Γ X W as p) (hb : CSs Γ X W bs q) : CS Γ X W (.If t as bs pos) (s_if pm p q) := by
  refine PS.weak (ps_if ht ha hb) fun Dn σ H ⟨c, env, S, r, ev, h⟩ => ?_
  refine ⟨c, env, S, r, ev, (PoS.part ev h).imp fun k H1 ⟨c1, S1, d1, e1, r1, a1, ev1, h1⟩ => ?_⟩
  cases (show k = d1 from a1)
  cases k with
  | true => exact ⟨c1, env, S1, r1, ev1, h1⟩
  | false => exact ⟨c1, env, S1, r1, ev1, h1⟩
/-! ## targets -/
abbrev GM := D → Env → Option Env
abbrev GMs := List D → Env → Option Env
def Bt (sl : List Nat) (σ σ' : List (Option V)) : Prop := σ'.length = σ.length ∧ ∀ j : Nat, j ∉ sl → σ'[j]? = σ[j]?
def mTg (w : Wn) (sl : List Nat) (g : GM) : TG := fun v σ H Q => ∃ c env S d env', Rep w c H S ∧ EnvR w c H S.length σ env ∧ At w c H S.length d v ∧ g d env = some env' ∧ ∀ σ', EnvR w c H S.length σ' env' → Bt sl σ σ' → Q σ' H
def mTgs (w : Wn) (sl : List Nat) (g : GMs) : TGs := fun vs σ H Q => ∃ c env S ds env', Rep w c H S ∧ EnvR w c H S.length σ env ∧ Ats w c H S.length ds vs ∧ g ds env = some env' ∧ ∀ σ', EnvR w c H S.length σ' env' → Bt sl σ σ' → Q σ' H
abbrev CG (Γ : Cls') (X : Cx) (tg : Expr) (sl : List Nat) (g : GM) : Prop := PG X tg (mTg ⟨X.K, Γ⟩ sl g)
abbrev CGs (Γ : Cls') (X : Cx) (tg : List Expr) (sl : List Nat) (g : GMs) : Prop := PGs X tg (mTgs ⟨X.K, Γ⟩ sl g)
def g_name (i : Nat) : GM := fun d env => some (env.set i (some d))
def g_nil : GMs := fun ds env => match ds with
  | [] => some env
  | _ => none
def g_cons (g : GM) (gs : GMs) : GMs := fun ds env => match ds with
  | d :: r => (g d env).bind fun env1 => gs r env1
  | [] => none
def g_tup (gs : GMs) : GM := fun d env => match d with
  | .tup ds => gs ds env
  | _ => none
theorem PG.weak {tg : Expr} {t t' : TG} (h : PG X tg t) (i : ∀ v σ H Q, t' v σ H Q → t v σ H Q) : PG X tg t' := ⟨fun pins s σ H v u Q I r q => h.run pins s σ H v u Q I r (i v σ H Q q)⟩
theorem PGs.weak {tg : List Expr} {t t' : TGs} (h : PGs X tg t) (i : ∀ v σ H Q, t' v σ H Q → t v σ H Q) : PGs X tg t' := ⟨fun pins s σ H v u Q I r q => h.run pins s σ H v u Q I r (i v σ H Q q)⟩
theorem c_gname {i : Nat} {x : Str} (hN : X.N.Nodup) (hi : X.N[i]? = some x) (hx : Loc X.env.scope x) (hf : X.fn x = true ∨ X.env.scope.names.lookup x = some .local := by first | exact .inl rfl | exact .inr rfl | assumption) : CG Γ X (.Name x pos) [i] (g_name i) :=
  PG.weak (pg_name hN hi hx hf) fun v σ H Q ⟨c, env, S, d, env', r, ev, a, g, q⟩ => by
    cases g
    exact q _ (ev.set a) ⟨List.length_set, fun j hj => List.getElem?_set_ne fun e => hj (by simp [e])⟩
theorem c_gnil : CGs Γ X [] [] g_nil := PGs.weak pgs_nil fun vs σ H Q ⟨c, env, S, ds, env', r, ev, a, g, q⟩ => by
  cases ds with
  | nil => cases g; exact ⟨a.unnil, q σ ev ⟨rfl, fun _ _ => rfl⟩⟩
  | cons d r => cases g
theorem c_gcons {tg : Expr} {tgs : List Expr} {g : GM} {gs : GMs} {sl sls : List Nat} (h1 : CG Γ X tg sl g) (h2 : CGs Γ X tgs sls gs) (hs : (assignEach (tg :: tgs) X.env).map (·.2) = assign tg X.env :: (assignEach tgs X.env).map (·.2) := by rfl) : CGs Γ X (tg :: tgs) (sl ++ sls) (g_cons g gs) :=
  PGs.weak (pgs_cons h1 h2 hs) fun vs σ H Q ⟨c, env, S, ds, env', r, ev, a, g', q⟩ => by
    cases ds with
    | nil => cases g'
    | cons d rs =>
      obtain ⟨v, vr, rfl, a1, a2⟩ := a.uncons
      change (g d env).bind (fun env1 => gs rs env1) = some env' at g'
      cases hg : g d env with
      | none => rw [hg] at g'; cases g'
      | some env1 =>
        rw [hg] at g'
        exact ⟨v, vr, rfl, c, env, S, d, env1, r, ev, a1, hg, fun σ1 ev1 b1 => ⟨c, env1, S, rs, env', r, ev1, a2, g', fun σ2 ev2 b2 => q σ2 ev2 ⟨b2.1.trans b1.1, fun j hj => (b2.2 j fun z => hj (List.mem_append_right _ z)).trans (b1.2 j fun z => hj (List.mem_append_left _ z))⟩⟩⟩
/-- gs takes k values -/
def Takes' (k : Nat) (gs : GMs) : Prop := ∀ ds env env', gs ds env = some env' → ds.length = k
theorem takes_nil : Takes' 0 g_nil := fun ds env env' h => by cases ds with
  | nil => rfl
  | cons d r => cases h
theorem takes_cons {k : Nat} {g : GM} {gs : GMs} (h : Takes' k gs) : Takes' (k + 1) (g_cons g gs) := fun ds env env' q => by
  cases ds with
  | nil => cases q
  | cons d r =>
    change (g d env).bind (fun env1 => gs r env1) = some env' at q
    cases hg : g d env with
    | none => rw [hg] at q; cases q
    | some env1 => rw [hg] at q; rw [List.length_cons, h r env1 env' q]
theorem c_gtup {es : List Expr} {k n : Nat} {gs : GMs} {sls : List Nat} (hc : X.calm = true) (h : CGs Γ X es sls gs) (ht : Takes' n gs) (hn : (assignEach es X.env).length = n := by rfl) (hst : (assignEach es X.env).findIdx? (·.1) = none := by rfl) : CG Γ X (.Tuple es k pos) sls (g_tup gs) :=
  PG.weak (pg_tup (n := n) hc h hn hst) fun v σ H Q ⟨c, env, S, d, env', r, ev, a, g, q⟩ => by
    cases d with
    | tup ds =>
      obtain ⟨p, vs, rfl, s, t⟩ := a.tup
      exact ⟨p, vs, rfl, s, by rw [t.len]; exact ht ds env env' g, c, env, S, ds, env', r, ev, t, g, q⟩
    | _ => cases g
def s_asg (m : EM) (g : GM) : SM := fun env S => (m env S).toS env fun d S1 => match g d env with
  | some env1 => .next env1 S1
  | none => .bad
theorem c_asg {tg : Expr} {g : GM} {sl : List Nat} (he : CE Γ X W e ma) (hg : CG Γ X tg sl g) (hs : swapsWithSole [tg] e pos.line X.env = pure false := by rfl) (hw : swappedStores [tg] e X.env = pure none := by rfl)
    (h1 : (assignEach [tg] X.env).map (·.2) = [assign tg X.env] := by rfl) : CS Γ X W (.Assign [tg] e pos) (s_asg ma g) := by
  refine PS.weak (ps_asg he hg hs hw h1) fun Dn σ H ⟨c, env, S, r, ev, h⟩ => ?_
  refine ⟨c, env, S, r, ev, (PoS.part ev h).imp fun v H1 ⟨c1, S1, d1, e1, r1, a1, ev1, h1⟩ => ?_⟩
  cases hg : g d1 env with
  | none => simp only [hg] at h1; exact h1.elim
  | some env1 =>
    simp only [hg] at h1
    exact ⟨c1, env, S1, d1, env1, r1, ev1, a1, hg, fun σ1 ev2 _ => h1 c1 H1 σ1 Ext.refl r1 ev2⟩
/-! ## o[i] = v -/
def setL (S : Sto) (x y z : D) : Option Sto := match x, y with
  | .loc k, .int i => match S[k]? with
    | some (.lst ds) => (ixN ds.length i).map fun j => S.set k (.lst (ds.set j z))
    | _ => none
  | _, _ => none
theorem setL_loc {S : Sto} {k : Nat} {ds : List D} {i : Int} {z : D} {j : Nat} (h : S[k]? = some (.lst ds)) (hj : ixN ds.length i = some j) : setL S (.loc k) (.int i) z = some (S.set k (.lst (ds.set j z))) := by
  unfold setL
  simp only [h, hj, Option.map_some]
def s_put (mv mo mi : EM) : SM := fun env S => (mv env S).toS env fun z S1 => (mo env S1).toS env fun x S2 => (mi env S2).toS env fun y S3 => match setL S3 x y z with
  | some S4 => .next env S4
  | none => .bad
theorem c_put {o i : Expr} {mo mi : EM} {p0 : Pos} (he : CE Γ X W e ma) (ho : CE Γ X W o mo) (hi : CE Γ X W i mi) (hs : swapsWithSole [.Subscript o i p0] e pos.line X.env = pure false := by rfl) (hw : swappedStores [.Subscript o i p0] e X.env = pure none := by rfl)
    (h1 : (assignEach [.Subscript o i p0] X.env).map (·.2) = [assign (.Subscript o i p0) X.env] := by rfl)
    (h2 : ∀ v, assign (.Subscript o i p0) X.env v = (do
      let ov ← holding [v] (eval o X.env)
      let iv ← holding [v, ov] (eval i X.env)
      standAt p0
      holding [v, ov, iv] (setItem ov iv v)
      release [v, ov, iv] []) := by intro _; rfl) : CS Γ X W (.Assign [.Subscript o i p0] e pos) (s_put ma mo mi) := by
  refine PS.weak (ps_asg he (pg_sub ho hi set_list h2) hs hw h1) fun Dn σ H ⟨c, env, S, r, ev, h⟩ => ?_
  refine ⟨c, env, S, r, ev, (PoS.part ev h).imp fun v H1 ⟨c1, S1, d1, e1, r1, a1, ev1, h1⟩ => ?_⟩
  refine ⟨c1, env, S1, r1, ev1, (PoS.part ev1 h1).imp fun v2 H2 ⟨c2, S2, d2, e2, r2, a2, ev2, h2⟩ => ?_⟩
  refine ⟨c2, env, S2, r2, ev2, (PoS.part ev2 h2).imp fun v3 H3 ⟨c3, S3, d3, e3, r3, a3, ev3, h3⟩ => ?_⟩
  cases hs : setL S3 d2 d3 d1 with
  | none => simp only [hs] at h3; exact h3.elim
  | some S4 =>
    simp only [hs] at h3
    cases d2 with
    | loc k =>
      cases d3 with
      | int i =>
        unfold setL at hs
        cases hk : S3[k]? with
        | none => simp only [hk] at hs; cases hs
        | some o =>
          cases o with
          | lst ds =>
            simp only [hk] at hs
            cases hj : ixN ds.length i with
            | none => rw [hj] at hs; cases hs
            | some j =>
              rw [hj] at hs
              cases hs
              have ak := a2.mono e3
              unfold At at ak
              obtain ⟨vs, g, t⟩ := r3.get hk
              have az := (a1.mono e2).mono e3
              refine ⟨c3.ρ k, vs, i, j, ak.2, a3.int, g, by rw [t.len]; exact hj, ?_⟩
              have ex := Ext.wr r3 (o := .lst (vs.set j v)) ak.1
              have rr := Rep.wr r3 (o := .lst (vs.set j v)) (so := .lst (ds.set j d1)) ak.1 ⟨_, upd_same, (t.set az j).mono ex⟩
              have hl : (S3.set k (.lst (ds.set j d1))).length = S3.length := List.length_set
              exact h3 c3 _ σ (by rw [hl]; exact ex) rr (by rw [hl]; exact ev3.mono ex)
          | _ => simp only [hk] at hs; cases hs
      | _ => cases hs
    | _ => cases hs
/-! ## o.m(e), o.m() of what is built in -/
def e_meth (ty : D → Sto → Bool) (g : D → List D → Sto → R D) (mo : EM) (m : AM) : EM := fun env S => (mo env S).bind fun x S1 => .if (ty x S1 = true) ((m env S1).bind fun ds S2 => g x ds S2)
def GTy (T : String) (ty : D → Sto → Bool) : Prop := ∀ (w : Wn) (c : Cn) (H : Hp) (S : Sto) (x : D) (v : V), Rep w c H S → At w c H S.length x v → ty x S = true → tyV w.K T v H
def GMt (Γ : Cls') (X : Cx) (g : D → List D → Sto → R D) (r : V → List V → Hp → VK → Prop) : Prop := ∀ (W : WX) (σ : St) (c : Cn) (H : Hp) (S : Sto) (x : D) (v : V) (ds : List D) (vs : List V) (Q : VK), Rep ⟨X.K, Γ⟩ c H S → At ⟨X.K, Γ⟩ c H S.length x v → Ats ⟨X.K, Γ⟩ c H S.length ds vs → PoE ⟨X.K, Γ⟩ W σ c H S.length (g x ds S) Q → r v vs H Q
theorem c_meth {T id : String} {name : Str} {o : Expr} {es : List Expr} {apos cpos : Pos} {r : V → List V → Hp → VK → Prop} {ty : D → Sto → Bool} {g : D → List D → Sto → R D} {mo : EM} {am : AM} (pa : PlainAttrs T) (slot : Slot T name id) (hty : typeOf (.builtin id) = pure (.type "method_descriptor")) (hm : MtR X id r) (ht : GTy T ty) (hg : GMt Γ X g r)
    (ho : CE Γ X W o mo) (ha : CA Γ X W (e :: es) am)
    (hbase : attributeBase o name X.env (eval o X.env) = eval o X.env := by rfl)
    (hfew : ((backTo cpos (starEach (e :: es) X.env)).all (fun x => !x.1) && (backToKw cpos (keywordEach [] X.env)).all (fun x => x.1.isSome)
      && decide ((e :: es).length + ([] : List Keyword).length + (if ([] : List Keyword).isEmpty then 0 else 1) < 30)) = true := by rfl)
    (hline : (apos.endLine == cpos.line) = true := by rfl) (hs : starEach (e :: es) X.env = (false, eval e X.env) :: starEach es X.env := by rfl) (hplain : (backTo cpos (starEach es X.env)).any (·.1) = false := by rfl) :
    CE Γ X W (.Call (.Attribute o name apos) (e :: es) [] cpos) (e_meth ty g mo am) := by
  refine PE.weak (pe_bm pa slot hty hm ho ha hbase hfew hline hs hplain) fun σ H Q ⟨c, env, S, r, ev, h⟩ => ?_
  refine ⟨c, env, S, r, ev, (Po.bind h).imp fun v H1 ⟨c1, S1, d1, e1, r1, a1, h1⟩ => ?_⟩
  obtain ⟨hty, h1⟩ := Po.if h1
  refine ⟨ht _ c1 H1 S1 d1 v r1 a1 hty, c1, env, S1, r1, ev.mono e1, (Po.bind h1).imp fun vs H2 ⟨c2, S2, ds, e2, r2, a2, h2⟩ => ?_⟩
  exact hg W σ c2 H2 S2 d1 v ds vs Q r2 (a1.mono e2) a2 h2
theorem c_meth0 {T id : String} {name : Str} {o : Expr} {apos cpos : Pos} {r : V → List V → Hp → VK → Prop} {ty : D → Sto → Bool} {g : D → List D → Sto → R D} {mo : EM} (pa : PlainAttrs T) (slot : Slot T name id) (hty : typeOf (.builtin id) = pure (.type "method_descriptor")) (hm : MtR X id r) (ht : GTy T ty) (hg : GMt Γ X g r)
    (ho : CE Γ X W o mo) (hbase : attributeBase o name X.env (eval o X.env) = eval o X.env := by rfl) (hline : (apos.endLine == cpos.line) = true := by rfl) : CE Γ X W (.Call (.Attribute o name apos) [] [] cpos) (e_meth ty g mo a_nil) := by
  refine PE.weak (pe_bm0 pa slot hty hm ho hbase hline) fun σ H Q ⟨c, env, S, r, ev, h⟩ => ?_
  refine ⟨c, env, S, r, ev, (Po.bind h).imp fun v H1 ⟨c1, S1, d1, e1, r1, a1, h1⟩ => ?_⟩
  obtain ⟨hty, h1⟩ := Po.if h1
  exact ⟨ht _ c1 H1 S1 d1 v r1 a1 hty, hg W σ c1 H1 S1 d1 v [] [] Q r1 a1 .nil h1⟩
def tyL (x : D) (S : Sto) : Bool := (lstOf S x).isSome
theorem gty_list : GTy "list" tyL := by
  intro w c H S x v r a h
  cases hx : lstOf S x with
  | none => unfold tyL at h; rw [hx] at h; cases h
  | some ds =>
    obtain ⟨p, vs, rfl, g, t⟩ := lstOf_at r a hx
    exact .inl ⟨rfl, vs, SqL.of g⟩
@[simp] theorem tyL_lst (ds : List D) (S : Sto) : tyL (.lst ds) S = true := rfl
theorem tyL_loc {k : Nat} {ds : List D} {S : Sto} (h : S[k]? = some (.lst ds)) : tyL (.loc k) S = true := by unfold tyL; rw [lstOf_loc h]; rfl
def appD (x : D) (ds : List D) (S : Sto) : R D := match x, ds with
  | .loc k, [y] => match S[k]? with
    | some (.lst es) => .if (es.length < sizeLine) (.ok .non (S.set k (.lst (es ++ [y]))))
    | _ => .bad
  | _, _ => .bad
theorem appD_loc {S : Sto} {k : Nat} {es : List D} {y : D} (h : S[k]? = some (.lst es)) : appD (.loc k) [y] S = .if (es.length < sizeLine) (.ok .non (S.set k (.lst (es ++ [y])))) := by
  unfold appD; simp only [h]
def extD (x : D) (ds : List D) (S : Sto) : R D := match x, ds with
  | .loc k, [y] => match S[k]?, lstOf S y with
    | some (.lst es), some fs => .if (es.length + fs.length ≤ sizeLine) (.ok .non (S.set k (.lst (es ++ fs))))
    | _, _ => .bad
  | _, _ => .bad
theorem extD_loc {S : Sto} {k : Nat} {es fs : List D} {y : D} (h : S[k]? = some (.lst es)) (hy : lstOf S y = some fs) : extD (.loc k) [y] S = .if (es.length + fs.length ≤ sizeLine) (.ok .non (S.set k (.lst (es ++ fs)))) := by
  unfold extD; simp only [h, hy]
theorem wr_end {k : Nat} {es : List D} {us : List V} {Q : VK} {d : D} {v : V} (hd : DV d = some v) (r : Rep w c H S) (hk : k < S.length) (t : Ats w c H S.length es us) (h : PoE w W σ c H S.length (.ok d (S.set k (.lst es))) Q) : Q v (upd H (c.ρ k) (.lst us)) := by
  have ex := Ext.wr r (o := .lst us) hk
  have rr := Rep.wr r (o := .lst us) (so := .lst es) hk ⟨_, upd_same, t.mono ex⟩
  have hl : (S.set k (.lst es)).length = S.length := List.length_set
  exact h c _ v (by rw [hl]; exact ex) rr (DV.at hd)
theorem gm_app : GMt Γ X appD rAppend := by
  intro W σ c H S x v ds vs Q r a t h
  cases x with
  | loc k =>
    cases ds with
    | nil => exact h.elim
    | cons y rs =>
      cases rs with
      | nil =>
        obtain ⟨u, rfl, ay⟩ := t.un1
        cases hk : S[k]? with
        | none => unfold appD at h; simp only [hk] at h; exact h.elim
        | some o =>
          cases o with
          | lst es =>
            rw [appD_loc hk] at h
            obtain ⟨hl, h⟩ := Po.if h
            unfold At at a
            obtain ⟨us, g, te⟩ := r.get hk
            exact ⟨c.ρ k, us, u, a.2, rfl, g, by rw [te.len]; exact hl, wr_end rfl r a.1 (te.app (.one ay)) h⟩
          | _ => unfold appD at h; simp only [hk] at h; exact h.elim
      | cons z rs => exact h.elim
  | _ => exact h.elim
theorem gm_ext : GMt Γ X extD rExtend := by
  intro W σ c H S x v ds vs Q r a t h
  cases x with
  | loc k =>
    cases ds with
    | nil => exact h.elim
    | cons y rs =>
      cases rs with
      | nil =>
        obtain ⟨u, rfl, ay⟩ := t.un1
        cases hk : S[k]? with
        | none => unfold extD at h; simp only [hk] at h; exact h.elim
        | some o =>
          cases o with
          | lst es =>
            cases hy : lstOf S y with
            | none => unfold extD at h; simp only [hk, hy] at h; exact h.elim
            | some fs =>
              rw [extD_loc hk hy] at h
              obtain ⟨hl, h⟩ := Po.if h
              unfold At at a
              obtain ⟨us, g, te⟩ := r.get hk
              obtain ⟨q, ws, rfl, g2, tf⟩ := lstOf_at r ay hy
              exact ⟨c.ρ k, q, us, ws, a.2, rfl, g, g2, by rw [te.len, tf.len]; exact hl, wr_end rfl r a.1 (te.app tf) h⟩
          | _ => unfold extD at h; simp only [hk] at h; exact h.elim
      | cons z rs => exact h.elim
  | _ => exact h.elim
end
end Mm
set_option maxRecDepth 100000
namespace Tk
open PySem L2
/-! ## heaps -/
/-- all but what stands at p is as it was -/
def Kp (p : Addr) (H H' : Hp) : Prop := ∀ b o, H b = some o → b ≠ p → H' b = some o
theorem Kp.refl (p : Addr) (H : Hp) : Kp p H H := fun _ _ e _ => e
theorem Kp.trans {p : Addr} {H H1 H2 : Hp} (a : Kp p H H1) (b : Kp p H1 H2) : Kp p H H2 := fun c o e n => b c o (a c o e n) n
theorem Kp.upd {p : Addr} {H : Hp} {o : HO} : Kp p H (L2.upd H p o) := fun c u e n => by rw [upd_ne n]; exact e
theorem Kp.new {p q : Addr} {H H' : Hp} {o : HO} (a : Kp p H H') (n : H' q = none) : Kp p H (L2.upd H' q o) := fun c u e m => by
  rw [upd_ne (ne_of_none (a c u e m) n)]; exact a c u e m
theorem Kp.of_same {p : Addr} {H H' : Hp} (a : Same H H') : Kp p H H' := fun c o e _ => a c o e
theorem same_new {H : Hp} {p : Addr} (h : H p = none) (o : HO) : Same H (L2.upd H p o) := fun b u q => by rw [upd_ne (ne_of_none q h)]; exact q
/-- the pool: three whole numbers -/
def PoolAt (H : Hp) (p : Addr) : Prop := ∃ a b c : Int, H p = some (.lst [.int a, .int b, .int c])
theorem Kp.tup {p q : Addr} {H H' : Hp} {xs : List V} {ys : List V} (k : Kp p H H') (hp : H p = some (.lst ys)) (h : H q = some (.tup xs)) : H' q = some (.tup xs) :=
  k q _ h (ne_of h hp (by intro z; cases z))
/-! ## numbers -/
theorem fmod_ok {a n : Int} (h : 0 < n) : 0 ≤ a.fmod n ∧ a.fmod n < n := ⟨Int.fmod_nonneg_of_pos a h, Int.fmod_lt_of_pos a h⟩
/-! ## texts -/
def Low (z : Str) : Prop := ∀ c ∈ z.cps.toList, 97 ≤ c ∧ c ≤ 122
def IsName (z : Str) : Prop := 1 ≤ z.length ∧ z.length ≤ 8 ∧ Low z
abbrev alpha : Str := "abcdefghijklmnopqrstuvwxyz"
theorem alpha_all : ∀ n : Fin 26, atI alpha.cps.toList ((n.val : Nat) : Int) = some (97 + n.val) := by decide +kernel
theorem alpha_at {i : Int} (h0 : 0 ≤ i) (h1 : i < 26) : ∃ c, atI alpha.cps.toList i = some c ∧ 97 ≤ c ∧ c ≤ 122 := by
  have e : i = ((i.toNat : Nat) : Int) := by omega
  have q := alpha_all ⟨i.toNat, by omega⟩
  rw [e]
  exact ⟨_, q, by simp, by simp; omega⟩
theorem low_nil : Low ("" : Str) := fun c h => by cases h
theorem low_app {x y : Str} (a : Low x) (b : Low y) : Low (x ++ y) := fun c h => by
  have h' : c ∈ (x.cps ++ y.cps).toList := h
  rw [Array.toList_append] at h'
  rcases List.mem_append.mp h' with q | q
  · exact a c q
  · exact b c q
theorem low_one {c : Nat} (h : 97 ≤ c ∧ c ≤ 122) : Low ⟨#[c]⟩ := fun d q => by
  have e : d = c := by simpa using q
  rw [e]; exact h
theorem low_cut {x : Str} (a : Low x) (lo hi : Option Int) : Low (cutS x lo hi) := fun c h => by
  have h' : c ∈ ((x.cps.toList.drop (HT.sIx x.length 0 lo)).take (HT.sIx x.length x.length hi - HT.sIx x.length 0 lo)) := by simpa [cutS] using h
  exact a c (List.mem_of_mem_drop (List.mem_of_mem_take h'))
theorem len_app (x y : Str) : (x ++ y).length = x.length + y.length := by
  show (x.cps ++ y.cps).size = _
  rw [Array.size_append]; rfl
theorem len_one (c : Nat) : (⟨#[c]⟩ : Str).length = 1 := rfl
theorem len_cut_lo (x : Str) (k : Nat) (h : k ≤ x.length) : (cutS x none (some (k : Int))).length = k := by
  have e : x.cps.toList.length = x.length := by simp [Str.length]
  show (((x.cps.toList.drop (HT.sIx x.length 0 none)).take (HT.sIx x.length x.length (some (k : Int)) - HT.sIx x.length 0 none)).toArray).size = k
  rw [HT.sIx_nat, HT.sIx_none, List.size_toArray, List.length_take, List.length_drop, e]
  omega
theorem len_cut_hi (x : Str) (k : Nat) (h : k ≤ x.length) : (cutS x (some (k : Int)) none).length = x.length - k := by
  have e : x.cps.toList.length = x.length := by simp [Str.length]
  show (((x.cps.toList.drop (HT.sIx x.length 0 (some (k : Int)))).take (HT.sIx x.length x.length none - HT.sIx x.length 0 (some (k : Int)))).toArray).size = _
  rw [HT.sIx_nat, HT.sIx_none, List.size_toArray, List.length_take, List.length_drop, e]
  omega
theorem isName_mk {b : Str} {c : Nat} {k : Int} (hb : Low b) (hl : b.length ≤ 7) (hc : 97 ≤ c ∧ c ≤ 122) (h0 : 0 ≤ k) (h1 : k ≤ b.length) :
    IsName (cutS b none (some k) ++ ⟨#[c]⟩ ++ cutS b (some k) none) := by
  obtain ⟨n, rfl⟩ : ∃ n : Nat, k = (n : Int) := ⟨k.toNat, by omega⟩
  have hn : n ≤ b.length := by omega
  refine ⟨?_, ?_, low_app (low_app (low_cut hb _ _) (low_one hc)) (low_cut hb _ _)⟩
  · rw [len_app, len_app, len_one]; omega
  · rw [len_app, len_app, len_one, len_cut_lo b n hn, len_cut_hi b n hn]; omega
/-- the list of the three names -/
def NamesAt (H : Hp) (q : Addr) : Prop := ∃ x y z : Str, H q = some (.lst [.str x, .str y, .str z]) ∧ IsName x ∧ IsName y ∧ IsName z
/-! ## statements -/
inductive Wd | take | commit | rollback | drop | leave
  deriving DecidableEq
def Wd.s : Wd → Str
  | .take => "take" | .commit => "commit" | .rollback => "rollback" | .drop => "drop" | .leave => "leave"
def Wd.held : Wd → Int → Int
  | .take, h => h + 1 | .commit, _ => 0 | .rollback, _ => 0 | .leave, _ => 0 | .drop, h => h
/-- lock (true), unlock -/
def lockS (b : Bool) : Str := if b then "lock" else "unlock"
inductive Stm
  | one (w : Wd)
  | nam (b : Bool) (n : Str)
  | ch (y n : List Stm)
mutual
def Stm.d : Stm → PyData
  | .one w => .tuple [.str w.s]
  | .nam b n => .tuple [.str (lockS b), .str n]
  | .ch y n => .tuple [.str "choose", .tuple (dAll y), .tuple (dAll n)]
def dAll : List Stm → List PyData
  | [] => []
  | s :: r => s.d :: dAll r
end
mutual
def Stm.cnt : Stm → Nat
  | .one _ => 1
  | .nam _ _ => 1
  | .ch y n => 1 + cntAll y + cntAll n
def cntAll : List Stm → Nat
  | [] => 0
  | s :: r => s.cnt + cntAll r
end
mutual
def Stm.held : Stm → Int → Int
  | .one w, h => w.held h
  | .nam _ _, h => h
  | .ch y n, h => max (heldAll y h) (heldAll n h)
def heldAll : List Stm → Int → Int
  | [], h => h
  | s :: r, h => heldAll r (s.held h)
end
mutual
/-- s is a good statement inside of d chooses, when h numbers are held -/
def Stm.ok : Nat → Stm → Int → Prop
  | _, .one w, h => w = .take → h ≠ 3
  | _, .nam _ n, _ => IsName n
  | d, .ch y n, h => d < 2 ∧ okAll (d + 1) y h ∧ okAll (d + 1) n h
def okAll : Nat → List Stm → Int → Prop
  | _, [], _ => True
  | d, s :: r, h => s.ok d h ∧ okAll d r (s.held h)
end
mutual
/-- the value v is the statement s -/
def Stm.at : Hp → V → Stm → Prop
  | H, v, .one w => ∃ a, v = .ref a ∧ H a = some (.tup [.str w.s])
  | H, v, .nam b n => ∃ a, v = .ref a ∧ H a = some (.tup [.str (lockS b), .str n])
  | H, v, .ch y n => ∃ a b c xs ys, v = .ref a ∧ H a = some (.tup [.str "choose", .ref b, .ref c]) ∧ H b = some (.tup xs) ∧ atAll H xs y ∧ H c = some (.tup ys) ∧ atAll H ys n
def atAll : Hp → List V → List Stm → Prop
  | _, xs, [] => xs = []
  | H, xs, s :: r => ∃ v vs, xs = v :: vs ∧ s.at H v ∧ atAll H vs r
end
/-- tuples stay -/
def TK (H H' : Hp) : Prop := ∀ a xs, H a = some (.tup xs) → H' a = some (.tup xs)
theorem TK.refl (H : Hp) : TK H H := fun _ _ h => h
theorem TK.trans {H H1 H2 : Hp} (a : TK H H1) (b : TK H1 H2) : TK H H2 := fun c o h => b c o (a c o h)
theorem TK.of_same {H H' : Hp} (s : Same H H') : TK H H' := fun a xs h => s a _ h
theorem Kp.tk {p : Addr} {H H' : Hp} {ys : List V} (k : Kp p H H') (hp : H p = some (.lst ys)) : TK H H' := fun a xs h => k.tup hp h
mutual
theorem Stm.at_keep {H H' : Hp} (k : TK H H') : ∀ (s : Stm) (v : V), s.at H v → s.at H' v
  | .one w, v, h => by
    unfold Stm.at at h ⊢
    obtain ⟨a, e, h⟩ := h
    exact ⟨a, e, k _ _ h⟩
  | .nam b n, v, h => by
    unfold Stm.at at h ⊢
    obtain ⟨a, e, h⟩ := h
    exact ⟨a, e, k _ _ h⟩
  | .ch y n, v, h => by
    unfold Stm.at at h ⊢
    obtain ⟨a, b, c, xs, ys, e, h1, h2, h3, h4, h5⟩ := h
    exact ⟨a, b, c, xs, ys, e, k _ _ h1, k _ _ h2, atAll_keep k y xs h3, k _ _ h4, atAll_keep k n ys h5⟩
theorem atAll_keep {H H' : Hp} (k : TK H H') : ∀ (B : List Stm) (xs : List V), atAll H xs B → atAll H' xs B
  | [], xs, h => h
  | s :: r, xs, h => by
    unfold atAll at h ⊢
    obtain ⟨v, vs, e, h1, h2⟩ := h
    exact ⟨v, vs, e, Stm.at_keep k s v h1, atAll_keep k r vs h2⟩
end
theorem atAll_len {H : Hp} : ∀ {B : List Stm} {xs : List V}, atAll H xs B → xs.length = B.length
  | [], xs, h => by unfold atAll at h; rw [h]; rfl
  | s :: r, xs, h => by
    unfold atAll at h
    obtain ⟨v, vs, e, h1, h2⟩ := h
    rw [e, List.length_cons, List.length_cons, atAll_len h2]
theorem atAll_get {H : Hp} : ∀ {B : List Stm} {xs : List V} {i : Nat} {s : Stm}, atAll H xs B → B[i]? = some s → ∃ v, xs[i]? = some v ∧ s.at H v
  | [], xs, i, s, h, e => by simp at e
  | t :: r, xs, 0, s, h, e => by
    unfold atAll at h
    obtain ⟨v, vs, e1, h1, h2⟩ := h
    have e2 : t = s := Option.some.inj e
    exact ⟨v, by rw [e1]; rfl, e2 ▸ h1⟩
  | t :: r, xs, i + 1, s, h, e => by
    unfold atAll at h
    obtain ⟨v, vs, e1, h1, h2⟩ := h
    obtain ⟨u, h3, h4⟩ := atAll_get (i := i) (s := s) h2 e
    exact ⟨u, by rw [e1]; exact h3, h4⟩
theorem atAll_app {H : Hp} : ∀ {B C : List Stm} {xs ys : List V}, atAll H xs B → atAll H ys C → atAll H (xs ++ ys) (B ++ C)
  | [], C, xs, ys, h, g => by unfold atAll at h; rw [h]; exact g
  | s :: r, C, xs, ys, h, g => by
    unfold atAll at h
    obtain ⟨v, vs, e, h1, h2⟩ := h
    rw [e]
    show atAll H (v :: (vs ++ ys)) (s :: (r ++ C))
    unfold atAll
    exact ⟨v, vs ++ ys, rfl, h1, atAll_app h2 g⟩
theorem atAll_one {H : Hp} {s : Stm} {v : V} (h : s.at H v) : atAll H [v] [s] := by
  unfold atAll
  exact ⟨v, [], rfl, h, by unfold atAll; rfl⟩
theorem atAll_drop {H : Hp} : ∀ {B : List Stm} {xs : List V} (n : Nat), atAll H xs B → atAll H (xs.drop n) (B.drop n)
  | B, xs, 0, h => h
  | [], xs, n + 1, h => by unfold atAll at h; rw [h]; rfl
  | s :: r, xs, n + 1, h => by
    unfold atAll at h
    obtain ⟨v, vs, e, h1, h2⟩ := h
    rw [e]
    exact atAll_drop n h2
theorem heldAll_app : ∀ (B C : List Stm) (h : Int), heldAll (B ++ C) h = heldAll C (heldAll B h)
  | [], C, h => rfl
  | s :: r, C, h => by
    show heldAll (s :: (r ++ C)) h = heldAll C (heldAll (s :: r) h)
    rw [heldAll, heldAll]
    exact heldAll_app r C _
theorem okAll_app : ∀ (d : Nat) (B C : List Stm) (h : Int), okAll d B h → okAll d C (heldAll B h) → okAll d (B ++ C) h
  | d, [], C, h, _, g => by rw [heldAll] at g; exact g
  | d, s :: r, C, h, f, g => by
    rw [okAll] at f
    rw [heldAll] at g
    show okAll d (s :: (r ++ C)) h
    rw [okAll]
    exact ⟨f.1, okAll_app d r C _ f.2 g⟩
theorem cntAll_app : ∀ (B C : List Stm), cntAll (B ++ C) = cntAll B + cntAll C
  | [], C => by rw [cntAll]; simp
  | s :: r, C => by
    show cntAll (s :: (r ++ C)) = _
    rw [cntAll, cntAll, cntAll_app r C]; omega
theorem cnt_pos (s : Stm) : 1 ≤ s.cnt := by
  cases s <;> rw [Stm.cnt] <;> omega
theorem len_le_cnt : ∀ (B : List Stm), B.length ≤ cntAll B
  | [] => Nat.zero_le _
  | s :: r => by
    have := cnt_pos s
    have := len_le_cnt r
    rw [cntAll, List.length_cons]; omega
/-! ## what the draws stand on: the pool p, the box b (what is left, what is held), the names q -/
def BoxAt (H : Hp) (b : Addr) (k h : Int) : Prop := H b = some (.lst [.int k, .int h, .int 3])
structure Dr (H : Hp) (p b q : Addr) (k h : Int) : Prop where
  pool : PoolAt H p
  box : BoxAt H b k h
  names : NamesAt H q
  npb : p ≠ b
  npq : p ≠ q
  nbq : b ≠ q
def K2 (p b : Addr) (H H' : Hp) : Prop := ∀ a o, H a = some o → a ≠ p → a ≠ b → H' a = some o
theorem K2.refl (p b : Addr) (H : Hp) : K2 p b H H := fun _ _ e _ _ => e
theorem K2.trans {p b : Addr} {H H1 H2 : Hp} (x : K2 p b H H1) (y : K2 p b H1 H2) : K2 p b H H2 := fun c o e n m => y c o (x c o e n m) n m
theorem Kp.k2 {p b : Addr} {H H' : Hp} (k : Kp p H H') : K2 p b H H' := fun a o e n _ => k a o e n
theorem K2.upd {p b : Addr} {H : Hp} {o : HO} : K2 p b H (L2.upd H b o) := fun a u e _ n => by rw [upd_ne n]; exact e
theorem K2.new {p b q : Addr} {H H' : Hp} {o : HO} (k : K2 p b H H') (n : H' q = none) : K2 p b H (L2.upd H' q o) := fun c u e m m' => by
  rw [upd_ne (ne_of_none (k c u e m m') n)]; exact k c u e m m'
theorem Dr.tk {H H' : Hp} {p b q : Addr} {k h : Int} (D : Dr H p b q k h) (x : K2 p b H H') : TK H H' := fun a xs e => by
  obtain ⟨_, _, _, hp⟩ := D.pool
  exact x a _ e (ne_of e hp (by intro z; cases z)) (ne_of e D.box (by intro z; cases z))
theorem Dr.draw {H H' : Hp} {p b q : Addr} {k h : Int} (D : Dr H p b q k h) (x : Kp p H H') (y : PoolAt H' p) : Dr H' p b q k h := by
  obtain ⟨a1, a2, a3, hq, n1, n2, n3⟩ := D.names
  exact ⟨y, x b _ D.box D.npb.symm, ⟨a1, a2, a3, x q _ hq D.npq.symm, n1, n2, n3⟩, D.npb, D.npq, D.nbq⟩
theorem Dr.put {H : Hp} {p b q : Addr} {k h k' h' : Int} (D : Dr H p b q k h) : Dr (L2.upd H b (.lst [.int k', .int h', .int 3])) p b q k' h' := by
  obtain ⟨a1, a2, a3, hq, n1, n2, n3⟩ := D.names
  obtain ⟨x, y, z, hp⟩ := D.pool
  exact ⟨⟨x, y, z, by rw [upd_ne D.npb]; exact hp⟩, upd_same, ⟨a1, a2, a3, by rw [upd_ne D.nbq.symm]; exact hq, n1, n2, n3⟩, D.npb, D.npq, D.nbq⟩
theorem Dr.new {H : Hp} {p b q a : Addr} {o : HO} {k h : Int} (D : Dr H p b q k h) (n : H a = none) : Dr (L2.upd H a o) p b q k h := by
  obtain ⟨a1, a2, a3, hq, n1, n2, n3⟩ := D.names
  obtain ⟨x, y, z, hp⟩ := D.pool
  exact ⟨⟨x, y, z, by rw [upd_ne (ne_of_none hp n)]; exact hp⟩, by unfold BoxAt; rw [upd_ne (ne_of_none D.box n)]; exact D.box, ⟨a1, a2, a3, by rw [upd_ne (ne_of_none hq n)]; exact hq, n1, n2, n3⟩, D.npb, D.npq, D.nbq⟩
theorem names_at {H : Hp} {q : Addr} (h : NamesAt H q) {r : Int} (r0 : 0 ≤ r) (r1 : r < 3) : ∃ xs n, H q = some (.lst xs) ∧ atI xs r = some (.str n) ∧ IsName n := by
  obtain ⟨a1, a2, a3, hq, n1, n2, n3⟩ := h
  have e : r = 0 ∨ r = 1 ∨ r = 2 := by omega
  rcases e with rfl | rfl | rfl
  · exact ⟨_, a1, hq, rfl, n1⟩
  · exact ⟨_, a2, hq, rfl, n2⟩
  · exact ⟨_, a3, hq, rfl, n3⟩
end Tk
set_option maxRecDepth 100000
/-! Own rules: enumerate over a tuple; .get of a written dict; o[i], x in o, len(o) by the text's own methods. -/
namespace PySem
section
variable {prog : Program} {w : World} {A : Around} {E : Value → Shared → Prop} {s : Shared}
abbrev tkE (j : Addr) : Obj := { cls := .type "enumerate", data := .fields #[.none, .bool false, .ref j, rawInt 0, .none, .none] }
theorem tk_new {v : Value} {o : Obj} {T : Heap → Prop} (B : Begins v o T) :
    Meets (Builtin.«enumerate.__new__» ⟨[.type "enumerate", v], []⟩) (fun _ R s => T s.heap ∧ R (.ok (.ret (.ref (s.heap.push o).objs.size))) { s with heap := (s.heap.push o).push (tkE s.heap.objs.size) }) :=
  .of_wp fun prog w A R s h => by
    obtain ⟨hp, g, d, tk, os⟩ := s
    obtain ⟨h1, h⟩ := h
    have hz := sub_enumerate
    have it1 : ∀ {A' : Around} {E' : Value → Shared → Prop} {Q' : Value → Shared → Prop}, Q' (.ref hp.objs.size) ⟨hp.push o, g, d, tk, os⟩ → wpAny (model prog w) A' (pyIter v) Q' E' ⟨hp, g, d, tk, os⟩ := fun z => B.iter prog w _ _ ⟨hp, g, d, tk, os⟩ _ h1 z
    wp_walk using it1
    refine wpAny_stack_any fun _ => wpAny_pure ?_
    split
    · rename_i c _ _ _ _ _
      cases (c == Value.type "enumerate") <;> (wp_walk using it1; exact ⟨_, rfl, h⟩)
    · wp_walk using it1
      exact ⟨_, rfl, h⟩
theorem tk_enum {v : Value} {o : Obj} {T : Heap → Prop} {Q : Value → Shared → Prop} (B : Begins v o T) (h1 : T s.heap)
    (h : ∀ h', IsEnum h' (s.heap.objs.size + 1) s.heap.objs.size 0 .none → h'.get? s.heap.objs.size = some o → (∀ b u, s.heap.get? b = some u → h'.get? b = some u) → Q (.ref (s.heap.objs.size + 1)) { s with heap := h' }) :
    wpAny (model prog w) A (call (.type "enumerate") [v]) Q E s := by
  have z1 : (s.heap.push o).objs.size = s.heap.objs.size + 1 := Heap.size_push ..
  refine callType_new F.called_enumerate (by decide) (F.typeCall_enumerate_1 _) (F.newCall_enumerate_1 _) (fun obj => F.args_object_init_2 obj _) F.entry_enumerate_new (tk_new B) (And.intro h1 ?_)
  show _ ∧ _
  rw [z1]
  have q : ((s.heap.push o).push (tkE s.heap.objs.size)).get? (s.heap.push o).objs.size = some (tkE s.heap.objs.size) := Heap.get?_push_size _ rfl
  rw [z1] at q
  exact And.intro ⟨_, q, rfl⟩ (h _ q (Heap.get?_push_of_some _ (Heap.get?_push_size _ B.free)) fun b u y => Heap.get?_push_of_some _ (Heap.get?_push_of_some _ y))
end
end PySem
namespace L2
open PySem PySem.Spec PyProof.Rows
/-- the tuple at a, each item in a new pair with its number -/
def IteT (K : PySem.W.Frag) (a : Addr) : It where
  go := fun i H => ∃ (xs : List V) (x : V), SqT K H a xs ∧ xs[i]? = some x
  yld := fun i H v H' => ∃ T x, v = .ref T ∧ H T = none ∧ H' = upd H T (.tup [.int (i : Nat), x]) ∧ ∀ xs, SqT K H a xs → xs[i]? = some x
  stop := fun i H => ∃ xs : List V, SqT K H a xs ∧ xs.length = i
theorem tk_turn {P : Program} {w : World} {K : PySem.W.Frag} {elts : List Expr} {kk : Nat} {tp : Pos} (a e j : Addr) (n1 : a ≠ j) (n2 : e ≠ a) (n3 : e ≠ j) :
    Turn P w K (.Tuple elts kk tp) (IteT K a) [e, j] e (fun i h => (∃ old, IsEnum h e j ((i : Nat) : Int) old) ∧ h.IsTupleIter j a i) := by
  have two : ∀ b, b ∈ [e, j] → b = e ∨ b = j := fun b hb => by simpa using hb
  refine { mem := by simp, obj := ?_, keep := ?_, item := ?_, done := ?_, self := fun A i s Q E st h => wpAny_pyIter_enum st.1.choose_spec h }
  · intro i h st b hb
    obtain ⟨⟨old, he⟩, ⟨o, ho, _, hd⟩⟩ := st
    rcases two b hb with rfl | rfl
    · exact ⟨_, he, fun v q => nomatch q⟩
    · exact ⟨o, ho, fun v q => by rw [hd] at q; cases q⟩
  · intro i h h' st k
    obtain ⟨⟨old, he⟩, hi⟩ := st
    exact ⟨⟨old, k e (by simp) _ he⟩, hi.at fun o q => k j (by simp) o q⟩
  · intro X hP hw hK hc i pins s σ H E I hf st hg
    subst hP hw hK
    obtain ⟨⟨old, he⟩, hj⟩ := st
    obtain ⟨xs, x, hq, hx⟩ := hg
    obtain ⟨its, rv, p, hz⟩ := I.tuple hq
    obtain ⟨u, hu, ru⟩ := rv.get hx
    have szE : e < s.heap.objs.size := Heap.lt_size he
    have szJ : j < s.heap.objs.size := by obtain ⟨_, q, _⟩ := hj; exact Heap.lt_size q
    have hu2 : its.toArray[i]? = some u := by simpa using hu
    have hlt : i < its.toArray.size := by
      rcases Nat.lt_or_ge i its.toArray.size with z | z
      · exact z
      · rw [Array.getElem?_eq_none z] at hu2; cases hu2
    refine wpAny_pyNext_enum_itemD (Draws.tuple (show X.A.in1.handled = none from I.ok.hd hc) j a n1 its.toArray) he ⟨hj, p⟩ hlt n3 (fun z => by
      rcases List.mem_cons.mp z with z | z
      · exact n3 z
      · exact n2 (by simpa using z)) (fun y h' tk py ho st' hT hsz hk => ?_)
    have ey : y = u := Option.some.inj (py.symm.trans hu2)
    subst ey
    refine ⟨_, rfl, wpAny_letOwnedTupleGo_enum (s := { s with heap := h', toks := tk + 1 }) ho fun h'' he' sb => ?_⟩
    have gT : h''.get? s.heap.objs.size = some { cls := .type "tuple", data := .seq #[.int i tk, y] } := (sb.2 _ (Nat.ne_of_gt szE)).trans hT
    have nw : ObjOk X.prog X.w (upd H s.heap.objs.size (.tup [.int (i : Nat), x])) h'' s.heap.objs.size (.tup [.int (i : Nat), x]) :=
      ⟨by show 2 ≤ sizeLine; decide, [.int i tk, y], .cons ⟨_, rfl⟩ (.cons ru .nil), _, gT, rfl, _, rfl⟩
    have I1 : Inv X pins σ (upd H s.heap.objs.size (.tup [.int (i : Nat), x])) { s with heap := h'', toks := tk + 1 } :=
      I.turnedNew (ch := [e, j]) (fun b ob hb q => (sb.2 b fun z => hb (by simp [z])).trans (hk b ob (fun z => hb (by simp [z])) (fun z => hb (by simp [z])) q)) hf (Nat.le_refl _) nw
    refine ⟨.ref s.heap.objs.size, _, I1, rfl, ⟨_, x, rfl, I.hok.fresh (Nat.le_refl _), rfl, fun ys hy => by rw [I.tuple_inj hy hq]; exact hx⟩, ⟨⟨y, ?_⟩, st'.1.at fun o q => (sb.2 j n3.symm).trans q⟩, fun b hb => ?_⟩
    · have e1 : (i : Int) + 1 = ((i + 1 : Nat) : Int) := by omega
      rw [← e1]
      exact he'
    · have lb : b < s.heap.objs.size := by
        rcases two b hb with rfl | rfl
        · exact szE
        · exact szJ
      rw [upd_ne (Nat.ne_of_lt lb)]
      exact (hf b hb).1
  · intro X hP hw hK hc i pins s σ H E I hf st hg
    subst hP hw hK
    obtain ⟨⟨old, he⟩, hj⟩ := st
    obtain ⟨xs, hq, hx⟩ := hg
    obtain ⟨its, rv, p, hz⟩ := I.tuple hq
    obtain ⟨f0, f1, f2, f3, f4, f5⟩ := hf j (by simp)
    have hl : i = its.toArray.size := by rw [List.size_toArray, ← rv.length]; exact hx.symm
    subst hl
    exact wpAny_pyNext_enum_endD (Draws.tuple (show X.A.in1.handled = none from I.ok.hd hc) j a n1 its.toArray) he ⟨hj, p⟩ fun h' eb => ⟨rfl, I.turned (t' := s.toks) (fun b o hb q => eb b o hb q) f0 f1 f3 f4 f5⟩
/-- for i, x in enumerate(t), t a tuple -/
def iEnumT (K : PySem.W.Frag) (ta : TA) : TI := fun σ H R => ta σ H fun vs H1 => ∃ a xs, vs = [.ref a] ∧ SqT K H1 a xs ∧ R (IteT K a) H1
theorem pi_enumT {X : Cx} {e : Expr} {ta : TA} {p pos tp : Pos} {elts : List Expr} {kk : Nat} (hg : Gl X "enumerate") (hm : X.mg "enumerate" = none) (ha : PA X [e] ta) (hs : starEach [e] X.env = [(false, eval e X.env)] := by rfl) :
    PI X (.Tuple elts kk tp) (.Call (.Name "enumerate" p) [e] [] pos) (iEnumT X.K ta) := by
  refine ⟨fun pins s σ H R I h => ?_⟩
  refine Call_ (ld_blt I hg hm boot_enumerate (PyProof.Rows.callWith_type1 (thn (ha.run pos pins s σ H _ I h) fun us s1 q0 => ?_) hs rfl))
  obtain ⟨vs, H1, I1, r1, a, xs, ex, hq, q⟩ := q0
  subst ex
  cases r1 with
  | cons r rr =>
    cases rr
    cases r
    obtain ⟨its, rv, p', hz⟩ := I1.tuple hq
    have la : a < s1.heap.objs.size := by obtain ⟨_, z, _⟩ := p'; exact Heap.lt_size z
    refine tk_enum (begins_tuple a its.toArray) p' fun h' he hit hk => wpAny_pyIter_enum he ?_
    have I2 : Inv X pins σ H1 { s1 with heap := h' } := I1.kept (t' := s1.toks) hk
    refine ⟨s1.heap.objs.size + 1, [s1.heap.objs.size + 1, s1.heap.objs.size], _, _, H1, rfl, I2, tk_turn a (s1.heap.objs.size + 1) s1.heap.objs.size (Nat.ne_of_lt la) (Nat.ne_of_gt (Nat.lt_succ_of_lt la)) (Nat.succ_ne_self _), ⟨⟨.none, he⟩, ⟨_, hit, rfl, rfl⟩⟩, fun b hb => ?_, q⟩
    have two : b = s1.heap.objs.size + 1 ∨ b = s1.heap.objs.size := by simpa using hb
    have le : s1.heap.objs.size ≤ b := two.elim (fun z => z ▸ Nat.le_succ _) (fun z => z ▸ Nat.le_refl _)
    exact I1.fpOk le (I1.hok.fresh le)
/-- the reading of such a loop -/
theorem for_enumT {K : PySem.W.Frag} {a : Addr} {xs : List V} {g : TG} {tb : TS} {D : Ends} {σ : St} {H : Hp} (Pv : Nat → St → Hp → Prop) (h0 : Pv 0 σ H) (hl : ∀ i σ H, i ≤ xs.length → Pv i σ H → SqT K H a xs)
    (hs : ∀ i x T σ H, xs[i]? = some x → Pv i σ H → H T = none → g (.ref T) σ (upd H T (.tup [.int (i : Nat), x])) fun σ2 H2 => tb { D with nx := Pv (i + 1), ct := Pv (i + 1), bk := D.nx } σ2 H2) (hd : ∀ σ H, Pv xs.length σ H → D.nx σ H) :
    ∃ W : Nat → Nat → St → Hp → Prop, (∃ m, W 0 m σ H) ∧ ∀ i m σ H, W i m σ H → ((IteT K a).stop i H ∧ D.nx σ H) ∨ ((IteT K a).go i H ∧ ∃ N : St → Hp → Prop, (∀ σ' H', N σ' H' → ∃ m', m' < m ∧ W (i + 1) m' σ' H') ∧
      ∀ x H', (IteT K a).yld i H x H' → g x σ H' fun σ2 H2 => tb { D with nx := N, ct := N, bk := D.nx } σ2 H2) := by
  refine ⟨fun i m σ H => m = xs.length - i ∧ i ≤ xs.length ∧ Pv i σ H, ⟨xs.length, by simp, Nat.zero_le _, h0⟩, ?_⟩
  rintro i m σ H ⟨rfl, hi, p⟩
  have q := hl i σ H hi p
  by_cases lt : i < xs.length
  · refine .inr ⟨⟨xs, xs[i], q, by simp [lt]⟩, Pv (i + 1), fun σ' H' p' => ⟨xs.length - (i + 1), by omega, rfl, lt, p'⟩, ?_⟩
    rintro x H' ⟨T, y, rfl, hT, rfl, hy⟩
    exact hs i y T σ H (hy xs q) p hT
  · have e : i = xs.length := by omega
    exact .inl ⟨⟨xs, q, e.symm⟩, hd σ H (e ▸ p)⟩
/-! ### the text's own methods by signs -/
section
variable {X : Cx} {CX : CXT} {k n : Nat} {C f : Addr} {fd : FuncData} {ps : List Str} {sp : Sp} {E : XK}
/-- a def called somewhere below the running body -/
theorem tk_run {A : Around} {pins : List (Addr × Obj)} {σ : St} {H : Hp} {s : Shared} {Q : VK} {us : List Value} {vs : List V} (sb : Sub X k A) (F : FnOk X.prog X.w X.K X.mg X.base CX k f fd ps sp) (hb : Binds X.K fd ps []) (hx : Passes CX X E)
    (I : Inv X pins σ H s) (r : Vals vs us) (h : sp vs H Q E) : wpAny (model X.prog X.w) A (call (.ref f) us) (EP X pins σ Q) X.xe s := by
  have e := I.env0
  have e0 : Env0 X.prog X.w X.K X.mg X.base A X.stack s H := ⟨by rw [sb.fr]; exact e.frames, e.mod, e.bs, e.bsz, e.funs, e.frf, e.hok, e.bare⟩
  have hl : us.length = ps.length := r.length.symm.trans (F.len _ _ _ _ h)
  have bd := hb s us I.kIn (by simpa using hl)
  refine wpAny_call (codeAny_mono (F.run A X.stack s H ⟨us, []⟩ us vs Q E sb.room e0 (by simpa using bd) r h) fun res s' hq => ?_)
  match res, hq with
  | .error e, hq => exact hx pins σ H s e s' I hq
  | .ok (.ret u), hq => exact I.after hq
/-- what stands in the class C as the method m -/
structure OwnM (K : PySem.W.Frag) (C : Addr) (m : Str) (f : Addr) : Prop where
  at_ : PySem.W.findIn K (.ref C) m = some (some (.ref f))
  fn : PySem.W.isFn K (.ref f) = true
theorem ownInst {pins : List (Addr × Obj)} {σ : St} {H : Hp} {s : Shared} {a dx : Addr} {fs : List (Str × V)} (I : Inv X pins σ H s) (ha : H a = some (.ins C dx fs)) : ∃ ox od, PySem.W.InstAt s.heap a ox C od := by
  obtain ⟨mA, J, _⟩ := ins_get I.hok ha
  obtain ⟨od, J, _⟩ := J.look
  exact ⟨_, _, J⟩
def rOwn2 (C : Addr) (sp : Sp) (E : XK) : R2 := fun x y H Q => ∃ a dx fs, x = .ref a ∧ H a = some (.ins C dx fs) ∧ sp [.ref a, y] H Q E
/-- o[i] by the class's own __getitem__ -/
theorem ix_own {value slice : Expr} (M : OwnM X.K C "__getitem__" f) (hf : PySem.W.fnIn X.K f = true) (F : FnOk X.prog X.w X.K X.mg X.base CX k f fd ps sp) (hr : Room (k + 1) X.A) (hb : Binds X.K fd ps []) (hx : Passes CX X E)
    {a b : Expr} {ta tb : TE} {pos : Pos} (ha : PE X a ta) (hb2 : PE X b tb) (hs : ∀ o i, subscripted b true o i = runValue (.builtin "lifetime.subscript" ⟨[o, i], []⟩)) : PE X (.Subscript a b pos) (tOp (rOwn2 C sp E) ta tb) := by
  refine ⟨fun pins s σ H Q I h => ?_⟩
  refine Subscript_ (binT ha hb2 I h fun v u s2 x y H2 I2 rx ry q => ?_)
  obtain ⟨p, dx, fs, rfl, hp, q⟩ := q
  obtain rfl : v = Value.ref p := rx
  obtain ⟨ox, od, J⟩ := ownInst I2 hp
  obtain ⟨m, hF⟩ := I2.fr
  refine PySem.W.sub_K hF I2.ok.mod.kin J M.at_ hf M.fn ?_ (hs _ _)
  exact tk_run ⟨hr.in1, rfl⟩ F hb hx I2 (.cons (show RelV (.ref p) (.ref p) from rfl) (.cons ry .nil)) q
def rOwnIn (C : Addr) (sp : Sp) (E : XK) (neg : Bool) : R2 := fun y x H Q => ∃ a dx fs, x = .ref a ∧ H a = some (.ins C dx fs) ∧ sp [.ref a, y] H (fun v H' => ∃ c, v = .bl c ∧ Q (.bl (if neg then !c else c)) H') E
/-- y in o by the class's own __contains__ -/
theorem op_inOwn (M : OwnM X.K C "__contains__" f) (F : FnOk X.prog X.w X.K X.mg X.base CX k f fd ps sp) (hr : Room k X.A) (hb : Binds X.K fd ps []) (hx : Passes CX X E) : OpR X (compareOp .In) (rOwnIn C sp E false) := by
  intro pins s σ H y x u v Q I ry rx h
  obtain ⟨p, dx, fs, rfl, hp, q⟩ := h
  obtain rfl : v = Value.ref p := rx
  obtain ⟨ox, od, J⟩ := ownInst I hp
  obtain ⟨m, hF⟩ := I.fr
  refine PySem.W.in_K hF I.ok.mod.kin J M.at_ M.fn (thn (tk_run ⟨hr, rfl⟩ F hb hx I (.cons (show RelV (.ref p) (.ref p) from rfl) (.cons ry .nil)) q) fun r s' hq => ?_)
  obtain ⟨z, H', I', rz, c, rfl, q'⟩ := hq
  cases rz
  exact wpAny_truthy_bool ⟨.bl c, H', I', rfl, q'⟩
theorem op_notInOwn (M : OwnM X.K C "__contains__" f) (F : FnOk X.prog X.w X.K X.mg X.base CX k f fd ps sp) (hr : Room k X.A) (hb : Binds X.K fd ps []) (hx : Passes CX X E) : OpR X (compareOp .NotIn) (rOwnIn C sp E true) := by
  intro pins s σ H y x u v Q I ry rx h
  obtain ⟨p, dx, fs, rfl, hp, q⟩ := h
  obtain rfl : v = Value.ref p := rx
  obtain ⟨ox, od, J⟩ := ownInst I hp
  obtain ⟨m, hF⟩ := I.fr
  refine PySem.W.notIn_K hF I.ok.mod.kin J M.at_ M.fn (thn (tk_run ⟨hr, rfl⟩ F hb hx I (.cons (show RelV (.ref p) (.ref p) from rfl) (.cons ry .nil)) q) fun r s' hq => ?_)
  obtain ⟨z, H', I', rz, c, rfl, q'⟩ := hq
  cases rz
  exact wpAny_truthy_bool ⟨.bl (!c), H', I', rfl, q'⟩
/-- len(o) by the class's own __len__ -/
theorem call_lenOwn (M : OwnM X.K C "__len__" f) (F : FnOk X.prog X.w X.K X.mg X.base CX k f fd ps sp) (hr : Room (k + 1) X.A) (hb : Binds X.K fd ps []) (hx : Passes CX X E) :
    CallR X (.builtin "len") (fun xs H Q => ∃ a dx fs, xs = [.ref a] ∧ H a = some (.ins C dx fs) ∧ sp [.ref a] H (fun v H' => ∃ i : Int, v = .int i ∧ 0 ≤ i ∧ i < 2 ^ 63 ∧ Q v H') E) := by
  intro pins s σ H xs us Q I r h
  obtain ⟨p, dx, fs, rfl, hp, q⟩ := h
  obtain ⟨u, rfl, rx⟩ := vals1 r
  obtain rfl : u = Value.ref p := rx
  obtain ⟨ox, od, J⟩ := ownInst I hp
  obtain ⟨m, hF⟩ := I.fr
  refine PySem.W.len_K hF I.ok.mod.kin J M.at_ M.fn (thn (tk_run ⟨hr.in1, rfl⟩ F hb hx I (.cons (show RelV (.ref p) (.ref p) from rfl) .nil) q) fun r s' hq => ?_)
  obtain ⟨z, H', I', rz, i, rfl, i0, i1, q'⟩ := hq
  obtain ⟨t, rfl⟩ := rz
  refine ⟨⟨i0, i1⟩, ⟨.int i, H', I'.tok _, ⟨_, rfl⟩, q'⟩⟩
end
/-! ### .get of a written dict -/
def KG (K : PySem.W.Frag) (w : World) (a : Addr) (x : Str) (v : V) : Prop := KDct K w a x v ∧ (a == sysModules) = false
def tKGet (K : PySem.W.Frag) (w : World) (td ty : TE) : TE := fun σ H Q => td σ H fun x H1 => ty σ H1 fun y H2 => ∃ a z v, x = .ref a ∧ y = .str z ∧ KG K w a z v ∧ Q v H2
theorem pe_kget {X : Cx} {o e : Expr} {td ty : TE} {apos cpos : Pos} (ho : PE X o td) (he : PE X e ty) (hd : ∀ σ H Q, td σ H Q → td σ H fun x H1 => (∃ a oc es n, x = V.ref a ∧ X.K.lookup a = some oc ∧ oc = ⟨.type "dict", none, .dict es n, #[]⟩) ∧ Q x H1) (m : M1 X o "get" apos e cpos) :
    PE X (.Call (.Attribute o "get" apos) [e] [] cpos) (tKGet X.K X.w td ty) := by
  refine ⟨fun pins s σ H Q I h => ?_⟩
  refine wpAny_Call_method m.base m.few m.line PySem.F.plainAttrs_dict PySem.F.slot_dict_get PySem.F.type_dict_get (thn (ho.run pins s σ H _ I (hd _ _ _ h)) fun u s1 q0 => ?_)
  obtain ⟨x, H1, I1, rx, ⟨a, oc, es, n, rfl, lk, rfl⟩, q1⟩ := q0
  obtain rfl : u = Value.ref a := rx
  have ga := I1.kIn _ _ lk
  refine ⟨⟨_, ga, rfl⟩, fun b q => by cases q; exact ⟨_, ga, rfl⟩, ?_⟩
  rw [m.trees]
  refine Calls.callWith_builtin rfl (Calls.evalArgs_plain (Calls.spliced_cons (thn (he.run pins s1 σ H1 _ I1 q1) fun iv s2 q2 => Calls.spliced_nil ?_)))
  obtain ⟨y, H2, I2, ry, a', z, v, ea, rfl, ⟨⟨es', n', u0, hl, hk, e1, ru⟩, hs⟩, q2⟩ := q2
  cases ea
  obtain ⟨t, rfl⟩ := ry
  have mo := PySem.W.mapOf_K (prog := X.prog) (w := X.w) I2.kIn hl hk
  refine call_meetsIn PySem.F.slot_dict_get mo.typeIs PySem.F.entry_dict_get (PySem.F.args_dict_get_2 _ _) (meets_dict_get (strKind X.prog X.w) a (strKind_is X.prog X.w z t) hs) ⟨_, mo, ?_⟩
  rw [PySem.W.find_K hl e1]
  exact ⟨v, H2, I2.tok _, ru, q2⟩
end L2
set_option maxRecDepth 100000
/-! What is walked; loops; comprehensions. -/
namespace L2
open PySem PySem.Spec PyProof.Rows
/-- a list or a tuple is walked -/
def iSeq (K : PySem.W.Frag) (tl : TE) : TI := fun σ H R => tl σ H fun x H1 => (∃ a, x = .ref a ∧ (∃ xs, SqL K H1 a xs) ∧ R (Itl K a) H1) ∨ ∃ a, x = .ref a ∧ (∃ xs, SqT K H1 a xs) ∧ R (Itt K a) H1
theorem pi_seq {X : Cx} {tg l : Expr} {tl : TE} (hl : PE X l tl) : PI X tg l (iSeq X.K tl) := by
  refine ⟨fun pins s σ H R I h => ?_⟩
  refine thn (hl.run pins s σ H _ I h) fun v s1 ⟨x, H1, I1, r1, q1⟩ => ?_
  rcases q1 with ⟨a, e, ⟨xs, hq⟩, q⟩ | ⟨a, e, ⟨xs, hq⟩, q⟩
  · subst e
    cases r1
    obtain ⟨its, rv, p, hz⟩ := I1.list hq
    refine wpAny_pyIter_list p.isList ?_
    refine ⟨s1.heap.objs.size, [s1.heap.objs.size], _, _, H1, rfl, I1.kept (t' := s1.toks) fun b o e => Heap.get?_push_of_some _ e, turn_list a _, ⟨_, Heap.get?_push_size _ rfl, rfl, rfl⟩, fun b hb => ?_, q⟩
    have e : b = s1.heap.objs.size := by simpa using hb
    subst e
    exact I1.fpOk (Nat.le_refl _) (I1.hok.fresh (Nat.le_refl _))
  · subst e
    cases r1
    obtain ⟨its, rv, p, hz⟩ := I1.tuple hq
    refine wpAny_pyIter_tuple (show s1.heap.IsTuple a its.toArray from p) ?_
    refine ⟨s1.heap.objs.size, [s1.heap.objs.size], _, _, H1, rfl, I1.kept (t' := s1.toks) fun b o e => Heap.get?_push_of_some _ e, turn_tuple a _, ⟨_, Heap.get?_push_size _ rfl, rfl, rfl⟩, fun b hb => ?_, q⟩
    have e : b = s1.heap.objs.size := by simpa using hb
    subst e
    exact I1.fpOk (Nat.le_refl _) (I1.hok.fresh (Nat.le_refl _))
def iEnumA (K : PySem.W.Frag) (ta : TA) : TI := fun σ H R => ta σ H fun vs H1 => ∃ a xs, vs = [.ref a] ∧ ((SqL K H1 a xs ∧ R (Ite K a) H1) ∨ (SqT K H1 a xs ∧ R (IteT K a) H1))
theorem pi_enumA {X : Cx} {e : Expr} {ta : TA} {p pos tpos : Pos} {elts : List Expr} {kk : Nat} (hg : Gl X "enumerate") (hm : X.mg "enumerate" = none) (ha : PA X [e] ta) (hs : starEach [e] X.env = [(false, eval e X.env)] := by rfl) :
    PI X (.Tuple elts kk tpos) (.Call (.Name "enumerate" p) [e] [] pos) (iEnumA X.K ta) := by
  refine ⟨fun pins s σ H R I h => ?_⟩
  refine Call_ (ld_blt I hg hm boot_enumerate (PyProof.Rows.callWith_type1 (thn (ha.run pos pins s σ H _ I h) fun us s1 ⟨vs, H1, I1, r1, q1⟩ => ?_) hs rfl))
  obtain ⟨a, xs, ex, q1⟩ := q1
  subst ex
  cases r1 with
  | cons r rr =>
    cases rr
    cases r
    rcases q1 with ⟨hq, q⟩ | ⟨hq, q⟩
    · obtain ⟨its, rv, p', hz⟩ := I1.list hq
      refine call_enumerate_list p'.isList fun h' he hit hsz hk => wpAny_pyIter_enum he ?_
      have I2 : Inv X pins σ H1 { s1 with heap := h' } := I1.kept (t' := s1.toks) hk
      refine ⟨s1.heap.objs.size + 1, [s1.heap.objs.size + 1, s1.heap.objs.size], _, _, H1, rfl, I2, turn_enum a (s1.heap.objs.size + 1) s1.heap.objs.size, ⟨⟨.none, he⟩, hit, Nat.succ_ne_self _⟩, fun b hb => ?_, q⟩
      have e' : b = s1.heap.objs.size + 1 ∨ b = s1.heap.objs.size := by simpa using hb
      have hle : s1.heap.objs.size ≤ b := by
        rcases e' with z | z
        · rw [z]; exact Nat.le_add_right _ _
        · rw [z]; exact Nat.le_refl _
      exact I1.fpOk hle (I1.hok.fresh hle)
    · obtain ⟨its, rv, p', hz⟩ := I1.tuple hq
      have la : a < s1.heap.objs.size := by obtain ⟨_, z, _⟩ := p'; exact Heap.lt_size z
      refine tk_enum (begins_tuple a its.toArray) p' fun h' he hit hk => wpAny_pyIter_enum he ?_
      have I2 : Inv X pins σ H1 { s1 with heap := h' } := I1.kept (t' := s1.toks) hk
      refine ⟨s1.heap.objs.size + 1, [s1.heap.objs.size + 1, s1.heap.objs.size], _, _, H1, rfl, I2, tk_turn a (s1.heap.objs.size + 1) s1.heap.objs.size (Nat.ne_of_lt la) (Nat.ne_of_gt (Nat.lt_succ_of_lt la)) (Nat.succ_ne_self _), ⟨⟨.none, he⟩, ⟨_, hit, rfl, rfl⟩⟩, fun b hb => ?_, q⟩
      have two : b = s1.heap.objs.size + 1 ∨ b = s1.heap.objs.size := by simpa using hb
      have le : s1.heap.objs.size ≤ b := two.elim (fun z => z ▸ Nat.le_succ _) (fun z => z ▸ Nat.le_refl _)
      exact I1.fpOk le (I1.hok.fresh le)
end L2
namespace Mm
open PySem L2
abbrev Its := List D × Option (Nat × List D)
abbrev IM := Env → Sto → R Its
/-- a list in the store that is walked is as it was -/
def Stay (S : Sto) (it : Its) : Prop := ∀ k es, it.2 = some (k, es) → S[k]? = some (.lst es)
@[simp] theorem stay_none (S : Sto) (ds : List D) : Stay S (ds, none) := fun k es h => by cases h
theorem stay_some {S : Sto} {ds es : List D} {k : Nat} (h : S[k]? = some (.lst es)) : Stay S (ds, some (k, es)) := fun j fs e => by cases e; exact h
section
variable (w : Wn)
def Wk (c : Cn) (H : Hp) (n : Nat) (it : Its) (J : It) : Prop := ∀ c1 H1 S, ExtA c H n c1 H1 S.length → Rep w c1 H1 S → Stay S it → ∀ i,
  (∀ d, it.1[i]? = some d → J.go i H1 ∧ ∀ x H2, J.yld i H1 x H2 → Ext c1 H1 S.length c1 H2 S.length ∧ Rep w c1 H2 S ∧ At w c1 H2 S.length d x) ∧ (i = it.1.length → J.stop i H1)
end
def mI (w : Wn) (W : WX) (m : IM) : TI := fun σ H R => mG w W (Wk w) m σ H R
abbrev CI (Γ : Cls') (X : Cx) (W : WX) (tg iter : Expr) (m : IM) : Prop := PI X tg iter (mI ⟨X.K, Γ⟩ W m)
theorem PI.weak {X : Cx} {tg e : Expr} {t t' : TI} (h : PI X tg e t) (i : ∀ σ H Q, t' σ H Q → t σ H Q) : PI X tg e t' := ⟨fun pins s σ H Q I q => h.run pins s σ H Q I (i σ H Q q)⟩
section
variable {w : Wn} {W : WX} {σ : St} {c c' : Cn} {H H' : Hp} {n n' : Nat} {S : Sto} {env : Env}
variable {Γ : Cls'} {X : Cx} {a b e tg : Expr} {ma mb : EM} {pos : Pos} {Dn : Ends}
/-- the items of a value, and where they stand if they stand in the store -/
def itsOf (S : Sto) (d : D) : Option Its := match d with
  | .tup ds => some (ds, none)
  | .lst ds => some (ds, none)
  | .fz ns => some (ns.map .int, none)
  | .loc k => match S[k]? with
    | some (.lst ds) => some (ds, some (k, ds))
    | _ => none
  | _ => none
@[simp] theorem itsOf_tup (S : Sto) (ds : List D) : itsOf S (.tup ds) = some (ds, none) := rfl
@[simp] theorem itsOf_lst (S : Sto) (ds : List D) : itsOf S (.lst ds) = some (ds, none) := rfl
theorem itsOf_loc {S : Sto} {k : Nat} {ds : List D} (h : S[k]? = some (.lst ds)) : itsOf S (.loc k) = some (ds, some (k, ds)) := by
  unfold itsOf; simp only [h]
theorem lst_inj {H : Hp} {K : PySem.W.Frag} {p : Addr} {vs us : List V} (h : H p = some (.lst vs)) (g : Rd H p (.lst us)) : us = vs := by
  rcases g with g | ⟨o, g⟩
  · rw [h] at g; cases g; rfl
  · rw [h] at g; cases g
/-- what a value's items are at any later time -/
def Later (w : Wn) (c : Cn) (H : Hp) (n : Nat) (it : Its) (P : Hp → List V → Prop) : Prop := ∀ c1 H1 S1, ExtA c H n c1 H1 S1.length → Rep w c1 H1 S1 → Stay S1 it → ∃ vs, P H1 vs ∧ Ats w c1 H1 S1.length it.1 vs
theorem its_at {d : D} {v : V} {it : Its} (r : Rep w c H S) (at_ : At w c H S.length d v) (h : itsOf S d = some it) :
    Stay S it ∧ ∃ p, v = .ref p ∧ (Later w c H S.length it (fun H vs => SqL w.K H p vs) ∨ Later w c H S.length it (fun H vs => SqT w.K H p vs)) := by
  cases d with
  | tup ds =>
    cases h
    obtain ⟨p, vs, rfl, g, t⟩ := at_.tup
    exact ⟨stay_none _ _, p, rfl, .inr fun c1 H1 S1 e _ _ => ⟨vs, e.sqT g, Ats.monoA e _ _ t⟩⟩
  | lst ds =>
    cases h
    unfold At at at_
    obtain ⟨p, vs, rfl, f, g, t⟩ := at_
    exact ⟨stay_none _ _, p, rfl, .inl fun c1 H1 S1 e _ _ => ⟨vs, SqL.of (e.keepF _ _ f g), Ats.monoA e _ _ t⟩⟩
  | fz ns =>
    cases h
    unfold At at at_
    obtain ⟨p, rfl, g⟩ := at_
    exact ⟨stay_none _ _, p, rfl, .inl fun c1 H1 S1 e _ _ => ⟨_, (e.fzL g).sq, ats_ints ns⟩⟩
  | loc k =>
    unfold itsOf at h
    cases hk : S[k]? with
    | none => simp only [hk] at h; cases h
    | some o =>
      cases o with
      | lst ds =>
        simp only [hk] at h
        cases h
        unfold At at at_
        refine ⟨stay_some hk, c.ρ k, at_.2, .inl fun c1 H1 S1 e r1 st => ?_⟩
        obtain ⟨vs1, g1, t1⟩ := r1.get (st k _ rfl)
        rw [e.rho k at_.1] at g1
        exact ⟨vs1, SqL.of g1, t1⟩
      | _ => simp only [hk] at h; cases h
  | _ => cases h
theorem later_lst {ds : List D} {v : V} (at_ : At w c H n (.lst ds) v) : ∃ p, v = .ref p ∧ Later w c H n (ds, none) (fun H vs => SqL w.K H p vs) := by
  unfold At at at_
  obtain ⟨p, vs, rfl, f, g, t⟩ := at_
  exact ⟨p, rfl, fun c1 H1 S1 e _ _ => ⟨vs, SqL.of (e.keepF _ _ f g), Ats.monoA e _ _ t⟩⟩
theorem later_tup {ds : List D} {v : V} (at_ : At w c H n (.tup ds) v) : ∃ p, v = .ref p ∧ Later w c H n (ds, none) (fun H vs => SqT w.K H p vs) := by
  obtain ⟨p, vs, rfl, g, t⟩ := at_.tup
  exact ⟨p, rfl, fun c1 H1 S1 e _ _ => ⟨vs, e.sqT g, Ats.monoA e _ _ t⟩⟩
theorem Later.wkL {it : Its} {p : Addr} (l : Later w c H n it (fun H vs => SqL w.K H p vs)) : Wk w c H n it (Itl w.K p) := by
  intro c1 H1 S e r st i
  obtain ⟨vs, g, t⟩ := l c1 H1 S e r st
  refine ⟨fun d hd => ?_, fun hi => ⟨vs, g, by rw [t.len, hi]; exact Nat.le_refl _⟩⟩
  obtain ⟨v, hv, a⟩ := t.get hd
  exact ⟨⟨vs, v, g, hv⟩, fun x H2 ⟨e2, q⟩ => by
    have := q vs g
    rw [hv] at this; cases this
    rw [e2]
    exact ⟨Ext.refl, r, a⟩⟩
theorem Later.wkT {it : Its} {p : Addr} (l : Later w c H n it (fun H vs => SqT w.K H p vs)) : Wk w c H n it (Itt w.K p) := by
  intro c1 H1 S e r st i
  obtain ⟨vs, g, t⟩ := l c1 H1 S e r st
  refine ⟨fun d hd => ?_, fun hi => ⟨vs, g, by rw [t.len, hi]; exact Nat.le_refl _⟩⟩
  obtain ⟨v, hv, a⟩ := t.get hd
  exact ⟨⟨vs, v, g, hv⟩, fun x H2 ⟨e2, q⟩ => by
    have := q vs g
    rw [hv] at this; cases this
    rw [e2]
    exact ⟨Ext.refl, r, a⟩⟩
/-- numbered -/
def numD (k : Nat) : List D → List D
  | [] => []
  | d :: r => .tup [.int k, d] :: numD (k + 1) r
theorem numD_len : ∀ (k : Nat) (ds : List D), (numD k ds).length = ds.length
  | k, [] => rfl
  | k, d :: r => by unfold numD; rw [List.length_cons, List.length_cons, numD_len]
theorem numD_get : ∀ (k : Nat) (ds : List D) (i : Nat), (numD k ds)[i]? = (ds[i]?).map fun d => .tup [.int ((k + i : Nat) : Int), d]
  | k, [], i => by simp [numD]
  | k, d :: r, 0 => by unfold numD; rfl
  | k, d :: r, i + 1 => by
    unfold numD
    rw [List.getElem?_cons_succ, List.getElem?_cons_succ, numD_get, Nat.add_assoc, Nat.add_comm 1 i]
theorem tup_new {p : Addr} {ds : List D} {vs : List V} (r : Rep w c H S) (hp : H p = none) (t : Ats w c H S.length ds vs) : Ext c H S.length c (upd H p (.tup vs)) S.length ∧ Rep w c (upd H p (.tup vs)) S ∧ At w c (upd H p (.tup vs)) S.length (.tup ds) (.ref p) := by
  refine ⟨Ext.grow hp, r.grow hp, ?_⟩
  unfold At
  exact ⟨p, vs, rfl, SqT.of upd_same, t.mono (Ext.grow hp)⟩
theorem Later.wkE {it : Its} {p : Addr} (l : Later w c H n it (fun H vs => SqL w.K H p vs)) : Wk w c H n (numD 0 it.1, it.2) (Ite w.K p) := by
  intro c1 H1 S e r st i
  obtain ⟨vs, g, t⟩ := l c1 H1 S e r st
  refine ⟨fun d hd => ?_, fun hi => ⟨vs, g, by rw [t.len]; rw [numD_len] at hi; rw [hi]; exact Nat.le_refl _⟩⟩
  change (numD 0 it.1)[i]? = some d at hd
  rw [numD_get] at hd
  cases hi : it.1[i]? with
  | none => rw [hi] at hd; cases hd
  | some d' =>
    rw [hi] at hd
    cases hd
    obtain ⟨v, hv, a⟩ := t.get hi
    refine ⟨⟨vs, v, g, hv⟩, ?_⟩
    rintro x H2 ⟨T, y, rfl, hT, rfl, q⟩
    have := q vs g
    rw [hv] at this; cases this
    rw [Nat.zero_add]
    exact tup_new r hT (.cons (.i _) (.one a))
theorem Later.wkET {it : Its} {p : Addr} (l : Later w c H n it (fun H vs => SqT w.K H p vs)) : Wk w c H n (numD 0 it.1, it.2) (IteT w.K p) := by
  intro c1 H1 S e r st i
  obtain ⟨vs, g, t⟩ := l c1 H1 S e r st
  refine ⟨fun d hd => ?_, fun hi => ⟨vs, g, by rw [t.len]; rw [numD_len] at hi; exact hi.symm⟩⟩
  change (numD 0 it.1)[i]? = some d at hd
  rw [numD_get] at hd
  cases hi : it.1[i]? with
  | none => rw [hi] at hd; cases hd
  | some d' =>
    rw [hi] at hd
    cases hd
    obtain ⟨v, hv, a⟩ := t.get hi
    refine ⟨⟨vs, v, g, hv⟩, ?_⟩
    rintro x H2 ⟨T, y, rfl, hT, rfl, q⟩
    have := q vs g
    rw [hv] at this; cases this
    rw [Nat.zero_add]
    exact tup_new r hT (.cons (.i _) (.one a))
/-- two lists side by side -/
def zipD : List D → List D → List D
  | x :: r, y :: s => .tup [x, y] :: zipD r s
  | _, _ => []
theorem zipD_get : ∀ (xs ys : List D) (i : Nat) (d : D), (zipD xs ys)[i]? = some d → ∃ x y, xs[i]? = some x ∧ ys[i]? = some y ∧ d = .tup [x, y]
  | x :: r, y :: s, 0, d, h => by unfold zipD at h; cases h; exact ⟨x, y, rfl, rfl, rfl⟩
  | x :: r, y :: s, i + 1, d, h => by
    unfold zipD at h
    rw [List.getElem?_cons_succ] at h
    obtain ⟨a, b, h1, h2, h3⟩ := zipD_get r s i d h
    exact ⟨a, b, by rw [List.getElem?_cons_succ]; exact h1, by rw [List.getElem?_cons_succ]; exact h2, h3⟩
  | [], ys, i, d, h => by unfold zipD at h; simp at h
  | x :: r, [], i, d, h => by unfold zipD at h; simp at h
theorem zipD_len : ∀ (xs ys : List D), (zipD xs ys).length = min xs.length ys.length
  | x :: r, y :: s => by
    unfold zipD
    rw [List.length_cons, List.length_cons, List.length_cons, zipD_len, Nat.succ_min_succ]
  | [], ys => by unfold zipD; simp
  | x :: r, [] => by unfold zipD; simp
theorem Later.wkZ {xs ys : List D} {p q : Addr} (l : Later w c H n (xs, none) (fun H vs => SqL w.K H p vs)) (m : Later w c H n (ys, none) (fun H vs => SqL w.K H q vs)) : Wk w c H n (zipD xs ys, none) (Itz w.K p q) := by
  intro c1 H1 S e r st i
  obtain ⟨vs, g, t⟩ := l c1 H1 S e r (stay_none _ _)
  obtain ⟨us, g2, t2⟩ := m c1 H1 S e r (stay_none _ _)
  refine ⟨fun d hd => ?_, fun hi => ⟨vs, us, g, g2, by
    rw [t.len, t2.len]
    change i = (zipD xs ys).length at hi
    rw [zipD_len] at hi
    show xs.length ≤ i ∨ ys.length ≤ i
    omega⟩⟩
  obtain ⟨x, y, hx, hy, rfl⟩ := zipD_get _ _ _ _ hd
  obtain ⟨v, hv, a⟩ := t.get hx
  obtain ⟨u, hu, b⟩ := t2.get hy
  refine ⟨⟨vs, us, v, u, g, g2, hv, hu⟩, ?_⟩
  rintro z H2 ⟨T, x1, y1, rfl, hT, rfl, q1, q2⟩
  have e1 := q1 vs g
  rw [hv] at e1; cases e1
  have e2 := q2 us g2
  rw [hu] at e2; cases e2
  exact tup_new r hT (.cons a (.one b))
theorem Later.wkZT {xs ys : List D} {p q : Addr} (l : Later w c H n (xs, none) (fun H vs => SqT w.K H p vs)) (m : Later w c H n (ys, none) (fun H vs => SqT w.K H q vs)) : Wk w c H n (zipD xs ys, none) (RZ.ItzT w.K p q) := by
  intro c1 H1 S e r st i
  obtain ⟨vs, g, t⟩ := l c1 H1 S e r (stay_none _ _)
  obtain ⟨us, g2, t2⟩ := m c1 H1 S e r (stay_none _ _)
  refine ⟨fun d hd => ?_, fun hi => ⟨vs, us, g, g2, by
    rw [t.len, t2.len]
    change i = (zipD xs ys).length at hi
    rw [zipD_len] at hi
    show xs.length ≤ i ∨ ys.length ≤ i
    omega⟩⟩
  obtain ⟨x, y, hx, hy, rfl⟩ := zipD_get _ _ _ _ hd
  obtain ⟨v, hv, a⟩ := t.get hx
  obtain ⟨u, hu, b⟩ := t2.get hy
  refine ⟨⟨vs, us, v, u, g, g2, hv, hu⟩, ?_⟩
  rintro z H2 ⟨T, x1, y1, rfl, hT, rfl, q1, q2⟩
  have e1 := q1 vs g
  rw [hv] at e1; cases e1
  have e2 := q2 us g2
  rw [hu] at e2; cases e2
  exact tup_new r hT (.cons a (.one b))
/-- lo, lo + 1, .. -/
def rngD (lo : Int) : Nat → List D
  | 0 => []
  | k + 1 => .int lo :: rngD (lo + 1) k
theorem rngD_len : ∀ (lo : Int) (k : Nat), (rngD lo k).length = k
  | lo, 0 => rfl
  | lo, k + 1 => by unfold rngD; rw [List.length_cons, rngD_len]
theorem rngD_get : ∀ (lo : Int) (k i : Nat) (d : D), (rngD lo k)[i]? = some d → i < k ∧ d = .int (lo + i)
  | lo, 0, i, d, h => by unfold rngD at h; simp at h
  | lo, k + 1, 0, d, h => by unfold rngD at h; cases h; exact ⟨Nat.succ_pos _, by simp⟩
  | lo, k + 1, i + 1, d, h => by
    unfold rngD at h
    rw [List.getElem?_cons_succ] at h
    obtain ⟨h1, h2⟩ := rngD_get _ _ _ _ h
    exact ⟨Nat.succ_lt_succ h1, by rw [h2]; congr 1; omega⟩
theorem wkR {lo : Int} {k : Nat} : Wk w c H n (rngD lo k, none) (Itr lo k) := by
  intro c1 H1 S e r st i
  refine ⟨fun d hd => ?_, fun hi => ?_⟩
  · obtain ⟨h1, rfl⟩ := rngD_get _ _ _ _ hd
    refine ⟨h1, ?_⟩
    rintro x H2 ⟨rfl, rfl⟩
    exact ⟨Ext.refl, r, .i _⟩
  · change i = (rngD lo k).length at hi
    rw [rngD_len] at hi
    exact Nat.le_of_eq hi.symm
/-! ## what is walked -/
def i_seq (m : EM) : IM := fun env S => (m env S).bind fun d S1 => .ofO (itsOf S1 d) S1
def i_rng1 (m : EM) : IM := fun env S => (m env S).bind fun d S1 => match d with
  | .int j => .if (-(2 ^ 62) ≤ j ∧ j < 2 ^ 62) (.ok (rngD 0 j.toNat, none) S1)
  | _ => .bad
def i_rng2 (m m2 : EM) : IM := fun env S => (m env S).bind fun d S1 => (m2 env S1).bind fun e S2 => match d, e with
  | .int i, .int j => .if (-(2 ^ 62) ≤ i ∧ i < 2 ^ 62 ∧ -(2 ^ 62) ≤ j ∧ j < 2 ^ 62) (.ok (rngD i (j - i).toNat, none) S2)
  | _, _ => .bad
def i_enum (m : EM) : IM := fun env S => (m env S).bind fun d S1 => (R.ofO (itsOf S1 d) S1).bind fun it S2 => .ok (numD 0 it.1, it.2) S2
def zipO : D → D → Option (List D × List D)
  | .lst xs, .lst ys => some (xs, ys)
  | .tup xs, .tup ys => some (xs, ys)
  | _, _ => none
def i_zip (m m2 : EM) : IM := fun env S => (m env S).bind fun d S1 => (m2 env S1).bind fun e S2 => (R.ofO (zipO d e) S2).bind fun p S3 => .ok (zipD p.1 p.2, none) S3
theorem ci_seq (he : CE Γ X W e ma) : CI Γ X W tg e (i_seq ma) := by
  refine PI.weak (pi_seq he) fun σ H R ⟨c, env, S, r, ev, h⟩ => ?_
  refine ⟨c, env, S, r, ev, (Po.bind h).imp fun v H1 ⟨c1, S1, d1, e1, r1, a1, h1⟩ => ?_⟩
  obtain ⟨it, hit, h1⟩ := Po.ofO h1
  obtain ⟨st, p, rfl, l | l⟩ := its_at r1 a1 hit
  · obtain ⟨vs, g, _⟩ := l c1 H1 S1 Ext.refl.A r1 st
    exact .inl ⟨p, rfl, ⟨vs, g⟩, h1 c1 H1 _ Ext.refl r1 l.wkL⟩
  · obtain ⟨vs, g, _⟩ := l c1 H1 S1 Ext.refl.A r1 st
    exact .inr ⟨p, rfl, ⟨vs, g⟩, h1 c1 H1 _ Ext.refl r1 l.wkT⟩
theorem ci_enum {p tpos : Pos} {elts : List Expr} {kk : Nat} (hg : Gl X "enumerate") (hm : X.mg "enumerate" = none) (he : CE Γ X W e ma) (hs : starEach [e] X.env = [(false, eval e X.env)] := by rfl) (hs2 : starEach [e] X.env = (false, eval e X.env) :: starEach [] X.env := by rfl) :
    CI Γ X W (.Tuple elts kk tpos) (.Call (.Name "enumerate" p) [e] [] pos) (i_enum ma) := by
  refine PI.weak (pi_enumA hg hm (pa_cons he pa_nil hs2) hs) fun σ H R ⟨c, env, S, r, ev, h⟩ => ?_
  refine ⟨c, env, S, r, ev, (Po.bind h).imp fun v H1 ⟨c1, S1, d1, e1, r1, a1, h1⟩ => ?_⟩
  show ∃ a xs, [v] = [V.ref a] ∧ _
  cases hit : itsOf S1 d1 with
  | none => rw [hit] at h1; exact h1.elim
  | some it =>
    rw [hit] at h1
    obtain ⟨st, p, rfl, l | l⟩ := its_at r1 a1 hit
    · obtain ⟨vs, g, _⟩ := l c1 H1 S1 Ext.refl.A r1 st
      exact ⟨p, vs, rfl, .inl ⟨g, h1 c1 H1 _ Ext.refl r1 l.wkE⟩⟩
    · obtain ⟨vs, g, _⟩ := l c1 H1 S1 Ext.refl.A r1 st
      exact ⟨p, vs, rfl, .inr ⟨g, h1 c1 H1 _ Ext.refl r1 l.wkET⟩⟩
theorem ci_rng1 {p : Pos} (hg : Gl X "range") (hm : X.mg "range" = none) (he : CE Γ X W e ma) (hs : starEach [e] X.env = [(false, eval e X.env)] := by rfl) (hs2 : starEach [e] X.env = (false, eval e X.env) :: starEach [] X.env := by rfl) : CI Γ X W tg (.Call (.Name "range" p) [e] [] pos) (i_rng1 ma) := by
  refine PI.weak (pi_range1 hg hm (pa_cons he pa_nil hs2) hs) fun σ H R ⟨c, env, S, r, ev, h⟩ => ?_
  refine ⟨c, env, S, r, ev, (Po.bind h).imp fun v H1 ⟨c1, S1, d1, e1, r1, a1, h1⟩ => ?_⟩
  show ∃ j : Int, [v] = [V.int j] ∧ _
  cases d1 with
  | int j =>
    obtain ⟨hb, h1⟩ := Po.if h1
    exact ⟨j, by rw [a1.int], hb.1, hb.2, h1 c1 H1 _ Ext.refl r1 wkR⟩
  | _ => exact h1.elim
theorem ci_rng2 {p : Pos} (hg : Gl X "range") (hm : X.mg "range" = none) (ha : CE Γ X W a ma) (hb : CE Γ X W b mb) (hs : starEach [a, b] X.env = [(false, eval a X.env), (false, eval b X.env)] := by rfl) (hs2 : starEach [b] X.env = [(false, eval b X.env)] := by rfl) (hs3 : starEach [a, b] X.env = (false, eval a X.env) :: starEach [b] X.env := by rfl) (hs4 : starEach [b] X.env = (false, eval b X.env) :: starEach [] X.env := by rfl) : CI Γ X W tg (.Call (.Name "range" p) [a, b] [] pos) (i_rng2 ma mb) := by
  refine PI.weak (pi_range2 hg hm (pa_cons ha (pa_cons hb pa_nil hs4) hs3) hs hs2) fun σ H R ⟨c, env, S, r, ev, h⟩ => ?_
  refine ⟨c, env, S, r, ev, (Po.bind h).imp fun v H1 ⟨c1, S1, d1, e1, r1, a1, h1⟩ => ?_⟩
  refine ⟨c1, env, S1, r1, ev.mono e1, (Po.bind h1).imp fun u H2 ⟨c2, S2, d2, e2, r2, a2, h2⟩ => ?_⟩
  show ∃ i j : Int, [v, u] = [V.int i, V.int j] ∧ _
  cases d1 with
  | int i =>
    cases d2 with
    | int j =>
      obtain ⟨hb, h2⟩ := Po.if h2
      exact ⟨i, j, by rw [a1.int, a2.int], hb, h2 c2 H2 _ Ext.refl r2 wkR⟩
    | _ => exact h2.elim
  | _ => cases d2 <;> exact h2.elim
theorem ci_zip {p tpos : Pos} {elts : List Expr} {kk : Nat} (hg : Gl X "zip") (hm : X.mg "zip" = none) (ha : CE Γ X W a ma) (hb : CE Γ X W b mb)
    (hs : starEach [a, b] X.env = (false, eval a X.env) :: starEach [b] X.env := by rfl) (hpl : (backTo pos (starEach [b] X.env)).any (·.1) = false := by rfl) (hs4 : starEach [b] X.env = (false, eval b X.env) :: starEach [] X.env := by rfl) :
    CI Γ X W (.Tuple elts kk tpos) (.Call (.Name "zip" p) [a, b] [] pos) (i_zip ma mb) := by
  refine PI.weak (RZ.pi_zipA hg hm (pa_cons ha (pa_cons hb pa_nil hs4) hs) hs hpl) fun σ H R ⟨c, env, S, r, ev, h⟩ => ?_
  refine ⟨c, env, S, r, ev, (Po.bind h).imp fun v H1 ⟨c1, S1, d1, e1, r1, a1, h1⟩ => ?_⟩
  refine ⟨c1, env, S1, r1, ev.mono e1, (Po.bind h1).imp fun u H2 ⟨c2, S2, d2, e2, r2, a2, h2⟩ => ?_⟩
  show ∃ a b xs ys, [v, u] = [V.ref a, V.ref b] ∧ _
  have a1 := a1.mono e2
  cases d1 with
  | lst xs =>
    cases d2 with
    | lst ys =>
      obtain ⟨p, rfl, l⟩ := later_lst a1
      obtain ⟨q, rfl, l2⟩ := later_lst a2
      obtain ⟨vs, g, _⟩ := l c2 H2 S2 Ext.refl.A r2 (stay_none _ _)
      obtain ⟨us, g2, _⟩ := l2 c2 H2 S2 Ext.refl.A r2 (stay_none _ _)
      exact ⟨p, q, vs, us, rfl, .inl ⟨g, g2, h2 c2 H2 _ Ext.refl r2 (l.wkZ l2)⟩⟩
    | _ => exact h2.elim
  | tup xs =>
    cases d2 with
    | tup ys =>
      obtain ⟨p, rfl, l⟩ := later_tup a1
      obtain ⟨q, rfl, l2⟩ := later_tup a2
      obtain ⟨vs, g, _⟩ := l c2 H2 S2 Ext.refl.A r2 (stay_none _ _)
      obtain ⟨us, g2, _⟩ := l2 c2 H2 S2 Ext.refl.A r2 (stay_none _ _)
      exact ⟨p, q, vs, us, rfl, .inr ⟨g, g2, h2 c2 H2 _ Ext.refl r2 (l.wkZT l2)⟩⟩
    | _ => exact h2.elim
  | _ => cases d2 <;> exact h2.elim
/-! ## loops -/
open Classical in
noncomputable def loopS (g : GM) (body : SM) (st : Option (Nat × List D)) : List D → SM
  | [], env, S => .if (Stay S ([], st)) (.next env S)
  | d :: r, env, S => .if (Stay S ([], st)) (match g d env with
    | none => .bad
    | some env1 => match body env1 S with
      | .next env2 S2 => loopS g body st r env2 S2
      | .cnt env2 S2 => loopS g body st r env2 S2
      | .brk env2 S2 => .next env2 S2
      | x => x)
noncomputable def s_for (im : IM) (g : GM) (body : SM) : SM := fun env S => (im env S).toS env fun it S1 => loopS g body it.2 it.1 env S1
theorem Stay.of {it : Its} {ds : List D} (h : Stay S it) : Stay S (ds, it.2) := fun k es e => h k es e
open Classical in
theorem c_for {iter : Expr} {body : List Stmt} {im : IM} {g : GM} {m : SM} {sl : List Nat} (hp : PassesOwn (model X.prog X.w) X.A X.env X.xe) (hc : X.calm = true) (hi : CI Γ X W tg iter im) (hg : CG Γ X tg sl g) (hb : CSs Γ X W body m)
    (hs : ∀ x, foldedSetIterable iter X.env x = pure x := by intro _; rfl) : CS Γ X W (.For tg iter body [] pos) (s_for im g m) := by
  refine PS.weak (ps_for hp hc hi hg hb hs) fun Dn σ H ⟨c, env, S, r, ev, h⟩ => ?_
  refine ⟨c, env, S, r, ev, (PoS.part ev h).imp fun J H1 ⟨c1, S1, it, e1, r1, wk, ev1, h1⟩ => ?_⟩
  refine ⟨fun i m' σ' H' => ∃ c2 env2 S2, Ext c1 H1 S1.length c2 H' S2.length ∧ Rep ⟨X.K, Γ⟩ c2 H' S2 ∧ EnvR ⟨X.K, Γ⟩ c2 H' S2.length σ' env2 ∧ m' = it.1.length - i ∧ i ≤ it.1.length ∧ PoS ⟨X.K, Γ⟩ W c2 H' S2.length (loopS g m it.2 (it.1.drop i) env2 S2) Dn,
    ⟨it.1.length, c1, env, S1, Ext.refl, r1, ev1, by simp, Nat.zero_le _, h1⟩, ?_⟩
  rintro i m' σ' H' ⟨c2, env2, S2, e2, r2, ev2, rfl, hi, h2⟩
  by_cases hlt : i < it.1.length
  · right
    have hd : it.1.drop i = it.1[i] :: it.1.drop (i + 1) := List.drop_eq_getElem_cons hlt
    rw [hd] at h2
    unfold loopS at h2
    obtain ⟨st, h2⟩ := PoS.if h2
    obtain ⟨w1, _⟩ := wk c2 H' S2 e2.A r2 (Stay.of (ds := it.1) st) i
    obtain ⟨go, yl⟩ := w1 it.1[i] (List.getElem?_eq_getElem hlt)
    refine ⟨go, fun σ3 H3 => ∃ c3 env3 S3, Ext c1 H1 S1.length c3 H3 S3.length ∧ Rep ⟨X.K, Γ⟩ c3 H3 S3 ∧ EnvR ⟨X.K, Γ⟩ c3 H3 S3.length σ3 env3 ∧ PoS ⟨X.K, Γ⟩ W c3 H3 S3.length (loopS g m it.2 (it.1.drop (i + 1)) env3 S3) Dn,
      fun σ3 H3 ⟨c3, env3, S3, e3, r3, ev3, h3⟩ => ⟨it.1.length - (i + 1), by omega, c3, env3, S3, e3, r3, ev3, rfl, hlt, h3⟩, fun x H3 y => ?_⟩
    obtain ⟨ey, ry, ay⟩ := yl x H3 y
    have h3 := PoS.mono ey h2
    cases hg : g it.1[i] env2 with
    | none => rw [hg] at h3; exact h3.elim
    | some env3 =>
      rw [hg] at h3
      refine ⟨c2, env2, S2, it.1[i], env3, ry, ev2.mono ey, ay, hg, fun σ3 ev3 _ => ⟨c2, env3, S2, ry, ev3, ?_⟩⟩
      change PoS ⟨X.K, Γ⟩ W c2 H3 S2.length (match m env3 S2 with
        | .next env2 S2 => loopS g m it.2 (it.1.drop (i + 1)) env2 S2
        | .cnt env2 S2 => loopS g m it.2 (it.1.drop (i + 1)) env2 S2
        | .brk env2 S2 => .next env2 S2
        | x => x) Dn at h3
      have e23 := e2.trans ey
      cases hm : m env3 S2 with
      | next env4 S4 =>
        rw [hm] at h3
        exact fun c4 H4 σ4 e4 r4 ev4 => ⟨c4, env4, S4, e23.trans e4, r4, ev4, PoS.mono e4 h3⟩
      | cnt env4 S4 =>
        rw [hm] at h3
        exact fun c4 H4 σ4 e4 r4 ev4 => ⟨c4, env4, S4, e23.trans e4, r4, ev4, PoS.mono e4 h3⟩
      | brk env4 S4 => rw [hm] at h3; exact h3
      | ret d S4 => rw [hm] at h3; exact h3
      | ex x env4 S4 => rw [hm] at h3; exact h3
      | bad => rw [hm] at h3; exact h3.elim
  · left
    have e : i = it.1.length := by omega
    subst e
    rw [List.drop_length] at h2
    unfold loopS at h2
    obtain ⟨st, h2⟩ := PoS.if h2
    obtain ⟨_, w2⟩ := wk c2 H' S2 e2.A r2 (Stay.of (ds := it.1) st) it.1.length
    exact ⟨w2 rfl, h2 c2 H' σ' Ext.refl r2 ev2⟩
end
end Mm
set_option maxRecDepth 100000
/-! Defs of the text as functions on plain data; a call's leavings; comprehensions. -/
namespace Mm
open PySem L2
abbrev FM := List D → Sto → R D
/-- what a def promises -/
def spM (K : PySem.W.Frag) (Γ : Cls') (m : FM) : Sp := fun vs H Q E => ∃ c S ds, Rep ⟨K, Γ⟩ c H S ∧ Ats ⟨K, Γ⟩ c H S.length ds vs ∧ PoE ⟨K, Γ⟩ (fun C dd _ H => E C dd H) [] c H S.length (m ds S) Q
def endF (r : RS) : R D := match r with
  | .ret d S => .ok d S
  | .next _ S => .ok .non S
  | .ex x _ S => .ex x S
  | _ => .bad
@[simp] theorem endF_ret (d : D) (S : Sto) : endF (.ret d S) = .ok d S := rfl
@[simp] theorem endF_next (env : Env) (S : Sto) : endF (.next env S) = .ok .non S := rfl
@[simp] theorem endF_ex (x : Exn) (env : Env) (S : Sto) : endF (.ex x env S) = .ex x S := rfl
@[simp] theorem endF_bad : endF .bad = .bad := rfl
/-- a def of np parameters and nl names -/
def runDef (np nl : Nat) (b : SM) : FM := fun ds S => if ds.length = np then endF (b (ds.map some ++ List.replicate (nl - np) none) S) else .bad
section
variable {w : Wn} {W : WX} {σ : St} {c c' : Cn} {H H' : Hp} {n n' : Nat} {S : Sto} {env : Env}
variable {Γ : Cls'} {X : Cx} {a b e tg : Expr} {es : List Expr} {ma mb : EM} {am : AM} {pos : Pos} {Dn : Ends}
theorem Po.wish {α β : Type} {rel : Cn → Hp → Nat → α → β → Prop} {W' : WX} {σ' : St} {r : R α} {Q : β → Hp → Prop} (h : Po w W rel σ c H n r Q) (i : ∀ C dd H, W C dd σ H → W' C dd σ' H) : Po w W' rel σ' c H n r Q := by
  cases r with
  | ok d S => exact h
  | ex x S => exact fun c2 H2 C dd e2 r2 a => i _ _ _ (h c2 H2 C dd e2 r2 a)
  | bad => exact h.elim
theorem envR_start {N : List Str} {ds : List D} {vs : List V} (t : Ats w c H n ds vs) : EnvR w c H n (L2.start N vs) (ds.map some ++ List.replicate (N.length - ds.length) none) := by
  unfold L2.start
  refine ⟨by rw [List.length_append, List.length_append, List.length_map, List.length_map, List.length_replicate, List.length_replicate, t.len], fun i d h => ?_⟩
  by_cases hi : i < ds.length
  · rw [List.getElem?_append_left (by rw [List.length_map]; exact hi), List.getElem?_map] at h
    cases hd : ds[i]? with
    | none => rw [hd] at h; cases h
    | some d' =>
      rw [hd] at h; cases h
      obtain ⟨v, hv, a⟩ := t.get hd
      exact ⟨v, by rw [List.getElem?_append_left (by rw [List.length_map, t.len]; exact hi), List.getElem?_map, hv]; rfl, a⟩
  · rw [List.getElem?_append_right (by rw [List.length_map]; omega)] at h
    have := List.mem_of_getElem? h
    rw [List.mem_replicate] at this
    cases this.2
/-- THE RULE of a def: its body's parts, put together -/
theorem def_ok {P : Program} {wd : World} {K : PySem.W.Frag} {mg : Str → Option Value} {base : Heap} {x qual : Str} {st : Stmt} {f : Addr} {fd : FuncData} {N ps : List Str} {k : Nat} {b : SM} (F : Fun K x qual st f fd) (Sc : FnScope N ps (defScope st))
    (hb : ∀ (cdv : Value) (A : Around) (outer : List PySem.Env) (s : Shared) (H : Hp) (E : XK), Room k (A.deeper (PyProof.Rows.envOfC qual (defScope st) s.heap.objs.size f cdv)) → CSs Γ (cxOf (L2.CX P wd) P wd K mg base N qual (defScope st) f cdv A outer s H E) (fun C dd _ H => E C dd H) (defBody st) b) :
    FnOk P wd K mg base (L2.CX P wd) (k + 1) f fd ps (spM K Γ (runDef ps.length N.length b)) := by
  refine F.okX Sc (fun vs H Q E ⟨c, S, ds, r, t, h⟩ => ?_) (fun cdv A outer s H vs Q E hr ⟨c, S, ds, r, t, h⟩ => ⟨_, hb cdv A outer s H E hr, ?_⟩)
  · unfold runDef at h
    by_cases hl : ds.length = ps.length
    · rw [t.len]; exact hl
    · rw [if_neg hl] at h; exact h.elim
  · unfold runDef at h
    by_cases hl : ds.length = ps.length
    · rw [if_pos hl, ← hl] at h
      refine ⟨c, _, S, r, envR_start t, ?_⟩
      cases hx : b (ds.map some ++ List.replicate (N.length - ds.length) none) S with
      | next env' S' => rw [hx] at h; exact fun c2 H2 s2 e2 r2 a2 => h c2 H2 .non e2 r2 .o
      | ret d S' => rw [hx] at h; exact fun c2 H2 v e2 r2 a2 => h c2 H2 v e2 r2 a2
      | ex x env' S' => rw [hx] at h; exact fun c2 H2 s2 C dd e2 r2 a2 xa => h c2 H2 C dd e2 r2 xa
      | brk env' S' => rw [hx] at h; exact h.elim
      | cnt env' S' => rw [hx] at h; exact h.elim
      | bad => rw [hx] at h; exact h.elim
    · rw [if_neg hl] at h; exact h.elim
/-- a def that stands under its name -/
structure Df (P : Program) (wd : World) (K : PySem.W.Frag) (mg : Str → Option Value) (base : Heap) (Γ : Cls') (x : Str) (k : Nat) (m : FM) : Prop where
  ex : ∃ (f : Addr) (fd : FuncData) (ps : List Str), FnOk P wd K mg base (L2.CX P wd) k f fd ps (spM K Γ m) ∧ Binds K fd ps [] ∧ PySem.W.keepIn K (.ref f) = true ∧ mg x = some (.ref f)
/-- what is raised goes where it is wished -/
def Goes (X : Cx) (W : WX) : Prop := ∀ σ, PassesAt (L2.CX X.prog X.w) X σ (WE W σ)
theorem goes_of (tk : Takes X W) : Goes X W := fun σ => passAt tk σ
theorem goes_not : Goes X (fun _ _ _ _ => False) := fun σ pins H s e s' I h => by
  obtain ⟨a, B, H', cls, d, _, _, _, _, _, _, _, z⟩ := h
  exact z.elim
/-! ## behind a call the store's new places are dropped -/
mutual
def D.lo (n : Nat) : D → Bool
  | .loc k => decide (k < n)
  | .tup ds => los n ds
  | .ttp ds => los n ds
  | .lst ds => los n ds
  | .dic _ ds => los n ds
  | .obj _ ds => los n ds
  | _ => true
def los (n : Nat) : List D → Bool
  | [] => true
  | d :: r => d.lo n && los n r
end
def SO.lo (n : Nat) : SO → Bool
  | .lst ds => los n ds
  | .dic _ ds => los n ds
  | .ins _ ds => los n ds
mutual
def rsv (n : Nat) (S : Sto) : Nat → D → Option D
  | 0, _ => none
  | f + 1, .loc k => if k < n then some (.loc k) else match S[k]? with
    | some (.lst ds) => (rsvs n S f ds).map .lst
    | some (.dic ks ds) => (rsvs n S f ds).map (.dic ks)
    | some (.ins c ds) => (rsvs n S f ds).map (.obj c)
    | none => none
  | f + 1, .tup ds => (rsvs n S f ds).map .tup
  | f + 1, .ttp ds => (rsvs n S f ds).map .ttp
  | f + 1, .lst ds => (rsvs n S f ds).map .lst
  | f + 1, .dic ks ds => (rsvs n S f ds).map (.dic ks)
  | f + 1, .obj c ds => (rsvs n S f ds).map (.obj c)
  | f + 1, d => some d
def rsvs (n : Nat) (S : Sto) : Nat → List D → Option (List D)
  | _, [] => some []
  | f, d :: r => (rsv n S f d).bind fun d' => (rsvs n S f r).map fun r' => d' :: r'
end
def rsvD (n : Nat) (S : Sto) (d : D) : Option D := if d.lo n = true then some d else rsv n S 12 d
def Tr (n : Nat) (S S' : Sto) : Prop := ∀ k, k < n → S'[k]? = S[k]? ∨ ∃ o, S'[k]? = some o ∧ o.lo n = true
open Classical in
noncomputable def trunc (S : Sto) (r : R D) : R D := match r with
  | .ok d S' => .if (Tr S.length S S') (.ofO (rsvD S.length S' d) (S'.take S.length))
  | .ex x S' => .if (Tr S.length S S' ∧ los S.length x.ds = true) (.ex x (S'.take S.length))
  | .bad => .bad
/-- the places from n on are not changed any more -/
def Cn.cut (c : Cn) (n n' : Nat) : Cn := { c with F := fun a => c.F a ∨ ∃ k, n ≤ k ∧ k < n' ∧ c.ρ k = a }
mutual
theorem At.fcut {m : Nat} : ∀ (d : D) (v : V), At w c H n' d v → d.lo m = true → At w (c.cut m n') H m d v
  | .non, v, h, _ => h
  | .bl b, v, h, _ => h
  | .int i, v, h, _ => h
  | .str x, v, h, _ => h
  | .tup ds, v, h, q => by
    unfold At at h ⊢; unfold D.lo at q
    obtain ⟨a, vs, r, s, t⟩ := h
    exact ⟨a, vs, r, s, Ats.fcut ds vs t q⟩
  | .ttp ds, v, h, q => by
    unfold At at h ⊢; unfold D.lo at q
    obtain ⟨a, vs, r, s, t⟩ := h
    exact ⟨a, vs, r, s, Ats.fcut ds vs t q⟩
  | .lst ds, v, h, q => by
    unfold At at h ⊢; unfold D.lo at q
    obtain ⟨a, vs, r, f, s, t⟩ := h
    exact ⟨a, vs, r, .inl f, s, Ats.fcut ds vs t q⟩
  | .dic ks ds, v, h, q => by
    unfold At at h ⊢; unfold D.lo at q
    obtain ⟨a, vs, r, f, s, t⟩ := h
    exact ⟨a, vs, r, .inl f, s, Ats.fcut ds vs t q⟩
  | .obj k ds, v, h, q => by
    unfold At at h ⊢; unfold D.lo at q
    obtain ⟨a, vs, C, dx, r, f, g, l, s, t⟩ := h
    exact ⟨a, vs, C, dx, r, .inl f, g, l, s, Ats.fcut ds vs t q⟩
  | .fz ns, v, h, q => by
    unfold At at h ⊢
    exact h
  | .loc k, v, h, q => by
    unfold At at h ⊢; unfold D.lo at q
    exact ⟨of_decide_eq_true q, h.2⟩
  | .oth u, v, h, _ => h
theorem Ats.fcut {m : Nat} : ∀ (ds : List D) (vs : List V), Ats w c H n' ds vs → los m ds = true → Ats w (c.cut m n') H m ds vs
  | [], vs, h, q => h
  | d :: ds, vs, h, q => by
    unfold Ats at h ⊢; unfold los at q
    rw [Bool.and_eq_true] at q
    obtain ⟨v, r, e, a, b⟩ := h
    exact ⟨v, r, e, At.fcut d v a q.1, Ats.fcut ds r b q.2⟩
end
mutual
theorem At.lo : ∀ (d : D) (v : V), At w c H n d v → d.lo n = true
  | .non, v, h => rfl
  | .bl b, v, h => rfl
  | .int i, v, h => rfl
  | .str x, v, h => rfl
  | .tup ds, v, h => by
    unfold At at h; unfold D.lo
    obtain ⟨a, vs, r, s, t⟩ := h
    exact Ats.los ds vs t
  | .ttp ds, v, h => by
    unfold At at h; unfold D.lo
    obtain ⟨a, vs, r, s, t⟩ := h
    exact Ats.los ds vs t
  | .lst ds, v, h => by
    unfold At at h; unfold D.lo
    obtain ⟨a, vs, r, f, s, t⟩ := h
    exact Ats.los ds vs t
  | .dic ks ds, v, h => by
    unfold At at h; unfold D.lo
    obtain ⟨a, vs, r, f, s, t⟩ := h
    exact Ats.los ds vs t
  | .obj k ds, v, h => by
    unfold At at h; unfold D.lo
    obtain ⟨a, vs, C, dx, r, f, g, l, s, t⟩ := h
    exact Ats.los ds vs t
  | .fz ns, v, h => rfl
  | .loc k, v, h => by
    unfold At at h; unfold D.lo
    exact decide_eq_true h.1
  | .oth u, v, h => rfl
theorem Ats.los : ∀ (ds : List D) (vs : List V), Ats w c H n ds vs → los n ds = true
  | [], vs, h => rfl
  | d :: ds, vs, h => by
    unfold Ats at h; unfold los
    obtain ⟨v, r, e, a, b⟩ := h
    rw [At.lo d v a, Ats.los ds r b]; rfl
end
theorem OAt.lo {a : Addr} : ∀ {o : SO}, OAt w c H n a o → o.lo n = true
  | .lst ds, ⟨vs, g, t⟩ => Ats.los ds vs t
  | .dic ks ds, ⟨vs, g, t⟩ => Ats.los ds vs t
  | .ins k ds, ⟨vs, C, dx, g, l, s, t⟩ => Ats.los ds vs t
mutual
theorem rsv_at {m : Nat} (r : Rep w c H S) : ∀ (f : Nat) (d d' : D) (v : V), At w c H S.length d v → rsv m S f d = some d' → At w (c.cut m S.length) H m d' v
  | 0, d, d', v, h, q => by unfold rsv at q; cases q
  | f + 1, .non, d', v, h, q => by unfold rsv at q; cases q; exact h
  | f + 1, .bl b, d', v, h, q => by unfold rsv at q; cases q; exact h
  | f + 1, .int i, d', v, h, q => by unfold rsv at q; cases q; exact h
  | f + 1, .str x, d', v, h, q => by unfold rsv at q; cases q; exact h
  | f + 1, .oth u, d', v, h, q => by unfold rsv at q; cases q; exact h
  | f + 1, .fz ns, d', v, h, q => by
    unfold rsv at q; cases q
    unfold At at h ⊢
    exact h
  | f + 1, .tup ds, d', v, h, q => by
    unfold rsv at q; unfold At at h
    obtain ⟨a, vs, e, s, t⟩ := h
    cases hd : rsvs m S f ds with
    | none => rw [hd] at q; cases q
    | some es =>
      rw [hd] at q; cases q
      unfold At
      exact ⟨a, vs, e, s, rsvs_at r f ds es vs t hd⟩
  | f + 1, .ttp ds, d', v, h, q => by
    unfold rsv at q; unfold At at h
    obtain ⟨a, vs, e, s, t⟩ := h
    cases hd : rsvs m S f ds with
    | none => rw [hd] at q; cases q
    | some es =>
      rw [hd] at q; cases q
      unfold At
      exact ⟨a, vs, e, s, rsvs_at r f ds es vs t hd⟩
  | f + 1, .lst ds, d', v, h, q => by
    unfold rsv at q; unfold At at h
    obtain ⟨a, vs, e, g, s, t⟩ := h
    cases hd : rsvs m S f ds with
    | none => rw [hd] at q; cases q
    | some es =>
      rw [hd] at q; cases q
      unfold At
      exact ⟨a, vs, e, .inl g, s, rsvs_at r f ds es vs t hd⟩
  | f + 1, .dic ks ds, d', v, h, q => by
    unfold rsv at q; unfold At at h
    obtain ⟨a, vs, e, g, s, t⟩ := h
    cases hd : rsvs m S f ds with
    | none => rw [hd] at q; cases q
    | some es =>
      rw [hd] at q; cases q
      unfold At
      exact ⟨a, vs, e, .inl g, s, rsvs_at r f ds es vs t hd⟩
  | f + 1, .obj k ds, d', v, h, q => by
    unfold rsv at q; unfold At at h
    obtain ⟨a, vs, C, dx, e, g, g2, l, s, t⟩ := h
    cases hd : rsvs m S f ds with
    | none => rw [hd] at q; cases q
    | some es =>
      rw [hd] at q; cases q
      unfold At
      exact ⟨a, vs, C, dx, e, .inl g, g2, l, s, rsvs_at r f ds es vs t hd⟩
  | f + 1, .loc k, d', v, h, q => by
    unfold rsv at q; unfold At at h
    by_cases hk : k < m
    · rw [if_pos hk] at q; cases q
      unfold At
      exact ⟨hk, h.2⟩
    · rw [if_neg hk] at q
      have fz : (c.cut m S.length).F (c.ρ k) := .inr ⟨k, Nat.le_of_not_lt hk, h.1, rfl⟩
      cases ho : S[k]? with
      | none => rw [ho] at q; cases q
      | some o =>
        rw [ho] at q
        have oa := r.get ho
        cases o with
        | lst ds =>
          obtain ⟨vs, g, t⟩ := oa
          cases hd : rsvs m S f ds with
          | none => simp only [hd] at q; cases q
          | some es =>
            simp only [hd] at q; cases q
            unfold At
            exact ⟨_, vs, h.2, fz, g, rsvs_at r f ds es vs t hd⟩
        | dic ks ds =>
          obtain ⟨vs, g, t⟩ := oa
          cases hd : rsvs m S f ds with
          | none => simp only [hd] at q; cases q
          | some es =>
            simp only [hd] at q; cases q
            unfold At
            exact ⟨_, vs, h.2, fz, g, rsvs_at r f ds es vs t hd⟩
        | ins cn ds =>
          obtain ⟨vs, C, dx, g, l, s, t⟩ := oa
          cases hd : rsvs m S f ds with
          | none => simp only [hd] at q; cases q
          | some es =>
            simp only [hd] at q; cases q
            unfold At
            exact ⟨_, vs, C, dx, h.2, fz, g, l, s, rsvs_at r f ds es vs t hd⟩
theorem rsvs_at {m : Nat} (r : Rep w c H S) : ∀ (f : Nat) (ds es : List D) (vs : List V), Ats w c H S.length ds vs → rsvs m S f ds = some es → Ats w (c.cut m S.length) H m es vs
  | f, [], es, vs, h, q => by unfold rsvs at q; cases q; exact h
  | f, d :: ds, es, vs, h, q => by
    unfold rsvs at q; unfold Ats at h
    obtain ⟨v, vr, e, a, b⟩ := h
    cases h1 : rsv m S f d with
    | none => rw [h1] at q; cases q
    | some d' =>
      rw [h1] at q
      cases h2 : rsvs m S f ds with
      | none => rw [h2] at q; cases q
      | some r' =>
        rw [h2] at q; cases q
        rw [e]
        exact .cons (rsv_at r f d d' v a h1) (rsvs_at r f ds r' vr b h2)
end
theorem cut_ok {S' : Sto} (r : Rep w c H S) (e : Ext c H S.length c' H' S'.length) (r' : Rep w c' H' S') (tr : Tr S.length S S') :
    Ext c H S.length (c'.cut S.length S'.length) H' (S'.take S.length).length ∧ Rep w (c'.cut S.length S'.length) H' (S'.take S.length) := by
  have hl : (S'.take S.length).length = S.length := by rw [List.length_take]; exact Nat.min_eq_left e.le
  rw [hl]
  refine ⟨⟨Nat.le_refl _, e.rho, fun a f => .inl (e.fro a f), e.tup, e.frz, e.keep, e.keepF, fun k a b => absurd b (Nat.not_lt.mpr a), e.there, fun a f => ?_⟩, fun k o h => ?_, fun i j hi hj q => ?_, fun k hk f => ?_, fun a f => ?_⟩
  · rcases f with f | ⟨k, k1, k2, rfl⟩
    · exact e.nF a f
    · exact .inr (e.new k k1 k2)
  · rw [hl]
    have hk : k < S.length := by rw [← hl]; exact Rep.lt h
    rw [List.getElem?_take_of_lt hk] at h
    have oa := r'.get h
    have ob : o.lo S.length = true := by
      rcases tr k hk with t | ⟨o', t, b⟩
      · rw [h] at t
        exact (r.get t.symm).lo
      · rw [h] at t; cases t; exact b
    show OAt w _ H' S.length (c'.ρ k) o
    cases o with
    | lst ds => obtain ⟨vs, g, t⟩ := oa; exact ⟨vs, g, t.fcut _ _ ob⟩
    | dic ks ds => obtain ⟨vs, g, t⟩ := oa; exact ⟨vs, g, t.fcut _ _ ob⟩
    | ins k ds => obtain ⟨vs, C, dx, g, l, s, t⟩ := oa; exact ⟨vs, C, dx, g, l, s, t.fcut _ _ ob⟩
  · rw [hl] at hi hj
    exact r'.inj i j (Nat.lt_of_lt_of_le hi e.le) (Nat.lt_of_lt_of_le hj e.le) q
  · rw [hl] at hk
    rcases f with f | ⟨j, j1, j2, q⟩
    · exact r'.live k (Nat.lt_of_lt_of_le hk e.le) f
    · have := r'.inj j k j2 (Nat.lt_of_lt_of_le hk e.le) q
      omega
  · rcases f with f | ⟨j, j1, j2, rfl⟩
    · exact r'.fro a f
    · obtain ⟨u, q, _⟩ := r'.some j2
      exact ⟨u, q⟩
open Classical in
theorem trunc_ok {r : R D} {Q : VK} (rp : Rep w c H S) (h : PoE w W σ c H S.length (trunc S r) Q) : PoE w W σ c H S.length r Q := by
  cases r with
  | ok d S' =>
    obtain ⟨tr, h⟩ := Po.if h
    obtain ⟨d', hd, h⟩ := Po.ofO h
    intro c' H' v e' r' a'
    obtain ⟨e2, r2⟩ := cut_ok rp e' r' tr
    have hl : (S'.take S.length).length = S.length := by rw [List.length_take]; exact Nat.min_eq_left e'.le
    refine h _ H' v e2 r2 ?_
    rw [hl]
    unfold rsvD at hd
    by_cases hb : d.lo S.length = true
    · rw [if_pos hb] at hd; cases hd
      exact a'.fcut _ _ hb
    · rw [if_neg hb] at hd
      exact rsv_at r' 12 d d' v a' hd
  | ex x S' =>
    obtain ⟨⟨tr, hb⟩, h⟩ := Po.if h
    intro c' H' C dd e' r' xa
    obtain ⟨e2, r2⟩ := cut_ok rp e' r' tr
    have hl : (S'.take S.length).length = S.length := by rw [List.length_take]; exact Nat.min_eq_left e'.le
    refine h _ H' C dd e2 r2 ?_
    rw [hl]
    obtain ⟨p, q, vs, h1, h2, h3, h4, h5, h6⟩ := xa
    exact ⟨p, q, vs, h1, h2, h3, h4, h5, h6.fcut _ _ hb⟩
  | bad => exact h.elim
/-- what is done behind a call -/
abbrev TrF := Sto → R D → R D
def tr0 : TrF := fun _ r => r
def TrOk (tr : TrF) : Prop := ∀ (w : Wn) (W : WX) (σ : St) (c : Cn) (H : Hp) (S : Sto) (r : R D) (Q : VK), Rep w c H S → PoE w W σ c H S.length (tr S r) Q → PoE w W σ c H S.length r Q
theorem tr0_ok : TrOk tr0 := fun _ _ _ _ _ _ _ _ _ h => h
theorem trT_ok : TrOk trunc := fun _ _ _ _ _ _ _ _ rp h => trunc_ok rp h
@[simp] theorem tr0_eq (S : Sto) (r : R D) : tr0 S r = r := rfl
def e_fn (tr : TrF) (m : FM) (am : AM) : EM := fun env S => (am env S).bind fun ds S1 => tr S1 (m ds S1)
theorem c_fn {x : Str} {k : Nat} {m : FM} {p : Pos} {tr : TrF} (ht : TrOk tr) (G : Df X.prog X.w X.K X.mg X.base Γ x k m) (go : Goes X W) (hr : Room k X.A) (hg : Gl X x) (ha : CA Γ X W (e :: es) am) (hdb : (x == ("__debug__" : Str)) = false := by decide) (he : starEach (e :: es) X.env = (false, eval e X.env) :: starEach es X.env := by rfl) (hpl : (backTo pos (starEach es X.env)).any (·.1) = false := by rfl) :
    CE Γ X W (.Call (.Name x p) (e :: es) [] pos) (e_fn tr m am) := by
  obtain ⟨f, fd, ps, F, hb, hk, hm⟩ := G.ex
  refine PE.weak (pe_callS (E := fun σ => WE W σ) F hr hg hm hk hb go ha hdb he hpl) fun σ H Q ⟨c, env, S, r, ev, h⟩ => ?_
  refine ⟨c, env, S, r, ev, (Po.bind h).imp fun vs H1 ⟨c1, S1, ds, e1, r1, a1, h1⟩ => ?_⟩
  exact ⟨c1, S1, ds, r1, a1, (ht _ _ _ _ _ _ _ _ r1 h1).wish fun _ _ _ z => z⟩
end
end Mm
set_option maxRecDepth 100000
/-! Comprehensions over the plain data. -/
namespace Mm
open PySem L2
section
variable {w : Wn} {W : WX} {σ : St} {c c' : Cn} {H H' : Hp} {n n' : Nat} {S : Sto} {env : Env}
variable {Γ : Cls'} {X : Cx} {a b e tg : Expr} {es : List Expr} {ma mb : EM} {am : AM} {pos : Pos} {Dn : Ends}
def wipeE (env : Env) : List Nat → Env
  | [] => env
  | v :: vs => (wipeE env vs).set v none
theorem wipe_get (σ : St) : ∀ (vs : List Nat) (j : Nat), (wipe σ vs)[j]? = if j ∈ vs ∧ j < σ.length then some none else σ[j]?
  | [], j => by simp [wipe]
  | v :: vs, j => by
    unfold wipe
    by_cases e : j = v
    · subst e
      by_cases hl : j < σ.length
      · rw [List.getElem?_set_self (by rw [wipe_length]; exact hl), if_pos ⟨List.mem_cons_self, hl⟩]
      · rw [if_neg fun z => hl z.2, List.getElem?_eq_none (by rw [List.length_set, wipe_length]; omega), List.getElem?_eq_none (by omega)]
    · rw [List.getElem?_set_ne (Ne.symm e), wipe_get σ vs j]
      by_cases h : j ∈ vs ∧ j < σ.length
      · rw [if_pos h, if_pos ⟨List.mem_cons_of_mem _ h.1, h.2⟩]
      · rw [if_neg h, if_neg fun z => h ⟨by
          rcases List.mem_cons.mp z.1 with q | q
          · exact absurd q e
          · exact q, z.2⟩]
theorem R.bind_assoc {α β γ : Type} (r : R α) (f : α → Sto → R β) (g : β → Sto → R γ) : (r.bind f).bind g = r.bind fun a S => (f a S).bind g := by cases r <;> rfl
theorem wipeE_len (env : Env) : ∀ vs : List Nat, (wipeE env vs).length = env.length
  | [] => rfl
  | v :: vs => by unfold wipeE; rw [List.length_set, wipeE_len]
theorem EnvR.none {i : Nat} (h : EnvR w c H n σ env) : EnvR w c H n (σ.set i none) (env.set i none) := by
  refine ⟨by rw [List.length_set, List.length_set]; exact h.1, fun j d' q => ?_⟩
  by_cases e : j = i
  · subst e
    by_cases hl : j < env.length
    · rw [List.getElem?_set_self hl] at q; cases q
    · rw [List.getElem?_eq_none (by rw [List.length_set]; omega)] at q; cases q
  · rw [List.getElem?_set_ne (Ne.symm e)] at q ⊢
    exact h.2 j d' q
theorem EnvR.wipe (h : EnvR w c H n σ env) : ∀ vs : List Nat, EnvR w c H n (L2.wipe σ vs) (wipeE env vs)
  | [] => h
  | v :: vs => (EnvR.wipe h vs).none
theorem wipe_bt {σ σ' : St} {sl vs : List Nat} (b : Bt sl (wipe σ vs) σ') (hs : ∀ j ∈ sl, j ∈ vs) : wipe σ' vs = wipe σ vs := by
  refine List.ext_getElem? fun j => ?_
  have hl := b.1
  rw [wipe_length] at hl
  rw [wipe_get]
  by_cases h : j ∈ vs ∧ j < σ.length
  · rw [if_pos ⟨h.1, by rw [hl]; exact h.2⟩, wipe_get, if_pos h]
  · rw [if_neg fun z => h ⟨z.1, by rw [← hl]; exact z.2⟩]
    by_cases hj : j ∈ vs
    · have : ¬ j < σ.length := fun z => h ⟨hj, z⟩
      rw [List.getElem?_eq_none (by omega), List.getElem?_eq_none (by rw [wipe_length]; omega)]
    · exact b.2 j fun z => hj (hs j z)
/-- no error comes out -/
abbrev W0 : WX := fun _ _ _ _ => False
def R.nox {α : Type} (r : R α) : R α := match r with
  | .ok a S => .ok a S
  | _ => .bad
@[simp] theorem R.nox_ok {α : Type} (a : α) (S : Sto) : (R.ok a S).nox = .ok a S := rfl
theorem Po.nox {α β γ δ : Type} {rel : Cn → Hp → Nat → α → β → Prop} {rel2 : Cn → Hp → Nat → γ → δ → Prop} {r : R α} {f : α → Sto → R γ} {Q : δ → Hp → Prop} {σ' : St} {c0 : Cn} {H0 : Hp} {n0 : Nat} (e0 : Ext c0 H0 n0 c H n) (h : Po w W rel2 σ c0 H0 n0 (r.nox.bind f) Q) :
    Po w W0 rel σ' c H n r fun v H1 => ∃ c1 S1 d, Ext c H n c1 H1 S1.length ∧ Ext c0 H0 n0 c1 H1 S1.length ∧ Rep w c1 H1 S1 ∧ rel c1 H1 S1.length d v ∧ Po w W rel2 σ c0 H0 n0 (f d S1) Q := by
  cases r with
  | ok d S => exact fun c2 H2 v e2 r2 a => ⟨c2, S, d, e2, e0.trans e2, r2, a, h⟩
  | ex x S => exact h.elim
  | bad => exact h.elim
open Classical in
noncomputable def lcM (g : GM) (t : TM) (m : EM) (env : Env) (st : Option (Nat × List D)) : List D → List D → Sto → R (List D)
  | [], acc, S => .if (Stay S ([], st)) (.ok acc S)
  | d :: r, acc, S => .if (Stay S ([], st)) (match g d env with
    | none => .bad
    | some env1 => (t env1 S).nox.bind fun k S1 => if k = true then (m env1 S1).nox.bind fun y S2 => .if (acc.length < sizeLine) (lcM g t m env st r (acc ++ [y]) S2) else lcM g t m env st r acc S1)
noncomputable def e_lcG (vs : List Nat) (im : IM) (g : GM) (t : TM) (m : EM) (fin : List D → Sto → R D) : EM := fun env S => (im env S).bind fun it S1 => (lcM g t m (wipeE env vs) it.2 it.1 [] S1).bind fin
def finL (ds : List D) (S : Sto) : R D := .ok (.lst ds) S
def finN (ds : List D) (S : Sto) : R D := .ok (.loc S.length) (S ++ [.lst ds])
@[simp] theorem finL_eq (ds : List D) (S : Sto) : finL ds S = .ok (.lst ds) S := rfl
@[simp] theorem finN_eq (ds : List D) (S : Sto) : finN ds S = .ok (.loc S.length) (S ++ [.lst ds]) := rfl
noncomputable def e_lc (vs : List Nat) (im : IM) (g : GM) (t : TM) (m : EM) : EM := e_lcG vs im g t m finL
noncomputable def e_lcN (vs : List Nat) (im : IM) (g : GM) (t : TM) (m : EM) : EM := e_lcG vs im g t m finN
def t_yes : TM := fun _ S => .ok true S
@[simp] theorem t_yes_eq (env : Env) (S : Sto) : t_yes env S = .ok true S := rfl
abbrev CTs (Γ : Cls') (X : Cx) (W : WX) (es : List Expr) (m : TM) : Prop := PTs X es (mT ⟨X.K, Γ⟩ W m)
theorem PTs.weak {es : List Expr} {t t' : TT} (h : PTs X es t) (i : ∀ σ H Q, t' σ H Q → t σ H Q) : PTs X es t' := ⟨fun pins s σ H Q I q => h.run pins s σ H Q I (i σ H Q q)⟩
theorem c_tsnil : CTs Γ X W [] t_yes := PTs.weak pts_nil fun σ H Q ⟨c, env, S, r, ev, h⟩ => h c H true Ext.refl r rfl
theorem c_tsone {pm : TM} (h : CT Γ X W e pm) : CTs Γ X W [e] pm := pts_one h
/-- what fin makes of the new list at p -/
def FinOk (fin : List D → Sto → R D) : Prop := ∀ (w : Wn) (W : WX) (σ : St) (c : Cn) (H : Hp) (S : Sto) (ds : List D) (us : List V) (p : Addr) (Q : VK), Rep w c H S → Ats w c H S.length ds us → H p = some (.lst us) → (∀ k, k < S.length → c.ρ k ≠ p) → ¬ c.F p →
  ∀ (c0 : Cn) (H0 : Hp) (n0 : Nat), Ext c0 H0 n0 c H S.length → H0 p = none → PoE w W σ c0 H0 n0 (fin ds S) Q → Q (.ref p) H
theorem finL_ok : FinOk finL := by
  intro w W σ c H S ds us p Q r t hp hn hf c0 H0 n0 e h0 h
  have eA : ExtA c H S.length (c.fr p) H S.length := ⟨Nat.le_refl _, fun _ _ => rfl, fun _ z => .inl z, fun _ _ z => z, fun _ _ _ z => z, fun _ _ _ z => z⟩
  refine h (c.fr p) H (.ref p) ⟨e.le, e.rho, fun a f => .inl (e.fro a f), e.tup, e.frz, e.keep, e.keepF, e.new, e.there, fun a f => ?_⟩ ⟨fun k o q => (r.obj k o q).monoA eA fun _ z => z, r.inj, fun k hk f => ?_, fun a f => ?_⟩ ?_
  · rcases f with f | rfl
    · exact e.nF a f
    · exact .inr h0
  · rcases f with f | f
    · exact r.live k hk f
    · exact hn k hk f
  · rcases f with f | rfl
    · exact r.fro a f
    · exact ⟨_, hp⟩
  · unfold At
    exact ⟨p, us, rfl, .inr rfl, hp, Ats.monoA eA _ _ t⟩
theorem finN_ok : FinOk finN := by
  intro w W σ c H S ds us p Q r t hp hn hf c0 H0 n0 e h0 h
  have hl : (S ++ [SO.lst ds]).length = S.length + 1 := by rw [List.length_append]; rfl
  have eA : ExtA c H S.length (c.nw S.length p) H (S.length + 1) := ⟨Nat.le_succ _, fun k h => Cn.nw_ne (Nat.ne_of_lt h), fun _ z => z, fun _ _ z => z, fun _ _ _ z => z, fun _ _ _ z => z⟩
  refine h (c.nw S.length p) H (.ref p) ?_ ⟨fun k o q => ?_, fun i j hi hj q => ?_, fun k hk f => ?_, fun a f => r.fro a f⟩ ?_
  · rw [hl]
    refine ⟨Nat.le_succ_of_le e.le, fun k hk => ?_, e.fro, e.tup, e.frz, e.keep, e.keepF, fun k h1 h2 => ?_, e.there, e.nF⟩
    · rw [Cn.nw_ne (by have := e.le; omega)]; exact e.rho k hk
    · by_cases hk : k = S.length
      · rw [hk, Cn.nw_at]; exact h0
      · rw [Cn.nw_ne hk]; exact e.new k h1 (by omega)
  · rw [hl]
    by_cases hk : k < S.length
    · rw [List.getElem?_append_left hk] at q
      rw [Cn.nw_ne (Nat.ne_of_lt hk)]
      exact (r.obj k o q).monoA eA fun _ z => z
    · have hlt := Rep.lt q
      rw [hl] at hlt
      have ek : k = S.length := by omega
      subst ek
      rw [List.getElem?_append_right (Nat.le_refl _)] at q
      simp at q
      subst q
      rw [Cn.nw_at]
      exact ⟨us, hp, Ats.monoA eA _ _ t⟩
  · rw [hl] at hi hj
    by_cases h1 : i = S.length
    · by_cases h2 : j = S.length
      · rw [h1, h2]
      · rw [h1, Cn.nw_at, Cn.nw_ne h2] at q
        exact absurd q.symm (hn j (by omega))
    · by_cases h2 : j = S.length
      · rw [h2, Cn.nw_at, Cn.nw_ne h1] at q
        exact absurd q (hn i (by omega))
      · rw [Cn.nw_ne h1, Cn.nw_ne h2] at q
        exact r.inj i j (by omega) (by omega) q
  · rw [hl] at hk
    by_cases h1 : k = S.length
    · rw [h1, Cn.nw_at] at f; exact hf f
    · rw [Cn.nw_ne h1] at f; exact r.live k (by omega) f
  · unfold At
    exact ⟨by rw [hl]; exact Nat.lt_succ_self _, by rw [Cn.nw_at]⟩
/-- the list p aside of the store -/
structure Side (c : Cn) (H : Hp) (n : Nat) (p : Addr) : Prop where
  out : ∀ k, k < n → c.ρ k ≠ p
  nF : ¬ c.F p
theorem Side.step {p : Addr} {u : HO} (s : Side c H n p) (hp : H p = some u) (e : Ext c H n c' H' n') : Side c' H' n' p ∧ H' p = some u := by
  refine ⟨⟨fun k hk q => ?_, fun f => ?_⟩, e.keep p u hp s.out⟩
  · by_cases h : k < n
    · rw [e.rho k h] at q; exact s.out k h q
    · have := e.new k (Nat.le_of_not_lt h) hk
      rw [q, hp] at this; cases this
  · rcases e.nF p f with f | f
    · exact s.nF f
    · rw [hp] at f; cases f
open Classical in
/-- the reading of a comprehension out of its parts -/
theorem lc_read {vs : List Nat} {im : IM} {g : GM} {t : TM} {m : EM} {fin : List D → Sto → R D} {sl : List Nat} {Q : VK} (hf : FinOk fin) (hsl : ∀ j ∈ sl, j ∈ vs) (h : mE w W (e_lcG vs im g t m fin) σ H Q) :
    tLc (mI w W im) (mTg w sl g) (mT w W0 t) (mE w W0 m) vs σ H Q := by
  obtain ⟨c, env, S, r, ev, h⟩ := h
  refine ⟨c, env, S, r, ev, (Po.bind h).imp fun J H1 ⟨c1, S1, it, e1, r1, wk, h1⟩ p hp => ?_⟩
  have ev1 := (ev.mono e1).wipe vs
  have ex0 : Ext c1 H1 S1.length c1 (upd H1 p (.lst [])) S1.length := Ext.grow hp
  refine ⟨fun i m' H' => ∃ c2 S2 acc us, Ext c1 H1 S1.length c2 H' S2.length ∧ Rep w c2 H' S2 ∧ EnvR w c2 H' S2.length (wipe σ vs) (wipeE env vs) ∧ Side c2 H' S2.length p ∧ H' p = some (.lst us) ∧ Ats w c2 H' S2.length acc us ∧ m' = it.1.length - i ∧ i ≤ it.1.length ∧
      PoE w W σ c1 H1 S1.length ((lcM g t m (wipeE env vs) it.2 (it.1.drop i) acc S2).bind fin) Q,
    ⟨it.1.length, c1, S1, [], [], ex0, r1.grow hp, ev1.mono ex0, ⟨fun k hk => r1.ne hp hk, r1.nF hp⟩, upd_same, .nil, by simp, Nat.zero_le _, h1⟩, ?_⟩
  rintro i m' H' ⟨c2, S2, acc, us, e2, r2, ev2, sd, hpl, ta, rfl, hi, h2⟩
  by_cases hlt : i < it.1.length
  · right
    have hd : it.1.drop i = it.1[i] :: it.1.drop (i + 1) := List.drop_eq_getElem_cons hlt
    rw [hd] at h2
    unfold lcM at h2
    by_cases st : Stay S2 ([], it.2)
    · rw [R.if_pos st] at h2
      obtain ⟨w1, _⟩ := wk c2 H' S2 e2.A r2 (Stay.of (ds := it.1) st) i
      obtain ⟨go, yl⟩ := w1 it.1[i] (List.getElem?_eq_getElem hlt)
      refine ⟨go, fun H3 => ∃ c3 S3 acc us, Ext c1 H1 S1.length c3 H3 S3.length ∧ Rep w c3 H3 S3 ∧ EnvR w c3 H3 S3.length (wipe σ vs) (wipeE env vs) ∧ Side c3 H3 S3.length p ∧ H3 p = some (.lst us) ∧ Ats w c3 H3 S3.length acc us ∧
          PoE w W σ c1 H1 S1.length ((lcM g t m (wipeE env vs) it.2 (it.1.drop (i + 1)) acc S3).bind fin) Q,
        fun H3 ⟨c3, S3, acc, us, q1, q2, q3, q4, q5, q6, q7⟩ => ⟨it.1.length - (i + 1), by omega, c3, S3, acc, us, q1, q2, q3, q4, q5, q6, rfl, hlt, q7⟩, fun x H3 y => ?_⟩
      obtain ⟨ey, ry, ay⟩ := yl x H3 y
      cases hg : g it.1[i] (wipeE env vs) with
      | none => rw [hg] at h2; exact h2.elim
      | some env3 =>
        rw [hg] at h2
        have ev3 := ev2.mono ey
        refine ⟨c2, wipeE env vs, S2, it.1[i], env3, ry, ev3, ay, hg, fun σ3 evx bt => ⟨wipe_bt bt hsl, ?_⟩⟩
        obtain ⟨sd3, hp3⟩ := sd.step hpl ey
        have e23 := e2.trans ey
        have ta3 := ta.mono ey
        rw [R.bind_assoc] at h2
        refine ⟨c2, env3, S2, ry, evx, (Po.nox e23 h2).imp fun b H4 ⟨c4, S4, b', e4, e14, r4, eb, h4⟩ => ?_⟩
        cases (show b = b' from eb)
        obtain ⟨sd4, hp4⟩ := sd3.step hp3 e4
        cases b with
        | false => exact ⟨c4, S4, acc, us, e14, r4, ev3.mono e4, sd4, hp4, ta3.mono e4, h4⟩
        | true =>
          rw [if_pos rfl]
          rw [if_pos rfl, R.bind_assoc] at h4
          refine ⟨c4, env3, S4, r4, evx.mono e4, (Po.nox e14 h4).imp fun v H5 ⟨c5, S5, d5, e5, e15, r5, a5, h5⟩ => ?_⟩
          obtain ⟨sd5, hp5⟩ := sd4.step hp4 e5
          by_cases hl : acc.length < sizeLine
          · rw [R.if_pos hl] at h5
            have ta5 := (ta3.mono e4).mono e5
            have sA := ExtA.side (n := S5.length) (ys := us ++ [v]) hp5 sd5.nF
            refine ⟨us, hp5, by rw [ta5.len]; exact hl, c5, S5, acc ++ [d5], us ++ [v], e15.side hp hp5, r5.side hp5 sd5.nF sd5.out, ?_, ⟨sd5.out, sd5.nF⟩, upd_same, Ats.monoA sA _ _ (ta5.app (.one a5)), h5⟩
            have ev5 := (ev3.mono e4).mono e5
            exact ⟨ev5.1, fun j d q => (ev5.2 j d q).imp fun v z => ⟨z.1, At.monoA sA _ _ z.2⟩⟩
          · unfold R.if at h5
            rw [if_neg hl] at h5
            exact h5.elim
    · unfold R.if at h2
      rw [if_neg st] at h2
      exact h2.elim
  · left
    have e : i = it.1.length := by omega
    subst e
    rw [List.drop_length] at h2
    unfold lcM at h2
    by_cases st : Stay S2 ([], it.2)
    · rw [R.if_pos st] at h2
      obtain ⟨_, w2⟩ := wk c2 H' S2 e2.A r2 (Stay.of (ds := it.1) st) it.1.length
      exact ⟨w2 rfl, hf w W σ c2 H' S2 acc us p Q r2 ta hpl sd.out sd.nF c1 H1 S1.length e2 hp h2⟩
    · unfold R.if at h2
      rw [if_neg st] at h2
      exact h2.elim
theorem c_lcG {elt tg iter : Expr} {ifs : List Expr} {scope : Scope} {own : List (Str × Nat)} {im : IM} {g : GM} {t : TM} {m : EM} {fin : List D → Sto → R D} {sl : List Nat} (hf : FinOk fin) (hsl : ∀ j ∈ sl, j ∈ own.map (·.2)) (hc : X.calm = true) (hN : X.N.Nodup) (hi : CI Γ X W tg iter im) (ok : BlkOk X.N X.env.scope scope own)
    (hg : ∀ (s : Shared) (H : Hp) (C : Addr) (cl : List (Str × Addr)) (fp : List Addr), CG Γ (X.blk s H scope (compEnvC scope cl C X.env) fp) tg sl g) (ht : ∀ (s : Shared) (H : Hp) (C : Addr) (cl : List (Str × Addr)) (fp : List Addr), CTs Γ (X.blk s H scope (compEnvC scope cl C X.env) fp) W0 ifs t)
    (he : ∀ (s : Shared) (H : Hp) (C : Addr) (cl : List (Str × Addr)) (fp : List Addr), CE Γ (X.blk s H scope (compEnvC scope cl C X.env) fp) W0 elt m) (hs : ∀ x, foldedSetIterable iter X.env x = pure x := by intro _; rfl) :
    CE Γ X W (.ListComp elt [⟨tg, iter, ifs, 0⟩] scope pos) (e_lcG (own.map (·.2)) im g t m fin) :=
  PE.weak (pe_lc hc hN hi ok hg ht he hs) fun σ H Q h => lc_read hf hsl h
theorem c_setlcG {i : Nat} {y : Str} {py spos : Pos} {elt tg iter : Expr} {ifs : List Expr} {scope : Scope} {own : List (Str × Nat)} {im : IM} {g : GM} {t : TM} {m : EM} {fin : List D → Sto → R D} {sl : List Nat} (hf : FinOk fin) (hsl : ∀ j ∈ sl, j ∈ own.map (·.2)) (hc : X.calm = true) (hN : X.N.Nodup) (hy : X.N[i]? = some y) (hyl : X.env.scope.names.lookup y = some .local)
    (hsw : swapsWith (.ListComp elt [⟨tg, iter, ifs, 0⟩] scope pos) (some (.Name y py)) spos.line X.env = pure true) (hi : CI Γ X W tg iter im) (ok : BlkOk X.N X.env.scope scope own)
    (hg : ∀ (s : Shared) (H : Hp) (C : Addr) (cl : List (Str × Addr)) (fp : List Addr), CG Γ (X.blk s H scope (compEnvC scope cl C X.env) fp) tg sl g) (ht : ∀ (s : Shared) (H : Hp) (C : Addr) (cl : List (Str × Addr)) (fp : List Addr), CTs Γ (X.blk s H scope (compEnvC scope cl C X.env) fp) W0 ifs t)
    (he : ∀ (s : Shared) (H : Hp) (C : Addr) (cl : List (Str × Addr)) (fp : List Addr), CE Γ (X.blk s H scope (compEnvC scope cl C X.env) fp) W0 elt m) (hs : ∀ x, foldedSetIterable iter X.env x = pure x := by intro _; rfl) :
    CS Γ X W (.Assign [.Name y py] (.ListComp elt [⟨tg, iter, ifs, 0⟩] scope pos) spos) (s_set i (e_lcG (own.map (·.2)) im g t m fin)) := by
  refine PS.weak (ps_setLc (g := mTg ⟨X.K, Γ⟩ sl g) (tt := mT ⟨X.K, Γ⟩ W0 t) (te := mE ⟨X.K, Γ⟩ W0 m) hc hN hy hyl hsw hi ok hg ht he hs) fun Dn σ H ⟨c, env, S, r, ev, h⟩ => ?_
  refine lc_read (W := W) hf hsl ⟨c, env, S, r, ev, (PoS.part ev h).imp fun v H1 ⟨c1, S1, d1, e1, r1, a1, ev1, h1⟩ => h1 c1 H1 _ Ext.refl r1 (ev1.set a1)⟩
end
end Mm
set_option maxRecDepth 100000
/-! from TkS -/
namespace PySem
open PySem.W
section
variable {prog : Program} {w : World} {A : Around} {E : Value → Shared → Prop} {s : Shared} {K : Frag} {x C f : Addr} {ox : Obj} {od : Option Obj} {b tb : Value}
theorem tk_neBody {Q : Fin → Shared → Prop} (hu : A.units < cLine) (X : K.In s.heap) (I : InstAt s.heap x ox C od) (he : findIn K (.ref C) "__eq__" = some (some (.ref f))) (hf : isFn K (.ref f) = true)
    (h : wpAny (model prog w) A (call (.ref f) [.ref x, b]) (fun v s' => ∃ c, v = .bool c ∧ Q (.done (.ret (.bool (!c)))) s') E s) : wpAny (model prog w) A (Builtin.«object.__ne__» ⟨[.ref x, b], []⟩) Q E s := by
  have ask : wpAny (model prog w) A (callSpecialIfBound? (.ref x) (Str.ofString "__eq__") [b]) (fun r s' => ∃ c, r = some (.bool c) ∧ Q (.done (.ret (.bool (!c)))) s') E s := by
    refine ifBound_K X I he hf (wpAny_mono h (fun v s' z => ?_) fun _ _ y => y)
    obtain ⟨c, rfl, q⟩ := z
    exact ⟨c, rfl, q⟩
  unfold Builtin.«object.__ne__»
  repeat (first
    | (with_reducible refine wpAny_cRoomFor hu ?_)
    | (refine wpAny_bind (m := callSpecialIfBound? (.ref x) (Str.ofString "__eq__") [b]) (wpAny_mono ask (fun r s' z => by
        obtain ⟨c, rfl, q⟩ := z
        repeat (first | exact q | exact wpAny_pure q | exact wpAny_truthy_bool q | (refine wpAny_bind (m := truthy (.bool _)) (wpAny_truthy_bool ?_)) | wp_step)) fun _ _ y => y))
    | wp_step)
theorem tk_neCall {Q : Value → Shared → Prop} (hu : A.in1.units < cLine) (X : K.In s.heap) (I : InstAt s.heap x ox C od) (hm : mroIn K C (.type "object") = some true) (he : findIn K (.ref C) "__eq__" = some (some (.ref f))) (hf : isFn K (.ref f) = true)
    (h : wpAny (model prog w) A.in1 (call (.ref f) [.ref x, b]) (fun v s' => ∃ c, v = .bool c ∧ Q (.bool (!c)) s') E s) : wpAny (model prog w) A (call (.builtin "object.__ne__") [.ref x, b]) Q E s := by
  refine wpAny_call (codeAny_call_builtin F.cmp_object.ne.plain F.cmpEntry_ne (check_slot F.cmpKind_ne F.cmpSplit_ne (I.type.andThen (looks_mroIn X hm)) (F.cmpArgs_ne _ _) ?_))
  exact tk_neBody hu X I he hf h
theorem tk_neBound {args : List Value} {Q : Option Value → Shared → Prop} (X : K.In s.heap) (I : InstAt s.heap x ox C od) (hn : findIn K (.ref C) "__ne__" = some (some (.builtin "object.__ne__")))
    (h : wpAny (model prog w) A (call (.builtin "object.__ne__") (.ref x :: args)) (fun v => Q (some v)) E s) : wpAny (model prog w) A (callSpecialIfBound? (.ref x) "__ne__" args) Q E s := by
  simp only [callSpecialIfBound?, bindSpecialIfBound?]
  have last : wpAny (model prog w) A (call (.builtin "object.__ne__") ([.ref x] ++ args) >>= fun v => pure (some v)) Q E s := wpAny_bind (wpAny_mono h (fun v s' z => wpAny_pure z) fun _ _ z => z)
  refine wpAny_holding (wpAny_bind (wpAny_bind (wpAny_bind (I.type.here ((looks_findIn X hn).here (wpAny_bind (wpAny_askSetting (wpAny_ite ?_))))))))
  split
  · exact wpAny_bind (wpAny_of_eq (F.cmp_object.ne.bind _) (wpAny_pure (by exact last)))
  · exact wpAny_tryCatch (wpAny_bind (wpAny_of_eq (F.cmp_object.ne.bind _) (wpAny_pure (by exact last))))
theorem tk_ne {Q : Value → Shared → Prop} (hu : A.in1.units < cLine) (hu0 : A.units < cLine) (X : K.In s.heap) (I : InstAt s.heap x ox C od) (hb : Looks (model prog w) s.heap (typeOf b) tb) (hn : notFirst K C tb = true)
    (hne : findIn K (.ref C) "__ne__" = some (some (.builtin "object.__ne__"))) (hm : mroIn K C (.type "object") = some true) (he : findIn K (.ref C) "__eq__" = some (some (.ref f))) (hf : isFn K (.ref f) = true)
    (h : wpAny (model prog w) A.in1 (call (.ref f) [.ref x, b]) (fun v s' => ∃ c, v = .bool c ∧ Q (.bool (!c)) s') E s) : wpAny (model prog w) A (richCompare .NotEq (.ref x) b) Q E s := by
  have one : wpAny (model prog w) A (tryCompare (.ref x) "__ne__" b) (fun r s' => ∃ c, r = some (.bool c) ∧ Q (.bool c) s') E s := by
    unfold tryCompare
    refine wpAny_bind (tk_neBound X I hne (tk_neCall hu X I hm he hf (wpAny_mono h (fun v s' z => ?_) fun _ _ y => y)))
    obtain ⟨c, rfl, q⟩ := z
    exact ⟨c, rfl, wpAny_pure ⟨_, rfl, q⟩⟩
  unfold richCompare
  simp only [oneThing_ref]
  rw [cmpInfo_NotEq]
  dsimp only
  refine wpAny_holding (wpAny_bind (wpAny_cRoomFor hu0 (wpAny_bind (I.type.here (wpAny_bind (hb.here ?_))))))
  have fin : ∀ (r : Option Value) (s' : Shared), (∃ c, r = some (.bool c) ∧ Q (.bool c) s') → ∃ c, r = some (.bool c) ∧ Q (.bool c) s' := fun _ _ z => z
  split
  · rename_i q
    have e : subIn K tb (.ref C) = some false := by
      rcases Bool.or_eq_true_iff.mp hn with e | e
      · exact absurd q (by rw [beq_iff_eq.mp e]; simp)
      · exact beq_iff_eq.mp e
    refine wpAny_bind ((looks_subIn X e).here ?_)
    simp only [Bool.false_eq_true, if_false]
    refine wpAny_bind (wpAny_mono one (fun r s' z => ?_) fun _ _ y => y)
    obtain ⟨c, rfl, q⟩ := z
    exact wpAny_pure q
  · refine wpAny_bind (wpAny_pure ?_)
    simp only [Bool.false_eq_true, if_false]
    refine wpAny_bind (wpAny_mono one (fun r s' z => ?_) fun _ _ y => y)
    obtain ⟨c, rfl, q⟩ := z
    exact wpAny_pure q
end
end PySem
namespace L2
open PySem PySem.Spec PyProof.Rows
/-- what must stand in the class C for == and != by its own __eq__ -/
structure OwnEq (K : PySem.W.Frag) (C f : Addr) : Prop where
  eq : PySem.W.findIn K (.ref C) "__eq__" = some (some (.ref f))
  fn : PySem.W.isFn K (.ref f) = true
  ne : PySem.W.findIn K (.ref C) "__ne__" = some (some (.builtin "object.__ne__"))
  ob : PySem.W.mroIn K C (.type "object") = some true
def rOwnCmp (C : Addr) (sp : Sp) (E : XK) (neg : Bool) : R2 := fun x y H Q => ∃ a b dx dy fs gs, x = .ref a ∧ y = .ref b ∧ H a = some (.ins C dx fs) ∧ H b = some (.ins C dy gs) ∧ sp [.ref a, .ref b] H (fun v H' => ∃ c, v = .bl c ∧ Q (.bl (if neg then !c else c)) H') E
section
variable {X : Cx} {CX : CXT} {k : Nat} {C f : Addr} {fd : FuncData} {ps : List Str} {sp : Sp} {E : XK}
theorem op_eqOwn (O : OwnEq X.K C f) (F : FnOk X.prog X.w X.K X.mg X.base CX k f fd ps sp) (hr : Room k X.A) (hb : Binds X.K fd ps []) (hx : Passes CX X E) : OpR X (compareOp .Eq) (rOwnCmp C sp E false) := by
  intro pins s σ H x y u v Q I rx ry h
  obtain ⟨a, b, dx, dy, fs, gs, rfl, rfl, ha, hb', q⟩ := h
  obtain rfl : u = Value.ref a := rx
  obtain rfl : v = Value.ref b := ry
  obtain ⟨ox, od, J⟩ := ownInst I ha
  obtain ⟨oy, oe, J'⟩ := ownInst I hb'
  obtain ⟨m, hF⟩ := I.fr
  have hu : X.A.units < cLine := Nat.lt_of_le_of_lt (Nat.le_add_right _ (16 * k + 200)) (by have := hr.un; rwa [Nat.add_assoc] at this)
  show wpAny _ _ (richCompare .Eq _ _) _ _ _
  refine PySem.W.cmp_K (op := .Eq) (tb := .ref C) hu hF I.ok.mod.kin J J'.type (by simp [PySem.W.notFirst]) O.eq O.fn (thn (tk_run ⟨hr, rfl⟩ F hb hx I (.cons (show RelV (.ref a) (.ref a) from rfl) (.cons (show RelV (.ref b) (.ref b) from rfl) .nil)) q) fun r s' hq => ?_)
  obtain ⟨z, H', I', rz, c, rfl, q'⟩ := hq
  cases rz
  exact ⟨.bl c, H', I', rfl, q'⟩
theorem op_neOwn (O : OwnEq X.K C f) (F : FnOk X.prog X.w X.K X.mg X.base CX k f fd ps sp) (hr : Room (k + 1) X.A) (hb : Binds X.K fd ps []) (hx : Passes CX X E) : OpR X (compareOp .NotEq) (rOwnCmp C sp E true) := by
  intro pins s σ H x y u v Q I rx ry h
  obtain ⟨a, b, dx, dy, fs, gs, rfl, rfl, ha, hb', q⟩ := h
  obtain rfl : u = Value.ref a := rx
  obtain rfl : v = Value.ref b := ry
  obtain ⟨ox, od, J⟩ := ownInst I ha
  obtain ⟨oy, oe, J'⟩ := ownInst I hb'
  have hu : X.A.units < cLine := Nat.lt_of_le_of_lt (Nat.le_add_right _ (16 * (k + 1) + 200)) (by have := hr.un; rwa [Nat.add_assoc] at this)
  have hu1 : X.A.in1.units < cLine := Nat.lt_of_le_of_lt (Nat.le_add_right _ (16 * k + 200)) (by have := hr.in1.un; rwa [Nat.add_assoc] at this)
  show wpAny _ _ (richCompare .NotEq _ _) _ _ _
  refine tk_ne (tb := .ref C) hu1 hu I.kIn J J'.type (by simp [PySem.W.notFirst]) O.ne O.ob O.eq O.fn (thn (tk_run ⟨hr.in1, rfl⟩ F hb hx I (.cons (show RelV (.ref a) (.ref a) from rfl) (.cons (show RelV (.ref b) (.ref b) from rfl) .nil)) q) fun r s' hq => ?_)
  obtain ⟨z, H', I', rz, c, rfl, q'⟩ := hq
  cases rz
  exact ⟨c, rfl, .bl (!c), H', I', rfl, q'⟩
end
end L2
/-! from k03/TkX -/
namespace L2
open PySem PySem.Spec PyProof.Rows
/-! ### a class's own methods, where an error may come out -/
section
variable {X : Cx} {CX : CXT} {k n : Nat} {C f : Addr} {fd : FuncData} {ps : List Str} {sp : Sp} {E : St → XK}
theorem tk_runS {A : Around} {pins : List (Addr × Obj)} {σ : St} {H : Hp} {s : Shared} {Q : VK} {us : List Value} {vs : List V} (sb : Sub X k A) (F : FnOk X.prog X.w X.K X.mg X.base CX k f fd ps sp) (hb : Binds X.K fd ps []) (hx : PassesAt CX X σ (E σ))
    (I : Inv X pins σ H s) (r : Vals vs us) (h : sp vs H Q (E σ)) : wpAny (model X.prog X.w) A (call (.ref f) us) (EP X pins σ Q) X.xe s := by
  have e := I.env0
  have e0 : Env0 X.prog X.w X.K X.mg X.base A X.stack s H := ⟨by rw [sb.fr]; exact e.frames, e.mod, e.bs, e.bsz, e.funs, e.frf, e.hok, e.bare⟩
  have hl : us.length = ps.length := r.length.symm.trans (F.len _ _ _ _ h)
  have bd := hb s us I.kIn (by simpa using hl)
  refine wpAny_call (codeAny_mono (F.run A X.stack s H ⟨us, []⟩ us vs Q (E σ) sb.room e0 (by simpa using bd) r h) fun res s' hq => ?_)
  match res, hq with
  | .error e, hq => exact hx pins H s e s' I hq
  | .ok (.ret u), hq => exact I.after hq
/-- o[i] by the class's own __getitem__, which may raise -/
def tIxS (C : Addr) (sp : Sp) (E : St → XK) (ta tb : TE) : TE := fun σ H Q => ta σ H fun x H1 => tb σ H1 fun y H2 => rOwn2 C sp (E σ) x y H2 Q
theorem ix_ownS {value slice : Expr} (M : OwnM X.K C "__getitem__" f) (hf : PySem.W.fnIn X.K f = true) (F : FnOk X.prog X.w X.K X.mg X.base CX k f fd ps sp) (hr : Room (k + 1) X.A) (hb : Binds X.K fd ps []) (hx : ∀ σ, PassesAt CX X σ (E σ))
    {a b : Expr} {ta tb : TE} {pos : Pos} (ha : PE X a ta) (hb2 : PE X b tb) (hs : ∀ o i, subscripted b true o i = runValue (.builtin "lifetime.subscript" ⟨[o, i], []⟩)) : PE X (.Subscript a b pos) (tIxS C sp E ta tb) := by
  refine ⟨fun pins s σ H Q I h => ?_⟩
  refine Subscript_ (binT ha hb2 I h fun v u s2 x y H2 I2 rx ry q => ?_)
  obtain ⟨p, dx, fs, rfl, hp, q⟩ := q
  obtain rfl : v = Value.ref p := rx
  obtain ⟨ox, od, J⟩ := ownInst I2 hp
  obtain ⟨m, hF⟩ := I2.fr
  refine PySem.W.sub_K hF I2.ok.mod.kin J M.at_ hf M.fn ?_ (hs _ _)
  exact tk_runS ⟨hr.in1, rfl⟩ F hb (hx σ) I2 (.cons (show RelV (.ref p) (.ref p) from rfl) (.cons ry .nil)) q
end
/-! ### an error class with one field -/
structure Ecl (K : PySem.W.Frag) (mg : Str → Option Value) (nm f : Str) (C fI : Addr) : Prop where
  gC : mg nm = some (.ref C)
  ox : OexC K C
  iC : PySem.W.findIn K (.ref C) "__init__" = some (some (.ref fI))
  tI : PySem.W.typeIn K (.ref fI) = some (.type "function")
  noF : PySem.W.findIn K (.ref C) f = some none
  xf : XfC K C
  cl : (PySem.W.clsIn K C).isSome = true
  ha : PySem.W.findIn K (.ref C) "__class__" = some (some (.builtin "object.__class__"))
  hn : PySem.W.specialIn K (.builtin "object.__class__") "__get__" = some (some (.builtin "getset_descriptor.__get__"))
  ht : PySem.W.takesIn K (.builtin "object.__class__") = some true
  hm : PySem.W.mroIn K C (.type "object") = some true
  te : PySem.W.exmOne K (.ref C) (.ref C) = some true
/-- what such an __init__ promises -/
def spEI (C : Addr) (f : Str) : Sp := fun vs H Q _ => ∃ (a : Addr) (v : V), vs = [.ref a, v] ∧ H a = some (exo a C none) ∧ ∀ dx, H dx = none → dx ≠ a → Q .non (upd (upd H dx (exd dx [(f, v)])) a (exo a C (some dx)))
/-- raise C(e) -/
theorem ps_raise1 {X : Cx} {W : WX} {nm f : Str} {C fI : Addr} {fd : FuncData} {ps : List Str} {e : Expr} {es : List Expr} {ta : TA} {p pos ppos : Pos} (hc : X.calm = true) (tk : Takes X W) (T : Ecl X.K X.mg nm f C fI) (F1 : FnOk X.prog X.w X.K X.mg X.base CX0 1 fI fd ps (spEI C f)) (hr : Room 2 X.A) (hb : Binds X.K fd ps [])
    (hg : Gl X nm) (ha : PA X (e :: es) ta) (hdb : (nm == ("__debug__" : Str)) = false := by decide) (he : starEach (e :: es) X.env = (false, eval e X.env) :: starEach es X.env := by rfl) (hpl : (backTo pos (starEach es X.env)).any (·.1) = false := by rfl) :
    PS X (.Raise (some (.Call (.Name nm p) (e :: es) [] pos)) none ppos) (fun _ σ H => tMkO C (spEI C f) [] ta σ H fun cls d H' => W cls d σ H') :=
  ps_raise (pos := ppos) hc tk (pmk_oex T.ox T.iC T.tI F1 hr hb .nil pass0 hg T.gC ha hdb he hpl)
theorem made1 {C : Addr} {f : Str} {v : V} {H1 : Hp} {Q : XK} (q : ∀ d, H1 d = none → Q (.ref C) (some d) (upd H1 d (.xd [(f, v)]))) : [v].length ≤ 1000 ∧ ∀ a, H1 a = none → spEI C f (.ref a :: ([v] ++ [])) (upd H1 a (exo a C none))
    (fun v H2 => v = .non ∧ ∃ (d : Addr) (fs : List (Str × V)), H2 a = some (exo a C (some d)) ∧ H2 d = some (exd d fs) ∧ H1 d = none ∧ Q (.ref C) (some d) (upd (del H2 a) d (.xd fs))) (fun _ _ _ => False) := by
  refine ⟨(by show 1 ≤ 1000; decide), fun a ha => ⟨a, v, rfl, upd_same, fun dx hd ne => ⟨rfl, dx, _, upd_same, by rw [upd_ne ne, upd_same], by rw [upd_ne ne] at hd; exact hd, ?_⟩⟩⟩
  have hd' : H1 dx = none := by rw [upd_ne ne] at hd; exact hd
  have e : upd (del (upd (upd (upd H1 a (exo a C none)) dx (exd dx [(f, v)])) a (exo a C (some dx))) a) dx (.xd [(f, v)]) = upd H1 dx (.xd [(f, v)]) := by
    funext b
    by_cases h1 : b = dx
    · rw [h1, upd_same, upd_same]
    · rw [upd_ne h1, upd_ne h1]
      by_cases h2 : b = a
      · rw [h2, del_same, ha]
      · rw [del_ne h2, upd_ne h2, upd_ne h1, upd_ne h2]
  rw [e]
  exact q dx hd'
/-- isinstance(e, c), e the caught error with its dict -/
def rIsX (K : PySem.W.Frag) (a : Addr) (cls : Value) (d : Option Addr) (D : Addr) : List V → Hp → VK → Prop := fun xs H Q => ∃ (c : V) (cv : Value) (b : Bool) (dd : Addr) (fs : List (Str × V)), cls = .ref D ∧ d = some dd ∧ H dd = some (.xd fs) ∧ xs = [.ref a, c] ∧ (∀ u, RelV c u → u = cv) ∧ PySem.W.kitOne K (.ref D) cv = some b ∧ Q (.bl b) H
theorem call_isX {X : Cx} {a D : Addr} {cls : Value} {d : Option Addr} {nm f : Str} {fI : Addr} {mg : Str → Option Value} {oe : Obj} {pn : List (Addr × Obj)} (T : Ecl X.K mg nm f D fI) (hz : Zc cls d oe) (hf : ∃ vs, oe.data = .fields vs) :
    CallR (X.suite a ((a, oe) :: pn)) (.builtin "isinstance") (rIsX X.K a cls d D) := by
  rintro pins s σ H xs us Q I r ⟨c, cv, b, dd, fs, rfl, rfl, ea, rfl, hcv, e, q⟩
  obtain ⟨u1, u2, rfl, r1, r2⟩ : ∃ u1 u2, us = [u1, u2] ∧ RelV (.ref a) u1 ∧ RelV c u2 := by
    cases r with
    | cons p1 t1 => cases t1 with
      | cons p2 t2 => cases t2; exact ⟨_, _, rfl, p1, p2⟩
  obtain rfl : u1 = Value.ref a := r1
  rw [hcv u2 r2]
  have own := (I.pin (a, oe) (List.mem_append_left _ List.mem_cons_self)).1
  obtain ⟨vs, isF⟩ := hf
  obtain ⟨mA, named, _⟩ := show ObjOk X.prog X.w H s.heap dd (.xd fs) from I.hok dd _ ea
  obtain ⟨od, at_, _⟩ := lookIn_ns named
  have J : PySem.W.InstAt s.heap a oe D (some od) := by
    refine ⟨own, hz.1, ?_, by rw [hz.2]; exact at_⟩
    unfold PySem.W.notCls
    rw [isF] <;> rfl
  have kit := PySem.W.kitx_exc (x := a) (ox := oe) (od := some od) T.cl T.xf.ga T.xf.gg T.xf.exC T.ha T.hn T.ht T.hm
  exact PySem.W.kia_one kit I.kIn J e (fun z => nomatch z) fun tk => ⟨.bl b, H, I.kept (t' := tk) fun _ _ z => z, rfl, q⟩
/-- x == x, for data and for empty dicts -/
def Slf (K : PySem.W.Frag) (H : Hp) (v : V) : Prop := (∃ d, Dp K H v d ∧ SeqAt.shaped d = true ∧ PyData.eqv d d = true) ∨ ∃ a, v = .ref a ∧ H a = some (.dK [])
def rSlf (K : PySem.W.Frag) : R2 := fun x y H Q => x = y ∧ Slf K H x ∧ Q (.bl true) H
theorem op_slf {X : Cx} (hu : X.A.units + 64 < cLine) : OpR X (compareOp .Eq) (rSlf X.K) := by
  intro pins s σ H x y v u Q I rx ry h
  obtain ⟨rfl, h, q⟩ := h
  rcases h with ⟨d, h1, h2, h3⟩ | ⟨a, rfl, h⟩
  · exact op_eqD hu pins s σ H x x v u Q I rx ry ⟨d, d, h1, h1, h2, h2, by rw [h3]; exact q⟩
  · exact op_eqV hu pins s σ H _ _ v u Q I rx ry ⟨1, by decide, .inr ⟨a, a, [], [], rfl, rfl, h, h, rfl, fun p hp => nomatch hp⟩, q⟩
end L2
/-! from k02/TkDe -/
namespace L2
open PySem PySem.Spec PyProof.Rows
/-- what an __init__(self, place, why) of an error class promises -/
def spEI2 (C : Addr) : Sp := fun vs H Q _ => ∃ (a : Addr) (v w : V), vs = [.ref a, v, w] ∧ H a = some (exo a C none) ∧ ∀ dx, H dx = none → dx ≠ a → Q .non (upd (upd (upd H dx (exd dx [("place", v)])) a (exo a C (some dx))) dx (exd dx [("why", w), ("place", v)]))
theorem ps_raise2 {X : Cx} {W : WX} {nm f : Str} {C fI : Addr} {fd : FuncData} {ps : List Str} {e : Expr} {es : List Expr} {ta : TA} {p pos ppos : Pos} (hc : X.calm = true) (tk : Takes X W) (T : Ecl X.K X.mg nm f C fI) (F1 : FnOk X.prog X.w X.K X.mg X.base CX0 1 fI fd ps (spEI2 C)) (hr : Room 2 X.A) (hb : Binds X.K fd ps [])
    (hg : Gl X nm) (ha : PA X (e :: es) ta) (hdb : (nm == ("__debug__" : Str)) = false := by decide) (he : starEach (e :: es) X.env = (false, eval e X.env) :: starEach es X.env := by rfl) (hpl : (backTo pos (starEach es X.env)).any (·.1) = false := by rfl) :
    PS X (.Raise (some (.Call (.Name nm p) (e :: es) [] pos)) none ppos) (fun _ σ H => tMkO C (spEI2 C) [] ta σ H fun cls d H' => W cls d σ H') :=
  ps_raise (pos := ppos) hc tk (pmk_oex T.ox T.iC T.tI F1 hr hb .nil pass0 hg T.gC ha hdb he hpl)
theorem made2 {C : Addr} {v w : V} {H1 : Hp} {Q : XK} (q : ∀ d, H1 d = none → Q (.ref C) (some d) (upd H1 d (.xd [("why", w), ("place", v)]))) : [v, w].length ≤ 1000 ∧ ∀ a, H1 a = none → spEI2 C (.ref a :: ([v, w] ++ [])) (upd H1 a (exo a C none))
    (fun v H2 => v = .non ∧ ∃ (d : Addr) (fs : List (Str × V)), H2 a = some (exo a C (some d)) ∧ H2 d = some (exd d fs) ∧ H1 d = none ∧ Q (.ref C) (some d) (upd (del H2 a) d (.xd fs))) (fun _ _ _ => False) := by
  refine ⟨(by show 2 ≤ 1000; decide), fun a ha => ⟨a, v, w, rfl, upd_same, fun dx hd ne => ⟨rfl, dx, _, (by rw [upd_ne ne.symm, upd_same]), upd_same, by rw [upd_ne ne] at hd; exact hd, ?_⟩⟩⟩
  have hd' : H1 dx = none := by rw [upd_ne ne] at hd; exact hd
  have e : upd (del (upd (upd (upd (upd H1 a (exo a C none)) dx (exd dx [("place", v)])) a (exo a C (some dx))) dx (exd dx [("why", w), ("place", v)])) a) dx (.xd [("why", w), ("place", v)]) = upd H1 dx (.xd [("why", w), ("place", v)]) := by
    funext b
    by_cases h1 : b = dx
    · rw [h1, upd_same, upd_same]
    · rw [upd_ne h1, upd_ne h1]
      by_cases h2 : b = a
      · rw [h2, del_same, ha]
      · rw [del_ne h2, upd_ne h1, upd_ne h2, upd_ne h1, upd_ne h2]
  rw [e]
  exact q dx hd'
end L2
/-! from k02/TkMX -/
namespace L2
open PySem PySem.Spec PyProof.Rows
section
variable {X : Cx} {CX : CXT} {k : Nat} {f C : Addr} {fd : FuncData} {ps : List Str} {sp : Sp} {E : St → XK} {m : Str} {pos apos : Pos} {e o : Expr} {es : List Expr} {ta : TE} {t : TA}
/-- o.m(e, ..), where an error may come out, as the wish at these slots says -/
def tMethXS (C : Addr) (m : Str) (sp : Sp) (E : St → XK) (ta : TE) (t : TA) : TE := fun σ H Q => ta σ H fun x H1 => ∃ a dx fs, x = .ref a ∧ H1 a = some (.ins C dx fs) ∧ fs.lookup m = none ∧ t σ H1 fun vs H2 => sp (x :: vs) H2 Q (E σ)
abbrev mcall (X : Cx) (o : Expr) (m : Str) (apos pos : Pos) (es : List Expr) (pl : Sem Bool) : Sem Value := (do let ov ← eval o X.env; standAt apos.atName; let (g, one) ← holding [ov] (getMethod ov m pl); callWith pos g one (backTo pos (starEach es X.env)) (backToKw pos (keywordEach [] X.env)))
theorem pe_methXS {pl : Sem Bool} (he : PE X o ta) (c : Cls X.K C) (hm : Meth X.K C m f) (F : FnOk X.prog X.w X.K X.mg X.base CX k f fd ps sp) (hr : Room k X.A) (hb : Binds X.K fd ps []) (hx : ∀ σ, PassesAt CX X σ (E σ)) (ha : PA X (e :: es) t)
    (ht : eval (.Call (.Attribute o m apos) (e :: es) [] pos) X.env = mcall X o m apos pos (e :: es) pl := by rfl) (h1 : starEach (e :: es) X.env = (false, eval e X.env) :: starEach es X.env := by rfl) (h2 : (backTo pos (starEach es X.env)).any (·.1) = false := by rfl) :
    PE X (.Call (.Attribute o m apos) (e :: es) [] pos) (tMethXS C m sp E ta t) := by
  constructor
  intro pins s σ H Q I h
  refine PySem.W.methodCall_KW (pl := pl) (thn (he.run pins s σ H _ I h) fun u s1 q => ?_) ht
  obtain ⟨_, H1, I1, ru, a, dx, fs, rfl, ea, l, q⟩ := q
  have eu : u = Value.ref a := ru
  subst eu
  refine getmeth_ok I1 ea c hm l (PySem.W.callWith_K (first := [.ref a]) (h₀ := X.base) I.ok.mod.kin hm.kp (thn (ha.run pos pins s1 σ H1 _ I1 q) fun us s2 q2 => ?_) h1 h2)
  obtain ⟨vs, H2, I2, r, q2⟩ := q2
  exact ⟨I2.kIn, run_fnS (us := .ref a :: us) (vs := .ref a :: vs) F hr hb (hx σ) I2 (.cons rfl r) q2⟩
end
end L2
/-! from k02/TkNS -/
namespace L2
open PySem PySem.Spec PyProof.Rows
/-- a != b, two tuples of the very same items -/
def rNeS (K : PySem.W.Frag) : R2 := fun x y H Q => ∃ (a b : Addr) (xs : List V), x = .ref a ∧ y = .ref b ∧ SqT K H a xs ∧ SqT K H b xs ∧ (∀ v ∈ xs, flatB v = true ∨ ∃ c, v = .ref c) ∧ Q (.bl false) H
theorem same_items {A : Around} {s : Shared} {xs : List V} : ∀ {us ws : List Value}, Vals xs us → Vals xs ws → (∀ v ∈ xs, flatB v = true ∨ ∃ c, v = .ref c) → ∀ j (h1 : j < us.length) (h2 : j < ws.length), SeqAt.EqAt A s us[j] ws[j] true := by
  induction xs with
  | nil => intro us ws r1 r2 hf j h1 h2; cases r1; exact absurd h1 (Nat.not_lt_zero j)
  | cons x r ih =>
    intro us ws r1 r2 hf j h1 h2
    cases r1 with
    | cons a1 b1 =>
      cases r2 with
      | cons a2 b2 =>
        cases j with
        | zero =>
          rcases hf x List.mem_cons_self with f | ⟨c, rfl⟩
          · exact eqAt_same a1 a2 f
          · cases (show _ = Value.ref c from a1)
            cases (show _ = Value.ref c from a2)
            exact SeqAt.EqAt.same _
        | succ j => exact ih b1 b2 (fun v m => hf v (List.mem_cons_of_mem _ m)) j (Nat.lt_of_succ_lt_succ h1) (Nat.lt_of_succ_lt_succ h2)
theorem op_neS {X : Cx} (hu : X.A.units < cLine) : OpR X (compareOp .NotEq) (rNeS X.K) := by
  intro pins s σ H x y v u Q I rx ry h
  obtain ⟨a, b, xs, rfl, rfl, ha, hb, hf, q⟩ := h
  obtain rfl : v = Value.ref a := rx
  obtain rfl : u = Value.ref b := ry
  obtain ⟨us, r1, p1, _⟩ := I.tuple ha
  obtain ⟨ws, r2, p2, _⟩ := I.tuple hb
  have hl : us.length = ws.length := by rw [← r1.length, ← r2.length]
  have z := SeqAt.RcNeAt.tuples (A := X.A) (s := s) (e := fun _ => true) (l := a) (b := b) (items := us.toArray) (items2 := ws.toArray) p1 p2 hu (fun j h1 h2 => by
    have k := same_items (A := X.A.in1) (s := s) r1 r2 hf j (by simpa using h1) (by simpa using h2)
    simpa using k)
  have e : (!((List.range (min us.toArray.size ws.toArray.size)).all (fun _ => true) && us.toArray.size == ws.toArray.size)) = false := by
    rw [show ((List.range (min us.toArray.size ws.toArray.size)).all fun _ => true) = true from List.all_eq_true.mpr fun _ _ => rfl]
    simp [hl]
  rw [e] at z
  exact z X.prog X.w _ _ ⟨.bl false, H, I, rfl, q⟩
/-! ### C(e, ..) where an error may come out of its __init__, as the wish at these slots says -/
def tMakeS (C : Addr) (sp : Sp) (E : St → XK) (t : TA) : TE := fun σ H Q => t σ H fun vs H1 => ∀ x dx, H1 x = none → H1 dx = none → dx ≠ x → sp (.ref x :: vs) (upd (upd H1 dx (.own x)) x (.ins C dx [])) (fun v H2 => v = .non ∧ Q (.ref x) H2) (E σ)
theorem pe_makeS {X : Cx} {CX : CXT} {k : Nat} {C f : Addr} {fd : FuncData} {ps : List Str} {sp : Sp} {E : St → XK} {x : Str} {p pos : Pos} {e : Expr} {es : List Expr} {t : TA} (M : Mk X.K C f) (F : FnOk X.prog X.w X.K X.mg X.base CX k f fd ps sp) (hr : Room (k + 1) X.A) (hg : Gl X x) (hm : X.mg x = some (.ref C)) (hb : Binds X.K fd ps []) (hx : ∀ σ, PassesAt CX X σ (E σ))
    (ha : PA X (e :: es) t) (hdb : (x == ("__debug__" : Str)) = false := by decide) (he : starEach (e :: es) X.env = (false, eval e X.env) :: starEach es X.env := by rfl) (hpl : (backTo pos (starEach es X.env)).any (·.1) = false := by rfl) :
    PE X (.Call (.Name x p) (e :: es) [] pos) (tMakeS C sp E t) := by
  constructor
  intro pins s σ H Q I h
  refine wpAny_Call_Name_kw (ld_glob I hg hm ?_ hdb)
  refine PySem.W.callWith_K (h₀ := X.base) I.ok.mod.kin M.kp (thn (ha.run pos pins s σ H _ I h) fun us s1 z => ?_) he hpl
  obtain ⟨vs, H1, J, r, q⟩ := z
  refine ⟨J.kIn, ?_⟩
  have q1 := q (s1.heap.objs.size + 1) s1.heap.objs.size (J.hok.fresh (Nat.le_succ _)) (J.hok.fresh (Nat.le_refl _)) (Nat.ne_of_lt (Nat.lt_succ_self _))
  have J2 := Inv.made (C := C) J
  have rr : Vals (V.ref (s1.heap.objs.size + 1) :: vs) (Value.ref (s1.heap.objs.size + 1) :: us) := .cons rfl r
  have hl : (Value.ref (s1.heap.objs.size + 1) :: us ++ []).length = ps.length := by
    rw [List.append_nil, ← rr.length]; exact F.len _ _ _ _ q1
  have bd := hb _ (Value.ref (s1.heap.objs.size + 1) :: us) J2.kIn hl
  rw [List.append_nil] at bd
  refine wpAny_call (make_map (f := f) J.kIn M.makes M.init (beq_iff_eq.mp M.fn) (codeAny_mono (F.run _ X.stack _ _ ⟨Value.ref (s1.heap.objs.size + 1) :: us, []⟩ _ _ _ (E σ) (hr.make C us []) (J2.env0.make C us []) bd rr q1) fun res s' hq => ?_))
  match res, hq with
  | .error err, hq => exact hx σ pins _ _ err s' J2 hq
  | .ok (.ret u), hq =>
    obtain ⟨v, H', J3, rv, ev, q3⟩ := J2.after hq
    subst ev
    exact ⟨rv, ⟨V.ref (s1.heap.objs.size + 1), H', J3, rfl, q3⟩⟩
end L2
/-! from k06/TkKS -/
namespace L2
open PySem PySem.Spec PyProof.Rows
/-- C(e, .., k = v, ..), where an error may come out of its __init__, as the wish at these slots says -/
def tMakeKS (C : Addr) (n m : Nat) (sp : Sp) (gV : List V → List V → List V) (E : St → XK) (t tk : TA) : TE := fun σ H Q => t σ H fun vs H1 => tk σ H1 fun zs H2 => vs.length = n ∧ zs.length = m ∧ ∀ x dx, H2 x = none → H2 dx = none → dx ≠ x →
  sp (gV (.ref x :: vs) zs) (upd (upd H2 dx (.own x)) x (.ins C dx [])) (fun v H3 => v = .non ∧ Q (.ref x) H3) (E σ)
section
variable {X : Cx} {CX : CXT} {k n : Nat} {f C : Addr} {fd : FuncData} {ps ks : List Str} {sp : Sp} {E : St → XK} {x : Str} {p pos : Pos} {e : Expr} {es : List Expr} {kws : List Keyword} {t tk : TA} {g : List Value → List Value → List Value} {gV : List V → List V → List V}
theorem run_makeKS {pins : List (Addr × Obj)} {σ : St} {H : Hp} {s : Shared} {Q : VK} {us ws : List Value} {vs zs : List V} {E : XK} (M : Mk X.K C f) (F : FnOk X.prog X.w X.K X.mg X.base CX k f fd ps sp) (hr : Room (k + 1) X.A) (hb : KBn X.K fd ps (n + 1) ks g gV) (hx : PassesAt CX X σ E)
    (I : Inv X pins σ H s) (r : Vals vs us) (rz : Vals zs ws) (l1 : vs.length = n) (l2 : zs.length = ks.length)
    (h : ∀ x dx, H x = none → H dx = none → dx ≠ x → sp (gV (.ref x :: vs) zs) (upd (upd H dx (.own x)) x (.ins C dx [])) (fun v H2 => v = .non ∧ Q (.ref x) H2) E) :
    wpAny (model X.prog X.w) X.A (call (.ref C) us (ks.zip ws)) (EP X pins σ Q) X.xe s := by
  have hq := h (s.heap.objs.size + 1) s.heap.objs.size (I.hok.fresh (Nat.le_succ _)) (I.hok.fresh (Nat.le_refl _)) (Nat.ne_of_lt (Nat.lt_succ_self _))
  have I2 := Inv.made (C := C) I
  have r1 : Vals (V.ref (s.heap.objs.size + 1) :: vs) (Value.ref (s.heap.objs.size + 1) :: us) := .cons rfl r
  have r2 := hb.rel r1 rz
  have n1 : (Value.ref (s.heap.objs.size + 1) :: us).length = n + 1 := by
    rw [List.length_cons, ← r.length, l1]
  refine wpAny_call (make_map (f := f) I.kIn M.makes M.init (beq_iff_eq.mp M.fn) (codeAny_mono (F.run _ X.stack _ _ ⟨Value.ref (s.heap.objs.size + 1) :: us, ks.zip ws⟩ (g (Value.ref (s.heap.objs.size + 1) :: us) ws) _ _ E (hr.make C us (ks.zip ws))
    (I2.env0.make C us (ks.zip ws)) (hb.to _ (Value.ref (s.heap.objs.size + 1) :: us) ws I2.kIn n1 (rz.length.symm.trans l2)) r2 hq) fun r s' hq' => ?_))
  cases r with
  | error e => exact hx pins _ _ e s' I2 hq'
  | ok fl =>
    cases fl with
    | ret u =>
      obtain ⟨v, H', I3, rv, ev, q3⟩ := I2.after hq'
      subst ev
      exact ⟨rv, ⟨V.ref (s.heap.objs.size + 1), H', I3, rfl, q3⟩⟩
    | next => exact False.elim hq'
    | brk => exact False.elim hq'
    | cont => exact False.elim hq'
theorem pe_makeKS (M : Mk X.K C f) (F : FnOk X.prog X.w X.K X.mg X.base CX k f fd ps sp) (hr : Room (k + 1) X.A) (hg : Gl X x) (hm : X.mg x = some (.ref C)) (hb : KBn X.K fd ps (n + 1) ks g gV) (hx : ∀ σ, PassesAt CX X σ (E σ)) (ha : PA X (e :: es) t) (hkw : PK X kws tk)
    (hall : (backToKw pos (keywordEach kws X.env)).all (·.1.isSome) = true := by rfl) (hks : (backToKw pos (keywordEach kws X.env)).filterMap (·.1) = ks := by rfl) (hdb : (x == ("__debug__" : Str)) = false := by decide)
    (he : starEach (e :: es) X.env = (false, eval e X.env) :: starEach es X.env := by rfl) (hpl : ((backTo pos (starEach (e :: es) X.env)).any (·.1) || (backToKw pos (keywordEach kws X.env)).any (·.1.isNone)) = false := by rfl) :
    PE X (.Call (.Name x p) (e :: es) kws pos) (tMakeKS C n ks.length sp gV E t tk) := by
  refine ⟨fun pins s σ H Q I h => ?_⟩
  refine wpAny_Call_Name_kw (ld_glob I hg hm ?_ hdb)
  refine PySem.W.callWith_KW (h₀ := X.base) I.ok.mod.kin M.kp hall (thn (ha.run pos pins s σ H _ I h) fun us s1 ⟨vs, H1, I1, r, q⟩ => ?_) hpl he
  refine thn (hkw.run pos pins s1 σ H1 _ I1 q) fun ws s2 ⟨zs, H2, I2, rz, l1, l2, q2⟩ => ⟨I2.kIn, ?_⟩
  rw [hks]
  exact run_makeKS M F hr hb (hx σ) I2 r rz l1 l2 q2
end
end L2
/-! from k07/TkSK -/
namespace StK
open PySem PySem.Spec PyProof.Rows L2 StX
/-- what the reading of defaults leaves to do -/
def KwTail {α : Type} (D : Addr) : List (Str × Value) → Sem α → Sem α → Prop
  | [], t, r => t = r
  | q :: l, t, r => ∃ (β γ : Type) (k1 : Option Value → Sem β) (k2 : β → Sem γ) (k3 : γ → Sem α) (a : β), t = ((nsGet D q.1 >>= k1) >>= k2) >>= k3 ∧ k1 (some q.2) = pure a ∧ KwTail D l (k2 a >>= k3) r
theorem KwTail.wp {α : Type} {K : PySem.W.Frag} {M : Model} {A : Around} {s : Shared} {D : Addr} {Q : α → Shared → Prop} {E : Value → Shared → Prop} (X : K.In s.heap) : ∀ {l : List (Str × Value)} {t r : Sem α}, (∀ q ∈ l, PySem.W.nsIn K D q.1 = some (some q.2)) → KwTail D l t r → wpAny M A r Q E s → wpAny M A t Q E s
  | [], t, r, _, e, h => by
    rw [show t = r from e]; exact h
  | q :: l, t, r, hl, e, h => by
    obtain ⟨β, γ, k1, k2, k3, a, e1, e2, e3⟩ := e
    have l1 : PySem.W.Looks M s.heap (nsGet D q.1 >>= k1) a := (PySem.W.looks_nsIn X (hl q (List.mem_cons_self ..))).andThen (PySem.W.Looks.of_pure e2)
    rw [e1, bind_assoc]
    exact wpAny_bind (l1.here (KwTail.wp X (fun p hp => hl p (List.mem_cons_of_mem _ hp)) e3 h))
/-- a def that is called with the keywords ks -/
def FnRK (P : Program) (w : World) (K : PySem.W.Frag) (mg : Str → Option Value) (base : Heap) (CX : CXT) (k : Nat) (f : Addr) (ks : List Str) (sp : List V → Sp) : Prop :=
  ∀ (A : Around) (outer : List Env) (s : Shared) (H : Hp) (us ws : List Value) (vs zs : List V) (Q : VK) (E : XK), Room k A → Env0 P w K mg base A outer s H → Vals vs us → Vals zs ws → zs.length = ks.length → sp zs vs H Q E →
    codeAny (model P w) A (.call (.ref f) ⟨us, ks.zip ws⟩) (CR CX outer P w H s Q E) s
section
variable {CX : CXT} {P : Program} {w : World} {K : PySem.W.Frag} {mg : Str → Option Value} {base : Heap} {k n : Nat} {f D : Addr} {name qual : Str} {params : Arguments} {body : List Stmt} {scope : Scope} {doc pm cdv ct oc : Value} {an od : Option Addr}
  {osl : Array (Option Value)} {N ps ks : List Str} {ms : List (Str × V)} {sp : Sp} {pv : Str}
theorem fn_starK (lk : K.lookup f = some ⟨oc, od, .func (PySem.W.fnOf name qual params body scope .none (.ref D) doc pm an cdv ct), osl⟩) (hcd : PySem.W.codeIn K cdv qual = true) (S : FnScope N (ps ++ [pv]) scope) (hCX : CXUp CX)
    (hms : ∀ q ∈ ms, ∃ u, PySem.W.nsIn K D q.1 = some (some u) ∧ RelV q.2 u) (g : {α : Type} → List α → List α → List α → List α)
    (hrel : ∀ {vs mz zs : List V} {us mv ws : List Value}, Vals vs us → Vals mz mv → Vals zs ws → Vals (g vs mz zs) (g us mv ws))
    (hlen : ∀ {α : Type} (us mv ws : List α), us.length = n → mv.length = ms.length → ws.length = ks.length → (g us mv ws).length = ps.length)
    (hb : ∀ us rest mv ws : List Value, us.length = n → mv.length = ms.length → ws.length = ks.length → KwTail D ((ms.map (·.1)).zip mv) (bindArgs (PySem.W.fnOf name qual params body scope .none (.ref D) doc pm an cdv ct) ⟨us ++ rest, ks.zip ws⟩) (newTuple rest >>= fun t => pure (ps.zip (g us mv ws) ++ [(pv, t)])))
    (hbody : ∀ (A : Around) (outer : List Env) (s : Shared) (H : Hp) (vs : List V) (Q : VK) (E : XK), Room k (A.deeper (envOfC qual scope s.heap.objs.size f cdv)) → sp vs H Q E →
      ∃ t, PSs (cxOf CX P w K mg base N qual scope f cdv A outer s H E) body t ∧ t { nx := fun _ H' => Q .non H', rt := Q } (start N vs) H) :
    FnRK P w K mg base CX (k + 1) f ks (fun zs vs H Q E => ∃ ws rest, vs = ws ++ rest ∧ ws.length = n ∧ rest.length ≤ sizeLine ∧ ∀ p, H p = Option.none → sp (g ws (ms.map (·.2)) zs ++ [V.ref p]) (upd H p (.tup rest)) Q E) := by
  intro A outer s H us wz vs zs Q E hr e0 r rz hz hsp
  obtain ⟨ws, rest, ev, hl, hs, hq⟩ := hsp
  subst ev
  obtain ⟨u1, u2, eu, r1, r2⟩ := vals_split r
  subst eu
  obtain ⟨mv, ml, rm, hks⟩ := kwd_vals hms
  have KX : K.In s.heap := e0.mod.kin.keeps fun b o e => (e0.bs b o e).1
  have hn : H s.heap.objs.size = Option.none := e0.hok.fresh (Nat.le_refl _)
  have hl1 : u1.length = n := by rw [← r1.length]; exact hl
  have hl2 : u2.length ≤ sizeLine := by rw [← r2.length]; exact hs
  have hlz : wz.length = ks.length := by rw [← rz.length]; exact hz
  have rg := hrel r1 rm rz
  have lg : (g u1 mv wz).length = ps.length := hlen _ _ _ hl1 ml hlz
  have lg' : (g ws (ms.map (·.2)) zs).length = ps.length := by rw [rg.length]; exact lg
  refine run_bnd lk hcd S hr e0 (G := fun xs H2 => ∃ p, H p = Option.none ∧ xs = g ws (ms.map (·.2)) zs ++ [V.ref p] ∧ H2 = upd H p (.tup rest)) (fun A' Ex Q' h => ?_) fun s2 H2 xs ⟨p, hp, ex, eH⟩ hr' => ?_
  · refine KwTail.wp KX hks (hb u1 u2 mv wz hl1 ml hlz) ?_
    refine wpAny_bind (wpAny_newTuple (wpAny_pure ?_) hl2)
    have new : ObjOk P w (upd H s.heap.objs.size (.tup rest)) (s.heap.push ({ cls := .type "tuple", data := .seq u2.toArray } : Obj)) s.heap.objs.size (.tup rest) := ⟨hs, u2, r2, ⟨_, Heap.get?_push_size _ rfl, rfl, _, rfl⟩⟩
    have un := un_laid (fs := frs outer) (s := s) (o := ({ cls := .type "tuple", data := .seq u2.toArray } : Obj)) (u := .tup rest) hn
    have z := h _ _ (g ws (ms.map (·.2)) zs ++ [V.ref s.heap.objs.size]) (g u1 mv wz ++ [Value.ref s.heap.objs.size]) (env0_laid e0 new) un rfl (fun e s' => hCX outer s H _ _ E e s' un (fun b o q => Heap.get?_push_of_some _ q) rfl) (rg.append (.cons rfl .nil))
      (by rw [List.length_append, List.length_append, lg'] <;> rfl) ⟨_, hn, rfl, rfl⟩
    rw [List.zip_append lg.symm] at z
    exact z
  · subst ex eH
    exact hbody A outer s2 _ _ Q E hr' (hq p hp)
end
/-! ### C(e, .., k = v, ..) of such an __init__, where an error may come out -/
def tMakeRK (C : Addr) (m : Nat) (sp : List V → Sp) (E : L2.St → XK) (t tk : TA) : TE := fun σ H Q => t σ H fun vs H1 => tk σ H1 fun zs H2 => zs.length = m ∧ ∀ x dx, H2 x = none → H2 dx = none → dx ≠ x →
  sp zs (V.ref x :: vs) (upd (upd H2 dx (.own x)) x (.ins C dx [])) (fun v H3 => v = .non ∧ Q (.ref x) H3) (E σ)
section
variable {X : Cx} {CX : CXT} {k : Nat} {f C : Addr} {ks : List Str} {sp : List V → Sp} {E : L2.St → XK} {x : Str} {p pos : Pos} {e : Expr} {es : List Expr} {kws : List Keyword} {t tk : TA}
theorem run_makeRK {pins : List (Addr × Obj)} {σ : L2.St} {H : Hp} {s : Shared} {Q : VK} {us ws : List Value} {vs zs : List V} {E : XK} (M : Mk X.K C f) (F : FnRK X.prog X.w X.K X.mg X.base CX k f ks sp) (hr : Room (k + 1) X.A) (hx : PassesAt CX X σ E)
    (I : Inv X pins σ H s) (r : Vals vs us) (rz : Vals zs ws) (l2 : zs.length = ks.length)
    (h : ∀ x dx, H x = none → H dx = none → dx ≠ x → sp zs (V.ref x :: vs) (upd (upd H dx (.own x)) x (.ins C dx [])) (fun v H2 => v = .non ∧ Q (.ref x) H2) E) :
    wpAny (model X.prog X.w) X.A (call (.ref C) us (ks.zip ws)) (EP X pins σ Q) X.xe s := by
  have hq := h (s.heap.objs.size + 1) s.heap.objs.size (I.hok.fresh (Nat.le_succ _)) (I.hok.fresh (Nat.le_refl _)) (Nat.ne_of_lt (Nat.lt_succ_self _))
  have I2 := Inv.made (C := C) I
  have r1 : Vals (V.ref (s.heap.objs.size + 1) :: vs) (Value.ref (s.heap.objs.size + 1) :: us) := .cons rfl r
  refine wpAny_call (make_map (f := f) I.kIn M.makes M.init (beq_iff_eq.mp M.fn) (codeAny_mono (F _ X.stack _ _ (Value.ref (s.heap.objs.size + 1) :: us) ws _ _ _ E (hr.make C us (ks.zip ws)) (I2.env0.make C us (ks.zip ws)) r1 rz l2 hq) fun r s' hq' => ?_))
  cases r with
  | error e => exact hx pins _ _ e s' I2 hq'
  | ok fl =>
    cases fl with
    | ret u =>
      obtain ⟨v, H', I3, rv, ev, q3⟩ := I2.after hq'
      subst ev
      exact ⟨rv, ⟨V.ref (s.heap.objs.size + 1), H', I3, rfl, q3⟩⟩
    | next => exact False.elim hq'
    | brk => exact False.elim hq'
    | cont => exact False.elim hq'
theorem pe_makeRK0 (M : Mk X.K C f) (F : FnRK X.prog X.w X.K X.mg X.base CX k f ks sp) (hr : Room (k + 1) X.A) (hg : Gl X x) (hm : X.mg x = some (.ref C)) (hx : ∀ σ, PassesAt CX X σ (E σ)) (hkw : PK X kws tk)
    (hall : (backToKw pos (keywordEach kws X.env)).all (·.1.isSome) = true := by rfl) (hks : (backToKw pos (keywordEach kws X.env)).filterMap (·.1) = ks := by rfl) (hdb : (x == ("__debug__" : Str)) = false := by decide)
    (hpl : ((backTo pos (starEach [] X.env)).any (·.1) || (backToKw pos (keywordEach kws X.env)).any (·.1.isNone)) = false := by rfl) :
    PE X (.Call (.Name x p) [] kws pos) (tMakeRK C ks.length sp E tNil tk) := by
  refine ⟨fun pins s σ H Q I h => ?_⟩
  refine wpAny_Call_Name_kw (ld_glob I hg hm ?_ hdb)
  refine PySem.W.callWith_KW0 (h₀ := X.base) I.ok.mod.kin M.kp hall ?_ hpl
  refine thn (hkw.run pos pins s σ H _ I h) fun ws s2 ⟨zs, H2, I2, rz, l2, q2⟩ => ⟨I2.kIn, ?_⟩
  rw [hks]
  exact run_makeRK (us := []) (vs := []) M F hr (hx σ) I2 .nil rz l2 q2
theorem pe_makeRK (M : Mk X.K C f) (F : FnRK X.prog X.w X.K X.mg X.base CX k f ks sp) (hr : Room (k + 1) X.A) (hg : Gl X x) (hm : X.mg x = some (.ref C)) (hx : ∀ σ, PassesAt CX X σ (E σ)) (ha : PA X (e :: es) t) (hkw : PK X kws tk)
    (hall : (backToKw pos (keywordEach kws X.env)).all (·.1.isSome) = true := by rfl) (hks : (backToKw pos (keywordEach kws X.env)).filterMap (·.1) = ks := by rfl) (hdb : (x == ("__debug__" : Str)) = false := by decide)
    (he : starEach (e :: es) X.env = (false, eval e X.env) :: starEach es X.env := by rfl) (hpl : ((backTo pos (starEach (e :: es) X.env)).any (·.1) || (backToKw pos (keywordEach kws X.env)).any (·.1.isNone)) = false := by rfl) :
    PE X (.Call (.Name x p) (e :: es) kws pos) (tMakeRK C ks.length sp E t tk) := by
  refine ⟨fun pins s σ H Q I h => ?_⟩
  refine wpAny_Call_Name_kw (ld_glob I hg hm ?_ hdb)
  refine PySem.W.callWith_KW (h₀ := X.base) I.ok.mod.kin M.kp hall (thn (ha.run pos pins s σ H _ I h) fun us s1 ⟨vs, H1, I1, r, q⟩ => ?_) hpl he
  refine thn (hkw.run pos pins s1 σ H1 _ I1 q) fun ws s2 ⟨zs, H2, I2, rz, l2, q2⟩ => ⟨I2.kIn, ?_⟩
  rw [hks]
  exact run_makeRK M F hr (hx σ) I2 r rz l2 q2
end
end StK
/-! from k09/TkRS -/
namespace PySem.W
open PySem
section
variable {M : Model} {A : Around} {E : Value → Shared → Prop} {s : Shared}
theorem ks_lone_kw {f : Value} {x : Sem Value} {pos : Pos} {kws : List (Option Str × Sem Value)} {Q : Args → Shared → Prop} (hall : kws.all (·.1.isSome) = true)
    (h : wpAny M A x (fun v s₁ => wpAny M A (evalAll (kws.map (·.2))) (fun ks s₂ => StarOf M A E v (fun vs s₃ => Q ⟨vs, (kws.filterMap (·.1)).zip ks⟩ s₃) s₂) E s₁) E s) :
    wpAny M A (evalArgs f true [(true, (do let v ← x; standAt pos; pure v))] kws) Q E s := by
  unfold evalArgs
  first
    | refine wpAny_bind (wpAny_bind (wpAny_mono h (fun v s₁ h₁ => wpAny_bind (wpAny_standAt (wpAny_pure ?_))) fun _ _ x => x))
    | refine wpAny_bind (wpAny_bind (wpAny_bind (wpAny_mono h (fun v s₁ h₁ => wpAny_bind (wpAny_standAt (wpAny_pure (wpAny_pure ?_)))) fun _ _ x => x)))
  refine wpAny_holding ?_
  dsimp only
  rw [if_pos hall]
  refine wpAny_bind (wpAny_mono h₁ (fun ks s₂ h₂ => ?_) fun _ _ x => x)
  unfold StarOf at h₂
  refine wpAny_bind (wpAny_bind (wpAny_mono h₂ (fun b s₃ h₃ => ?_) fun _ _ x => x))
  obtain ⟨rfl, h₃⟩ := h₃
  have z : ∀ keep, wpAny M A (holding keep (collect v)) (fun vs s₄ => wpAny M A (pure (⟨vs, (kws.filterMap (·.1)).zip ks⟩ : Args)) Q E s₄) E s₃ := fun keep => wpAny_holding (vs := keep) (wpAny_mono h₃ (fun vs s₄ h₄ => wpAny_pure h₄) fun _ _ x => x)
  try simp only [Bool.false_eq_true, if_false]
  first
    | exact z _
    | exact wpAny_bind (wpAny_pure (z _))
theorem ks_call_kw {f : Value} {first : List Value} {pos : Pos} {Q : Value → Shared → Prop} {P : Heap → Prop} {args : List (Bool × Sem Value)} {kws : List (Option Str × Sem Value)} (hst : args.any (·.1) = true)
    (hk : ∀ h, P h → ∃ k, (k = Keeper.frame ∨ k = Keeper.machine ∨ k = Keeper.boundFrame) ∧ Looks M h (keeperOf f) k)
    (h : wpAny M A (evalArgs f true args kws) (fun a s₁ => P s₁.heap ∧ wpAny M A (call f (first ++ a.pos) a.kw) Q E s₁) E s) : wpAny M A (callWith pos f first args kws) Q E s := by
  unfold callWith
  refine wpAny_bind (wpAny_holding (wpAny_mono h (fun a s₁ h₁ => wpAny_bind (wpAny_standAt ?_)) fun _ _ x => x))
  obtain ⟨k, hk', L⟩ := hk _ h₁.1
  simp only [hst, Bool.true_or]
  refine wpAny_bind (L.here ?_)
  have tail : ∀ {t : Sem Value}, wpAny M A t Q E s₁ → wpAny M A (t >>= fun r => holding [r] point >>= fun _ => pure r) Q E s₁ :=
    fun ht => wpAny_bind (wpAny_mono ht (fun r s₂ hr => wpAny_bind (wpAny_holding (wpAny_point (wpAny_pure hr)))) fun _ _ x => x)
  have marked (mk : Value) : wpAny M A (callMarked mk f (first ++ a.pos) a.kw) Q E s₁ := by unfold callMarked; exact Calls.wpAny_keep h₁.2
  rcases hk' with rfl | rfl | rfl <;> dsimp only <;> first | exact tail (marked _) | exact tail (wpAny_operating h₁.2)
end
end PySem.W
namespace StK
open PySem PySem.Spec PyProof.Rows L2 StX
def tMakeRS (K : PySem.W.Frag) (C : Addr) (m : Nat) (sp : List V → Sp) (E : L2.St → XK) (te : TE) (tk : TA) : TE := fun σ H Q => te σ H fun y H1 => tk σ H1 fun zs H2 => zs.length = m ∧ ∃ a xs, y = V.ref a ∧ (SqT K H2 a xs ∨ SqL K H2 a xs) ∧ ∀ x dx, H2 x = none → H2 dx = none → dx ≠ x →
  sp zs (V.ref x :: xs) (upd (upd H2 dx (.own x)) x (.ins C dx [])) (fun v H3 => v = .non ∧ Q (.ref x) H3) (E σ)
section
variable {X : Cx} {CX : CXT} {k : Nat} {f C : Addr} {ks : List Str} {sp : List V → Sp} {E : L2.St → XK} {x : Str} {p sp_ pos : Pos} {e : Expr} {kws : List Keyword} {te : TE} {tk : TA}
theorem pe_makeRS (M : Mk X.K C f) (F : FnRK X.prog X.w X.K X.mg X.base CX k f ks sp) (hr : Room (k + 1) X.A) (hg : Gl X x) (hm : X.mg x = some (.ref C)) (hx : ∀ σ, PassesAt CX X σ (E σ)) (he : PE X e te) (hkw : PK X kws tk)
    (hall : (backToKw pos (keywordEach kws X.env)).all (·.1.isSome) = true := by rfl) (hks : (backToKw pos (keywordEach kws X.env)).filterMap (·.1) = ks := by rfl) (hdb : (x == ("__debug__" : Str)) = false := by decide)
    (hst : starEach [.Starred e sp_] X.env = [(true, eval e X.env)] := by rfl) :
    PE X (.Call (.Name x p) [.Starred e sp_] kws pos) (tMakeRS X.K C ks.length sp E te tk) := by
  refine ⟨fun pins s σ H Q I h => ?_⟩
  refine wpAny_Call_Name_kw (ld_glob I hg hm ?_ hdb)
  rw [hst]
  refine PySem.W.ks_call_kw rfl (PySem.W.keeps_K M.kp) (PySem.W.ks_lone_kw hall (thn (he.run pins s σ H _ I h) fun v s1 ⟨y, H1, I1, ry, q⟩ => ?_))
  refine thn (hkw.run pos pins s1 σ H1 _ I1 q) fun ws s2 ⟨zs, H2, I2, rz, l2, a, xs, ey, hxs, q2⟩ => ?_
  subst ey
  obtain rfl : v = Value.ref a := ry
  refine star_any I2 hxs fun us s3 I3 rv => ⟨I3.kIn, ?_⟩
  rw [hks]
  exact run_makeRK (us := us) (vs := xs) M F hr (hx σ) I3 rv rz l2 q2
end
end StK
/-! from k09/TkMN -/
namespace L2
open PySem PySem.Spec PyProof.Rows
def tMethN (C : Addr) (m : Str) (nk : Nat) (sp : Sp) (gV : List V → List V → List V) (E : St → XK) (ta : TE) (tk : TA) : TE := fun σ H Q => ta σ H fun x H1 => ∃ a dx fs, x = .ref a ∧ H1 a = some (.ins C dx fs) ∧ fs.lookup m = none ∧
  tk σ H1 fun zs H2 => zs.length = nk ∧ sp (gV [.ref a] zs) H2 Q (E σ)
section
variable {X : Cx} {CX : CXT} {k n : Nat} {f C : Addr} {fd : FuncData} {ps ks : List Str} {sp : Sp} {E : St → XK} {x m : Str} {p pos apos : Pos} {o : Expr} {kws : List Keyword} {ta : TE} {tk : TA} {g : List Value → List Value → List Value} {gV : List V → List V → List V}
theorem run_fnNS {pins : List (Addr × Obj)} {σ : St} {H : Hp} {s : Shared} {Q : VK} {us ws : List Value} {vs zs : List V} {E : XK} (F : FnOk X.prog X.w X.K X.mg X.base CX k f fd ps sp) (hr : Room k X.A) (hb : KBn X.K fd ps n ks g gV) (hx : PassesAt CX X σ E)
    (I : Inv X pins σ H s) (r : Vals vs us) (rz : Vals zs ws) (l1 : vs.length = n) (l2 : zs.length = ks.length) (h : sp (gV vs zs) H Q E) : wpAny (model X.prog X.w) X.A (call (.ref f) us (ks.zip ws)) (EP X pins σ Q) X.xe s := by
  have bd := hb.to s us ws I.kIn (by rw [← r.length]; exact l1) (by rw [← rz.length]; exact l2)
  refine wpAny_call (codeAny_mono (F.run X.A X.stack s H ⟨us, ks.zip ws⟩ (g us ws) (gV vs zs) Q E hr I.env0 bd (hb.rel r rz) h) fun res s' hq => ?_)
  match res, hq with
  | .error e, hq => exact hx pins H s e s' I hq
  | .ok (.ret u), hq => exact I.after hq
theorem pe_methN {pl : Sem Bool} (he : PE X o ta) (c : Cls X.K C) (hm : Meth X.K C m f) (F : FnOk X.prog X.w X.K X.mg X.base CX k f fd ps sp) (hr : Room k X.A) (hb : KBn X.K fd ps 1 ks g gV) (hx : ∀ σ, PassesAt CX X σ (E σ)) (hkw : PK X kws tk)
    (hall : (backToKw pos (keywordEach kws X.env)).all (·.1.isSome) = true := by rfl) (hks : (backToKw pos (keywordEach kws X.env)).filterMap (·.1) = ks := by rfl)
    (ht : eval (.Call (.Attribute o m apos) [] kws pos) X.env = (do
      let ov ← eval o X.env
      standAt apos.atName
      let (f, first) ← holding [ov] (getMethod ov m pl)
      callWith pos f first (backTo pos (starEach [] X.env)) (backToKw pos (keywordEach kws X.env))) := by rfl)
    (hpl : ((backTo pos (starEach [] X.env)).any (·.1) || (backToKw pos (keywordEach kws X.env)).any (·.1.isNone)) = false := by rfl) :
    PE X (.Call (.Attribute o m apos) [] kws pos) (tMethN C m ks.length sp gV E ta tk) := by
  constructor
  intro pins s σ H Q I h
  refine PySem.W.methodCall_KW (pl := pl) (thn (he.run pins s σ H _ I h) fun u s1 q => ?_) ht
  obtain ⟨_, H1, I1, ru, a, dx, fs, rfl, ea, l, q⟩ := q
  have eu : u = Value.ref a := ru
  subst eu
  refine getmeth_ok I1 ea c hm l (PySem.W.callWith_KW0 (first := [.ref a]) (h₀ := X.base) I.ok.mod.kin hm.kp hall ?_ hpl)
  refine thn (hkw.run pos pins s1 σ H1 _ I1 q) fun ws s2 ⟨zs, H2, I2, rz, l2, q2⟩ => ⟨I2.kIn, ?_⟩
  rw [hks]
  exact run_fnNS (us := [.ref a]) (vs := [.ref a]) F hr hb (hx σ) I2 (.cons rfl .nil) rz rfl l2 q2
end
end L2
/-! from k08/TkTE -/
namespace TE8
open PySem PySem.SeqAt
open AutoSeq1 (wpAny_loadPart')
open MeetsSeq MeetsSeq2 MeetsSeq3 SeqRoads2
section
variable {prog : Program} {w : World} {A : Around} {R : Result → Shared → Prop}
theorem tuple_eqB (l b : Addr) (items items2 : Array Value) (n n2 : Nat) (dd dd2 : Option Addr) (sl sl2 : Array (Option Value)) (hsz : items.size = items2.size) (I : Nat → Shared → Prop)
    (turn : ∀ i (h1 : i < items.size) (h2 : i < items2.size) s, I i s → wpAny (model prog w) A.in1 (eqBool items[i] items2[i]) (fun r s' => (r = true ∧ I (i + 1) s') ∨ (r = false ∧ R (.ok (.ret (.bool false))) s')) (fun e s' => R (.error e) s') s)
    (fin : ∀ s, I items.size s → R (.ok (.ret (.bool true))) s) {s : Shared} (hl1 : s.heap.get? l = some { cls := .type "tuple", dict := dd, data := .seq items n, slots := sl }) (hb1 : s.heap.get? b = some { cls := .type "tuple", dict := dd2, data := .seq items2 n2, slots := sl2 }) (h : I 0 s) :
    wpAny (model prog w) A.in1 (Builtin.«tuple.__eq__» ⟨[.ref l, .ref b], []⟩) (GQ.FinOf prog w A R) (fun e s' => R (.error e) s') s := by
  have f2 := AutoSeq1.sub_tuple_tuple
  have hZ : (items.toList.zip items2.toList).length = items.size := by simp [hsz]
  have h0 := h
  obtain ⟨hp, g, d, tk, os⟩ := s
  wp_walk using wpAny_loadPart' hl1, wpAny_loadPart' hb1, wpAny_forIn_list _ (fun rest b s' => b.1 = none ∧ ∃ i, rest = (items.toList.zip items2.toList).drop i ∧ i ≤ items.size ∧ I i s') _
  case turn =>
    rintro ⟨y, x⟩ rest b s' ⟨hb', i, hz, hi, hI⟩
    have hlt : i < (items.toList.zip items2.toList).length := by
      rcases Nat.lt_or_ge i (items.toList.zip items2.toList).length with h' | h'
      · exact h'
      · rw [List.drop_of_length_le h'] at hz; cases hz
    have h1 : i < items.size := hZ ▸ hlt
    have h2 : i < items2.size := hsz ▸ h1
    rw [List.drop_eq_getElem_cons hlt] at hz
    injection hz with hyx hrest
    have hy : y = items[i] := by have := congrArg Prod.fst hyx; simpa using this
    have hx : x = items2[i] := by have := congrArg Prod.snd hyx; simpa using this
    subst hy hx
    refine wpAny_bind (wpAny_mono (turn i h1 h2 s' hI) (fun r s2 q2 => ?_) fun _ _ x => x)
    rcases q2 with ⟨hr, q2⟩ | ⟨hr, q2⟩
    · subst hr
      wp_walk
      exact ⟨rfl, i + 1, hrest, h1, q2⟩
    · subst hr
      wp_walk
      exact q2
  case fin =>
    rintro ⟨b1, b2⟩ s' ⟨hb', i, hz, hi, hI⟩
    simp only at hb'
    subst hb'
    have hge : items.size ≤ i := by
      rcases Nat.lt_or_ge i (items.toList.zip items2.toList).length with h' | h'
      · rw [List.drop_eq_getElem_cons h'] at hz; cases hz
      · exact hZ ▸ h'
    have hi' : i = items.size := by omega
    have hR : R (.ok (.ret (.bool true))) s' := fin s' (hi' ▸ hI)
    wp_walk
    simpa [Builtin.Tuple.tupleCompareSizes, hsz] using hR
  case h =>
    exact ⟨rfl, 0, rfl, Nat.zero_le _, h0⟩
end
section
variable {prog : Program} {w : World} {A : Around} {E : Value → Shared → Prop} {s : Shared}
theorem rc_tupB {l b : Addr} {items items2 : Array Value} {Q : Value → Shared → Prop} (hsz : items.size = items2.size) (hu : A.units < cLine) (I : Nat → Shared → Prop)
    (hl : s.heap.IsTuple l items) (hb : s.heap.IsTuple b items2)
    (turn : ∀ i (h1 : i < items.size) (h2 : i < items2.size) s, I i s → wpAny (model prog w) A.in1 (eqBool items[i] items2[i]) (fun r s' => (r = true ∧ I (i + 1) s') ∨ (r = false ∧ Q (.bool false) s')) E s)
    (fin : ∀ s, I items.size s → Q (.bool true) s) (h : I 0 s) : wpAny (model prog w) A (richCompare .Eq (.ref l) (.ref b)) Q E s := by
  obtain ⟨⟨cls, dd, data, sl⟩, ho, hc, n, hd⟩ := id hl
  obtain ⟨⟨cls2, dd2, data2, sl2⟩, ho2, hc2, n2, hd2⟩ := id hb
  simp only at hc hd hc2 hd2
  subst hc hd hc2 hd2
  refine wpAny_richCompare_same_room (op := .Eq) ⟨_, ho, rfl⟩ ⟨_, ho2, rfl⟩ F.slot_tuple_eq (GQ.call_here F.slot_tuple_eq ⟨_, ho, rfl⟩ F.entry_tuple_eq (F.args_tuple_eq_2 _ _) ?_) hu
  refine tuple_eqB (R := wants (fun v s' => v ≠ .notImplemented ∧ Q v s') E) l b items items2 n n2 dd dd2 sl sl2 hsz I (fun i h1 h2 s' hi => wpAny_mono (turn i h1 h2 s' hi) (fun r s2 q => ?_) fun _ _ x => x) (fun s' q => ⟨(fun x => nomatch x), fin s' q⟩) ho ho2 h
  rcases q with q | ⟨e, q⟩
  · exact .inl q
  · exact .inr ⟨e, (fun x => nomatch x), q⟩
end
end TE8
namespace L2
open PySem PySem.Spec PyProof.Rows
/-- two instances of C, which c says to be equal or not -/
def DEqB (C : Addr) (sp : Sp) (E : XK) (c : Bool) (x y : V) (H : Hp) : Prop := ∃ a b dx dy fs gs, x = .ref a ∧ y = .ref b ∧ H a = some (.ins C dx fs) ∧ H b = some (.ins C dy gs) ∧ (a = b → c = true) ∧ sp [.ref a, .ref b] H (fun v H' => v = .bl c ∧ Ext H H') E
/-- item by item, in every later heap -/
inductive PrsB (D : Bool → V → V → Hp → Prop) (H : Hp) : List Bool → List V → List V → Prop
  | nil : PrsB D H [] [] []
  | cons {c : Bool} {x y : V} {cs : List Bool} {xs ys : List V} (h : ∀ H', Ext H H' → D c x y H') (t : PrsB D H cs xs ys) : PrsB D H (c :: cs) (x :: xs) (y :: ys)
section
variable {D : Bool → V → V → Hp → Prop} {H : Hp} {cs : List Bool} {xs ys : List V}
theorem PrsB.len (p : PrsB D H cs xs ys) : xs.length = ys.length ∧ cs.length = xs.length := by
  induction p with
  | nil => exact ⟨rfl, rfl⟩
  | cons _ _ ih => exact ⟨by rw [List.length_cons, List.length_cons, ih.1], by rw [List.length_cons, List.length_cons, ih.2]⟩
theorem PrsB.at : ∀ {cs : List Bool} {xs ys : List V} {i : Nat}, PrsB D H cs xs ys → i < xs.length → ∃ c x y, cs[i]? = some c ∧ xs[i]? = some x ∧ ys[i]? = some y ∧ ∀ H', Ext H H' → D c x y H'
  | _, _, _, 0, .cons h _, _ => ⟨_, _, _, rfl, rfl, rfl, h⟩
  | _, _, _, i + 1, .cons _ t, l => PrsB.at (i := i) t (Nat.lt_of_succ_lt_succ l)
end
def rTupB (K : PySem.W.Frag) (C : Addr) (sp : Sp) (E : XK) : R2 := fun x y H Q => ∃ a b xs ys cs, x = .ref a ∧ y = .ref b ∧ SqT K H a xs ∧ SqT K H b ys ∧ PrsB (DEqB C sp E) H cs xs ys ∧ ∀ H', Ext H H' → Q (.bl (cs.all id)) H'
section
variable {X : Cx} {CX : CXT} {k : Nat} {C f : Addr} {fd : FuncData} {ps : List Str} {sp : Sp} {E : XK}
theorem eq_insB (hs : PySem.W.findIn X.K (.ref C) "__eq__" = some (some (.ref f))) (hf : PySem.W.isFn X.K (.ref f) = true) (F : FnOk X.prog X.w X.K X.mg X.base CX k f fd ps sp) (hb : Binds X.K fd ps []) (hx : Passes CX X E)
    {A : Around} {pins : List (Addr × Obj)} {s : Shared} {σ : St} {H : Hp} {x y : V} {u v : Value} {c : Bool} (sb : Sub X k A) (I : Inv X pins σ H s) (rx : RelV x u) (ry : RelV y v) (d : DEqB C sp E c x y H) :
    wpAny (model X.prog X.w) A (eqBool u v) (fun r s' => r = c ∧ ∃ H', Inv X pins σ H' s' ∧ Ext H H') X.xe s := by
  obtain ⟨a, b, dx, dy, fs, gs, rfl, rfl, ha, hb', hc, hr⟩ := d
  cases rx
  cases ry
  by_cases hab : a = b
  · subst hab
    rw [hc rfl]
    exact SeqAt.EqAt.same (A := A) (s := s) (.ref a) X.prog X.w X.xe _ ⟨rfl, H, I, Ext.rfl'⟩
  · refine GQ.eqBool_refG hab ?_
    obtain ⟨mA, J, _⟩ := ins_get I.hok ha
    obtain ⟨mB, J', _⟩ := ins_get I.hok hb'
    obtain ⟨od, J, _⟩ := J.look
    obtain ⟨od', J', _⟩ := J'.look
    obtain ⟨m, hF⟩ := I.fr
    refine PySem.W.cmp_K (op := .Eq) (tb := .ref C) sb.room.units0 hF I.ok.mod.kin J J'.type (by simp [PySem.W.notFirst]) hs hf ?_
    have e0 : Env0 X.prog X.w X.K X.mg X.base A X.stack s H := by
      have e := I.env0
      exact ⟨by rw [sb.fr]; exact e.frames, e.mod, e.bs, e.bsz, e.funs, e.frf, e.hok, e.bare⟩
    have hl := F.len _ _ _ _ hr
    have r2 : Vals [V.ref a, V.ref b] [Value.ref a, Value.ref b] := .cons rfl (.cons rfl .nil)
    refine wpAny_call (codeAny_mono (F.run A X.stack s H ⟨[.ref a, .ref b], []⟩ [.ref a, .ref b] [.ref a, .ref b] _ E sb.room e0 (by
      have := hb s [.ref a, .ref b] I.kIn (by simpa using hl)
      simpa using this) r2 hr) fun r s' hq => ?_)
    cases r with
    | error e => exact hx pins σ H s e s' I hq
    | ok fl =>
      cases fl with
      | ret w =>
        obtain ⟨z, H', I', rz, ez, ex⟩ := I.after hq
        subst ez
        cases rz
        exact ⟨c, rfl, rfl, H', I', ex⟩
      | next => exact False.elim hq
      | brk => exact False.elim hq
      | cont => exact False.elim hq
theorem op_eqTupB (hs : PySem.W.findIn X.K (.ref C) "__eq__" = some (some (.ref f))) (hf : PySem.W.isFn X.K (.ref f) = true) (F : FnOk X.prog X.w X.K X.mg X.base CX k f fd ps sp) (hr : Room (k + 1) X.A) (hb : Binds X.K fd ps []) (hx : Passes CX X E) :
    OpR X (compareOp .Eq) (rTupB X.K C sp E) := by
  intro pins s σ H x y v u Q I rx ry h
  obtain ⟨a, b, xs, ys, cs, rfl, rfl, ha, hb', p, q⟩ := h
  cases rx
  cases ry
  obtain ⟨its, r, e, z⟩ := I.tuple ha
  obtain ⟨its2, r2, e2, z2⟩ := I.tuple hb'
  obtain ⟨l1, l2⟩ := p.len
  have hsz : its.toArray.size = its2.toArray.size := by rw [List.size_toArray, List.size_toArray, ← r.length, ← r2.length]; exact l1
  show wpAny (model X.prog X.w) X.A (richCompare .Eq _ _) (EP X pins σ Q) X.xe s
  refine TE8.rc_tupB hsz hr.units0 (fun i s' => (∃ H', Inv X pins σ H' s' ∧ Ext H H') ∧ (cs.take i).all id = true) e e2 (fun i h1 h2 s' q' => ?_) (fun s' q' => ?_) ⟨⟨H, I, Ext.rfl'⟩, rfl⟩
  · obtain ⟨⟨H1, I1, e1⟩, ca⟩ := q'
    have g1 : its[i]? = some its.toArray[i] := by
      have h1' : i < its.length := by simpa using h1
      rw [List.getElem?_eq_getElem h1'] <;> simp
    have g2 : its2[i]? = some its2.toArray[i] := by
      have h2' : i < its2.length := by simpa using h2
      rw [List.getElem?_eq_getElem h2'] <;> simp
    have k1 : i < xs.length := by rw [r.length]; simpa using h1
    obtain ⟨c, x, y, hc, hx', hy', d⟩ := p.at k1
    obtain ⟨u, hu, ru⟩ := r.get hx'
    obtain ⟨v, hv, rv⟩ := r2.get hy'
    rw [g1] at hu
    rw [g2] at hv
    rw [Option.some.inj hu, Option.some.inj hv]
    refine wpAny_mono (eq_insB hs hf F hb hx (A := X.A.in1) ⟨hr.in1, rfl⟩ I1 ru rv (d H1 e1)) (fun r s2 z => ?_) fun _ _ x => x
    obtain ⟨hr', H2, I2, e2'⟩ := z
    cases c with
    | true =>
      refine .inl ⟨hr', ⟨H2, I2, e1.trans e2'⟩, ?_⟩
      rw [List.take_add_one, hc, List.all_append, ca]
      rfl
    | false =>
      refine .inr ⟨hr', .bl false, H2, I2, rfl, ?_⟩
      have ef : cs.all id = false := by
        rw [List.all_eq_false]
        exact ⟨false, List.mem_of_getElem? hc, by decide⟩
      rw [← ef]
      exact q H2 (e1.trans e2')
  · obtain ⟨⟨H1, I1, e1⟩, ca⟩ := q'
    have el : cs.take its.toArray.size = cs := by
      rw [List.take_of_length_le]
      rw [l2, r.length, List.size_toArray]
      exact Nat.le_refl _
    rw [el] at ca
    refine ⟨.bl true, H1, I1, rfl, ?_⟩
    rw [← ca]
    exact q H1 e1
end
end L2
/-! from k07/TkLS -/
namespace LenS
open PySem PySem.Spec PyProof.Rows
/-- how many unlike ones stand in front -/
def many (xs : List Str) : Nat → Nat
  | 0 => 0
  | i + 1 => if (xs.take i).any (· == xs.getD i Str.empty) then many xs i else many xs i + 1
theorem many_le (xs : List Str) : ∀ i, many xs i ≤ i
  | 0 => Nat.le_refl _
  | i + 1 => by
    have := many_le xs i
    unfold many
    split <;> omega
theorem took {xs : List Str} {i : Nat} (h : i < xs.length) (z : Str) : ((xs.take i).any (· == z) || decide (z = xs.getD i Str.empty)) = (xs.take (i + 1)).any (· == z) := by
  have e : xs.getD i Str.empty = xs[i] := by rw [List.getD_eq_getElem?_getD, List.getElem?_eq_getElem h]; rfl
  rw [List.take_add_one, List.getElem?_eq_getElem h, List.any_append, e]
  congr 1
  show decide (z = xs[i]) = ([xs[i]].any (· == z))
  by_cases c : z = xs[i]
  · rw [decide_eq_true c, ← c]; simp
  · rw [decide_eq_false c]
    have : (xs[i] == z) = false := beq_eq_false_iff_ne.mpr fun q => c q.symm
    simp [this]
def upto (xs : List Str) (i : Nat) : Str → Bool := fun z => (xs.take i).any (· == z)
section
variable {prog : Program} {w : World} {A : Around} {I S : Addr} {fp wr : List Addr} {G : Array GenState → Array GenState → Prop} {P : Nat → Value → Prop} {St : Nat → Shared → Prop} {xs : List Str} {R : Result → Shared → Prop}
theorem fill {n : Nat} (hn : n = xs.length) (W : WalksS prog w A.in1 I fp wr G n P St) (out : S ∉ fp) (few : xs.length + 1 < scanBound) (val : ∀ i v, P i v → ∃ t, v = .str (xs.getD i Str.empty) t) (m : Nat) :
    ∀ (i : Nat) (s : Shared), xs.length - i = m → i ≤ xs.length → St i s → s.heap.SetOf (strKind prog w) S (upto xs i) (many xs i) →
      (∀ s', Moved (S :: wr) G s s' → s'.heap.SetOf (strKind prog w) S (upto xs xs.length) (many xs xs.length) → R (.ok (.ret .none)) s') → codeAny (model prog w) A (.builtin "set.update.loop" ⟨[.ref S, .ref I], []⟩) R s := by
  subst hn
  have notw : S ∉ wr := fun h => out (W.sub _ h)
  have wider : ∀ b ∈ wr, b ∈ S :: wr := fun b => List.mem_cons_of_mem _
  have carry : ∀ {s s' : Shared} {f : Str → Bool} {k : Nat}, Moved wr G s s' → s.heap.SetOf (strKind prog w) S f k → s'.heap.SetOf (strKind prog w) S f k := fun mv h => by
    obtain ⟨o, a, b, c, there, more⟩ := h
    exact ⟨o, a, b, c, mv.heap S _ notw there, more⟩
  induction m with
  | zero =>
    intro i s hm hi now have_ last
    obtain rfl : i = xs.length := by omega
    refine codeAny_builtin F.entry_set_update_loop ?_
    rw [Around.under_plainId F.plain_set_update_loop _]
    exact wpAny_bind (W.done s _ _ now fun s' mv => wpAny_pure (last s' (mv.mono wider) (carry mv have_)))
  | succ m ih =>
    intro i s hm hi now have_ last
    have lt : i < xs.length := by omega
    refine codeAny_builtin F.entry_set_update_loop ?_
    rw [Around.under_plainId F.plain_set_update_loop _]
    refine wpAny_bind (W.item i s _ _ lt now fun v s' pv now' mv => ?_)
    obtain ⟨t, rfl⟩ := val i v pv
    refine wpAny_bind (wpAny_holding ?_)
    unfold setAdd
    refine wpAny_holding (wpAny_bind ((strKind prog w).pyHash (k := xs.getD i Str.empty) (strKind_is _ _ _ _) ?_))
    refine wpAny_setAddHashed_of (knd := strKind prog w) (s := { s' with toks := s'.toks + 1 }) (strKind_is _ _ _ _) rfl (carry (s' := s') mv have_) (by have := many_le xs i; omega) fun h2 same put => ?_
    have put2 : h2.SetOf (strKind prog w) S (upto xs (i + 1)) (many xs (i + 1)) := SetOf_congr put (fun z => took lt z) rfl
    refine wpAny_pure ⟨plainId_quiet F.plain_set_update_loop _, ih (i + 1) _ (by omega) lt (W.frame _ s' _ _ now' (Nat.le_succ _) fun b hb o e => ?_) put2 fun s3 mv3 end_ => ?_⟩
    · rw [same.2 b fun z => out (z ▸ hb)]; exact e
    · refine last s3 (Moved.trans W.gtrans ((mv.mono wider).then_heap (Nat.le_succ _) fun b o nb e => ?_) mv3) end_
      rw [same.2 b fun z => nb (z ▸ List.mem_cons_self)]; exact e
variable {E : Value → Shared → Prop} {s : Shared}
set_option maxHeartbeats 3200000 in
theorem make {l : Addr} {items : Array Value} {Q : Value → Shared → Prop} (calm : A.handled = none) (at_ : s.heap.IsList l items) (are : StrsAre items.toList xs) (few : xs.length + 1 < scanBound)
    (h : ∀ (h' : Heap) (tk : Nat), h'.SetOf (strKind prog w) s.heap.objs.size (upto xs xs.length) (many xs xs.length) → (∀ b o, b < s.heap.objs.size → s.heap.get? b = some o → h'.get? b = some o) → Q (.ref s.heap.objs.size) { s with heap := h', toks := tk }) :
    wpAny (model prog w) A (call (.type "set") [.ref l]) Q E s := by
  obtain ⟨c, tl, hmro⟩ := PySem.F.called_set.mro
  obtain ⟨made, sub, notT, canC⟩ := And.intro PySem.F.called_set.made (And.intro PySem.F.called_set.sub (And.intro PySem.F.called_set.notType PySem.F.called_set.canCreate))
  have one := PySem.F.typeCall_set_1 (.ref l)
  refine wpAny_call (codeAny_of_tree (wpAny_pure (a := _) ⟨Code.quiet_builtin _ (by decide +kernel), codeAny_builtin PySem.F.entry_type_call ?_⟩))
  rw [Around.under_plain (weight_type_call_type "set" [.ref l] []) rfl]
  repeat (any_goals (first | assumption | wp_step))
  let new : Obj := { cls := .type "set", dict := none, data := .set #[] 0 (.fresh 0 0 true) }
  let Made : Value → Shared → Prop := fun v s1 => ∃ led : Bool, v = .ref s.heap.objs.size ∧ s1 = { s with heap := s.heap.push { cls := .type "set", dict := none, data := .set #[] 0 (.fresh 0 0 led) } }
  let Full : Value → Shared → Prop := fun v s2 => v = .none ∧ ∃ h' tk, s2 = { s with heap := h', toks := tk } ∧ h'.SetOf (strKind prog w) s.heap.objs.size (upto xs xs.length) (many xs xs.length) ∧ ∀ b o, b < s.heap.objs.size → s.heap.get? b = some o → h'.get? b = some o
  refine codeAny_mono (code_set_new_1 (.ref l) (E := E) (Q₁ := Made) fun led => ⟨led, rfl, rfl⟩) fun r s1 hr => ?_
  match r, hr with
  | .error _, hr => exact hr
  | .ok .next, hr => exact hr.elim
  | .ok .brk, hr => exact hr.elim
  | .ok .cont, hr => exact hr.elim
  | .ok (.ret obj), hr =>
    obtain ⟨led, rfl, rfl⟩ := hr
    have there : (s.heap.push { cls := .type "set", dict := none, data := .set #[] 0 (.fresh 0 0 led) }).get? s.heap.objs.size = some { cls := .type "set", dict := none, data := .set #[] 0 (.fresh 0 0 led) } := Heap.get?_push_size _ rfl
    have typed : Shared.TypeIs { s with heap := s.heap.push { cls := .type "set", dict := none, data := .set #[] 0 (.fresh 0 0 led) } } (.ref s.heap.objs.size) "set" := ⟨_, there, rfl⟩
    have look := PySem.F.called_set.init.lookup
    have bind_ := PySem.F.called_set.init.bind (.ref s.heap.objs.size)
    repeat (any_goals (first | assumption | wp_step))
    refine codeAny_mono (codeAny_call_builtin (R := wants Full E) PySem.F.called_set.init.plain PySem.F.entry_set_init (check_set_init_1 typed ?_)) fun r2 s2 hr2 => ?_
    · obtain ⟨⟨oc, od, odata, osl⟩, lo, lc, ln, ld⟩ := at_
      simp only at lc ld
      subst lc ld
      have lo2 : (s.heap.push { cls := .type "set", dict := none, data := .set #[] 0 (.fresh 0 0 led) }).get? l = some { cls := .type "list", dict := od, data := .seq items ln, slots := osl } := Heap.get?_push_of_some _ lo
      have at2 : (s.heap.push { cls := .type "set", dict := none, data := .set #[] 0 (.fresh 0 0 led) }).IsList l items := ⟨_, lo2, rfl, ln, rfl⟩
      have n1 := PySem.F.sub_list_set
      have n2 := PySem.F.sub_list_frozenset
      have n3 : (Value.type "list" == Value.type "dict") = false := by decide
      unfold Builtin.«set.__init__» noKeywords Builtin.Frozenset.updateFrom
      generalize walk : pyIter = PI
      wp_walk
      subst walk
      refine wpAny_pyIter_list at2 (wpAny_bind (wpAny_runValue ?_))
      have below : l < s.heap.objs.size := Heap.lt_size lo
      have hh3 : A.in1.in1.in1.handled = none := by simp [calm]
      have sz : (s.heap.push { cls := .type "set", dict := none, data := .set #[] 0 (.fresh 0 0 led) }).objs.size = s.heap.objs.size + 1 := Heap.size_push ..
      have len : items.size = xs.length := by rw [← StrsAre.len_eq are, Array.length_toList]
      have far : l ≠ (s.heap.push { cls := .type "set", dict := none, data := .set #[] 0 (.fresh 0 0 led) }).objs.size := by
        rw [sz]
        exact Nat.ne_of_lt (Nat.lt_succ_of_lt below)
      have out : s.heap.objs.size ∉ [(s.heap.push { cls := .type "set", dict := none, data := .set #[] 0 (.fresh 0 0 led) }).objs.size, l] := by
        rw [sz]
        intro z
        simp only [List.mem_cons, List.not_mem_nil, or_false] at z
        exact z.elim (fun e => absurd e (Nat.ne_of_lt (Nat.lt_succ_self _))) fun e => absurd e (Nat.ne_of_gt below)
      refine fill len ((Walks.list hh3 _ l far items).toS) out few (fun i v hv => SS.strs_at are i v (by rw [Array.getElem?_toList]; exact hv)) _ 0 _ rfl (Nat.zero_le _) ⟨⟨_, Heap.get?_push_size _ rfl, rfl, rfl⟩, at2.push _⟩ ?_ ?_
      · have get_ := Heap.get?_push_of_some { cls := .type "list_iterator", data := .fields #[.ref l, .int 0 0] } there
        exact SetOf_congr ((setObjOf_fresh (knd := strKind prog w) led).setOf get_ (by unfold scanBound; omega)) (fun _ => rfl) rfl
      · rintro ⟨h', g', d', tk', os'⟩ mv done_
        obtain rfl : g' = s.gens := mv.gens
        obtain rfl : d' = s.drawn := mv.drawn
        obtain rfl : os' = s.os := mv.os
        refine wpAny_pure (wpAny_pure ⟨rfl, h', tk', rfl, done_, fun b o hb e => ?_⟩)
        refine mv.heap b o (fun z => ?_) (Heap.get?_push_of_some _ (Heap.get?_push_of_some _ e))
        simp only [List.mem_cons, List.not_mem_nil, or_false] at z
        rw [sz] at z
        exact z.elim (fun e => absurd e (Nat.ne_of_lt hb)) fun e => absurd e (Nat.ne_of_lt (Nat.lt_succ_of_lt hb))
    · match r2, hr2 with
      | .error _, hr2 => exact hr2
      | .ok .next, hr2 => exact hr2.elim
      | .ok .brk, hr2 => exact hr2.elim
      | .ok .cont, hr2 => exact hr2.elim
      | .ok (.ret v), hr2 =>
        obtain ⟨rfl, h', tk, rfl, full, keep⟩ := hr2
        repeat (any_goals (first | assumption | wp_step))
        exact h _ _ full keep
end
end LenS
namespace L2
open PySem PySem.Spec PyProof.Rows
theorem strs_vals : ∀ {ys : List Str} {us : List Value}, Vals (ys.map V.str) us → StrsAre us ys
  | [], _, .nil => .nil
  | y :: ys, _, .cons r t => by
    obtain ⟨k, rfl⟩ := r
    exact .cons y k (strs_vals t)
/-- len(set(xs)), xs a list of texts -/
def tLenS (K : PySem.W.Frag) (ta : TE) : TE := fun σ H Q => ta σ H fun x H1 => ∃ l, ∃ xs : List Str, x = .ref l ∧ SqL K H1 l (xs.map V.str) ∧ xs.length ≤ 100 ∧ Q (.int (LenS.many xs xs.length : Nat)) H1
theorem pe_lenS {X : Cx} {a : Expr} {ta : TE} {p p2 q pos : Pos} (hg : Gl X "len") (hm : X.mg "len" = none) (hg2 : Gl X "set") (hm2 : X.mg "set" = none) (ha : PE X a ta) (hc : X.calm = true := by rfl)
    (na : starEach [a] X.env = (false, eval a X.env) :: starEach [] X.env := by rfl) : PE X (.Call (.Name "len" p) [.Call (.Name "set" p2) [a] [] q] [] pos) (tLenS X.K ta) := by
  refine ⟨fun pins s σ H Q I h => ?_⟩
  refine Call_ (ld_blt I hg hm boot_len (callWith_builtin1 (args_cons ?_ rfl) rfl rfl))
  refine Call_ (ld_blt I hg2 hm2 boot_set (callWith_type1 (args_cons (thn (ha.run pins s σ H _ I h) fun v s1 ⟨x, H1, I1, r1, q1⟩ => args_nil ?_) na) na rfl))
  obtain ⟨l, xs, rfl, hq, few, q1⟩ := q1
  cases r1
  obtain ⟨its, r, pl, _⟩ := I1.list hq
  refine LenS.make (I1.ok.hd hc) pl.isList (by simpa using strs_vals r) (by unfold scanBound; omega) fun h' tk full keep => args_nil ?_
  obtain ⟨o, es, ep, t, ho, hex, hd, _, _, _, hf, hn⟩ := full
  have I2 : Inv X pins σ H1 { s1 with heap := h', toks := tk } := I1.kept fun b o e => keep b o (Heap.lt_size e) e
  have le := LenS.many_le xs xs.length
  exact call_len_set ho hex hd hf (by rw [hn]; omega) ⟨.int (LenS.many xs xs.length : Nat), H1, I2.tok _, ⟨_, by rw [hn]⟩, q1⟩
end L2
/-! from k03/TkV -/
namespace L2
open PySem PySem.Spec PyProof.Rows
/-! ### try with several clauses that name their error; one of them takes it -/
abbrev Cl := Value × Nat × (Addr → Value → Option Addr → TS)
/-- behind a clause its name is gone -/
def Ends.gone (D : Ends) (i : Nat) : Ends := { nx := fun σ H => D.nx (σ.set i none) H, rt := D.rt, bk := fun σ H => D.bk (σ.set i none) H, ct := fun σ H => D.ct (σ.set i none) H }
def wCl (K : PySem.W.Frag) (D : Ends) : List Cl → WX
  | [] => fun _ _ _ _ => False
  | k :: r => fun cls d σ H => (PySem.W.exmOne K cls k.1 = some true ∧ ∀ a, H a = none → k.2.2 a cls d (D.gone k.2.1) (σ.set k.2.1 (some (.ref a))) H) ∨ (PySem.W.exmOne K cls k.1 = some false ∧ wCl K D r cls d σ H)
inductive ClOk (X : Cx) : List ExceptHandler → List Cl → Prop
  | nil : ClOk X [] []
  | cons {x n : Str} {c : Value} {i : Nat} {ts : Addr → Value → Option Addr → TS} {b : Stmt} {bs : List Stmt} {p p' : Pos} {hs : List ExceptHandler} {l : List Cl} (hc : Names X x c) (hi : X.N[i]? = some n) (hl : X.env.kindOf n = some .local)
      (su : ∀ (a : Addr) (oe : Obj) (cls : Value) (d : Option Addr) (pn : List (Addr × Obj)), Zc cls d oe → (∃ vs, oe.data = .fields vs) → PSs (X.suite a ((a, oe) :: pn)) (b :: bs) (ts a cls d)) (r : ClOk X hs l) :
      ClOk X (.ExceptHandler (some (.Name x p)) (some n) (b :: bs) p' :: hs) ((c, i, ts) :: l)
section
variable {X : Cx}
/-- a caught error, while the clauses are asked -/
structure Caught (X : Cx) (pins : List (Addr × Obj)) (a : Addr) (G : Heap) (s0 s3 : Shared) (σ : St) (H : Hp) (cls : Value) (d : Option Addr) : Prop where
  inv : Inv X pins σ H s0
  nb : ∀ b o, s0.heap.get? b = some o → b ∉ frs X.stack → G.get? b = some o
  up : s0.heap.UpToSlots s3.heap
  fl : HandSPX.FlyingZ G (X.env :: X.outer) a (Zc cls d) s3.heap
  na : H a = none
  os : s3.os = s0.os
  ag : AllBare s3.gens
variable {pins : List (Addr × Obj)} {a : Addr} {G : Heap} {s0 s3 : Shared} {σ : St} {H : Hp} {cls : Value} {d : Option Addr}
theorem Caught.stand (C : Caught X pins a G s0 s3 σ H cls d) (hf : X.env.frame = some X.env.locals) : ∃ oe, Zc cls d oe ∧ (∃ vs, oe.data = .fields vs) ∧ s3.heap.get? a = some oe ∧ Inv X pins σ H s3 ∧ Inv (X.suite a ((a, oe) :: (X.pn ++ pins))) [] σ H s3 := by
  obtain ⟨oe, vs, e1, e2, e3⟩ := C.fl.there
  have nf : a ∉ frs (X.env :: X.outer) := fun m => by
    obtain ⟨_, o2, e4, q⟩ := C.fl.2.2.1.mem m
    have e5 := e1.symm.trans e4
    injection e5 with e5
    exact q _ (e5 ▸ e3)
  have J := C.inv.landed C.nb C.fl.1 C.up C.os C.ag
  refine ⟨oe, e2, ⟨vs, e3⟩, e1, J, J.suite e1 e3 C.na (fun z => nf ?_) (fun m => nf ?_)⟩
  · exact List.mem_filterMap.mpr ⟨X.env, List.mem_cons_self, by rw [hf, z]⟩
  · obtain ⟨v, hv, q⟩ := List.mem_filterMap.mp m
    exact List.mem_filterMap.mpr ⟨v, List.mem_cons_of_mem _ hv, q⟩
theorem Caught.on (C : Caught X pins a G s0 s3 σ H cls d) {h4 : Heap} (f : HandSPX.FlyingZ G (X.env :: X.outer) a (Zc cls d) h4) (u : s3.heap.UpToSlots h4) : Caught X pins a G s0 { s3 with heap := h4 } σ H cls d :=
  ⟨C.inv, C.nb, C.up.trans u, f, C.na, C.os, C.ag⟩
theorem handle_cl {D : Ends} (hf : X.env.frame = some X.env.locals) (nd : X.N.Nodup) : ∀ {hs : List ExceptHandler} {l : List Cl}, ClOk X hs l → ∀ {s3 : Shared}, Caught X pins a G s0 s3 σ H cls d → wCl X.K D l cls d σ H →
    wpAny (model X.prog X.w) X.A (handleBy (.ref a) X.env hs) (SP X pins D) X.xe s3 := by
  intro hs l ok
  induction ok with
  | nil => intro s3 _ w; exact w.elim
  | @cons x n c i ts b bs p p' hs l hc hi hl su r ih =>
    intro s3 C w
    obtain ⟨oe, z, hv, e1, J, S⟩ := C.stand hf
    refine wpAny_handleBy_cons (codeAny_handlers_test ?_) (fun q => nomatch q)
    have ty : PySem.W.Looks (model X.prog X.w) s3.heap (typeOf (.ref a)) cls := fun A Q E s k q => wpAny_typeOf_ref (k _ _ e1) (by rw [z.1]; exact q)
    have ask : ∀ {Q : Value → Shared → Prop} {E : Value → Shared → Prop}, Q c s3 → wpAny (model X.prog X.w) (X.A.mark (some (.ref a))) (eval (.Name x p) X.env) Q E s3 := fun {Q E} q => by
      obtain ⟨g1, g2, g3 | ⟨g3, g4, g5⟩⟩ := hc
      · exact ld_glob (X := X.suite a ((a, oe) :: (X.pn ++ pins))) S g1 g3 q g2
      · exact ld_blt (X := X.suite a ((a, oe) :: (X.pn ++ pins))) S g1 g3 g4 q g5 g2
    rcases w with ⟨yes, go⟩ | ⟨no, w⟩
    · refine ask ((PySem.W.exm_one (M := model X.prog X.w) J.kIn ty yes).here (codeAny_handlers_suite_as (HandSPX.lands_againZ C.fl fun h4 f u => ?_)))
      obtain ⟨oe4, z4, hv4, e4, J4, S4⟩ := (C.on f u).stand hf
      refine store_ok (X := X.suite a ((a, oe4) :: (X.pn ++ pins))) (v := .ref a) S4 nd hi (.inl hl) rfl (fun s5 S5 => ?_) (.inr hl)
      have last : ∀ {σ6 : St} {H6 : Hp} {s6 : Shared} {Q : Shared → Prop}, Inv (X.suite a ((a, oe4) :: (X.pn ++ pins))) [] σ6 H6 s6 → (∀ s7, Inv X pins (σ6.set i none) H6 s7 → Q s7) →
          wpAny (model X.prog X.w) X.A (do bindName X.env n .none; unbindBehindTheSuite X.env n p') (fun _ s7 => Q s7) X.xe s6 := fun {σ6 H6 s6 Q} T q => gone_ok (T.unsuite J.ok) nd hi hl q
      refine wpAny_mono ((su a oe4 cls d (X.pn ++ pins) z4 hv4).run [] s5 _ H (D.gone i) S5 (go a C.na)) (fun f6 s6 q6 => ?_) (fun _ _ y => False.elim y)
      match f6, q6 with
      | .next, ⟨_, _, T, y⟩ => exact last T fun _ I7 => ⟨_, _, I7, y⟩
      | .brk, ⟨_, _, T, y⟩ => exact last T fun _ I7 => ⟨_, _, I7, y⟩
      | .cont, ⟨_, _, T, y⟩ => exact last T fun _ I7 => ⟨_, _, I7, y⟩
      | .ret _, ⟨_, _, _, T, rv, y⟩ => exact last T fun _ I7 => ⟨_, _, _, I7, rv, y⟩
    · exact ask ((PySem.W.exm_one (M := model X.prog X.w) J.kIn ty no).here (ih C w))
theorem ps_try_cl {body : List Stmt} {h : ExceptHandler} {hs : List ExceptHandler} {l : List Cl} {pos : Pos} {tb : WX → TS} (st : X.stack = X.env :: X.outer) (hf : X.env.frame = some X.env.locals) (nd : X.N.Nodup)
    (hb : ∀ (W : WX) (pn : List (Addr × Obj)) (xe : Value → Shared → Prop), Takes (X.tr pn xe) W → PassesOwn (model X.prog X.w) X.A X.env xe → PSs (X.tr pn xe) body (tb W)) (ok : ClOk X (h :: hs) l) :
    PS X (.Try body (h :: hs) [] [] pos) (fun D σ H => tb (wCl X.K D l) D σ H) := by
  refine ⟨fun pins s σ H D I r => wpAny_Try_except ?_⟩
  refine wpAny_mono ((hb (wCl X.K D l) (X.pn ++ pins) _ (fun u s1 xx => ?_) PassesOwn.looking).run [] s σ H D (I.toTry _) r) (fun f s1 q => ?_) (fun _ _ y => y)
  · obtain ⟨a, G, s0, pins1, σ1, H1, cls, d, rfl, I1, nb, up, sky, na, os, ag, w⟩ := xx
    have fr : X.A.frames = some (X.env :: X.outer) := by rw [I.ok.frames, st]
    have sky1 : Sky G (X.env :: X.outer) a (Zc cls d) X.env.locals s1.heap := by rw [← st]; exact sky
    exact Sky.land Zc.steady fr hf sky1 fun h3 f3 u3 => handle_cl hf nd ok ⟨I1.ofTry I.ok, nb, up.trans u3, f3, na, os, ag⟩ w
  · match f, q with
    | .next, ⟨_, _, I1, y⟩ => exact wpAny_execs_nil ⟨_, _, I1.ofTry I.ok, y⟩
    | .brk, ⟨_, _, I1, y⟩ => exact ⟨_, _, I1.ofTry I.ok, y⟩
    | .cont, ⟨_, _, I1, y⟩ => exact ⟨_, _, I1.ofTry I.ok, y⟩
    | .ret _, ⟨_, _, _, I1, rv, y⟩ => exact ⟨_, _, _, I1.ofTry I.ok, rv, y⟩
end
end L2
set_option maxRecDepth 100000
/-! Objects over the plain data: fields, methods, a new object. -/
namespace Mm
open PySem L2
/-! ## fields -/
theorem lookup_zip {α : Type} : ∀ {fs : List Str} {xs : List α} {i : Nat} {f : Str} {x : α}, fs.Nodup → fs[i]? = some f → xs[i]? = some x → (fs.zip xs).lookup f = some x
  | [], xs, i, f, x, nd, h1, h2 => by simp at h1
  | g :: fs, [], i, f, x, nd, h1, h2 => by simp at h2
  | g :: fs, y :: xs, 0, f, x, nd, h1, h2 => by
    have e1 : g = f := Option.some.inj h1
    have e2 : y = x := Option.some.inj h2
    subst e1; subst e2
    rw [List.zip_cons_cons, List.lookup_cons_self]
  | g :: fs, y :: xs, i + 1, f, x, nd, h1, h2 => by
    rw [List.zip_cons_cons]
    have nd' := List.nodup_cons.mp nd
    have hm : f ∈ fs := List.mem_of_getElem? (i := i) h1
    have ne : (f == g) = false := beq_eq_false_iff_ne.mpr fun e => nd'.1 (e ▸ hm)
    rw [List.lookup_cons, ne]
    exact lookup_zip (i := i) nd'.2 h1 h2
theorem lookup_not {α : Type} : ∀ {fs : List Str} {xs : List α} {f : Str}, f ∉ fs → (fs.zip xs).lookup f = none
  | [], xs, f, h => rfl
  | g :: fs, [], f, h => rfl
  | g :: fs, y :: xs, f, h => by
    have ne : (f == g) = false := beq_eq_false_iff_ne.mpr fun e => h (by rw [e]; exact List.mem_cons_self)
    rw [List.zip_cons_cons, List.lookup_cons, ne]
    exact lookup_not fun z => h (List.mem_cons_of_mem _ z)
theorem putF_zip {v : V} : ∀ {fs : List Str} {xs : List V} {i : Nat} {f : Str}, fs.Nodup → fs[i]? = some f → i ≤ xs.length → putF f v (fs.zip xs) = fs.zip (if i < xs.length then xs.set i v else xs ++ [v])
  | [], xs, i, f, nd, h1, h2 => by simp at h1
  | g :: fs, [], 0, f, nd, h1, h2 => by
    have e1 : g = f := Option.some.inj h1
    subst e1
    cases fs <;> rfl
  | g :: fs, [], i + 1, f, nd, h1, h2 => by simp at h2
  | g :: fs, y :: xs, 0, f, nd, h1, h2 => by
    have e1 : g = f := Option.some.inj h1
    subst e1
    rw [List.zip_cons_cons, if_pos (by simp), List.set_cons_zero, List.zip_cons_cons]
    show (if g = g then (g, v) :: fs.zip xs else (g, y) :: putF g v (fs.zip xs)) = _
    rw [if_pos rfl]
  | g :: fs, y :: xs, i + 1, f, nd, h1, h2 => by
    have nd' := List.nodup_cons.mp nd
    have hm : f ∈ fs := List.mem_of_getElem? (i := i) h1
    have ne : g ≠ f := fun e => nd'.1 (by rw [e]; exact hm)
    rw [List.zip_cons_cons]
    show (if g = f then (g, v) :: fs.zip xs else (g, y) :: putF f v (fs.zip xs)) = _
    rw [if_neg ne, putF_zip (i := i) nd'.2 h1 (by simpa using h2)]
    by_cases hi : i < xs.length
    · rw [if_pos hi, if_pos (by simpa using hi), List.set_cons_succ, List.zip_cons_cons]
    · rw [if_neg hi, if_neg (by simpa using hi), List.cons_append, List.zip_cons_cons]
/-- the field f stands at place i of the class k -/
structure HasF (K : PySem.W.Frag) (Γ : Cls') (k i : Nat) (f : Str) : Prop where
  ok : ∀ C, Γ.at_ k = some C → Cls K C ∧ NoAttr K C f
  at_ : (Γ.fs k)[i]? = some f
  nd : (Γ.fs k).Nodup
  few : (Γ.fs k).length < 1000
section
variable {w : Wn} {W : WX} {σ : St} {c c' : Cn} {H H' : Hp} {n n' : Nat} {S : Sto} {env : Env}
variable {Γ : Cls'} {X : Cx} {a b e o tg : Expr} {es : List Expr} {ma mb mo : EM} {am : AM} {pos : Pos} {Dn : Ends}
/-- an instance: unchangeable, or in the store -/
def insOf (S : Sto) (d : D) : Option (Nat × List D) := match d with
  | .obj k ds => some (k, ds)
  | .loc j => match S[j]? with
    | some (.ins k ds) => some (k, ds)
    | _ => none
  | _ => none
@[simp] theorem insOf_obj (S : Sto) (k : Nat) (ds : List D) : insOf S (.obj k ds) = some (k, ds) := rfl
theorem insOf_loc {S : Sto} {j k : Nat} {ds : List D} (h : S[j]? = some (.ins k ds)) : insOf S (.loc j) = some (k, ds) := by
  unfold insOf; simp only [h]
theorem insOf_at {d : D} {v : V} {k : Nat} {ds : List D} (r : Rep w c H S) (at_ : At w c H S.length d v) (h : insOf S d = some (k, ds)) :
    ∃ p vs C dx, v = .ref p ∧ w.Γ.at_ k = some C ∧ vs.length ≤ (w.Γ.fs k).length ∧ H p = some (.ins C dx ((w.Γ.fs k).zip vs)) ∧ Ats w c H S.length ds vs := by
  cases d with
  | obj k' es =>
    cases h
    unfold At at at_
    obtain ⟨p, vs, C, dx, e, f, g, l, s, t⟩ := at_
    exact ⟨p, vs, C, dx, e, g, l, s, t⟩
  | loc j =>
    unfold insOf at h
    cases hj : S[j]? with
    | none => simp only [hj] at h; cases h
    | some o =>
      cases o with
      | ins k' es =>
        simp only [hj] at h
        cases h
        unfold At at at_
        obtain ⟨vs, C, dx, g, l, s, t⟩ := r.get hj
        exact ⟨_, vs, C, dx, at_.2, g, l, s, t⟩
      | _ => simp only [hj] at h; cases h
  | _ => cases h
/-- cs: the classes that may stand there, and the field's place in each -/
def fldD (cs : List (Nat × Nat)) (d : D) (S : Sto) : Option D := (insOf S d).bind fun p => (cs.lookup p.1).bind fun i => p.2[i]?
def e_fld (cs : List (Nat × Nat)) (m : EM) : EM := fun env S => (m env S).bind fun d S1 => .ofO (fldD cs d S1) S1
theorem mem_of_lookup {α β : Type} [BEq α] [LawfulBEq α] {k : α} {v : β} : ∀ {l : List (α × β)}, l.lookup k = some v → (k, v) ∈ l
  | [], h => by cases h
  | (j, u) :: r, h => by
    rw [List.lookup_cons] at h
    cases e : (k == j) with
    | true =>
      rw [e] at h; cases h
      rw [eq_of_beq e]; exact List.mem_cons_self
    | false => rw [e] at h; exact List.mem_cons_of_mem _ (mem_of_lookup h)
theorem c_fld {cs : List (Nat × Nat)} {f : Str} (hF : ∀ p ∈ cs, HasF X.K Γ p.1 p.2 f) (he : CE Γ X W e ma) (hb : attributeBase e f X.env (eval e X.env) = eval e X.env := by rfl) : CE Γ X W (.Attribute e f pos) (e_fld cs ma) := by
  refine PE.weak (pe_fld he hb) fun σ H Q ⟨c, env, S, r, ev, h⟩ => ?_
  refine ⟨c, env, S, r, ev, (Po.bind h).imp fun v H1 ⟨c1, S1, d1, e1, r1, a1, h1⟩ => ?_⟩
  obtain ⟨y, hy, h1⟩ := Po.ofO h1
  unfold fldD at hy
  cases hi : insOf S1 d1 with
  | none => rw [hi] at hy; cases hy
  | some p =>
    obtain ⟨k, ds⟩ := p
    rw [hi] at hy
    cases hl : cs.lookup k with
    | none => simp only [Option.bind_some, hl] at hy; cases hy
    | some i =>
      simp only [Option.bind_some, hl] at hy
      obtain ⟨q, vs, C, dx, rfl, g, l, s, t⟩ := insOf_at r1 a1 hi
      have F := hF (k, i) (mem_of_lookup hl)
      obtain ⟨u, hu, au⟩ := t.get hy
      exact ⟨q, C, dx, _, u, rfl, s, (F.ok C g).1, (F.ok C g).2, lookup_zip F.nd F.at_ hu, fin_ok h1 r1 au⟩
/-- o.f = e -/
def setF (cs : List (Nat × Nat)) (d z : D) (S : Sto) : Option Sto := match d with
  | .loc j => match S[j]? with
    | some (.ins k ds) => (cs.lookup k).bind fun i => if i < ds.length then some (S.set j (.ins k (ds.set i z))) else if i = ds.length then some (S.set j (.ins k (ds ++ [z]))) else none
    | _ => none
  | _ => none
theorem setF_loc {cs : List (Nat × Nat)} {S : Sto} {j k i : Nat} {ds : List D} {z : D} (h : S[j]? = some (.ins k ds)) (hc : cs.lookup k = some i) (hi : i ≤ ds.length) :
    setF cs (.loc j) z S = some (S.set j (.ins k (if i < ds.length then ds.set i z else ds ++ [z]))) := by
  unfold setF
  simp only [h, hc, Option.bind_some]
  by_cases hl : i < ds.length
  · rw [if_pos hl, if_pos hl]
  · rw [if_neg hl, if_neg hl, if_pos (by omega)]
theorem setF_at {cs : List (Nat × Nat)} {f : Str} {d z : D} {v u : V} {S' : Sto} (hF : ∀ p ∈ cs, HasF w.K w.Γ p.1 p.2 f) (r : Rep w c H S) (a1 : At w c H S.length d v) (a2 : At w c H S.length z u) (h : setF cs d z S = some S') :
    ∃ p C dx fs k, v = .ref p ∧ (∃ i, (k, i) ∈ cs) ∧ w.Γ.at_ k = some C ∧ H p = some (.ins C dx fs) ∧ Cls w.K C ∧ NoAttr w.K C f ∧ fs.length < 1000 ∧ S'.length = S.length ∧ Ext c H S.length c (upd H p (.ins C dx (putF f u fs))) S.length ∧ Rep w c (upd H p (.ins C dx (putF f u fs))) S' := by
  cases d with
  | loc j =>
    unfold setF at h
    cases hj : S[j]? with
    | none => simp only [hj] at h; cases h
    | some ob =>
      cases ob with
      | ins k ds =>
        simp only [hj] at h
        cases hl : cs.lookup k with
        | none => rw [hl] at h; cases h
        | some i =>
          rw [hl, Option.bind_some] at h
          unfold At at a1
          obtain ⟨vs, C, dx, g, l, s, t⟩ := r.get hj
          have F := hF (k, i) (mem_of_lookup hl)
          have few : ((w.Γ.fs k).zip vs).length < 1000 := by rw [List.length_zip]; exact Nat.lt_of_le_of_lt (Nat.min_le_left _ _) F.few
          refine ⟨c.ρ j, C, dx, _, k, a1.2, ⟨i, mem_of_lookup hl⟩, g, s, (F.ok C g).1, (F.ok C g).2, few, ?_⟩
          have fin : ∀ ds', (ds' = if i < ds.length then ds.set i z else ds ++ [z]) → i ≤ ds.length → S' = S.set j (.ins k ds') →
              S'.length = S.length ∧ Ext c H S.length c (upd H (c.ρ j) (.ins C dx (putF f u ((w.Γ.fs k).zip vs)))) S.length ∧ Rep w c (upd H (c.ρ j) (.ins C dx (putF f u ((w.Γ.fs k).zip vs)))) S' := fun ds' e hi es => by
            have il : i < (w.Γ.fs k).length := (List.getElem?_eq_some_iff.mp F.at_).1
            have ex := Ext.wr r (o := .ins C dx (putF f u ((w.Γ.fs k).zip vs))) a1.1
            subst es
            refine ⟨List.length_set, ex, Rep.wr r a1.1 ⟨if i < vs.length then vs.set i u else vs ++ [u], C, dx, g, ?_, ?_, ?_⟩⟩
            · split
              · rw [List.length_set]; exact l
              · rename_i hn
                rw [List.length_append, List.length_singleton]
                have := t.len; omega
            · rw [upd_same, putF_zip F.nd F.at_ (by rw [t.len]; exact hi)]
            · rw [e, t.len]
              split
              · exact (t.set a2 i).mono ex
              · exact (t.app (.one a2)).mono ex
          by_cases h1 : i < ds.length
          · rw [if_pos h1] at h
            exact fin _ (by rw [if_pos h1]) (Nat.le_of_lt h1) (Option.some.inj h).symm
          · rw [if_neg h1] at h
            by_cases h2 : i = ds.length
            · rw [if_pos h2] at h
              exact fin _ (by rw [if_neg h1]) (Nat.le_of_eq h2) (Option.some.inj h).symm
            · rw [if_neg h2] at h; cases h
      | _ => simp only [hj] at h; cases h
  | _ => cases h
def s_fld (cs : List (Nat × Nat)) (mo mv : EM) : SM := fun env S => (mv env S).toS env fun z S1 => (mo env S1).toS env fun d S2 => match setF cs d z S2 with
  | some S3 => .next env S3
  | none => .bad
theorem c_sfld {cs : List (Nat × Nat)} {f : Str} {p' : Pos} (hF : ∀ p ∈ cs, HasF X.K Γ p.1 p.2 f) (ho : CE Γ X W o mo) (hv : CE Γ X W e ma) (hs : swapsWith e (some (.Attribute o f p')) pos.line X.env = pure false := by rfl) : CS Γ X W (.Assign [.Attribute o f p'] e pos) (s_fld cs mo ma) := by
  refine PS.weak (ps_fld ho hv hs) fun Dn σ H ⟨c, env, S, r, ev, h⟩ => ?_
  refine ⟨c, env, S, r, ev, (PoS.part ev h).imp fun v H1 ⟨c1, S1, d1, e1, r1, a1, ev1, h1⟩ => ?_⟩
  refine ⟨c1, env, S1, r1, ev1, (PoS.part ev1 h1).imp fun v2 H2 ⟨c2, S2, d2, e2, r2, a2, ev2, h2⟩ => ?_⟩
  cases hs : setF cs d2 d1 S2 with
  | none => simp only [hs] at h2; exact h2.elim
  | some S3 =>
    simp only [hs] at h2
    obtain ⟨p, C, dx, fs, _, rfl, _, _, s, cl, na, few, hl, ex, rr⟩ := setF_at hF r2 a2 (a1.mono e2) hs
    exact ⟨p, C, dx, fs, rfl, s, cl, na, few, h2 c2 _ σ (by rw [hl]; exact ex) rr (by rw [hl]; exact ev2.mono ex)⟩
/-- o.f op= e, two ints, o of the class k -/
def s_fldaug (k i : Nat) (g : Int → Int → Int) (mo mv : EM) : SM := fun env S => (mo env S).toS env fun d S1 => (R.ofO (fldD [(k, i)] d S1) S1).toS env fun x S2 => (mv env S2).toS env fun y S3 => match x, y with
  | .int i1, .int j1 => match setF [(k, i)] d (.int (g i1 j1)) S3 with
    | some S4 => .next env S4
    | none => .bad
  | _, _ => .bad
theorem c_fldaug {k i : Nat} {f : Str} {op : Operator} {g : Int → Int → Int} {tp : Pos} (hop : InOp X op fun x y H Q => ∃ i j, x = .int i ∧ y = .int j ∧ Q (.int (g i j)) H) (F : HasF X.K Γ k i f) (ho : CE Γ X W o mo) (hv : CE Γ X W e ma) : CS Γ X W (.AugAssign (.Attribute o f tp) op e pos) (s_fldaug k i g mo ma) := by
  have hF : ∀ p ∈ [(k, i)], HasF X.K Γ p.1 p.2 f := fun p hp => by rw [List.mem_singleton.mp hp]; exact F
  refine PS.weak (ps_fldaug ho hv hop) fun Dn σ H ⟨c, env, S, r, ev, h⟩ => ?_
  refine ⟨c, env, S, r, ev, (PoS.part ev h).imp fun v H1 ⟨c1, S1, d1, e1, r1, a1, ev1, h1⟩ => ?_⟩
  cases hy : fldD [(k, i)] d1 S1 with
  | none => rw [hy] at h1; exact h1.elim
  | some x =>
    rw [hy, R.ofO_some, R.toS_ok] at h1
    unfold fldD at hy
    cases hi : insOf S1 d1 with
    | none => rw [hi] at hy; cases hy
    | some p =>
      obtain ⟨k', ds⟩ := p
      rw [hi, Option.bind_some] at hy
      by_cases ek : k' = k
      · subst ek
        rw [List.lookup_cons_self, Option.bind_some] at hy
        obtain ⟨q, vs, C, dx, rfl, gk, l, s, t⟩ := insOf_at r1 a1 hi
        obtain ⟨u, hu, au⟩ := t.get hy
        refine ⟨q, C, dx, _, u, rfl, s, (F.ok C gk).1, (F.ok C gk).2, lookup_zip F.nd F.at_ hu, c1, env, S1, r1, ev1, (PoS.part ev1 h1).imp fun v2 H2 ⟨c2, S2, d2, e2, r2, a2, ev2, h2⟩ => ?_⟩
        cases x with
        | int i1 =>
          cases d2 with
          | int j1 =>
            dsimp only at h2
            cases hs : setF [(k', i)] d1 (.int (g i1 j1)) S2 with
            | none => rw [hs] at h2; exact h2.elim
            | some S3 =>
              rw [hs] at h2
              obtain ⟨p, C', dx', fs', k2, ep, ⟨i2, hm⟩, g2, s', cl, na, few, hl', ex, rr⟩ := setF_at (w := ⟨X.K, Γ⟩) hF r2 (a1.mono e2) (.i (g i1 j1)) hs
              cases ep
              cases List.mem_singleton.mp hm
              rw [gk] at g2
              cases g2
              refine ⟨i1, j1, au.int, a2.int, dx', fs', s', few, ?_⟩
              exact h2 c2 _ σ (by rw [hl']; exact ex) rr (by rw [hl']; exact ev2.mono ex)
          | _ => exact h2.elim
        | _ => cases d2 <;> exact h2.elim
      · have : (k' == k) = false := beq_eq_false_iff_ne.mpr ek
        rw [List.lookup_cons, this] at hy
        cases hy
/-! ## methods -/
/-- the class k has the method x, which is m -/
structure Dm (P : Program) (wd : World) (K : PySem.W.Frag) (mg : Str → Option Value) (base : Heap) (Γ : Cls') (k : Nat) (x : Str) (lv : Nat) (m : FM) : Prop where
  ex : ∃ (C f : Addr) (fd : FuncData) (ps : List Str), Γ.at_ k = some C ∧ Cls K C ∧ Meth K C x f ∧ FnOk P wd K mg base (L2.CX P wd) lv f fd ps (spM K Γ m) ∧ Binds K fd ps []
  nf : x ∉ Γ.fs k
def isI (k : Nat) (d : D) (S : Sto) : Prop := ∃ ds, insOf S d = some (k, ds)
theorem isI_obj (k : Nat) (ds : List D) (S : Sto) : isI k (.obj k ds) S := ⟨ds, rfl⟩
theorem isI_loc {k j : Nat} {ds : List D} {S : Sto} (h : S[j]? = some (.ins k ds)) : isI k (.loc j) S := ⟨ds, insOf_loc h⟩
open Classical in
noncomputable def e_mth (tr : TrF) (k : Nat) (m : FM) (mo : EM) (am : AM) : EM := fun env S => (mo env S).bind fun d S1 => .if (isI k d S1) ((am env S1).bind fun ds S2 => tr S2 (m (d :: ds) S2))
open Classical in
theorem mth_read {k : Nat} {x : Str} {m : FM} {C : Addr} {tr : TrF} {σ : St} {H : Hp} {Q : VK} (ht : TrOk tr) (gC : Γ.at_ k = some C) (nf : x ∉ Γ.fs k) (h : mE ⟨X.K, Γ⟩ W (e_mth tr k m mo am) σ H Q) : tMethXS C x (spM X.K Γ m) (fun σ => WE W σ) (mE ⟨X.K, Γ⟩ W mo) (mA ⟨X.K, Γ⟩ W am) σ H Q := by
  obtain ⟨c, env, S, r, ev, h⟩ := h
  refine ⟨c, env, S, r, ev, (Po.bind h).imp fun v H1 ⟨c1, S1, d1, e1, r1, a1, h1⟩ => ?_⟩
  obtain ⟨⟨ds, hi⟩, h1⟩ := Po.if h1
  obtain ⟨p, vs, C', dx, rfl, g, l, s, t⟩ := insOf_at r1 a1 hi
  rw [gC] at g; cases g
  refine ⟨p, dx, _, rfl, s, lookup_not nf, c1, env, S1, r1, ev.mono e1, (Po.bind h1).imp fun us H2 ⟨c2, S2, es, e2, r2, a2, h2⟩ => ?_⟩
  exact ⟨c2, S2, d1 :: es, r2, .cons (a1.mono e2) a2, (ht _ _ _ _ _ _ _ _ r2 h2).wish fun _ _ _ z => z⟩
theorem c_mth {k lv : Nat} {x : Str} {m : FM} {apos : Pos} {pl : Sem Bool} {tr : TrF} (tok : TrOk tr) (G : Dm X.prog X.w X.K X.mg X.base Γ k x lv m) (go : Goes X W) (hr : Room lv X.A) (ho : CE Γ X W o mo) (ha : CA Γ X W (e :: es) am)
    (ht : eval (.Call (.Attribute o x apos) (e :: es) [] pos) X.env = mcall X o x apos pos (e :: es) pl := by rfl) (h1 : starEach (e :: es) X.env = (false, eval e X.env) :: starEach es X.env := by rfl) (h2 : (backTo pos (starEach es X.env)).any (·.1) = false := by rfl) :
    CE Γ X W (.Call (.Attribute o x apos) (e :: es) [] pos) (e_mth tr k m mo am) := by
  obtain ⟨C, f, fd, ps, gC, cl, me, F, hb⟩ := G.ex
  exact PE.weak (pe_methXS (E := fun σ => WE W σ) ho cl me F hr hb go ha ht h1 h2) fun σ H Q h => mth_read tok gC G.nf h
end
end Mm
namespace L2
open PySem PySem.Spec PyProof.Rows
section
variable {X : Cx} {CX : CXT} {k : Nat} {f C : Addr} {fd : FuncData} {ps : List Str} {sp : Sp} {E : St → XK} {m x : Str} {pos apos p : Pos} {o : Expr} {ta : TE}
/-- o.m(), where an error may come out -/
theorem pe_methXS0 {pl : Sem Bool} (he : PE X o ta) (c : Cls X.K C) (hm : Meth X.K C m f) (F : FnOk X.prog X.w X.K X.mg X.base CX k f fd ps sp) (hr : Room k X.A) (hb : Binds X.K fd ps []) (hx : ∀ σ, PassesAt CX X σ (E σ))
    (ht : eval (.Call (.Attribute o m apos) [] [] pos) X.env = mcall X o m apos pos [] pl := by rfl) : PE X (.Call (.Attribute o m apos) [] [] pos) (tMethXS C m sp E ta tNil) := by
  constructor
  intro pins s σ H Q I h
  refine PySem.W.methodCall_KW (pl := pl) (thn (he.run pins s σ H _ I h) fun u s1 q => ?_) ht
  obtain ⟨_, H1, I1, ru, a, dx, fs, rfl, ea, l, q⟩ := q
  have eu : u = Value.ref a := ru
  subst eu
  refine getmeth_ok I1 ea c hm l ?_
  exact PySem.W.callWith_K0 (first := [.ref a]) I1.kIn hm.kp (run_fnS (us := [.ref a]) (vs := [.ref a]) F hr hb (hx σ) I1 (.cons rfl .nil) q)
/-- C(), where an error may come out of its __init__ -/
theorem pe_makeS0 (M : Mk X.K C f) (F : FnOk X.prog X.w X.K X.mg X.base CX k f fd ps sp) (hr : Room (k + 1) X.A) (hg : Gl X x) (hm : X.mg x = some (.ref C)) (hb : Binds X.K fd ps []) (hx : ∀ σ, PassesAt CX X σ (E σ))
    (hdb : (x == ("__debug__" : Str)) = false := by decide) : PE X (.Call (.Name x p) [] [] pos) (tMakeS C sp E tNil) := by
  constructor
  intro pins s σ H Q I q
  refine wpAny_Call_Name_kw (ld_glob I hg hm ?_ hdb)
  refine PySem.W.callWith_K0 I.kIn M.kp ?_
  have q1 := q (s.heap.objs.size + 1) s.heap.objs.size (I.hok.fresh (Nat.le_succ _)) (I.hok.fresh (Nat.le_refl _)) (Nat.ne_of_lt (Nat.lt_succ_self _))
  have J2 := Inv.made (C := C) I
  have rr : Vals (V.ref (s.heap.objs.size + 1) :: []) (Value.ref (s.heap.objs.size + 1) :: []) := .cons rfl .nil
  have hl : (Value.ref (s.heap.objs.size + 1) :: [] ++ []).length = ps.length := by
    rw [List.append_nil, ← rr.length]; exact F.len _ _ _ _ q1
  have bd := hb _ (Value.ref (s.heap.objs.size + 1) :: []) J2.kIn hl
  rw [List.append_nil] at bd
  refine wpAny_call (make_map (f := f) I.kIn M.makes M.init (beq_iff_eq.mp M.fn) (codeAny_mono (F.run _ X.stack _ _ ⟨Value.ref (s.heap.objs.size + 1) :: [], []⟩ _ _ _ (E σ) (hr.make C [] []) (J2.env0.make C [] []) bd rr q1) fun res s' hq => ?_))
  match res, hq with
  | .error err, hq => exact hx σ pins _ _ err s' J2 hq
  | .ok (.ret u), hq =>
    obtain ⟨v, H', J3, rv, ev, q3⟩ := J2.after hq
    subst ev
    exact ⟨rv, ⟨V.ref (s.heap.objs.size + 1), H', J3, rfl, q3⟩⟩
end
end L2
namespace Mm
open PySem L2
section
variable {w : Wn} {W : WX} {σ : St} {c c' : Cn} {H H' : Hp} {n n' : Nat} {S : Sto} {env : Env}
variable {Γ : Cls'} {X : Cx} {a b e o tg : Expr} {es : List Expr} {ma mb mo : EM} {am : AM} {pos : Pos} {Dn : Ends}
theorem ca_nil_read {Q : List V → Hp → Prop} (h : mA w W a_nil σ H Q) : tNil σ H Q := by
  obtain ⟨c, env, S, r, ev, h⟩ := h
  exact h c H [] Ext.refl r .nil
theorem tMethXS_nil {C : Addr} {x : Str} {sp : Sp} {E : St → XK} {m : EM} {Q : VK} (h : tMethXS C x sp E (mE w W m) (mA w W a_nil) σ H Q) : tMethXS C x sp E (mE w W m) tNil σ H Q := by
  obtain ⟨c, env, S, r, ev, h⟩ := h
  exact ⟨c, env, S, r, ev, h.imp fun v H ⟨a, dx, fs, h1, h2, h3, h4⟩ => ⟨a, dx, fs, h1, h2, h3, ca_nil_read h4⟩⟩
theorem mE.imp {m : EM} {Q Q' : VK} (i : ∀ v H, Q v H → Q' v H) (h : mE w W m σ H Q) : mE w W m σ H Q' := by
  obtain ⟨c, env, S, r, ev, h⟩ := h
  exact ⟨c, env, S, r, ev, h.imp i⟩
theorem c_mth0 {k lv : Nat} {x : Str} {m : FM} {apos : Pos} {pl : Sem Bool} {tr : TrF} (tok : TrOk tr) (G : Dm X.prog X.w X.K X.mg X.base Γ k x lv m) (go : Goes X W) (hr : Room lv X.A) (ho : CE Γ X W o mo)
    (ht : eval (.Call (.Attribute o x apos) [] [] pos) X.env = mcall X o x apos pos [] pl := by rfl) : CE Γ X W (.Call (.Attribute o x apos) [] [] pos) (e_mth tr k m mo a_nil) := by
  obtain ⟨C, f, fd, ps, gC, cl, me, F, hb⟩ := G.ex
  exact PE.weak (pe_methXS0 (E := fun σ => WE W σ) ho cl me F hr hb go ht) fun σ H Q h => tMethXS_nil (mth_read tok gC G.nf h)
/-! ## a new object -/
/-- the class k stands under its name; its __init__ is m -/
structure Dk (P : Program) (wd : World) (K : PySem.W.Frag) (mg : Str → Option Value) (base : Heap) (Γ : Cls') (k : Nat) (x : Str) (lv : Nat) (m : FM) : Prop where
  ex : ∃ (C f : Addr) (fd : FuncData) (ps : List Str), Γ.at_ k = some C ∧ mg x = some (.ref C) ∧ Mk K C f ∧ FnOk P wd K mg base (L2.CX P wd) lv f fd ps (spM K Γ m) ∧ Binds K fd ps []
def mkD (k : Nat) (m : FM) (ds : List D) (S : Sto) : R D := (m (.loc S.length :: ds) (S ++ [.ins k []])).bind fun d S2 => match d with
  | .non => .ok (.loc S.length) S2
  | _ => .bad
def e_mk (tr : TrF) (k : Nat) (m : FM) (am : AM) : EM := fun env S => (am env S).bind fun ds S1 => tr S1 (mkD k m ds S1)
/-- a new instance without fields -/
theorem mk_start {k : Nat} {C x dx : Addr} {ds : List D} {vs : List V} (r : Rep w c H S) (gC : w.Γ.at_ k = some C) (t : Ats w c H S.length ds vs) (hx : H x = none) (hd : H dx = none) (ne : dx ≠ x) :
    Ext c H S.length (c.nw S.length x) (upd (upd H dx (.own x)) x (.ins C dx [])) (S ++ [SO.ins k []]).length ∧ Rep w (c.nw S.length x) (upd (upd H dx (.own x)) x (.ins C dx [])) (S ++ [.ins k []]) ∧
      Ats w (c.nw S.length x) (upd (upd H dx (.own x)) x (.ins C dx [])) (S ++ [SO.ins k []]).length (.loc S.length :: ds) (.ref x :: vs) := by
  have hl : (S ++ [SO.ins k []]).length = S.length + 1 := by rw [List.length_append]; rfl
  have e1 : Ext c H S.length c (upd H dx (.own x)) S.length := Ext.grow hd
  have r1 : Rep w c (upd H dx (.own x)) S := r.grow hd
  have hx1 : (upd H dx (.own x)) x = none := by rw [upd_ne (Ne.symm ne)]; exact hx
  have e2 : Ext c (upd H dx (.own x)) S.length (c.nw S.length x) (upd (upd H dx (.own x)) x (.ins C dx [])) (S.length + 1) := Ext.nw hx1
  rw [hl]
  refine ⟨e1.trans e2, r1.nw hx1 ⟨[], C, dx, gC, Nat.zero_le _, by rw [upd_same, List.zip_nil_right], .nil⟩, .cons ?_ (t.mono (e1.trans e2))⟩
  unfold At
  exact ⟨Nat.lt_succ_self _, by rw [Cn.nw_at]⟩
theorem mk_read {k : Nat} {m : FM} {C : Addr} {tr : TrF} {σ : St} {H : Hp} {Q : VK} (ht : TrOk tr) (gC : Γ.at_ k = some C) (h : mE ⟨X.K, Γ⟩ W (e_mk tr k m am) σ H Q) : tMakeS C (spM X.K Γ m) (fun σ => WE W σ) (mA ⟨X.K, Γ⟩ W am) σ H Q := by
  obtain ⟨c, env, S, r, ev, h⟩ := h
  refine ⟨c, env, S, r, ev, (Po.bind h).imp fun vs H1 ⟨c1, S1, ds, e1, r1, a1, h1⟩ x dx hx hd ne => ?_⟩
  obtain ⟨e2, r2, t2⟩ := mk_start (w := ⟨X.K, Γ⟩) r1 gC a1 hx hd ne
  have h2 := Po.mono e2 (ht _ _ _ _ _ _ _ _ r1 h1)
  refine ⟨_, _, _, r2, t2, ?_⟩
  refine Po.wish ((Po.bind h2).imp fun v H3 ⟨c3, S3, d3, e3, r3, a3, h3⟩ => ?_) fun _ _ _ z => z
  cases d3 with
  | non =>
    refine ⟨a3.non, h3 c3 H3 _ Ext.refl r3 ?_⟩
    have hl : (S1 ++ [SO.ins k []]).length = S1.length + 1 := by rw [List.length_append]; rfl
    unfold At
    have hlt : S1.length < (S1 ++ [SO.ins k []]).length := by rw [hl]; exact Nat.lt_succ_self _
    exact ⟨Nat.lt_of_lt_of_le hlt e3.le, by rw [e3.rho _ hlt, Cn.nw_at]⟩
  | _ => exact h3.elim
theorem c_mk {k lv : Nat} {x : Str} {m : FM} {p : Pos} {tr : TrF} (tok : TrOk tr) (G : Dk X.prog X.w X.K X.mg X.base Γ k x lv m) (go : Goes X W) (hr : Room (lv + 1) X.A) (hg : Gl X x) (ha : CA Γ X W (e :: es) am)
    (hdb : (x == ("__debug__" : Str)) = false := by decide) (he : starEach (e :: es) X.env = (false, eval e X.env) :: starEach es X.env := by rfl) (hpl : (backTo pos (starEach es X.env)).any (·.1) = false := by rfl) : CE Γ X W (.Call (.Name x p) (e :: es) [] pos) (e_mk tr k m am) := by
  obtain ⟨C, f, fd, ps, gC, hm, M, F, hb⟩ := G.ex
  exact PE.weak (pe_makeS (E := fun σ => WE W σ) M F hr hg hm hb go ha hdb he hpl) fun σ H Q h => mk_read tok gC h
theorem tMakeS_nil {C : Addr} {sp : Sp} {E : St → XK} {Q : VK} (h : tMakeS C sp E (mA w W a_nil) σ H Q) : tMakeS C sp E tNil σ H Q := ca_nil_read h
theorem c_mk0 {k lv : Nat} {x : Str} {m : FM} {p : Pos} {tr : TrF} (tok : TrOk tr) (G : Dk X.prog X.w X.K X.mg X.base Γ k x lv m) (go : Goes X W) (hr : Room (lv + 1) X.A) (hg : Gl X x) (hdb : (x == ("__debug__" : Str)) = false := by decide) : CE Γ X W (.Call (.Name x p) [] [] pos) (e_mk tr k m a_nil) := by
  obtain ⟨C, f, fd, ps, gC, hm, M, F, hb⟩ := G.ex
  exact PE.weak (pe_makeS0 (E := fun σ => WE W σ) M F hr hg hm hb go hdb) fun σ H Q h => tMakeS_nil (mk_read tok gC h)
/-! ## a class's own operators -/
/-- the class k has its own operator x, which is m -/
structure Dn' (P : Program) (wd : World) (K : PySem.W.Frag) (mg : Str → Option Value) (base : Heap) (Γ : Cls') (k : Nat) (x : Str) (lv : Nat) (m : FM) : Prop where
  ex : ∃ (C f : Addr) (fd : FuncData) (ps : List Str), Γ.at_ k = some C ∧ OwnM K C x f ∧ PySem.W.fnIn K f = true ∧ FnOk P wd K mg base (L2.CX P wd) lv f fd ps (spM K Γ m) ∧ Binds K fd ps []
open Classical in
noncomputable def e_own2 (tr : TrF) (k : Nat) (m : FM) (ma mb : EM) : EM := fun env S => (ma env S).bind fun x S1 => (mb env S1).bind fun y S2 => .if (isI k x S2) (tr S2 (m [x, y] S2))
open Classical in
theorem c_ixOwn {k lv : Nat} {m : FM} {tr : TrF} (tok : TrOk tr) (G : Dn' X.prog X.w X.K X.mg X.base Γ k "__getitem__" lv m) (go : Goes X W) (hr : Room (lv + 1) X.A) (ha : CE Γ X W a ma) (hb : CE Γ X W b mb) (hs : ∀ o i, subscripted b true o i = runValue (.builtin "lifetime.subscript" ⟨[o, i], []⟩) := by exact fun _ _ => rfl) :
    CE Γ X W (.Subscript a b pos) (e_own2 tr k m ma mb) := by
  obtain ⟨C, f, fd, ps, gC, M, hf, F, hbi⟩ := G.ex
  refine PE.weak (ix_ownS (value := a) (slice := b) (E := fun σ => WE W σ) M hf F hr hbi go ha hb hs) fun σ H Q ⟨c, env, S, r, ev, h⟩ => ?_
  refine ⟨c, env, S, r, ev, (Po.bind h).imp fun v H1 ⟨c1, S1, d1, e1, r1, a1, h1⟩ => ?_⟩
  refine ⟨c1, env, S1, r1, ev.mono e1, (Po.bind h1).imp fun u H2 ⟨c2, S2, d2, e2, r2, a2, h2⟩ => ?_⟩
  obtain ⟨⟨ds, hi⟩, h2⟩ := Po.if h2
  obtain ⟨p, vs, C', dx, rfl, g, l, s, t⟩ := insOf_at r2 (a1.mono e2) hi
  rw [gC] at g; cases g
  exact ⟨p, dx, _, rfl, s, c2, S2, [d1, d2], r2, .cons (a1.mono e2) (.one a2), (tok _ _ _ _ _ _ _ _ r2 h2).wish fun _ _ _ z => z⟩
open Classical in
/-- y in x by x's own __contains__; neg: not in. No error comes out -/
noncomputable def e_ownIn (tr : TrF) (neg : Bool) (k : Nat) (m : FM) (ma mb : EM) : EM := fun env S => (ma env S).bind fun y S1 => (mb env S1).bind fun x S2 => .if (isI k x S2) ((tr S2 (m [x, y] S2)).nox.bind fun d S3 => match d with
  | .bl b => .ok (.bl (neg ^^ b)) S3
  | _ => .bad)
theorem passes_not {X : Cx} : Passes (L2.CX X.prog X.w) X (fun _ _ _ => False) := fun pins σ H s e s' I h => by
  obtain ⟨a, B, H', cls, d, _, _, _, _, _, _, _, z⟩ := h
  exact z.elim
theorem nox_bl {r : R D} {neg : Bool} {Q : VK} (h : PoE w W σ c H n (r.nox.bind fun d S3 => match d with
  | .bl b => .ok (.bl (neg ^^ b)) S3
  | _ => .bad) Q) : PoE w (fun _ _ _ _ => False) [] c H n r fun v H' => ∃ k, v = .bl k ∧ Q (.bl (if neg then !k else k)) H' := by
  cases r with
  | ok d S =>
    intro c1 H1 v e1 r1 a1
    cases d with
    | bl b =>
      refine ⟨b, a1.bl, ?_⟩
      have := h c1 H1 (.bl (neg ^^ b)) e1 r1 (.b _)
      cases neg <;> simpa using this
    | _ => exact h.elim
  | ex x S => exact h.elim
  | bad => exact h.elim
/-- trunc and nox: what tr does to an outcome without errors -/
theorem tr_nox {tr : TrF} (tok : TrOk tr) {r : R D} {Q : VK} (rp : Rep w c H S) (h : PoE w (fun _ _ _ _ => False) [] c H S.length (tr S r) Q) : PoE w (fun _ _ _ _ => False) [] c H S.length r Q := tok _ _ _ _ _ _ _ _ rp h
theorem g_ownIn {k lv : Nat} {m : FM} {tr : TrF} {neg : Bool} {C : Addr} (tok : TrOk tr) (gC : Γ.at_ k = some C) : ∀ (W : WX) (σ : St) (c : Cn) (H : Hp) (S : Sto) (y x : D) (u v : V) (Q : VK), Rep ⟨X.K, Γ⟩ c H S → At ⟨X.K, Γ⟩ c H S.length y u → At ⟨X.K, Γ⟩ c H S.length x v → ∀ ds, insOf S x = some (k, ds) → PoE ⟨X.K, Γ⟩ W σ c H S.length ((tr S (m [x, y] S)).nox.bind fun d S3 => match d with
  | .bl b => .ok (.bl (neg ^^ b)) S3
  | _ => .bad) Q → rOwnIn C (spM X.K Γ m) (fun _ _ _ => False) neg u v H Q := by
  intro W σ c H S y x u v Q r ay ax ds hi h
  obtain ⟨p, vs, C', dx, rfl, g, l, s, t⟩ := insOf_at r ax hi
  rw [gC] at g; cases g
  exact ⟨p, dx, _, rfl, s, c, S, [x, y], r, .cons ax (.one ay), tr_nox tok r (nox_bl h)⟩
open Classical in
theorem c_inOwn {k lv : Nat} {m : FM} {tr : TrF} (tok : TrOk tr) (G : Dn' X.prog X.w X.K X.mg X.base Γ k "__contains__" lv m) (hr : Room lv X.A) (ha : CE Γ X W a ma) (hb : CE Γ X W b mb) (hm : behindInMarks .In b = false) : CE Γ X W (.Compare a [.In] [b] pos) (e_ownIn tr false k m ma mb) := by
  obtain ⟨C, f, fd, ps, gC, M, hf, F, hbi⟩ := G.ex
  refine PE.weak (pe_cmpR (op_inOwn M F hr hbi passes_not) ha hb hm) fun σ H Q ⟨c, env, S, r, ev, h⟩ => ?_
  refine ⟨c, env, S, r, ev, (Po.bind h).imp fun v H1 ⟨c1, S1, d1, e1, r1, a1, h1⟩ => ?_⟩
  refine ⟨c1, env, S1, r1, ev.mono e1, (Po.bind h1).imp fun u H2 ⟨c2, S2, d2, e2, r2, a2, h2⟩ => ?_⟩
  obtain ⟨⟨ds, hi⟩, h2⟩ := Po.if h2
  exact g_ownIn (lv := lv) tok gC W σ c2 H2 S2 d1 d2 v u Q r2 (a1.mono e2) a2 ds hi h2
open Classical in
theorem c_tinOwn {k lv : Nat} {m : FM} {tr : TrF} {neg : Bool} {op : CmpOp} (tok : TrOk tr) (G : Dn' X.prog X.w X.K X.mg X.base Γ k "__contains__" lv m) (hr : Room lv X.A) (ha : CE Γ X W a ma) (hb : CE Γ X W b mb) (hop : (op = .In ∧ neg = false) ∨ (op = .NotIn ∧ neg = true)) (hm : behindInMarks op b = false) : CT Γ X W (.Compare a [op] [b] pos) (t_b (e_ownIn tr neg k m ma mb)) := by
  obtain ⟨C, f, fd, ps, gC, M, hf, F, hbi⟩ := G.ex
  have oo : OpR X (compareOp op) (rOwnIn C (spM X.K Γ m) (fun _ _ _ => False) neg) := by
    rcases hop with ⟨rfl, rfl⟩ | ⟨rfl, rfl⟩
    · exact op_inOwn M F hr hbi passes_not
    · exact op_notInOwn M F hr hbi passes_not
  refine PT.weak (pt_cmpR oo ha hb hm) fun σ H Q h => ?_
  obtain ⟨c, env, S, r, ev, h⟩ := tB_ok h
  refine ⟨c, env, S, r, ev, (Po.bind h).imp fun v H1 ⟨c1, S1, d1, e1, r1, a1, h1⟩ => ?_⟩
  refine ⟨c1, env, S1, r1, ev.mono e1, (Po.bind h1).imp fun u H2 ⟨c2, S2, d2, e2, r2, a2, h2⟩ => ?_⟩
  obtain ⟨⟨ds, hi⟩, h2⟩ := Po.if h2
  exact g_ownIn (lv := lv) tok gC W σ c2 H2 S2 d1 d2 v u _ r2 (a1.mono e2) a2 ds hi h2
end
end Mm
set_option maxRecDepth 100000
/-! Short words for what a program says. -/
namespace Mm
open PySem L2
section
variable {w : Wn} {W : WX} {σ : St} {c c' : Cn} {H H' : Hp} {n n' : Nat} {S : Sto} {env : Env}
variable {Γ : Cls'} {X : Cx} {a b e o tg : Expr} {es : List Expr} {ma mb mo : EM} {am : AM} {pos : Pos} {Dn : Ends}
abbrev subD := intD0 fun i j => .int (i - j)
abbrev modD := intD (fun _ j => 0 < j) fun i j => .int (i % j)
abbrev divD := intD CDiv fun i j => .int (i / j)
abbrev powD := intD CPow fun i j => .int (i ^ j.toNat)
abbrev ltD := intD0 fun i j => .bl (decide (i < j))
abbrev leD := intD0 fun i j => .bl (decide (i ≤ j))
abbrev gtD := intD0 fun i j => .bl (decide (j < i))
abbrev geD := intD0 fun i j => .bl (decide (j ≤ i))
abbrev max2D := intD0 fun i j => .int (if j > i then j else i)
abbrev min2D := intD0 fun i j => .int (if j < i then j else i)
theorem g_sub : GOp Γ X subD (rI0 fun i j => .int (i - j)) := g_int0 fun _ _ => rfl
theorem g_mod : GOp Γ X modD (rI (fun _ j => 0 < j) fun i j => .int (i % j)) := g_int fun _ _ => rfl
theorem g_div : GOp Γ X divD (rI CDiv fun i j => .int (i / j)) := g_int fun _ _ => rfl
theorem g_pow : GOp Γ X powD (rI CPow fun i j => .int (i ^ j.toNat)) := g_int fun _ _ => rfl
theorem g_lt : GOp Γ X ltD (rI0 fun i j => .bl (decide (i < j))) := g_int0 fun _ _ => rfl
theorem g_le : GOp Γ X leD (rI0 fun i j => .bl (decide (i ≤ j))) := g_int0 fun _ _ => rfl
theorem g_gt : GOp Γ X gtD (rI0 fun i j => .bl (decide (j < i))) := g_int0 fun _ _ => rfl
theorem g_ge : GOp Γ X geD (rI0 fun i j => .bl (decide (j ≤ i))) := g_int0 fun _ _ => rfl
theorem g_max2 : GCall Γ X (f2 max2D) (fun xs H Q => ∃ i j, xs = [.int i, .int j] ∧ Q (.int (if j > i then j else i)) H) := g_int2
theorem g_min2 : GCall Γ X (f2 min2D) (fun xs H Q => ∃ i j, xs = [.int i, .int j] ∧ Q (.int (if j < i then j else i)) H) := g_int2
theorem g_isN : GOp Γ X (isD false) (fun x y H Q => y = .non ∧ Q (.bl (decide (x = .non))) H) := by
  intro W σ c H S x y v u Q r a b h
  cases y with
  | non => exact ⟨b.non, by rw [isNon_at a]; simpa using fin_ok h r (.b _)⟩
  | _ => exact h.elim
theorem g_notN : GOp Γ X (isD true) (fun x y H Q => y = .non ∧ Q (.bl (!decide (x = .non))) H) := by
  intro W σ c H S x y v u Q r a b h
  cases y with
  | non => exact ⟨b.non, by rw [isNon_at a]; simpa using fin_ok h r (.b _)⟩
  | _ => exact h.elim
def negD (x : D) (S : Sto) : R D := match x with
  | .int i => .ok (.int (-i)) S
  | _ => .bad
@[simp] theorem negD_int (i : Int) (S : Sto) : negD (.int i) S = .ok (.int (-i)) S := rfl
def e_neg (m : EM) : EM := fun env S => (m env S).bind negD
theorem c_neg (ha : CE Γ X W a ma) : CE Γ X W (.UnaryOp .USub a pos) (e_neg ma) := by
  refine PE.weak (pe_un un_neg ha) fun σ H Q ⟨c, env, S, r, ev, h⟩ => ?_
  refine ⟨c, env, S, r, ev, (Po.bind h).imp fun v H1 ⟨c1, S1, d1, e1, r1, a1, h1⟩ => ?_⟩
  cases d1 with
  | int i => exact ⟨i, a1.int, fin_ok h1 r1 (.i _)⟩
  | _ => exact h1.elim
/-! ## x in xs, the items as data -/
def inD (neg : Bool) (x y : D) (S : Sto) : R D := match pyOf S x, (seqOf S y).bind pyDs with
  | some p, some ps => .if (SeqAt.shaped p = true ∧ SeqAt.shaped (.list ps) = true) (.ok (.bl (neg ^^ ps.any fun z => PyData.eqv z p)) S)
  | _, _ => .bad
/-! ## names -/
theorem cv (i : Nat) {x : Str} {pos : Pos} (hN : X.N[i]? = some x := by rfl) (hv : Vis X.env.scope x := by first | exact Or.inl rfl | exact Or.inr (Or.inl rfl) | exact Or.inr (Or.inr rfl)) (hd : (x == ("__debug__" : Str)) = false := by decide)
    (hcd : (x == ("__classdict__" : Str)) = false := by decide) : CE Γ X W (.Name x pos) (e_v i) := c_var hN hv hd hcd
theorem cgn (i : Nat) {x : Str} {pos : Pos} (hN : X.N.Nodup) (hi : X.N[i]? = some x := by rfl) (hx : Loc X.env.scope x := by first | exact Or.inl rfl | exact Or.inr rfl) (hf : X.fn x = true ∨ X.env.scope.names.lookup x = some .local := by first | exact .inl rfl | exact .inr rfl) : CG Γ X (.Name x pos) [i] (g_name i) := c_gname hN hi hx hf
theorem cset (i : Nat) {x : Str} {pos pos' : Pos} (hN : X.N.Nodup) (he : CE Γ X W e ma) (hi : X.N[i]? = some x := by rfl) (hx : Loc X.env.scope x := by first | exact Or.inl rfl | exact Or.inr rfl) (hs : swapsWith e (some (.Name x pos')) pos.line X.env = pure false := by rfl) (hf : X.fn x = true ∨ X.env.scope.names.lookup x = some .local := by first | exact .inl rfl | exact .inr rfl) :
    CS Γ X W (.Assign [.Name x pos'] e pos) (s_set i ma) := c_set hN hi hx he hs hf
theorem hF1 {K : PySem.W.Frag} {p : Nat × Nat} {f : Str} (h : HasF K Γ p.1 p.2 f) : ∀ q ∈ [p], HasF K Γ q.1 q.2 f := fun q hq => by rw [List.mem_singleton.mp hq]; exact h
theorem hF2 {K : PySem.W.Frag} {p p2 : Nat × Nat} {f : Str} (h : HasF K Γ p.1 p.2 f) (h2 : HasF K Γ p2.1 p2.2 f) : ∀ q ∈ [p, p2], HasF K Γ q.1 q.2 f := fun q hq => by
  rcases List.mem_cons.mp hq with rfl | hq
  · exact h
  · rw [List.mem_singleton.mp hq]; exact h2
theorem hF3 {K : PySem.W.Frag} {p p2 p3 : Nat × Nat} {f : Str} (h : HasF K Γ p.1 p.2 f) (h2 : HasF K Γ p2.1 p2.2 f) (h3 : HasF K Γ p3.1 p3.2 f) : ∀ q ∈ [p, p2, p3], HasF K Γ q.1 q.2 f := fun q hq => by
  rcases List.mem_cons.mp hq with rfl | hq
  · exact h
  · exact hF2 h2 h3 q hq
theorem hu64 {k : Nat} {A : Around} (hr : Room k A) : A.units + 64 < cLine := by have := hr.un; omega
theorem go_def {P : Program} {wd : World} {K : PySem.W.Frag} {mg : Str → Option Value} {base : Heap} {N : List Str} {qual : Str} {sc : Scope} {f : Addr} {cd : Value} {A : Around} {outer : List PySem.Env} {s : Shared} {H : Hp} {E : XK} :
    Goes (cxOf (L2.CX P wd) P wd K mg base N qual sc f cd A outer s H E) (fun C dd _ H => E C dd H) := goes_of (takes_of rfl rfl rfl rfl)
end
/-! ## what a term means: the parts' own equations -/
@[simp] theorem e_op_eq (g : D → D → Sto → R D) (ma mb : EM) (env : Env) (S : Sto) : e_op g ma mb env S = (ma env S).bind fun x S1 => (mb env S1).bind fun y S2 => g x y S2 := rfl
@[simp] theorem e_v_eq (i : Nat) (env : Env) (S : Sto) : e_v i env S = match env[i]? with
  | some (some d) => .ok d S
  | _ => .bad := rfl
@[simp] theorem a_nil_eq (env : Env) (S : Sto) : a_nil env S = .ok [] S := rfl
@[simp] theorem a_cons_eq (m : EM) (r : AM) (env : Env) (S : Sto) : a_cons m r env S = (m env S).bind fun d S1 => (r env S1).bind fun ds S2 => .ok (d :: ds) S2 := rfl
@[simp] theorem e_tup_eq (m : AM) (env : Env) (S : Sto) : e_tup m env S = (m env S).bind fun ds S1 => .if (ds.length ≤ 1000) (.ok (.tup ds) S1) := rfl
@[simp] theorem e_lst_eq (m : AM) (env : Env) (S : Sto) : e_lst m env S = (m env S).bind fun ds S1 => .if (ds.length ≤ 1000) (.ok (.lst ds) S1) := rfl
@[simp] theorem e_new_eq (m : AM) (env : Env) (S : Sto) : e_new m env S = (m env S).bind fun ds S1 => .if (ds.length ≤ 1000) (.ok (.loc S1.length) (S1 ++ [.lst ds])) := rfl
@[simp] theorem e_call_eq (g : List D → Sto → R D) (m : AM) (env : Env) (S : Sto) : e_call g m env S = (m env S).bind fun ds S1 => g ds S1 := rfl
@[simp] theorem e_fn_eq (tr : TrF) (m : FM) (am : AM) (env : Env) (S : Sto) : e_fn tr m am env S = (am env S).bind fun ds S1 => tr S1 (m ds S1) := rfl
@[simp] theorem e_sl_eq (m : EM) (l h : OM) (env : Env) (S : Sto) : e_sl m l h env S = (m env S).bind fun d S1 => (l env S1).bind fun lo S2 => (h env S2).bind fun hi S3 => slD d lo hi S3 := rfl
@[simp] theorem o_none_eq (env : Env) (S : Sto) : o_none env S = .ok none S := rfl
@[simp] theorem o_some_eq (m : EM) (env : Env) (S : Sto) : o_some m env S = (m env S).bind fun d S1 => match d with
  | .int i => .ok (some i) S1
  | _ => .bad := rfl
@[simp] theorem s_seq_eq (m f : SM) (env : Env) (S : Sto) : s_seq m f env S = (m env S).bind f := rfl
@[simp] theorem s_nil_eq (env : Env) (S : Sto) : s_nil env S = .next env S := rfl
@[simp] theorem s_set_eq (i : Nat) (m : EM) (env : Env) (S : Sto) : s_set i m env S = (m env S).toS env fun d S1 => .next (env.set i (some d)) S1 := rfl
@[simp] theorem s_ret_eq (m : EM) (env : Env) (S : Sto) : s_ret m env S = (m env S).toS env fun d S1 => .ret d S1 := rfl
@[simp] theorem s_ex_eq (m : EM) (env : Env) (S : Sto) : s_ex m env S = (m env S).toS env fun _ S1 => .next env S1 := rfl
@[simp] theorem s_if_eq (t : TM) (p q : SM) (env : Env) (S : Sto) : s_if t p q env S = (t env S).toS env fun k S1 => if k = true then p env S1 else q env S1 := rfl
@[simp] theorem s_asg_eq (m : EM) (g : GM) (env : Env) (S : Sto) : s_asg m g env S = (m env S).toS env fun d S1 => match g d env with
  | some env1 => .next env1 S1
  | none => .bad := rfl
@[simp] theorem s_put_eq (mv mo mi : EM) (env : Env) (S : Sto) : s_put mv mo mi env S = (mv env S).toS env fun z S1 => (mo env S1).toS env fun x S2 => (mi env S2).toS env fun y S3 => match setL S3 x y z with
  | some S4 => .next env S4
  | none => .bad := rfl
@[simp] theorem s_for_eq (im : IM) (g : GM) (body : SM) (env : Env) (S : Sto) : s_for im g body env S = (im env S).toS env fun it S1 => loopS g body it.2 it.1 env S1 := rfl
@[simp] theorem t_v_eq (m : EM) (env : Env) (S : Sto) : t_v m env S = (m env S).bind fun d S1 => .ofO (truD S1 d) S1 := rfl
@[simp] theorem t_b_eq (m : EM) (env : Env) (S : Sto) : t_b m env S = (m env S).bind fun d S1 => .ofO (blD d) S1 := rfl
@[simp] theorem t_and_eq (p q : TM) (env : Env) (S : Sto) : t_and p q env S = (p env S).bind fun k S1 => if k = true then q env S1 else .ok false S1 := rfl
@[simp] theorem t_or_eq (p q : TM) (env : Env) (S : Sto) : t_or p q env S = (p env S).bind fun k S1 => if k = true then .ok true S1 else q env S1 := rfl
@[simp] theorem t_not_eq (p : TM) (env : Env) (S : Sto) : t_not p env S = (p env S).bind fun k S1 => .ok (!k) S1 := rfl
@[simp] theorem e_if_eq (t : TM) (p q : EM) (env : Env) (S : Sto) : e_if t p q env S = (t env S).bind fun k S1 => if k = true then p env S1 else q env S1 := rfl
@[simp] theorem i_seq_eq (m : EM) (env : Env) (S : Sto) : i_seq m env S = (m env S).bind fun d S1 => .ofO (itsOf S1 d) S1 := rfl
@[simp] theorem e_meth_eq (ty : D → Sto → Bool) (g : D → List D → Sto → R D) (mo : EM) (m : AM) (env : Env) (S : Sto) : e_meth ty g mo m env S = (mo env S).bind fun x S1 => .if (ty x S1 = true) ((m env S1).bind fun ds S2 => g x ds S2) := rfl
@[simp] theorem e_fld_eq (cs : List (Nat × Nat)) (m : EM) (env : Env) (S : Sto) : e_fld cs m env S = (m env S).bind fun d S1 => .ofO (fldD cs d S1) S1 := rfl
@[simp] theorem s_fld_eq (cs : List (Nat × Nat)) (mo mv : EM) (env : Env) (S : Sto) : s_fld cs mo mv env S = (mv env S).toS env fun z S1 => (mo env S1).toS env fun d S2 => match setF cs d z S2 with
  | some S3 => .next env S3
  | none => .bad := rfl
@[simp] theorem g_name_eq (i : Nat) (d : D) (env : Env) : g_name i d env = some (env.set i (some d)) := rfl
@[simp] theorem e_lcG_eq (vs : List Nat) (im : IM) (g : GM) (t : TM) (m : EM) (fin : List D → Sto → R D) (env : Env) (S : Sto) : e_lcG vs im g t m fin env S = (im env S).bind fun it S1 => (lcM g t m (wipeE env vs) it.2 it.1 [] S1).bind fin := rfl
@[simp] theorem e_not_eq (p : EM) (env : Env) (S : Sto) : e_not p env S = (p env S).bind fun d S1 => match d with
  | .bl k => .ok (.bl (!k)) S1
  | _ => .bad := rfl
@[simp] theorem e_and_eq (p q : EM) (env : Env) (S : Sto) : e_and p q env S = (p env S).bind fun d S1 => match d with
  | .bl true => q env S1
  | .bl false => .ok (.bl false) S1
  | _ => .bad := rfl
@[simp] theorem e_or_eq (p q : EM) (env : Env) (S : Sto) : e_or p q env S = (p env S).bind fun d S1 => match d with
  | .bl true => .ok (.bl true) S1
  | .bl false => q env S1
  | _ => .bad := rfl
theorem runDef_eq {np nl : Nat} {b : SM} {ds : List D} {S : Sto} (h : ds.length = np) : runDef np nl b ds S = endF (b (ds.map some ++ List.replicate (nl - np) none) S) := if_pos h
/-! ## places of the store, read and written -/
@[simp] theorem lstOf_loc' (S : Sto) (k : Nat) : lstOf S (.loc k) = match S[k]? with
  | some (.lst ds) => some ds
  | _ => none := rfl
@[simp] theorem seqOf_loc' (S : Sto) (k : Nat) : seqOf S (.loc k) = match S[k]? with
  | some (.lst ds) => some ds
  | _ => none := rfl
theorem bind_lst {α : Type} (o : Option SO) (f : List D → Option α) : (match o with
  | some (.lst ds) => some ds
  | _ => none : Option (List D)).bind f = match o with
  | some (.lst ds) => f ds
  | _ => none := by
  cases o with
  | none => rfl
  | some o => cases o <;> rfl
@[simp] theorem ixD_loc' (S : Sto) (k : Nat) (i : Int) : ixD (.loc k) (.int i) S = .ofO ((seqOf S (.loc k)).bind fun ds => atI ds i) S := rfl
@[simp] theorem lenD_loc' (S : Sto) (k : Nat) : lenD (.loc k) S = .ofO ((seqOf S (.loc k)).map fun ds => D.int ds.length) S := rfl
@[simp] theorem truD_loc' (S : Sto) (k : Nat) : truD S (.loc k) = (seqOf S (.loc k)).map fun ds => !ds.isEmpty := rfl
@[simp] theorem tyL_loc' (S : Sto) (k : Nat) : tyL (.loc k) S = (seqOf S (.loc k)).isSome := rfl
@[simp] theorem appD_loc' (S : Sto) (k : Nat) (y : D) : appD (.loc k) [y] S = match S[k]? with
  | some (.lst es) => .if (es.length < sizeLine) (.ok .non (S.set k (.lst (es ++ [y]))))
  | _ => .bad := rfl
@[simp] theorem extD_loc' (S : Sto) (k : Nat) (y : D) : extD (.loc k) [y] S = match S[k]?, lstOf S y with
  | some (.lst es), some fs => .if (es.length + fs.length ≤ sizeLine) (.ok .non (S.set k (.lst (es ++ fs))))
  | _, _ => .bad := rfl
@[simp] theorem setL_loc' (S : Sto) (k : Nat) (i : Int) (z : D) : setL S (.loc k) (.int i) z = match S[k]? with
  | some (.lst ds) => (ixN ds.length i).map fun j => S.set k (.lst (ds.set j z))
  | _ => none := rfl
@[simp] theorem itsOf_loc' (S : Sto) (k : Nat) : itsOf S (.loc k) = match S[k]? with
  | some (.lst ds) => some (ds, some (k, ds))
  | _ => none := rfl
@[simp] theorem insOf_loc' (S : Sto) (k : Nat) : insOf S (.loc k) = match S[k]? with
  | some (.ins c ds) => some (c, ds)
  | _ => none := rfl
@[simp] theorem tupleD_loc' (S : Sto) (k : Nat) : tupleD (.loc k) S = .ofO ((seqOf S (.loc k)).map D.tup) S := rfl
@[simp] theorem listD_loc' (S : Sto) (k : Nat) : listD (.loc k) S = .ofO ((seqOf S (.loc k)).map D.lst) S := rfl
@[simp] theorem listN_loc' (S : Sto) (k : Nat) : listN (.loc k) S = match S[k]? with
  | some (.lst ds) => .ok (.loc S.length) (S ++ [.lst ds])
  | _ => .bad := by
  unfold listN
  rw [seqOf_loc']
  cases S[k]? with
  | none => rfl
  | some o => cases o <;> rfl
@[simp] theorem addD_locl (S : Sto) (k : Nat) (y : D) : addD (.loc k) y S = match lstOf S (.loc k), lstOf S y with
  | some a, some b => .if (a.length + b.length ≤ sizeLine) (.ok (.lst (a ++ b)) S)
  | _, _ => .bad := by cases y <;> rfl
@[simp] theorem addD_lstl (S : Sto) (a : List D) (k : Nat) : addD (.lst a) (.loc k) S = match lstOf S (.loc k) with
  | some b => .if (a.length + b.length ≤ sizeLine) (.ok (.lst (a ++ b)) S)
  | _ => .bad := by
  show addL S (.lst a) (.loc k) = _
  unfold addL
  rw [lstOf_lst]
  cases lstOf S (.loc k) <;> rfl
@[simp] theorem endF_ite (c : Prop) [Decidable c] (x y : RS) : endF (if c then x else y) = if c then endF x else endF y := by split <;> rfl
@[simp] theorem R.ofO_none {α : Type} (S : Sto) : R.ofO (none : Option α) S = .bad := rfl
@[simp] theorem atI_lit0 {α : Type} (x : α) (xs : List α) : atI (x :: xs) 0 = some x := by
  unfold atI ixN; simp
theorem atI_k {α : Type} (k : Nat) (xs : List α) : atI xs ((k : Nat) : Int) = xs[k]? := by
  cases h : xs[k]? with
  | some v => exact atI_nat h
  | none =>
    have := List.getElem?_eq_none_iff.mp h
    unfold atI ixN
    rw [if_pos (by omega), if_neg (by omega)]; rfl
@[simp] theorem atI_lit1 {α : Type} (xs : List α) : atI xs 1 = xs[1]? := atI_k 1 xs
@[simp] theorem atI_lit2 {α : Type} (xs : List α) : atI xs 2 = xs[2]? := atI_k 2 xs
@[simp] theorem atI_lit3 {α : Type} (xs : List α) : atI xs 3 = xs[3]? := atI_k 3 xs
@[simp] theorem atI_lit4 {α : Type} (xs : List α) : atI xs 4 = xs[4]? := atI_k 4 xs
@[simp] theorem atI_lit5 {α : Type} (xs : List α) : atI xs 5 = xs[5]? := atI_k 5 xs
@[simp] theorem atI_lit6 {α : Type} (xs : List α) : atI xs 6 = xs[6]? := atI_k 6 xs
@[simp] theorem atI_lit7 {α : Type} (xs : List α) : atI xs 7 = xs[7]? := atI_k 7 xs
@[simp] theorem atI_lit8 {α : Type} (xs : List α) : atI xs 8 = xs[8]? := atI_k 8 xs
@[simp] theorem atI_lit9 {α : Type} (xs : List α) : atI xs 9 = xs[9]? := atI_k 9 xs
theorem ixN_k {n k : Nat} (h : k < n) : ixN n ((k : Nat) : Int) = some k := by
  unfold ixN
  rw [if_pos (by omega), if_pos (by omega)]; simp
theorem set_get {S : Sto} {p : Nat} {a : SO} (h : S[p]? = some a) (o : SO) : (S.set p o)[p]? = some o := List.getElem?_set_self (Rep.lt h)
theorem set_set (S : Sto) (p : Nat) (a b : SO) : (S.set p a).set p b = S.set p b := List.set_set ..
end Mm
set_option maxRecDepth 100000
/-! max(xs, default=None) of a list of ints: the library's walk with a keyword. -/
namespace PySem
open Sem (wp)
namespace MaxD
abbrev kw : List (Str × Value) := [("default", .none)]
theorem args_d (a : Value) : argsOk "max" ⟨[a], kw⟩ := by unfold argsOk; kernel_rfl
section
variable {prog : Program} {w : World} {A : Around} {R : Result → Shared → Prop} {I : Addr} {fp wr : List Addr} {n : Nat} {P : Nat → Value → Prop} {St : Nat → Heap → Prop}
/-- the best so far against the rest -/
theorem turn (W : Walks prog w A.in1 I fp wr n P St) (bt : Nat → Nat → Bool) (hcmp : CmpOf prog w A.in1 .Gt P bt) (S : Addr) (out : S ∉ fp) :
    ∀ (m j : Nat) (s : Shared) (best : Value) (c : Nat), n - (j + 1) = m → j + 1 ≤ n → St (j + 1) s.heap → P (argBest bt j) best → s.heap.get? S = some { cls := .type "list", dict := none, data := .seq #[best, best] c, slots := #[] } →
      (∀ v g t, P (argBest bt (n - 1)) v → (∀ b o, b ∉ wr → b ≠ S → s.heap.get? b = some o → g.get? b = some o) → R (.ok (.ret v)) { s with heap := g, toks := t }) → codeAny (model prog w) A (.builtin "max.loop" ⟨[.ref I, .none, .ref S], kw⟩) R s := by
  have aside : S ∉ wr := fun z => out (W.sub _ z)
  have nm : (toString "max" ++ toString ".loop" : String) = "max.loop" := by decide
  intro m
  induction m with
  | zero =>
    intro j s best c em le st pb at_ fin
    have ej : j + 1 = n := by omega
    refine codeAny_builtin F.entry_max_loop ?_
    rw [Around.under_plainId F.plain_max_loop _]
    show wpAny _ A.in1 (seqItems? (.ref S) >>= _) _ _ s
    refine wpAny_bind (wpAny_seqItems at_ rfl ?_)
    show wpAny _ A.in1 (tryCatch (pyNext (.ref I)) _ >>= _) _ _ s
    refine wpAny_bind (wpAny_tryCatch (W.done s _ _ (ej ▸ st) fun g t kg => ?_))
    have at2 := kg S _ aside at_
    show wpAny _ A.in1 (updateSeq S (fun _ => #[]) >>= _) _ _ _
    refine wpAny_bind (wpAny_updateSeq at2 rfl (wpAny_bind (wpAny_letGo (wpAny_pure ?_))))
    exact fin best _ t (by rw [← ej]; exact pb) fun b o b1 b2 e => (Heap.get?_update_other _ _ (Ne.symm b2)).trans (kg b o b1 e)
  | succ m ih =>
    intro j s best c em le st pb at_ fin
    have lt : j + 1 < n := by omega
    refine codeAny_builtin F.entry_max_loop ?_
    rw [Around.under_plainId F.plain_max_loop _]
    show wpAny _ A.in1 (seqItems? (.ref S) >>= _) _ _ s
    refine wpAny_bind (wpAny_seqItems at_ rfl ?_)
    show wpAny _ A.in1 (tryCatch (pyNext (.ref I)) _ >>= _) _ _ s
    refine wpAny_bind (wpAny_tryCatch (W.item (j + 1) s _ _ lt st fun v g t pv st2 kg => ?_))
    have at2 := kg S _ aside at_
    show wpAny _ A.in1 (tryCatch (holding [v, v] (richCompare .Gt v best >>= _)) _ >>= _) _ _ _
    refine wpAny_bind (wpAny_tryCatch (wpAny_holding (wpAny_bind (hcmp (j + 1) (argBest bt j) v best _ _ _ pv pb ?_))))
    refine wpAny_bind (wpAny_holding (wpAny_truthy_bool ?_))
    refine wpAny_bind (wpAny_letGo (wpAny_pure ?_))
    cases more : bt (j + 1) (argBest bt j) with
    | true =>
      simp only [if_true]
      refine wpAny_bind (wpAny_updateSeq at2 rfl (wpAny_bind (wpAny_letGo ?_)))
      rw [nm]
      refine wpAny_pure ⟨plainId_quiet F.plain_max_loop _, ih (j + 1) _ v _ (by omega) lt (W.frame _ _ _ st2 fun b hb o e => (Heap.get?_update_other _ _ (fun z : S = b => out (by rw [z]; exact hb))).trans e) (by simp only [argBest, more, if_true]; exact pv) (Heap.get?_update_self _ at2 rfl) fun v2 g2 t2 p2 k2 => ?_⟩
      exact fin v2 g2 t2 p2 fun b o b1 b2 e => k2 b o b1 b2 ((Heap.get?_update_other _ _ (Ne.symm b2)).trans (kg b o b1 e))
    | false =>
      simp only [Bool.false_eq_true, if_false]
      refine wpAny_bind (wpAny_letGo ?_)
      rw [nm]
      refine wpAny_pure ⟨plainId_quiet F.plain_max_loop _, ih (j + 1) _ best c (by omega) lt st2 (by simp only [argBest, more, Bool.false_eq_true, if_false]; exact pb) at2 fun v2 g2 t2 p2 k2 => ?_⟩
      exact fin v2 g2 t2 p2 fun b o b1 b2 e => k2 b o b1 b2 (kg b o b1 e)
/-- from the start: nothing there, or a first -/
theorem first (W : Walks prog w A.in1 I fp wr n P St) (bt : Nat → Nat → Bool) (hcmp : CmpOf prog w A.in1 .Gt P bt) (S : Addr) (out : S ∉ fp) {s : Shared} {c : Nat} (st : St 0 s.heap) (at_ : s.heap.get? S = some { cls := .type "list", dict := none, data := .seq #[] c, slots := #[] })
    (fin : ∀ v g t, (n = 0 ∧ v = Value.none ∨ 0 < n ∧ P (argBest bt (n - 1)) v) → (∀ b o, b ∉ wr → b ≠ S → s.heap.get? b = some o → g.get? b = some o) → R (.ok (.ret v)) { s with heap := g, toks := t }) : codeAny (model prog w) A (.builtin "max.loop" ⟨[.ref I, .none, .ref S], kw⟩) R s := by
  have aside : S ∉ wr := fun z => out (W.sub _ z)
  have nm : (toString "max" ++ toString ".loop" : String) = "max.loop" := by decide
  refine codeAny_builtin F.entry_max_loop ?_
  rw [Around.under_plainId F.plain_max_loop _]
  show wpAny _ A.in1 (seqItems? (.ref S) >>= _) _ _ s
  refine wpAny_bind (wpAny_seqItems at_ rfl ?_)
  show wpAny _ A.in1 (tryCatch (pyNext (.ref I)) _ >>= _) _ _ s
  by_cases n0 : n = 0
  · refine wpAny_bind (wpAny_tryCatch (W.done s _ _ (by rw [n0]; exact st) fun g t kg => ?_))
    show wpAny _ A.in1 (rule _ >>= _) _ _ _
    refine wpAny_bind (wpAny_rule (wpAny_pure ?_))
    exact fin _ _ t (.inl ⟨n0, rfl⟩) fun b o b1 _ e => kg b o b1 e
  · have np : 0 < n := Nat.pos_of_ne_zero n0
    refine wpAny_bind (wpAny_tryCatch (W.item 0 s _ _ np st fun v g t pv st2 kg => ?_))
    have at2 := kg S _ aside at_
    show wpAny _ A.in1 (updateSeq S (fun _ => #[v, v]) >>= _) _ _ _
    refine wpAny_bind (wpAny_updateSeq at2 rfl ?_)
    rw [nm]
    refine wpAny_pure ⟨plainId_quiet F.plain_max_loop _, turn W bt hcmp S out _ 0 _ v _ rfl np (W.frame _ _ _ st2 fun b hb o e => (Heap.get?_update_other _ _ (fun z : S = b => out (by rw [z]; exact hb))).trans e) pv (Heap.get?_update_self _ at2 rfl) fun v2 g2 t2 p2 k2 => ?_⟩
    exact fin v2 g2 t2 (.inr ⟨np, p2⟩) fun b o b1 b2 e => k2 b o b1 b2 ((Heap.get?_update_other _ _ (Ne.symm b2)).trans (kg b o b1 e))
end
section
variable {prog : Program} {w : World} {A : Around} {E : Value → Shared → Prop} {s : Shared}
theorem walk {x : Value} {Q : Value → Shared → Prop}
    (h : wpAny (model prog w) A.in1 (pyIter x) (fun it s2 => ∃ I fp wr n P St bt, it = .ref I ∧ Walks prog w A.in1 I fp wr n P St ∧ St 0 s2.heap ∧ (∀ b ∈ fp, b < s2.heap.objs.size) ∧ CmpOf prog w A.in1 .Gt P bt ∧
      ∀ v g t, (n = 0 ∧ v = Value.none ∨ 0 < n ∧ P (argBest bt (n - 1)) v) → (∀ b o, b ∉ wr → s2.heap.get? b = some o → g.get? b = some o) → Q v { s2 with heap := g, toks := t }) E s) : wpAny (model prog w) A (call (.builtin "max") [x] kw) Q E s := by
  have nm : (toString "max" ++ toString ".loop" : String) = "max.loop" := by decide
  refine PyProof.Rows.kmk_tree F.kind_max F.plain_max F.entry_max (args_d _) ?_
  show wpAny _ A.in1 (Builtin.Builtins.bindParams "max" ["key", "default"] 0 ⟨[], kw⟩ >>= _) _ _ s
  refine wpAny_bind (wpAny_of_eq (show Builtin.Builtins.bindParams "max" ["key", "default"] 0 ⟨[], kw⟩ = pure [none, some .none] from rfl) ?_)
  refine wpAny_bind (wpAny_pure ?_)
  refine wpAny_bind (wpAny_mono h (fun it s2 h2 => ?_) fun _ _ e => e)
  obtain ⟨I, fp, wr, n, P, St, bt, rfl, W, st, young, hcmp, fin⟩ := h2
  refine wpAny_bind (wpAny_newObj_type ?_)
  have out : s2.heap.objs.size ∉ fp := fun z => Nat.lt_irrefl _ (young _ z)
  rw [nm]
  refine wpAny_pure ⟨plainId_quiet F.plain_max_loop _, first W bt hcmp s2.heap.objs.size out (W.frame _ _ _ st fun b _ o e => Heap.get?_push_of_some _ e) (Heap.get?_push_size _ rfl) fun v g t pv kg => ?_⟩
  exact fin v g t pv fun b o b1 e => kg b o b1 (Nat.ne_of_lt (Heap.lt_size e)) (Heap.get?_push_of_some _ e)
end
end MaxD
end PySem
namespace L2
open PySem PySem.Spec PyProof.Rows
/-- max(xs, default=None) of a list of ints -/
def rMaxDef (K : PySem.W.Frag) : List V → List V → Hp → VK → Prop := fun vs zs H Q => ∃ (a : Addr) (ns : List Int), vs = [V.ref a] ∧ zs = [.non] ∧ SqL K H a (ns.map V.int) ∧ (ns = [] → Q .non H) ∧ ∀ m, m ∈ ns → (∀ y, y ∈ ns → y ≤ m) → Q (.int m) H
section
variable {prog : Program} {w : World} {A : Around} {E : Value → Shared → Prop} {s : Shared} {its : List Value} {ns : List Int} {l : Addr}
theorem maxdef_raw {Q : Value → Shared → Prop} (hh : A.handled = none) (hl : s.heap.IsList l its.toArray) (hi : IntsAre its ns)
    (h0 : ∀ h' tk, ns = [] → (∀ b o, s.heap.get? b = some o → h'.get? b = some o) → Q .none { s with heap := h', toks := tk })
    (h : ∀ h' tk M t', (∀ b o, s.heap.get? b = some o → h'.get? b = some o) → M ∈ ns → (∀ a, a ∈ ns → a ≤ M) → Q (.int M t') { s with heap := h', toks := tk }) : wpAny (model prog w) A (call (.builtin "max") [.ref l] PySem.MaxD.kw) Q E s := by
  obtain ⟨xs, e⟩ := hi.allInts.items
  have hn : numsOf (intItems xs).toList = ns := by rw [← e]; exact hi.numsOf
  rw [nums_intItems] at hn
  subst hn
  rw [e] at hl
  refine PySem.MaxD.walk (iter_intList hl fun s₂ e st hfp hlI => ?_)
  subst e
  refine ⟨_, _, _, _, _, _, _, rfl, Walks.list (A := A.in1) hh _ l hlI (intItems xs), st, hfp, CmpOf.ints_gt (numAt xs) (fun _ _ => intItems_at), fun v h' tk hP hk => ?_⟩
  have kp := old_kept hk
  rcases hP with ⟨n0, rfl⟩ | ⟨np, hv⟩
  · refine h0 h' tk ?_ kp
    have : xs.size = 0 := by simpa [intItems] using n0
    have : xs = #[] := Array.eq_empty_of_size_eq_zero this
    subst this
    rfl
  · have hsz : 0 < xs.size := by simpa [intItems] using np
    have hv' : (intItems xs)[argBest (fun i j => decide (numAt xs i > numAt xs j)) (xs.size - 1)]? = some v := by simpa [intItems] using hv
    obtain ⟨t, rfl⟩ := intItems_at hv'
    obtain ⟨h1, h2⟩ := argBest_gt (numAt xs) (xs.size - 1)
    refine h h' tk _ t kp ?_ fun a ha => ?_
    · rw [numAt_eq]; exact PySem.getD_mem (by rw [List.length_map, Array.length_toList]; omega)
    · obtain ⟨j, hj, rfl⟩ := mem_getD ha
      rw [List.length_map, Array.length_toList] at hj
      rw [← numAt_eq]; exact h2 j (by omega)
end
theorem cr_maxDef {X : Cx} (hc : X.calm = true) : CallRK X (.builtin "max") [Str.ofString "default"] (rMaxDef X.K) := by
  intro pins s σ H vs zs us ws Q I r rz h
  obtain ⟨a, ns, rfl, rfl, hs, h0, q⟩ := h
  obtain rfl := Vals.ref1 r
  obtain ⟨w1, rfl, e1⟩ := vals1 rz
  obtain rfl : w1 = Value.none := e1
  obtain ⟨its, rv, hl, _⟩ := I.list hs
  exact maxdef_raw (I.ok.hd hc) hl.isList rv.ints (fun h' tk e hk => ⟨.non, H, I.kept hk, rfl, h0 e⟩) fun h' tk m t' hk h1 h2 => ⟨.int _, H, I.kept hk, ⟨_, rfl⟩, q m h1 h2⟩
end L2
set_option maxRecDepth 100000
/-! Constants of the module, isinstance, chains, all / any / sum / max / sorted, loops by test, range as a value. -/
namespace Mm
open PySem L2
section
variable {w : Wn} {W : WX} {σ : St} {c c' : Cn} {H H' : Hp} {n n' : Nat} {S : Sto} {env : Env}
variable {Γ : Cls'} {X : Cx} {a b e o tg : Expr} {es : List Expr} {ma mb mo : EM} {am : AM} {pos : Pos} {Dn : Ends}
/-- the module's name x holds d -/
structure GlD (K : PySem.W.Frag) (Γ : Cls') (mg : Str → Option Value) (x : Str) (d : D) : Prop where
  ex : ∃ u v, mg x = some u ∧ RelV v u ∧ ∀ c H n, At ⟨K, Γ⟩ c H n d v
theorem c_gl {x : Str} {d : D} (G : GlD X.K Γ X.mg x d) (hg : Gl X x := by rfl) (hd : (x == ("__debug__" : Str)) = false := by decide) : CE Γ X W (.Name x pos) (e_k d) := by
  obtain ⟨u, v, hm, rv, a⟩ := G.ex
  exact PE.weak (pe_glob hg hm rv hd) fun σ H Q ⟨c, env, S, r, ev, h⟩ => fin_ok h r (a c H S.length)
/-- a part that is not reached -/
def e_bad : EM := fun _ _ => .bad
@[simp] theorem e_bad_eq (env : Env) (S : Sto) : e_bad env S = .bad := rfl
theorem c_bade : CE Γ X W e e_bad := ⟨fun pins s σ H Q I ⟨c, env, S, r, ev, h⟩ => h.elim⟩
def t_bad : TM := fun _ _ => .bad
@[simp] theorem t_bad_eq (env : Env) (S : Sto) : t_bad env S = .bad := rfl
theorem c_badt : CT Γ X W e t_bad := ⟨fun pins s σ H Q I ⟨c, env, S, r, ev, h⟩ => h.elim⟩
@[simp] theorem s_bad_eq (env : Env) (S : Sto) : s_bad env S = .bad := rfl
/-! ## isinstance -/
abbrev Ty := String ⊕ Nat
def tyOf (S : Sto) (d : D) : Option Ty := match d with
  | .non => some (.inl "NoneType")
  | .bl _ => some (.inl "bool")
  | .int _ => some (.inl "int")
  | .str _ => some (.inl "str")
  | .tup _ => some (.inl "tuple")
  | .ttp _ => some (.inl "tuple")
  | .lst _ => some (.inl "list")
  | .fz _ => some (.inl "list")
  | .dic _ _ => some (.inl "dict")
  | .obj k _ => some (.inr k)
  | .loc j => match S[j]? with
    | some (.lst _) => some (.inl "list")
    | some (.dic _ _) => some (.inl "dict")
    | some (.ins k _) => some (.inr k)
    | none => none
  | .oth _ => none
@[simp] theorem tyOf_non (S : Sto) : tyOf S .non = some (.inl "NoneType") := rfl
@[simp] theorem tyOf_bl (S : Sto) (b : Bool) : tyOf S (.bl b) = some (.inl "bool") := rfl
@[simp] theorem tyOf_int (S : Sto) (i : Int) : tyOf S (.int i) = some (.inl "int") := rfl
@[simp] theorem tyOf_str (S : Sto) (x : Str) : tyOf S (.str x) = some (.inl "str") := rfl
@[simp] theorem tyOf_tup (S : Sto) (ds : List D) : tyOf S (.tup ds) = some (.inl "tuple") := rfl
@[simp] theorem tyOf_lst (S : Sto) (ds : List D) : tyOf S (.lst ds) = some (.inl "list") := rfl
@[simp] theorem tyOf_obj (S : Sto) (k : Nat) (ds : List D) : tyOf S (.obj k ds) = some (.inr k) := rfl
@[simp] theorem tyOf_loc (S : Sto) (j : Nat) : tyOf S (.loc j) = match S[j]? with
    | some (.lst _) => some (.inl "list")
    | some (.dic _ _) => some (.inl "dict")
    | some (.ins k _) => some (.inr k)
    | none => none := rfl
/-- what isinstance must know of a class of the text -/
structure InsC (K : PySem.W.Frag) (C : Addr) : Prop where
  cl : Cls K C
  ha : PySem.W.findIn K (.ref C) "__class__" = some (some (.builtin "object.__class__"))
  hn : PySem.W.specialIn K (.builtin "object.__class__") "__get__" = some (some (.builtin "getset_descriptor.__get__"))
  ht : PySem.W.takesIn K (.builtin "object.__class__") = some true
  hm : PySem.W.mroIn K C (.type "object") = some true
structure KitOk (K : PySem.W.Frag) (Γ : Cls') (u : Value) (kt : Ty → Option Bool) : Prop where
  b : ∀ a r, kt (.inl a) = some r → PySem.W.kitOne K (.type a) u = some r
  o : ∀ k r C, kt (.inr k) = some r → Γ.at_ k = some C → InsC K C ∧ PySem.W.kitOne K (.ref C) u = some r
def ktB (T : String) : Ty → Option Bool := fun t => match t with
  | .inl a => kitB a T
  | .inr _ => none
theorem ktB_ok {K : PySem.W.Frag} {T : String} : KitOk K Γ (.type T) (ktB T) := ⟨fun a r h => kit_ty h, fun k r C h => by cases h⟩
theorem sqT_ty {K : PySem.W.Frag} {p : Addr} {xs : List V} (h : SqT K H p xs) : TyX K H (.ref p) (.type "tuple") := by
  rcases h with (h | ⟨o, h⟩) | ⟨o, its, n, h, hc, _⟩
  · exact .base (.tup h)
  · exact .fTuple h
  · exact .kTuple h hc
theorem sqL_ty {K : PySem.W.Frag} {p : Addr} {xs : List V} (h : SqL K H p xs) : TyX K H (.ref p) (.type "list") := by
  rcases h with (h | ⟨o, h⟩) | ⟨o, its, n, h, hc, _⟩
  · exact .base (.lst h)
  · exact .base (.frz h)
  · exact .kList h hc
theorem dic_ty {K : PySem.W.Frag} {p : Addr} {vs : List V} {P Q : List Key → Prop} {P' Q' : List (List Key) → Prop} (h : (∃ kk : List Key, H p = some (.dK (kk.zip vs)) ∧ P kk ∧ Q kk) ∨ (∃ kk : List (List Key), H p = some (.dT (kk.zip vs)) ∧ P' kk ∧ Q' kk)) : TyX K H (.ref p) (.type "dict") := by
  rcases h with ⟨kk, h, _⟩ | ⟨kk, h, _⟩
  · exact .base (.dK h)
  · exact .base (.dT h)
theorem tyOf_at {d : D} {v : V} {t : Ty} (r : Rep w c H S) (at_ : At w c H S.length d v) (h : tyOf S d = some t) :
    (∃ s, t = .inl s ∧ TyX w.K H v (.type s)) ∨ ∃ k C dx fs p, t = .inr k ∧ v = .ref p ∧ w.Γ.at_ k = some C ∧ H p = some (.ins C dx fs) := by
  cases d with
  | non => cases h; rw [at_.non]; exact .inl ⟨_, rfl, .base .non⟩
  | bl b => cases h; rw [at_.bl]; exact .inl ⟨_, rfl, .base (.bl _)⟩
  | int b => cases h; rw [at_.int]; exact .inl ⟨_, rfl, .base (.int _)⟩
  | str b => cases h; rw [at_.str]; exact .inl ⟨_, rfl, .base (.str _)⟩
  | tup ds =>
    cases h
    obtain ⟨p, vs, rfl, g, _⟩ := at_.tup
    exact .inl ⟨_, rfl, sqT_ty g⟩
  | ttp ds =>
    cases h
    unfold At at at_
    obtain ⟨p, vs, rfl, g, _⟩ := at_
    exact .inl ⟨_, rfl, .base (.tup g)⟩
  | lst ds =>
    cases h
    unfold At at at_
    obtain ⟨p, vs, rfl, f, g, _⟩ := at_
    exact .inl ⟨_, rfl, .base (.lst g)⟩
  | fz ns =>
    cases h
    unfold At at at_
    obtain ⟨p, rfl, g⟩ := at_
    exact .inl ⟨_, rfl, sqL_ty g.sq⟩
  | dic ks ds =>
    cases h
    unfold At at at_
    obtain ⟨p, vs, rfl, f, g, _⟩ := at_
    exact .inl ⟨_, rfl, dic_ty g⟩
  | obj k ds =>
    cases h
    unfold At at at_
    obtain ⟨p, vs, C, dx, rfl, f, g, l, s, _⟩ := at_
    exact .inr ⟨k, C, dx, _, p, rfl, rfl, g, s⟩
  | loc j =>
    rw [tyOf_loc] at h
    unfold At at at_
    obtain ⟨hj, rfl⟩ := at_
    cases ho : S[j]? with
    | none => rw [ho] at h; cases h
    | some o =>
      rw [ho] at h
      have oa := r.get ho
      cases o with
      | lst ds => cases h; obtain ⟨vs, g, _⟩ := oa; exact .inl ⟨_, rfl, .base (.lst g)⟩
      | dic ks ds => cases h; obtain ⟨vs, g, _⟩ := oa; exact .inl ⟨_, rfl, dic_ty g⟩
      | ins k ds => cases h; obtain ⟨vs, C, dx, g, l, s, _⟩ := oa; exact .inr ⟨k, C, dx, _, _, rfl, rfl, g, s⟩
  | oth u => cases h
def isiD (kt : Ty → Option Bool) (d : D) (S : Sto) : R D := .ofO (((tyOf S d).bind kt).map D.bl) S
def e_isi (kt : Ty → Option Bool) (m : EM) : EM := fun env S => (m env S).bind (isiD kt)
@[simp] theorem e_isi_eq (kt : Ty → Option Bool) (m : EM) (env : Env) (S : Sto) : e_isi kt m env S = (m env S).bind (isiD kt) := rfl
theorem isi_read {kt : Ty → Option Bool} {u : Value} {cv : V} {Q : VK} (kk : KitOk w.K w.Γ u kt) (hc : ClsV cv u) (h : mE w W (e_isi kt ma) σ H Q) : tCB (rIsi w.K) (tCons (mE w W ma) (tCons (tC cv) tNil)) σ H Q := by
  obtain ⟨c, env, S, r, ev, h⟩ := h
  refine ⟨c, env, S, r, ev, (Po.bind h).imp fun v H1 ⟨c1, S1, d1, e1, r1, a1, h1⟩ => ?_⟩
  obtain ⟨y, hy, h1⟩ := Po.ofO h1
  cases ht : tyOf S1 d1 with
  | none => rw [ht] at hy; cases hy
  | some t =>
    rw [ht, Option.bind_some] at hy
    cases hk : kt t with
    | none => rw [hk] at hy; cases hy
    | some bb =>
      rw [hk] at hy; cases hy
      have q := fin_ok h1 r1 (.b bb)
      rcases tyOf_at r1 a1 ht with ⟨s, rfl, tx⟩ | ⟨k, C, dx, fs, p, rfl, rfl, g, hs⟩
      · exact ⟨v, cv, _, u, bb, rfl, hc, tx, kk.b _ _ hk, q⟩
      · obtain ⟨ic, ko⟩ := kk.o _ _ _ hk g
        exact ⟨_, cv, _, u, bb, rfl, hc, .base (.ins hs ic.cl ic.ha ic.hn ic.ht ic.hm), ko, q⟩
theorem c_isiT {T : String} {x : Str} {p q : Pos} (hm : X.mg "isinstance" = none) (hT : X.mg x = none) (hb : bootBuiltins x = some (.type T)) (he : CE Γ X W e ma) (hg : Gl X "isinstance" := by rfl) (hgT : Gl X x := by rfl) (hn : x ≠ "__name__" := by decide) (hdb : (x == ("__debug__" : Str)) = false := by decide)
    (h1 : starEach [e, .Name x q] X.env = (false, eval e X.env) :: starEach [.Name x q] X.env := by rfl) (h2 : starEach [.Name x q] X.env = (false, eval (.Name x q) X.env) :: starEach [] X.env := by rfl) (hpl : (backTo pos (starEach [.Name x q] X.env)).any (·.1) = false := by rfl) :
    CE Γ X W (.Call (.Name "isinstance" p) [e, .Name x q] [] pos) (e_isi (ktB T) ma) :=
  PE.weak (pe_callB call_isi hg hm (by decide +kernel) (pa_cons he (pa_cons (pe_bltn (v := .ty T) hgT hT hb rfl hn hdb) pa_nil h2) h1) (by decide) (by decide) h1 hpl) fun σ H Q h => isi_read ktB_ok (.ty T) h
/-- the class's name -/
theorem c_isiC {C : Addr} {x : Str} {kt : Ty → Option Bool} {p q : Pos} (hm : X.mg "isinstance" = none) (hC : X.mg x = some (.ref C)) (kk : KitOk X.K Γ (.ref C) kt) (he : CE Γ X W e ma) (hg : Gl X "isinstance" := by rfl) (hgT : Gl X x := by rfl) (hdb : (x == ("__debug__" : Str)) = false := by decide)
    (h1 : starEach [e, .Name x q] X.env = (false, eval e X.env) :: starEach [.Name x q] X.env := by rfl) (h2 : starEach [.Name x q] X.env = (false, eval (.Name x q) X.env) :: starEach [] X.env := by rfl) (hpl : (backTo pos (starEach [.Name x q] X.env)).any (·.1) = false := by rfl) :
    CE Γ X W (.Call (.Name "isinstance" p) [e, .Name x q] [] pos) (e_isi kt ma) :=
  PE.weak (pe_callB call_isi hg hm (by decide +kernel) (pa_cons he (pa_cons (pe_glob (v := .ref C) hgT hC rfl hdb) pa_nil h2) h1) (by decide) (by decide) h1 hpl) fun σ H Q h => isi_read kk (.own C) h
/-! ## a <= b <= c -/
def e_chain (g g' : D → D → Sto → R D) (ma mb mc : EM) : EM := fun env S => (ma env S).bind fun x S1 => (mb env S1).bind fun y S2 => (g x y S2).bind fun z S3 => match z with
  | .bl true => (mc env S3).bind fun u S4 => g' y u S4
  | .bl false => .ok (.bl false) S3
  | _ => .bad
@[simp] theorem e_chain_eq (g g' : D → D → Sto → R D) (ma mb mc : EM) (env : Env) (S : Sto) : e_chain g g' ma mb mc env S = (ma env S).bind fun x S1 => (mb env S1).bind fun y S2 => (g x y S2).bind fun z S3 => match z with
  | .bl true => (mc env S3).bind fun u S4 => g' y u S4
  | .bl false => .ok (.bl false) S3
  | _ => .bad := rfl
variable {op op' : CmpOp} {r r' : R2} {g g' : D → D → Sto → R D} {cc : Expr} {mc : EM}
theorem chain_read {Q : VK} (hg : GOp Γ X g r) (hg' : GOp Γ X g' r') (h : mE ⟨X.K, Γ⟩ W (e_chain g g' ma mb mc) σ H Q) : tChain r r' (mE ⟨X.K, Γ⟩ W ma) (mE ⟨X.K, Γ⟩ W mb) (mE ⟨X.K, Γ⟩ W mc) σ H Q := by
  obtain ⟨c, env, S, rp, ev, h⟩ := h
  refine ⟨c, env, S, rp, ev, (Po.bind h).imp fun v H1 ⟨c1, S1, d1, e1, r1, a1, h1⟩ => ?_⟩
  refine ⟨c1, env, S1, r1, ev.mono e1, (Po.bind h1).imp fun u H2 ⟨c2, S2, d2, e2, r2, a2, h2⟩ => ?_⟩
  refine hg W σ c2 H2 S2 d1 d2 v u _ r2 (a1.mono e2) a2 ((Po.bind h2).imp fun z H3 ⟨c3, S3, d3, e3, r3, a3, h3⟩ => ?_)
  cases d3 with
  | bl k =>
    refine ⟨k, a3.bl, ?_⟩
    cases k with
    | true => exact ⟨c3, env, S3, r3, ((ev.mono e1).mono e2).mono e3, (Po.bind h3).imp fun u4 H4 ⟨c4, S4, d4, e4, r4, a4, h4⟩ => hg' W σ c4 H4 S4 d2 d4 u u4 Q r4 ((a2.mono e3).mono e4) a4 h4⟩
    | false => exact fin_ok h3 r3 (.b _)
  | _ => exact h3.elim
theorem c_chain (ho : OpR X (compareOp op) r) (hg : GOp Γ X g r) (ho' : OpR X (compareOp op') r') (hg' : GOp Γ X g' r') (ha : CE Γ X W a ma) (hb : CE Γ X W b mb) (hc : CE Γ X W cc mc) (hl : lastMarks [op, op'] [b, cc] = false := by rfl) : CE Γ X W (.Compare a [op, op'] [b, cc] pos) (e_chain g g' ma mb mc) :=
  PE.weak (pe_chain ho ho' ha hb hc hl) fun σ H Q h => chain_read hg hg' h
theorem c_tchain (ho : OpR X (compareOp op) r) (hg : GOp Γ X g r) (ho' : OpR X (compareOp op') r') (hg' : GOp Γ X g' r') (ha : CE Γ X W a ma) (hb : CE Γ X W b mb) (hc : CE Γ X W cc mc) (hl : lastMarks [op, op'] [b, cc] = false := by rfl) : CT Γ X W (.Compare a [op, op'] [b, cc] pos) (t_b (e_chain g g' ma mb mc)) :=
  PT.weak (pt_chain ho ho' ha hb hc hl) fun σ H Q h => chain_read hg hg' (tB_ok h)
/-! ## lists of one kind -/
def blO : D → Option Bool
  | .bl b => some b
  | _ => none
def inO : D → Option Int
  | .int i => some i
  | _ => none
def stO : D → Option Str
  | .str x => some x
  | _ => none
def allO {α : Type} (f : D → Option α) : List D → Option (List α)
  | [] => some []
  | d :: r => (f d).bind fun x => (allO f r).map fun y => x :: y
@[simp] theorem allO_nil {α : Type} (f : D → Option α) : allO f [] = some [] := rfl
@[simp] theorem allO_cons {α : Type} (f : D → Option α) (d : D) (r : List D) : allO f (d :: r) = (f d).bind fun x => (allO f r).map fun y => x :: y := rfl
@[simp] theorem inO_int (i : Int) : inO (.int i) = some i := rfl
@[simp] theorem stO_str (i : Str) : stO (.str i) = some i := rfl
@[simp] theorem blO_bl (i : Bool) : blO (.bl i) = some i := rfl
theorem allO_map {α : Type} {f : D → Option α} {g : α → D} (h : ∀ x, f (g x) = some x) : ∀ xs : List α, allO f (xs.map g) = some xs
  | [] => rfl
  | x :: r => by rw [List.map_cons, allO_cons, h, Option.bind_some, allO_map h r]; rfl
theorem allO_app {α : Type} {f : D → Option α} : ∀ {xs ys : List D} {as bs : List α}, allO f xs = some as → allO f ys = some bs → allO f (xs ++ ys) = some (as ++ bs)
  | [], ys, as, bs, h1, h2 => by cases h1; exact h2
  | x :: r, ys, as, bs, h1, h2 => by
    rw [allO_cons] at h1
    cases hx : f x with
    | none => rw [hx] at h1; cases h1
    | some y =>
      rw [hx, Option.bind_some] at h1
      cases hr : allO f r with
      | none => rw [hr] at h1; cases h1
      | some rs =>
        rw [hr] at h1; cases h1
        rw [List.cons_append, allO_cons, hx, Option.bind_some, allO_app hr h2]; rfl
theorem allO_at {α : Type} {f : D → Option α} {fv : α → V} (hf : ∀ d x v, f d = some x → At w c H n d v → v = fv x) : ∀ {ds : List D} {xs : List α} {vs : List V}, allO f ds = some xs → Ats w c H n ds vs → vs = xs.map fv
  | [], xs, vs, h, a => by cases h; exact a.unnil
  | d :: r, xs, vs, h, a => by
    rw [allO_cons] at h
    obtain ⟨v, vr, rfl, a1, a2⟩ := a.uncons
    cases hx : f d with
    | none => rw [hx] at h; cases h
    | some x =>
      rw [hx, Option.bind_some] at h
      cases hr : allO f r with
      | none => rw [hr] at h; cases h
      | some rs => rw [hr] at h; cases h; rw [List.map_cons, hf d x v hx a1, allO_at hf hr a2]
theorem inO_at {d : D} {i : Int} {v : V} (h : inO d = some i) (a : At w c H n d v) : v = .int i := by
  cases d with
  | int j => cases h; exact a.int
  | _ => cases h
theorem stO_at {d : D} {i : Str} {v : V} (h : stO d = some i) (a : At w c H n d v) : v = .str i := by
  cases d with
  | str j => cases h; exact a.str
  | _ => cases h
theorem blO_at {d : D} {i : Bool} {v : V} (h : blO d = some i) (a : At w c H n d v) : v = .bl i := by
  cases d with
  | bl j => cases h; exact a.bl
  | _ => cases h
theorem lstO {α : Type} {f : D → Option α} {fv : α → V} (hf : ∀ {c : Cn} {H : Hp} {n : Nat} d x v, f d = some x → At w c H n d v → v = fv x) {d : D} {v : V} {xs : List α} (r : Rep w c H S) (a : At w c H S.length d v) (h : (lstOf S d).bind (allO f) = some xs) : ∃ p, v = .ref p ∧ SqL w.K H p (xs.map fv) := by
  cases hl : lstOf S d with
  | none => rw [hl] at h; cases h
  | some ds =>
    rw [hl, Option.bind_some] at h
    obtain ⟨p, vs, rfl, g, t⟩ := lstOf_at r a hl
    rw [allO_at (f := f) (fv := fv) (fun d x v => hf d x v) h t] at g
    exact ⟨p, rfl, SqL.of g⟩
def allD (x : D) (S : Sto) : R D := .ofO (((lstOf S x).bind (allO blO)).map fun bs => D.bl (bs.all id)) S
def anyD (x : D) (S : Sto) : R D := .ofO (((lstOf S x).bind (allO blO)).map fun bs => D.bl (bs.any id)) S
def sumD (x : D) (S : Sto) : R D := .ofO (((lstOf S x).bind (allO inO)).map fun bs => D.int bs.sum) S
theorem Po.ofM {α β : Type} {o : Option α} {f : α → β} {rel : Cn → Hp → Nat → β → V → Prop} {Q : V → Hp → Prop} (h : Po w W rel σ c H n (R.ofO (o.map f) S) Q) : ∃ x, o = some x ∧ Po w W rel σ c H n (.ok (f x) S) Q := by
  obtain ⟨y, hy, h⟩ := Po.ofO h
  cases o with
  | none => cases hy
  | some x => cases hy; exact ⟨x, rfl, h⟩
theorem g_all : GCall Γ X (f1 allD) (rAll X.K) := by
  refine .one fun W σ c H S x v Q r a h => ?_
  obtain ⟨bs, hb, h⟩ := Po.ofM h
  obtain ⟨p, rfl, g⟩ := lstO (fv := V.bl) (fun d x v h a => blO_at h a) r a hb
  exact ⟨p, bs, rfl, g, fin_ok h r (.b _)⟩
theorem g_any : GCall Γ X (f1 anyD) (rAny X.K) := by
  refine .one fun W σ c H S x v Q r a h => ?_
  obtain ⟨bs, hb, h⟩ := Po.ofM h
  obtain ⟨p, rfl, g⟩ := lstO (fv := V.bl) (fun d x v h a => blO_at h a) r a hb
  exact ⟨p, bs, rfl, g, fin_ok h r (.b _)⟩
theorem g_sum : GCall Γ X (f1 sumD) (rSum X.K) := by
  refine .one fun W σ c H S x v Q r a h => ?_
  obtain ⟨bs, hb, h⟩ := Po.ofM h
  obtain ⟨p, rfl, g⟩ := lstO (fv := V.int) (fun d x v h a => inO_at h a) r a hb
  exact ⟨p, bs, rfl, g, fin_ok h r (.i _)⟩
/-- the greatest -/
def maxL : List Int → Int
  | [] => 0
  | [x] => x
  | x :: y :: r => max x (maxL (y :: r))
theorem maxL_mem : ∀ {ns : List Int}, ns ≠ [] → maxL ns ∈ ns
  | [], h => absurd rfl h
  | [x], _ => by simp [maxL]
  | x :: y :: r, _ => by
    have ih := maxL_mem (ns := y :: r) (by simp)
    unfold maxL
    by_cases hx : x ≤ maxL (y :: r)
    · rw [Int.max_eq_right hx]; exact List.mem_cons_of_mem _ ih
    · rw [Int.max_eq_left (by omega)]; exact List.mem_cons_self
theorem maxL_le : ∀ {ns : List Int} {y : Int}, y ∈ ns → y ≤ maxL ns
  | [], y, h => by cases h
  | [x], y, h => by simp at h; simp [maxL, h]
  | x :: z :: r, y, h => by
    unfold maxL
    rcases List.mem_cons.mp h with rfl | h
    · exact Int.le_max_left _ _
    · exact Int.le_trans (maxL_le h) (Int.le_max_right _ _)
theorem maxL_uniq {ns : List Int} {m : Int} (h : m ∈ ns) (g : ∀ y ∈ ns, y ≤ m) : m = maxL ns := Int.le_antisymm (maxL_le h) (g _ (maxL_mem fun e => by rw [e] at h; cases h))
def maxD (x : D) (S : Sto) : R D := .ofO (((lstOf S x).bind (allO inO)).bind fun ns => if 0 < ns.length then some (D.int (maxL ns)) else none) S
theorem g_max : GCall Γ X (f1 maxD) (rMax X.K) := by
  refine .one fun W σ c H S x v Q r a h => ?_
  obtain ⟨y, hy, h⟩ := Po.ofO h
  cases hb : (lstOf S x).bind (allO inO) with
  | none => rw [hb] at hy; cases hy
  | some ns =>
    rw [hb, Option.bind_some] at hy
    by_cases hn : 0 < ns.length
    · rw [if_pos hn] at hy; cases hy
      obtain ⟨p, rfl, g⟩ := lstO (fv := V.int) (fun d x v h a => inO_at h a) r a hb
      exact ⟨p, ns, rfl, g, hn, fun m hm hg => by rw [maxL_uniq hm hg]; exact fin_ok h r (.i _)⟩
    · rw [if_neg hn] at hy; cases hy
/-- max(.., default=None) -/
def maxdD (x : D) (S : Sto) : R D := .ofO (((lstOf S x).bind (allO inO)).map fun ns => if ns = [] then D.non else D.int (maxL ns)) S
/-- sorted ints -/
def sortI (ns : List Int) : List Int := ns.mergeSort fun x y => decide (x ≤ y)
theorem sortI_uniq {ns ms : List Int} (p : ms.Perm ns) (s : ms.Pairwise (· ≤ ·)) : ms = sortI ns := by
  refine List.Perm.eq_of_pairwise (le := (· ≤ ·)) (fun a b _ _ h1 h2 => Int.le_antisymm h1 h2) s ?_ (p.trans (List.mergeSort_perm _ _).symm)
  have := List.pairwise_mergeSort (le := fun x y : Int => decide (x ≤ y)) (fun a b c h1 h2 => decide_eq_true (Int.le_trans (of_decide_eq_true h1) (of_decide_eq_true h2))) (fun a b => by
    rcases Int.le_total a b with h | h
    · simp [h]
    · simp [h]) ns
  exact this.imp fun h => of_decide_eq_true h
def sortD (x : D) (S : Sto) : R D := .ofO (((lstOf S x).bind (allO inO)).map fun ns => D.lst ((sortI ns).map D.int)) S
theorem ats_int : ∀ ns : List Int, Ats w c H n (ns.map .int) (ns.map V.int)
  | [] => .nil
  | i :: r => .cons (.i _) (ats_int r)
theorem g_sort : GCall Γ X (f1 sortD) (rSortedI X.K) := by
  refine .one fun W σ c H S x v Q r a h => ?_
  obtain ⟨ns, hb, h⟩ := Po.ofM h
  obtain ⟨p, rfl, g⟩ := lstO (fv := V.int) (fun d x v h a => inO_at h a) r a hb
  exact ⟨p, ns, rfl, g, fun ms q pm ps hq => by rw [sortI_uniq pm ps]; exact fin_lst h r (ats_int _) hq⟩
/-! ## max(.., default=None) -/
theorem c_maxdef {p kpos : Pos} {j} {cp : Pos} (hc : X.calm = true) (hm : X.mg "max" = none) (he : CE Γ X W e ma) (hg : Gl X "max" := by rfl)
    (h1 : backTo pos (starEach [e] X.env) = (false, eval e X.env) :: backTo pos (starEach [] X.env) := by rfl) (h2 : (backTo pos (starEach [e] X.env)).any (·.1) = false := by rfl)
    (h3 : starEach [e] X.env = (false, eval e X.env) :: starEach [] X.env := by rfl)
    (k1 : (backToKw pos (keywordEach [⟨some "default", .Constant .none j cp, kpos⟩] X.env)).all (·.1.isSome) = true := by rfl) (k2 : (backToKw pos (keywordEach [⟨some "default", .Constant .none j cp, kpos⟩] X.env)).any (·.1.isNone) = false := by rfl)
    (k3 : (backToKw pos (keywordEach [⟨some "default", .Constant .none j cp, kpos⟩] X.env)).filterMap (·.1) = [Str.ofString "default"] := by rfl) :
    CE Γ X W (.Call (.Name "max" p) [e] [⟨some "default", .Constant .none j cp, kpos⟩] pos) (e_call (f1 maxdD) (a_cons ma a_nil)) := by
  refine PE.weak (pe_callBK (cr_maxDef hc) hg hm (by decide +kernel) (pa_cons he pa_nil h3) (pk_cons pe_non pk_nil) (by decide) (by decide) h1 h2 k1 k2 k3) fun σ H Q ⟨c, env, S, r, ev, h⟩ => ?_
  have h' : PoE ⟨X.K, Γ⟩ W σ c H S.length ((ma env S).bind fun d S1 => maxdD d S1) Q := by
    have e : ((ma env S).bind fun d S1 => maxdD d S1) = e_call (f1 maxdD) (a_cons ma a_nil) env S := by
      show _ = ((ma env S).bind fun d S1 => ((a_nil env S1).bind fun ds S2 => .ok (d :: ds) S2)).bind fun ds S1 => f1 maxdD ds S1
      cases ma env S <;> rfl
    rw [e]; exact h
  refine ⟨c, env, S, r, ev, (Po.bind h').imp fun v H1 ⟨c1, S1, d1, e1, r1, a1, h1⟩ => ?_⟩
  obtain ⟨ns, hb, h1⟩ := Po.ofM h1
  obtain ⟨q, rfl, g⟩ := lstO (fv := V.int) (fun d x v h a => inO_at h a) r1 a1 hb
  refine ⟨q, ns, rfl, rfl, g, fun e0 => ?_, fun m hm' hg' => ?_⟩
  · rw [if_pos e0] at h1; exact fin_ok h1 r1 .o
  · have hn : ns ≠ [] := fun e => by rw [e] at hm'; cases hm'
    rw [if_neg hn] at h1
    rw [maxL_uniq hm' hg']
    exact fin_ok h1 r1 (.i _)
/-! ## a range as a tuple, as a list -/
theorem rgV_eq (x y : Int) : rgV x y = ((rngD x (y - x).toNat).map fun d => match d with
  | .int i => V.int i
  | _ => V.non) := by
  unfold rgV
  have : ∀ (k : Nat) (lo : Int), (List.range k).map (fun i : Nat => V.int (lo + i)) = (rngD lo k).map fun d => match d with
    | .int i => V.int i
    | _ => V.non := by
    intro k
    induction k with
    | zero => intro lo; rfl
    | succ k ih =>
      intro lo
      rw [List.range_succ_eq_map, List.map_cons, List.map_map]
      unfold rngD
      rw [List.map_cons, ← ih (lo + 1)]
      congr 1
      · simp
      · refine List.map_congr_left fun i _ => ?_
        show V.int (lo + ((i + 1 : Nat) : Int)) = V.int (lo + 1 + (i : Int))
        congr 1; omega
  exact this _ _
theorem ats_rng : ∀ (lo : Int) (k : Nat), Ats w c H n (rngD lo k) ((rngD lo k).map fun d => match d with
  | .int i => V.int i
  | _ => V.non)
  | lo, 0 => .nil
  | lo, k + 1 => by
    unfold rngD
    exact .cons (.i _) (ats_rng (lo + 1) k)
def rgD (f : List D → D) (x y : D) (S : Sto) : R D := match x, y with
  | .int i, .int j => .if (-(2 ^ 62) ≤ i ∧ i < 2 ^ 62 ∧ -(2 ^ 62) ≤ j ∧ j < 2 ^ 62 ∧ (j - i).toNat ≤ 2 ^ 24) (.ok (f (rngD i (j - i).toNat)) S)
  | _, _ => .bad
@[simp] theorem rgD_int (f : List D → D) (i j : Int) (S : Sto) : rgD f (.int i) (.int j) S = .if (-(2 ^ 62) ≤ i ∧ i < 2 ^ 62 ∧ -(2 ^ 62) ≤ j ∧ j < 2 ^ 62 ∧ (j - i).toNat ≤ 2 ^ 24) (.ok (f (rngD i (j - i).toNat)) S) := rfl
theorem c_tupRg {p q pos' : Pos} (hc : X.calm = true) (hm : X.mg "tuple" = none) (hr : X.mg "range" = none) (ha : CE Γ X W a ma) (hb : CE Γ X W b mb) (hg : Gl X "tuple" := by rfl) (hgr : Gl X "range" := by rfl)
    (h1 : starEach [a, b] X.env = (false, eval a X.env) :: starEach [b] X.env := by rfl) (h2 : starEach [b] X.env = (false, eval b X.env) :: starEach [] X.env := by rfl) (h3 : (backTo pos' (starEach [b] X.env)).any (·.1) = false := by rfl)
    (h4 : starEach [.Call (.Name "range" q) [a, b] [] pos'] X.env = (false, eval (.Call (.Name "range" q) [a, b] [] pos') X.env) :: starEach [] X.env := by rfl) :
    CE Γ X W (.Call (.Name "tuple" p) [.Call (.Name "range" q) [a, b] [] pos'] [] pos) (e_op (rgD .tup) ma mb) := by
  refine PE.weak (pe_tupRg hc hg hm (prg_2 hgr hr ha hb h1 h2 h3) h4) fun σ H Q ⟨c, env, S, r, ev, h⟩ => ?_
  refine ⟨c, env, S, r, ev, (Po.bind h).imp fun v H1 ⟨c1, S1, d1, e1, r1, a1, h1⟩ => ?_⟩
  refine ⟨c1, env, S1, r1, ev.mono e1, (Po.bind h1).imp fun u H2 ⟨c2, S2, d2, e2, r2, a2, h2⟩ => ?_⟩
  cases d1 with
  | int i =>
    cases d2 with
    | int j =>
      obtain ⟨hk, h2⟩ := Po.if h2
      exact ⟨i, j, a1.int, a2.int, hk, fun z hz => by rw [rgV_eq]; exact fin_tup h2 r2 (ats_rng _ _) hz⟩
    | _ => exact h2.elim
  | _ => cases d2 <;> exact h2.elim
theorem c_lstRg {p q pos' : Pos} (hc : X.calm = true) (hm : X.mg "list" = none) (hr : X.mg "range" = none) (ha : CE Γ X W a ma) (hb : CE Γ X W b mb) (hg : Gl X "list" := by rfl) (hgr : Gl X "range" := by rfl)
    (h1 : starEach [a, b] X.env = (false, eval a X.env) :: starEach [b] X.env := by rfl) (h2 : starEach [b] X.env = (false, eval b X.env) :: starEach [] X.env := by rfl) (h3 : (backTo pos' (starEach [b] X.env)).any (·.1) = false := by rfl)
    (h4 : starEach [.Call (.Name "range" q) [a, b] [] pos'] X.env = (false, eval (.Call (.Name "range" q) [a, b] [] pos') X.env) :: starEach [] X.env := by rfl) :
    CE Γ X W (.Call (.Name "list" p) [.Call (.Name "range" q) [a, b] [] pos'] [] pos) (e_op (rgD .lst) ma mb) := by
  refine PE.weak (pe_listRg hc hg hm (prg_2 hgr hr ha hb h1 h2 h3) h4) fun σ H Q ⟨c, env, S, r, ev, h⟩ => ?_
  refine ⟨c, env, S, r, ev, (Po.bind h).imp fun v H1 ⟨c1, S1, d1, e1, r1, a1, h1⟩ => ?_⟩
  refine ⟨c1, env, S1, r1, ev.mono e1, (Po.bind h1).imp fun u H2 ⟨c2, S2, d2, e2, r2, a2, h2⟩ => ?_⟩
  cases d1 with
  | int i =>
    cases d2 with
    | int j =>
      obtain ⟨hk, h2⟩ := Po.if h2
      exact ⟨i, j, a1.int, a2.int, hk, fun z hz => by rw [rgV_eq]; exact fin_lst h2 r2 (ats_rng _ _) hz⟩
    | _ => exact h2.elim
  | _ => cases d2 <;> exact h2.elim
/-! ## t1 = t2 = e -/
def s_asg2 (m : EM) (g1 g2 : GM) : SM := fun env S => (m env S).toS env fun d S1 => match (g1 d env).bind (g2 d) with
  | some env1 => .next env1 S1
  | none => .bad
@[simp] theorem s_asg2_eq (m : EM) (g1 g2 : GM) (env : Env) (S : Sto) : s_asg2 m g1 g2 env S = (m env S).toS env fun d S1 => match (g1 d env).bind (g2 d) with
  | some env1 => .next env1 S1
  | none => .bad := rfl
theorem c_asg2 {t1 t2 : Expr} {g1 g2 : GM} {sl1 sl2 : List Nat} (he : CE Γ X W e ma) (h1 : CG Γ X t1 sl1 g1) (h2 : CG Γ X t2 sl2 g2) (hs : (assignEach [t1, t2] X.env).map (·.2) = [assign t1 X.env, assign t2 X.env] := by rfl) (hw : swappedStores [t1, t2] e X.env = pure none := by rfl) : CS Γ X W (.Assign [t1, t2] e pos) (s_asg2 ma g1 g2) := by
  refine PS.weak (ps_asg2 he h1 h2 hs hw) fun Dn σ H ⟨c, env, S, r, ev, h⟩ => ?_
  refine ⟨c, env, S, r, ev, (PoS.part ev h).imp fun v H1 ⟨c1, S1, d1, e1, r1, a1, ev1, h1⟩ => ?_⟩
  cases hg : g1 d1 env with
  | none => simp only [hg, Option.bind_none] at h1; exact h1.elim
  | some env1 =>
    simp only [hg, Option.bind_some] at h1
    cases hg2 : g2 d1 env1 with
    | none => simp only [hg2] at h1; exact h1.elim
    | some env2 =>
      simp only [hg2] at h1
      exact ⟨c1, env, S1, d1, env1, r1, ev1, a1, hg, fun σ1 ev2 _ => ⟨c1, env1, S1, d1, env2, r1, ev2, a1, hg2, fun σ2 ev3 _ => h1 c1 H1 σ2 Ext.refl r1 ev3⟩⟩
/-- x, y = a, b -/
def s_par (i j : Nat) (m : AM) : SM := fun env S => (m env S).toS env fun ds S1 => match ds with
  | [x, y] => .next ((env.set i (some x)).set j (some y)) S1
  | _ => .bad
@[simp] theorem s_par_eq (i j : Nat) (m : AM) (env : Env) (S : Sto) : s_par i j m env S = (m env S).toS env fun ds S1 => match ds with
  | [x, y] => .next ((env.set i (some x)).set j (some y)) S1
  | _ => .bad := rfl
theorem c_par {i j : Nat} {x y : Str} {px py pt pt2 : Pos} {kt k2 : Nat} (hc : X.calm = true) (hN : X.N.Nodup) (hij : i ≠ j) (ha : CA Γ X W [a, b] am) (hi : X.N[i]? = some x := by rfl) (hj : X.N[j]? = some y := by rfl) (hx : X.env.scope.names.lookup x = some .local := by rfl) (hy : X.env.scope.names.lookup y = some .local := by rfl)
    (hw : swappedStores [.Tuple [.Name x px, .Name y py] kt pt] (.Tuple [a, b] k2 pt2) X.env = pure (some [x, y]))
    (hs : swapsWithSole [.Tuple [.Name x px, .Name y py] kt pt] (.Tuple [a, b] k2 pt2) pos.line X.env = pure false := by rfl) : CS Γ X W (.Assign [.Tuple [.Name x px, .Name y py] kt pt] (.Tuple [a, b] k2 pt2) pos) (s_par i j am) := by
  refine PS.weak (ps_par hc hN hi hj hij hx hy ha hw hs) fun Dn σ H ⟨c, env, S, r, ev, h⟩ => ?_
  refine ⟨c, env, S, r, ev, (PoS.part ev h).imp fun vs H1 ⟨c1, S1, ds, e1, r1, a1, ev1, h1⟩ => ?_⟩
  cases ds with
  | nil => exact h1.elim
  | cons x rs =>
    cases rs with
    | nil => exact h1.elim
    | cons y rs =>
      cases rs with
      | nil =>
        obtain ⟨v, u, rfl, ax, ay⟩ := a1.un2
        exact ⟨v, u, rfl, h1 c1 H1 _ Ext.refl r1 ((ev1.set ax).set ay)⟩
      | cons z rs => exact h1.elim
/-! ## while -/
def whileS (t : TM) (body : SM) : Nat → SM
  | 0 => fun _ _ => .bad
  | f + 1 => fun env S => (t env S).toS env fun k S1 => if k = true then (match body env S1 with
      | .next env2 S2 => whileS t body f env2 S2
      | .cnt env2 S2 => whileS t body f env2 S2
      | .brk env2 S2 => .next env2 S2
      | x => x) else .next env S1
theorem c_while {fuel : Nat} {body : List Stmt} {pm : TM} {m : SM} (hp : PassesOwn (model X.prog X.w) X.A X.env X.xe) (ht : CT Γ X W a pm) (hb : CSs Γ X W body m) : CS Γ X W (.While a body [] pos) (whileS pm m fuel) := by
  refine PS.weak (ps_while hp ht hb) fun Dn σ H ⟨c, env, S, r, ev, h⟩ => ?_
  refine ⟨fun f σ' H' => ∃ c2 env2 S2, Rep ⟨X.K, Γ⟩ c2 H' S2 ∧ EnvR ⟨X.K, Γ⟩ c2 H' S2.length σ' env2 ∧ PoS ⟨X.K, Γ⟩ W c2 H' S2.length (whileS pm m f env2 S2) Dn, ⟨fuel, c, env, S, r, ev, h⟩, ?_⟩
  rintro f σ' H' ⟨c2, env2, S2, r2, ev2, h2⟩
  cases f with
  | zero => exact h2.elim
  | succ f =>
    refine ⟨c2, env2, S2, r2, ev2, (PoS.part ev2 h2).imp fun k H1 ⟨c1, S1, d1, e1, r1, a1, ev1, h1⟩ => ?_⟩
    cases (show k = d1 from a1)
    cases k with
    | false => exact h1 c1 H1 σ' Ext.refl r1 ev1
    | true =>
      refine ⟨fun σ3 H3 => ∃ c3 env3 S3, Rep ⟨X.K, Γ⟩ c3 H3 S3 ∧ EnvR ⟨X.K, Γ⟩ c3 H3 S3.length σ3 env3 ∧ PoS ⟨X.K, Γ⟩ W c3 H3 S3.length (whileS pm m f env3 S3) Dn, fun σ3 H3 q => ⟨f, Nat.lt_succ_self _, q⟩, c1, env2, S1, r1, ev1, ?_⟩
      rw [if_pos rfl] at h1
      cases hm : m env2 S1 with
      | next env4 S4 => rw [hm] at h1; exact fun c4 H4 σ4 e4 r4 ev4 => ⟨c4, env4, S4, r4, ev4, PoS.mono e4 h1⟩
      | cnt env4 S4 => rw [hm] at h1; exact fun c4 H4 σ4 e4 r4 ev4 => ⟨c4, env4, S4, r4, ev4, PoS.mono e4 h1⟩
      | brk env4 S4 => rw [hm] at h1; exact h1
      | ret d S4 => rw [hm] at h1; exact h1
      | ex x env4 S4 => rw [hm] at h1; exact h1
      | bad => rw [hm] at h1; exact h1.elim
/-! ## texts walked, compared -/
def i_str (m : EM) : IM := fun env S => (m env S).bind fun d S1 => match d with
  | .str x => .ok (x.cps.toList.map fun k => .str ⟨#[k]⟩, none) S1
  | _ => .bad
def strLeD (x y : D) (S : Sto) : R D := match x, y with
  | .str i, .str j => .ok (.bl (!decide (j.cps.toList < i.cps.toList))) S
  | _, _ => .bad
@[simp] theorem strLeD_eq (i j : Str) (S : Sto) : strLeD (.str i) (.str j) S = .ok (.bl (!decide (j.cps.toList < i.cps.toList))) S := rfl
theorem g_strLe : GOp Γ X strLeD (fun x y H Q => ∃ i j, x = .str i ∧ y = .str j ∧ Q (.bl (!decide (j.cps.toList < i.cps.toList))) H) := by
  intro W σ c H S x y v u Q r a b h
  cases x with
  | str i =>
    cases y with
    | str j => exact ⟨i, j, a.str, b.str, fin_ok h r (.b _)⟩
    | _ => exact h.elim
  | _ => exact h.elim
/-! ## x in xs -/
def rIn3 (K : PySem.W.Frag) : R2 := fun x y H Q => rIn K false x y H Q ∨ rInD K x y H Q
def rNi3 (K : PySem.W.Frag) : R2 := fun x y H Q => rIn K true x y H Q ∨ rNotInD K x y H Q
theorem op_in3 (hu : X.A.units + 65 < cLine) : OpR X (compareOp .In) (rIn3 X.K) := op_in_seq.or (op_inD hu)
theorem op_ni3 (hu : X.A.units + 65 < cLine) : OpR X (compareOp .NotIn) (rNi3 X.K) := op_notIn_seq.or (op_notInD hu)
/-- plain values -/
def flD : D → Option V := DV
def inF (neg : Bool) (x y : D) (S : Sto) : R D := match DV x, (seqOf S y).bind (allO DV) with
  | some p, some ps => .ok (.bl (neg ^^ inV p ps)) S
  | _, _ => .bad
theorem DV_at {d : D} {u v : V} (h : DV d = some u) (a : At w c H n d v) : v = u ∧ flatV u = true := by
  cases d with
  | int i => cases h; exact ⟨a.int, rfl⟩
  | bl i => cases h; exact ⟨a.bl, rfl⟩
  | str i => cases h; exact ⟨a.str, rfl⟩
  | non => cases h; exact ⟨a.non, rfl⟩
  | _ => cases h
theorem DV_all : ∀ {ds : List D} {ps vs : List V}, allO DV ds = some ps → Ats w c H n ds vs → vs = ps ∧ ps.all flatV = true
  | [], ps, vs, h, a => by cases h; exact ⟨a.unnil, rfl⟩
  | d :: r, ps, vs, h, a => by
    rw [allO_cons] at h
    obtain ⟨v, vr, rfl, a1, a2⟩ := a.uncons
    cases hx : DV d with
    | none => rw [hx] at h; cases h
    | some x =>
      rw [hx, Option.bind_some] at h
      cases hr : allO DV r with
      | none => rw [hr] at h; cases h
      | some rs =>
        rw [hr] at h; cases h
        obtain ⟨e1, f1⟩ := DV_at hx a1
        obtain ⟨e2, f2⟩ := DV_all hr a2
        exact ⟨by rw [e1, e2], by rw [List.all_cons, f1, f2]; rfl⟩
theorem inF_at {neg : Bool} {x y : D} {v u : V} {Q : VK} (r : Rep w c H S) (a : At w c H S.length x v) (b : At w c H S.length y u) (h : PoE w W σ c H S.length (inF neg x y S) Q) : rIn w.K neg v u H Q := by
  unfold inF at h
  cases hx : DV x with
  | none => rw [hx] at h; exact h.elim
  | some p =>
    cases hs : seqOf S y with
    | none => rw [hx, hs] at h; exact h.elim
    | some ds =>
      cases ha : allO DV ds with
      | none => rw [hx, hs, Option.bind_some, ha] at h; exact h.elim
      | some ps =>
        rw [hx, hs, Option.bind_some, ha] at h
        obtain ⟨q, vs, rfl, g, t⟩ := seqOf_at r b hs
        obtain ⟨e1, f1⟩ := DV_at hx a
        obtain ⟨e2, f2⟩ := DV_all ha t
        subst e1; subst e2
        refine ⟨q, vs, rfl, g, f1, f2, ?_⟩
        have := fin_ok h r (.b _)
        cases neg <;> simpa using this
theorem g_inF : GOp Γ X (inF false) (rIn X.K false) := fun W σ c H S x y v u Q r a b h => inF_at (w := ⟨X.K, Γ⟩) r a b h
theorem g_niF : GOp Γ X (inF true) (rIn X.K true) := fun W σ c H S x y v u Q r a b h => inF_at (w := ⟨X.K, Γ⟩) r a b h
end
end Mm
set_option maxRecDepth 100000
/-! A list extended by a tuple; dicts. -/
namespace L2
open PySem PySem.Spec PyProof.Rows
set_option maxRecDepth 100000 in
theorem ext_tup (l : Addr) (items : Array Value) (n : Nat) (b : Addr) (items2 : Array Value) (n2 : Nat) (dd : Option Addr) (sl : Array (Option Value)) (hs0 : ¬(!items.isEmpty && Builtin.List.listTooLong (items.size + items2.size)) = true) (hs1 : items.size ≤ sizeLine) (hs2 : items.size + items2.size ≤ sizeLine + 1) :
    Meets (Builtin.«list.extend» ⟨[.ref l, .ref b], []⟩) (fun _ R s => s.heap.get? l = some { cls := .type "list", dict := none, data := .seq items n, slots := #[] } ∧ s.heap.get? b = some { cls := .type "tuple", dict := dd, data := .seq items2 n2, slots := sl } ∧ R (.ok (.ret Value.none)) { s with heap := s.heap.update l (Obj.mapSeq fun x => x ++ items2), toks := s.toks }) :=
  .of_wp fun prog w A R s h => by
    obtain ⟨hp, g, d, tk, os⟩ := s
    obtain ⟨hl, hb, h⟩ := h
    have f1 := AutoSeq1.idx_int
    have f2 := AutoSeq1.sub_tuple_tuple
    have f3 := AutoSeq1.sub_list_list
    have f4 := AutoSeq1.sub_tuple_list
    have f5 := AutoSeq1.sub_list_tuple
    have hz' : (items ++ items2).size ≤ sizeLine + 1 := by rw [Array.size_append]; exact hs2
    wp_walk using (wpAny_updateSeq hl rfl (hz := hs1) (_hz' := hz')), wpAny_loadPart' hl, wpAny_loadPart' hb
    exact ⟨_, rfl, h⟩
/-- xs.extend(ys), ys a list or a tuple -/
def rExt2 (K : PySem.W.Frag) : V → List V → Hp → VK → Prop := fun x vs H Q => rExtend x vs H Q ∨ ∃ l b xs zs, x = V.ref l ∧ vs = [V.ref b] ∧ H l = some (HO.lst xs) ∧ SqT K H b zs ∧ xs.length + zs.length ≤ sizeLine ∧ Q V.non (upd H l (HO.lst (xs ++ zs)))
theorem mt_ext2 {X : Cx} : MtM X "list.extend" (rExt2 X.K) := by
  intro pins s σ H x vs v us Q I rx rv h
  rcases h with h | h
  · exact mt_extend pins s σ H x vs v us Q I rx rv h
  obtain ⟨l, b, xs, zs, rfl, rfl, hH, hB, hz, q⟩ := h
  cases rx
  obtain ⟨u, rfl, ru⟩ := rv.one
  cases ru
  obtain ⟨z, its, n, r, hl, e⟩ := I.lstM hH
  obtain ⟨its2, r2, ⟨o2, e2, c2, n2, d2⟩, z2⟩ := I.tuple hB
  obtain ⟨oc, od, odt, os⟩ := o2
  dsimp only at c2 d2
  subst c2; subst d2
  have hl2 : its2.length = zs.length := r2.length.symm
  have hsz : its.toArray.size + its2.toArray.size ≤ sizeLine := by rw [List.size_toArray, List.size_toArray]; omega
  have hlong : ¬ (!its.toArray.isEmpty && Builtin.List.listTooLong (its.toArray.size + its2.toArray.size)) = true := by
    rw [notLongL hsz, Bool.and_false]
    exact Bool.false_ne_true
  refine call_meets F.slot_list_extend ⟨_, e, rfl⟩ F.entry_list_extend (F.args_list_extend_2 _ _)
    (ext_tup l its.toArray n b its2.toArray n2 _ _ hlong (by rw [List.size_toArray]; omega) (by omega)) ⟨e, e2, ?_⟩
  refine ⟨.non, _, I.lset (its' := its ++ its2) hH e (by simp) (r.append r2) ?_, rfl, q⟩
  rw [List.length_append]
  omega
/-! ## keys that are any tuple -/
/-- what the dict at a holds at the key y; the key may be a written tuple -/
def DGetK (K : PySem.W.Frag) (H : Hp) (a : Addr) (y : V) (r : Option V) : Prop :=
  (∃ kvs k, Rd H a (.dK kvs) ∧ y = kV k ∧ r = valV kvs k) ∨ ∃ kvs k b, Rd H a (.dT kvs) ∧ y = .ref b ∧ SqT K H b (k.map kV) ∧ r = valV kvs k
section
variable {X : Cx} {pins : List (Addr × Obj)} {σ : St} {H : Hp} {s : Shared} {a : Addr} {y v : V} {u r : Value} {o : Option V}
theorem key_sq {b : Addr} {k : List Key} (I : Inv X pins σ H s) (h : SqT X.K H b (k.map kV)) : (tupleKind (mixKind X.prog X.w)).is s.heap k b := by
  obtain ⟨its, r, ⟨o, h1, h2, n, h3⟩, _⟩ := I.tuple h
  exact ⟨o, its.toArray, n, h1, h2, h3, by simpa using items_are r⟩
theorem dk_type (I : Inv X pins σ H s) (g : DGetK X.K H a y o) : s.TypeIs (.ref a) "dict" := by
  rcases g with ⟨kvs, k, e, _, _⟩ | ⟨kvs, k, b, e, _, _, _⟩
  · exact dict_typeIs I (.inl ⟨kvs, k, e, rfl, rfl⟩)
  · obtain ⟨_, _, xs, _, dd⟩ := dt_rd I.hok e
    exact dd.typeIs
theorem dk_getItem {A : Around} {E : Value → Shared → Prop} {Q : Value → Shared → Prop} (hu : A.units + 1 < cLine) (I : Inv X pins σ H s) (g : DGetK X.K H a y (some v)) (ry : RelV y u) (h : ∀ w' s', Inv X pins σ H s' → RelV v w' → Q w' s') :
    wpAny (model X.prog X.w) A (getItem (.ref a) u) Q E s := by
  rcases g with ⟨kvs, k, e, ey, l⟩ | ⟨kvs, k, b, e, ey, eb, l⟩
  · exact d_getItem hu I (.inl ⟨kvs, k, e, ey, l⟩) ry h
  · subst ey
    cases (show u = Value.ref b from ry)
    obtain ⟨z, hd, xs, rel, dd⟩ := dt_rd I.hok e
    obtain ⟨w', hw, rw'⟩ := RelO.some_of (v := v) (o := (atKey xs k).map (·.2)) (by rw [l]; exact rel.val k)
    obtain ⟨p, hp, hp2⟩ := Option.map_eq_some_iff.mp hw
    refine wpAny_getItem_heap (tupleKind_room_in1 hu) (key_sq I eb) dd hp ?_
    rw [hp2]
    exact h w' _ (I.tok _) rw'
theorem dk_in {A : Around} {E : Value → Shared → Prop} {Q : Value → Shared → Prop} (hu : A.units + 1 < cLine) (I : Inv X pins σ H s) (g : DGetK X.K H a y o) (ry : RelV y u) (h : ∀ s', Inv X pins σ H s' → Q (.bool o.isSome) s') :
    wpAny (model X.prog X.w) A (compareOp .In u (.ref a)) Q E s := by
  rcases g with ⟨kvs, k, e, ey, l⟩ | ⟨kvs, k, b, e, ey, eb, l⟩
  · exact d_in hu I (.inl ⟨kvs, k, e, ey, l⟩) ry h
  · subst ey
    cases (show u = Value.ref b from ry)
    obtain ⟨z, hd, xs, rel, dd⟩ := dt_rd I.hok e
    refine wpAny_in_heap (tupleKind_room_in1 hu) (key_sq I eb) hd dd ?_
    have q := (rel.val k).isSome_eq
    rw [Option.isSome_map] at q
    rw [← q, ← l]
    exact h _ (I.tok _)
/-- y in d -/
def rDIn (K : PySem.W.Frag) : R2 := fun y x H Q => ∃ a o, x = .ref a ∧ DGetK K H a y o ∧ Q (.bl o.isSome) H
theorem op_dIn (hu : X.A.units + 1 < cLine) : OpR X (compareOp .In) (rDIn X.K) := by
  intro pins s σ H y x u v Q I ry rx h
  obtain ⟨a, o, rfl, g, q⟩ := h
  obtain rfl : v = Value.ref a := rx
  exact dk_in hu I g ry fun s' I' => ⟨.bl o.isSome, H, I', rfl, q⟩
/-- d[y] -/
def tDGetK (K : PySem.W.Frag) (td ty : TE) : TE := fun σ H Q => td σ H fun x H1 => ty σ H1 fun y H2 => ∃ a v, x = .ref a ∧ DGetK K H2 a y (some v) ∧ Q v H2
theorem pe_dgetK {o i : Expr} {pos : Pos} {td ty : TE} (hu : X.A.units + 1 < cLine) (ho : PE X o td) (hi : PE X i ty) (hs : NoSl i) : PE X (.Subscript o i pos) (tDGetK X.K td ty) := by
  refine ⟨fun pins s σ H Q I h => ?_⟩
  refine subD_of PySem.F.slot_dict_getitem.lookup hs (thn (ho.run pins s σ H _ I h) fun u s1 ⟨x, H1, I1, rx, q1⟩ => thn (hi.run pins s1 σ H1 _ I1 q1) fun iv s2 ⟨y, H2, I2, ry, a, v, ex, g, q2⟩ => ?_)
  subst ex
  obtain rfl : u = Value.ref a := rx
  exact ⟨dk_type I2 g, dk_getItem hu I2 g ry fun w' s3 I3 rw' => ⟨v, H2, I3, rw', q2⟩⟩
end
end L2
namespace Mm
open PySem L2
section
variable {w : Wn} {W : WX} {σ : St} {c c' : Cn} {H H' : Hp} {n n' : Nat} {S : Sto} {env : Env}
variable {Γ : Cls'} {X : Cx} {a b e o tg : Expr} {es : List Expr} {ma mb mo : EM} {am : AM} {pos : Pos} {Dn : Ends}
/-! ## xs.extend(ys) -/
def ext2D (x : D) (ds : List D) (S : Sto) : R D := match x, ds with
  | .loc k, [.tup fs] => match S[k]? with
    | some (.lst es) => .if (es.length + fs.length ≤ sizeLine) (.ok .non (S.set k (.lst (es ++ fs))))
    | _ => .bad
  | x, ds => extD x ds S
@[simp] theorem ext2D_tup (S : Sto) (k : Nat) (fs : List D) : ext2D (.loc k) [.tup fs] S = match S[k]? with
    | some (.lst es) => .if (es.length + fs.length ≤ sizeLine) (.ok .non (S.set k (.lst (es ++ fs))))
    | _ => .bad := rfl
@[simp] theorem ext2D_lst (S : Sto) (k : Nat) (fs : List D) : ext2D (.loc k) [.lst fs] S = extD (.loc k) [.lst fs] S := rfl
@[simp] theorem ext2D_loc (S : Sto) (k j : Nat) : ext2D (.loc k) [.loc j] S = extD (.loc k) [.loc j] S := rfl
theorem gm_ext2 : GMt Γ X ext2D (rExt2 X.K) := by
  intro W σ c H S x v ds vs Q r a t h
  have go : ext2D x ds S = extD x ds S → rExt2 X.K v vs H Q := fun e => by
    rw [e] at h
    exact .inl (gm_ext W σ c H S x v ds vs Q r a t h)
  cases x with
  | loc k =>
    cases ds with
    | nil => exact go rfl
    | cons y rs =>
      cases rs with
      | cons z rs => cases y <;> exact go rfl
      | nil =>
        cases y with
        | tup fs =>
          rw [ext2D_tup] at h
          cases hk : S[k]? with
          | none => rw [hk] at h; exact h.elim
          | some o =>
            cases o with
            | lst es =>
              rw [hk] at h
              obtain ⟨u, rfl, ay⟩ := t.un1
              obtain ⟨hl, h⟩ := Po.if h
              unfold At at a
              obtain ⟨us, g, te⟩ := r.get hk
              obtain ⟨q, ws, rfl, g2, tf⟩ := ay.tup
              exact .inr ⟨c.ρ k, q, us, ws, a.2, rfl, g, g2, by rw [te.len, tf.len]; exact hl, wr_end rfl r a.1 (te.app tf) h⟩
            | _ => rw [hk] at h; exact h.elim
        | _ => exact go rfl
  | _ => exact go rfl
/-! ## dicts -/
def unK : D → Option Key
  | .int i => some (.inl i)
  | .str x => some (.inr x)
  | _ => none
def unT : D → Option (List Key)
  | .tup ds => allO unK ds
  | _ => none
/-- a tracked tuple's keys -/
def unR : D → Option (List Key)
  | .ttp ds => allO unK ds
  | _ => none
def kkO (ks : List D) : Option (List Key) := allO unK ks
def ktO : List D → Option (List (List Key))
  | .non :: r => allO unT r
  | _ => none
abbrev tupD (k : List Key) : D := .tup (k.map keyD)
theorem unK_key (k : Key) : unK (keyD k) = some k := by cases k <;> rfl
theorem unT_key (k : List Key) : unT (tupD k) = some k := allO_map unK_key k
theorem kkO_map (kk : List Key) : kkO (kk.map keyD) = some kk := allO_map unK_key kk
theorem ktO_map (kk : List (List Key)) : ktO (.non :: kk.map tupD) = some kk := allO_map (g := tupD) unT_key kk
theorem kkO_non (ks : List D) : kkO (.non :: ks) = none := rfl
theorem ktO_map' (kk : List Key) : ktO (kk.map keyD) = none := by
  cases kk with
  | nil => rfl
  | cons k r => cases k <;> rfl
theorem unK_inv {d : D} {k : Key} (h : unK d = some k) : d = keyD k := by
  cases d with
  | int i => cases h; rfl
  | str i => cases h; rfl
  | _ => cases h
theorem allK_inv : ∀ {ds : List D} {k : List Key}, allO unK ds = some k → ds = k.map keyD
  | [], k, h => by cases h; rfl
  | d :: r, k, h => by
    rw [allO_cons] at h
    cases hx : unK d with
    | none => rw [hx] at h; cases h
    | some x =>
      rw [hx, Option.bind_some] at h
      cases hr : allO unK r with
      | none => rw [hr] at h; cases h
      | some rs => rw [hr] at h; cases h; rw [List.map_cons, unK_inv hx, allK_inv hr]
theorem unT_inv {d : D} {k : List Key} (h : unT d = some k) : d = tupD k := by
  cases d with
  | tup ds => exact congrArg D.tup (allK_inv h)
  | _ => cases h
theorem unR_inv {d : D} {k : List Key} (h : unR d = some k) : d = .ttp (k.map keyD) := by
  cases d with
  | ttp ds => exact congrArg D.ttp (allK_inv h)
  | _ => cases h
theorem unR_key (k : List Key) : unR (.ttp (k.map keyD)) = some k := allO_map unK_key k
theorem keyD_at {k : Key} {v : V} (a : At w c H n (keyD k) v) : v = kV k := by
  cases k with
  | inl i => exact a.int
  | inr i => exact a.str
theorem keysD_at : ∀ {k : List Key} {vs : List V}, Ats w c H n (k.map keyD) vs → vs = k.map kV
  | [], vs, a => a.unnil
  | k :: r, vs, a => by
    obtain ⟨v, vr, rfl, a1, a2⟩ := a.uncons
    rw [keyD_at a1, keysD_at a2]; rfl
def dicOf (S : Sto) (d : D) : Option (List D × List D) := match d with
  | .dic ks ds => some (ks, ds)
  | .loc j => match S[j]? with
    | some (.dic ks ds) => some (ks, ds)
    | _ => none
  | _ => none
@[simp] theorem dicOf_dic (S : Sto) (ks ds : List D) : dicOf S (.dic ks ds) = some (ks, ds) := rfl
@[simp] theorem dicOf_loc (S : Sto) (j : Nat) : dicOf S (.loc j) = match S[j]? with
    | some (.dic ks ds) => some (ks, ds)
    | _ => none := rfl
theorem dicOf_at {d : D} {v : V} {ks ds : List D} (r : Rep w c H S) (at_ : At w c H S.length d v) (h : dicOf S d = some (ks, ds)) :
    ∃ p vs, v = .ref p ∧ Ats w c H S.length ds vs ∧ ((∃ kk : List Key, H p = some (.dK (kk.zip vs)) ∧ kk.length = vs.length ∧ ks = kk.map keyD) ∨ (∃ kk : List (List Key), H p = some (.dT (kk.zip vs)) ∧ kk.length = vs.length ∧ ks = .non :: kk.map tupD)) := by
  cases d with
  | dic ks' ds' =>
    cases h
    unfold At at at_
    obtain ⟨p, vs, rfl, f, g, t⟩ := at_
    exact ⟨p, vs, rfl, t, g⟩
  | loc j =>
    rw [dicOf_loc] at h
    cases hj : S[j]? with
    | none => rw [hj] at h; cases h
    | some ob =>
      cases ob with
      | dic ks' ds' =>
        rw [hj] at h
        cases h
        unfold At at at_
        obtain ⟨vs, g, t⟩ := r.get hj
        exact ⟨_, vs, at_.2, t, g⟩
      | _ => rw [hj] at h; cases h
  | _ => cases h
/-- what stands at the key k -/
def getDs {κ : Type} [DecidableEq κ] (kk : List κ) (ds : List D) (k : κ) : Option D := ((kk.zip ds).find? fun p => decide (p.1 = k)).map (·.2)
theorem getDs_at {κ : Type} [DecidableEq κ] {k : κ} : ∀ {kk : List κ} {ds : List D} {vs : List V}, Ats w c H n ds vs →
    (∃ d v, getDs kk ds k = some d ∧ valV (kk.zip vs) k = some v ∧ At w c H n d v) ∨ (getDs kk ds k = none ∧ valV (kk.zip vs) k = none)
  | [], ds, vs, t => .inr ⟨rfl, rfl⟩
  | k' :: r, [], vs, t => by rw [t.unnil]; exact .inr ⟨rfl, rfl⟩
  | k' :: r, d :: ds, vs, t => by
    obtain ⟨v, vr, rfl, a1, a2⟩ := t.uncons
    unfold getDs valV
    rw [List.zip_cons_cons, List.zip_cons_cons, List.find?_cons, List.find?_cons]
    by_cases e : k' = k
    · subst e
      simp only [decide_true, Option.map_some]
      exact .inl ⟨d, v, rfl, rfl, a1⟩
    · simp only [e, decide_false]
      exact getDs_at a2
/-- d[y] as it is looked up: none where it is not a key, or not there -/
def dgetO (p : List D × List D) (y : D) : Option (Option D) := match kkO p.1 with
  | some kk => (unK y).map fun k => getDs kk p.2 k
  | none => match ktO p.1 with
    | some kk => (unT y).map fun k => getDs kk p.2 k
    | none => none
theorem dget_at {x y : D} {v u : V} {p : List D × List D} {r : Option D} (rp : Rep w c H S) (a : At w c H S.length x v) (b : At w c H S.length y u) (h1 : dicOf S x = some p) (h2 : dgetO p y = some r) :
    ∃ q, v = .ref q ∧ ∃ ov, DGetK w.K H q u ov ∧ ((∃ d z, r = some d ∧ ov = some z ∧ At w c H S.length d z) ∨ (r = none ∧ ov = none)) := by
  obtain ⟨q, vs, rfl, t, g⟩ := dicOf_at (ks := p.1) (ds := p.2) rp a h1
  refine ⟨q, rfl, ?_⟩
  unfold dgetO at h2
  rcases g with ⟨kk, hq, hl, hk⟩ | ⟨kk, hq, hl, hk⟩
  · rw [hk, kkO_map] at h2
    obtain ⟨k, hy, rfl⟩ := Option.map_eq_some_iff.mp h2
    have ey := unK_inv hy
    subst ey
    refine ⟨valV (kk.zip vs) k, .inl ⟨_, k, .inl hq, keyD_at b, rfl⟩, ?_⟩
    rcases getDs_at (k := k) (kk := kk) t with ⟨d, z, h1, h2, h3⟩ | ⟨h1, h2⟩
    · exact .inl ⟨d, z, h1, h2, h3⟩
    · exact .inr ⟨h1, h2⟩
  · rw [hk, kkO_non] at h2
    dsimp only at h2
    rw [ktO_map] at h2
    obtain ⟨k, hy, rfl⟩ := Option.map_eq_some_iff.mp h2
    have ey := unT_inv hy
    subst ey
    obtain ⟨p2, us, rfl, sq, tk⟩ := b.tup
    rw [keysD_at tk] at sq
    refine ⟨valV (kk.zip vs) k, .inr ⟨_, k, p2, .inl hq, rfl, sq, rfl⟩, ?_⟩
    rcases getDs_at (k := k) (kk := kk) t with ⟨d, z, h1, h2, h3⟩ | ⟨h1, h2⟩
    · exact .inl ⟨d, z, h1, h2, h3⟩
    · exact .inr ⟨h1, h2⟩
def dgetD (x y : D) (S : Sto) : R D := .ofO (((dicOf S x).bind fun p => dgetO p y).bind id) S
def dinD (neg : Bool) (y x : D) (S : Sto) : R D := .ofO (((dicOf S x).bind fun p => dgetO p y).map fun r => D.bl (neg ^^ r.isSome)) S
theorem c_dget (hu : X.A.units + 1 < cLine) (ha : CE Γ X W a ma) (hb : CE Γ X W b mb) (hs : NoSl b := by exact fun _ _ => rfl) : CE Γ X W (.Subscript a b pos) (e_op dgetD ma mb) := by
  refine PE.weak (pe_dgetK hu ha hb hs) fun σ H Q ⟨c, env, S, r, ev, h⟩ => ?_
  refine ⟨c, env, S, r, ev, (Po.bind h).imp fun v H1 ⟨c1, S1, d1, e1, r1, a1, h1⟩ => ?_⟩
  refine ⟨c1, env, S1, r1, ev.mono e1, (Po.bind h1).imp fun u H2 ⟨c2, S2, d2, e2, r2, a2, h2⟩ => ?_⟩
  obtain ⟨d, hd, h2⟩ := Po.ofO h2
  cases hp : dicOf S2 d1 with
  | none => rw [hp] at hd; cases hd
  | some p =>
    rw [hp, Option.bind_some] at hd
    cases hg : dgetO p d2 with
    | none => rw [hg] at hd; cases hd
    | some rr =>
      rw [hg] at hd
      have hd : rr = some d := hd
      obtain ⟨q, rfl, ov, g, z⟩ := dget_at r2 (a1.mono e2) a2 hp hg
      rcases z with ⟨d', v', e1', e2', a'⟩ | ⟨e1', _⟩
      · rw [hd] at e1'; cases e1'
        rw [e2'] at g
        exact ⟨q, v', rfl, g, fin_ok h2 r2 a'⟩
      · rw [hd] at e1'; cases e1'
theorem g_din : GOp Γ X (dinD false) (rDIn X.K) := by
  intro W σ c H S y x u v Q r b a h
  obtain ⟨rr, hd, h⟩ := Po.ofM h
  cases hp : dicOf S x with
  | none => rw [hp] at hd; cases hd
  | some p =>
    rw [hp, Option.bind_some] at hd
    obtain ⟨q, rfl, ov, g, z⟩ := dget_at (w := ⟨X.K, Γ⟩) r a b hp hd
    refine ⟨q, ov, rfl, g, ?_⟩
    rcases z with ⟨d', v', rfl, rfl, _⟩ | ⟨rfl, rfl⟩
    · exact fin_ok h r (.b _)
    · exact fin_ok h r (.b _)
/-! ## {} -/
def e_dnew (ks : List D) : EM := fun _ S => .ok (.loc S.length) (S ++ [.dic ks []])
@[simp] theorem e_dnew_eq (ks : List D) (env : Env) (S : Sto) : e_dnew ks env S = .ok (.loc S.length) (S ++ [.dic ks []]) := rfl
theorem fin_dnew {ks : List D} {o : HO} {Q : VK} (h : PoE w W σ c H S.length (.ok (.loc S.length) (S ++ [.dic ks []])) Q) (r : Rep w c H S) {p : Addr} (hp : H p = none) (hq : ∀ c n, OAt w c (upd H p o) n p (.dic ks [])) : Q (.ref p) (upd H p o) := by
  have hl : (S ++ [SO.dic ks []]).length = S.length + 1 := by rw [List.length_append]; rfl
  refine h (c.nw S.length p) _ (.ref p) (by rw [hl]; exact Ext.nw hp) (r.nw hp (hq _ _)) ?_
  unfold At
  exact ⟨by rw [hl]; exact Nat.lt_succ_self _, by rw [Cn.nw_at]⟩
theorem c_dnewK : CE Γ X W (.Dict [] [] pos) (e_dnew []) := PE.weak pe_dnewK fun σ H Q ⟨c, env, S, r, ev, h⟩ p hp => fin_dnew h r hp fun c n => ⟨[], .inl ⟨[], upd_same, rfl, rfl⟩, .nil⟩
theorem c_dnewT : CE Γ X W (.Dict [] [] pos) (e_dnew [.non]) := PE.weak pe_dnewT fun σ H Q ⟨c, env, S, r, ev, h⟩ p hp => fin_dnew h r hp fun c n => ⟨[], .inr ⟨[], upd_same, rfl, rfl⟩, .nil⟩
/-! ## d[y] = v -/
def putDs {κ : Type} [DecidableEq κ] (kk : List κ) (ds : List D) (k : κ) (z : D) : List κ × List D :=
  if (kk.any fun x => decide (x = k)) = true then (kk, List.zipWith (fun k' d => if k' = k then z else d) kk ds) else (kk ++ [k], ds ++ [z])
theorem any_zip {κ : Type} (p : κ → Bool) : ∀ {kk : List κ} {vs : List V}, kk.length = vs.length → ((kk.zip vs).any fun kv => p kv.1) = kk.any p
  | [], vs, h => rfl
  | k :: r, [], h => by simp at h
  | k :: r, v :: vs, h => by rw [List.zip_cons_cons, List.any_cons, List.any_cons, any_zip p (by simpa using h)]
theorem map_zip {κ : Type} [DecidableEq κ] (k : κ) (z : V) : ∀ {kk : List κ} {vs : List V}, kk.length = vs.length → ((kk.zip vs).map fun kv => if kv.1 = k then (kv.1, z) else kv) = kk.zip (List.zipWith (fun k' d => if k' = k then z else d) kk vs)
  | [], vs, h => rfl
  | k' :: r, [], h => by simp at h
  | k' :: r, v :: vs, h => by
    rw [List.zip_cons_cons, List.map_cons, map_zip k z (by simpa using h), List.zipWith_cons_cons, List.zip_cons_cons]
    by_cases e : k' = k
    · simp [e]
    · simp [e]
theorem zip_snoc {κ : Type} (k : κ) (z : V) : ∀ {kk : List κ} {vs : List V}, kk.length = vs.length → kk.zip vs ++ [(k, z)] = (kk ++ [k]).zip (vs ++ [z])
  | [], [], h => rfl
  | [], v :: vs, h => by simp at h
  | k :: r, [], h => by simp at h
  | k :: r, v :: vs, h => by
    rw [List.zip_cons_cons, List.cons_append, zip_snoc _ z (by simpa using h)]; rfl
theorem ats_zipW {κ : Type} [DecidableEq κ] {k : κ} {z : D} {u : V} (az : At w c H n z u) : ∀ {kk : List κ} {ds : List D} {vs : List V}, Ats w c H n ds vs → Ats w c H n (List.zipWith (fun k' d => if k' = k then z else d) kk ds) (List.zipWith (fun k' d => if k' = k then u else d) kk vs)
  | [], ds, vs, t => .nil
  | k' :: r, [], vs, t => by rw [t.unnil]; exact .nil
  | k' :: r, d :: ds, vs, t => by
    obtain ⟨v, vr, rfl, a1, a2⟩ := t.uncons
    rw [List.zipWith_cons_cons, List.zipWith_cons_cons]
    refine .cons ?_ (ats_zipW az a2)
    by_cases e : k' = k
    · rw [if_pos e, if_pos e]; exact az
    · rw [if_neg e, if_neg e]; exact a1
/-- the store's dict behind it -/
theorem put_zip {κ : Type} [DecidableEq κ] {k : κ} {z : D} {u : V} {kk : List κ} {ds : List D} {vs : List V} (az : At w c H n z u) (t : Ats w c H n ds vs) (hl : kk.length = vs.length) :
    ∃ us, putK (kk.zip vs) k u = (putDs kk ds k z).1.zip us ∧ (putDs kk ds k z).1.length = us.length ∧ Ats w c H n (putDs kk ds k z).2 us := by
  unfold putK putDs
  rw [any_zip (fun x => decide (x = k)) hl]
  by_cases e : (kk.any fun x => decide (x = k)) = true
  · rw [if_pos e, if_pos e]
    exact ⟨_, map_zip k u hl, by rw [List.length_zipWith, hl]; simp, ats_zipW az t⟩
  · rw [if_neg e, if_neg e]
    exact ⟨vs ++ [u], zip_snoc k u hl, by simp [hl], t.app (.one az)⟩
def dputO (ks ds : List D) (y z : D) : Option (List D × List D) := match kkO ks with
  | some kk => (unK y).bind fun k => if kk.length < sizeLine then some ((putDs kk ds k z).1.map keyD, (putDs kk ds k z).2) else none
  | none => match ktO ks with
    | some kk => (unR y).bind fun k => if kk.length < sizeLine then some (.non :: (putDs kk ds k z).1.map tupD, (putDs kk ds k z).2) else none
    | none => none
def dput (S : Sto) (x y z : D) : Option Sto := match x with
  | .loc j => match S[j]? with
    | some (.dic ks ds) => (dputO ks ds y z).map fun p => S.set j (.dic p.1 p.2)
    | _ => none
  | _ => none
@[simp] theorem dput_loc (S : Sto) (j : Nat) (y z : D) : dput S (.loc j) y z = match S[j]? with
    | some (.dic ks ds) => (dputO ks ds y z).map fun p => S.set j (.dic p.1 p.2)
    | _ => none := rfl
def s_dput (mv mo mi : EM) : SM := fun env S => (mv env S).toS env fun z S1 => (mo env S1).toS env fun x S2 => (mi env S2).toS env fun y S3 => match dput S3 x y z with
  | some S4 => .next env S4
  | none => .bad
@[simp] theorem s_dput_eq (mv mo mi : EM) (env : Env) (S : Sto) : s_dput mv mo mi env S = (mv env S).toS env fun z S1 => (mo env S1).toS env fun x S2 => (mi env S2).toS env fun y S3 => match dput S3 x y z with
  | some S4 => .next env S4
  | none => .bad := rfl
theorem dput_at {S' : Sto} {x y z : D} {v u t : V} (r : Rep w c H S) (ax : At w c H S.length x v) (ay : At w c H S.length y u) (az : At w c H S.length z t) (h : dput S x y z = some S') :
    ∃ p H', v = .ref p ∧ DPut H p u t H' ∧ S'.length = S.length ∧ Ext c H S.length c H' S.length ∧ Rep w c H' S' := by
  cases x with
  | loc j =>
    rw [dput_loc] at h
    cases hj : S[j]? with
    | none => rw [hj] at h; cases h
    | some ob =>
      cases ob with
      | dic ks ds =>
        rw [hj] at h
        obtain ⟨p, hp, rfl⟩ := Option.map_eq_some_iff.mp h
        unfold At at ax
        obtain ⟨vs, g, ta⟩ := r.get hj
        unfold dputO at hp
        rcases g with ⟨kk, hq, hl, hk⟩ | ⟨kk, hq, hl, hk⟩
        · rw [hk, kkO_map] at hp
          dsimp only at hp
          cases hy : unK y with
          | none => rw [hy] at hp; cases hp
          | some k =>
            rw [hy, Option.bind_some] at hp
            by_cases hz : kk.length < sizeLine
            · rw [if_pos hz] at hp; cases hp
              have ey := unK_inv hy
              subst ey
              obtain ⟨us, e1, e2, e3⟩ := put_zip (k := k) (kk := kk) az ta hl
              have ex := Ext.wr r (o := .dK (putK (kk.zip vs) k t)) ax.1
              refine ⟨c.ρ j, _, ax.2, .inl ⟨_, k, hq, keyD_at ay, by rw [List.length_zip]; omega, rfl⟩, List.length_set, ex, Rep.wr r ax.1 ⟨us, .inl ⟨_, by rw [upd_same, e1], e2, rfl⟩, e3.mono ex⟩⟩
            · rw [if_neg hz] at hp; cases hp
        · rw [hk, kkO_non] at hp
          dsimp only at hp
          rw [ktO_map] at hp
          dsimp only at hp
          cases hy : unR y with
          | none => rw [hy] at hp; cases hp
          | some k =>
            rw [hy, Option.bind_some] at hp
            by_cases hz : kk.length < sizeLine
            · rw [if_pos hz] at hp; cases hp
              have ey := unR_inv hy
              subst ey
              obtain ⟨us, e1, e2, e3⟩ := put_zip (k := k) (kk := kk) az ta hl
              have ex := Ext.wr r (o := .dT (putK (kk.zip vs) k t)) ax.1
              unfold At at ay
              obtain ⟨b, xs, rfl, hb, tk⟩ := ay
              rw [keysD_at tk] at hb
              refine ⟨c.ρ j, _, ax.2, .inr ⟨_, k, b, hq, rfl, hb, by rw [List.length_zip]; omega, rfl⟩, List.length_set, ex, Rep.wr r ax.1 ⟨us, .inr ⟨_, by rw [upd_same, e1], e2, rfl⟩, e3.mono ex⟩⟩
            · rw [if_neg hz] at hp; cases hp
      | _ => rw [hj] at h; cases h
  | _ => cases h
theorem c_dput {o i : Expr} {mo mi : EM} {p0 : Pos} (hu : X.A.units + 1 < cLine) (he : CE Γ X W e ma) (ho : CE Γ X W o mo) (hi : CE Γ X W i mi) (hs : swapsWith e (some (.Subscript o i p0)) pos.line X.env = pure false := by rfl) : CS Γ X W (.Assign [.Subscript o i p0] e pos) (s_dput ma mo mi) := by
  refine PS.weak (ps_dput hu ho hi he hs) fun Dn σ H ⟨c, env, S, r, ev, h⟩ => ?_
  refine ⟨c, env, S, r, ev, (PoS.part ev h).imp fun v H1 ⟨c1, S1, d1, e1, r1, a1, ev1, h1⟩ => ?_⟩
  refine ⟨c1, env, S1, r1, ev1, (PoS.part ev1 h1).imp fun v2 H2 ⟨c2, S2, d2, e2, r2, a2, ev2, h2⟩ => ?_⟩
  refine ⟨c2, env, S2, r2, ev2, (PoS.part ev2 h2).imp fun v3 H3 ⟨c3, S3, d3, e3, r3, a3, ev3, h3⟩ => ?_⟩
  cases hs : dput S3 d2 d3 d1 with
  | none => simp only [hs] at h3; exact h3.elim
  | some S4 =>
    simp only [hs] at h3
    obtain ⟨p, H', rfl, g, hl, ex, rr⟩ := dput_at r3 (a2.mono e3) a3 ((a1.mono e2).mono e3) hs
    exact ⟨p, H', rfl, g, h3 c3 H' σ (by rw [hl]; exact ex) rr (by rw [hl]; exact ev3.mono ex)⟩
/-! ## tracked tuples -/
def e_ttp (m : AM) : EM := fun env S => (m env S).bind fun ds S1 => .if (ds.length ≤ 1000) (.ok (.ttp ds) S1)
@[simp] theorem e_ttp_eq (m : AM) (env : Env) (S : Sto) : e_ttp m env S = (m env S).bind fun ds S1 => .if (ds.length ≤ 1000) (.ok (.ttp ds) S1) := rfl
theorem fin_ttp {ds : List D} {vs : List V} {Q : VK} (h : PoE w W σ c H S.length (.ok (.ttp ds) S) Q) (r : Rep w c H S) (a : Ats w c H S.length ds vs) {p : Addr} (hp : H p = none) : Q (.ref p) (upd H p (.tup vs)) := by
  refine h c _ (.ref p) (Ext.grow hp) (r.grow hp) ?_
  unfold At
  exact ⟨p, vs, rfl, upd_same, a.mono (Ext.grow hp)⟩
theorem c_ttp {k : Nat} (ha : CA Γ X W es am) : CE Γ X W (.Tuple es k pos) (e_ttp am) := by
  refine PE.weak (pe_tup ha) fun σ H Q ⟨c, env, S, r, ev, h⟩ => ?_
  refine ⟨c, env, S, r, ev, (Po.bind h).imp fun vs H1 ⟨c1, S1, ds, e1, r1, a1, h1⟩ => ?_⟩
  obtain ⟨hl, h1⟩ := Po.if h1
  exact ⟨by rw [a1.len]; exact Nat.le_trans hl (by decide), fun p hp => fin_ttp h1 r1 a1 hp⟩
def addT (x y : D) (S : Sto) : R D := match x, y with
  | .ttp a, .ttp b => .if (a.length + b.length ≤ sizeLine) (.ok (.ttp (a ++ b)) S)
  | _, _ => .bad
@[simp] theorem addT_eq (i j : List D) (S : Sto) : addT (.ttp i) (.ttp j) S = .if (i.length + j.length ≤ sizeLine) (.ok (.ttp (i ++ j)) S) := rfl
theorem g_addT : GOp Γ X addT (rAdd4 X.K) := by
  intro W σ c H S x y v u Q r a b h
  cases x with
  | ttp i =>
    cases y with
    | ttp j =>
      obtain ⟨hl, h⟩ := Po.if h
      have a' := a
      have b' := b
      unfold At at a b
      obtain ⟨p, vs, rfl, g, t⟩ := a
      obtain ⟨q, us, rfl, g', t'⟩ := b
      refine .inl (.inr ⟨p, q, vs, us, rfl, rfl, SqT.of g, SqT.of g', by rw [t.len, t'.len]; exact hl, fun e => ?_, fun _ e => ?_, fun _ _ z hz => fin_ttp h r (t.app t') hz⟩)
      · have : i = [] := by
          have := t.len; rw [e] at this; exact List.length_eq_zero_iff.mp this.symm
        subst this
        exact fin_ok h r b'
      · have : j = [] := by
          have := t'.len; rw [e] at this; exact List.length_eq_zero_iff.mp this.symm
        subst this
        exact fin_ok h r (by rw [List.append_nil]; exact a')
    | _ => exact h.elim
  | _ => exact h.elim
/-- a tracked tuple as any other -/
def looseD (d : D) : D := match d with
  | .ttp ds => .tup ds
  | d => d
/-! ## len(d), list(d) -/
def rLen2 : List V → Hp → VK → Prop := fun xs H Q => (∃ a kvs, xs = [.ref a] ∧ H a = some (.dK kvs) ∧ Q (.int kvs.length) H) ∨ rLenT xs H Q
theorem call_lenD2 : CallR X (.builtin "len") rLen2 := by
  intro pins s σ H xs us Q I rx h
  rcases h with h | h
  · exact call_lenD pins s σ H xs us Q I rx h
  · exact call_len_dT pins s σ H xs us Q I rx h
def dlenD (x : D) (S : Sto) : R D := .ofO ((dicOf S x).map fun p => D.int p.2.length) S
theorem g_dlen : GCall Γ X (f1 dlenD) rLen2 := by
  refine .one fun W σ c H S x v Q r a h => ?_
  obtain ⟨p, hp, h⟩ := Po.ofM h
  obtain ⟨q, vs, rfl, t, g⟩ := dicOf_at (ks := p.1) (ds := p.2) r a hp
  have q1 := fin_ok h r (.i _)
  rcases g with ⟨kk, hq, hl, hk⟩ | ⟨kk, hq, hl, hk⟩
  · exact .inl ⟨q, _, rfl, hq, by rw [List.length_zip, hl, Nat.min_self, t.len]; exact q1⟩
  · exact .inr ⟨q, _, rfl, hq, by rw [List.length_zip, hl, Nat.min_self, t.len]; exact q1⟩
def rListD2 : List V → Hp → VK → Prop := fun xs H Q => rListD xs H Q ∨ ∃ d kvs, xs = [.ref d] ∧ Rd H d (.dT kvs) ∧ ∀ (p : Addr) (bs : List Addr), H p = none → IsKeys H kvs bs → Q (.ref p) (upd H p (.lst (bs.map V.ref)))
theorem call_listD2 (hc : X.calm = true) : CallR X (.type "list") rListD2 := by
  intro pins s σ H xs us Q I rx h
  rcases h with h | h
  · exact call_list_dK hc pins s σ H xs us Q I rx h
  · exact call_list_dT hc pins s σ H xs us Q I rx h
def keysO (ks : List D) : Option (List D) := match kkO ks with
  | some kk => some (kk.map keyD)
  | none => (ktO ks).map fun kk => kk.map tupD
def dlistD (x : D) (S : Sto) : R D := .ofO (((dicOf S x).bind fun p => keysO p.1).map D.lst) S
theorem ats_keys : ∀ kk : List Key, Ats w c H n (kk.map keyD) (kk.map kV)
  | [] => .nil
  | .inl i :: r => .cons (.i _) (ats_keys r)
  | .inr i :: r => .cons (.s _) (ats_keys r)
theorem ats_tkeys : ∀ {kk : List (List Key)} {vs : List V} {bs : List Addr}, kk.length = vs.length → IsKeys H (kk.zip vs) bs → Ats w c H n (kk.map tupD) (bs.map V.ref)
  | [], vs, bs, h, k => by cases k; exact .nil
  | k :: r, [], bs, h, q => by simp at h
  | k :: r, v :: vs, bs, h, q => by
    rw [List.zip_cons_cons] at q
    cases q with
    | cons a b =>
      refine .cons ?_ (ats_tkeys (by simpa using h) b)
      unfold At
      exact ⟨_, _, rfl, SqT.of a, ats_keys _⟩
theorem zip_fst {α β : Type} : ∀ {xs : List α} {ys : List β}, xs.length = ys.length → (xs.zip ys).map (·.1) = xs
  | [], ys, h => rfl
  | x :: r, [], h => by simp at h
  | x :: r, y :: s, h => by rw [List.zip_cons_cons, List.map_cons, zip_fst (by simpa using h)]
theorem g_dlist : GCall Γ X (f1 dlistD) rListD2 := by
  refine .one fun W σ c H S x v Q r a h => ?_
  obtain ⟨ds, hd, h⟩ := Po.ofM h
  cases hp : dicOf S x with
  | none => rw [hp] at hd; cases hd
  | some p =>
    rw [hp, Option.bind_some] at hd
    obtain ⟨q, vs, rfl, t, g⟩ := dicOf_at (ks := p.1) (ds := p.2) r a hp
    unfold keysO at hd
    rcases g with ⟨kk, hq, hl, hk⟩ | ⟨kk, hq, hl, hk⟩
    · rw [hk, kkO_map] at hd
      cases hd
      refine .inl ⟨q, _, rfl, hq, fun z hz => ?_⟩
      rw [show (kk.zip vs).map (fun kv => kV kv.1) = kk.map kV from by rw [show (kk.zip vs).map (fun kv => kV kv.1) = ((kk.zip vs).map (·.1)).map kV from by rw [List.map_map]; rfl, zip_fst hl]]
      exact fin_lst h r (ats_keys kk) hz
    · rw [hk, kkO_non] at hd
      dsimp only at hd
      rw [ktO_map] at hd
      cases hd
      exact .inr ⟨q, _, rfl, .inl hq, fun z bs hz hb => fin_lst h r (ats_tkeys hl hb) hz⟩
end
end Mm
set_option maxRecDepth 100000
/-! A dict comprehension of two clauses; comprehensions of two clauses over plain data. -/
namespace L2
open PySem PySem.Spec PyProof.Rows
section
variable {kx vx t0 i0 t1 i1 : Expr} {f0 f1 : List Expr} {sc : Scope} {pos : Pos}
abbrev dcE (kx vx t0 i0 t1 i1 : Expr) (f0 f1 : List Expr) (sc : Scope) (pos : Pos) : Expr := .DictComp kx vx [⟨t0, i0, f0, 0⟩, ⟨t1, i1, f1, 0⟩] sc pos
abbrev tests (fs : List Expr) (env : Env) : Sem Bool := forIn fs true fun c r => if r = true then do let ok ← isTrue c env (eval c env); pure (ForInStep.yield ok) else pure (ForInStep.yield r)
/-- one turn of the first clause, of the second -/
theorem turn_out (it : Value) (D : Addr) (env : Env) : compTurn (dcE kx vx t0 i0 t1 i1 f0 f1 sc pos) 0 it (.ref D) env = (standAt i0.pos >>= fun _ => pyNext it >>= fun o => match o with
    | none => pure (.done .next)
    | some v => letOwnedTupleGo t0 it v >>= fun _ => assign t0 env v >>= fun _ => tests f0 env >>= fun ok => if ok = true then (eval i1 env >>= fun x => standAt i1.pos >>= fun _ => foldedSetIterable i1 env x >>= fun x => holding [x] (pyIter x) >>= fun j =>
        runOwn (.compStart (dcE kx vx t0 i0 t1 i1 f0 f1 sc pos) 1 j (.ref D) env) env >>= fun _ => again (.compLoop (dcE kx vx t0 i0 t1 i1 f0 f1 sc pos) 0 it (.ref D) env)) else again (.compLoop (dcE kx vx t0 i0 t1 i1 f0 f1 sc pos) 0 it (.ref D) env)) := by rfl
theorem turn_in (it : Value) (D : Addr) (env : Env) : compTurn (dcE kx vx t0 i0 t1 i1 f0 f1 sc pos) 1 it (.ref D) env = (standAt i1.pos >>= fun _ => pyNext it >>= fun o => match o with
    | none => pure (.done .next)
    | some v => letOwnedTupleGo t1 it v >>= fun _ => assign t1 env v >>= fun _ => tests f1 env >>= fun ok => if ok = true then ((eval kx env >>= fun kv => holding [kv] (eval vx env) >>= fun vv => standAt { kx.pos with endLine := vx.pos.endLine, endCol := vx.pos.endCol } >>= fun _ => holding [kv, vv] (dictSet D kv vv)) >>= fun _ => again (.compLoop (dcE kx vx t0 i0 t1 i1 f0 f1 sc pos) 1 it (.ref D) env)) else again (.compLoop (dcE kx vx t0 i0 t1 i1 f0 f1 sc pos) 1 it (.ref D) env)) := by rfl
variable {prog : Program} {w : World} {A : Around} {R : Result → Shared → Prop} {s : Shared} {it : Value} {D : Addr} {env : Env}
abbrev er (prog : Program) (w : World) (A : Around) (env : Env) (R : Result → Shared → Prop) : Value → Shared → Prop := notedBy (model prog w) A env fun e s' => R (.error e) s'
/-- the first clause's loop -/
theorem dcl_out (hs : ∀ x, foldedSetIterable i1 env x = pure x) (I : Nat → Shared → Prop)
    (turn : ∀ n s, I n s → wpAny (model prog w) A (pyNext it) (fun r s1 => match r with
      | none => R (.ok .next) s1
      | some v => wpAny (model prog w) A (letOwnedTupleGo t0 it v) (fun _ s2 => wpAny (model prog w) A (assign t0 env v) (fun _ s3 => wpAny (model prog w) A (tests f0 env) (fun ok s4 =>
          if ok = true then wpAny (model prog w) A (eval i1 env) (fun x s5 => wpAny (model prog w) A (pyIter x) (fun j s6 =>
            codeAny (model prog w) A (.compStart (dcE kx vx t0 i0 t1 i1 f0 f1 sc pos) 1 j (.ref D) env) (fun r s' => match r with
              | .ok _ => ∃ m, m < n ∧ I m s'
              | .error _ => False) s6) (er prog w A env R) s5) (er prog w A env R) s4
          else ∃ m, m < n ∧ I m s4) (er prog w A env R) s3) (er prog w A env R) s2) (er prog w A env R) s1) (er prog w A env R) s)
    (n : Nat) (h : I n s) : codeAny (model prog w) A (.compLoop (dcE kx vx t0 i0 t1 i1 f0 f1 sc pos) 0 it (.ref D) env) R s := by
  refine codeAny_loop rfl I (fun n s hI => ?_) n h
  show wpAny _ A ((compTurn (dcE kx vx t0 i0 t1 i1 f0 f1 sc pos) 0 it (.ref D) env).onRaise (fun x => do noteFrame x env; theTreesLotGoes x)) _ _ s
  refine wpAny_noted ?_
  rw [turn_out]
  refine wpAny_bind (wpAny_standAt (wpAny_bind (wpAny_mono (turn n s hI) (fun r s1 h1 => ?_) fun _ _ z => z)))
  cases r with
  | none => exact wpAny_pure h1
  | some v =>
    refine wpAny_bind (wpAny_mono h1 (fun _ s2 h2 => wpAny_bind (wpAny_mono h2 (fun _ s3 h3 => wpAny_bind (wpAny_mono h3 (fun ok s4 h4 => ?_) fun _ _ z => z)) fun _ _ z => z)) fun _ _ z => z)
    cases ok with
    | false => exact wpAny_pure ⟨rfl, h4⟩
    | true =>
      refine wpAny_bind (wpAny_mono h4 (fun x s5 h5 => wpAny_bind (wpAny_standAt (wpAny_bind (wpAny_of_eq (hs x) (wpAny_bind (wpAny_holding (wpAny_mono h5 (fun j s6 h6 => ?_) fun _ _ z => z))))))) fun _ _ z => z)
      refine wpAny_bind (wpAny_runOwn ?_)
      rw [Around.mark_none]
      refine codeAny_mono h6 fun r s' hr => ?_
      cases r with
      | ok f => exact wpAny_pure ⟨rfl, hr⟩
      | error e => exact hr.elim
/-- the second's -/
theorem dcl_in (I : Nat → Shared → Prop)
    (turn : ∀ n s, I n s → wpAny (model prog w) A (pyNext it) (fun r s1 => match r with
      | none => R (.ok .next) s1
      | some v => wpAny (model prog w) A (letOwnedTupleGo t1 it v) (fun _ s2 => wpAny (model prog w) A (assign t1 env v) (fun _ s3 => wpAny (model prog w) A (tests f1 env) (fun ok s4 =>
          if ok = true then wpAny (model prog w) A (eval kx env) (fun kv s5 => wpAny (model prog w) A (eval vx env) (fun vv s6 => wpAny (model prog w) A (dictSet D kv vv) (fun _ s7 => ∃ m, m < n ∧ I m s7) (er prog w A env R) s6) (er prog w A env R) s5) (er prog w A env R) s4
          else ∃ m, m < n ∧ I m s4) (er prog w A env R) s3) (er prog w A env R) s2) (er prog w A env R) s1) (er prog w A env R) s)
    (n : Nat) (h : I n s) : codeAny (model prog w) A (.compLoop (dcE kx vx t0 i0 t1 i1 f0 f1 sc pos) 1 it (.ref D) env) R s := by
  refine codeAny_loop rfl I (fun n s hI => ?_) n h
  show wpAny _ A ((compTurn (dcE kx vx t0 i0 t1 i1 f0 f1 sc pos) 1 it (.ref D) env).onRaise (fun x => do noteFrame x env; theTreesLotGoes x)) _ _ s
  refine wpAny_noted ?_
  rw [turn_in]
  refine wpAny_bind (wpAny_standAt (wpAny_bind (wpAny_mono (turn n s hI) (fun r s1 h1 => ?_) fun _ _ z => z)))
  cases r with
  | none => exact wpAny_pure h1
  | some v =>
    refine wpAny_bind (wpAny_mono h1 (fun _ s2 h2 => wpAny_bind (wpAny_mono h2 (fun _ s3 h3 => wpAny_bind (wpAny_mono h3 (fun ok s4 h4 => ?_) fun _ _ z => z)) fun _ _ z => z)) fun _ _ z => z)
    cases ok with
    | false => exact wpAny_pure ⟨rfl, h4⟩
    | true => exact wpAny_bind (wpAny_bind (wpAny_mono h4 (fun kv s5 h5 => wpAny_bind (wpAny_holding (wpAny_mono h5 (fun vv s6 h6 => wpAny_bind (wpAny_standAt (wpAny_holding (wpAny_mono h6 (fun _ s7 h7 => wpAny_pure ⟨rfl, h7⟩) fun _ _ z => z)))) fun _ _ z => z))) fun _ _ z => z))
theorem dcl_start {it : Value} (h0 : codeAny (model prog w) A (.compLoop (dcE kx vx t0 i0 t1 i1 f0 f1 sc pos) 1 it (.ref D) env) R s)
    (h : wpAny (model prog w) A (pyIter it) (fun j s' => codeAny (model prog w) A (.compLoop (dcE kx vx t0 i0 t1 i1 f0 f1 sc pos) 1 j (.ref D) env) R s') (er prog w A env R) s) :
    codeAny (model prog w) A (.compStart (dcE kx vx t0 i0 t1 i1 f0 f1 sc pos) 1 it (.ref D) env) R s := by
  refine codeAny_of_tree ?_
  show wpAny _ _ ((compStart (dcE kx vx t0 i0 t1 i1 f0 f1 sc pos) 1 it (.ref D) env).onRaise (fun x => do noteFrame x env; standAt theWindowsPlace)) _ _ s
  refine wpAny_notedAt ?_
  unfold compStart
  show wpAny _ _ (ask >>= _) _ _ s
  refine wpAny_bind (wpAny_askSetting (wpAny_ite ?_))
  split
  · first
      | exact wpAny_bind (wpAny_pure (wpAny_pure (And.intro rfl h0)))
      | exact wpAny_pure (And.intro rfl h0)
  · first
      | exact wpAny_bind (wpAny_rule (wpAny_bind (wpAny_standAt (wpAny_bind (wpAny_mono h (fun j s' q => wpAny_pure (And.intro rfl q)) fun _ _ z => z)))))
      | (refine wpAny_bind (wpAny_rule ?_); show wpAny _ _ (standAt i1.pos >>= _) _ _ s; exact wpAny_bind (wpAny_standAt (wpAny_bind (wpAny_mono h (fun j s' q => wpAny_pure (And.intro rfl q)) fun _ _ z => z))))
end
end L2
namespace L2
open PySem PySem.Spec PyProof.Rows
/-- two clauses; st: what a turn of the second does to the new object at D, o0: what is new. vs: the block's names, vs1: the second target's -/
def tC2 (o0 : HO) (wi : TI) (g : TG) (tt : TT) (wi1 : TI) (g1 : TG) (tt1 : TT) (st : Addr → St → Hp → (Hp → Prop) → Prop) (vs vs1 : List Nat) : TE := fun σ H Q => wi σ H fun J H1 => ∀ D, H1 D = none → ∃ W : Nat → Nat → Hp → Prop, (∃ m, W 0 m (upd H1 D o0)) ∧ ∀ i m H, W i m H →
  (J.stop i H ∧ Q (.ref D) H) ∨ (J.go i H ∧ ∃ Nx : Hp → Prop, (∀ H', Nx H' → ∃ m', m' < m ∧ W (i + 1) m' H') ∧ ∀ x H', J.yld i H x H' → g x (wipe σ vs) H' fun σ2 H2 => wipe σ2 vs = wipe σ vs ∧ tt σ2 H2 fun b H3 =>
    if b = true then wi1 σ2 H3 fun J1 H4 => ∃ W1 : Nat → Nat → Hp → Prop, (∃ m, W1 0 m H4) ∧ ∀ j k H, W1 j k H →
      (J1.stop j H ∧ Nx H) ∨ (J1.go j H ∧ ∃ Nx1 : Hp → Prop, (∀ H', Nx1 H' → ∃ k', k' < k ∧ W1 (j + 1) k' H') ∧ ∀ x H', J1.yld j H x H' → g1 x (wipe σ2 vs1) H' fun σ3 H5 => wipe σ3 vs1 = wipe σ2 vs1 ∧ tt1 σ3 H5 fun b H6 =>
        if b = true then st D σ3 H6 Nx1 else Nx1 H6)
    else Nx H3)
def stL (te : TE) : Addr → St → Hp → (Hp → Prop) → Prop := fun D σ H N => te σ H fun y H7 => ∃ acc, H7 D = some (.lst acc) ∧ acc.length < sizeLine ∧ N (upd H7 D (.lst (acc ++ [y])))
def stD (tk tv : TE) : Addr → St → Hp → (Hp → Prop) → Prop := fun D σ H N => tk σ H fun y H1 => tv σ H1 fun z H2 => ∃ kvs k, y = kV k ∧ H2 D = some (.dK kvs) ∧ kvs.length < sizeLine ∧ N (upd H2 D (.dK (putK kvs k z)))
section
variable {X : Cx} {pins : List (Addr × Obj)} {s : Shared} {σ : St} {H : Hp} {Q : VK} {kx vx tg iter tg1 iter1 : Expr} {ifs ifs1 : List Expr} {scope : Scope} {own : List (Str × Nat)} {vs1 : List Nat} {pos pos' : Pos} {wi wi1 : TI} {g g1 : TG} {tt tt1 : TT} {tk tv : TE}
/-- all blocks of the comprehension -/
abbrev Blk (X : Cx) (scope : Scope) (P : Cx → Prop) : Prop := ∀ (s : Shared) (H : Hp) (C : Addr) (cl : List (Str × Addr)) (fp : List Addr), P (X.blk s H scope (compEnvC scope cl C X.env) fp)
theorem dc2_core {use : Option (Value → Sem Unit)} {Qf : Value → Shared → Prop} (hc : X.calm = true) (hN : X.N.Nodup) (I : Inv X pins σ H s) (hi : PI X tg iter wi) (ok : BlkOk X.N X.env.scope scope own) (hv : ∀ i ∈ vs1, i ∈ own.map (·.2))
    (hg : Blk X scope fun Y => PG Y tg g) (ht : Blk X scope fun Y => PTs Y ifs tt) (hk : Blk X scope fun Y => PE Y kx tk) (he : Blk X scope fun Y => PE Y vx tv) (hi1 : Blk X scope fun Y => PI Y tg1 iter1 wi1) (hg1 : Blk X scope fun Y => PG Y tg1 g1) (ht1 : Blk X scope fun Y => PTs Y ifs1 tt1)
    (hs : ∀ x, foldedSetIterable iter X.env x = pure x) (hs1 : ∀ env x, foldedSetIterable iter1 env x = pure x) (h : tC2 (.dK []) wi g tt wi1 g1 tt1 (stD tk tv) (own.map (·.2)) vs1 σ H Q)
    (fin : ∀ D C s' m H', Inv X pins σ H' s' → Q (.ref D) H' → s'.heap.Ns C m → FpOk X pins H' C → compPost (model X.prog X.w) X.A X.xe use Qf (.ref D) C (.ok .next) s') :
    wpAny (model X.prog X.w) X.A (comprehension (dcE kx vx tg iter tg1 iter1 ifs ifs1 scope pos) scope X.env pos' newDict false (eval iter X.env) use) Qf X.xe s := by
  have free : ∀ y ∈ scope.names, y.2 = .free → ∃ c, X.env.cells.lookup y.1 = some c := fun y hy e => (ok.free y hy e).elim (fun k => I.ok.has _ (.inl k)) fun k => I.ok.has _ (.inr k)
  refine wpAny_comprehension_free (use := use) rfl hs (closure_ok free) ok.kind (fun y hy e => by rw [ok.uniq y hy, e]) (thn (hi.run pins s σ H _ I h) fun xv s1 hx => thn hx fun itv s2 h2 => ?_)
  obtain ⟨it, fp, tn, J, H2, e, I2, T, st2, f2, q⟩ := h2
  subst e
  refine wpAny_newObj_type (newEnv_comp ?_)
  generalize hD : s2.heap.objs.size = D
  have hDn : H2 D = none := I2.hok.fresh (Nat.le_of_eq hD)
  obtain ⟨W, ⟨m0, w0⟩, turn⟩ := q D hDn
  generalize hs3 : ({ s2 with heap := s2.heap.push { cls := .type "dict", data := .dict #[] } } : Shared) = s3
  have h3 : s3.heap = s2.heap.push { cls := .type "dict", data := .dict #[] } := by rw [← hs3]
  have I3 : Inv X pins σ (upd H2 D (.dK [])) s3 := by
    rw [← hs3]
    refine I2.laid (t' := s2.toks) (fun b o e => Heap.get?_push_of_some _ e) (Nat.le_of_eq hD) ?_
    rw [← hD]
    exact dk_empty s2.heap I2.big
  have f3 : ∀ b ∈ fp, FpOk X pins (upd H2 D (.dK [])) b ∧ b < s3.heap.objs.size := fun b hb => by
    have lt : b < s2.heap.objs.size := by
      obtain ⟨o, e, _⟩ := T.obj _ _ st2 b hb
      exact Heap.lt_size e
    exact ⟨⟨by rw [upd_ne (by rw [← hD]; exact Nat.ne_of_lt lt)]; exact (f2 b hb).1, (f2 b hb).2⟩, by rw [h3, Heap.size_push]; exact Nat.lt_succ_of_lt lt⟩
  have I4 := block_start I3 ok hN f3
  generalize hcl : cellsFrom (s3.heap.objs.size + 1) scope.names (cloFrom X.env.cells scope.names []) = cl at I4
  generalize hC : s3.heap.objs.size = C at I4
  have pg := hg s3 (upd H2 D (.dK [])) C cl fp
  have pt := ht s3 (upd H2 D (.dK [])) C cl fp
  have pk := hk s3 (upd H2 D (.dK [])) C cl fp
  have pe := he s3 (upd H2 D (.dK [])) C cl fp
  have pi1 := hi1 s3 (upd H2 D (.dK [])) C cl fp
  have pg1 := hg1 s3 (upd H2 D (.dK [])) C cl fp
  have pt1 := ht1 s3 (upd H2 D (.dK [])) C cl fp
  rw [hC] at hcl
  have goal : codeAny (model X.prog X.w) X.A (.compStart (dcE kx vx tg iter tg1 iter1 ifs ifs1 scope pos) 0 (.ref it) (.ref D) (compEnvC scope cl C X.env)) (compPost (model X.prog X.w) X.A X.xe use Qf (.ref D) C) { s3 with heap := pushCells (s3.heap.push { cls := .type "dict", data := .dict #[] }) scope.names } := by
    have cL : (compEnvC scope cl C X.env).locals = C := rfl
    generalize compEnvC scope cl C X.env = ce at I4 pg pt pk pe pi1 pg1 pt1 cL ⊢
    have n0 : ∀ b ∈ fp, (upd H2 D (.dK [])) b = none := fun b hb => (f3 b hb).1.1
    have st3 : tn 0 s3.heap := T.keep _ _ _ st2 fun b _ o e => by rw [h3]; exact Heap.get?_push_of_some _ e
    generalize upd H2 D (.dK []) = H3 at I3 I4 pg pt pk pe pi1 pg1 pt1 w0 n0 f3
    generalize hs4 : ({ s3 with heap := pushCells (s3.heap.push { cls := .type "dict", data := .dict #[] }) scope.names } : Shared) = s4 at I4 ⊢
    have st4 : tn 0 s4.heap := T.keep _ _ _ st3 fun b _ o e => by rw [← hs4]; exact pushCells_keeps _ _ _ _ (Heap.get?_push_of_some _ e)
    have stat : ∀ {σ' : St} {H' : Hp} {s' : Shared}, Inv (X.blk s3 H3 scope ce fp) [] σ' H' s' → (∀ b ∈ fp, H' b = none) → ∀ b ∈ fp, FpOk (X.blk s3 H3 scope ce fp) [] H' b := fun {σ' H' s'} I' hn b hb =>
      ⟨hn b hb, (I'.ok.exf b hb).1, I'.ok.exfs b hb, .inl hb, fun x c e => (I'.ok.exf b hb).2 x c e, fun p hp => absurd (show p ∈ ([] : List (Addr × Obj)) ++ [] from hp) (by simp)⟩
    have loop : codeAny (model X.prog X.w) X.A (.compLoop (dcE kx vx tg iter tg1 iter1 ifs ifs1 scope pos) 0 (.ref it) (.ref D) ce) (compPost (model X.prog X.w) X.A X.xe use Qf (.ref D) C) s4 := by
      refine dcl_out (hs1 ce) (fun n s' => ∃ i H', Inv (X.blk s3 H3 scope ce fp) [] (wipe σ (own.map (·.2))) H' s' ∧ tn i s'.heap ∧ (∀ b ∈ fp, H' b = none) ∧ W i n H') ?_ m0 ⟨0, H3, I4, st4, n0, w0⟩
      rintro n s5 ⟨i, H5, I5, st5, n5, w5⟩
      rcases turn i n H5 w5 with ⟨stop, qq⟩ | ⟨go, Nx, hNx, step⟩
      · refine thnF (T.done (X.blk s3 H3 scope ce fp) rfl rfl rfl hc i [] s5 _ H5 (fun _ _ => False) I5 (stat I5 n5) st5 stop) fun r s6 ⟨hr, I6⟩ => ?_
        subst hr
        have I7 : Inv X pins σ H5 s6 := I3.call' (ch := fp) I6.os I6.base I6.hok I6.bare fun b hb => ⟨(f3 b hb).1.2.2.2.1, (f3 b hb).1.2.1, (f3 b hb).1.2.2.2.2.1, (f3 b hb).1.2.2.2.2.2⟩
        have nC : H5 C = none := by
          have z : H5 ce.locals = none := I6.free
          rw [cL] at z; exact z
        obtain ⟨m, hn, _⟩ := I6.loc
        have hn : s6.heap.Ns ce.locals m := hn
        rw [cL] at hn
        exact fin D C s6 m H5 I7 qq hn (I3.fpOk (Nat.le_of_eq hC) nC)
      · refine thnF (T.item (X.blk s3 H3 scope ce fp) rfl rfl rfl hc i [] s5 _ H5 (fun _ _ => False) I5 (stat I5 n5) st5 go) fun r s6 ⟨u, hr, h6⟩ => ?_
        subst hr
        refine thnF h6 fun _ s7 ⟨x, H7, I7, r7, y7, st7, n7⟩ => ?_
        refine thnF (pg.run _ s7 _ H7 x u _ (I7.pinned (stat I7 n7) (T.obj _ _ st7)) r7 (step x H7 y7)) fun _ s8 ⟨σ8, H8, I8, hw8, q8⟩ => ?_
        refine thnF (pt.run _ s8 σ8 H8 _ I8 q8) fun b s9 ⟨H9, I9, q9⟩ => ?_
        -- the end of the outer turn
        have fin0 : ∀ {σ9 : St} {s' : Shared} {H' : Hp}, Inv (X.blk s3 H3 scope ce fp) ([] ++ pinsAt fp s7.heap) σ9 H' s' → (wipe σ (own.map (·.2))).length = σ9.length → (∀ (j : Nat) v, (wipe σ (own.map (·.2)))[j]? = some (some v) → σ9[j]? = some (some v)) → Nx H' →
            ∃ m, m < n ∧ ∃ i H', Inv (X.blk s3 H3 scope ce fp) [] (wipe σ (own.map (·.2))) H' s' ∧ tn i s'.heap ∧ (∀ b ∈ fp, H' b = none) ∧ W i m H' := fun {σ9 s' H'} I' hl hk nx => by
          obtain ⟨m', hm, w'⟩ := hNx H' nx
          have pin : ∀ b ∈ fp, ∀ o, s7.heap.get? b = some o → s'.heap.get? b = some o ∧ H' b = none := fun b hb o e =>
            let z := I'.pin (b, o) (List.mem_append_right _ (List.mem_append_right _ (mem_pinsAt hb e)))
            ⟨z.1, z.2.1⟩
          refine ⟨m', hm, i + 1, H', (I'.unpinned (pins := [])).weak hl hk, T.keep _ _ _ st7 fun b hb o e => (pin b hb o e).1, fun b hb => ?_, w'⟩
          obtain ⟨o, e, _⟩ := T.obj _ _ st7 b hb
          exact (pin b hb o e).2
        have l8 : (wipe σ (own.map (·.2))).length = σ8.length := by rw [← hw8, wipe_length]
        cases b with
        | false =>
          simp only [Bool.false_eq_true, if_false] at q9 ⊢
          exact fin0 I9 l8 (fun j v e => by rw [← hw8] at e; exact (wipe_some e).1) q9
        | true =>
          simp only [if_true] at q9 ⊢
          refine thnF (pi1.run _ s9 σ8 H9 _ I9 q9) fun xv s10 hx => thnF hx fun itv s11 h11 => ?_
          obtain ⟨it1, fp1, tn1, J1, H11, e1, I11, T1, st11, f11, W1, ⟨m1, w1⟩, turn1⟩ := h11
          subst e1
          have stat1 : ∀ {H' : Hp}, (∀ b ∈ fp1, H' b = none) → ∀ b ∈ fp1, FpOk (X.blk s3 H3 scope ce fp) ([] ++ pinsAt fp s7.heap) H' b := fun hn b hb => ⟨hn b hb, (f11 b hb).2⟩
          have loop1 : codeAny (model X.prog X.w) X.A (.compLoop (dcE kx vx tg iter tg1 iter1 ifs ifs1 scope pos) 1 (.ref it1) (.ref D) ce)
              (fun r s' => match r with
                | .ok _ => ∃ m, m < n ∧ ∃ i H', Inv (X.blk s3 H3 scope ce fp) [] (wipe σ (own.map (·.2))) H' s' ∧ tn i s'.heap ∧ (∀ b ∈ fp, H' b = none) ∧ W i m H'
                | .error _ => False) s11 := by
            refine dcl_in (fun k s' => ∃ j H', Inv (X.blk s3 H3 scope ce fp) ([] ++ pinsAt fp s7.heap) (wipe σ8 vs1) H' s' ∧ tn1 j s'.heap ∧ (∀ b ∈ fp1, H' b = none) ∧ W1 j k H') ?_ m1 ⟨0, H11, I11.weak (wipe_length _ _) (fun j v e => (wipe_some e).1), st11, fun b hb => (f11 b hb).1, w1⟩
            rintro k s12 ⟨j, H12, I12, st12, n12, w12⟩
            rcases turn1 j k H12 w12 with ⟨stop1, nx1⟩ | ⟨go1, Nx1, hNx1, step1⟩
            · refine thnF (T1.done (X.blk s3 H3 scope ce fp) rfl rfl rfl hc j _ s12 (wipe σ8 vs1) H12 (fun _ _ => False) I12 (stat1 n12) st12 stop1) fun r s13 ⟨hr, I13⟩ => ?_
              subst hr
              refine fin0 I13 (l8.trans (wipe_length σ8 vs1).symm) (fun j v e => ?_) nx1
              rw [← hw8] at e
              obtain ⟨e1, e2⟩ := wipe_some e
              rw [wipe_out fun z => e2 (hv j z)]
              exact e1
            · refine thnF (T1.item (X.blk s3 H3 scope ce fp) rfl rfl rfl hc j _ s12 (wipe σ8 vs1) H12 (fun _ _ => False) I12 (stat1 n12) st12 go1) fun r s13 ⟨u1, hr, h13⟩ => ?_
              subst hr
              refine thnF h13 fun _ s14 ⟨x1, H14, I14, r14, y14, st14, n14⟩ => ?_
              refine thnF (pg1.run _ s14 (wipe σ8 vs1) H14 x1 u1 _ (I14.pinned (stat1 n14) (T1.obj _ _ st14)) r14 (step1 x1 H14 y14)) fun _ s15 ⟨σ15, H15, I15, hw15, q15⟩ => ?_
              refine thnF (pt1.run _ s15 σ15 H15 _ I15 q15) fun b1 s16 ⟨H16, I16, q16⟩ => ?_
              have fin1 : ∀ {s' : Shared} {H' : Hp}, Inv (X.blk s3 H3 scope ce fp) (([] ++ pinsAt fp s7.heap) ++ pinsAt fp1 s14.heap) σ15 H' s' → Nx1 H' → ∃ m, m < k ∧ ∃ j H', Inv (X.blk s3 H3 scope ce fp) ([] ++ pinsAt fp s7.heap) (wipe σ8 vs1) H' s' ∧ tn1 j s'.heap ∧ (∀ b ∈ fp1, H' b = none) ∧ W1 j m H' := fun {s' H'} I' nx => by
                obtain ⟨m', hm, w'⟩ := hNx1 H' nx
                have pin : ∀ b ∈ fp1, ∀ o, s14.heap.get? b = some o → s'.heap.get? b = some o ∧ H' b = none := fun b hb o e =>
                  let z := I'.pin (b, o) (List.mem_append_right _ (List.mem_append_right _ (mem_pinsAt hb e)))
                  ⟨z.1, z.2.1⟩
                refine ⟨m', hm, j + 1, H', I'.unpinned.weak (by rw [← hw15, wipe_length]) (fun j v e => by rw [← hw15] at e; exact (wipe_some e).1), T1.keep _ _ _ st14 fun b hb o e => (pin b hb o e).1, fun b hb => ?_, w'⟩
                obtain ⟨o, e, _⟩ := T1.obj _ _ st14 b hb
                exact (pin b hb o e).2
              cases b1 with
              | false =>
                simp only [Bool.false_eq_true, if_false] at q16 ⊢
                exact fin1 I16 q16
              | true =>
                simp only [if_true] at q16 ⊢
                refine thnF (pk.run _ s16 σ15 H16 _ I16 q16) fun z s17 ⟨yk, H17, I17, r17, q17⟩ => ?_
                refine thnF (pe.run _ s17 σ15 H17 _ I17 q17) fun z2 s18 ⟨yv, H18, I18, r18, kvs, key, ek, hD18, hz18, nx⟩ => ?_
                subst ek
                exact d_dictSet (X := X.blk s3 H3 scope ce fp) I18 hD18 hz18 r17 r18 fun s19 I19 => fin1 I19 nx
          exact dcl_start loop1 (T1.self X.A 0 _ _ _ st11 loop1)
    exact codeAny_compStart_dict loop (T.self X.A 0 _ _ _ st4 loop)
  exact goal
theorem pe_dc2 (hc : X.calm = true) (hN : X.N.Nodup) (hi : PI X tg iter wi) (ok : BlkOk X.N X.env.scope scope own) (hv : ∀ i ∈ vs1, i ∈ own.map (·.2))
    (hg : Blk X scope fun Y => PG Y tg g) (ht : Blk X scope fun Y => PTs Y ifs tt) (hk : Blk X scope fun Y => PE Y kx tk) (he : Blk X scope fun Y => PE Y vx tv) (hi1 : Blk X scope fun Y => PI Y tg1 iter1 wi1) (hg1 : Blk X scope fun Y => PG Y tg1 g1) (ht1 : Blk X scope fun Y => PTs Y ifs1 tt1)
    (hs : ∀ x, foldedSetIterable iter X.env x = pure x := by intro _; rfl) (hs1 : ∀ env x, foldedSetIterable iter1 env x = pure x := by intro _ _; rfl) :
    PE X (dcE kx vx tg iter tg1 iter1 ifs ifs1 scope pos) (tC2 (.dK []) wi g tt wi1 g1 tt1 (stD tk tv) (own.map (·.2)) vs1) := by
  refine ⟨fun pins s σ H Q I h => ?_⟩
  rw [arm_eval_DictComp]
  refine dc2_core hc hN I hi ok hv hg ht hk he hi1 hg1 ht1 hs hs1 h fun D C s' m H' I' q hn f => ⟨m, hn, fun h'' sb => ?_⟩
  obtain ⟨f0, f1, f2, f3, f4, f5⟩ := f
  exact ⟨.ref D, H', I'.turned (t' := s'.toks) (fun b o hb e => (sb.2 b hb).trans e) f0 f1 f3 f4 f5, rfl, q⟩
end
end L2
set_option maxRecDepth 100000
/-! Comprehensions of two clauses over plain data. -/
namespace Mm
open PySem L2
section
variable {w : Wn} {W : WX} {σ : St} {c c' : Cn} {H H' : Hp} {n n' : Nat} {S : Sto} {env : Env}
variable {Γ : Cls'} {X : Cx} {a b e tg : Expr} {es : List Expr} {ma mb : EM} {am : AM} {pos : Pos} {Dn : Ends}
/-- from one heap to the next while the object at D is put together -/
structure Stp (D : Addr) (c : Cn) (H : Hp) (n : Nat) (c' : Cn) (H' : Hp) (n' : Nat) : Prop where
  A : ExtA c H n c' H' n'
  far : ∀ c0 H0 n0, Ext c0 H0 n0 c H n → H0 D = none → Ext c0 H0 n0 c' H' n'
theorem Stp.of {D : Addr} (e : Ext c H n c' H' n') : Stp D c H n c' H' n' := ⟨e.A, fun c0 H0 n0 z _ => z.trans e⟩
theorem ExtA.trans {c c1 c2 : Cn} {H H1 H2 : Hp} {n n1 n2 : Nat} (a : ExtA c H n c1 H1 n1) (b : ExtA c1 H1 n1 c2 H2 n2) : ExtA c H n c2 H2 n2 :=
  ⟨Nat.le_trans a.le b.le, fun k h => (b.rho k (Nat.lt_of_lt_of_le h a.le)).trans (a.rho k h), fun x h => b.fro x (a.fro x h), fun x xs h => b.tup x xs (a.tup x xs h), fun x o u h => b.frz x o u (a.frz x o u h), fun x o f h => b.keepF x o (a.fro x f) (a.keepF x o f h)⟩
theorem Stp.trans {D : Addr} {c c1 c2 : Cn} {H H1 H2 : Hp} {n n1 n2 : Nat} (a : Stp D c H n c1 H1 n1) (b : Stp D c1 H1 n1 c2 H2 n2) : Stp D c H n c2 H2 n2 := ⟨a.A.trans b.A, fun c0 H0 n0 z h => b.far _ _ _ (a.far _ _ _ z h) h⟩
theorem EnvR.monoA (e : ExtA c H n c' H' n') (h : EnvR w c H n σ env) : EnvR w c' H' n' σ env := ⟨h.1, fun i d q => by
  obtain ⟨v, a, b⟩ := h.2 i d q
  exact ⟨v, a, At.monoA e d v b⟩⟩
/-- something that is put together at D -/
structure AccT (α : Type) where
  rel : Wn → Cn → Hp → Nat → α → HO → Prop
  mono : ∀ {w c H n c' H' n' a o}, ExtA c H n c' H' n' → rel w c H n a o → rel w c' H' n' a o
def accL : AccT (List D) := ⟨fun w c H n ds o => ∃ us, o = .lst us ∧ Ats w c H n ds us, fun e ⟨us, h, t⟩ => ⟨us, h, Ats.monoA e _ _ t⟩⟩
def accD : AccT (List Key × List D) := ⟨fun w c H n a o => ∃ us, o = .dK (a.1.zip us) ∧ a.1.length = us.length ∧ Ats w c H n a.2 us, fun e ⟨us, h, l, t⟩ => ⟨us, h, l, Ats.monoA e _ _ t⟩⟩
variable {α : Type} {T : AccT α}
/-- what stands around D -/
structure Arnd (w : Wn) (T : AccT α) (D : Addr) (c : Cn) (H : Hp) (S : Sto) (acc : α) : Prop where
  rep : Rep w c H S
  side : Side c H S.length D
  at_ : ∃ o, H D = some o ∧ T.rel w c H S.length acc o
theorem Arnd.step {D : Addr} {S' : Sto} {acc : α} (a : Arnd w T D c H S acc) (e : Ext c H S.length c' H' S'.length) (r : Rep w c' H' S') : Arnd w T D c' H' S' acc := by
  obtain ⟨o, ho, t⟩ := a.at_
  obtain ⟨s, h⟩ := a.side.step ho e
  exact ⟨r, s, o, h, T.mono e.A t⟩
/-- one thing is added -/
abbrev AddM (α : Type) := α → Env → Sto → R α
def StepOk (w : Wn) (T : AccT α) (add : AddM α) (st : Addr → St → Hp → (Hp → Prop) → Prop) : Prop := ∀ (c : Cn) (H : Hp) (S : Sto) (σ : St) (env : Env) (D : Addr) (acc acc' : α) (S' : Sto), Arnd w T D c H S acc → EnvR w c H S.length σ env → add acc env S = .ok acc' S' →
  ∀ N : Hp → Prop, (∀ c' H', Stp D c H S.length c' H' S'.length → Arnd w T D c' H' S' acc' → N H') → st D σ H N
open Classical in
noncomputable def inM (g : GM) (t : TM) (add : AddM α) (env : Env) (st : Option (Nat × List D)) : List D → α → Sto → R α
  | [], acc, S => .if (Stay S ([], st)) (.ok acc S)
  | d :: r, acc, S => .if (Stay S ([], st)) (match g d env with
    | none => .bad
    | some env1 => (t env1 S).nox.bind fun k S1 => if k = true then (add acc env1 S1).nox.bind fun acc1 S2 => inM g t add env st r acc1 S2 else inM g t add env st r acc S1)
open Classical in
noncomputable def outM (g : GM) (t : TM) (im : IM) (g1 : GM) (t1 : TM) (add : AddM α) (vs1 : List Nat) (env : Env) (st : Option (Nat × List D)) : List D → α → Sto → R α
  | [], acc, S => .if (Stay S ([], st)) (.ok acc S)
  | d :: r, acc, S => .if (Stay S ([], st)) (match g d env with
    | none => .bad
    | some env1 => (t env1 S).nox.bind fun k S1 => if k = true then (im env1 S1).nox.bind fun it S2 => (inM g1 t1 add (wipeE env1 vs1) it.2 it.1 acc S2).nox.bind fun acc1 S3 => outM g t im g1 t1 add vs1 env st r acc1 S3 else outM g t im g1 t1 add vs1 env st r acc S1)
noncomputable def e_c2 (vs vs1 : List Nat) (im : IM) (g : GM) (t : TM) (im1 : IM) (g1 : GM) (t1 : TM) (add : AddM α) (a0 : α) (fin : α → Sto → R D) : EM := fun env S => (im env S).bind fun it S1 => (outM g t im1 g1 t1 add vs1 (wipeE env vs) it.2 it.1 a0 S1).nox.bind fin
@[simp] theorem e_c2_eq (vs vs1 : List Nat) (im : IM) (g : GM) (t : TM) (im1 : IM) (g1 : GM) (t1 : TM) (add : AddM α) (a0 : α) (fin : α → Sto → R D) (env : Env) (S : Sto) : e_c2 vs vs1 im g t im1 g1 t1 add a0 fin env S = (im env S).bind fun it S1 => (outM g t im1 g1 t1 add vs1 (wipeE env vs) it.2 it.1 a0 S1).nox.bind fin := rfl
theorem nox_ok {α : Type} {r : R α} {β : Type} {f : α → Sto → R β} {b : β} {S' : Sto} (h : r.nox.bind f = .ok b S') : ∃ a S1, r = .ok a S1 ∧ f a S1 = .ok b S' := by
  cases r with
  | ok a S1 => exact ⟨a, S1, rfl, h⟩
  | ex x S1 => cases h
  | bad => cases h
theorem bind_ok' {α : Type} {r : R α} {β : Type} {f : α → Sto → R β} {b : β} {S' : Sto} (h : r.bind f = .ok b S') : ∃ a S1, r = .ok a S1 ∧ f a S1 = .ok b S' := by
  cases r with
  | ok a S1 => exact ⟨a, S1, rfl, h⟩
  | ex x S1 => cases h
  | bad => cases h
theorem if_ok' {α : Type} {p : Prop} [Decidable p] {r : R α} {a : α} {S' : Sto} (h : R.if p r = .ok a S') : p ∧ r = .ok a S' := by
  unfold R.if at h
  by_cases hp : p
  · rw [_root_.if_pos hp] at h; exact ⟨hp, h⟩
  · rw [if_neg hp] at h; cases h
/-- a result that is none but ok, read as a promise -/
theorem Po.of_ok {α β : Type} {rel : Cn → Hp → Nat → α → β → Prop} {r : R α} {d : α} {S' : Sto} {Q : β → Hp → Prop} (h : r = .ok d S') (q : ∀ c' H' v, Ext c H n c' H' S'.length → Rep w c' H' S' → rel c' H' S'.length d v → Q v H') : Po w W rel σ c H n r Q := by
  rw [h]; exact q
def FinA (T : AccT α) (fin : α → Sto → R D) : Prop := ∀ (w : Wn) (W : WX) (σ : St) (c : Cn) (H : Hp) (S : Sto) (acc : α) (p : Addr) (Q : VK), Arnd w T p c H S acc →
  ∀ (c0 : Cn) (H0 : Hp) (n0 : Nat), Ext c0 H0 n0 c H S.length → H0 p = none → PoE w W σ c0 H0 n0 (fin acc S) Q → Q (.ref p) H
theorem finA_L {fin : List D → Sto → R D} (h : FinOk fin) : FinA accL fin := by
  intro w W σ c H S acc p Q a c0 H0 n0 e h0 q
  obtain ⟨o, ho, us, rfl, t⟩ := a.at_
  exact h w W σ c H S acc us p Q a.rep t ho a.side.out a.side.nF c0 H0 n0 e h0 q
def finDL (a : List Key × List D) (S : Sto) : R D := .ok (.dic (a.1.map keyD) a.2) S
@[simp] theorem finDL_eq (a : List Key × List D) (S : Sto) : finDL a S = .ok (.dic (a.1.map keyD) a.2) S := rfl
theorem finDL_ok : FinA accD finDL := by
  intro w W σ c H S acc p Q ar c0 H0 n0 e h0 h
  obtain ⟨o, hp, us, rfl, hl, t⟩ := ar.at_
  have eA : ExtA c H S.length (c.fr p) H S.length := ⟨Nat.le_refl _, fun _ _ => rfl, fun _ z => .inl z, fun _ _ z => z, fun _ _ _ z => z, fun _ _ _ z => z⟩
  refine h (c.fr p) H (.ref p) ⟨e.le, e.rho, fun a f => .inl (e.fro a f), e.tup, e.frz, e.keep, e.keepF, e.new, e.there, fun a f => ?_⟩ ⟨fun k o q => (ar.rep.obj k o q).monoA eA fun _ z => z, ar.rep.inj, fun k hk f => ?_, fun a f => ?_⟩ ?_
  · rcases f with f | rfl
    · exact e.nF a f
    · exact .inr h0
  · rcases f with f | f
    · exact ar.rep.live k hk f
    · exact ar.side.out k hk f
  · rcases f with f | rfl
    · exact ar.rep.fro a f
    · exact ⟨_, hp⟩
  · unfold At
    exact ⟨p, us, rfl, .inr rfl, .inl ⟨acc.1, hp, hl, rfl⟩, Ats.monoA eA _ _ t⟩
open Classical in
theorem c2_read {vs vs1 sl sl1 : List Nat} {im im1 : IM} {g g1 : GM} {t t1 : TM} {add : AddM α} {a0 : α} {o0 : HO} {fin : α → Sto → R D} {st : Addr → St → Hp → (Hp → Prop) → Prop} {Q : VK} (hf : FinA T fin) (hst : StepOk w T add st) (h0 : ∀ c H n, T.rel w c H n a0 o0) (hsl : ∀ j ∈ sl, j ∈ vs) (hsl1 : ∀ j ∈ sl1, j ∈ vs1)
    (h : mE w W (e_c2 vs vs1 im g t im1 g1 t1 add a0 fin) σ H Q) : tC2 o0 (mI w W im) (mTg w sl g) (mT w W0 t) (mI w W0 im1) (mTg w sl1 g1) (mT w W0 t1) st vs vs1 σ H Q := by
  obtain ⟨c, env, S, r, ev, h⟩ := h
  refine ⟨c, env, S, r, ev, (Po.bind h).imp fun J H1 ⟨c1, S1, it, e1, r1, wk, h1⟩ D hD => ?_⟩
  have ev1 := (ev.mono e1).wipe vs
  cases ho : outM g t im1 g1 t1 add vs1 (wipeE env vs) it.2 it.1 a0 S1 with
  | ex x SF => rw [ho] at h1; exact h1.elim
  | bad => rw [ho] at h1; exact h1.elim
  | ok accF SF =>
  rw [ho, R.nox_ok, R.bind_ok] at h1
  have ex0 : Ext c1 H1 S1.length c1 (upd H1 D o0) S1.length := Ext.grow hD
  refine ⟨fun i m' H' => ∃ c2 S2 acc, Stp D c1 H1 S1.length c2 H' S2.length ∧ Arnd w T D c2 H' S2 acc ∧ EnvR w c2 H' S2.length (wipe σ vs) (wipeE env vs) ∧ m' = it.1.length - i ∧ i ≤ it.1.length ∧ outM g t im1 g1 t1 add vs1 (wipeE env vs) it.2 (it.1.drop i) acc S2 = .ok accF SF,
    ⟨it.1.length, c1, S1, a0, .of ex0, ⟨r1.grow hD, ⟨fun k hk => r1.ne hD hk, r1.nF hD⟩, o0, upd_same, h0 _ _ _⟩, ev1.mono ex0, by simp, Nat.zero_le _, ho⟩, ?_⟩
  rintro i m' H' ⟨c2, S2, acc, s2, ar, ev2, rfl, hi, h2⟩
  have e2 := s2.far c1 H1 S1.length Ext.refl hD
  by_cases hlt : i < it.1.length
  · right
    have hd : it.1.drop i = it.1[i] :: it.1.drop (i + 1) := List.drop_eq_getElem_cons hlt
    rw [hd] at h2
    unfold outM at h2
    obtain ⟨sy, h2⟩ := if_ok' h2
    obtain ⟨w1, _⟩ := wk c2 H' S2 s2.A ar.rep (Stay.of (ds := it.1) sy) i
    obtain ⟨go, yl⟩ := w1 it.1[i] (List.getElem?_eq_getElem hlt)
    refine ⟨go, fun H3 => ∃ c3 S3 acc, Stp D c1 H1 S1.length c3 H3 S3.length ∧ Arnd w T D c3 H3 S3 acc ∧ EnvR w c3 H3 S3.length (wipe σ vs) (wipeE env vs) ∧ outM g t im1 g1 t1 add vs1 (wipeE env vs) it.2 (it.1.drop (i + 1)) acc S3 = .ok accF SF,
      fun H3 ⟨c3, S3, acc, q1, q2, q3, q4⟩ => ⟨it.1.length - (i + 1), by omega, c3, S3, acc, q1, q2, q3, rfl, hlt, q4⟩, fun x H3 y => ?_⟩
    obtain ⟨ey, ry, ay⟩ := yl x H3 y
    cases hg : g it.1[i] (wipeE env vs) with
    | none => rw [hg] at h2; cases h2
    | some env3 =>
      rw [hg] at h2
      obtain ⟨k, S4, ht, h2⟩ := nox_ok h2
      refine ⟨c2, wipeE env vs, S2, it.1[i], env3, ry, ev2.mono ey, ay, hg, fun σ3 evx bt => ⟨wipe_bt bt hsl, c2, env3, S2, ry, evx, Po.of_ok ht fun c4 H4 b e4 r4 eb => ?_⟩⟩
      cases (show b = k from eb)
      have s4 : Stp D c2 H' S2.length c4 H4 S4.length := .of (ey.trans e4)
      have ar4 := (ar.step ey ry).step e4 r4
      have ev4 := ev2.mono (ey.trans e4)
      cases k with
      | false => exact ⟨c4, S4, acc, s2.trans s4, ar4, ev4, h2⟩
      | true =>
        rw [if_pos rfl]
        rw [if_pos rfl] at h2
        obtain ⟨it1, S5, hi1, h2⟩ := nox_ok h2
        obtain ⟨acc6, S6, h6, h2⟩ := nox_ok h2
        refine ⟨c4, env3, S4, r4, evx.mono e4, Po.of_ok hi1 fun c5 H5 J1 e5 r5 wk1 => ?_⟩
        have s5 := s2.trans (s4.trans (.of e5))
        have ar5 := ar4.step e5 r5
        have ev5 := ev4.mono e5
        have evi := ((evx.mono e4).mono e5).wipe vs1
        refine ⟨fun j k H' => ∃ c6 S' acc, Stp D c5 H5 S5.length c6 H' S'.length ∧ Arnd w T D c6 H' S' acc ∧ k = it1.1.length - j ∧ j ≤ it1.1.length ∧ inM g1 t1 add (wipeE env3 vs1) it1.2 (it1.1.drop j) acc S' = .ok acc6 S6,
          ⟨it1.1.length, c5, S5, acc, .of Ext.refl, ar5, by simp, Nat.zero_le _, h6⟩, ?_⟩
        rintro j k H7 ⟨c7, S7, acc7, s7, ar7, rfl, hj, h7⟩
        by_cases hlt1 : j < it1.1.length
        · right
          have hd1 : it1.1.drop j = it1.1[j] :: it1.1.drop (j + 1) := List.drop_eq_getElem_cons hlt1
          rw [hd1] at h7
          unfold inM at h7
          obtain ⟨sy1, h7⟩ := if_ok' h7
          obtain ⟨w3, _⟩ := wk1 c7 H7 S7 s7.A ar7.rep (Stay.of (ds := it1.1) sy1) j
          obtain ⟨go1, yl1⟩ := w3 it1.1[j] (List.getElem?_eq_getElem hlt1)
          refine ⟨go1, fun H8 => ∃ c8 S8 acc, Stp D c5 H5 S5.length c8 H8 S8.length ∧ Arnd w T D c8 H8 S8 acc ∧ inM g1 t1 add (wipeE env3 vs1) it1.2 (it1.1.drop (j + 1)) acc S8 = .ok acc6 S6,
            fun H8 ⟨c8, S8, acc8, q1, q2, q3⟩ => ⟨it1.1.length - (j + 1), by omega, c8, S8, acc8, q1, q2, rfl, hlt1, q3⟩, fun x1 H8 y1 => ?_⟩
          obtain ⟨ey1, ry1, ay1⟩ := yl1 x1 H8 y1
          cases hg1 : g1 it1.1[j] (wipeE env3 vs1) with
          | none => rw [hg1] at h7; cases h7
          | some env5 =>
            rw [hg1] at h7
            obtain ⟨k1, S9, ht1, h7⟩ := nox_ok h7
            refine ⟨c7, wipeE env3 vs1, S7, it1.1[j], env5, ry1, (evi.monoA s7.A).mono ey1, ay1, hg1, fun σ5 evy bt1 => ⟨wipe_bt bt1 hsl1, c7, env5, S7, ry1, evy, Po.of_ok ht1 fun c9 H9 b1 e9 r9 eb1 => ?_⟩⟩
            cases (show b1 = k1 from eb1)
            have s9 := s7.trans (.of (ey1.trans e9))
            have ar9 := (ar7.step ey1 ry1).step e9 r9
            cases k1 with
            | false => exact ⟨c9, S9, acc7, s9, ar9, h7⟩
            | true =>
              rw [if_pos rfl]
              rw [if_pos rfl] at h7
              obtain ⟨acc10, S10, h10, h7⟩ := nox_ok h7
              exact hst c9 H9 S9 σ5 env5 D acc7 acc10 S10 ar9 (evy.mono e9) h10 _ fun c' H' sx arx => ⟨c', S10, acc10, s9.trans sx, arx, h7⟩
        · left
          have e : j = it1.1.length := by omega
          subst e
          rw [List.drop_length] at h7
          unfold inM at h7
          obtain ⟨sy1, h7⟩ := if_ok' h7
          rw [R.ok.injEq] at h7
          obtain ⟨rfl, rfl⟩ := h7
          obtain ⟨_, w4⟩ := wk1 c7 H7 S7 s7.A ar7.rep (Stay.of (ds := it1.1) sy1) it1.1.length
          exact ⟨w4 rfl, c7, S7, acc7, s5.trans s7, ar7, ev5.monoA s7.A, h2⟩
  · left
    have e : i = it.1.length := by omega
    subst e
    rw [List.drop_length] at h2
    unfold outM at h2
    obtain ⟨sy, h2⟩ := if_ok' h2
    rw [R.ok.injEq] at h2
    obtain ⟨rfl, rfl⟩ := h2
    obtain ⟨_, w2⟩ := wk c2 H' S2 s2.A ar.rep (Stay.of (ds := it.1) sy) it.1.length
    exact ⟨w2 rfl, hf w W σ c2 H' S2 acc D Q ar c1 H1 S1.length e2 hD h1⟩
/-- a list's next item -/
def addL2 (m : EM) : AddM (List D) := fun acc env S => (m env S).nox.bind fun y S1 => .if (acc.length < sizeLine) (.ok (acc ++ [y]) S1)
def addD2 (mk mv : EM) : AddM (List Key × List D) := fun acc env S => (mk env S).nox.bind fun k S1 => (mv env S1).nox.bind fun z S2 => (R.ofO (unK k) S2).bind fun key S3 => .if (acc.1.length < sizeLine) (.ok (putDs acc.1 acc.2 key z) S3)
@[simp] theorem addL2_eq (m : EM) (acc : List D) (env : Env) (S : Sto) : addL2 m acc env S = (m env S).nox.bind fun y S1 => .if (acc.length < sizeLine) (.ok (acc ++ [y]) S1) := rfl
@[simp] theorem addD2_eq (mk mv : EM) (acc : List Key × List D) (env : Env) (S : Sto) : addD2 mk mv acc env S = (mk env S).nox.bind fun k S1 => (mv env S1).nox.bind fun z S2 => (R.ofO (unK k) S2).bind fun key S3 => .if (acc.1.length < sizeLine) (.ok (putDs acc.1 acc.2 key z) S3) := rfl
/-- the object at D is changed -/
theorem Ext.sideO {c0 : Cn} {H0 : Hp} {n0 n : Nat} {p : Addr} {o u : HO} (e : Ext c0 H0 n0 c H n) (h0 : H0 p = none) (hp : H p = .some u) : Ext c0 H0 n0 c (upd H p o) n := e.side h0 hp
theorem ExtA.sideO {n : Nat} {p : Addr} {o u : HO} (hp : H p = .some u) (m : Mut (.some u)) (hf : ¬ c.F p) : ExtA c H n c (upd H p o) n :=
  ⟨Nat.le_refl _, fun _ _ => rfl, fun _ h => h, fun a us h => by rw [upd_ne fun e => by rw [e, hp] at h; cases h; exact m]; exact h, fun a x y h => by rw [upd_ne fun e => by rw [e, hp] at h; cases h; exact m]; exact h, fun a o f h => by
    rw [upd_ne fun e => hf (by rw [← e]; exact f)]; exact h⟩
theorem Rep.sideO (r : Rep w c H S) {p : Addr} {o u : HO} (hp : H p = .some u) (m : Mut (.some u)) (hf : ¬ c.F p) (hn : ∀ k, k < S.length → c.ρ k ≠ p) : Rep w c (upd H p o) S :=
  ⟨fun k ob h => (r.obj k ob h).monoA (ExtA.sideO hp m hf) fun x hx => by rw [upd_ne (hn k (Rep.lt h))]; exact hx, r.inj, r.live, fun a f => by
    obtain ⟨x, q⟩ := r.fro a f
    exact ⟨x, by rw [upd_ne fun e => hf (by rw [← e]; exact f)]; exact q⟩⟩
theorem stepL {m : EM} : StepOk w accL (addL2 m) (stL (mE w W0 m)) := by
  intro c H S σ env D acc acc' S' ar ev h N nx
  obtain ⟨y, S1, hm, h⟩ := nox_ok h
  obtain ⟨hl, h⟩ := if_ok' h
  cases h
  refine ⟨c, env, S, ar.rep, ev, Po.of_ok hm fun c1 H1 v e1 r1 a1 => ?_⟩
  have a2 := ar.step e1 r1
  obtain ⟨o, ho, us, rfl, t⟩ := a2.at_
  have mu : Mut (some (HO.lst us)) := trivial
  refine ⟨us, ho, by rw [t.len]; exact hl, nx c1 _ ⟨e1.A.trans (ExtA.sideO ho mu a2.side.nF), fun c0 H0 n0 z h0 => (z.trans e1).side h0 ho⟩ ⟨r1.sideO ho mu a2.side.nF a2.side.out, ⟨a2.side.out, a2.side.nF⟩, _, upd_same, us ++ [v], rfl, ?_⟩⟩
  have sA := ExtA.sideO (c := c1) (n := S'.length) (o := .lst (us ++ [v])) ho mu a2.side.nF
  exact (Ats.monoA sA _ _ t).app (.one (At.monoA sA _ _ a1))
theorem stepD {mk mv : EM} : StepOk w accD (addD2 mk mv) (stD (mE w W0 mk) (mE w W0 mv)) := by
  intro c H S σ env D acc acc' S' ar ev h N nx
  obtain ⟨k, S1, hk, h⟩ := nox_ok h
  obtain ⟨z, S2, hz, h⟩ := nox_ok h
  obtain ⟨key, S3, hu, h⟩ := bind_ok' h
  obtain ⟨hl, h⟩ := if_ok' h
  cases h
  cases hu' : unK k with
  | none => rw [hu'] at hu; cases hu
  | some key' =>
    rw [hu'] at hu; cases hu
    have ek := unK_inv hu'
    subst ek
    refine ⟨c, env, S, ar.rep, ev, Po.of_ok hk fun c1 H1 v e1 r1 a1 => ?_⟩
    have ar1 := ar.step e1 r1
    refine ⟨c1, env, S1, r1, ev.mono e1, Po.of_ok hz fun c2 H2 u e2 r2 a2 => ?_⟩
    have ar2 := ar1.step e2 r2
    obtain ⟨o, ho, us, rfl, hlen, t⟩ := ar2.at_
    have mu : Mut (some (HO.dK (acc.1.zip us))) := trivial
    obtain ⟨us', p1, p2, p3⟩ := put_zip (k := key) (kk := acc.1) a2 t hlen
    refine ⟨acc.1.zip us, key, keyD_at a1, ho, by rw [List.length_zip]; omega, nx c2 _ ⟨(e1.A.trans e2.A).trans (ExtA.sideO ho mu ar2.side.nF), fun c0 H0 n0 q h0 => ((q.trans e1).trans e2).side h0 ho⟩ ⟨r2.sideO ho mu ar2.side.nF ar2.side.out, ⟨ar2.side.out, ar2.side.nF⟩, _, upd_same, us', by rw [p1], p2, ?_⟩⟩
    exact Ats.monoA (ExtA.sideO ho mu ar2.side.nF) _ _ p3
theorem c_lc2 {elt tg1 iter iter1 : Expr} {ifs ifs1 : List Expr} {scope : Scope} {own : List (Str × Nat)} {vs1 : List Nat} {im im1 : IM} {g g1 : GM} {t t1 : TM} {m : EM} {fin : List D → Sto → R D} {sl sl1 : List Nat} (hf : FinOk fin) (hsl : ∀ j ∈ sl, j ∈ own.map (·.2)) (hsl1 : ∀ j ∈ sl1, j ∈ vs1) (hv : ∀ i ∈ vs1, i ∈ own.map (·.2)) (hc : X.calm = true) (hN : X.N.Nodup) (hi : CI Γ X W tg iter im) (ok : BlkOk X.N X.env.scope scope own)
    (hg : Blk X scope fun Y => CG Γ Y tg sl g) (ht : Blk X scope fun Y => CTs Γ Y W0 ifs t) (hi1 : Blk X scope fun Y => CI Γ Y W0 tg1 iter1 im1) (hg1 : Blk X scope fun Y => CG Γ Y tg1 sl1 g1) (ht1 : Blk X scope fun Y => CTs Γ Y W0 ifs1 t1) (he : Blk X scope fun Y => CE Γ Y W0 elt m)
    (hs : ∀ x, foldedSetIterable iter X.env x = pure x := by intro _; rfl) (hs1 : ∀ env x, foldedSetIterable iter1 env x = pure x := by intro _ _; rfl) :
    CE Γ X W (.ListComp elt [⟨tg, iter, ifs, 0⟩, ⟨tg1, iter1, ifs1, 0⟩] scope pos) (e_c2 (own.map (·.2)) vs1 im g t im1 g1 t1 (addL2 m) [] fin) :=
  PE.weak (pe_lc2 hc hN hi ok hv hg ht hi1 hg1 ht1 he hs hs1) fun σ H Q h => c2_read (T := accL) (o0 := .lst []) (finA_L hf) stepL (fun _ _ _ => ⟨[], rfl, .nil⟩) hsl hsl1 h
theorem c_dc2 {kx vx tg1 iter iter1 : Expr} {ifs ifs1 : List Expr} {scope : Scope} {own : List (Str × Nat)} {vs1 : List Nat} {im im1 : IM} {g g1 : GM} {t t1 : TM} {mk mv : EM} {sl sl1 : List Nat} (hsl : ∀ j ∈ sl, j ∈ own.map (·.2)) (hsl1 : ∀ j ∈ sl1, j ∈ vs1) (hv : ∀ i ∈ vs1, i ∈ own.map (·.2)) (hc : X.calm = true) (hN : X.N.Nodup) (hi : CI Γ X W tg iter im) (ok : BlkOk X.N X.env.scope scope own)
    (hg : Blk X scope fun Y => CG Γ Y tg sl g) (ht : Blk X scope fun Y => CTs Γ Y W0 ifs t) (hi1 : Blk X scope fun Y => CI Γ Y W0 tg1 iter1 im1) (hg1 : Blk X scope fun Y => CG Γ Y tg1 sl1 g1) (ht1 : Blk X scope fun Y => CTs Γ Y W0 ifs1 t1) (hk : Blk X scope fun Y => CE Γ Y W0 kx mk) (he : Blk X scope fun Y => CE Γ Y W0 vx mv)
    (hs : ∀ x, foldedSetIterable iter X.env x = pure x := by intro _; rfl) (hs1 : ∀ env x, foldedSetIterable iter1 env x = pure x := by intro _ _; rfl) :
    CE Γ X W (.DictComp kx vx [⟨tg, iter, ifs, 0⟩, ⟨tg1, iter1, ifs1, 0⟩] scope pos) (e_c2 (own.map (·.2)) vs1 im g t im1 g1 t1 (addD2 mk mv) ([], []) finDL) :=
  PE.weak (pe_dc2 hc hN hi ok hv hg ht hk he hi1 hg1 ht1 hs hs1) fun σ H Q h => c2_read (T := accD) (o0 := .dK []) finDL_ok stepD (fun _ _ _ => ⟨[], rfl, rfl, .nil⟩) hsl hsl1 h
end
end Mm
set_option maxRecDepth 100000
/-! Calls with keywords, of any many values; try without an error; dicts that are equal; the letters of a text. -/
namespace Mm
open PySem L2
section
variable {w : Wn} {W : WX} {σ : St} {c c' : Cn} {H H' : Hp} {n n' : Nat} {S : Sto} {env : Env}
variable {Γ : Cls'} {X : Cx} {a b e tg : Expr} {es : List Expr} {ma mb : EM} {am km : AM} {pos : Pos} {Dn : Ends} {kws : List Keyword}
theorem PK.weak {kws : List Keyword} {t t' : TA} (h : PK X kws t) (i : ∀ σ H Q, t' σ H Q → t σ H Q) : PK X kws t' := ⟨fun pos pins s σ H Q I q => h.run pos pins s σ H Q I (i σ H Q q)⟩
abbrev CK (Γ : Cls') (X : Cx) (W : WX) (kws : List Keyword) (m : AM) : Prop := PK X kws (mA ⟨X.K, Γ⟩ W m)
theorem c_knil : CK Γ X W [] a_nil := PK.weak pk_nil fun σ H Q h => ca_nil_read h
theorem cons_read {Q : List V → Hp → Prop} (h : mA w W (a_cons ma am) σ H Q) : tCons (mE w W ma) (mA w W am) σ H Q := by
  obtain ⟨c, env, S, r, ev, h⟩ := h
  refine ⟨c, env, S, r, ev, (Po.bind h).imp fun v H1 ⟨c1, S1, d1, e1, r1, a1, h1⟩ => ?_⟩
  refine ⟨c1, env, S1, r1, ev.mono e1, (Po.bind h1).imp fun vs H2 ⟨c2, S2, ds, e2, r2, a2, h2⟩ => ?_⟩
  exact h2 c2 H2 _ Ext.refl r2 (.cons (a1.mono e2) a2)
theorem c_kcons {nm : Option Str} {kpos : Pos} (he : CE Γ X W e ma) (hk : CK Γ X W kws am) : CK Γ X W (⟨nm, e, kpos⟩ :: kws) (a_cons ma am) := PK.weak (pk_cons he hk) fun σ H Q h => cons_read h
/-! ## a new object, keywords -/
def mkDk (k : Nat) (m : FM) (f : D → List D) (S : Sto) : R D := (m (f (.loc S.length)) (S ++ [.ins k []])).bind fun d S2 => match d with
  | .non => .ok (.loc S.length) S2
  | _ => .bad
def e_mkk (tr : TrF) (k : Nat) (m : FM) (g : D → List D → List D → List D) (n nk : Nat) (am km : AM) : EM := fun env S => (am env S).bind fun ds S1 => (km env S1).bind fun es S2 => .if (ds.length = n ∧ es.length = nk) (tr S2 (mkDk k m (fun x => g x ds es) S2))
@[simp] theorem e_mkk_eq (tr : TrF) (k : Nat) (m : FM) (g : D → List D → List D → List D) (n nk : Nat) (am km : AM) (env : Env) (S : Sto) : e_mkk tr k m g n nk am km env S = (am env S).bind fun ds S1 => (km env S1).bind fun es S2 => .if (ds.length = n ∧ es.length = nk) (tr S2 (mkDk k m (fun x => g x ds es) S2)) := rfl
/-- the class k stands under its name; its __init__ is m; n values and the keywords ks, put in order by g -/
structure Dkk (P : Program) (wd : World) (K : PySem.W.Frag) (mg : Str → Option Value) (base : Heap) (Γ : Cls') (k : Nat) (x : Str) (lv : Nat) (m : FM) (n : Nat) (ks : List Str) (g : D → List D → List D → List D) : Prop where
  ex : ∃ (C f : Addr) (fd : FuncData) (ps : List Str) (g0 : List Value → List Value → List Value) (gV : List V → List V → List V), Γ.at_ k = some C ∧ mg x = some (.ref C) ∧ Mk K C f ∧ FnOk P wd K mg base (L2.CX P wd) lv f fd ps (spM K Γ m) ∧ KBn K fd ps (n + 1) ks g0 gV ∧
    ∀ (c : Cn) (H : Hp) (j : Nat) (x : D) (v : V) (ds es : List D) (vs zs : List V), At ⟨K, Γ⟩ c H j x v → Ats ⟨K, Γ⟩ c H j ds vs → Ats ⟨K, Γ⟩ c H j es zs → ds.length = n → es.length = ks.length → Ats ⟨K, Γ⟩ c H j (g x ds es) (gV (v :: vs) zs)
/-- the end of a new object's __init__ -/
theorem mk_end {k : Nat} {C x dx : Addr} {m : FM} {f : D → List D} {us : List V} {tr : TrF} {Q : VK} (ht : TrOk tr) (r : Rep ⟨X.K, Γ⟩ c H S) (gC : Γ.at_ k = some C) (hx : H x = none) (hd : H dx = none) (ne : dx ≠ x)
    (ha : ∀ (c' : Cn) (H' : Hp) (j : Nat), Ext c H S.length c' H' j → At ⟨X.K, Γ⟩ c' H' j (.loc S.length) (.ref x) → Ats ⟨X.K, Γ⟩ c' H' j (f (.loc S.length)) us) (h : PoE ⟨X.K, Γ⟩ W σ c H S.length (tr S (mkDk k m f S)) Q) :
    spM X.K Γ m us (upd (upd H dx (.own x)) x (.ins C dx [])) (fun v H3 => v = .non ∧ Q (.ref x) H3) fun C dd H => W C dd σ H := by
  obtain ⟨e2, r2, t2⟩ := mk_start (w := ⟨X.K, Γ⟩) (ds := []) (vs := []) r gC .nil hx hd ne
  obtain ⟨_, _, he, al, _⟩ := t2.uncons
  cases he
  have h2 := Po.mono e2 (ht _ _ _ _ _ _ _ _ r h)
  refine ⟨_, _, _, r2, ha _ _ _ e2 al, ?_⟩
  refine Po.wish ((Po.bind h2).imp fun v H3 ⟨c3, S3, d3, e3, r3, a3, h3⟩ => ?_) fun _ _ _ z => z
  cases d3 with
  | non =>
    refine ⟨a3.non, h3 c3 H3 _ Ext.refl r3 ?_⟩
    have hl : (S ++ [SO.ins k []]).length = S.length + 1 := by rw [List.length_append]; rfl
    unfold At
    have hlt : S.length < (S ++ [SO.ins k []]).length := by rw [hl]; exact Nat.lt_succ_self _
    exact ⟨Nat.lt_of_lt_of_le hlt e3.le, by rw [e3.rho _ hlt, Cn.nw_at]⟩
  | _ => exact h3.elim
theorem c_mkk {k lv n : Nat} {x : Str} {m : FM} {p : Pos} {tr : TrF} {ks : List Str} {g : D → List D → List D → List D} (tok : TrOk tr) (G : Dkk X.prog X.w X.K X.mg X.base Γ k x lv m n ks g) (go : Goes X W) (hr : Room (lv + 1) X.A) (hg : Gl X x) (ha : CA Γ X W (e :: es) am) (hk : CK Γ X W kws km)
    (hall : (backToKw pos (keywordEach kws X.env)).all (·.1.isSome) = true := by rfl) (hks : (backToKw pos (keywordEach kws X.env)).filterMap (·.1) = ks := by rfl) (hdb : (x == ("__debug__" : Str)) = false := by decide)
    (he : starEach (e :: es) X.env = (false, eval e X.env) :: starEach es X.env := by rfl) (hpl : ((backTo pos (starEach (e :: es) X.env)).any (·.1) || (backToKw pos (keywordEach kws X.env)).any (·.1.isNone)) = false := by rfl) : CE Γ X W (.Call (.Name x p) (e :: es) kws pos) (e_mkk tr k m g n ks.length am km) := by
  obtain ⟨C, f, fd, ps, g0, gV, gC, hm, M, F, hb, hrel⟩ := G.ex
  refine PE.weak (pe_makeKS (E := fun σ => WE W σ) M F hr hg hm hb go ha hk hall hks hdb he hpl) fun σ H Q ⟨c, env, S, r, ev, h⟩ => ?_
  refine ⟨c, env, S, r, ev, (Po.bind h).imp fun vs H1 ⟨c1, S1, ds, e1, r1, a1, h1⟩ => ?_⟩
  refine ⟨c1, env, S1, r1, ev.mono e1, (Po.bind h1).imp fun zs H2 ⟨c2, S2, ds2, e2, r2, a2, h2⟩ => ?_⟩
  obtain ⟨⟨l1, l2⟩, h2⟩ := Po.if h2
  refine ⟨by rw [a1.len]; exact l1, by rw [a2.len]; exact l2, fun x dx hx hd ne => ?_⟩
  exact mk_end tok r2 gC hx hd ne (fun c' H' j ex al => hrel c' H' j _ _ _ _ _ _ al ((a1.mono e2).mono ex) (a2.mono ex) l1 l2) h2
/-! ## any many values, keywords -/
def e_mks (tr : TrF) (k : Nat) (m : FM) (g : D → List D → List D) (nk : Nat) (am km : AM) : EM := fun env S => (am env S).bind fun ds S1 => (km env S1).bind fun es S2 => .if (ds.length ≤ 1000 ∧ es.length = nk) (tr S2 (mkDk k m (fun x => g x es ++ [.tup ds]) S2))
@[simp] theorem e_mks_eq (tr : TrF) (k : Nat) (m : FM) (g : D → List D → List D) (nk : Nat) (am km : AM) (env : Env) (S : Sto) : e_mks tr k m g nk am km env S = (am env S).bind fun ds S1 => (km env S1).bind fun es S2 => .if (ds.length ≤ 1000 ∧ es.length = nk) (tr S2 (mkDk k m (fun x => g x es ++ [.tup ds]) S2)) := rfl
structure Dks (P : Program) (wd : World) (K : PySem.W.Frag) (mg : Str → Option Value) (base : Heap) (Γ : Cls') (k : Nat) (x : Str) (lv : Nat) (m : FM) (ks : List Str) (g : D → List D → List D) : Prop where
  ex : ∃ (C f : Addr) (gV : List V → List V → List V), Γ.at_ k = some C ∧ mg x = some (.ref C) ∧ Mk K C f ∧ StK.FnRK P wd K mg base (L2.CX P wd) lv f ks (fun zs vs H Q E => ∃ ws rest, vs = ws ++ rest ∧ ws.length = 1 ∧ rest.length ≤ sizeLine ∧ ∀ p, H p = none → spM K Γ m (gV ws zs ++ [V.ref p]) (upd H p (.tup rest)) Q E) ∧
    ∀ (c : Cn) (H : Hp) (j : Nat) (x : D) (v : V) (es : List D) (zs : List V), At ⟨K, Γ⟩ c H j x v → Ats ⟨K, Γ⟩ c H j es zs → es.length = ks.length → Ats ⟨K, Γ⟩ c H j (g x es) (gV [v] zs)
theorem c_mks {k lv : Nat} {x : Str} {m : FM} {p : Pos} {tr : TrF} {ks : List Str} {g : D → List D → List D} (tok : TrOk tr) (G : Dks X.prog X.w X.K X.mg X.base Γ k x lv m ks g) (go : Goes X W) (hr : Room (lv + 1) X.A) (hg : Gl X x) (ha : CA Γ X W (e :: es) am) (hk : CK Γ X W kws km)
    (hall : (backToKw pos (keywordEach kws X.env)).all (·.1.isSome) = true := by rfl) (hks : (backToKw pos (keywordEach kws X.env)).filterMap (·.1) = ks := by rfl) (hdb : (x == ("__debug__" : Str)) = false := by decide)
    (he : starEach (e :: es) X.env = (false, eval e X.env) :: starEach es X.env := by rfl) (hpl : ((backTo pos (starEach (e :: es) X.env)).any (·.1) || (backToKw pos (keywordEach kws X.env)).any (·.1.isNone)) = false := by rfl) : CE Γ X W (.Call (.Name x p) (e :: es) kws pos) (e_mks tr k m g ks.length am km) := by
  obtain ⟨C, f, gV, gC, hm, M, F, hrel⟩ := G.ex
  refine PE.weak (StK.pe_makeRK (E := fun σ => WE W σ) M F hr hg hm go ha hk hall hks hdb he hpl) fun σ H Q ⟨c, env, S, r, ev, h⟩ => ?_
  refine ⟨c, env, S, r, ev, (Po.bind h).imp fun vs H1 ⟨c1, S1, ds, e1, r1, a1, h1⟩ => ?_⟩
  refine ⟨c1, env, S1, r1, ev.mono e1, (Po.bind h1).imp fun zs H2 ⟨c2, S2, ds2, e2, r2, a2, h2⟩ => ?_⟩
  obtain ⟨⟨l1, l2⟩, h2⟩ := Po.if h2
  refine ⟨by rw [a2.len]; exact l2, fun x dx hx hd ne => ⟨[.ref x], vs, rfl, rfl, by rw [a1.len]; exact Nat.le_trans l1 (by decide), fun q hq => ?_⟩⟩
  obtain ⟨e3, r3, t3⟩ := mk_start (w := ⟨X.K, Γ⟩) (ds := []) (vs := []) r2 gC .nil hx hd ne
  obtain ⟨_, _, hE, al, _⟩ := t3.uncons
  cases hE
  have e4 := e3.trans (Ext.grow (o := .tup vs) (n := (S2 ++ [SO.ins k []]).length) (c := c2.nw S2.length x) hq)
  have h3 := Po.mono e4 (tok _ _ _ _ _ _ _ _ r2 h2)
  have al4 := al.mono (Ext.grow (o := .tup vs) hq)
  have at_ : At ⟨X.K, Γ⟩ (c2.nw S2.length x) (upd (upd (upd H2 dx (.own x)) x (.ins C dx [])) q (.tup vs)) (S2 ++ [SO.ins k []]).length (.tup ds) (.ref q) := by
    unfold At
    exact ⟨q, vs, rfl, SqT.of upd_same, (a1.mono e2).mono e4⟩
  refine ⟨_, _, _, r3.grow (o := .tup vs) hq, (hrel _ _ _ _ _ _ _ al4 (a2.mono e4) l2).app (.one at_), ?_⟩
  refine Po.wish ((Po.bind h3).imp fun v H3 ⟨c3, S3, d3, e5, r5, a5, h5⟩ => ?_) fun _ _ _ z => z
  cases d3 with
  | non =>
    refine ⟨a5.non, h5 c3 H3 _ Ext.refl r5 ?_⟩
    unfold At at al4
    unfold At
    exact ⟨Nat.lt_of_lt_of_le al4.1 e5.le, by rw [e5.rho _ al4.1]; exact al4.2⟩
  | _ => exact h5.elim
def s_nox (m : SM) : SM := fun env S => match m env S with
  | .ex _ _ _ => .bad
  | r => r
@[simp] theorem s_nox_eq (m : SM) (env : Env) (S : Sto) : s_nox m env S = match m env S with
  | .ex _ _ _ => .bad
  | r => r := rfl
theorem c_tryNo {body : List Stmt} {h0 : ExceptHandler} {hs : List ExceptHandler} {m : SM} (hb : CSs Γ X.nox W0 body m) : CS Γ X W (.Try body (h0 :: hs) [] [] pos) (s_nox m) := by
  refine PS.weak (ps_try_thru0 hb) fun Dn σ H ⟨c, env, S, r, ev, h⟩ => ⟨c, env, S, r, ev, ?_⟩
  unfold s_nox at h
  cases hm : m env S with
  | ex x env1 S1 => rw [hm] at h; exact h.elim
  | next env1 S1 => rw [hm] at h; exact h
  | ret d S1 => rw [hm] at h; exact h
  | brk env1 S1 => rw [hm] at h; exact h
  | cnt env1 S1 => rw [hm] at h; exact h
  | bad => rw [hm] at h; exact h.elim
/-! ## dicts that are equal -/
def sameDs (p q : List D × List D) : Bool := match kkO p.1, kkO q.1 with
  | some kk, some ll => p.2.length == q.2.length && (kk.zip p.2).all fun kd => match getDs ll q.2 kd.1 with
    | some z => match DV kd.2, DV z with
      | some u, some v => decide (u = v)
      | _, _ => false
    | none => false
  | _, _ => false
def dneD (x y : D) (S : Sto) : R D := match dicOf S x, dicOf S y with
  | some p, some q => .if (sameDs p q = true) (.ok (.bl false) S)
  | _, _ => .bad
theorem DV_flatB {d : D} {u : V} (h : DV d = some u) : flatB u = true := by
  cases d with
  | int i => cases h; rfl
  | bl i => cases h; rfl
  | str i => cases h; rfl
  | non => cases h; rfl
  | _ => cases h
theorem same_all {ll : List Key} {qs : List D} {us : List V} (t2 : Ats w c H n qs us) : ∀ {kk : List Key} {ps : List D} {vs : List V}, Ats w c H n ps vs → ((kk.zip ps).all fun kd => match getDs ll qs kd.1 with
    | some z => match DV kd.2, DV z with
      | some u, some v => decide (u = v)
      | _, _ => false
    | none => false) = true → ∀ x ∈ kk.zip vs, valV (ll.zip us) x.1 = some x.2 ∧ flatB x.2 = true
  | [], ps, vs, t, h, x, hx => by cases hx
  | k :: r, [], vs, t, h, x, hx => by rw [t.unnil] at hx; cases hx
  | k :: r, d :: ps, vs, t, h, x, hx => by
    obtain ⟨v, vr, rfl, a1, a2⟩ := t.uncons
    rw [List.zip_cons_cons, List.all_cons, Bool.and_eq_true] at h
    rw [List.zip_cons_cons] at hx
    rcases List.mem_cons.mp hx with rfl | hx
    · have h1 := h.1
      rcases getDs_at (k := k) (kk := ll) t2 with ⟨z, u, g1, g2, g3⟩ | ⟨g1, g2⟩
      · dsimp only at h1 ⊢
        rw [g1] at h1
        dsimp only at h1
        cases e1 : DV d with
        | none => rw [e1] at h1; cases h1
        | some u1 =>
          cases e2 : DV z with
          | none => rw [e1, e2] at h1; cases h1
          | some u2 =>
            rw [e1, e2] at h1
            have e3 : u1 = u2 := of_decide_eq_true h1
            rw [(DV_at e1 a1).1, g2, (DV_at e2 g3).1, e3]
            exact ⟨rfl, DV_flatB e2⟩
      · dsimp only at h1
        rw [g1] at h1
        cases h1
    · exact same_all t2 a2 h.2 x hx
theorem g_dne : GOp Γ X dneD rNeDA := by
  intro W σ c H S x y v u Q r ax ay h
  unfold dneD at h
  cases hp : dicOf S x with
  | none => rw [hp] at h; exact h.elim
  | some p =>
    cases hq : dicOf S y with
    | none => rw [hp, hq] at h; exact h.elim
    | some q =>
      rw [hp, hq] at h
      obtain ⟨hs, h⟩ := Po.if h
      obtain ⟨a1, vs, rfl, t1, g1⟩ := dicOf_at (w := ⟨X.K, Γ⟩) (ks := p.1) (ds := p.2) r ax hp
      obtain ⟨a2, us, rfl, t2, g2⟩ := dicOf_at (w := ⟨X.K, Γ⟩) (ks := q.1) (ds := q.2) r ay hq
      unfold sameDs at hs
      rcases g1 with ⟨kk, h1, l1, k1⟩ | ⟨kk, h1, l1, k1⟩
      · rcases g2 with ⟨ll, h2, l2, k2⟩ | ⟨ll, h2, l2, k2⟩
        · rw [k1, k2, kkO_map, kkO_map] at hs
          dsimp only at hs
          rw [Bool.and_eq_true] at hs
          have e := beq_iff_eq.mp hs.1
          refine ⟨a1, a2, _, _, rfl, rfl, h1, h2, ?_, same_all t2 t1 hs.2, fin_ok h r (.b _)⟩
          rw [List.length_zip, List.length_zip, l1, l2, Nat.min_self, Nat.min_self, t1.len, t2.len, e]
        · rw [k1, k2, kkO_map, kkO_non] at hs; cases hs
      · rw [k1, kkO_non] at hs; cases hs
/-! ## letters -/
@[simp] theorem i_str_eq (m : EM) (env : Env) (S : Sto) : i_str m env S = (m env S).bind fun d S1 => match d with
  | .str x => .ok (x.cps.toList.map fun k => .str ⟨#[k]⟩, none) S1
  | _ => .bad := rfl
theorem ci_str (he : CE Γ X W e ma) : CI Γ X W tg e (i_str ma) := by
  refine PI.weak (pi_str he) fun σ H R ⟨c, env, S, r, ev, h⟩ => ?_
  refine ⟨c, env, S, r, ev, (Po.bind h).imp fun v H1 ⟨c1, S1, d1, e1, r1, a1, h1⟩ => ?_⟩
  cases d1 with
  | str x =>
    refine ⟨x, a1.str, h1 c1 H1 _ Ext.refl r1 ?_⟩
    intro c2 H2 S2 e2 r2 st i
    refine ⟨fun d hd => ?_, fun hi => ?_⟩
    · rw [List.getElem?_map] at hd
      cases hx : x.cps.toList[i]? with
      | none => rw [hx] at hd; cases hd
      | some k =>
        rw [hx] at hd
        cases hd
        have hi : i < x.cps.size := by
          have := (List.getElem?_eq_some_iff.mp hx).1
          simpa using this
        refine ⟨hi, ?_⟩
        rintro y H3 ⟨rfl, k', hk, rfl⟩
        have : x.cps[i]? = some k := by rw [← Array.getElem?_toList]; exact hx
        rw [this] at hk; cases hk
        exact ⟨Ext.refl, r2, .s _⟩
    · rw [List.length_map] at hi
      show x.cps.size ≤ i
      simp at hi; omega
  | _ => exact h1.elim
end
end Mm
set_option maxRecDepth 100000
/-! A written dict of numbers; defs of keyword parameters; short words. -/
namespace Mm
open PySem L2
section
variable {w : Wn} {W : WX} {σ : St} {c c' : Cn} {H H' : Hp} {n n' : Nat} {S : Sto} {env : Env}
variable {Γ : Cls'} {X : Cx} {a b e tg : Expr} {es : List Expr} {ma mb mo : EM} {am km : AM} {pos : Pos} {Dn : Ends} {kws : List Keyword}
/-- the module's name x holds a written dict: the numbers of these words -/
structure Kd (K : PySem.W.Frag) (wd : World) (mg : Str → Option Value) (x : Str) (tb : List (Str × Int)) : Prop where
  ex : ∃ it, mg x = some (.ref it) ∧ (∃ es n, K.lookup it = some ⟨.type "dict", none, .dict es n, #[]⟩) ∧ ∀ z i, tb.lookup z = some i → KG K wd it z (.int i)
def kgetD (tb : List (Str × Int)) (y : D) (S : Sto) : R D := match y with
  | .str z => .ofO ((tb.lookup z).map D.int) S
  | _ => .bad
@[simp] theorem kgetD_str (tb : List (Str × Int)) (z : Str) (S : Sto) : kgetD tb (.str z) S = .ofO ((tb.lookup z).map D.int) S := rfl
def e_kget (tb : List (Str × Int)) (m : EM) : EM := fun env S => (m env S).bind (kgetD tb)
@[simp] theorem e_kget_eq (tb : List (Str × Int)) (m : EM) (env : Env) (S : Sto) : e_kget tb m env S = (m env S).bind (kgetD tb) := rfl
theorem c_kget {tb : List (Str × Int)} {x : Str} {p apos cpos : Pos} (G : Kd X.K X.w X.mg x tb) (he : CE Γ X W e ma) (hg : Gl X x := by rfl) (hd : (x == ("__debug__" : Str)) = false := by decide) (h1 : M1 X (.Name x p) "get" apos e cpos := by exact ⟨rfl, rfl, rfl, rfl⟩) : CE Γ X W (.Call (.Attribute (.Name x p) "get" apos) [e] [] cpos) (e_kget tb ma) := by
  obtain ⟨it, hm, ⟨es, nn, lk⟩, hk⟩ := G.ex
  refine PE.weak (pe_kget (pe_glob (v := .ref it) hg hm rfl hd) he (fun σ H Q h => ⟨⟨it, _, es, nn, rfl, lk, rfl⟩, h⟩) h1) fun σ H Q ⟨c, env, S, r, ev, h⟩ => ?_
  refine ⟨c, env, S, r, ev, (Po.bind h).imp fun v H1 ⟨c1, S1, d1, e1, r1, a1, h1⟩ => ?_⟩
  cases d1 with
  | str z =>
    obtain ⟨i, hi, h1⟩ := Po.ofM h1
    exact ⟨it, z, .int i, rfl, a1.str, hk z i hi, fin_ok h1 r1 (.i _)⟩
  | _ => exact h1.elim
/-- a def with keyword-only parameters -/
theorem def_okD {P : Program} {wd : World} {K : PySem.W.Frag} {mg : Str → Option Value} {base : Heap} {x qual : Str} {params : Arguments} {body : List Stmt} {scope : Scope} {dvs : List V} {kws : List (Str × V)} {f : Addr} {fd : FuncData} {N ps : List Str} {k : Nat} {b : SM} (F : FunD K x qual params body scope dvs kws f fd) (Sc : FnScope N ps scope)
    (hb : ∀ (cdv : Value) (A : Around) (outer : List PySem.Env) (s : Shared) (H : Hp) (E : XK), Room k (A.deeper (PyProof.Rows.envOfC qual scope s.heap.objs.size f cdv)) → CSs Γ (cxOf (L2.CX P wd) P wd K mg base N qual scope f cdv A outer s H E) (fun C dd _ H => E C dd H) body b) :
    FnOk P wd K mg base (L2.CX P wd) (k + 1) f fd ps (spM K Γ (runDef ps.length N.length b)) := by
  refine F.ok Sc (fun vs H Q E ⟨c, S, ds, r, t, h⟩ => ?_) (fun cdv A outer s H vs Q E hr ⟨c, S, ds, r, t, h⟩ => ⟨_, hb cdv A outer s H E hr, ?_⟩)
  · unfold runDef at h
    by_cases hl : ds.length = ps.length
    · rw [t.len]; exact hl
    · rw [if_neg hl] at h; exact h.elim
  · unfold runDef at h
    by_cases hl : ds.length = ps.length
    · rw [if_pos hl, ← hl] at h
      refine ⟨c, _, S, r, envR_start t, ?_⟩
      cases hx : b (ds.map some ++ List.replicate (N.length - ds.length) none) S with
      | next env' S' => rw [hx] at h; exact fun c2 H2 s2 e2 r2 a2 => h c2 H2 .non e2 r2 .o
      | ret d S' => rw [hx] at h; exact fun c2 H2 v e2 r2 a2 => h c2 H2 v e2 r2 a2
      | ex x env' S' => rw [hx] at h; exact fun c2 H2 s2 C dd e2 r2 a2 xa => h c2 H2 C dd e2 r2 xa
      | brk env' S' => rw [hx] at h; exact h.elim
      | cnt env' S' => rw [hx] at h; exact h.elim
      | bad => rw [hx] at h; exact h.elim
    · rw [if_neg hl] at h; exact h.elim
theorem hu1 {k : Nat} {A : Around} (hr : Room k A) : A.units + 1 < cLine := by have := hu64 hr; omega
theorem hu65 {k : Nat} {A : Around} (hr : Room k A) : A.units + 65 < cLine := by have := hr.un; omega
theorem hu0 {k : Nat} {A : Around} (hr : Room k A) : A.units < cLine := by have := hr.un; omega
/-- the class's name, for isinstance -/
structure KcOk (K : PySem.W.Frag) (Γ : Cls') (mg : Str → Option Value) (x : Str) (kt : Ty → Option Bool) : Prop where
  ex : ∃ C, mg x = some (.ref C) ∧ KitOk K Γ (.ref C) kt
theorem c_isiK {x : Str} {kt : Ty → Option Bool} {p q : Pos} (hm : X.mg "isinstance" = none) (G : KcOk X.K Γ X.mg x kt) (he : CE Γ X W e ma) (hg : Gl X "isinstance" := by rfl) (hgT : Gl X x := by rfl) (hdb : (x == ("__debug__" : Str)) = false := by decide)
    (h1 : starEach [e, .Name x q] X.env = (false, eval e X.env) :: starEach [.Name x q] X.env := by rfl) (h2 : starEach [.Name x q] X.env = (false, eval (.Name x q) X.env) :: starEach [] X.env := by rfl) (hpl : (backTo pos (starEach [.Name x q] X.env)).any (·.1) = false := by rfl) :
    CE Γ X W (.Call (.Name "isinstance" p) [e, .Name x q] [] pos) (e_isi kt ma) := by
  obtain ⟨C, hC, kk⟩ := G.ex
  exact c_isiC hm hC kk he hg hgT hdb h1 h2 hpl
/-- len(set(xs)), texts -/
def lensD (x : D) (S : Sto) : R D := .ofO (((lstOf S x).bind (allO stO)).bind fun xs => if xs.length ≤ 100 then some (D.int (LenS.many xs xs.length : Nat)) else none) S
def e_lens (m : EM) : EM := fun env S => (m env S).bind lensD
@[simp] theorem e_lens_eq (m : EM) (env : Env) (S : Sto) : e_lens m env S = (m env S).bind lensD := rfl
theorem c_lens {p p2 q : Pos} (hg : Gl X "len") (hm : X.mg "len" = none) (hg2 : Gl X "set") (hm2 : X.mg "set" = none) (ha : CE Γ X W a ma) (hc : X.calm = true := by rfl) (na : starEach [a] X.env = (false, eval a X.env) :: starEach [] X.env := by rfl) : CE Γ X W (.Call (.Name "len" p) [.Call (.Name "set" p2) [a] [] q] [] pos) (e_lens ma) := by
  refine PE.weak (pe_lenS hg hm hg2 hm2 ha hc na) fun σ H Q ⟨c, env, S, r, ev, h⟩ => ?_
  refine ⟨c, env, S, r, ev, (Po.bind h).imp fun v H1 ⟨c1, S1, d1, e1, r1, a1, h1⟩ => ?_⟩
  obtain ⟨y, hy, h1⟩ := Po.ofO h1
  cases hb : (lstOf S1 d1).bind (allO stO) with
  | none => rw [hb] at hy; cases hy
  | some xs =>
    rw [hb, Option.bind_some] at hy
    by_cases hl : xs.length ≤ 100
    · rw [if_pos hl] at hy; cases hy
      obtain ⟨l, rfl, g⟩ := lstO (fv := V.str) (fun d x v h a => stO_at h a) r1 a1 hb
      exact ⟨l, xs, rfl, g, hl, fin_ok h1 r1 (.i _)⟩
    · rw [if_neg hl] at hy; cases hy
/-- not x, x of any kind -/
def e_nott (m : EM) : EM := fun env S => (m env S).bind fun d S1 => .ofO ((truD S1 d).map fun k => D.bl (!k)) S1
@[simp] theorem e_nott_eq (m : EM) (env : Env) (S : Sto) : e_nott m env S = (m env S).bind fun d S1 => .ofO ((truD S1 d).map fun k => D.bl (!k)) S1 := rfl
theorem c_nott (ha : CE Γ X W a ma) : CE Γ X W (.UnaryOp .Not a pos) (e_nott ma) := by
  refine PE.weak (pe_notT ha) fun σ H Q ⟨c, env, S, r, ev, h⟩ => ?_
  refine ⟨c, env, S, r, ev, (Po.bind h).imp fun v H1 ⟨c1, S1, d1, e1, r1, a1, h1⟩ => ?_⟩
  obtain ⟨k, hk, h1⟩ := Po.ofM h1
  exact ⟨k, truD_at r1 a1 hk, fin_ok h1 r1 (.b _)⟩
end
end Mm
set_option maxRecDepth 100000
namespace Mm
open PySem L2
def top (i : Nat) : Stmt := PySem.Challenge.pw_takenahead_k10_run_one_session.main.body.getD i (.Pass ⟨0, 0, 0, 0⟩)
def items : List (Str × Int) := [("take", 1), ("commit", 1), ("rollback", 1), ("drop", 1), ("leave", 1), ("lock", 2), ("unlock", 2), ("choose", 3)]
def kt_Script : Ty → Option Bool := fun t => match t with
  | .inl "tuple" => some false
  | .inr 1 => some true
  | _ => none
def kt_Kind : Ty → Option Bool := fun t => match t with
  | .inr 4 => some true
  | _ => none
def gKind (x : D) (ds es : List D) : List D := x :: (ds ++ es ++ [.int 1])
def gSystem (x : D) (es : List D) : List D := [x, .int 0, .non, .int 0]

structure WdT (wd : World) (K : PySem.W.Frag) (Γ : Cls') (mg : Str → Option Value) : Prop where
  b_all : mg "all" = none
  b_any : mg "any" = none
  b_bool : mg "bool" = none
  b_enumerate : mg "enumerate" = none
  b_int : mg "int" = none
  b_isinstance : mg "isinstance" = none
  b_len : mg "len" = none
  b_list : mg "list" = none
  b_max : mg "max" = none
  b_range : mg "range" = none
  b_set : mg "set" = none
  b_sorted : mg "sorted" = none
  b_str : mg "str" = none
  b_sum : mg "sum" = none
  b_tuple : mg "tuple" = none
  c_Kind : KcOk K Γ mg "Kind" kt_Kind
  c_Script : KcOk K Γ mg "Script" kt_Script
  f_Check_found : HasF K Γ 2 0 "found"
  f_Kind_block : HasF K Γ 4 2 "block"
  f_Kind_many : HasF K Γ 4 3 "many"
  f_Kind_name : HasF K Γ 4 0 "name"
  f_Kind_script : HasF K Γ 4 1 "script"
  f_Moment_commits : HasF K Γ 3 5 "commits"
  f_Moment_crashes : HasF K Γ 3 3 "crashes"
  f_Moment_done : HasF K Γ 3 8 "done"
  f_Moment_height : HasF K Γ 3 1 "height"
  f_Moment_lost : HasF K Γ 3 6 "lost"
  f_Moment_origin : HasF K Γ 3 9 "origin"
  f_Moment_reserve : HasF K Γ 3 2 "reserve"
  f_Moment_sessions : HasF K Γ 3 4 "sessions"
  f_Moment_spread : HasF K Γ 3 7 "spread"
  f_Moment_system : HasF K Γ 3 0 "system"
  f_Record_commits : HasF K Γ 0 0 "commits"
  f_Record_crashes : HasF K Γ 0 5 "crashes"
  f_Record_height : HasF K Γ 0 3 "height"
  f_Record_lost : HasF K Γ 0 1 "lost"
  f_Record_noted : HasF K Γ 0 4 "noted"
  f_Record_out : HasF K Γ 0 2 "out"
  f_Record_spread : HasF K Γ 0 6 "spread"
  f_Script_found : HasF K Γ 1 1 "found"
  f_Script_places : HasF K Γ 1 2 "places"
  f_Script_statements : HasF K Γ 1 0 "statements"
  f_System_ahead : HasF K Γ 5 1 "ahead"
  f_System_crashes : HasF K Γ 5 3 "crashes"
  f_System_kinds : HasF K Γ 5 0 "kinds"
  f_System_sessions : HasF K Γ 5 4 "sessions"
  f_System_window : HasF K Γ 5 2 "window"
  g_FRESH : GlD K Γ mg "FRESH" (.tup [.tup [.int 0], .tup [], .tup [], .tup []])
  g_LONGEST_NAME : GlD K Γ mg "LONGEST_NAME" (.int 8)
  g_MOST_AHEAD : GlD K Γ mg "MOST_AHEAD" (.int 4)
  g_MOST_BLOCK : GlD K Γ mg "MOST_BLOCK" (.int 3)
  g_MOST_CRASHES : GlD K Γ mg "MOST_CRASHES" (.int 2)
  g_MOST_HELD : GlD K Γ mg "MOST_HELD" (.int 3)
  g_MOST_NESTED : GlD K Γ mg "MOST_NESTED" (.int 2)
  g_MOST_SESSIONS : GlD K Γ mg "MOST_SESSIONS" (.int 3)
  g_MOST_STATEMENTS : GlD K Γ mg "MOST_STATEMENTS" (.int 8)
  g_MOST_WINDOW : GlD K Γ mg "MOST_WINDOW" (.int 8)
  k_ITEMS : Kd K wd mg "ITEMS" items
abbrev s_is_integer : Stmt := top 15
noncomputable def b_is_integer : SM := (s_ret (e_and (e_isi (ktB "int") (e_v 0)) (e_nott (e_isi (ktB "bool") (e_v 0)))))
noncomputable def m_is_integer : FM := runDef 1 1 (b_is_integer)

abbrev s_is_within : Stmt := top 16
noncomputable def b_is_within : SM := (s_ret (e_and (e_fn tr0 m_is_integer (a_cons (e_v 0) a_nil)) (e_chain leD leD (e_v 1) (e_v 0) (e_v 2))))
noncomputable def m_is_within : FM := runDef 3 3 (b_is_within)

abbrev s_is_name : Stmt := top 17
noncomputable def b_is_name : SM := (s_seq (s_if (t_or (t_not (t_v (e_isi (ktB "str") (e_v 0)))) (t_not (t_b (e_chain leD leD (e_k (.int 1)) (e_call (f1 lenD) (a_cons (e_v 0) a_nil)) (e_k (.int 8)))))) (s_ret (e_k (.bl false))) s_nil)
  (s_ret (e_call (f1 allD) (a_cons (e_lcG [1] (i_str (e_v 0)) (g_name 1) t_yes (e_chain strLeD strLeD (e_k (.str "a")) (e_v 1) (e_k (.str "z"))) finL) a_nil))))
noncomputable def m_is_name : FM := runDef 1 2 (b_is_name)

abbrev s_held_after : Stmt := top 28
noncomputable def b_held_after : SM := (s_seq (s_if (t_b (e_op (eqD false) (e_v 0) (e_k (.str "take")))) (s_ret (e_op addD (e_v 1) (e_k (.int 1)))) s_nil)
  (s_ret (e_if (t_b (e_op (inF false) (e_v 0) (e_tup (a_cons (e_k (.str "commit")) (a_cons (e_k (.str "rollback")) (a_cons (e_k (.str "leave")) a_nil)))))) (e_k (.int 0)) (e_v 1))))
noncomputable def m_held_after : FM := runDef 2 2 (b_held_after)

abbrev s_has_form : Stmt := top 29
noncomputable def b_has_form : SM := (s_seq (s_if (t_or (t_not (t_v (e_isi (ktB "tuple") (e_v 0)))) (t_not (t_v (e_v 0)))) (s_ret (e_k (.bl false))) s_nil)
  (s_seq (s_set 1 (e_op ixD (e_v 0) (e_k (.int 0))))
  (s_seq (s_if (t_or (t_not (t_v (e_isi (ktB "str") (e_v 1)))) (t_b (e_op (eqD true) (e_call (f1 lenD) (a_cons (e_v 0) a_nil)) (e_kget items (e_v 1))))) (s_ret (e_k (.bl false))) s_nil)
  (s_seq (s_if (t_b (e_op (eqD false) (e_v 1) (e_k (.str "choose")))) (s_ret (e_and (e_isi (ktB "tuple") (e_op ixD (e_v 0) (e_k (.int 1)))) (e_isi (ktB "tuple") (e_op ixD (e_v 0) (e_k (.int 2)))))) s_nil)
  (s_ret (e_k (.bl true)))))))
noncomputable def m_has_form : FM := runDef 1 2 (b_has_form)

abbrev s_fault_of : Stmt := top 27
noncomputable def b_fault_of : SM := (s_seq (s_if (t_b (e_op (eqD false) (e_v 2) (e_k (.int 8)))) (s_ret (e_k (.str "size"))) s_nil)
  (s_seq (s_if (t_not (t_v (e_fn tr0 m_has_form (a_cons (e_v 0) a_nil)))) (s_ret (e_k (.str "form"))) s_nil)
  (s_seq (s_set 4 (e_op ixD (e_v 0) (e_k (.int 0))))
  (s_seq (s_if (t_and (t_b (e_op (eqD false) (e_v 4) (e_k (.str "choose")))) (t_b (e_op (eqD false) (e_op divD (e_call (f1 lenD) (a_cons (e_v 1) a_nil)) (e_k (.int 2))) (e_k (.int 2))))) (s_ret (e_k (.str "nested"))) s_nil)
  (s_seq (s_if (t_and (t_b (e_op (inF false) (e_v 4) (e_tup (a_cons (e_k (.str "lock")) (a_cons (e_k (.str "unlock")) a_nil))))) (t_not (t_v (e_fn tr0 m_is_name (a_cons (e_op ixD (e_v 0) (e_k (.int 1))) a_nil))))) (s_ret (e_k (.str "name"))) s_nil)
  (s_seq (s_if (t_and (t_b (e_op (eqD false) (e_v 4) (e_k (.str "take")))) (t_b (e_op (eqD false) (e_v 3) (e_k (.int 3))))) (s_ret (e_k (.str "full"))) s_nil)
  (s_ret (e_k .non))))))))
noncomputable def m_fault_of : FM := runDef 4 5 (b_fault_of)

abbrev s_Check___init__ : Stmt := inClass (top 26) 0
noncomputable def b_Check___init__ : SM := (s_fld [(2, 0)] (e_v 0) (e_dnew [.non]))
noncomputable def m_Check___init__ : FM := runDef 1 1 (b_Check___init__)

abbrev s_Check_check_branch : Stmt := inClass (top 26) 1
noncomputable def b_Check_check_branch (m_Check_check_statement : FM) : SM := (s_seq (s_for (i_enum (e_v 1)) (g_tup (g_cons (g_name 4) (g_cons (g_name 5) g_nil))) (s_set 3 (e_mth tr0 2 m_Check_check_statement (e_v 0) (a_cons (e_v 5) (a_cons (e_op addT (e_v 2) (e_ttp (a_cons (e_v 4) a_nil))) (a_cons (e_v 3) a_nil))))))
  (s_ret (e_v 3)))
noncomputable def m_Check_check_branch' (m_Check_check_statement : FM) : FM := runDef 4 6 (b_Check_check_branch m_Check_check_statement)

abbrev s_Check_check_statement : Stmt := inClass (top 26) 2
noncomputable def b_Check_check_statement (m_Check_check_branch : FM) : SM := (s_seq (s_set 4 (e_fn tr0 m_fault_of (a_cons (e_v 1) (a_cons (e_v 2) (a_cons (e_call (f1 dlenD) (a_cons (e_fld [(2, 0)] (e_v 0)) a_nil)) (a_cons (e_v 3) a_nil))))))
  (s_seq (s_if (t_b (e_op (isD true) (e_v 4) (e_k .non))) s_bad s_nil)
  (s_seq (s_dput (e_v 1) (e_fld [(2, 0)] (e_v 0)) (e_v 2))
  (s_seq (s_if (t_b (e_op (eqD false) (e_op ixD (e_v 1) (e_k (.int 0))) (e_k (.str "choose")))) (s_seq (s_set 5 (e_mth tr0 2 m_Check_check_branch (e_v 0) (a_cons (e_op ixD (e_v 1) (e_k (.int 1))) (a_cons (e_op addT (e_v 2) (e_ttp (a_cons (e_k (.int 0)) a_nil))) (a_cons (e_v 3) a_nil)))))
  (s_seq (s_set 6 (e_mth tr0 2 m_Check_check_branch (e_v 0) (a_cons (e_op ixD (e_v 1) (e_k (.int 2))) (a_cons (e_op addT (e_v 2) (e_ttp (a_cons (e_k (.int 1)) a_nil))) (a_cons (e_v 3) a_nil)))))
  (s_ret (e_call (f2 max2D) (a_cons (e_v 5) (a_cons (e_v 6) a_nil)))))) s_nil)
  (s_ret (e_fn tr0 m_held_after (a_cons (e_op ixD (e_v 1) (e_k (.int 0))) (a_cons (e_v 3) a_nil))))))))
noncomputable def m_Check_check_statement' (m_Check_check_branch : FM) : FM := runDef 4 7 (b_Check_check_statement m_Check_check_branch)

noncomputable def mCC : Nat → FM × FM
  | 0 => (runDef 4 6 s_bad, runDef 4 7 s_bad)
  | n + 1 => (m_Check_check_branch' (mCC n).2, m_Check_check_statement' (mCC n).1)
noncomputable def m_Check_check_branch : FM := (mCC 6).1

abbrev s_Script___init__ : Stmt := inClass (top 23) 0
noncomputable def b_Script___init__ : SM := (s_seq (s_if (t_not (t_v (e_isi (ktB "tuple") (e_v 1)))) s_bad s_nil)
  (s_seq (s_if (t_not (t_v (e_v 1))) s_bad s_nil)
  (s_seq (s_set 2 (e_mk tr0 2 m_Check___init__ a_nil))
  (s_seq (s_ex (e_mth tr0 2 m_Check_check_branch (e_v 2) (a_cons (e_v 1) (a_cons (e_ttp a_nil) (a_cons (e_k (.int 0)) a_nil)))))
  (s_seq (s_fld [(1, 0)] (e_v 0) (e_v 1))
  (s_seq (s_fld [(1, 1)] (e_v 0) (e_fld [(1, 1), (2, 0)] (e_v 2)))
  (s_fld [(1, 2)] (e_v 0) (e_call (f1 tupleD) (a_cons (e_call (f1 dlistD) (a_cons (e_fld [(1, 1)] (e_v 0)) a_nil)) a_nil)))))))))
noncomputable def m_Script___init__ : FM := runDef 2 3 (b_Script___init__)

abbrev s_Script___contains__ : Stmt := inClass (top 23) 2
noncomputable def b_Script___contains__ : SM := (s_seq (s_if (t_or (t_not (t_v (e_isi (ktB "tuple") (e_v 1)))) (t_not (t_v (e_call (f1 allD) (a_cons (e_lcG [2] (i_seq (e_v 1)) (g_name 2) t_yes (e_fn tr0 m_is_integer (a_cons (e_v 2) a_nil)) finL) a_nil))))) (s_ret (e_k (.bl false))) s_nil)
  (s_ret (e_op (dinD false) (e_v 1) (e_fld [(1, 1)] (e_v 0)))))
noncomputable def m_Script___contains__ : FM := runDef 2 3 (b_Script___contains__)

abbrev s_Script___getitem__ : Stmt := inClass (top 23) 3
noncomputable def b_Script___getitem__ : SM := (s_seq (s_if (t_b (e_ownIn tr0 true 1 m_Script___contains__ (e_v 1) (e_v 0))) s_bad s_nil)
  (s_ret (e_op dgetD (e_fld [(1, 1)] (e_v 0)) (e_v 1))))
noncomputable def m_Script___getitem__ : FM := runDef 2 2 (b_Script___getitem__)

abbrev s_answers_of : Stmt := top 24
noncomputable def b_answers_of : SM := (s_ret (e_if (t_b (e_op (eqD false) (e_op ixD (e_v 0) (e_k (.int 0))) (e_k (.str "choose")))) (e_tup (a_cons (e_k (.int 0)) (a_cons (e_k (.int 1)) a_nil))) (e_tup (a_cons (e_k (.int 0)) a_nil))))
noncomputable def m_answers_of : FM := runDef 1 1 (b_answers_of)

abbrev s_is_answer : Stmt := top 25
noncomputable def b_is_answer : SM := (s_ret (e_and (e_fn tr0 m_is_integer (a_cons (e_v 1) a_nil)) (e_op (inF false) (e_v 1) (e_fn tr0 m_answers_of (a_cons (e_v 0) a_nil)))))
noncomputable def m_is_answer : FM := runDef 2 2 (b_is_answer)

abbrev s_Script_behind : Stmt := inClass (top 23) 7
noncomputable def b_Script_behind : SM := (s_seq (whileS (t_v (e_v 1)) (s_seq (s_set 2 (e_op addD (e_sl (e_v 1) o_none (o_some (e_neg (e_k (.int 1))))) (e_tup (a_cons (e_op addD (e_op ixD (e_v 1) (e_neg (e_k (.int 1)))) (e_k (.int 1))) a_nil))))
  (s_seq (s_if (t_b (e_op (dinD false) (e_v 2) (e_fld [(1, 1)] (e_v 0)))) (s_ret (e_v 2)) s_nil)
  (s_set 1 (e_sl (e_v 1) o_none (o_some (e_neg (e_k (.int 2)))))))) 20)
  (s_ret (e_k .non)))
noncomputable def m_Script_behind : FM := runDef 2 3 (b_Script_behind)

abbrev s_Script_after : Stmt := inClass (top 23) 6
noncomputable def b_Script_after : SM := (s_seq (s_set 3 (e_own2 tr0 1 m_Script___getitem__ (e_v 0) (e_v 1)))
  (s_seq (s_set 4 (e_op ixD (e_v 3) (e_k (.int 0))))
  (s_seq (s_if (t_not (t_v (e_fn tr0 m_is_answer (a_cons (e_v 3) (a_cons (e_v 2) a_nil))))) s_bad s_nil)
  (s_seq (s_if (t_b (e_op (eqD false) (e_v 4) (e_k (.str "leave")))) (s_ret (e_k .non)) s_nil)
  (s_seq (s_if (t_and (t_b (e_op (eqD false) (e_v 4) (e_k (.str "choose")))) (t_v (e_op ixD (e_v 3) (e_op addD (e_k (.int 1)) (e_v 2))))) (s_ret (e_op addD (e_v 1) (e_tup (a_cons (e_v 2) (a_cons (e_k (.int 0)) a_nil))))) s_nil)
  (s_ret (e_mth tr0 1 m_Script_behind (e_v 0) (a_cons (e_v 1) a_nil))))))))
noncomputable def m_Script_after : FM := runDef 3 5 (b_Script_after)

abbrev s_with_lock : Stmt := top 33
noncomputable def b_with_lock : SM := (s_ret (e_if (t_b (e_op (inF false) (e_v 1) (e_v 0))) (e_v 0) e_bad))
noncomputable def m_with_lock : FM := runDef 2 2 (b_with_lock)

abbrev s_executed : Stmt := top 32
noncomputable def b_executed : SM := (s_seq (s_asg (e_v 1) (g_tup (g_cons (g_name 3) (g_cons (g_name 4) (g_cons (g_name 5) (g_cons (g_name 6) g_nil))))))
  (s_seq (s_set 7 (e_own2 tr0 1 m_Script___getitem__ (e_v 0) (e_v 3)))
  (s_seq (s_set 8 (e_op ixD (e_v 7) (e_k (.int 0))))
  (s_seq (s_asg2 (e_tup a_nil) (g_name 9) (g_name 10))
  (s_seq (s_if (t_b (e_op (eqD false) (e_v 8) (e_k (.str "take")))) (s_par 5 6 (a_cons (e_op addD (e_v 5) (e_sl (e_v 6) o_none (o_some (e_k (.int 1))))) (a_cons (e_sl (e_v 6) (o_some (e_k (.int 1))) o_none) a_nil))) (s_if (t_b (e_op (eqD false) (e_v 8) (e_k (.str "commit")))) (s_par 9 5 (a_cons (e_v 5) (a_cons (e_tup a_nil) a_nil))) (s_if (t_b (e_op (eqD false) (e_v 8) (e_k (.str "rollback")))) (s_par 10 5 (a_cons (e_v 5) (a_cons (e_tup a_nil) a_nil))) (s_if (t_b (e_op (eqD false) (e_v 8) (e_k (.str "drop")))) (s_par 10 6 (a_cons (e_v 6) (a_cons (e_tup a_nil) a_nil))) (s_if (t_b (e_op (eqD false) (e_v 8) (e_k (.str "leave")))) s_bad (s_if (t_b (e_op (eqD false) (e_v 8) (e_k (.str "lock")))) (s_set 4 (e_fn tr0 m_with_lock (a_cons (e_v 4) (a_cons (e_op ixD (e_v 7) (e_k (.int 1))) a_nil)))) (s_if (t_b (e_op (eqD false) (e_v 8) (e_k (.str "unlock")))) (s_set 4 (e_call (f1 tupleD) (a_cons (e_lcG [11] (i_seq (e_v 4)) (g_name 11) (t_b (e_op (eqD true) (e_v 11) (e_op ixD (e_v 7) (e_k (.int 1))))) (e_v 11) finL) a_nil))) s_nil)))))))
  (s_seq (s_set 12 (e_mth tr0 1 m_Script_after (e_v 0) (a_cons (e_v 3) (a_cons (e_v 2) a_nil))))
  (s_seq (s_if (t_b (e_op (isD false) (e_v 12) (e_k .non))) (s_ret (e_tup (a_cons (e_tup (a_cons (e_tup (a_cons (e_k (.int 0)) a_nil)) (a_cons (e_tup a_nil) (a_cons (e_tup a_nil) (a_cons (e_v 6) a_nil))))) (a_cons (e_v 9) (a_cons (e_op addD (e_v 10) (e_v 5)) a_nil))))) s_nil)
  (s_ret (e_tup (a_cons (e_tup (a_cons (e_v 12) (a_cons (e_v 4) (a_cons (e_v 5) (a_cons (e_v 6) a_nil))))) (a_cons (e_v 9) (a_cons (e_v 10) a_nil))))))))))))
noncomputable def m_executed : FM := runDef 3 13 (b_executed)

abbrev s_script_of : Stmt := top 52
noncomputable def b_script_of : SM := (s_seq (s_if (t_v (e_isi kt_Script (e_v 0))) (s_ret (e_v 0)) s_nil)
  (s_nox (s_ret (e_mk trunc 1 m_Script___init__ (a_cons (e_v 0) a_nil)))))
noncomputable def m_script_of : FM := runDef 1 2 (b_script_of)

abbrev s_Kind___init__ : Stmt := inClass (top 50) 0
noncomputable def b_Kind___init__ : SM := (s_seq (s_if (t_not (t_v (e_fn tr0 m_is_name (a_cons (e_v 1) a_nil)))) s_bad s_nil)
  (s_seq (s_set 2 (e_fn tr0 m_script_of (a_cons (e_v 2) a_nil)))
  (s_seq (s_if (t_not (t_v (e_fn tr0 m_is_within (a_cons (e_v 3) (a_cons (e_k (.int 1)) (a_cons (e_k (.int 3)) a_nil)))))) s_bad s_nil)
  (s_seq (s_if (t_not (t_v (e_fn tr0 m_is_within (a_cons (e_v 4) (a_cons (e_k (.int 1)) (a_cons (e_k (.int 3)) a_nil)))))) s_bad s_nil)
  (s_seq (s_fld [(4, 0)] (e_v 0) (e_v 1))
  (s_seq (s_fld [(4, 1)] (e_v 0) (e_v 2))
  (s_seq (s_fld [(4, 2)] (e_v 0) (e_v 3))
  (s_fld [(4, 3)] (e_v 0) (e_v 4)))))))))
noncomputable def m_Kind___init__ : FM := runDef 5 5 (b_Kind___init__)

abbrev s_count_of_sessions : Stmt := top 55
noncomputable def b_count_of_sessions : SM := (s_ret (e_call (f1 sumD) (a_cons (e_lcG [1] (i_seq (e_v 0)) (g_name 1) t_yes (e_fld [(4, 3)] (e_v 1)) finL) a_nil)))
noncomputable def m_count_of_sessions : FM := runDef 1 2 (b_count_of_sessions)

abbrev s_are_kinds : Stmt := top 54
noncomputable def b_are_kinds : SM := (s_seq (s_if (t_or (t_not (t_v (e_v 0))) (t_not (t_v (e_call (f1 allD) (a_cons (e_lcG [1] (i_seq (e_v 0)) (g_name 1) t_yes (e_isi kt_Kind (e_v 1)) finL) a_nil))))) (s_ret (e_k (.bl false))) s_nil)
  (s_seq (s_if (t_b (e_op ltD (e_lens (e_lcG [1] (i_seq (e_v 0)) (g_name 1) t_yes (e_fld [(4, 0)] (e_v 1)) finL)) (e_call (f1 lenD) (a_cons (e_v 0) a_nil)))) (s_ret (e_k (.bl false))) s_nil)
  (s_ret (e_op leD (e_fn tr0 m_count_of_sessions (a_cons (e_v 0) a_nil)) (e_k (.int 3))))))
noncomputable def m_are_kinds : FM := runDef 1 2 (b_are_kinds)

abbrev s_fault_of_system : Stmt := top 53
noncomputable def b_fault_of_system : SM := (s_seq (s_if (t_not (t_v (e_fn tr0 m_are_kinds (a_cons (e_v 0) a_nil)))) (s_ret (e_k (.str "kinds"))) s_nil)
  (s_seq (s_set 4 (e_op (eqD false) (e_fn tr0 m_count_of_sessions (a_cons (e_v 0) a_nil)) (e_k (.int 3))))
  (s_seq (s_if (t_and (t_v (e_v 4)) t_bad) (s_ret (e_k (.str "size"))) s_nil)
  (s_seq (s_if (t_not (t_v (e_fn tr0 m_is_within (a_cons (e_v 1) (a_cons (e_k (.int 0)) (a_cons (e_k (.int 4)) a_nil)))))) (s_ret (e_k (.str "ahead"))) s_nil)
  (s_seq (s_set 6 (e_call (f1 maxD) (a_cons (e_lcG [5] (i_seq (e_v 0)) (g_name 5) t_yes (e_fld [(4, 2)] (e_v 5)) finL) a_nil)))
  (s_seq (s_if (t_and (t_b (e_op (isD true) (e_v 2) (e_k .non))) (t_not (t_v (e_fn tr0 m_is_within (a_cons (e_v 2) (a_cons (e_v 6) (a_cons (e_k (.int 8)) a_nil))))))) (s_ret (e_k (.str "window"))) s_nil)
  (s_seq (s_if (t_not (t_v (e_fn tr0 m_is_within (a_cons (e_v 3) (a_cons (e_k (.int 0)) (a_cons (e_k (.int 2)) a_nil)))))) (s_ret (e_k (.str "crashes"))) s_nil)
  (s_ret (e_k .non)))))))))
noncomputable def m_fault_of_system : FM := runDef 4 7 (b_fault_of_system)

abbrev s_System___init__ : Stmt := inClass (top 51) 0
noncomputable def b_System___init__ : SM := (s_seq (s_set 5 (e_fn tr0 m_fault_of_system (a_cons (e_v 4) (a_cons (e_v 1) (a_cons (e_v 2) (a_cons (e_v 3) a_nil))))))
  (s_seq (s_if (t_b (e_op (isD true) (e_v 5) (e_k .non))) s_bad s_nil)
  (s_seq (s_fld [(5, 0)] (e_v 0) (e_v 4))
  (s_seq (s_fld [(5, 1)] (e_v 0) (e_v 1))
  (s_seq (s_fld [(5, 2)] (e_v 0) (e_v 2))
  (s_seq (s_fld [(5, 3)] (e_v 0) (e_v 3))
  (s_fld [(5, 4)] (e_v 0) (e_call (f1 tupleD) (a_cons (e_c2 [6, 7] [7] (i_seq (e_v 4)) (g_name 6) t_yes (i_rng1 (e_fld [(4, 3)] (e_v 6))) (g_name 7) t_yes (addL2 (e_fld [(4, 0)] (e_v 6))) [] finL) a_nil)))))))))
noncomputable def m_System___init__ : FM := runDef 5 8 (b_System___init__)

abbrev s_System___getitem__ : Stmt := inClass (top 51) 1
noncomputable def b_System___getitem__ : SM := (s_seq (s_for (i_seq (e_fld [(5, 0)] (e_v 0))) (g_name 2) (s_if (t_and (t_v (e_isi (ktB "str") (e_v 1))) (t_b (e_op (eqD false) (e_fld [(4, 0)] (e_v 2)) (e_v 1)))) (s_ret (e_v 2)) s_nil))
  s_bad)
noncomputable def m_System___getitem__ : FM := runDef 2 3 (b_System___getitem__)

abbrev s_System_kind_of : Stmt := inClass (top 51) 4
noncomputable def b_System_kind_of : SM := (s_seq (s_if (t_not (t_v (e_fn tr0 m_is_within (a_cons (e_v 1) (a_cons (e_k (.int 0)) (a_cons (e_op subD (e_call (f1 lenD) (a_cons (e_fld [(5, 4)] (e_v 0)) a_nil)) (e_k (.int 1))) a_nil)))))) s_bad s_nil)
  (s_ret (e_own2 tr0 5 m_System___getitem__ (e_v 0) (e_op ixD (e_fld [(5, 4)] (e_v 0)) (e_v 1)))))
noncomputable def m_System_kind_of : FM := runDef 2 2 (b_System_kind_of)

abbrev s_next_statement : Stmt := top 34
noncomputable def b_next_statement : SM := (s_ret (e_own2 tr0 1 m_Script___getitem__ (e_fld [(4, 1)] (e_mth tr0 5 m_System_kind_of (e_v 0) (a_cons (e_v 2) a_nil))) (e_op ixD (e_op ixD (e_v 1) (e_v 2)) (e_k (.int 0)))))
noncomputable def m_next_statement : FM := runDef 3 3 (b_next_statement)

abbrev s_needs_block : Stmt := top 35
noncomputable def b_needs_block : SM := (s_seq (s_set 3 (e_op ixD (e_op ixD (e_v 1) (e_v 2)) (e_k (.int 3))))
  (s_ret (e_and (e_nott (e_v 3)) (e_op (eqD false) (e_op ixD (e_fn tr0 m_next_statement (a_cons (e_v 0) (a_cons (e_v 1) (a_cons (e_v 2) a_nil)))) (e_k (.int 0))) (e_k (.str "take"))))))
noncomputable def m_needs_block : FM := runDef 3 4 (b_needs_block)

abbrev s_must_wait : Stmt := top 36
noncomputable def b_must_wait : SM := (s_seq (s_set 4 (e_fn tr0 m_next_statement (a_cons (e_v 0) (a_cons (e_v 1) (a_cons (e_v 2) a_nil)))))
  (s_seq (s_if (t_b (e_op (eqD false) (e_op ixD (e_v 4) (e_k (.int 0))) (e_k (.str "lock")))) (s_ret (e_call (f1 anyD) (a_cons (e_lcG [5, 6] (i_enum (e_v 1)) (g_tup (g_cons (g_name 5) (g_cons (g_name 6) g_nil))) (t_b (e_op (eqD true) (e_v 5) (e_v 2))) (e_op (inF false) (e_op ixD (e_v 4) (e_k (.int 1))) (e_op ixD (e_v 6) (e_k (.int 1)))) finL) a_nil))) s_nil)
  (s_seq (s_if (t_or (t_b (e_op (isD false) (e_fld [(5, 2)] (e_v 0)) (e_k .non))) (t_or (t_b (e_op (isD false) (e_v 3) (e_k .non))) (t_not (t_v (e_fn tr0 m_needs_block (a_cons (e_v 0) (a_cons (e_v 1) (a_cons (e_v 2) a_nil)))))))) (s_ret (e_k (.bl false))) s_nil)
  (s_ret (e_op gtD (e_op addD (e_v 3) (e_fld [(4, 2)] (e_mth tr0 5 m_System_kind_of (e_v 0) (a_cons (e_v 2) a_nil)))) (e_fld [(5, 2)] (e_v 0)))))))
noncomputable def m_must_wait : FM := runDef 4 7 (b_must_wait)

abbrev s_reserve_after : Stmt := top 37
noncomputable def b_reserve_after : SM := (s_ret (e_if (t_b (e_op leD (e_v 2) (e_v 1))) (e_op subD (e_v 1) (e_v 2)) (e_fld [(5, 1)] (e_v 0))))
noncomputable def m_reserve_after : FM := runDef 3 3 (b_reserve_after)

abbrev s_is_crash : Stmt := top 42
noncomputable def b_is_crash : SM := (s_ret (e_and (e_isi (ktB "tuple") (e_v 0)) (e_and (e_op (eqD false) (e_call (f1 lenD) (a_cons (e_v 0) a_nil)) (e_k (.int 1))) (e_and (e_isi (ktB "str") (e_op ixD (e_v 0) (e_k (.int 0)))) (e_op (eqD false) (e_op ixD (e_v 0) (e_k (.int 0))) (e_k (.str "crash")))))))
noncomputable def m_is_crash : FM := runDef 1 1 (b_is_crash)

abbrev s_Record___init__ : Stmt := inClass (top 12) 0
noncomputable def b_Record___init__ : SM := (s_seq (s_fld [(0, 0)] (e_v 0) (e_v 1))
  (s_seq (s_fld [(0, 1)] (e_v 0) (e_v 2))
  (s_seq (s_fld [(0, 2)] (e_v 0) (e_v 3))
  (s_seq (s_fld [(0, 3)] (e_v 0) (e_v 4))
  (s_seq (s_fld [(0, 4)] (e_v 0) (e_v 5))
  (s_seq (s_fld [(0, 5)] (e_v 0) (e_v 6))
  (s_fld [(0, 6)] (e_v 0) (e_v 7))))))))
noncomputable def m_Record___init__ : FM := runDef 8 8 (b_Record___init__)

abbrev s_Moment___init__ : Stmt := inClass (top 41) 0
noncomputable def b_Moment___init__ : SM := (s_seq (s_fld [(3, 0)] (e_v 0) (e_v 1))
  (s_seq (s_fld [(3, 1)] (e_v 0) (e_k (.int 0)))
  (s_seq (s_fld [(3, 2)] (e_v 0) (e_fld [(5, 1)] (e_v 1)))
  (s_seq (s_fld [(3, 3)] (e_v 0) (e_fld [(0, 5), (3, 3), (5, 3)] (e_v 1)))
  (s_seq (s_fld [(3, 4)] (e_v 0) (e_lcG [2] (i_seq (e_fld [(3, 4), (5, 4)] (e_v 1))) (g_name 2) t_yes (e_k (.tup [.tup [.int 0], .tup [], .tup [], .tup []])) finN))
  (s_seq (s_fld [(3, 5)] (e_v 0) (e_new a_nil))
  (s_seq (s_fld [(3, 6)] (e_v 0) (e_new a_nil))
  (s_seq (s_fld [(3, 7)] (e_v 0) (e_k .non))
  (s_seq (s_fld [(3, 8)] (e_v 0) (e_new a_nil))
  (s_fld [(3, 9)] (e_v 0) (e_k .non)))))))))))
noncomputable def m_Moment___init__ : FM := runDef 2 3 (b_Moment___init__)

abbrev s_Moment_owners : Stmt := inClass (top 41) 3
noncomputable def b_Moment_owners : SM := (s_ret (e_c2 [1, 2, 3, 4, 5, 6] [6] (i_enum (e_fld [(3, 4)] (e_v 0))) (g_tup (g_cons (g_name 1) (g_cons (g_tup (g_cons (g_name 2) (g_cons (g_name 3) (g_cons (g_name 4) (g_cons (g_name 5) g_nil))))) g_nil))) t_yes (i_seq (e_op addD (e_v 4) (e_v 5))) (g_name 6) t_yes (addD2 (e_v 6) (e_v 1)) ([], []) finDL))
noncomputable def m_Moment_owners : FM := runDef 1 7 (b_Moment_owners)

abbrev s_Moment_width : Stmt := inClass (top 41) 4
noncomputable def b_Moment_width : SM := (s_ret (e_call (f1 maxdD) (a_cons (e_lcG [1] (i_seq (e_call (f1 dlistD) (a_cons (e_mth tr0 3 m_Moment_owners (e_v 0) a_nil) a_nil))) (g_name 1) t_yes (e_op subD (e_fld [(3, 1)] (e_v 0)) (e_v 1)) finL) a_nil)))
noncomputable def m_Moment_width : FM := runDef 1 2 (b_Moment_width)

abbrev s_Moment_recorded : Stmt := inClass (top 41) 2
noncomputable def b_Moment_recorded : SM := (s_seq (s_set 1 (e_op addD (e_fld [(3, 1)] (e_v 0)) (e_fld [(3, 2)] (e_v 0))))
  (s_ret (e_mk trunc 0 m_Record___init__ (a_cons (e_call (f1 listD) (a_cons (e_fld [(3, 5)] (e_v 0)) a_nil)) (a_cons (e_call (f1 sortD) (a_cons (e_fld [(3, 6)] (e_v 0)) a_nil)) (a_cons (e_mth tr0 3 m_Moment_owners (e_v 0) a_nil) (a_cons (e_fld [(3, 1)] (e_v 0)) (a_cons (e_v 1) (a_cons (e_fld [(3, 3)] (e_v 0)) (a_cons (e_fld [(3, 7)] (e_v 0)) a_nil))))))))))
noncomputable def m_Moment_recorded : FM := runDef 1 2 (b_Moment_recorded)

abbrev s_Moment_holds_up : Stmt := inClass (top 41) 5
noncomputable def b_Moment_holds_up : SM := (s_ret (e_fn tr0 m_must_wait (a_cons (e_fld [(3, 0)] (e_v 0)) (a_cons (e_fld [(3, 4)] (e_v 0)) (a_cons (e_v 1) (a_cons (e_mth tr0 3 m_Moment_width (e_v 0) a_nil) a_nil))))))
noncomputable def m_Moment_holds_up : FM := runDef 2 2 (b_Moment_holds_up)

abbrev s_Moment_allows : Stmt := inClass (top 41) 6
noncomputable def b_Moment_allows : SM := (s_seq (s_if (t_v (e_fn tr0 m_is_crash (a_cons (e_v 1) a_nil))) (s_ret (e_op gtD (e_fld [(3, 3)] (e_v 0)) (e_k (.int 0)))) s_nil)
  (s_seq (s_if (t_or (t_not (t_v (e_isi (ktB "tuple") (e_v 1)))) (t_b (e_op (eqD true) (e_call (f1 lenD) (a_cons (e_v 1) a_nil)) (e_k (.int 2))))) (s_ret (e_k (.bl false))) s_nil)
  (s_seq (s_asg (e_v 1) (g_tup (g_cons (g_name 2) (g_cons (g_name 3) g_nil))))
  (s_seq (s_if (t_or (t_not (t_v (e_fn tr0 m_is_within (a_cons (e_v 2) (a_cons (e_k (.int 0)) (a_cons (e_op subD (e_call (f1 lenD) (a_cons (e_fld [(3, 4)] (e_v 0)) a_nil)) (e_k (.int 1))) a_nil)))))) (t_v (e_mth tr0 3 m_Moment_holds_up (e_v 0) (a_cons (e_v 2) a_nil)))) (s_ret (e_k (.bl false))) s_nil)
  (s_ret (e_fn tr0 m_is_answer (a_cons (e_fn tr0 m_next_statement (a_cons (e_fld [(3, 0)] (e_v 0)) (a_cons (e_fld [(3, 4)] (e_v 0)) (a_cons (e_v 2) a_nil)))) (a_cons (e_v 3) a_nil))))))))
noncomputable def m_Moment_allows : FM := runDef 2 4 (b_Moment_allows)

abbrev s_Moment_hand_out : Stmt := inClass (top 41) 9
noncomputable def b_Moment_hand_out : SM := (s_seq (s_asg (e_op ixD (e_fld [(3, 4)] (e_v 0)) (e_v 1)) (g_tup (g_cons (g_name 2) (g_cons (g_name 3) (g_cons (g_name 4) (g_cons (g_name 5) g_nil))))))
  (s_seq (s_set 6 (e_fld [(4, 2)] (e_mth tr0 5 m_System_kind_of (e_fld [(3, 0)] (e_v 0)) (a_cons (e_v 1) a_nil))))
  (s_seq (s_set 7 (e_op (rgD .tup) (e_fld [(3, 1)] (e_v 0)) (e_op addD (e_fld [(3, 1)] (e_v 0)) (e_v 6))))
  (s_seq (s_put (e_tup (a_cons (e_v 2) (a_cons (e_v 3) (a_cons (e_v 4) (a_cons (e_v 7) a_nil))))) (e_fld [(3, 4)] (e_v 0)) (e_v 1))
  (s_seq (s_fldaug 3 1 (· + ·) (e_v 0) (e_v 6))
  (s_fld [(3, 2)] (e_v 0) (e_fn tr0 m_reserve_after (a_cons (e_fld [(3, 0)] (e_v 0)) (a_cons (e_fld [(3, 2)] (e_v 0)) (a_cons (e_v 6) a_nil))))))))))
noncomputable def m_Moment_hand_out : FM := runDef 2 8 (b_Moment_hand_out)

abbrev s_Moment_execute_statement : Stmt := inClass (top 41) 8
noncomputable def b_Moment_execute_statement : SM := (s_seq (s_if (t_v (e_fn tr0 m_needs_block (a_cons (e_fld [(3, 0)] (e_v 0)) (a_cons (e_fld [(3, 4)] (e_v 0)) (a_cons (e_v 1) a_nil))))) (s_ex (e_mth tr0 3 m_Moment_hand_out (e_v 0) (a_cons (e_v 1) a_nil))) s_nil)
  (s_seq (s_set 3 (e_fld [(4, 1)] (e_mth tr0 5 m_System_kind_of (e_fld [(3, 0)] (e_v 0)) (a_cons (e_v 1) a_nil))))
  (s_seq (s_asg (e_fn tr0 m_executed (a_cons (e_v 3) (a_cons (e_op ixD (e_fld [(3, 4)] (e_v 0)) (e_v 1)) (a_cons (e_v 2) a_nil)))) (g_tup (g_cons (g_name 4) (g_cons (g_name 5) (g_cons (g_name 6) g_nil)))))
  (s_seq (s_put (e_v 4) (e_fld [(3, 4)] (e_v 0)) (e_v 1))
  (s_seq (s_if (t_v (e_v 5)) (s_ex (e_meth tyL appD (e_fld [(3, 5)] (e_v 0)) (a_cons (e_tup (a_cons (e_v 1) (a_cons (e_v 5) a_nil))) a_nil))) s_nil)
  (s_ex (e_meth tyL ext2D (e_fld [(3, 6)] (e_v 0)) (a_cons (e_v 6) a_nil))))))))
noncomputable def m_Moment_execute_statement : FM := runDef 3 7 (b_Moment_execute_statement)

abbrev s_Moment_execute : Stmt := inClass (top 41) 7
noncomputable def b_Moment_execute : SM := (s_seq (s_if (t_v (e_fn tr0 m_is_crash (a_cons (e_v 1) a_nil))) s_bad (s_seq (s_asg (e_v 1) (g_tup (g_cons (g_name 2) (g_cons (g_name 3) g_nil))))
  (s_ex (e_mth tr0 3 m_Moment_execute_statement (e_v 0) (a_cons (e_v 2) (a_cons (e_v 3) a_nil))))))
  (s_seq (s_ex (e_meth tyL appD (e_fld [(3, 8)] (e_v 0)) (a_cons (e_v 1) a_nil)))
  (s_seq (s_set 4 (e_mth tr0 3 m_Moment_width (e_v 0) a_nil))
  (s_if (t_and (t_b (e_op (isD true) (e_v 4) (e_k .non))) (t_or (t_b (e_op (isD false) (e_fld [(3, 7)] (e_v 0)) (e_k .non))) (t_b (e_op gtD (e_v 4) (e_fld [(3, 7)] (e_v 0)))))) (s_fld [(3, 7)] (e_v 0) (e_v 4)) s_nil))))
noncomputable def m_Moment_execute : FM := runDef 2 5 (b_Moment_execute)

abbrev s_follow : Stmt := top 40
noncomputable def b_follow : SM := (s_seq (s_if (t_not (t_v (e_isi (ktB "list") (e_v 1)))) s_bad s_nil)
  (s_for (i_enum (e_v 1)) (g_tup (g_cons (g_name 2) (g_cons (g_name 3) g_nil))) (s_seq (s_if (t_not (t_v (e_mth tr0 3 m_Moment_allows (e_v 0) (a_cons (e_v 3) a_nil)))) s_bad s_nil)
  (s_ex (e_mth tr0 3 m_Moment_execute (e_v 0) (a_cons (e_v 3) a_nil))))))
noncomputable def m_follow : FM := runDef 2 4 (b_follow)

abbrev s_run : Stmt := top 39
noncomputable def b_run : SM := (s_seq (s_set 2 (e_mk tr0 3 m_Moment___init__ (a_cons (e_v 0) a_nil)))
  (s_seq (s_ex (e_fn tr0 m_follow (a_cons (e_v 2) (a_cons (e_v 1) a_nil))))
  (s_ret (e_mth tr0 3 m_Moment_recorded (e_v 2) a_nil))))
noncomputable def m_run : FM := runDef 2 3 (b_run)

abbrev s__law_pool : Stmt := top 57
noncomputable def b__law_pool : SM := (s_seq (s_set 2 (e_op addD (e_v 1) (e_k (.int 1))))
  (s_seq (s_if (t_b (e_op ltD (e_v 1) (e_call (f1 lenD) (a_cons (e_v 0) a_nil)))) (s_set 2 (e_call (f1 intcD) (a_cons (e_op ixD (e_v 0) (e_v 1)) a_nil))) s_nil)
  (s_ret (e_new (a_cons (e_call (f2 max2D) (a_cons (e_k (.int 0)) (a_cons (e_op subD (e_v 2) (e_op powD (e_k (.int 10)) (e_k (.int 18)))) a_nil))) (a_cons (e_op modD (e_call (f1 intcD) (a_cons (e_v 2) a_nil)) (e_k (.int 2147483647))) (a_cons (e_k (.int 0)) a_nil)))))))
noncomputable def m__law_pool : FM := runDef 2 3 (b__law_pool)

abbrev s__law_draw : Stmt := top 58
noncomputable def b__law_draw : SM := (s_seq (s_if (t_b (e_op gtD (e_op ixD (e_v 0) (e_k (.int 0))) (e_k (.int 0)))) (s_seq (s_set 2 (e_op modD (e_call (f1 intcD) (a_cons (e_op ixD (e_v 0) (e_k (.int 0))) a_nil)) (e_v 1)))
  (s_seq (s_put (e_op divD (e_op ixD (e_v 0) (e_k (.int 0))) (e_v 1)) (e_v 0) (e_k (.int 0)))
  (s_ret (e_v 2)))) s_nil)
  (s_seq (s_put (e_op addD (e_op ixD (e_v 0) (e_k (.int 2))) (e_k (.int 1))) (e_v 0) (e_k (.int 2)))
  (s_seq (s_set 3 (e_op modD (e_call (f1 intcD) (a_cons (e_op mulD (e_op addD (e_op addD (e_op ixD (e_v 0) (e_k (.int 1))) (e_op mulD (e_k (.int 7919)) (e_op ixD (e_v 0) (e_k (.int 2))))) (e_k (.int 1))) (e_k (.int 48271))) a_nil)) (e_k (.int 2147483647))))
  (s_seq (s_set 3 (e_op modD (e_call (f1 intcD) (a_cons (e_op mulD (e_v 3) (e_op addD (e_op divD (e_v 3) (e_k (.int 1009))) (e_k (.int 69621)))) a_nil)) (e_k (.int 2147483647))))
  (s_seq (s_set 3 (e_op modD (e_call (f1 intcD) (a_cons (e_op mulD (e_v 3) (e_op addD (e_op divD (e_v 3) (e_k (.int 2003))) (e_k (.int 40692)))) a_nil)) (e_k (.int 2147483399))))
  (s_ret (e_op modD (e_call (f1 intcD) (a_cons (e_v 3) a_nil)) (e_v 1))))))))
noncomputable def m__law_draw : FM := runDef 2 4 (b__law_draw)

abbrev s__law_names : Stmt := top 59
noncomputable def b__law_names : SM := (s_seq (s_set 1 (e_k (.str "abcdefghijklmnopqrstuvwxyz")))
  (s_seq (s_set 2 (e_k (.str "")))
  (s_seq (s_for (i_rng1 (e_fn tr0 m__law_draw (a_cons (e_v 0) (a_cons (e_k (.int 8)) a_nil)))) (g_name 3) (s_set 2 (e_op addD (e_v 2) (e_op ixD (e_v 1) (e_fn tr0 m__law_draw (a_cons (e_v 0) (a_cons (e_k (.int 26)) a_nil)))))))
  (s_seq (s_set 4 (e_fn tr0 m__law_draw (a_cons (e_v 0) (a_cons (e_op addD (e_call (f1 lenD) (a_cons (e_v 2) a_nil)) (e_k (.int 1))) a_nil))))
  (s_seq (s_set 5 (e_fn tr0 m__law_draw (a_cons (e_v 0) (a_cons (e_k (.int 26)) a_nil))))
  (s_seq (s_set 6 (e_lst (a_cons (e_v 5) (a_cons (e_op modD (e_call (f1 intcD) (a_cons (e_op addD (e_op addD (e_v 5) (e_k (.int 1))) (e_fn tr0 m__law_draw (a_cons (e_v 0) (a_cons (e_k (.int 12)) a_nil)))) a_nil)) (e_k (.int 26))) (a_cons (e_op modD (e_call (f1 intcD) (a_cons (e_op addD (e_op addD (e_v 5) (e_k (.int 14))) (e_fn tr0 m__law_draw (a_cons (e_v 0) (a_cons (e_k (.int 12)) a_nil)))) a_nil)) (e_k (.int 26))) a_nil)))))
  (s_ret (e_lcG [7] (i_seq (e_v 6)) (g_name 7) t_yes (e_op addD (e_op addD (e_sl (e_v 2) o_none (o_some (e_v 4))) (e_op ixD (e_v 1) (e_v 7))) (e_sl (e_v 2) (o_some (e_v 4)) o_none)) finL))))))))
noncomputable def m__law_names : FM := runDef 1 8 (b__law_names)

abbrev s_law : Stmt := top 60
noncomputable def b_law : SM := (s_seq (s_set 1 (e_fn tr0 m__law_pool (a_cons (e_v 0) (a_cons (e_k (.int 0)) a_nil))))
  (s_seq (s_set 2 (e_op addD (e_k (.int 1)) (e_fn tr0 m__law_draw (a_cons (e_v 1) (a_cons (e_k (.int 3)) a_nil)))))
  (s_seq (s_set 3 (e_op (eqD false) (e_fn tr0 m__law_draw (a_cons (e_v 1) (a_cons (e_k (.int 2)) a_nil))) (e_k (.int 1))))
  (s_seq (s_set 4 (e_op ixD (e_fn tr0 m__law_names (a_cons (e_v 1) a_nil)) (e_k (.int 0))))
  (s_seq (s_set 5 (e_tup (a_cons (e_tup (a_cons (e_k (.str "take")) a_nil)) (a_cons (e_tup (a_cons (e_k (.str "choose")) (a_cons (e_tup (a_cons (e_tup (a_cons (e_k (.str "commit")) a_nil)) a_nil)) (a_cons (e_tup (a_cons (e_tup (a_cons (e_k (.str "rollback")) a_nil)) a_nil)) a_nil)))) a_nil))))
  (s_seq (s_set 6 (e_mks trunc 5 m_System___init__ gSystem 0 (a_cons (e_mkk trunc 4 m_Kind___init__ gKind 2 1 (a_cons (e_v 4) (a_cons (e_v 5) a_nil)) (a_cons (e_v 2) a_nil)) a_nil) a_nil))
  (s_seq (s_set 7 (e_lcG [8] (i_rng2 (e_k (.int 1)) (e_call (f1 lenD) (a_cons (e_v 0) a_nil))) (g_name 8) t_yes (e_fn tr0 m__law_draw (a_cons (e_fn tr0 m__law_pool (a_cons (e_v 0) (a_cons (e_v 8) a_nil))) (a_cons (e_k (.int 2)) a_nil))) finL))
  (s_seq (s_set 9 (e_lst a_nil))
  (s_seq (s_for (i_seq (e_v 7)) (g_name 10) (s_set 9 (e_op addD (e_v 9) (e_lst (a_cons (e_tup (a_cons (e_k (.int 0)) (a_cons (e_k (.int 0)) a_nil))) (a_cons (e_tup (a_cons (e_k (.int 0)) (a_cons (e_v 10) a_nil))) (a_cons (e_tup (a_cons (e_k (.int 0)) (a_cons (e_k (.int 0)) a_nil))) a_nil)))))))
  (s_seq (s_set 11 (e_call (f1 lenD) (a_cons (e_v 7) a_nil)))
  (s_seq (s_if (t_v (e_v 3)) (s_seq (s_set 9 (e_op addD (e_v 9) (e_lst (a_cons (e_tup (a_cons (e_k (.int 0)) (a_cons (e_k (.int 0)) a_nil))) a_nil))))
  (s_set 11 (e_op addD (e_v 11) (e_k (.int 1))))) s_nil)
  (s_seq (s_set 12 (e_call (f1 listD) (a_cons (e_v 9) a_nil)))
  (s_seq (s_set 13 (e_fn trunc m_run (a_cons (e_v 6) (a_cons (e_v 12) a_nil))))
  (s_seq (s_set 14 (e_lcG [8] (i_rng1 (e_call (f1 lenD) (a_cons (e_v 7) a_nil))) (g_name 8) (t_b (e_op (eqD false) (e_op ixD (e_v 7) (e_v 8)) (e_k (.int 0)))) (e_tup (a_cons (e_k (.int 0)) (a_cons (e_tup (a_cons (e_v 8) a_nil)) a_nil))) finL))
  (s_seq (s_set 15 (e_lcG [8] (i_rng1 (e_call (f1 lenD) (a_cons (e_v 7) a_nil))) (g_name 8) (t_b (e_op (eqD false) (e_op ixD (e_v 7) (e_v 8)) (e_k (.int 1)))) (e_v 8) finL))
  (s_seq (s_set 16 (e_op mulD (e_op divD (e_op subD (e_op addD (e_v 11) (e_v 2)) (e_k (.int 1))) (e_v 2)) (e_v 2)))
  (s_seq (s_set 17 (e_dnew []))
  (s_seq (s_for (i_rng2 (e_call (f1 lenD) (a_cons (e_v 7) a_nil)) (e_v 16)) (g_name 18) (s_dput (e_k (.int 0)) (e_v 17) (e_v 18)))
  (s_seq (s_if (t_or (t_b (e_op (eqD true) (e_fld [(0, 0), (3, 5)] (e_v 13)) (e_v 14))) (t_or (t_b (e_op (eqD true) (e_fld [(0, 1), (3, 6)] (e_v 13)) (e_v 15))) (t_or (t_b (e_op dneD (e_fld [(0, 2)] (e_v 13)) (e_v 17))) (t_b (e_op (eqD true) (e_v 12) (e_v 9)))))) (s_ret (e_k (.bl false))) s_nil)
  (s_seq (s_if (t_or (t_b (e_op (eqD true) (e_fld [(0, 3), (3, 1)] (e_v 13)) (e_v 16))) (t_or (t_b (e_op (eqD true) (e_fld [(0, 4)] (e_v 13)) (e_v 16))) (t_b (e_op (eqD true) (e_fld [(0, 5), (3, 3), (5, 3)] (e_v 13)) (e_k (.int 0)))))) (s_ret (e_k (.bl false))) s_nil)
  (s_seq (s_if (t_b (e_op (eqD false) (e_v 11) (e_k (.int 0)))) (s_ret (e_op (isD false) (e_fld [(0, 6), (3, 7)] (e_v 13)) (e_k .non))) s_nil)
  (s_ret (e_op (eqD false) (e_fld [(0, 6), (3, 7)] (e_v 13)) (e_v 2))))))))))))))))))))))))
noncomputable def m_law : FM := runDef 1 19 (b_law)

end Mm
set_option maxRecDepth 100000
namespace Mm
open PySem L2
/-! words -/
@[simp] theorem w_take_commit : (("take" : Str) = "commit") = False := by simp only [eq_iff_iff, iff_false]; decide +kernel
@[simp] theorem w_take_rollback : (("take" : Str) = "rollback") = False := by simp only [eq_iff_iff, iff_false]; decide +kernel
@[simp] theorem w_take_drop : (("take" : Str) = "drop") = False := by simp only [eq_iff_iff, iff_false]; decide +kernel
@[simp] theorem w_take_leave : (("take" : Str) = "leave") = False := by simp only [eq_iff_iff, iff_false]; decide +kernel
@[simp] theorem w_take_lock : (("take" : Str) = "lock") = False := by simp only [eq_iff_iff, iff_false]; decide +kernel
@[simp] theorem w_take_unlock : (("take" : Str) = "unlock") = False := by simp only [eq_iff_iff, iff_false]; decide +kernel
@[simp] theorem w_take_choose : (("take" : Str) = "choose") = False := by simp only [eq_iff_iff, iff_false]; decide +kernel
@[simp] theorem w_take_crash : (("take" : Str) = "crash") = False := by simp only [eq_iff_iff, iff_false]; decide +kernel
@[simp] theorem w_commit_take : (("commit" : Str) = "take") = False := by simp only [eq_iff_iff, iff_false]; decide +kernel
@[simp] theorem w_commit_rollback : (("commit" : Str) = "rollback") = False := by simp only [eq_iff_iff, iff_false]; decide +kernel
@[simp] theorem w_commit_drop : (("commit" : Str) = "drop") = False := by simp only [eq_iff_iff, iff_false]; decide +kernel
@[simp] theorem w_commit_leave : (("commit" : Str) = "leave") = False := by simp only [eq_iff_iff, iff_false]; decide +kernel
@[simp] theorem w_commit_lock : (("commit" : Str) = "lock") = False := by simp only [eq_iff_iff, iff_false]; decide +kernel
@[simp] theorem w_commit_unlock : (("commit" : Str) = "unlock") = False := by simp only [eq_iff_iff, iff_false]; decide +kernel
@[simp] theorem w_commit_choose : (("commit" : Str) = "choose") = False := by simp only [eq_iff_iff, iff_false]; decide +kernel
@[simp] theorem w_commit_crash : (("commit" : Str) = "crash") = False := by simp only [eq_iff_iff, iff_false]; decide +kernel
@[simp] theorem w_rollback_take : (("rollback" : Str) = "take") = False := by simp only [eq_iff_iff, iff_false]; decide +kernel
@[simp] theorem w_rollback_commit : (("rollback" : Str) = "commit") = False := by simp only [eq_iff_iff, iff_false]; decide +kernel
@[simp] theorem w_rollback_drop : (("rollback" : Str) = "drop") = False := by simp only [eq_iff_iff, iff_false]; decide +kernel
@[simp] theorem w_rollback_leave : (("rollback" : Str) = "leave") = False := by simp only [eq_iff_iff, iff_false]; decide +kernel
@[simp] theorem w_rollback_lock : (("rollback" : Str) = "lock") = False := by simp only [eq_iff_iff, iff_false]; decide +kernel
@[simp] theorem w_rollback_unlock : (("rollback" : Str) = "unlock") = False := by simp only [eq_iff_iff, iff_false]; decide +kernel
@[simp] theorem w_rollback_choose : (("rollback" : Str) = "choose") = False := by simp only [eq_iff_iff, iff_false]; decide +kernel
@[simp] theorem w_rollback_crash : (("rollback" : Str) = "crash") = False := by simp only [eq_iff_iff, iff_false]; decide +kernel
@[simp] theorem w_drop_take : (("drop" : Str) = "take") = False := by simp only [eq_iff_iff, iff_false]; decide +kernel
@[simp] theorem w_drop_commit : (("drop" : Str) = "commit") = False := by simp only [eq_iff_iff, iff_false]; decide +kernel
@[simp] theorem w_drop_rollback : (("drop" : Str) = "rollback") = False := by simp only [eq_iff_iff, iff_false]; decide +kernel
@[simp] theorem w_drop_leave : (("drop" : Str) = "leave") = False := by simp only [eq_iff_iff, iff_false]; decide +kernel
@[simp] theorem w_drop_lock : (("drop" : Str) = "lock") = False := by simp only [eq_iff_iff, iff_false]; decide +kernel
@[simp] theorem w_drop_unlock : (("drop" : Str) = "unlock") = False := by simp only [eq_iff_iff, iff_false]; decide +kernel
@[simp] theorem w_drop_choose : (("drop" : Str) = "choose") = False := by simp only [eq_iff_iff, iff_false]; decide +kernel
@[simp] theorem w_drop_crash : (("drop" : Str) = "crash") = False := by simp only [eq_iff_iff, iff_false]; decide +kernel
@[simp] theorem w_leave_take : (("leave" : Str) = "take") = False := by simp only [eq_iff_iff, iff_false]; decide +kernel
@[simp] theorem w_leave_commit : (("leave" : Str) = "commit") = False := by simp only [eq_iff_iff, iff_false]; decide +kernel
@[simp] theorem w_leave_rollback : (("leave" : Str) = "rollback") = False := by simp only [eq_iff_iff, iff_false]; decide +kernel
@[simp] theorem w_leave_drop : (("leave" : Str) = "drop") = False := by simp only [eq_iff_iff, iff_false]; decide +kernel
@[simp] theorem w_leave_lock : (("leave" : Str) = "lock") = False := by simp only [eq_iff_iff, iff_false]; decide +kernel
@[simp] theorem w_leave_unlock : (("leave" : Str) = "unlock") = False := by simp only [eq_iff_iff, iff_false]; decide +kernel
@[simp] theorem w_leave_choose : (("leave" : Str) = "choose") = False := by simp only [eq_iff_iff, iff_false]; decide +kernel
@[simp] theorem w_leave_crash : (("leave" : Str) = "crash") = False := by simp only [eq_iff_iff, iff_false]; decide +kernel
@[simp] theorem w_lock_take : (("lock" : Str) = "take") = False := by simp only [eq_iff_iff, iff_false]; decide +kernel
@[simp] theorem w_lock_commit : (("lock" : Str) = "commit") = False := by simp only [eq_iff_iff, iff_false]; decide +kernel
@[simp] theorem w_lock_rollback : (("lock" : Str) = "rollback") = False := by simp only [eq_iff_iff, iff_false]; decide +kernel
@[simp] theorem w_lock_drop : (("lock" : Str) = "drop") = False := by simp only [eq_iff_iff, iff_false]; decide +kernel
@[simp] theorem w_lock_leave : (("lock" : Str) = "leave") = False := by simp only [eq_iff_iff, iff_false]; decide +kernel
@[simp] theorem w_lock_unlock : (("lock" : Str) = "unlock") = False := by simp only [eq_iff_iff, iff_false]; decide +kernel
@[simp] theorem w_lock_choose : (("lock" : Str) = "choose") = False := by simp only [eq_iff_iff, iff_false]; decide +kernel
@[simp] theorem w_lock_crash : (("lock" : Str) = "crash") = False := by simp only [eq_iff_iff, iff_false]; decide +kernel
@[simp] theorem w_unlock_take : (("unlock" : Str) = "take") = False := by simp only [eq_iff_iff, iff_false]; decide +kernel
@[simp] theorem w_unlock_commit : (("unlock" : Str) = "commit") = False := by simp only [eq_iff_iff, iff_false]; decide +kernel
@[simp] theorem w_unlock_rollback : (("unlock" : Str) = "rollback") = False := by simp only [eq_iff_iff, iff_false]; decide +kernel
@[simp] theorem w_unlock_drop : (("unlock" : Str) = "drop") = False := by simp only [eq_iff_iff, iff_false]; decide +kernel
@[simp] theorem w_unlock_leave : (("unlock" : Str) = "leave") = False := by simp only [eq_iff_iff, iff_false]; decide +kernel
@[simp] theorem w_unlock_lock : (("unlock" : Str) = "lock") = False := by simp only [eq_iff_iff, iff_false]; decide +kernel
@[simp] theorem w_unlock_choose : (("unlock" : Str) = "choose") = False := by simp only [eq_iff_iff, iff_false]; decide +kernel
@[simp] theorem w_unlock_crash : (("unlock" : Str) = "crash") = False := by simp only [eq_iff_iff, iff_false]; decide +kernel
@[simp] theorem w_choose_take : (("choose" : Str) = "take") = False := by simp only [eq_iff_iff, iff_false]; decide +kernel
@[simp] theorem w_choose_commit : (("choose" : Str) = "commit") = False := by simp only [eq_iff_iff, iff_false]; decide +kernel
@[simp] theorem w_choose_rollback : (("choose" : Str) = "rollback") = False := by simp only [eq_iff_iff, iff_false]; decide +kernel
@[simp] theorem w_choose_drop : (("choose" : Str) = "drop") = False := by simp only [eq_iff_iff, iff_false]; decide +kernel
@[simp] theorem w_choose_leave : (("choose" : Str) = "leave") = False := by simp only [eq_iff_iff, iff_false]; decide +kernel
@[simp] theorem w_choose_lock : (("choose" : Str) = "lock") = False := by simp only [eq_iff_iff, iff_false]; decide +kernel
@[simp] theorem w_choose_unlock : (("choose" : Str) = "unlock") = False := by simp only [eq_iff_iff, iff_false]; decide +kernel
@[simp] theorem w_choose_crash : (("choose" : Str) = "crash") = False := by simp only [eq_iff_iff, iff_false]; decide +kernel
@[simp] theorem w_crash_take : (("crash" : Str) = "take") = False := by simp only [eq_iff_iff, iff_false]; decide +kernel
@[simp] theorem w_crash_commit : (("crash" : Str) = "commit") = False := by simp only [eq_iff_iff, iff_false]; decide +kernel
@[simp] theorem w_crash_rollback : (("crash" : Str) = "rollback") = False := by simp only [eq_iff_iff, iff_false]; decide +kernel
@[simp] theorem w_crash_drop : (("crash" : Str) = "drop") = False := by simp only [eq_iff_iff, iff_false]; decide +kernel
@[simp] theorem w_crash_leave : (("crash" : Str) = "leave") = False := by simp only [eq_iff_iff, iff_false]; decide +kernel
@[simp] theorem w_crash_lock : (("crash" : Str) = "lock") = False := by simp only [eq_iff_iff, iff_false]; decide +kernel
@[simp] theorem w_crash_unlock : (("crash" : Str) = "unlock") = False := by simp only [eq_iff_iff, iff_false]; decide +kernel
@[simp] theorem w_crash_choose : (("crash" : Str) = "choose") = False := by simp only [eq_iff_iff, iff_false]; decide +kernel
@[simp] theorem it_take : items.lookup ("take" : Str) = some 1 := by decide +kernel
@[simp] theorem it_commit : items.lookup ("commit" : Str) = some 1 := by decide +kernel
@[simp] theorem it_rollback : items.lookup ("rollback" : Str) = some 1 := by decide +kernel
@[simp] theorem it_drop : items.lookup ("drop" : Str) = some 1 := by decide +kernel
@[simp] theorem it_leave : items.lookup ("leave" : Str) = some 1 := by decide +kernel
@[simp] theorem it_lock : items.lookup ("lock" : Str) = some 2 := by decide +kernel
@[simp] theorem it_unlock : items.lookup ("unlock" : Str) = some 2 := by decide +kernel
@[simp] theorem it_choose : items.lookup ("choose" : Str) = some 3 := by decide +kernel

theorem kitbs : kitB "int" "int" = some true ∧ kitB "int" "bool" = some false ∧ kitB "str" "str" = some true ∧ kitB "tuple" "tuple" = some true ∧ kitB "list" "list" = some true ∧ kitB "NoneType" "tuple" = some false := by decide +kernel
@[simp] theorem kb1 : ktB "int" (.inl "int") = some true := kitbs.1
@[simp] theorem kb2 : ktB "bool" (.inl "int") = some false := kitbs.2.1
@[simp] theorem kb3 : ktB "str" (.inl "str") = some true := kitbs.2.2.1
@[simp] theorem kb4 : ktB "tuple" (.inl "tuple") = some true := kitbs.2.2.2.1
@[simp] theorem kb5 : ktB "list" (.inl "list") = some true := kitbs.2.2.2.2.1
/-! loops over what does not stand in the store -/
@[simp] theorem loopS_nil (g : GM) (b : SM) (env : Env) (S : Sto) : loopS g b none [] env S = .next env S := by unfold loopS; simp
open Classical in
@[simp] theorem loopS_cons (g : GM) (b : SM) (d : D) (r : List D) (env : Env) (S : Sto) : loopS g b none (d :: r) env S = match g d env with
    | none => .bad
    | some env1 => match b env1 S with
      | .next env2 S2 => loopS g b none r env2 S2
      | .cnt env2 S2 => loopS g b none r env2 S2
      | .brk env2 S2 => .next env2 S2
      | x => x := by
  conv => lhs; unfold loopS
  rw [RS.if_pos (stay_none S [])] <;>
  (cases g d env with
  | none => rfl
  | some env1 => cases hb : b env1 S <;> simp only [hb])
@[simp] theorem lcM_nil (g : GM) (t : TM) (m : EM) (env : Env) (acc : List D) (S : Sto) : lcM g t m env none [] acc S = .ok acc S := by unfold lcM; simp
open Classical in
@[simp] theorem lcM_cons (g : GM) (t : TM) (m : EM) (env : Env) (d : D) (r acc : List D) (S : Sto) : lcM g t m env none (d :: r) acc S = match g d env with
    | none => .bad
    | some env1 => (t env1 S).nox.bind fun k S1 => if k = true then (m env1 S1).nox.bind fun y S2 => .if (acc.length < sizeLine) (lcM g t m env none r (acc ++ [y]) S2) else lcM g t m env none r acc S1 := by
  conv => lhs; unfold lcM
  rw [R.if_pos (stay_none S [])] <;> (cases g d env <;> rfl)
@[simp] theorem stay_iff (S : Sto) (xs ds : List D) (k : Nat) : Stay S (xs, some (k, ds)) ↔ S[k]? = some (.lst ds) := ⟨fun h => h k ds rfl, fun h j es e => by cases e; exact h⟩
/-! small defs -/
@[simp] theorem is_integer_i (i : Int) (S : Sto) : m_is_integer [.int i] S = .ok (.bl true) S := by
  unfold m_is_integer; rw [runDef_eq (by rfl)]; unfold b_is_integer; simp [isiD]
@[simp] theorem is_within_i (i lo hi : Int) (S : Sto) : m_is_within [.int i, .int lo, .int hi] S = .ok (.bl (decide (lo ≤ i) && decide (i ≤ hi))) S := by
  unfold m_is_within; rw [runDef_eq (by rfl)]; unfold b_is_within; simp
  by_cases h : lo ≤ i <;> simp [h]
@[simp] theorem has_form_1 (x : Str) (h : items.lookup x = some 1) (S : Sto) : m_has_form [.tup [.str x]] S = .ok (.bl true) S := by
  unfold m_has_form; rw [runDef_eq (by rfl)]; unfold b_has_form
  have hc : (x = "choose") = False := by
    simp only [eq_iff_iff, iff_false]; rintro rfl; simp at h
  simp [isiD, h, hc]
@[simp] theorem has_form_c (a b : List D) (S : Sto) : m_has_form [.tup [.str "choose", .tup a, .tup b]] S = .ok (.bl true) S := by
  unfold m_has_form; rw [runDef_eq (by rfl)]; unfold b_has_form
  simp [isiD]
end Mm
set_option maxRecDepth 100000
namespace Mm
open PySem L2
/-! places behind a store -/
@[simp] theorem ga0 (S l : Sto) : (S ++ l)[S.length]? = l[0]? := by rw [List.getElem?_append_right (Nat.le_refl _), Nat.sub_self]
@[simp] theorem gak (S l : Sto) (k : Nat) : (S ++ l)[S.length + k]? = l[k]? := by rw [List.getElem?_append_right (by omega)]; congr 1; omega
@[simp] theorem sa0 (S l : Sto) (o : SO) : (S ++ l).set S.length o = S ++ l.set 0 o := by rw [List.set_append_right _ _ (Nat.le_refl _), Nat.sub_self]
@[simp] theorem sak (S l : Sto) (k : Nat) (o : SO) : (S ++ l).set (S.length + k) o = S ++ l.set k o := by rw [List.set_append_right _ _ (by omega)]; congr 2; omega
open Classical in
theorem tr_app (S l : Sto) : Tr S.length S (S ++ l) := fun k hk => .inl (List.getElem?_append_left hk)
open Classical in
@[simp] theorem trunc_app (S l : Sto) (d : D) : trunc S (.ok d (S ++ l)) = .ofO (rsvD S.length (S ++ l) d) S := by
  unfold trunc
  dsimp only
  rw [R.if_pos (tr_app S l)]
  simp
open Classical in
@[simp] theorem trunc_self (S : Sto) (d : D) : trunc S (.ok d S) = .ofO (rsvD S.length S d) S := by
  have := trunc_app S [] d
  simpa using this
@[simp] theorem lenD_ttp (ds : List D) (S : Sto) : lenD (.ttp ds) S = .ok (.int ds.length) S := rfl
open Classical in
@[simp] theorem isI_iff (k j : Nat) (S : Sto) : isI k (.loc j) S ↔ ∃ ds, S[j]? = some (.ins k ds) := by
  unfold isI
  simp only [insOf_loc']
  constructor
  · rintro ⟨ds, h⟩
    cases ho : S[j]? with
    | none => rw [ho] at h; cases h
    | some o => cases o with
      | ins c es => rw [ho] at h; simp at h; exact ⟨es, by rw [h.1]⟩
      | _ => rw [ho] at h; cases h
  · rintro ⟨ds, h⟩
    exact ⟨ds, by rw [h]⟩
@[simp] theorem isI_ob (k j : Nat) (ds : List D) (S : Sto) : isI k (.obj j ds) S ↔ j = k := ⟨fun ⟨es, h⟩ => by cases h; rfl, fun h => ⟨ds, by rw [h]; rfl⟩⟩
open Classical in
@[simp] theorem e_mth_eq' (tr : TrF) (k : Nat) (m : FM) (mo : EM) (am : AM) (env : Env) (S : Sto) : e_mth tr k m mo am env S = (mo env S).bind fun d S1 => .if (isI k d S1) ((am env S1).bind fun ds S2 => tr S2 (m (d :: ds) S2)) := rfl
open Classical in
@[simp] theorem e_own2_eq' (tr : TrF) (k : Nat) (m : FM) (ma mb : EM) (env : Env) (S : Sto) : e_own2 tr k m ma mb env S = (ma env S).bind fun x S1 => (mb env S1).bind fun y S2 => .if (isI k x S2) (tr S2 (m [x, y] S2)) := rfl
open Classical in
@[simp] theorem e_ownIn_eq' (tr : TrF) (neg : Bool) (k : Nat) (m : FM) (ma mb : EM) (env : Env) (S : Sto) : e_ownIn tr neg k m ma mb env S = (ma env S).bind fun y S1 => (mb env S1).bind fun x S2 => .if (isI k x S2) ((tr S2 (m [x, y] S2)).nox.bind fun d S3 => match d with
  | .bl b => .ok (.bl (neg ^^ b)) S3
  | _ => .bad) := rfl
@[simp] theorem e_mk_eq' (tr : TrF) (k : Nat) (m : FM) (am : AM) (env : Env) (S : Sto) : e_mk tr k m am env S = (am env S).bind fun ds S1 => tr S1 (mkD k m ds S1) := rfl
@[simp] theorem i_enum_eq (m : EM) (env : Env) (S : Sto) : i_enum m env S = (m env S).bind fun d S1 => (R.ofO (itsOf S1 d) S1).bind fun it S2 => .ok (numD 0 it.1, it.2) S2 := rfl
@[simp] theorem i_rng1_eq (m : EM) (env : Env) (S : Sto) : i_rng1 m env S = (m env S).bind fun d S1 => match d with
  | .int j => .if (-(2 ^ 62) ≤ j ∧ j < 2 ^ 62) (.ok (rngD 0 j.toNat, none) S1)
  | _ => .bad := rfl
@[simp] theorem i_rng2_eq (m m2 : EM) (env : Env) (S : Sto) : i_rng2 m m2 env S = (m env S).bind fun d S1 => (m2 env S1).bind fun e S2 => match d, e with
  | .int i, .int j => .if (-(2 ^ 62) ≤ i ∧ i < 2 ^ 62 ∧ -(2 ^ 62) ≤ j ∧ j < 2 ^ 62) (.ok (rngD i (j - i).toNat, none) S2)
  | _, _ => .bad := rfl
@[simp] theorem numD_nil (i : Nat) : numD i [] = [] := rfl
@[simp] theorem numD_cons (i : Nat) (d : D) (r : List D) : numD i (d :: r) = .tup [.int i, d] :: numD (i + 1) r := rfl
@[simp] theorem g_tup_eq (gs : GMs) (ds : List D) (env : Env) : g_tup gs (.tup ds) env = gs ds env := rfl
@[simp] theorem g_cons_eq (g : GM) (gs : GMs) (d : D) (r : List D) (env : Env) : g_cons g gs (d :: r) env = (g d env).bind fun env1 => gs r env1 := rfl
@[simp] theorem g_nil_eq (env : Env) : g_nil [] env = some env := rfl
@[simp] theorem isNon_non : isNon .non = true := rfl
@[simp] theorem isNon_int (i : Int) : isNon (.int i) = false := rfl
@[simp] theorem isNon_str (i : Str) : isNon (.str i) = false := rfl
@[simp] theorem isNon_tup (i : List D) : isNon (.tup i) = false := rfl
@[simp] theorem isNon_obj (k : Nat) (i : List D) : isNon (.obj k i) = false := rfl
@[simp] theorem isNon_loc (k : Nat) : isNon (.loc k) = false := rfl
@[simp] theorem nlt (n k : Nat) : (n + k < n) = False := by simp
/-! the script -/
def stmts : List D := [.tup [.str "take"], .tup [.str "choose", .tup [.tup [.str "commit"]], .tup [.tup [.str "rollback"]]]]

theorem mCC_s (n : Nat) : mCC (n + 1) = (m_Check_check_branch' (mCC n).2, m_Check_check_statement' (mCC n).1) := rfl
theorem cdiv2 (k : Nat) : CDiv ((k : Nat) : Int) 2 := by unfold CDiv; omega
theorem fault_take (pl : List D) (n h : Int) (S : Sto) (n8 : (n = 8) = False) (h3 : (h = 3) = False) : m_fault_of [.tup [.str "take"], .ttp pl, .int n, .int h] S = .ok .non S := by
  simp [m_fault_of, runDef, b_fault_of, inF, DV, inV, eqV, n8, h3]
theorem fault_commit (pl : List D) (n h : Int) (S : Sto) (n8 : (n = 8) = False) : m_fault_of [.tup [.str "commit"], .ttp pl, .int n, .int h] S = .ok .non S := by
  simp [m_fault_of, runDef, b_fault_of, inF, DV, inV, eqV, n8]
theorem fault_rollback (pl : List D) (n h : Int) (S : Sto) (n8 : (n = 8) = False) : m_fault_of [.tup [.str "rollback"], .ttp pl, .int n, .int h] S = .ok .non S := by
  simp [m_fault_of, runDef, b_fault_of, inF, DV, inV, eqV, n8]
theorem fault_choose (a b : List D) (pl : List D) (n h : Int) (S : Sto) (n8 : (n = 8) = False) (hp : ((pl.length : Int) / 2 = 2) = False) : m_fault_of [.tup [.str "choose", .tup a, .tup b], .ttp pl, .int n, .int h] S = .ok .non S := by
  simp [m_fault_of, runDef, b_fault_of, inF, DV, inV, eqV, n8, hp, cdiv2]
end Mm
set_option maxRecDepth 100000
namespace Mm
open PySem L2
@[simp] theorem unK_int (i : Int) : unK (.int i) = some (.inl i) := rfl
@[simp] theorem unK_str (i : Str) : unK (.str i) = some (.inr i) := rfl
@[simp] theorem unK_non : unK .non = none := rfl
@[simp] theorem unR_ttp (ds : List D) : unR (.ttp ds) = allO unK ds := rfl
@[simp] theorem unT_tup (ds : List D) : unT (.tup ds) = allO unK ds := rfl
@[simp] theorem kkO_cons (d : D) (r : List D) : kkO (d :: r) = (unK d).bind fun x => (kkO r).map fun y => x :: y := rfl
@[simp] theorem kkO_nil : kkO [] = some [] := rfl
@[simp] theorem ktO_non (r : List D) : ktO (.non :: r) = allO unT r := rfl
@[simp] theorem keyD_i (i : Int) : keyD (.inl i) = .int i := rfl
@[simp] theorem keyD_s (i : Str) : keyD (.inr i) = .str i := rfl
theorem szb : 1000 < sizeLine := by decide
@[simp] theorem szp0 : (0 < sizeLine) = True := eq_true (by have := szb; omega)
@[simp] theorem szq0 : (0 ≤ sizeLine) = True := eq_true (by have := szb; omega)
@[simp] theorem szp1 : (1 < sizeLine) = True := eq_true (by have := szb; omega)
@[simp] theorem szq1 : (1 ≤ sizeLine) = True := eq_true (by have := szb; omega)
@[simp] theorem szp2 : (2 < sizeLine) = True := eq_true (by have := szb; omega)
@[simp] theorem szq2 : (2 ≤ sizeLine) = True := eq_true (by have := szb; omega)
@[simp] theorem szp3 : (3 < sizeLine) = True := eq_true (by have := szb; omega)
@[simp] theorem szq3 : (3 ≤ sizeLine) = True := eq_true (by have := szb; omega)
@[simp] theorem szp4 : (4 < sizeLine) = True := eq_true (by have := szb; omega)
@[simp] theorem szq4 : (4 ≤ sizeLine) = True := eq_true (by have := szb; omega)
@[simp] theorem szp5 : (5 < sizeLine) = True := eq_true (by have := szb; omega)
@[simp] theorem szq5 : (5 ≤ sizeLine) = True := eq_true (by have := szb; omega)
@[simp] theorem szp6 : (6 < sizeLine) = True := eq_true (by have := szb; omega)
@[simp] theorem szq6 : (6 ≤ sizeLine) = True := eq_true (by have := szb; omega)
@[simp] theorem szp7 : (7 < sizeLine) = True := eq_true (by have := szb; omega)
@[simp] theorem szq7 : (7 ≤ sizeLine) = True := eq_true (by have := szb; omega)
@[simp] theorem szp8 : (8 < sizeLine) = True := eq_true (by have := szb; omega)
@[simp] theorem szq8 : (8 ≤ sizeLine) = True := eq_true (by have := szb; omega)
@[simp] theorem szp9 : (9 < sizeLine) = True := eq_true (by have := szb; omega)
@[simp] theorem szq9 : (9 ≤ sizeLine) = True := eq_true (by have := szb; omega)
@[simp] theorem szp10 : (10 < sizeLine) = True := eq_true (by have := szb; omega)
@[simp] theorem szq10 : (10 ≤ sizeLine) = True := eq_true (by have := szb; omega)
@[simp] theorem szp11 : (11 < sizeLine) = True := eq_true (by have := szb; omega)
@[simp] theorem szq11 : (11 ≤ sizeLine) = True := eq_true (by have := szb; omega)
@[simp] theorem szp12 : (12 < sizeLine) = True := eq_true (by have := szb; omega)
@[simp] theorem szq12 : (12 ≤ sizeLine) = True := eq_true (by have := szb; omega)
@[simp] theorem szp13 : (13 < sizeLine) = True := eq_true (by have := szb; omega)
@[simp] theorem szq13 : (13 ≤ sizeLine) = True := eq_true (by have := szb; omega)
theorem szl (n : Nat) (h : n ≤ 1000) : n ≤ sizeLine := Nat.le_trans h (by decide)
@[simp] theorem held_take (h : Int) (S : Sto) : m_held_after [.str "take", .int h] S = .ok (.int (h + 1)) S := by
  simp [m_held_after, runDef, b_held_after]
@[simp] theorem held_commit (h : Int) (S : Sto) : m_held_after [.str "commit", .int h] S = .ok (.int 0) S := by
  simp [m_held_after, runDef, b_held_after, inF, DV, inV, eqV]
@[simp] theorem held_rollback (h : Int) (S : Sto) : m_held_after [.str "rollback", .int h] S = .ok (.int 0) S := by
  simp [m_held_after, runDef, b_held_after, inF, DV, inV, eqV]

theorem dlen_loc (S : Sto) (k : Nat) : dlenD (.loc k) S = .ofO ((dicOf S (.loc k)).map fun p => D.int p.2.length) S := rfl
theorem check_stmts (S : Sto) (o : SO) : ∃ h, m_Check_check_branch [.loc (S.length + 1), .tup stmts, .ttp [], .int 0] (S ++ [o, .ins 2 [.loc (S.length + 2)], .dic [.non] []]) =
    .ok (.int h) (S ++ [o, .ins 2 [.loc (S.length + 2)], .dic [.non, .tup [.int 0], .tup [.int 1], .tup [.int 1, .int 0, .int 0], .tup [.int 1, .int 1, .int 0]] (stmts ++ [.tup [.str "commit"], .tup [.str "rollback"]])]) := by
  refine ⟨0, ?_⟩
  simp [m_Check_check_branch, mCC, m_Check_check_branch', m_Check_check_statement', b_Check_check_branch, b_Check_check_statement, runDef, stmts, fldD, setF, dlen_loc, fault_take, fault_choose, fault_commit, fault_rollback, dputO, putDs, getDs, allO, Nat.add_assoc, List.lookup]
end Mm
set_option maxRecDepth 100000
namespace Mm
open PySem L2
def fks : List D := [.non, .tup [.int 0], .tup [.int 1], .tup [.int 1, .int 0, .int 0], .tup [.int 1, .int 1, .int 0]]
def fvs : List D := stmts ++ [.tup [.str "commit"], .tup [.str "rollback"]]
def scr : D := .obj 1 [.tup stmts, .dic fks fvs, .tup fks.tail]
theorem dlist_loc (S : Sto) (k : Nat) : dlistD (.loc k) S = .ofO (((dicOf S (.loc k)).bind fun p => keysO p.1).map D.lst) S := rfl
theorem script_mk (S : Sto) : trunc S (mkD 1 m_Script___init__ [.tup stmts] S) = .ok scr S := by
  obtain ⟨h, hc⟩ := check_stmts S (.ins 1 [])
  simp only [stmts] at hc
  simp [mkD, m_Script___init__, runDef, b_Script___init__, stmts, isiD, m_Check___init__, b_Check___init__, setF, Nat.add_assoc, hc, fldD, List.lookup, dlist_loc, keysO, allO, tupD, rsvD, rsv, rsvs, D.lo, los, scr, fks, fvs]
def pl0 : D := .tup [.int 0]
def pl1 : D := .tup [.int 1]
def plc : D := .tup [.int 1, .int 0, .int 0]
def plr : D := .tup [.int 1, .int 1, .int 0]
theorem dget_dic (ks ds : List D) (y : D) (S : Sto) : dgetD (.dic ks ds) y S = .ofO ((dgetO (ks, ds) y).bind id) S := rfl
theorem din_dic (ks ds : List D) (y : D) (S : Sto) : dinD false y (.dic ks ds) S = .ofO ((dgetO (ks, ds) y).map fun r => D.bl (false ^^ r.isSome)) S := rfl
theorem has_p {p : List D} (S : Sto) (hp : p = [.int 0] ∨ p = [.int 1] ∨ p = [.int 1, .int 0, .int 0] ∨ p = [.int 1, .int 1, .int 0]) : m_Script___contains__ [scr, .tup p] S = .ok (.bl true) S := by
  rcases hp with rfl | rfl | rfl | rfl <;>
  simp [m_Script___contains__, runDef, b_Script___contains__, isiD, scr, wipeE, allD, fldD, List.lookup, din_dic, dgetO, fks, fvs, stmts, allO, getDs]
open Classical in
@[simp] theorem isI_scr (S : Sto) : isI 1 scr S := ⟨_, rfl⟩
@[simp] theorem fld_found (i : Nat) (S : Sto) : fldD [(1, 1)] scr S = some (.dic fks fvs) := rfl
@[simp] theorem fld_found2 (S : Sto) : fldD [(1, 1), (2, 0)] scr S = some (.dic fks fvs) := rfl
theorem get_p {p : List D} {d : D} (S : Sto) (hp : p = [.int 0] ∨ p = [.int 1] ∨ p = [.int 1, .int 0, .int 0] ∨ p = [.int 1, .int 1, .int 0]) (hd : dgetD (.dic fks fvs) (.tup p) S = .ok d S) : m_Script___getitem__ [scr, .tup p] S = .ok d S := by
  simp [m_Script___getitem__, runDef, b_Script___getitem__, has_p S hp, hd]
  trace_state
@[simp] theorem get_0 (S : Sto) : m_Script___getitem__ [scr, .tup [.int 0]] S = .ok (.tup [.str "take"]) S := get_p S (by simp) (by simp [dget_dic, dgetO, fks, fvs, stmts, allO, getDs])
@[simp] theorem get_1 (S : Sto) : m_Script___getitem__ [scr, .tup [.int 1]] S = .ok (.tup [.str "choose", .tup [.tup [.str "commit"]], .tup [.tup [.str "rollback"]]]) S := get_p S (by simp) (by simp [dget_dic, dgetO, fks, fvs, stmts, allO, getDs])
@[simp] theorem get_c (S : Sto) : m_Script___getitem__ [scr, .tup [.int 1, .int 0, .int 0]] S = .ok (.tup [.str "commit"]) S := get_p S (by simp) (by simp [dget_dic, dgetO, fks, fvs, stmts, allO, getDs])
@[simp] theorem get_r (S : Sto) : m_Script___getitem__ [scr, .tup [.int 1, .int 1, .int 0]] S = .ok (.tup [.str "rollback"]) S := get_p S (by simp) (by simp [dget_dic, dgetO, fks, fvs, stmts, allO, getDs])
end Mm
set_option maxRecDepth 100000
namespace Mm
open PySem L2
@[simp] theorem ans_0 (x : Str) (h : (x = "choose") = False) (S : Sto) : m_is_answer [.tup [.str x], .int 0] S = .ok (.bl true) S := by
  simp [m_is_answer, runDef, b_is_answer, m_answers_of, b_answers_of, h, inF, DV, inV, eqV]
@[simp] theorem ans_c (a b : D) (k : Int) (h : k = 0 ∨ k = 1) (S : Sto) : m_is_answer [.tup [.str "choose", a, b], .int k] S = .ok (.bl true) S := by
  rcases h with rfl | rfl <;> simp [m_is_answer, runDef, b_is_answer, m_answers_of, b_answers_of, inF, DV, inV, eqV]
@[simp] theorem e_neg_eq (m : EM) (env : Env) (S : Sto) : e_neg m env S = (m env S).bind negD := rfl
theorem whileS_s (t : TM) (b : SM) (f : Nat) (env : Env) (S : Sto) : whileS t b (f + 1) env S = (t env S).toS env fun k S1 => if k = true then (match b env S1 with
      | .next env2 S2 => whileS t b f env2 S2
      | .cnt env2 S2 => whileS t b f env2 S2
      | .brk env2 S2 => .next env2 S2
      | x => x) else .next env S1 := rfl
theorem dgets (y : D) : (dgetO (fks, fvs) y) = (unT y).map fun k => getDs [[.inl 0], [.inl 1], [.inl 1, .inl 0, .inl 0], [.inl 1, .inl 1, .inl 0]] fvs k := by
  simp [dgetO, fks, allO]
theorem din_1 (S : Sto) : dinD false (.tup [.int 1]) (.dic fks fvs) S = .ok (.bl true) S := by
  rw [din_dic, dgets]; simp [getDs, fvs, stmts, allO]
theorem din_101 (S : Sto) : dinD false (.tup [.int 1, .int 0, .int 1]) (.dic fks fvs) S = .ok (.bl false) S := by
  rw [din_dic, dgets]; simp [getDs, fvs, stmts, allO]
theorem din_111 (S : Sto) : dinD false (.tup [.int 1, .int 1, .int 1]) (.dic fks fvs) S = .ok (.bl false) S := by
  rw [din_dic, dgets]; simp [getDs, fvs, stmts, allO]
theorem din_2 (S : Sto) : dinD false (.tup [.int 2]) (.dic fks fvs) S = .ok (.bl false) S := by
  rw [din_dic, dgets]; simp [getDs, fvs, stmts, allO]
theorem behind_0 (S : Sto) : m_Script_behind [scr, .tup [.int 0]] S = .ok (.tup [.int 1]) S := by
  simp [m_Script_behind, runDef, b_Script_behind]
  rw [whileS_s (f := 19)]
  simp [ixD, atI, ixN, cutD, HT.sIx, din_1, din_101, din_111, din_2]
theorem behind_c (S : Sto) : m_Script_behind [scr, .tup [.int 1, .int 0, .int 0]] S = .ok (.non) S := by
  simp [m_Script_behind, runDef, b_Script_behind]
  rw [whileS_s (f := 19)]
  simp [ixD, atI, ixN, cutD, HT.sIx, din_1, din_101, din_111, din_2]
  rw [whileS_s (f := 18)]
  simp [ixD, atI, ixN, cutD, HT.sIx, din_1, din_101, din_111, din_2]
  rw [whileS_s (f := 17)]
  simp [ixD, atI, ixN, cutD, HT.sIx, din_1, din_101, din_111, din_2]
theorem behind_r (S : Sto) : m_Script_behind [scr, .tup [.int 1, .int 1, .int 0]] S = .ok (.non) S := by
  simp [m_Script_behind, runDef, b_Script_behind]
  rw [whileS_s (f := 19)]
  simp [ixD, atI, ixN, cutD, HT.sIx, din_1, din_101, din_111, din_2]
  rw [whileS_s (f := 18)]
  simp [ixD, atI, ixN, cutD, HT.sIx, din_1, din_101, din_111, din_2]
  rw [whileS_s (f := 17)]
  simp [ixD, atI, ixN, cutD, HT.sIx, din_1, din_101, din_111, din_2]
@[simp] theorem after_0 (S : Sto) : m_Script_after [scr, .tup [.int 0], .int 0] S = .ok (.tup [.int 1]) S := by
  simp [m_Script_after, runDef, b_Script_after, behind_0]
@[simp] theorem after_1c (S : Sto) : m_Script_after [scr, .tup [.int 1], .int 0] S = .ok (.tup [.int 1, .int 0, .int 0]) S := by
  simp [m_Script_after, runDef, b_Script_after]
@[simp] theorem after_1r (S : Sto) : m_Script_after [scr, .tup [.int 1], .int 1] S = .ok (.tup [.int 1, .int 1, .int 0]) S := by
  simp [m_Script_after, runDef, b_Script_after]
@[simp] theorem after_c (S : Sto) : m_Script_after [scr, .tup [.int 1, .int 0, .int 0], .int 0] S = .ok .non S := by
  simp [m_Script_after, runDef, b_Script_after, behind_c]
@[simp] theorem after_r (S : Sto) : m_Script_after [scr, .tup [.int 1, .int 1, .int 0], .int 0] S = .ok .non S := by
  simp [m_Script_after, runDef, b_Script_after, behind_r]
/-- a session -/
abbrev ses (p tr st : List D) : D := .tup [.tup p, .tup [], .tup tr, .tup st]
theorem cut1 (x : D) (r : List D) : cutD (x :: r) none (some 1) = [x] := by
  simp [cutD, HT.sIx]
theorem cut2 (x : D) (r : List D) : cutD (x :: r) (some 1) none = r := by
  simp [cutD, HT.sIx]
@[simp] theorem exec_0 (x : D) (st : List D) (S : Sto) : m_executed [scr, ses [.int 0] [] (x :: st), .int 0] S = .ok (.tup [ses [.int 1] [x] st, .tup [], .tup []]) S := by
  simp [m_executed, runDef, b_executed, cut1, cut2]
@[simp] theorem exec_1c (tr st : List D) (S : Sto) : m_executed [scr, ses [.int 1] tr st, .int 0] S = .ok (.tup [ses [.int 1, .int 0, .int 0] tr st, .tup [], .tup []]) S := by
  simp [m_executed, runDef, b_executed]
@[simp] theorem exec_1r (tr st : List D) (S : Sto) : m_executed [scr, ses [.int 1] tr st, .int 1] S = .ok (.tup [ses [.int 1, .int 1, .int 0] tr st, .tup [], .tup []]) S := by
  simp [m_executed, runDef, b_executed]
@[simp] theorem exec_c (x : D) (st : List D) (S : Sto) : m_executed [scr, ses [.int 1, .int 0, .int 0] [x] st, .int 0] S = .ok (.tup [ses [.int 0] [] st, .tup [x], .tup []]) S := by
  simp [m_executed, runDef, b_executed]
@[simp] theorem exec_r (x : D) (st : List D) (S : Sto) : m_executed [scr, ses [.int 1, .int 1, .int 0] [x] st, .int 0] S = .ok (.tup [ses [.int 0] [] st, .tup [], .tup [x]]) S := by
  simp [m_executed, runDef, b_executed]
end Mm
set_option maxRecDepth 100000
namespace Mm
open PySem L2
def kin (nm : Str) (ch : Int) : D := .obj 4 [.str nm, scr, .int ch, .int 1]
def sy (nm : Str) (ch : Int) : D := .obj 5 [.tup [kin nm ch], .int 0, .non, .int 0, .tup [.str nm]]
variable (nm : Str) (ch : Int) (S : Sto)
@[simp] theorem k_name : fldD [(4, 0)] (kin nm ch) S = some (.str nm) := rfl
@[simp] theorem k_script : fldD [(4, 1)] (kin nm ch) S = some scr := rfl
@[simp] theorem k_block : fldD [(4, 2)] (kin nm ch) S = some (.int ch) := rfl
@[simp] theorem y_kinds : fldD [(5, 0)] (sy nm ch) S = some (.tup [kin nm ch]) := rfl
@[simp] theorem y_ahead : fldD [(5, 1)] (sy nm ch) S = some (.int 0) := rfl
@[simp] theorem y_window : fldD [(5, 2)] (sy nm ch) S = some .non := rfl
@[simp] theorem y_sessions : fldD [(5, 4)] (sy nm ch) S = some (.tup [.str nm]) := rfl
@[simp] theorem y_sessions2 : fldD [(3, 4), (5, 4)] (sy nm ch) S = some (.tup [.str nm]) := rfl
@[simp] theorem y_crashes : fldD [(0, 5), (3, 3), (5, 3)] (sy nm ch) S = some (.int 0) := rfl
open Classical in
@[simp] theorem isI_sy : isI 5 (sy nm ch) S := ⟨_, rfl⟩
@[simp] theorem kind_eq : m_System_kind_of [sy nm ch, .int 0] S = .ok (kin nm ch) S := by
  simp [m_System_kind_of, runDef, b_System_kind_of, m_System___getitem__, b_System___getitem__, isiD]
@[simp] theorem crash_no (a b : Int) : m_is_crash [.tup [.int a, .int b]] S = .ok (.bl false) S := by
  simp [m_is_crash, runDef, b_is_crash, isiD]
@[simp] theorem reserve_eq (r b : Int) : m_reserve_after [sy nm ch, .int r, .int b] S = .ok (.int (if b ≤ r then r - b else 0)) S := by
  simp only [m_reserve_after, runDef, b_reserve_after]
  by_cases h : b ≤ r <;> simp [h]
def mo (n : Nat) (nm : Str) (ch h : Int) (sp : D) : SO := .ins 3 [sy nm ch, .int h, .int 0, .int 0, .loc (n + 1), .loc (n + 2), .loc (n + 3), sp, .loc (n + 4), .non]
def ste (S : Sto) (nm : Str) (ch h : Int) (p tr st C L : List D) (sp : D) (Dn : List D) : Sto := S ++ [mo S.length nm ch h sp, .lst [ses p tr st], .lst C, .lst L, .lst Dn]
variable (h : Int) (p tr st C L : List D) (sp : D) (Dn : List D)
@[simp] theorem st0 : (ste S nm ch h p tr st C L sp Dn)[S.length]? = some (mo S.length nm ch h sp) := by simp [ste]
@[simp] theorem st1 : (ste S nm ch h p tr st C L sp Dn)[S.length + 1]? = some (.lst [ses p tr st]) := by simp [ste]
@[simp] theorem st2 : (ste S nm ch h p tr st C L sp Dn)[S.length + 2]? = some (.lst C) := by simp [ste]
@[simp] theorem st3 : (ste S nm ch h p tr st C L sp Dn)[S.length + 3]? = some (.lst L) := by simp [ste]
@[simp] theorem st4 : (ste S nm ch h p tr st C L sp Dn)[S.length + 4]? = some (.lst Dn) := by simp [ste]
@[simp] theorem set1 (p' tr' st' : List D) : (ste S nm ch h p tr st C L sp Dn).set (S.length + 1) (.lst [ses p' tr' st']) = ste S nm ch h p' tr' st' C L sp Dn := by simp [ste]
@[simp] theorem set2 (C' : List D) : (ste S nm ch h p tr st C L sp Dn).set (S.length + 2) (.lst C') = ste S nm ch h p tr st C' L sp Dn := by simp [ste]
@[simp] theorem set3 (L' : List D) : (ste S nm ch h p tr st C L sp Dn).set (S.length + 3) (.lst L') = ste S nm ch h p tr st C L' sp Dn := by simp [ste]
@[simp] theorem set4 (D' : List D) : (ste S nm ch h p tr st C L sp Dn).set (S.length + 4) (.lst D') = ste S nm ch h p tr st C L sp D' := by simp [ste]
theorem fld_mo (i : Nat) (x : D) (hx : [sy nm ch, .int h, .int 0, .int 0, .loc (S.length + 1), .loc (S.length + 2), .loc (S.length + 3), sp, .loc (S.length + 4), .non][i]? = some x) : fldD [(3, i)] (.loc S.length) (ste S nm ch h p tr st C L sp Dn) = some x := by
  simp [fldD, mo, List.lookup, hx]
@[simp] theorem fm0 : fldD [(3, 0)] (.loc S.length) (ste S nm ch h p tr st C L sp Dn) = some (sy nm ch) := fld_mo _ _ _ _ _ _ _ _ _ _ _ _ _ rfl
@[simp] theorem fm1 : fldD [(3, 1)] (.loc S.length) (ste S nm ch h p tr st C L sp Dn) = some (.int h) := fld_mo _ _ _ _ _ _ _ _ _ _ _ _ _ rfl
@[simp] theorem fm2 : fldD [(3, 2)] (.loc S.length) (ste S nm ch h p tr st C L sp Dn) = some (.int 0) := fld_mo _ _ _ _ _ _ _ _ _ _ _ _ _ rfl
@[simp] theorem fm3 : fldD [(3, 3)] (.loc S.length) (ste S nm ch h p tr st C L sp Dn) = some (.int 0) := fld_mo _ _ _ _ _ _ _ _ _ _ _ _ _ rfl
@[simp] theorem fm4 : fldD [(3, 4)] (.loc S.length) (ste S nm ch h p tr st C L sp Dn) = some (.loc (S.length + 1)) := fld_mo _ _ _ _ _ _ _ _ _ _ _ _ _ rfl
@[simp] theorem fm5 : fldD [(3, 5)] (.loc S.length) (ste S nm ch h p tr st C L sp Dn) = some (.loc (S.length + 2)) := fld_mo _ _ _ _ _ _ _ _ _ _ _ _ _ rfl
@[simp] theorem fm6 : fldD [(3, 6)] (.loc S.length) (ste S nm ch h p tr st C L sp Dn) = some (.loc (S.length + 3)) := fld_mo _ _ _ _ _ _ _ _ _ _ _ _ _ rfl
@[simp] theorem fm7 : fldD [(3, 7)] (.loc S.length) (ste S nm ch h p tr st C L sp Dn) = some sp := fld_mo _ _ _ _ _ _ _ _ _ _ _ _ _ rfl
@[simp] theorem fm8 : fldD [(3, 8)] (.loc S.length) (ste S nm ch h p tr st C L sp Dn) = some (.loc (S.length + 4)) := fld_mo _ _ _ _ _ _ _ _ _ _ _ _ _ rfl
@[simp] theorem sf1 (x : Int) : setF [(3, 1)] (.loc S.length) (.int x) (ste S nm ch h p tr st C L sp Dn) = some (ste S nm ch x p tr st C L sp Dn) := by
  simp [setF, mo, List.lookup, ste]
@[simp] theorem sf2 : setF [(3, 2)] (.loc S.length) (.int 0) (ste S nm ch h p tr st C L sp Dn) = some (ste S nm ch h p tr st C L sp Dn) := by
  simp [setF, mo, List.lookup, ste]
@[simp] theorem sf7 (x : D) : setF [(3, 7)] (.loc S.length) x (ste S nm ch h p tr st C L sp Dn) = some (ste S nm ch h p tr st C L x Dn) := by
  simp [setF, mo, List.lookup, ste]
open Classical in
@[simp high] theorem isI_mo : isI 3 (.loc S.length) (ste S nm ch h p tr st C L sp Dn) := by
  rw [isI_iff]; exact ⟨_, st0 ..⟩
@[simp] theorem next_eq (d : D) (hd : ∀ S, m_Script___getitem__ [scr, .tup p] S = .ok d S) : m_next_statement [sy nm ch, .loc (S.length + 1), .int 0] (ste S nm ch h p tr st C L sp Dn) = .ok d (ste S nm ch h p tr st C L sp Dn) := by
  simp [m_next_statement, runDef, b_next_statement, hd]
theorem needs_eq (w : Str) (r : List D) (hd : ∀ S, m_Script___getitem__ [scr, .tup p] S = .ok (.tup (.str w :: r)) S) : m_needs_block [sy nm ch, .loc (S.length + 1), .int 0] (ste S nm ch h p tr st C L sp Dn) = .ok (.bl (st.isEmpty && decide (w = "take"))) (ste S nm ch h p tr st C L sp Dn) := by
  simp [m_needs_block, runDef, b_needs_block, next_eq (d := .tup (.str w :: r)) (hd := hd)]
  cases st <;> simp [next_eq (d := .tup (.str w :: r)) (hd := hd)]
end Mm
set_option maxRecDepth 100000
namespace Mm
open PySem L2
section
variable {α : Type} (g : GM) (t : TM) (im : IM) (g1 : GM) (t1 : TM) (add : AddM α) (vs : List Nat) (env : Env) (so : Option (Nat × List D)) (d : D) (r : List D) (acc : α) (S : Sto)
open Classical in
@[simp] theorem inM_nil : inM g t add env none [] acc S = .ok acc S := by
  unfold inM
  exact R.if_pos (stay_none S [])
open Classical in
@[simp] theorem inM_cons : inM g t add env none (d :: r) acc S = match g d env with
    | none => .bad
    | some env1 => (t env1 S).nox.bind fun k S1 => if k = true then (add acc env1 S1).nox.bind fun acc1 S2 => inM g t add env none r acc1 S2 else inM g t add env none r acc S1 := by
  conv => lhs; unfold inM
  rw [R.if_pos (stay_none S [])] <;> (cases g d env <;> rfl)
open Classical in
theorem outM_nil (h : Stay S ([], so)) : outM g t im g1 t1 add vs env so [] acc S = .ok acc S := by
  unfold outM
  exact R.if_pos h
open Classical in
theorem outM_cons (h : Stay S ([], so)) : outM g t im g1 t1 add vs env so (d :: r) acc S = match g d env with
    | none => .bad
    | some env1 => (t env1 S).nox.bind fun k S1 => if k = true then (im env1 S1).nox.bind fun it S2 => (inM g1 t1 add (wipeE env1 vs) it.2 it.1 acc S2).nox.bind fun acc1 S3 => outM g t im g1 t1 add vs env so r acc1 S3 else outM g t im g1 t1 add vs env so r acc S1 := by
  conv => lhs; unfold outM
  rw [R.if_pos h] <;> (cases g d env <;> rfl)
end
open Classical in
theorem inM_ints (env : Env) (he : env[1]? = some (some (.int 0))) (hl : env.length = 7) (S : Sto) : ∀ (xs : List Int) (kk : List Key) (ds : List D), xs.Nodup → (∀ x ∈ xs, Sum.inl x ∉ kk) → kk.length + xs.length ≤ 1000 →
    inM (g_name 6) t_yes (addD2 (e_v 6) (e_v 1)) env none (xs.map .int) (kk, ds) S = .ok (kk ++ xs.map .inl, ds ++ List.replicate xs.length (.int 0)) S
  | [], kk, ds, nd, hk, hn => by
    simp
  | x :: r, kk, ds, nd, hk, hn => by
    have h1 : (kk.length < sizeLine) = True := eq_true (by have := szb; simp at hn; omega)
    have h2 : (env.set 6 (some (D.int x)))[6]? = some (some (.int x)) := List.getElem?_set_self (by omega)
    have h3 : (env.set 6 (some (D.int x)))[1]? = some (some (.int 0)) := by rw [List.getElem?_set_ne (by decide)]; exact he
    have h4 : ¬ (Sum.inl x : Key) ∈ kk := hk x List.mem_cons_self
    have ih := inM_ints env he hl S r (kk ++ [.inl x]) (ds ++ [.int 0]) (List.nodup_cons.mp nd).2 (fun y hy hm => by
      rcases List.mem_append.mp hm with hm | hm
      · exact hk y (List.mem_cons_of_mem _ hy) hm
      · rw [List.mem_singleton] at hm
        cases hm
        exact (List.nodup_cons.mp nd).1 hy) (by simp at hn ⊢; omega)
    simp [h1, h2, h3, putDs, h4, ih, List.replicate_succ]
variable (nm : Str) (ch : Int) (S : Sto) (h : Int) (p tr st C L : List D) (sp : D) (Dn : List D)
open Classical in
theorem owners_eq (xs : List Int) (hx : tr ++ st = xs.map .int) (nd : xs.Nodup) (hl : xs.length ≤ 100) : m_Moment_owners [.loc S.length] (ste S nm ch h p tr st C L sp Dn) = .ok (.dic (xs.map .int) (List.replicate xs.length (.int 0))) (ste S nm ch h p tr st C L sp Dn) := by
  have hll : tr.length + st.length = xs.length := by have := congrArg List.length hx; simpa using this
  have hz : (tr.length + st.length ≤ sizeLine) = True := eq_true (by have := szb; omega)
  have a1 := fun env he hl' => inM_ints env he hl' (ste S nm ch h p tr st C L sp Dn) xs [] [] nd (fun _ _ q => by cases q) (by simp; omega)
  simp only [m_Moment_owners, runDef, b_Moment_owners]
  simp [wipeE]
  rw [outM_cons _ _ _ _ _ _ _ _ _ _ _ _ _ (by rw [stay_iff]; exact st1 ..)]
  simp [hz, hx, wipeE, a1]
  rw [outM_nil _ _ _ _ _ _ _ _ _ _ _ (by rw [stay_iff]; exact st1 ..)]
  simp
theorem lc_width (S : Sto) : ∀ (xs : List Int) (acc : List Int) (env : Env), env = [some (.loc S.length), none] → acc.length + xs.length ≤ 1000 →
    lcM (g_name 1) t_yes (e_op subD (e_fld [(3, 1)] (e_v 0)) (e_v 1)) env none (xs.map .int) (acc.map .int) (ste S nm ch h p tr st C L sp Dn) = .ok ((acc ++ xs.map (h - ·)).map .int) (ste S nm ch h p tr st C L sp Dn)
  | [], acc, env, he, hn => by simp
  | x :: r, acc, env, he, hn => by
    have h1 : (acc.length < sizeLine) = True := eq_true (by have := szb; simp at hn; omega)
    have ih := lc_width S r (acc ++ [h - x]) env he (by simp at hn ⊢; omega)
    simp only [List.map_cons, lcM_cons, he]
    simp only [List.map_append, he, List.map_cons, List.map_nil] at ih
    simp [h1, ih]
def wid (h : Int) (xs : List Int) : D := if xs = [] then .non else .int (maxL (xs.map (h - ·)))
theorem allO_int (xs : List Int) : allO inO (xs.map .int) = some xs := allO_map (g := D.int) (fun _ => rfl) xs
theorem kkO_int (xs : List Int) : kkO (xs.map .int) = some (xs.map .inl) := by
  have := kkO_map (xs.map .inl)
  rw [List.map_map] at this
  exact this
theorem width_eq (xs : List Int) (hx : tr ++ st = xs.map .int) (nd : xs.Nodup) (hl : xs.length ≤ 100) : m_Moment_width [.loc S.length] (ste S nm ch h p tr st C L sp Dn) = .ok (wid h xs) (ste S nm ch h p tr st C L sp Dn) := by
  have l1 := lc_width nm ch h p tr st C L sp Dn S xs [] _ rfl (by simp; omega)
  simp only [List.map_nil, List.nil_append] at l1
  simp only [m_Moment_width, runDef, b_Moment_width]
  have e1 : keysO (xs.map .int) = some (xs.map .int) := by
    unfold keysO
    rw [kkO_int]
    simp [Function.comp_def]
  have e2 : allO inO (xs.map (D.int ∘ fun x => h - x)) = some (xs.map (h - ·)) := by rw [← List.map_map]; exact allO_int _
  simp [owners_eq nm ch S h p tr st C L sp Dn xs hx nd hl, dlistD, e1, e2, wipeE, l1, maxdD, allO_int, wid]
end Mm
set_option maxRecDepth 100000
namespace Mm
open PySem L2
@[simp] theorem s_fldaug_eq (k i : Nat) (g : Int → Int → Int) (mo mv : EM) (env : Env) (S : Sto) : s_fldaug k i g mo mv env S = (mo env S).toS env fun d S1 => (R.ofO (fldD [(k, i)] d S1) S1).toS env fun x S2 => (mv env S2).toS env fun y S3 => match x, y with
  | .int i1, .int j1 => match setF [(k, i)] d (.int (g i1 j1)) S3 with
    | some S4 => .next env S4
    | none => .bad
  | _, _ => .bad := rfl
variable (nm : Str) (ch : Int) (S : Sto) (h : Int) (p tr st C L : List D) (sp : D) (Dn : List D)
/-- the word of the next statement -/
abbrev Nx (p : List D) (w : Str) (r : List D) : Prop := ∀ S, m_Script___getitem__ [scr, .tup p] S = .ok (.tup (.str w :: r)) S
theorem wait_eq (wd : D) {w : Str} {r : List D} (hw : (w = "lock") = False) (hn : Nx p w r) : m_must_wait [sy nm ch, .loc (S.length + 1), .int 0, wd] (ste S nm ch h p tr st C L sp Dn) = .ok (.bl false) (ste S nm ch h p tr st C L sp Dn) := by
  simp [m_must_wait, runDef, b_must_wait, next_eq (d := .tup (.str w :: r)) (hd := hn), hw]
theorem holds_eq {w : Str} {r : List D} (hw : (w = "lock") = False) (hn : Nx p w r) (xs : List Int) (hx : tr ++ st = xs.map .int) (nd : xs.Nodup) (hl : xs.length ≤ 100) : m_Moment_holds_up [.loc S.length, .int 0] (ste S nm ch h p tr st C L sp Dn) = .ok (.bl false) (ste S nm ch h p tr st C L sp Dn) := by
  simp [m_Moment_holds_up, runDef, b_Moment_holds_up, width_eq nm ch S h p tr st C L sp Dn xs hx nd hl, wait_eq nm ch S h p tr st C L sp Dn _ hw hn]
theorem allows_eq {w : Str} {r : List D} (hw : (w = "lock") = False) (hn : Nx p w r) (xs : List Int) (hx : tr ++ st = xs.map .int) (nd : xs.Nodup) (hl : xs.length ≤ 100) (a : Int) (ha : ∀ S, m_is_answer [.tup (.str w :: r), .int a] S = .ok (.bl true) S) :
    m_Moment_allows [.loc S.length, .tup [.int 0, .int a]] (ste S nm ch h p tr st C L sp Dn) = .ok (.bl true) (ste S nm ch h p tr st C L sp Dn) := by
  simp [m_Moment_allows, runDef, b_Moment_allows, isiD, holds_eq nm ch S h p tr st C L sp Dn hw hn xs hx nd hl, next_eq (d := .tup (.str w :: r)) (hd := hn), ha]
theorem hand_eq (c1 : 1 ≤ ch) (c3 : ch ≤ 3) (h0 : 0 ≤ h) (h1 : h ≤ 1000) : m_Moment_hand_out [.loc S.length, .int 0] (ste S nm ch h p tr st C L sp Dn) = .ok .non (ste S nm ch (h + ch) p tr (rngD h ch.toNat) C L sp Dn) := by
  have e : (h + ch - h).toNat = ch.toNat := by omega
  have b1 : (ch ≤ 0) = False := eq_false (by omega)
  have q1 : (-4611686018427387904 ≤ h) = True := eq_true (by omega)
  have q2 : (h < 4611686018427387904) = True := eq_true (by omega)
  have q3 : (-4611686018427387904 ≤ h + ch) = True := eq_true (by omega)
  have q4 : (h + ch < 4611686018427387904) = True := eq_true (by omega)
  have q5 : (ch ≤ 16777216) = True := eq_true (by omega)
  simp [m_Moment_hand_out, runDef, b_Moment_hand_out, ixN, q1, q2, q3, q4, q5, e, b1]
/-- a statement without a block: the session, what is committed, what is lost -/
def addC (C : List D) (c : List D) : List D := if c = [] then C else C ++ [.tup [.int 0, .tup c]]
theorem stmt_eq {w : Str} {r : List D} (hn : Nx p w r) (a : Int) (p' tr' st' c l : List D) (hb : (st.isEmpty && decide (w = "take")) = false) (he : ∀ S, m_executed [scr, ses p tr st, .int a] S = .ok (.tup [ses p' tr' st', .tup c, .tup l]) S) (hC : C.length ≤ 900) (hL : L.length ≤ 900) (hl : l.length ≤ 9) :
    m_Moment_execute_statement [.loc S.length, .int 0, .int a] (ste S nm ch h p tr st C L sp Dn) = .ok .non (ste S nm ch h p' tr' st' (addC C c) (L ++ l) sp Dn) := by
  have z1 : (C.length < sizeLine) = True := eq_true (by have := szb; omega)
  have z2 : (L.length + l.length ≤ sizeLine) = True := eq_true (by have := szb; omega)
  have nb := needs_eq nm ch S h p tr st C L sp Dn w r hn
  rw [hb] at nb
  cases c with
  | nil => simp [m_Moment_execute_statement, runDef, b_Moment_execute_statement, nb, he, ixN, z2, addC]
  | cons x c => simp [m_Moment_execute_statement, runDef, b_Moment_execute_statement, nb, he, ixN, z1, z2, addC]
/-- a take whose store is empty -/
theorem take_eq {w : Str} {r : List D} (c1 : 1 ≤ ch) (c3 : ch ≤ 3) (h0 : 0 ≤ h) (h1 : h ≤ 1000) (hL : L.length ≤ 900) :
    m_Moment_execute_statement [.loc S.length, .int 0, .int 0] (ste S nm ch h [.int 0] [] [] C L sp Dn) = .ok .non (ste S nm ch (h + ch) [.int 1] [.int h] (rngD (h + 1) (ch.toNat - 1)) C L sp Dn) := by
  have z2 : (L.length ≤ sizeLine) = True := eq_true (by have := szb; omega)
  have nb := needs_eq nm ch S h [.int 0] [] [] C L sp Dn "take" [] (fun S => get_0 S)
  obtain ⟨k, hk⟩ : ∃ k, ch.toNat = k + 1 := ⟨ch.toNat - 1, by omega⟩
  have hh := hand_eq nm ch S h [.int 0] [] [] C L sp Dn c1 c3 h0 h1
  rw [hk] at hh
  unfold rngD at hh
  simp [m_Moment_execute_statement, runDef, b_Moment_execute_statement, nb, hh, ixN, z2, hk]
/-- the greatest width so far -/
def upw (sp wd : D) : D := match wd, sp with
  | .non, sp => sp
  | .int w, .int s => if s < w then .int w else .int s
  | wd, _ => wd
theorem execute_eq (a : Int) (h' : Int) (p' tr' st' C' L' : List D) (hs : ∀ Dn, m_Moment_execute_statement [.loc S.length, .int 0, .int a] (ste S nm ch h p tr st C L sp Dn) = .ok .non (ste S nm ch h' p' tr' st' C' L' sp Dn)) (hD : Dn.length ≤ 900) (xs : List Int) (hx : tr' ++ st' = xs.map .int) (nd : xs.Nodup) (hl : xs.length ≤ 100) (hsp : sp = .non ∨ ∃ s, sp = .int s) :
    m_Moment_execute [.loc S.length, .tup [.int 0, .int a]] (ste S nm ch h p tr st C L sp Dn) = .ok .non (ste S nm ch h' p' tr' st' C' L' (upw sp (wid h' xs)) (Dn ++ [.tup [.int 0, .int a]])) := by
  have z1 : (Dn.length < sizeLine) = True := eq_true (by have := szb; omega)
  have wd := fun Dn => width_eq nm ch S h' p' tr' st' C' L' sp Dn xs hx nd hl
  simp [m_Moment_execute, runDef, b_Moment_execute, hs, z1, wd]
  by_cases hx0 : xs = []
  · simp [wid, hx0, upw]
  · rcases hsp with rfl | ⟨s, rfl⟩
    · simp [wid, hx0, upw]
    · by_cases hlt : s < maxL (xs.map (h' - ·))
      · simp [wid, hx0, upw, hlt]
      · simp [wid, hx0, upw, hlt]
end Mm
set_option maxRecDepth 100000
namespace Mm
open PySem L2
noncomputable def fg : GM := g_tup (g_cons (g_name 2) (g_cons (g_name 3) g_nil))
noncomputable def fb : SM := s_seq (s_if (t_not (t_v (e_mth tr0 3 m_Moment_allows (e_v 0) (a_cons (e_v 3) a_nil)))) s_bad s_nil) (s_ex (e_mth tr0 3 m_Moment_execute (e_v 0) (a_cons (e_v 3) a_nil)))
variable (nm : Str) (ch : Int) (S : Sto)
theorem loop_step (h : Int) (p tr st C L : List D) (sp : D) (Dn : List D) (S2 : Sto) (sch stp : D) (x y : Option D) (j : Nat) (r : List D)
    (ha : m_Moment_allows [.loc S.length, stp] (ste S nm ch h p tr st C L sp Dn) = .ok (.bl true) (ste S nm ch h p tr st C L sp Dn)) (he : m_Moment_execute [.loc S.length, stp] (ste S nm ch h p tr st C L sp Dn) = .ok .non S2) :
    loopS fg fb none (numD j (stp :: r)) [some (.loc S.length), some sch, x, y] (ste S nm ch h p tr st C L sp Dn) = loopS fg fb none (numD (j + 1) r) [some (.loc S.length), some sch, some (.int j), some stp] S2 := by
  simp only [numD_cons, loopS_cons]
  simp [fg, fb, ha, he]
def rngI (lo : Int) : Nat → List Int
  | 0 => []
  | k + 1 => lo :: rngI (lo + 1) k
theorem rngD_map : ∀ (k : Nat) (lo : Int), rngD lo k = (rngI lo k).map .int
  | 0, lo => rfl
  | k + 1, lo => by unfold rngD rngI; rw [List.map_cons, rngD_map k]
theorem rngI_mem : ∀ (k : Nat) (lo x : Int), x ∈ rngI lo k → lo ≤ x ∧ x < lo + k
  | 0, lo, x, h => by cases h
  | k + 1, lo, x, h => by
    unfold rngI at h
    rcases List.mem_cons.mp h with rfl | h
    · omega
    · have := rngI_mem k (lo + 1) x h; omega
theorem rngI_len : ∀ (k : Nat) (lo : Int), (rngI lo k).length = k
  | 0, lo => rfl
  | k + 1, lo => by unfold rngI; rw [List.length_cons, rngI_len k]
theorem rngI_nd : ∀ (k : Nat) (lo : Int), (rngI lo k).Nodup
  | 0, lo => List.nodup_nil
  | k + 1, lo => by
    unfold rngI
    refine List.nodup_cons.mpr ⟨fun h => ?_, rngI_nd k _⟩
    have := rngI_mem k _ _ h; omega
theorem wid_rng (h lo : Int) (k : Nat) : wid h (rngI lo (k + 1)) = .int (h - lo) := by
  unfold wid
  rw [if_neg (by simp [rngI])]
  congr 1
  refine (maxL_uniq (by simp [rngI]) fun y hy => ?_).symm
  obtain ⟨x, hx, rfl⟩ := List.mem_map.mp hy
  have := rngI_mem _ _ _ hx
  omega
theorem upw_int (s w : Int) : upw (.int s) (.int w) = if s < w then .int w else .int s := rfl
/-- one answered round: take, the choice, the choice's statement -/
theorem round_eq (i h : Int) (C L : List D) (sp : D) (Dn : List D) (a : Int) (ha : a = 0 ∨ a = 1) (sch : D) (x y : Option D) (j : Nat) (r : List D) (c1 : 1 ≤ ch) (c3 : ch ≤ 3) (hi : 0 ≤ i) (hh : i ≤ h) (hc : h < i + ch) (hm : h ≤ 900) (hC : C.length ≤ 800) (hL : L.length ≤ 800) (hD : Dn.length ≤ 800)
    (hsp : (sp = .non ∧ h = i) ∨ sp = .int ch) :
    ∃ h', h' = (if h = i then h + ch else h) ∧ ∃ Dn' x' y', Dn'.length = Dn.length + 3 ∧ loopS fg fb none (numD j (.tup [.int 0, .int 0] :: .tup [.int 0, .int a] :: .tup [.int 0, .int 0] :: r)) [some (.loc S.length), some sch, x, y] (ste S nm ch h [.int 0] [] (rngD i (h - i).toNat) C L sp Dn) =
      loopS fg fb none (numD (j + 3) r) [some (.loc S.length), some sch, x', y'] (ste S nm ch h' [.int 0] [] (rngD (i + 1) (h' - (i + 1)).toNat) (if a = 0 then C ++ [.tup [.int 0, .tup [.int i]]] else C) (if a = 1 then L ++ [.int i] else L) (.int ch) Dn') := by
  refine ⟨_, rfl, ?_⟩
  -- the take
  have t1 : ∃ k : Nat, (if h = i then h + ch else h) = i + 1 + k ∧ k + 1 ≤ ch ∧ ∀ Dn, Dn.length ≤ 900 → m_Moment_execute [.loc S.length, .tup [.int 0, .int 0]] (ste S nm ch h [.int 0] [] (rngD i (h - i).toNat) C L sp Dn) = .ok .non (ste S nm ch (if h = i then h + ch else h) [.int 1] [.int i] (rngD (i + 1) k) C L (.int ch) (Dn ++ [.tup [.int 0, .int 0]])) := by
    by_cases e : h = i
    · subst e
      obtain ⟨k, hk⟩ : ∃ k, ch.toNat = k + 1 := ⟨ch.toNat - 1, by omega⟩
      refine ⟨k, by rw [if_pos rfl]; omega, by omega, fun Dn hD => ?_⟩
      rw [if_pos rfl, show (h - h).toNat = 0 by omega]
      have st := fun Dn => take_eq nm ch S h C L sp Dn (w := "take") (r := []) c1 c3 hi (by omega) (by omega)
      rw [hk] at st
      have ex := execute_eq nm ch S h [.int 0] [] [] C L sp Dn 0 (h + ch) [.int 1] [.int h] (rngD (h + 1) k) C L (by simpa using st) hD (rngI h (k + 1)) (by rw [rngD_map]; rfl) (rngI_nd _ _) (by rw [rngI_len]; omega) (by rcases hsp with ⟨q, _⟩ | q; exact .inl q; exact .inr ⟨_, q⟩)
      rw [wid_rng, show h + ch - h = ch by omega] at ex
      have eu : upw sp (.int ch) = .int ch := by
        rcases hsp with ⟨rfl, _⟩ | rfl
        · rfl
        · simp [upw]
      rw [eu] at ex
      exact ex
    · have hs : sp = .int ch := by
        rcases hsp with ⟨_, q⟩ | q
        · exact absurd q e
        · exact q
      obtain ⟨k, hk⟩ : ∃ k : Nat, (h - i).toNat = k + 1 := ⟨(h - i).toNat - 1, by omega⟩
      refine ⟨k, by rw [if_neg e]; omega, by omega, fun Dn hD => ?_⟩
      rw [if_neg e, hk]
      have st := fun Dn => stmt_eq nm ch S h [.int 0] [] (rngD i (k + 1)) C L sp Dn (w := "take") (r := []) (fun S => get_0 S) 0 [.int 1] [.int i] (rngD (i + 1) k) [] [] (by rfl) (fun S => exec_0 _ _ S) (by omega) (by omega) (by simp)
      have ex := execute_eq nm ch S h [.int 0] [] (rngD i (k + 1)) C L sp Dn 0 h [.int 1] [.int i] (rngD (i + 1) k) C L (by simpa [addC] using st) hD (rngI i (k + 1)) (by rw [rngD_map]; rfl) (rngI_nd _ _) (by rw [rngI_len]; omega) (.inr ⟨_, hs⟩)
      rw [wid_rng, hs] at ex
      have eu : upw (.int ch) (.int (h - i)) = .int ch := by
        rw [upw_int, if_neg (by omega)]
      rw [eu] at ex
      rw [hs]; exact ex
  obtain ⟨k, hk, hk2, t1⟩ := t1
  generalize (if h = i then h + ch else h) = h' at hk t1
  have a1 := allows_eq nm ch S h [.int 0] [] (rngD i (h - i).toNat) C L sp Dn (w := "take") (r := []) (by simp) (fun S => get_0 S) (rngI i (h - i).toNat) (by rw [rngD_map]; rfl) (rngI_nd _ _) (by rw [rngI_len]; omega) 0 (fun S => ans_0 _ (by simp) S)
  rw [loop_step (ha := a1) (he := t1 Dn (by omega))]
  have hxs : ([D.int i] : List D) ++ rngD (i + 1) k = (rngI i (k + 1)).map .int := by rw [rngD_map]; rfl
  have a2 := allows_eq nm ch S h' [.int 1] [.int i] (rngD (i + 1) k) C L (.int ch) (Dn ++ [.tup [.int 0, .int 0]]) (w := "choose") (r := [.tup [.tup [.str "commit"]], .tup [.tup [.str "rollback"]]]) (by simp) (fun S => get_1 S) (rngI i (k + 1)) hxs (rngI_nd _ _) (by rw [rngI_len]; omega) a (fun S => ans_c _ _ a ha S)
  have eu : upw (.int ch) (wid h' (rngI i (k + 1))) = .int ch := by
    rw [wid_rng]
    rw [upw_int, if_neg (by omega)]
  have t2 : m_Moment_execute [.loc S.length, .tup [.int 0, .int a]] (ste S nm ch h' [.int 1] [.int i] (rngD (i + 1) k) C L (.int ch) (Dn ++ [.tup [.int 0, .int 0]])) = .ok .non (ste S nm ch h' [.int 1, .int a, .int 0] [.int i] (rngD (i + 1) k) C L (.int ch) (Dn ++ [.tup [.int 0, .int 0]] ++ [.tup [.int 0, .int a]])) := by
    have st := fun Dn => stmt_eq nm ch S h' [.int 1] [.int i] (rngD (i + 1) k) C L (.int ch) Dn (w := "choose") (r := [.tup [.tup [.str "commit"]], .tup [.tup [.str "rollback"]]]) (fun S => get_1 S) a [.int 1, .int a, .int 0] [.int i] (rngD (i + 1) k) [] [] (by simp) (fun S => by rcases ha with rfl | rfl; exact exec_1c _ _ S; exact exec_1r _ _ S) (by omega) (by omega) (by simp)
    have ex := execute_eq nm ch S h' [.int 1] [.int i] (rngD (i + 1) k) C L (.int ch) (Dn ++ [.tup [.int 0, .int 0]]) a h' [.int 1, .int a, .int 0] [.int i] (rngD (i + 1) k) C L (by simpa [addC] using st) (by simp; omega) (rngI i (k + 1)) hxs (rngI_nd _ _) (by rw [rngI_len]; omega) (.inr ⟨_, rfl⟩)
    rw [eu] at ex
    exact ex
  rw [loop_step (ha := a2) (he := t2)]
  have eu3 : upw (.int ch) (wid h' (rngI (i + 1) k)) = .int ch := by
    cases k with
    | zero => rfl
    | succ k =>
      rw [wid_rng]
      rw [upw_int, if_neg (by omega)]
  have hk3 : (h' - (i + 1)).toNat = k := by omega
  rw [hk3]
  rcases ha with rfl | rfl
  · have a3 := allows_eq nm ch S h' [.int 1, .int 0, .int 0] [.int i] (rngD (i + 1) k) C L (.int ch) (Dn ++ [.tup [.int 0, .int 0]] ++ [.tup [.int 0, .int 0]]) (w := "commit") (r := []) (by simp) (fun S => get_c S) (rngI i (k + 1)) hxs (rngI_nd _ _) (by rw [rngI_len]; omega) 0 (fun S => ans_0 _ (by simp) S)
    have st := fun Dn => stmt_eq nm ch S h' [.int 1, .int 0, .int 0] [.int i] (rngD (i + 1) k) C L (.int ch) Dn (w := "commit") (r := []) (fun S => get_c S) 0 [.int 0] [] (rngD (i + 1) k) [.int i] [] (by simp) (fun S => exec_c _ _ S) (by omega) (by omega) (by simp)
    have ex := execute_eq nm ch S h' [.int 1, .int 0, .int 0] [.int i] (rngD (i + 1) k) C L (.int ch) (Dn ++ [.tup [.int 0, .int 0]] ++ [.tup [.int 0, .int 0]]) 0 h' [.int 0] [] (rngD (i + 1) k) (C ++ [.tup [.int 0, .tup [.int i]]]) L (by simpa [addC] using st) (by simp; omega) (rngI (i + 1) k) (by rw [rngD_map]; rfl) (rngI_nd _ _) (by rw [rngI_len]; omega) (.inr ⟨_, rfl⟩)
    rw [eu3] at ex
    rw [loop_step (ha := a3) (he := ex)]
    exact ⟨_, _, _, by simp, rfl⟩
  · have a3 := allows_eq nm ch S h' [.int 1, .int 1, .int 0] [.int i] (rngD (i + 1) k) C L (.int ch) (Dn ++ [.tup [.int 0, .int 0]] ++ [.tup [.int 0, .int 1]]) (w := "rollback") (r := []) (by simp) (fun S => get_r S) (rngI i (k + 1)) hxs (rngI_nd _ _) (by rw [rngI_len]; omega) 0 (fun S => ans_0 _ (by simp) S)
    have st := fun Dn => stmt_eq nm ch S h' [.int 1, .int 1, .int 0] [.int i] (rngD (i + 1) k) C L (.int ch) Dn (w := "rollback") (r := []) (fun S => get_r S) 0 [.int 0] [] (rngD (i + 1) k) [] [.int i] (by simp) (fun S => exec_r _ _ S) (by omega) (by omega) (by simp)
    have ex := execute_eq nm ch S h' [.int 1, .int 1, .int 0] [.int i] (rngD (i + 1) k) C L (.int ch) (Dn ++ [.tup [.int 0, .int 0]] ++ [.tup [.int 0, .int 1]]) 0 h' [.int 0] [] (rngD (i + 1) k) C (L ++ [.int i]) (by simpa [addC] using st) (by simp; omega) (rngI (i + 1) k) (by rw [rngD_map]; rfl) (rngI_nd _ _) (by rw [rngI_len]; omega) (.inr ⟨_, rfl⟩)
    rw [eu3] at ex
    rw [loop_step (ha := a3) (he := ex)]
    exact ⟨_, _, _, by simp, rfl⟩
end Mm
set_option maxRecDepth 100000
namespace Mm
open PySem L2
/-- the height when i numbers are taken -/
def hg (ch : Int) (i : Int) : Int := (i + ch - 1) / ch * ch
theorem hg_ok {ch i : Int} (c1 : 1 ≤ ch) (c3 : ch ≤ 3) (hi : 0 ≤ i) : i ≤ hg ch i ∧ hg ch i < i + ch := by
  unfold hg
  have : ch = 1 ∨ ch = 2 ∨ ch = 3 := by omega
  rcases this with rfl | rfl | rfl <;> omega
theorem hg_s {ch i : Int} (c1 : 1 ≤ ch) (c3 : ch ≤ 3) (hi : 0 ≤ i) : hg ch (i + 1) = if hg ch i = i then hg ch i + ch else hg ch i := by
  unfold hg
  have : ch = 1 ∨ ch = 2 ∨ ch = 3 := by omega
  rcases this with rfl | rfl | rfl <;> split <;> omega
theorem hg_0 {ch : Int} (c1 : 1 ≤ ch) (c3 : ch ≤ 3) : hg ch 0 = 0 := by
  unfold hg
  have : ch = 1 ∨ ch = 2 ∨ ch = 3 := by omega
  rcases this with rfl | rfl | rfl <;> omega
def sched : List Int → List D
  | [] => []
  | a :: r => .tup [.int 0, .int 0] :: .tup [.int 0, .int a] :: .tup [.int 0, .int 0] :: sched r
def comC (i : Int) : List Int → List D
  | [] => []
  | a :: r => (if a = 0 then [.tup [.int 0, .tup [.int i]]] else []) ++ comC (i + 1) r
def losL (i : Int) : List Int → List Int
  | [] => []
  | a :: r => (if a = 1 then [i] else []) ++ losL (i + 1) r
theorem comC_s (i a : Int) (r : List Int) : comC i (a :: r) = (if a = 0 then [.tup [.int 0, .tup [.int i]]] else []) ++ comC (i + 1) r := rfl
theorem losL_s (i a : Int) (r : List Int) : losL i (a :: r) = (if a = 1 then [i] else []) ++ losL (i + 1) r := rfl
variable (nm : Str) (ch : Int) (S : Sto)
/-- the store when i numbers are taken and none is open -/
noncomputable abbrev stI (i : Int) (C L : List D) (sp : D) (Dn : List D) : Sto := ste S nm ch (hg ch i) [.int 0] [] (rngD i (hg ch i - i).toNat) C L sp Dn
theorem rounds (c1 : 1 ≤ ch) (c3 : ch ≤ 3) (sch : D) (r : List D) : ∀ (bits : List Int) (i : Nat) (C L : List D) (sp : D) (Dn : List D) (x y : Option D) (j : Nat), (∀ b ∈ bits, b = 0 ∨ b = 1) → i + bits.length ≤ 70 → C.length ≤ i → L.length ≤ i → Dn.length ≤ 3 * i → ((sp = .non ∧ i = 0) ∨ sp = .int ch) →
    ∃ Dn' x' y' j', Dn'.length ≤ 3 * (i + bits.length) ∧ loopS fg fb none (numD j (sched bits ++ r)) [some (.loc S.length), some sch, x, y] (stI nm ch S i C L sp Dn) =
      loopS fg fb none (numD j' r) [some (.loc S.length), some sch, x', y'] (stI nm ch S (i + bits.length : Nat) (C ++ comC i bits) (L ++ (losL i bits).map .int) (if bits = [] then sp else .int ch) Dn')
  | [], i, C, L, sp, Dn, x, y, j, hb, hn, hC, hL, hD, hsp => ⟨Dn, x, y, j, hD, by simp [sched, comC, losL]⟩
  | a :: bs, i, C, L, sp, Dn, x, y, j, hb, hn, hC, hL, hD, hsp => by
    have i0 : (0 : Int) ≤ i := by omega
    have hg1 := hg_ok (i := (i : Int)) c1 c3 i0
    have hn' : i + (bs.length + 1) ≤ 70 := hn
    obtain ⟨h', hh', Dn1, x1, y1, hl1, e1⟩ := round_eq nm ch S i (hg ch i) C L sp Dn a (hb a List.mem_cons_self) sch x y j (sched bs ++ r) c1 c3 i0 hg1.1 hg1.2 (by omega) (by omega) (by omega) (by omega) (by
      rcases hsp with ⟨q, q2⟩ | q
      · exact .inl ⟨q, by subst q2; exact hg_0 c1 c3⟩
      · exact .inr q)
    rw [← hg_s c1 c3 i0] at hh'
    subst hh'
    have hc1 : (if a = 0 then C ++ [D.tup [.int 0, .tup [.int i]]] else C).length ≤ i + 1 := by split <;> (try simp) <;> omega
    have hL1 : (if a = 1 then L ++ [D.int i] else L).length ≤ i + 1 := by split <;> (try simp) <;> omega
    obtain ⟨Dn2, x2, y2, j2, hl2, e2⟩ := rounds c1 c3 sch r bs (i + 1) _ _ (.int ch) Dn1 x1 y1 (j + 3) (fun b m => hb b (List.mem_cons_of_mem _ m)) (by omega) hc1 hL1 (by omega) (.inr rfl)
    refine ⟨Dn2, x2, y2, j2, by simp only [List.length_cons]; omega, ?_⟩
    have ci : ((i + 1 : Nat) : Int) = (i : Int) + 1 := by omega
    simp only [ci] at e2
    unfold stI at e2 ⊢
    unfold sched
    simp only [List.cons_append]
    rw [e1, e2]
    have l1 : i + 1 + bs.length = i + (a :: bs).length := by simp only [List.length_cons]; omega
    rw [l1, if_neg (by simp : ¬ (a :: bs) = [])]
    have k1 : (if bs = [] then D.int ch else D.int ch) = D.int ch := by split <;> rfl
    rw [k1]
    congr 2
    · rw [comC_s]
      split <;> simp
    · rw [losL_s]
      split <;> simp
mutual
/-- no place in it, and not deep -/
def fr : Nat → D → Bool
  | 0, _ => false
  | _ + 1, .loc _ => false
  | f + 1, .tup ds => frs f ds
  | f + 1, .ttp ds => frs f ds
  | f + 1, .lst ds => frs f ds
  | f + 1, .dic _ ds => frs f ds
  | f + 1, .obj _ ds => frs f ds
  | _ + 1, _ => true
def frs : Nat → List D → Bool
  | _, [] => true
  | f, d :: r => fr f d && frs f r
end
mutual
theorem rsv_fr (n : Nat) (S : Sto) : ∀ (f : Nat) (d : D), fr f d = true → rsv n S f d = some d
  | 0, d, h => by unfold fr at h; cases h
  | f + 1, .loc _, h => by unfold fr at h; cases h
  | f + 1, .tup ds, h => by unfold fr at h; unfold rsv; rw [rsvs_fr n S f ds h]; rfl
  | f + 1, .ttp ds, h => by unfold fr at h; unfold rsv; rw [rsvs_fr n S f ds h]; rfl
  | f + 1, .lst ds, h => by unfold fr at h; unfold rsv; rw [rsvs_fr n S f ds h]; rfl
  | f + 1, .dic _ ds, h => by unfold fr at h; unfold rsv; rw [rsvs_fr n S f ds h]; rfl
  | f + 1, .obj _ ds, h => by unfold fr at h; unfold rsv; rw [rsvs_fr n S f ds h]; rfl
  | f + 1, .non, h => by unfold rsv; rfl
  | f + 1, .bl _, h => by unfold rsv; rfl
  | f + 1, .int _, h => by unfold rsv; rfl
  | f + 1, .str _, h => by unfold rsv; rfl
  | f + 1, .fz _, h => by unfold rsv; rfl
  | f + 1, .oth _, h => by unfold rsv; rfl
theorem rsvs_fr (n : Nat) (S : Sto) : ∀ (f : Nat) (ds : List D), frs f ds = true → rsvs n S f ds = some ds
  | f, [], h => by unfold rsvs; rfl
  | f, d :: r, h => by
    unfold frs at h
    rw [Bool.and_eq_true] at h
    unfold rsvs
    rw [rsv_fr n S f d h.1, rsvs_fr n S f r h.2]; rfl
end
mutual
theorem lo_fr (n : Nat) : ∀ (f : Nat) (d : D), fr f d = true → d.lo n = true
  | 0, d, h => by unfold fr at h; cases h
  | f + 1, .loc _, h => by unfold fr at h; cases h
  | f + 1, .tup ds, h => by unfold fr at h; unfold D.lo; exact los_fr n f ds h
  | f + 1, .ttp ds, h => by unfold fr at h; unfold D.lo; exact los_fr n f ds h
  | f + 1, .lst ds, h => by unfold fr at h; unfold D.lo; exact los_fr n f ds h
  | f + 1, .dic _ ds, h => by unfold fr at h; unfold D.lo; exact los_fr n f ds h
  | f + 1, .obj _ ds, h => by unfold fr at h; unfold D.lo; exact los_fr n f ds h
  | f + 1, .non, h => rfl
  | f + 1, .bl _, h => rfl
  | f + 1, .int _, h => rfl
  | f + 1, .str _, h => rfl
  | f + 1, .fz _, h => rfl
  | f + 1, .oth _, h => rfl
theorem los_fr (n : Nat) : ∀ (f : Nat) (ds : List D), frs f ds = true → los n ds = true
  | f, [], h => by unfold los; rfl
  | f, d :: r, h => by
    unfold frs at h
    rw [Bool.and_eq_true] at h
    unfold los
    rw [lo_fr n f d h.1, los_fr n f r h.2]; rfl
end
theorem rsvD_fr (n : Nat) (S : Sto) (f : Nat) (d : D) (h : fr f d = true) : rsvD n S d = some d := by
  unfold rsvD
  rw [if_pos (lo_fr n f d h)]
theorem frs_int (f : Nat) : ∀ xs : List Int, frs (f + 1) (xs.map .int) = true
  | [] => by unfold frs; rfl
  | x :: r => by rw [List.map_cons]; unfold frs; rw [frs_int f r]; rfl
theorem frs_rep (f : Nat) (x : Int) : ∀ k : Nat, frs (f + 1) (List.replicate k (.int x)) = true
  | 0 => by simp [frs]
  | k + 1 => by rw [List.replicate_succ]; unfold frs; rw [frs_rep f x k]; rfl
theorem frs_com (f : Nat) : ∀ (bits : List Int) (i : Int), frs (f + 3) (comC i bits) = true
  | [], i => by simp [comC, frs]
  | a :: r, i => by
    rw [comC_s]
    split
    · simp [frs, fr, frs_com f r]
    · simpa using frs_com f r (i + 1)
theorem recorded_eq (h : Int) (tr st C : List D) (ls : List Int) (sp : D) (Dn : List D) (xs : List Int) (hx : tr ++ st = xs.map .int) (nd : xs.Nodup) (hl : xs.length ≤ 100) (p : List D) (hC : frs 10 C = true) (hs : fr 11 sp = true) :
    m_Moment_recorded [.loc S.length] (ste S nm ch h p tr st C (ls.map .int) sp Dn) = .ok (.obj 0 [.lst C, .lst ((sortI ls).map .int), .dic (xs.map .int) (List.replicate xs.length (.int 0)), .int h, .int h, .int 0, sp]) (ste S nm ch h p tr st C (ls.map .int) sp Dn) := by
  have ow := owners_eq nm ch S h p tr st C (ls.map .int) sp Dn xs hx nd hl
  have sd : sortD (.loc (S.length + 3)) (ste S nm ch h p tr st C (ls.map .int) sp Dn) = .ok (.lst ((sortI ls).map .int)) (ste S nm ch h p tr st C (ls.map .int) sp Dn) := by
    simp [sortD, allO_int]
  simp [m_Moment_recorded, runDef, b_Moment_recorded, ow, sd, mkD, m_Record___init__, b_Record___init__, setF, List.lookup]
  have n0 : ∀ T : Sto, (T.length < T.length) = False := fun T => by simp
  unfold rsvD
  rw [if_neg (by unfold D.lo; simp)]
  unfold rsv
  rw [if_neg (Nat.lt_irrefl _), ga0]
  have r1 : rsvs (ste S nm ch h p tr st C (ls.map .int) sp Dn).length (ste S nm ch h p tr st C (ls.map .int) sp Dn ++ [SO.ins 0 [.lst C, .lst ((sortI ls).map .int), .dic (xs.map .int) (List.replicate xs.length (.int 0)), .int h, .int h, .int 0, sp]]) 11 [.lst C, .lst ((sortI ls).map .int), .dic (xs.map .int) (List.replicate xs.length (.int 0)), .int h, .int h, .int 0, sp] = some [.lst C, .lst ((sortI ls).map .int), .dic (xs.map .int) (List.replicate xs.length (.int 0)), .int h, .int h, .int 0, sp] :=
    rsvs_fr _ _ _ _ (by simp [frs, fr, hC, hs, frs_int, frs_rep])
  simp [r1]
end Mm
set_option maxRecDepth 100000
namespace Mm
open PySem L2
variable (nm : Str) (ch : Int) (S : Sto)
theorem take1 (i h : Int) (C L : List D) (sp : D) (c1 : 1 ≤ ch) (c3 : ch ≤ 3) (hi : 0 ≤ i) (hh : i ≤ h) (hc : h < i + ch) (hm : h ≤ 900) (hC : C.length ≤ 800) (hL : L.length ≤ 800) (hsp : (sp = .non ∧ h = i) ∨ sp = .int ch) :
    ∃ k : Nat, (if h = i then h + ch else h) = i + 1 + k ∧ k + 1 ≤ ch ∧ ∀ Dn, Dn.length ≤ 900 → m_Moment_execute [.loc S.length, .tup [.int 0, .int 0]] (ste S nm ch h [.int 0] [] (rngD i (h - i).toNat) C L sp Dn) = .ok .non (ste S nm ch (if h = i then h + ch else h) [.int 1] [.int i] (rngD (i + 1) k) C L (.int ch) (Dn ++ [.tup [.int 0, .int 0]])) := by
  by_cases e : h = i
  · subst e
    obtain ⟨k, hk⟩ : ∃ k, ch.toNat = k + 1 := ⟨ch.toNat - 1, by omega⟩
    refine ⟨k, by rw [if_pos rfl]; omega, by omega, fun Dn hD => ?_⟩
    rw [if_pos rfl, show (h - h).toNat = 0 by omega]
    have st := fun Dn => take_eq nm ch S h C L sp Dn (w := "take") (r := []) c1 c3 hi (by omega) (by omega)
    rw [hk] at st
    have ex := execute_eq nm ch S h [.int 0] [] [] C L sp Dn 0 (h + ch) [.int 1] [.int h] (rngD (h + 1) k) C L (by simpa using st) hD (rngI h (k + 1)) (by rw [rngD_map]; rfl) (rngI_nd _ _) (by rw [rngI_len]; omega) (by rcases hsp with ⟨q, _⟩ | q; exact .inl q; exact .inr ⟨_, q⟩)
    rw [wid_rng, show h + ch - h = ch by omega] at ex
    have eu : upw sp (.int ch) = .int ch := by
      rcases hsp with ⟨rfl, _⟩ | rfl
      · rfl
      · simp [upw]
    rw [eu] at ex
    exact ex
  · have hs : sp = .int ch := by
      rcases hsp with ⟨_, q⟩ | q
      · exact absurd q e
      · exact q
    obtain ⟨k, hk⟩ : ∃ k : Nat, (h - i).toNat = k + 1 := ⟨(h - i).toNat - 1, by omega⟩
    refine ⟨k, by rw [if_neg e]; omega, by omega, fun Dn hD => ?_⟩
    rw [if_neg e, hk]
    have st := fun Dn => stmt_eq nm ch S h [.int 0] [] (rngD i (k + 1)) C L sp Dn (w := "take") (r := []) (fun S => get_0 S) 0 [.int 1] [.int i] (rngD (i + 1) k) [] [] (by rfl) (fun S => exec_0 _ _ S) (by omega) (by omega) (by simp)
    have ex := execute_eq nm ch S h [.int 0] [] (rngD i (k + 1)) C L sp Dn 0 h [.int 1] [.int i] (rngD (i + 1) k) C L (by simpa [addC] using st) hD (rngI i (k + 1)) (by rw [rngD_map]; rfl) (rngI_nd _ _) (by rw [rngI_len]; omega) (.inr ⟨_, hs⟩)
    rw [wid_rng, hs] at ex
    have eu : upw (.int ch) (.int (h - i)) = .int ch := by
      rw [upw_int, if_neg (by omega)]
    rw [eu] at ex
    rw [hs]; exact ex

theorem moment_mk (c1 : 1 ≤ ch) (c3 : ch ≤ 3) : mkD 3 m_Moment___init__ [sy nm ch] S = .ok (.loc S.length) (stI nm ch S 0 [] [] .non []) := by
  simp [mkD, m_Moment___init__, runDef, b_Moment___init__, setF, List.lookup, Nat.add_assoc, wipeE, ste, mo, stI, hg_0 c1 c3, rngD]
theorem follow_eq (steps : List D) (h : Int) (p tr st C L : List D) (sp : D) (Dn : List D) : m_follow [.loc S.length, .lst steps] (ste S nm ch h p tr st C L sp Dn) = endF (loopS fg fb none (numD 0 steps) [some (.loc S.length), some (.lst steps), none, none] (ste S nm ch h p tr st C L sp Dn)) := by
  simp [m_follow, runDef, b_follow, isiD]
  rfl
/-- the record of these answers; o: a number is open at the end -/
def recD (ch : Int) (bits : List Int) (o : Bool) : D := .obj 0 [.lst (comC 0 bits), .lst ((sortI (losL 0 bits)).map .int),
  .dic ((rngI bits.length (hg ch (if o then bits.length + 1 else bits.length) - bits.length).toNat).map .int) (List.replicate (hg ch (if o then bits.length + 1 else bits.length) - bits.length).toNat (.int 0)),
  .int (hg ch (if o then bits.length + 1 else bits.length)), .int (hg ch (if o then bits.length + 1 else bits.length)), .int 0, if bits = [] ∧ o = false then .non else .int ch]
theorem com_len : ∀ (bits : List Int) (i : Int), (comC i bits).length ≤ bits.length
  | [], i => by simp [comC]
  | a :: r, i => by
    have := com_len r (i + 1)
    rw [comC_s]
    split <;> simp <;> omega
theorem los_len : ∀ (bits : List Int) (i : Int), (losL i bits).length ≤ bits.length
  | [], i => by simp [losL]
  | a :: r, i => by
    have := los_len r (i + 1)
    rw [losL_s]
    split <;> simp <;> omega
theorem follow_fin {steps : List D} {h : Int} {p tr st C L : List D} {sp : D} {Dn : List D} {env : Env} {S2 : Sto} (e : loopS fg fb none (numD 0 steps) [some (.loc S.length), some (.lst steps), none, none] (ste S nm ch h p tr st C L sp Dn) = .next env S2) :
    m_follow [.loc S.length, .lst steps] (ste S nm ch h p tr st C L sp Dn) = .ok .non S2 := by
  rw [follow_eq, e]; rfl
theorem run_fin (c1 : 1 ≤ ch) (c3 : ch ≤ 3) {steps : List D} {h : Int} {p tr st C L : List D} {sp : D} {Dn : List D} {env : Env} {rc : D} (e : loopS fg fb none (numD 0 steps) [some (.loc S.length), some (.lst steps), none, none] (stI nm ch S 0 [] [] .non []) = .next env (ste S nm ch h p tr st C L sp Dn))
    (hr : m_Moment_recorded [.loc S.length] (ste S nm ch h p tr st C L sp Dn) = .ok rc (ste S nm ch h p tr st C L sp Dn)) (hf : fr 12 rc = true) : trunc S (m_run [sy nm ch, .lst steps] S) = .ok rc S := by
  have f := follow_fin nm ch S e
  have rn : m_run [sy nm ch, .lst steps] S = .ok rc (ste S nm ch h p tr st C L sp Dn) := by
    simp [m_run, runDef, b_run, moment_mk nm ch S c1 c3, f, hr]
  rw [rn]
  unfold ste
  rw [trunc_app, rsvD_fr _ _ _ _ hf]; rfl
theorem fr_rec (ch : Int) (bits : List Int) (o : Bool) : fr 12 (recD ch bits o) = true := by
  unfold recD
  have : frs 11 [if bits = [] ∧ o = false then D.non else .int ch] = true := by split <;> rfl
  simp only [fr, frs, Bool.and_true, Bool.and_eq_true, frs_int, frs_rep, frs_com, true_and] at this ⊢
  exact this
open Classical in
theorem run_eq (c1 : 1 ≤ ch) (c3 : ch ≤ 3) (bits : List Int) (hb : ∀ b ∈ bits, b = 0 ∨ b = 1) (hn : bits.length ≤ 65) (o : Bool) :
    trunc S (m_run [sy nm ch, .lst (sched bits ++ if o then [.tup [.int 0, .int 0]] else [])] S) = .ok (recD ch bits o) S := by
  obtain ⟨Dn, x, y, j, hD, e⟩ := rounds nm ch S c1 c3 (.lst (sched bits ++ if o then [.tup [.int 0, .int 0]] else [])) (if o then [.tup [.int 0, .int 0]] else []) bits 0 [] [] .non [] none none 0 hb (by omega) (by simp) (by simp) (by simp) (.inl ⟨rfl, rfl⟩)
  have hg1 := hg_ok (i := (bits.length : Int)) c1 c3 (by omega)
  have hg2 := hg_ok (i := (bits.length : Int) + 1) c1 c3 (by omega)
  have lc := com_len bits 0
  have ll := los_len bits 0
  simp only [Nat.zero_add, List.nil_append] at e hD
  have z0 : ((0 : Nat) : Int) = 0 := rfl
  rw [z0] at e
  cases o with
  | false =>
    have rc := recorded_eq nm ch S (hg ch bits.length) [] (rngD bits.length (hg ch bits.length - bits.length).toNat) (comC 0 bits) (losL 0 bits) (if bits = [] then .non else .int ch) Dn (rngI bits.length (hg ch bits.length - bits.length).toNat) (by rw [rngD_map]; rfl) (rngI_nd _ _) (by rw [rngI_len]; omega) [.int 0] (frs_com 7 bits 0) (by split <;> rfl)
    refine run_fin nm ch S c1 c3 (e.trans (by rw [if_neg (by decide), numD_nil, loopS_nil])) (rc.trans ?_) (fr_rec ch bits false)
    congr 1
    unfold recD
    rw [rngI_len]
    simp
  | true =>
    obtain ⟨k, hk, hk2, tk⟩ := take1 nm ch S bits.length (hg ch bits.length) (comC 0 bits) ((losL 0 bits).map .int) (if bits = [] then .non else .int ch) c1 c3 (by omega) hg1.1 hg1.2 (by omega) (by omega) (by simp; omega) (by
      by_cases hz : bits = []
      · left; subst hz; exact ⟨rfl, hg_0 c1 c3⟩
      · right; rw [if_neg hz])
    rw [← hg_s c1 c3 (by omega)] at hk tk
    have al := allows_eq nm ch S (hg ch bits.length) [.int 0] [] (rngD bits.length (hg ch bits.length - bits.length).toNat) (comC 0 bits) ((losL 0 bits).map .int) (if bits = [] then .non else .int ch) Dn (w := "take") (r := []) (by simp) (fun S => get_0 S) (rngI bits.length (hg ch bits.length - bits.length).toNat) (by rw [rngD_map]; rfl) (rngI_nd _ _) (by rw [rngI_len]; omega) 0 (fun S => ans_0 _ (by simp) S)
    have rc := recorded_eq nm ch S (hg ch (bits.length + 1)) [.int bits.length] (rngD (bits.length + 1) k) (comC 0 bits) (losL 0 bits) (.int ch) (Dn ++ [.tup [.int 0, .int 0]]) (rngI bits.length (k + 1)) (by rw [rngD_map]; rfl) (rngI_nd _ _) (by rw [rngI_len]; omega) [.int 1] (frs_com 7 bits 0) rfl
    rw [if_pos rfl] at e
    rw [loop_step (ha := al) (he := tk Dn (by omega)), numD_nil, loopS_nil] at e
    refine run_fin nm ch S c1 c3 (by rw [if_pos rfl]; exact e) (rc.trans ?_) (fr_rec ch bits true)
    congr 1
    unfold recD
    rw [rngI_len]
    have hk3 : (hg ch (bits.length + 1) - bits.length).toNat = k + 1 := by omega
    simp [hk3]
end Mm
set_option maxRecDepth 100000
namespace Mm
open PySem L2
theorem azs : ("a" : Str).cps.toList = [97] ∧ ("z" : Str).cps.toList = [122] := by decide +kernel
theorem le_low {c : Nat} (h : 97 ≤ c ∧ c ≤ 122) : decide (([c] : List Nat) < [97]) = false ∧ decide (([122] : List Nat) < [c]) = false := by
  constructor
  · rw [decide_eq_false_iff_not]; rw [List.cons_lt_cons_iff]; rintro (q | ⟨_, q⟩); omega; exact absurd q (List.not_lt_nil _)
  · rw [decide_eq_false_iff_not]; rw [List.cons_lt_cons_iff]; rintro (q | ⟨_, q⟩); omega; exact absurd q (List.not_lt_nil _)
theorem lc_low (S : Sto) : ∀ (cs : List Nat) (n : Nat) (z : D), (∀ c ∈ cs, 97 ≤ c ∧ c ≤ 122) → n + cs.length ≤ 100 → lcM (g_name 1) t_yes (e_chain strLeD strLeD (e_k (.str "a")) (e_v 1) (e_k (.str "z"))) [some z, none] none (cs.map fun k => .str ⟨#[k]⟩) (List.replicate n (.bl true)) S = .ok (List.replicate (n + cs.length) (.bl true)) S
  | [], n, z, h, hn => by simp
  | c :: r, n, z, h, hn => by
    have hc := le_low (h c List.mem_cons_self)
    have z1 : (n < sizeLine) = True := eq_true (by have := szb; simp at hn; omega)
    have ih := lc_low S r (n + 1) z (fun d m => h d (List.mem_cons_of_mem _ m)) (by simp at hn ⊢; omega)
    rw [List.replicate_succ'] at ih
    simp only [List.map_cons, lcM_cons]
    simp [azs, hc, z1, ih]
    omega
theorem is_name_ok {z : Str} (h : Tk.IsName z) (S : Sto) : m_is_name [.str z] S = .ok (.bl true) S := by
  obtain ⟨h1, h8, hl⟩ := h
  have z1 : (z.length ≤ sizeLine) = True := eq_true (by have := szb; omega)
  have z2 : ((1 : Int) ≤ (z.length : Int)) = True := eq_true (by omega)
  have z3 : ((z.length : Int) ≤ 8) = True := eq_true (by omega)
  have lc := lc_low S z.cps.toList 0 (.str z) hl (by have : z.cps.toList.length = z.length := by simp [Str.length]
                                                     omega)
  simp only [List.replicate_zero, Nat.zero_add] at lc
  have hb : allO blO (List.replicate z.cps.toList.length (.bl true)) = some (List.replicate z.cps.toList.length true) := by
    have := allO_map (f := blO) (g := D.bl) (fun _ => rfl) (List.replicate z.cps.toList.length true)
    rwa [List.map_replicate] at this
  have hall : (List.replicate z.cps.toList.length true).all id = true := by rw [List.all_eq_true]; intro x hx; rw [List.mem_replicate] at hx; simp [hx.2]
  simp only [m_is_name, runDef, b_is_name]
  simp [isiD, z1, z2, z3, wipeE]
  simp only [Array.length_toList] at lc hb hall
  simp [lc, allD, hb, hall]
end Mm
set_option maxRecDepth 100000
namespace Mm
open PySem L2
theorem fr_scr : fr 10 scr = true := by simp [scr, fks, fvs, stmts, fr, frs]
theorem script_of_ok (S : Sto) : m_script_of [.tup stmts] S = .ok scr S := by
  have h := script_mk S
  simp [m_script_of, runDef, b_script_of, isiD, kt_Script, h]
theorem kind_mk {nm : Str} {ch : Int} (hn : Tk.IsName nm) (c1 : 1 ≤ ch) (c3 : ch ≤ 3) (S : Sto) : trunc S (mkDk 4 m_Kind___init__ (fun x => gKind x [.str nm, .tup stmts] [.int ch]) S) = .ok (kin nm ch) S := by
  have d1 : (decide (1 ≤ ch) && decide (ch ≤ 3)) = true := by simp [c1, c3]
  have rs : rsvs S.length (S ++ [SO.ins 4 [.str nm, scr, .int ch, .int 1]]) 11 [.str nm, scr, .int ch, .int 1] = some [.str nm, scr, .int ch, .int 1] := rsvs_fr _ _ _ _ (by simp [frs, fr, show fr 11 scr = true by simp [scr, fks, fvs, stmts, fr, frs]])
  have tr : trunc S (R.ok (D.loc S.length) (S ++ [SO.ins 4 [.str nm, scr, .int ch, .int 1]])) = .ok (kin nm ch) S := by
    rw [trunc_app]
    unfold rsvD
    rw [if_neg (by unfold D.lo; simp)]
    unfold rsv
    rw [if_neg (Nat.lt_irrefl _), ga0]
    simp [rs, kin]
  rw [← tr]
  congr 1
  have b := script_of_ok (S ++ [SO.ins 4 []])
  simp [mkDk, gKind, m_Kind___init__, runDef, b_Kind___init__, is_name_ok hn, b, c1, c3, setF, List.lookup]
theorem many1 (nm : Str) : LenS.many [nm] 1 = 1 := by simp [LenS.many]
theorem sys_mk {nm : Str} {ch : Int} (c1 : 1 ≤ ch) (c3 : ch ≤ 3) (S : Sto) : trunc S (mkDk 5 m_System___init__ (fun x => gSystem x [] ++ [.tup [kin nm ch]]) S) = .ok (sy nm ch) S := by
  have rs : rsvs S.length (S ++ [SO.ins 5 [.tup [kin nm ch], .int 0, .non, .int 0, .tup [.str nm]]]) 11 [.tup [kin nm ch], .int 0, .non, .int 0, .tup [.str nm]] = some [.tup [kin nm ch], .int 0, .non, .int 0, .tup [.str nm]] := rsvs_fr _ _ _ _ (by simp [frs, fr, kin, scr, fks, fvs, stmts])
  have tr : trunc S (R.ok (D.loc S.length) (S ++ [SO.ins 5 [.tup [kin nm ch], .int 0, .non, .int 0, .tup [.str nm]]])) = .ok (sy nm ch) S := by
    rw [trunc_app]
    unfold rsvD
    rw [if_neg (by unfold D.lo; simp)]
    unfold rsv
    rw [if_neg (Nat.lt_irrefl _), ga0]
    simp [rs, sy]
  rw [← tr]
  congr 1
  have k3 : ∀ S, fldD [(4, 3)] (kin nm ch) S = some (.int 1) := fun S => rfl
  have ty : ∀ S, tyOf S (kin nm ch) = some (.inr 4) := fun S => rfl
  have co : ∀ S, m_count_of_sessions [.tup [kin nm ch]] S = .ok (.int 1) S := fun S => by
    simp [m_count_of_sessions, runDef, b_count_of_sessions, wipeE, k3, sumD]
  have ar : ∀ S, m_are_kinds [.tup [kin nm ch]] S = .ok (.bl true) S := fun S => by
    simp [m_are_kinds, runDef, b_are_kinds, wipeE, isiD, ty, kt_Kind, allD, lensD, many1, co]
  have fo : ∀ S, m_fault_of_system [.tup [kin nm ch], .int 0, .non, .int 0] S = .ok .non S := fun S => by
    simp [m_fault_of_system, runDef, b_fault_of_system, ar, co, wipeE, maxD]
  simp [mkDk, gSystem, m_System___init__, runDef, b_System___init__, fo, setF, List.lookup, wipeE]
  rw [outM_cons _ _ _ _ _ _ _ _ _ _ _ _ _ (stay_none _ _)]
  simp [k3, wipeE, rngD]
  rw [outM_nil _ _ _ _ _ _ _ _ _ _ _ (stay_none _ _)]
  simp [List.lookup]
end Mm
set_option maxRecDepth 100000
namespace Mm
open PySem L2
/-! the law's numbers -/
theorem cmul_mod (x y : Int) : CMul (x % 2147483647) y := .inl ⟨by have := Int.emod_nonneg x (show (2147483647 : Int) ≠ 0 by decide); omega, by have := Int.emod_lt_of_pos x (show (0 : Int) < 2147483647 by decide); omega⟩
theorem cmul_r (x : Int) : CMul x 48271 := .inr ⟨by decide, by decide⟩
theorem cmul_l (x : Int) : CMul 7919 x := .inl ⟨by decide, by decide⟩
def lcg (b c : Int) : Int := (((b + 7919 * (c + 1) + 1) * 48271 % 2147483647 * ((b + 7919 * (c + 1) + 1) * 48271 % 2147483647 / 1009 + 69621)) % 2147483647 * (((b + 7919 * (c + 1) + 1) * 48271 % 2147483647 * ((b + 7919 * (c + 1) + 1) * 48271 % 2147483647 / 1009 + 69621)) % 2147483647 / 2003 + 40692)) % 2147483399
theorem draw_eq {S : Sto} {p : Nat} {a b c n : Int} (h : S[p]? = some (.lst [.int a, .int b, .int c])) (n0 : 0 < n) (n1 : n < 1073741824) :
    ∃ r a' b' c', m__law_draw [.loc p, .int n] S = .ok (.int r) (S.set p (.lst [.int a', .int b', .int c'])) ∧ 0 ≤ r ∧ r < n := by
  unfold m__law_draw
  rw [runDef_eq (by rfl)]
  unfold b__law_draw
  by_cases ha : 0 < a
  · refine ⟨a % n, a / n, b, c, ?_, Int.emod_nonneg _ (by omega), Int.emod_lt_of_pos _ n0⟩
    simp [h, ha, n0, n1, CDiv, ixN]
  · refine ⟨lcg b c % n, a, b, c + 1, ?_, Int.emod_nonneg _ (by omega), Int.emod_lt_of_pos _ n0⟩
    simp [h, ha, n0, n1, CDiv, ixN, set_get h, cmul_mod, cmul_r, cmul_l, lcg]
theorem pool_eq (ns : List Int) (k : Nat) (S : Sto) : ∃ a b c, m__law_pool [.fz ns, .int k] S = .ok (.loc S.length) (S ++ [.lst [.int a, .int b, .int c]]) := by
  have cp : CPow 10 18 := by unfold CPow; decide
  by_cases hk : k < ns.length
  · have g : (ns.map D.int)[k]? = some (.int ns[k]) := by rw [List.getElem?_map, List.getElem?_eq_getElem hk]; rfl
    refine ⟨if ns[k] - 10 ^ 18 > 0 then ns[k] - 10 ^ 18 else 0, ns[k] % 2147483647, 0, ?_⟩
    simp [m__law_pool, runDef, b__law_pool, hk, ixD, atI_k, g, cp]
  · refine ⟨if ((k : Int) + 1) - 10 ^ 18 > 0 then ((k : Int) + 1) - 10 ^ 18 else 0, ((k : Int) + 1) % 2147483647, 0, ?_⟩
    simp [m__law_pool, runDef, b__law_pool, hk, cp]
theorem alpha_len : Tk.alpha.length ≤ sizeLine := by decide +kernel
theorem alpha_ix {r : Int} (r0 : 0 ≤ r) (r1 : r < 26) (S : Sto) : ∃ c, ixD (D.str Tk.alpha) (D.int r) S = R.ok (D.str ⟨#[c]⟩) S ∧ 97 ≤ c ∧ c ≤ 122 := by
  obtain ⟨c, hc, h⟩ := Tk.alpha_at r0 r1
  refine ⟨c, ?_, h⟩
  show R.if (Tk.alpha.length ≤ sizeLine) (R.ofO ((L2.atI Tk.alpha.cps.toList r).map fun k => D.str ⟨#[k]⟩) S) = _
  rw [R.if_pos alpha_len, hc]; rfl
abbrev pl (a b c : Int) : Sto := [.lst [.int a, .int b, .int c]]
theorem draw0 (a b c : Int) {n : Int} (n0 : 0 < n) (n1 : n < 1073741824) : ∃ r a' b' c', m__law_draw [.loc 0, .int n] (pl a b c) = .ok (.int r) (pl a' b' c') ∧ 0 ≤ r ∧ r < n := draw_eq (S := pl a b c) (p := 0) rfl n0 n1
noncomputable def nb : SM := s_set 2 (e_op addD (e_v 2) (e_op ixD (e_v 1) (e_fn tr0 m__law_draw (a_cons (e_v 0) (a_cons (e_k (.int 26)) a_nil)))))
theorem names_loop : ∀ (k : Nat) (lo : Int) (z : Str) (a b c : Int) (x : Option D), Tk.Low z → z.length + k ≤ 7 → ∃ z' a' b' c' x', Tk.Low z' ∧ z'.length = z.length + k ∧
    loopS (g_name 3) nb none (rngD lo k) [some (.loc 0), some (.str Tk.alpha), some (.str z), x, none, none, none, none] (pl a b c) = .next [some (.loc 0), some (.str Tk.alpha), some (.str z'), x', none, none, none, none] (pl a' b' c')
  | 0, lo, z, a, b, c, x, hz, hl => ⟨z, a, b, c, x, hz, rfl, by unfold rngD; rw [loopS_nil]⟩
  | k + 1, lo, z, a, b, c, x, hz, hl => by
    obtain ⟨r, a1, b1, c1, e1, r0, r1⟩ := draw0 a b c (n := 26) (by decide) (by decide)
    obtain ⟨l, e2, hl2⟩ := alpha_ix r0 r1 (pl a1 b1 c1)
    have le : (z ++ (⟨#[l]⟩ : Str)).length = z.length + 1 := by rw [Tk.len_app, Tk.len_one]
    obtain ⟨z', a', b', c', x', h1, h2, h3⟩ := names_loop k (lo + 1) (z ++ ⟨#[l]⟩) a1 b1 c1 (some (.int lo)) (Tk.low_app hz (Tk.low_one hl2)) (by omega)
    refine ⟨z', a', b', c', x', h1, by omega, ?_⟩
    have zs : (z.length + (⟨#[l]⟩ : Str).length ≤ sizeLine) = True := eq_true (by have := szb; rw [Tk.len_one]; omega)
    rw [← h3]
    show loopS (g_name 3) nb none (.int lo :: rngD (lo + 1) k) _ _ = _
    rw [loopS_cons]
    simp [nb, e1, e2, zs]
theorem names_eq (a b c : Int) : ∃ x y z a' b' c', m__law_names [.loc 0] (pl a b c) = .ok (.lst [.str x, .str y, .str z]) (pl a' b' c') ∧ Tk.IsName x := by
  obtain ⟨r, a1, b1, c1, e1, r0, r1⟩ := draw0 a b c (n := 8) (by decide) (by decide)
  obtain ⟨z, a2, b2, c2, x2, hz, hl, e2⟩ := names_loop r.toNat 0 "" a1 b1 c1 none Tk.low_nil (by show 0 + _ ≤ 7; omega)
  have hl' : z.length ≤ 7 := by rw [hl]; show 0 + _ ≤ 7; omega
  obtain ⟨at_, a3, b3, c3, e3, t0, t1⟩ := draw0 a2 b2 c2 (n := (z.length : Int) + 1) (by omega) (by omega)
  obtain ⟨f, a4, b4, c4, e4, f0, f1⟩ := draw0 a3 b3 c3 (n := 26) (by decide) (by decide)
  obtain ⟨g, a5, b5, c5, e5, g0, g1⟩ := draw0 a4 b4 c4 (n := 12) (by decide) (by decide)
  obtain ⟨h, a6, b6, c6, e6, h0, h1⟩ := draw0 a5 b5 c5 (n := 12) (by decide) (by decide)
  have q1 := Int.emod_nonneg (f + 1 + g) (show (26 : Int) ≠ 0 by decide)
  have q2 := Int.emod_lt_of_pos (f + 1 + g) (show (0 : Int) < 26 by decide)
  have q3 := Int.emod_nonneg (f + 14 + h) (show (26 : Int) ≠ 0 by decide)
  have q4 := Int.emod_lt_of_pos (f + 14 + h) (show (0 : Int) < 26 by decide)
  obtain ⟨l1, i1, k1⟩ := Tk.alpha_at f0 f1
  obtain ⟨l2, i2, k2⟩ := Tk.alpha_at q1 q2
  obtain ⟨l3, i3, k3⟩ := Tk.alpha_at q3 q4
  have al : (Tk.alpha.length ≤ sizeLine) = True := eq_true alpha_len
  have zl : (z.length ≤ sizeLine) = True := eq_true (by have := szb; omega)
  have cl : (cutS z none (some at_)).length ≤ 7 ∧ (cutS z (some at_) none).length ≤ 7 := by
    obtain ⟨n, rfl⟩ : ∃ n : Nat, at_ = (n : Int) := ⟨at_.toNat, by omega⟩
    rw [Tk.len_cut_lo z n (by omega), Tk.len_cut_hi z n (by omega)]
    omega
  have s1 : ∀ l : Nat, ((cutS z none (some at_)).length + (⟨#[l]⟩ : Str).length ≤ sizeLine) = True := fun l => eq_true (by have := szb; rw [Tk.len_one]; omega)
  have s2 : ∀ l : Nat, ((cutS z none (some at_) ++ (⟨#[l]⟩ : Str)).length + (cutS z (some at_) none).length ≤ sizeLine) = True := fun l => eq_true (by have := szb; rw [Tk.len_app, Tk.len_one]; omega)
  refine ⟨cutS z none (some at_) ++ ⟨#[l1]⟩ ++ cutS z (some at_) none, cutS z none (some at_) ++ ⟨#[l2]⟩ ++ cutS z (some at_) none, cutS z none (some at_) ++ ⟨#[l3]⟩ ++ cutS z (some at_) none, a6, b6, c6, ?_, Tk.isName_mk hz hl' k1 t0 (by omega)⟩
  have r2 : (-4611686018427387904 ≤ r) = True := eq_true (by omega)
  have r3 : (r < 4611686018427387904) = True := eq_true (by omega)
  unfold nb at e2
  simp [m__law_names, runDef, b__law_names, e1, r2, r3, e2, zl, e3, e4, e5, e6, wipeE, al, i1, i2, i3, s1, s2]
end Mm
set_option maxRecDepth 100000
namespace Mm
open PySem L2
/-- plain data -/
def gd (d : D) : Prop := ∃ p : PyData, pyD d = some p ∧ p.canLay0 = true ∧ p.depth ≤ 3 ∧ p.plain = true
theorem gds : ∀ {ds : List D}, (∀ d ∈ ds, gd d) → ∃ ps : List PyData, pyDs ds = some ps ∧ PyData.canLayAll0 ps = true ∧ PyData.depthAll ps ≤ 3 ∧ PyData.plainAll ps = true
  | [], h => ⟨[], by unfold pyDs; rfl, by simp [PyData.canLayAll0], by simp [PyData.depthAll], by simp [PyData.plainAll]⟩
  | d :: r, h => by
    obtain ⟨p, h1, h2, h3, h4⟩ := h d List.mem_cons_self
    obtain ⟨ps, g1, g2, g3, g4⟩ := gds (ds := r) fun x m => h x (List.mem_cons_of_mem _ m)
    refine ⟨p :: ps, by unfold pyDs; rw [h1, g1]; rfl, by simp [PyData.canLayAll0, h2, g2], by simp [PyData.depthAll]; omega, by simp [PyData.plainAll, h4, g4]⟩
theorem eqD_same (neg : Bool) {ds : List D} (h : ∀ d ∈ ds, gd d) (S : Sto) : eqD neg (.lst ds) (.lst ds) S = .ok (.bl (neg ^^ true)) S := by
  obtain ⟨ps, g1, g2, g3, g4⟩ := gds h
  have e : pyOf S (.lst ds) = some (.list ps) := by
    show pyD (.lst ds) = _
    unfold pyD
    rw [g1]; rfl
  have sh : SeqAt.shaped (.list ps) = true := by
    unfold SeqAt.shaped
    rw [Bool.and_eq_true]
    exact ⟨by simpa [PyData.canLay0] using g2, decide_eq_true (by simp [PyData.depth]; omega)⟩
  have pe : PyData.eqv (.list ps) (.list ps) = true := SeqAt.eqv_refl_plain _ (by simpa [PyData.plain] using g4)
  show (match pyOf S (.lst ds), pyOf S (.lst ds) with
    | some p, some q => R.if (SeqAt.shaped p = true ∧ SeqAt.shaped q = true) (R.ok (D.bl (neg ^^ PyData.eqv p q)) S)
    | _, _ => R.bad) = _
  rw [e]
  dsimp only
  rw [R.if_pos ⟨sh, sh⟩, pe]
theorem gd_int (i : Int) : gd (.int i) := ⟨.int i, by unfold pyD; rfl, by simp [PyData.canLay0], by simp [PyData.depth], by simp [PyData.plain]⟩
theorem gd_pair (a b : Int) : gd (.tup [.int a, .int b]) := ⟨.tuple [.int a, .int b], by simp [pyD, pyDs], by simp [PyData.canLay0, PyData.canLayAll0], by simp [PyData.depth, PyData.depthAll], by simp [PyData.plain, PyData.plainAll]⟩
theorem gd_com (a b : Int) : gd (.tup [.int a, .tup [.int b]]) := ⟨.tuple [.int a, .tuple [.int b]], by simp [pyD, pyDs], by simp [PyData.canLay0, PyData.canLayAll0], by simp [PyData.depth, PyData.depthAll], by simp [PyData.plain, PyData.plainAll]⟩
theorem gd_coms : ∀ (bits : List Int) (i : Int), ∀ d ∈ comC i bits, gd d
  | [], i, d, h => by cases h
  | a :: r, i, d, h => by
    rw [comC_s] at h
    rcases List.mem_append.mp h with h | h
    · split at h
      · rw [List.mem_singleton] at h; rw [h]; exact gd_com _ _
      · cases h
    · exact gd_coms r _ d h
theorem gd_sched : ∀ (bits : List Int), ∀ d ∈ sched bits, gd d
  | [], d, h => by cases h
  | a :: r, d, h => by
    unfold sched at h
    simp only [List.mem_cons] at h
    rcases h with rfl | rfl | rfl | h
    · exact gd_pair _ _
    · exact gd_pair _ _
    · exact gd_pair _ _
    · exact gd_sched r d h
theorem gd_ints (xs : List Int) : ∀ d ∈ xs.map D.int, gd d := fun d h => by
  obtain ⟨i, _, rfl⟩ := List.mem_map.mp h
  exact gd_int i
theorem los_ge : ∀ (bits : List Int) (i x : Int), x ∈ losL i bits → i ≤ x
  | [], i, x, h => by cases h
  | a :: r, i, x, h => by
    rw [losL_s] at h
    rcases List.mem_append.mp h with h | h
    · split at h
      · rw [List.mem_singleton] at h; omega
      · cases h
    · have := los_ge r _ x h; omega
theorem los_sorted : ∀ (bits : List Int) (i : Int), (losL i bits).Pairwise (· ≤ ·)
  | [], i => .nil
  | a :: r, i => by
    rw [losL_s]
    refine List.pairwise_append.mpr ⟨?_, los_sorted r _, fun x hx y hy => ?_⟩
    · split
      · exact List.pairwise_singleton _ _
      · exact .nil
    · split at hx
      · rw [List.mem_singleton] at hx
        have := los_ge r _ y hy; omega
      · cases hx
theorem sort_los (bits : List Int) (i : Int) : sortI (losL i bits) = losL i bits := (sortI_uniq (.refl _) (los_sorted bits i)).symm
/-- the answers -/
noncomputable def ab : EM := e_fn tr0 m__law_draw (a_cons (e_fn tr0 m__law_pool (a_cons (e_v 0) (a_cons (e_v 8) a_nil))) (a_cons (e_k (.int 2)) a_nil))
theorem ans_lc (ns : List Int) (env : Env) (h0 : env[0]? = some (some (.fz ns))) (hl : env.length = 19) : ∀ (cnt lo : Nat) (acc : List Int) (S : Sto), acc.length + cnt ≤ 100 → ∃ bits S', bits.length = cnt ∧ (∀ b ∈ bits, b = 0 ∨ b = 1) ∧
    lcM (g_name 8) t_yes ab env none (rngD lo cnt) (acc.map .int) S = .ok ((acc ++ bits).map .int) S'
  | 0, lo, acc, S, hn => ⟨[], S, rfl, by simp, by unfold rngD; rw [lcM_nil, List.append_nil]⟩
  | k + 1, lo, acc, S, hn => by
    obtain ⟨a, b, c, e1⟩ := pool_eq ns lo S
    obtain ⟨r, a', b', c', e2, r0, r1⟩ := draw_eq (S := S ++ [.lst [.int a, .int b, .int c]]) (p := S.length) (a := a) (b := b) (c := c) (by simp) (n := 2) (by decide) (by decide)
    obtain ⟨bits, S', l1, l2, l3⟩ := ans_lc ns env h0 hl k (lo + 1) (acc ++ [r]) (S ++ [.lst [.int a', .int b', .int c']]) (by simp; omega)
    refine ⟨r :: bits, S', by simp [l1], fun x hx => ?_, ?_⟩
    · rcases List.mem_cons.mp hx with rfl | hx
      · omega
      · exact l2 x hx
    have z1 : (acc.length < sizeLine) = True := eq_true (by have := szb; omega)
    have h8 : (env.set 8 (some (D.int lo)))[8]? = some (some (.int lo)) := List.getElem?_set_self (by omega)
    have h00 : (env.set 8 (some (D.int lo)))[0]? = some (some (.fz ns)) := by rw [List.getElem?_set_ne (by decide)]; exact h0
    show lcM (g_name 8) t_yes ab env none (.int lo :: rngD ((lo : Int) + 1) k) _ _ = _
    rw [lcM_cons]
    have ci : ((lo + 1 : Nat) : Int) = (lo : Int) + 1 := by omega
    rw [ci] at l3
    unfold ab at l3
    simp only [List.map_append, List.map_cons, List.map_nil, List.append_assoc, List.cons_append, List.nil_append] at l3
    simp [ab, h8, h00, e1, e2, z1, l3]
end Mm
set_option maxRecDepth 100000
namespace Mm
open PySem L2
noncomputable def sb : SM := (s_set 9 (e_op addD (e_v 9) (e_lst (a_cons (e_tup (a_cons (e_k (.int 0)) (a_cons (e_k (.int 0)) a_nil))) (a_cons (e_tup (a_cons (e_k (.int 0)) (a_cons (e_v 10) a_nil))) (a_cons (e_tup (a_cons (e_k (.int 0)) (a_cons (e_k (.int 0)) a_nil))) a_nil))))))
abbrev En (a0 a1 a2 a3 a4 a5 a6 a7 : D) (s : List D) (x : Option D) : Env := [some a0, some a1, some a2, some a3, some a4, some a5, some a6, some a7, none, some (.lst s), x, none, none, none, none, none, none, none, none]
theorem sched_loop (a0 a1 a2 a3 a4 a5 a6 a7 : D) (S : Sto) : ∀ (bits : List Int) (s : List D) (x : Option D), s.length + 3 * bits.length ≤ 1000 → ∃ x', loopS (g_name 10) sb none (bits.map .int) (En a0 a1 a2 a3 a4 a5 a6 a7 s x) S = .next (En a0 a1 a2 a3 a4 a5 a6 a7 (s ++ sched bits) x') S
  | [], s, x, h => ⟨x, by simp [sched]⟩
  | a :: r, s, x, h => by
    simp only [List.length_cons] at h
    have z1 : (s.length + 3 ≤ sizeLine) = True := eq_true (by have := szb; omega)
    obtain ⟨x', e⟩ := sched_loop a0 a1 a2 a3 a4 a5 a6 a7 S r (s ++ [.tup [.int 0, .int 0], .tup [.int 0, .int a], .tup [.int 0, .int 0]]) (some (.int a)) (by simp; omega)
    refine ⟨x', ?_⟩
    have es : s ++ sched (a :: r) = s ++ [.tup [.int 0, .int 0], .tup [.int 0, .int a], .tup [.int 0, .int 0]] ++ sched r := by simp [sched]
    rw [es, ← e, List.map_cons, loopS_cons]
    simp [sb, z1]
noncomputable def ct : TM := (t_b (e_op (eqD false) (e_op ixD (e_v 7) (e_v 8)) (e_k (.int 0))))
noncomputable def cm : EM := (e_tup (a_cons (e_k (.int 0)) (a_cons (e_tup (a_cons (e_v 8) a_nil)) a_nil)))
noncomputable def lt' : TM := (t_b (e_op (eqD false) (e_op ixD (e_v 7) (e_v 8)) (e_k (.int 1))))
theorem drop_s {bits : List Int} {lo : Nat} (h : lo < bits.length) : bits.drop lo = bits[lo] :: bits.drop (lo + 1) := List.drop_eq_getElem_cons h
theorem com_lc (bits : List Int) (env : Env) (h7 : env[7]? = some (some (.lst (bits.map .int)))) (hl : env.length = 19) (S : Sto) : ∀ (cnt lo : Nat) (acc : List D), lo + cnt = bits.length → acc.length + cnt ≤ 100 →
    lcM (g_name 8) ct cm env none (rngD lo cnt) acc S = .ok (acc ++ comC lo (bits.drop lo)) S
  | 0, lo, acc, h, hn => by
    rw [List.drop_eq_nil_of_le (by omega)]
    unfold rngD
    simp [comC]
  | k + 1, lo, acc, h, hn => by
    have hlo : lo < bits.length := by omega
    have z1 : (acc.length < sizeLine) = True := eq_true (by have := szb; omega)
    have h8 : (env.set 8 (some (D.int lo)))[8]? = some (some (.int lo)) := List.getElem?_set_self (by omega)
    have h77 : (env.set 8 (some (D.int lo)))[7]? = some (some (.lst (bits.map .int))) := by rw [List.getElem?_set_ne (by decide)]; exact h7
    have hb : (bits.map D.int)[lo]? = some (.int bits[lo]) := by rw [List.getElem?_map, List.getElem?_eq_getElem hlo]; rfl
    have ih := fun acc hn => com_lc bits env h7 hl S k (lo + 1) acc (by omega) hn
    have ci : ((lo + 1 : Nat) : Int) = (lo : Int) + 1 := by omega
    rw [ci] at ih
    show lcM (g_name 8) ct cm env none (.int lo :: rngD ((lo : Int) + 1) k) _ _ = _
    rw [lcM_cons, drop_s hlo, comC_s]
    have ixe : ixD (.lst (bits.map .int)) (.int lo) S = .ok (.int bits[lo]) S := by
      show R.ofO ((seqOf S (.lst (bits.map .int))).bind fun ds => atI ds (lo : Int)) S = _
      rw [seqOf_lst, Option.bind_some, atI_k, hb]; rfl
    by_cases hz : bits[lo] = 0
    · simp only [g_name_eq, ct, cm]
      simp [h8, h77, ixe, hz, z1]
      have := ih (acc ++ [.tup [.int 0, .tup [.int lo]]]) (by simp; omega)
      unfold ct cm at this
      simpa using this
    · simp only [g_name_eq, ct, cm]
      simp [h8, h77, ixe, hz, z1]
      have := ih acc (by omega)
      unfold ct cm at this
      simpa using this
theorem los_lc (bits : List Int) (env : Env) (h7 : env[7]? = some (some (.lst (bits.map .int)))) (hl : env.length = 19) (S : Sto) : ∀ (cnt lo : Nat) (acc : List Int), lo + cnt = bits.length → acc.length + cnt ≤ 100 →
    lcM (g_name 8) lt' (e_v 8) env none (rngD lo cnt) (acc.map .int) S = .ok ((acc ++ losL lo (bits.drop lo)).map .int) S
  | 0, lo, acc, h, hn => by
    rw [List.drop_eq_nil_of_le (by omega)]
    unfold rngD
    simp [losL]
  | k + 1, lo, acc, h, hn => by
    have hlo : lo < bits.length := by omega
    have z1 : (acc.length < sizeLine) = True := eq_true (by have := szb; omega)
    have h8 : (env.set 8 (some (D.int lo)))[8]? = some (some (.int lo)) := List.getElem?_set_self (by omega)
    have h77 : (env.set 8 (some (D.int lo)))[7]? = some (some (.lst (bits.map .int))) := by rw [List.getElem?_set_ne (by decide)]; exact h7
    have hb : (bits.map D.int)[lo]? = some (.int bits[lo]) := by rw [List.getElem?_map, List.getElem?_eq_getElem hlo]; rfl
    have ih := fun acc hn => los_lc bits env h7 hl S k (lo + 1) acc (by omega) hn
    have ci : ((lo + 1 : Nat) : Int) = (lo : Int) + 1 := by omega
    rw [ci] at ih
    show lcM (g_name 8) lt' (e_v 8) env none (.int lo :: rngD ((lo : Int) + 1) k) _ _ = _
    rw [lcM_cons, drop_s hlo, losL_s]
    have ixe : ixD (.lst (bits.map .int)) (.int lo) S = .ok (.int bits[lo]) S := by
      show R.ofO ((seqOf S (.lst (bits.map .int))).bind fun ds => atI ds (lo : Int)) S = _
      rw [seqOf_lst, Option.bind_some, atI_k, hb]; rfl
    by_cases hz : bits[lo] = 1
    · simp only [g_name_eq, lt']
      simp [h8, h77, ixe, hz, z1]
      have := ih (acc ++ [(lo : Int)]) (by simp; omega)
      unfold lt' at this
      simpa using this
    · simp only [g_name_eq, lt']
      simp [h8, h77, ixe, hz, z1]
      have := ih acc (by omega)
      unfold lt' at this
      simpa using this
noncomputable def ob : SM := (s_dput (e_k (.int 0)) (e_v 17) (e_v 18))
theorem out_loop (S : Sto) : ∀ (cnt : Nat) (lo : Int) (xs : List Int) (env : Env), env[17]? = some (some (.loc S.length)) → env.length = 19 → (∀ y ∈ xs, y < lo) → xs.length + cnt ≤ 100 →
    ∃ x, loopS (g_name 18) ob none (rngD lo cnt) env (S ++ [.dic (xs.map .int) (List.replicate xs.length (.int 0))]) = .next (env.set 18 x) (S ++ [.dic ((xs ++ rngI lo cnt).map .int) (List.replicate (xs.length + cnt) (.int 0))])
  | 0, lo, xs, env, h17, hl, hx, hn => ⟨env[18]'(by omega), by unfold rngD rngI; simp⟩
  | k + 1, lo, xs, env, h17, hl, hx, hn => by
    have hz : (xs.length < sizeLine) = True := eq_true (by have := szb; omega)
    have h18 : (env.set 18 (some (D.int lo)))[18]? = some (some (.int lo)) := List.getElem?_set_self (by omega)
    have h177 : (env.set 18 (some (D.int lo)))[17]? = some (some (.loc S.length)) := by rw [List.getElem?_set_ne (by decide)]; exact h17
    have hni : ¬ (lo ∈ xs) := fun m => by have := hx lo m; omega
    obtain ⟨x, e⟩ := out_loop S k (lo + 1) (xs ++ [lo]) (env.set 18 (some (.int lo))) h177 (by simpa using hl) (fun y m => by
      rcases List.mem_append.mp m with m | m
      · have := hx y m; omega
      · rw [List.mem_singleton] at m; omega) (by simp; omega)
    refine ⟨x, ?_⟩
    have er : xs ++ rngI lo (k + 1) = xs ++ [lo] ++ rngI (lo + 1) k := by simp [rngI]
    rw [List.set_set] at e
    rw [er]
    have l1 : (xs ++ [lo]).length + k = xs.length + (k + 1) := by simp; omega
    rw [l1] at e
    rw [← e]
    show loopS (g_name 18) ob none (.int lo :: rngD (lo + 1) k) _ _ = _
    rw [loopS_cons]
    have ek : (keyD ∘ Sum.inl : Int → D) = D.int := rfl
    simp [ob, h18, h177, dputO, kkO_int, hz, putDs, hni, List.replicate_succ', ek]
end Mm
set_option maxRecDepth 100000
namespace Mm
open PySem L2
theorem bnd1 : -(2 ^ 62) ≤ (1 : Int) ∧ (1 : Int) < 2 ^ 62 := by omega
theorem rng2_gen {m1 m2 : EM} {env : Env} {S : Sto} {i j : Int} (h1 : m1 env S = .ok (.int i) S) (h2 : m2 env S = .ok (.int j) S) (b : -(2 ^ 62) ≤ i ∧ i < 2 ^ 62 ∧ -(2 ^ 62) ≤ j ∧ j < 2 ^ 62) : i_rng2 m1 m2 env S = .ok (rngD i (j - i).toNat, none) S := by
  rw [i_rng2_eq, h1, R.bind_ok, h2, R.bind_ok]
  exact R.if_pos b
theorem bnd2 {n : Nat} (h : n ≤ 1000) : -(2 ^ 62) ≤ (n : Int) ∧ (n : Int) < 2 ^ 62 := by omega
theorem rng1_eq (ns : List Int) (hn : ns.length ≤ 63) (r : Env) (S : Sto) : i_rng2 (e_k (.int 1)) (e_call (f1 lenD) (a_cons (e_v 0) a_nil)) (some (.fz ns) :: r) S = .ok (rngD 1 (ns.length - 1), none) S := by
  have tn : ((ns.length : Int) - 1).toNat = ns.length - 1 := by omega
  rw [← tn]
  exact rng2_gen (i := 1) (j := ns.length) rfl (by simp) ⟨bnd1.1, bnd1.2, (bnd2 (by omega)).1, (bnd2 (by omega)).2⟩
/-! the law in parts -/
noncomputable def T17 : SM := (s_seq (s_for (i_rng2 (e_call (f1 lenD) (a_cons (e_v 7) a_nil)) (e_v 16)) (g_name 18) (s_dput (e_k (.int 0)) (e_v 17) (e_v 18))) (s_seq (s_if (t_or (t_b (e_op (eqD true) (e_fld [(0, 0), (3, 5)] (e_v 13)) (e_v 14))) (t_or (t_b (e_op (eqD true) (e_fld [(0, 1), (3, 6)] (e_v 13)) (e_v 15))) (t_or (t_b (e_op dneD (e_fld [(0, 2)] (e_v 13)) (e_v 17))) (t_b (e_op (eqD true) (e_v 12) (e_v 9)))))) (s_ret (e_k (.bl false))) s_nil) (s_seq (s_if (t_or (t_b (e_op (eqD true) (e_fld [(0, 3), (3, 1)] (e_v 13)) (e_v 16))) (t_or (t_b (e_op (eqD true) (e_fld [(0, 4)] (e_v 13)) (e_v 16))) (t_b (e_op (eqD true) (e_fld [(0, 5), (3, 3), (5, 3)] (e_v 13)) (e_k (.int 0)))))) (s_ret (e_k (.bl false))) s_nil) (s_seq (s_if (t_b (e_op (eqD false) (e_v 11) (e_k (.int 0)))) (s_ret (e_op (isD false) (e_fld [(0, 6), (3, 7)] (e_v 13)) (e_k .non))) s_nil) (s_ret (e_op (eqD false) (e_fld [(0, 6), (3, 7)] (e_v 13)) (e_v 2)))))))
noncomputable def T15 : SM := (s_seq (s_set 16 (e_op mulD (e_op divD (e_op subD (e_op addD (e_v 11) (e_v 2)) (e_k (.int 1))) (e_v 2)) (e_v 2))) (s_seq (s_set 17 (e_dnew [])) T17))
noncomputable def T13 : SM := (s_seq (s_set 14 (e_lcG [8] (i_rng1 (e_call (f1 lenD) (a_cons (e_v 7) a_nil))) (g_name 8) (t_b (e_op (eqD false) (e_op ixD (e_v 7) (e_v 8)) (e_k (.int 0)))) (e_tup (a_cons (e_k (.int 0)) (a_cons (e_tup (a_cons (e_v 8) a_nil)) a_nil))) finL)) (s_seq (s_set 15 (e_lcG [8] (i_rng1 (e_call (f1 lenD) (a_cons (e_v 7) a_nil))) (g_name 8) (t_b (e_op (eqD false) (e_op ixD (e_v 7) (e_v 8)) (e_k (.int 1)))) (e_v 8) finL)) T15))
noncomputable def T11 : SM := (s_seq (s_set 12 (e_call (f1 listD) (a_cons (e_v 9) a_nil))) (s_seq (s_set 13 (e_fn trunc m_run (a_cons (e_v 6) (a_cons (e_v 12) a_nil)))) T13))
noncomputable def T7 : SM := (s_seq (s_set 9 (e_lst a_nil)) (s_seq (s_for (i_seq (e_v 7)) (g_name 10) (s_set 9 (e_op addD (e_v 9) (e_lst (a_cons (e_tup (a_cons (e_k (.int 0)) (a_cons (e_k (.int 0)) a_nil))) (a_cons (e_tup (a_cons (e_k (.int 0)) (a_cons (e_v 10) a_nil))) (a_cons (e_tup (a_cons (e_k (.int 0)) (a_cons (e_k (.int 0)) a_nil))) a_nil))))))) (s_seq (s_set 11 (e_call (f1 lenD) (a_cons (e_v 7) a_nil))) (s_seq (s_if (t_v (e_v 3)) (s_seq (s_set 9 (e_op addD (e_v 9) (e_lst (a_cons (e_tup (a_cons (e_k (.int 0)) (a_cons (e_k (.int 0)) a_nil))) a_nil)))) (s_set 11 (e_op addD (e_v 11) (e_k (.int 1))))) s_nil) T11))))
theorem b_law_eq : b_law = (s_seq (s_set 1 (e_fn tr0 m__law_pool (a_cons (e_v 0) (a_cons (e_k (.int 0)) a_nil)))) (s_seq (s_set 2 (e_op addD (e_k (.int 1)) (e_fn tr0 m__law_draw (a_cons (e_v 1) (a_cons (e_k (.int 3)) a_nil))))) (s_seq (s_set 3 (e_op (eqD false) (e_fn tr0 m__law_draw (a_cons (e_v 1) (a_cons (e_k (.int 2)) a_nil))) (e_k (.int 1)))) (s_seq (s_set 4 (e_op ixD (e_fn tr0 m__law_names (a_cons (e_v 1) a_nil)) (e_k (.int 0)))) (s_seq (s_set 5 (e_tup (a_cons (e_tup (a_cons (e_k (.str "take")) a_nil)) (a_cons (e_tup (a_cons (e_k (.str "choose")) (a_cons (e_tup (a_cons (e_tup (a_cons (e_k (.str "commit")) a_nil)) a_nil)) (a_cons (e_tup (a_cons (e_tup (a_cons (e_k (.str "rollback")) a_nil)) a_nil)) a_nil)))) a_nil)))) (s_seq (s_set 6 (e_mks trunc 5 m_System___init__ gSystem 0 (a_cons (e_mkk trunc 4 m_Kind___init__ gKind 2 1 (a_cons (e_v 4) (a_cons (e_v 5) a_nil)) (a_cons (e_v 2) a_nil)) a_nil) a_nil)) (s_seq (s_set 7 (e_lcG [8] (i_rng2 (e_k (.int 1)) (e_call (f1 lenD) (a_cons (e_v 0) a_nil))) (g_name 8) t_yes (e_fn tr0 m__law_draw (a_cons (e_fn tr0 m__law_pool (a_cons (e_v 0) (a_cons (e_v 8) a_nil))) (a_cons (e_k (.int 2)) a_nil))) finL)) T7))))))) := rfl

abbrev Ev (a0 a2 a3 a4 a6 a7 : D) (a9 a10 a11 a12 a13 a14 a15 a16 a17 a18 : Option D) : Env := [some a0, some (.loc 0), some a2, some a3, some a4, some (.tup stmts), some a6, some a7, none, a9, a10, a11, a12, a13, a14, a15, a16, a17, a18]
end Mm
set_option maxRecDepth 100000
namespace Mm
open PySem L2
theorem stageA (ns : List Int) (hn : ns.length ≤ 63) : ∃ (ch : Int) (o : Bool) (nm : Str) (bits : List Int) (S : Sto), 1 ≤ ch ∧ ch ≤ 3 ∧ (∀ b ∈ bits, b = 0 ∨ b = 1) ∧ bits.length ≤ 63 ∧ m_law [.fz ns] [] = endF (T7 (Ev (.fz ns) (.int ch) (.bl o) (.str nm) (sy nm ch) (.lst (bits.map .int)) none none none none none none none none none none) S) := by
  obtain ⟨a0, b0, c0, e0⟩ := pool_eq ns 0 []
  obtain ⟨r1, a1, b1, c1, e1, r10, r11⟩ := draw0 a0 b0 c0 (n := 3) (by decide) (by decide)
  obtain ⟨r2, a2, b2, c2, e2, r20, r21⟩ := draw0 a1 b1 c1 (n := 2) (by decide) (by decide)
  obtain ⟨nm, y, z, a3, b3, c3, e3, hnm⟩ := names_eq a2 b2 c2
  have k1 := kind_mk (ch := 1 + r1) hnm (by omega) (by omega) (pl a3 b3 c3)
  have k2 := sys_mk (nm := nm) (ch := 1 + r1) (by omega) (by omega) (pl a3 b3 c3)
  obtain ⟨bits, S1, l1, hb, e4⟩ := ans_lc ns [some (.fz ns), some (.loc 0), some (.int (1 + r1)), some (.bl (decide (r2 = 1))), some (.str nm), some (.tup stmts), some (sy nm (1 + r1)), none, none, none, none, none, none, none, none, none, none, none, none] rfl rfl (ns.length - 1) 1 [] (pl a3 b3 c3) (by simp; omega)
  unfold ab at e4
  have z1 : ((1 : Nat) : Int) = 1 := rfl
  simp only [z1, List.map_nil, List.nil_append] at e4
  have z0 : ((0 : Nat) : Int) = 0 := rfl
  simp only [z0, List.nil_append] at e0
  have ln0 : ([] : Sto).length = 0 := rfl
  rw [ln0] at e0
  have st : D.tup [.tup [.str "take"], .tup [.str "choose", .tup [.tup [.str "commit"]], .tup [.tup [.str "rollback"]]]] = .tup stmts := rfl
  refine ⟨1 + r1, decide (r2 = 1), nm, bits, S1, by omega, by omega, hb, by omega, ?_⟩
  unfold m_law
  rw [runDef_eq (by rfl), b_law_eq]
  simp -implicitDefEqProofs [-i_rng2_eq, rng1_eq ns hn, e0, e1, e2, e3, st, k1, k2, wipeE, e4]
end Mm
set_option maxRecDepth 100000
namespace Mm
open PySem L2
theorem stage7 (a0 : D) (ch : Int) (o : Bool) (nm : D) (a6 : D) (bits : List Int) (hb : bits.length ≤ 63) (S : Sto) : ∃ x, T7 (Ev a0 (.int ch) (.bl o) nm a6 (.lst (bits.map .int)) none none none none none none none none none none) S =
    T11 (Ev a0 (.int ch) (.bl o) nm a6 (.lst (bits.map .int)) (some (.lst (sched bits ++ if o then [.tup [.int 0, .int 0]] else []))) x (some (.int (if o then bits.length + 1 else bits.length))) none none none none none none none) S := by
  obtain ⟨x, e⟩ := sched_loop a0 (.loc 0) (.int ch) (.bl o) nm (.tup stmts) a6 (.lst (bits.map .int)) S bits [] none (by simp; omega)
  unfold sb at e
  have sl : (sched bits).length = 3 * bits.length := by
    have : ∀ b : List Int, (sched b).length = 3 * b.length := fun b => by
      induction b with
      | nil => rfl
      | cons a r ih => unfold sched; simp [ih]; omega
    exact this bits
  have z1 : ((sched bits).length + 1 ≤ sizeLine) = True := eq_true (by have := szb; omega)
  refine ⟨x, ?_⟩
  unfold T7
  cases o with
  | false => simp -implicitDefEqProofs [e]
  | true => simp -implicitDefEqProofs [e, z1]
end Mm
set_option maxRecDepth 100000
namespace Mm
open PySem L2
theorem stage11 (a0 : D) (ch : Int) (c1 : 1 ≤ ch) (c3 : ch ≤ 3) (o : Bool) (nm : Str) (bits : List Int) (hv : ∀ b ∈ bits, b = 0 ∨ b = 1) (hb : bits.length ≤ 63) (x tk : Option D) (S : Sto) :
    T11 (Ev a0 (.int ch) (.bl o) (.str nm) (sy nm ch) (.lst (bits.map .int)) (some (.lst (sched bits ++ if o then [.tup [.int 0, .int 0]] else []))) x tk none none none none none none none) S =
    T13 (Ev a0 (.int ch) (.bl o) (.str nm) (sy nm ch) (.lst (bits.map .int)) (some (.lst (sched bits ++ if o then [.tup [.int 0, .int 0]] else []))) x tk (some (.lst (sched bits ++ if o then [.tup [.int 0, .int 0]] else []))) (some (recD ch bits o)) none none none none none) S := by
  have r := run_eq nm ch S c1 c3 bits hv (by omega) o
  generalize (sched bits ++ if o then [D.tup [.int 0, .int 0]] else []) = st at r ⊢
  unfold T11
  simp -implicitDefEqProofs [r]
end Mm
set_option maxRecDepth 100000
namespace Mm
open PySem L2
theorem rng0_eq {m : EM} {env : Env} {S : Sto} {n : Nat} (h : m env S = .ok (.int n) S) (hn : n ≤ 1000) : i_rng1 m env S = .ok (rngD 0 n, none) S := by
  rw [i_rng1_eq, h, R.bind_ok]
  exact R.if_pos (bnd2 hn)
theorem stage13 (a0 a2 a3 a4 a6 : D) (bits : List Int) (hb : bits.length ≤ 63) (a9 a10 a11 a12 a13 : Option D) (S : Sto) : T13 (Ev a0 a2 a3 a4 a6 (.lst (bits.map .int)) a9 a10 a11 a12 a13 none none none none none) S =
    T15 (Ev a0 a2 a3 a4 a6 (.lst (bits.map .int)) a9 a10 a11 a12 a13 (some (.lst (comC 0 bits))) (some (.lst ((losL 0 bits).map .int))) none none none) S := by
  have z0 : ((0 : Nat) : Int) = 0 := rfl
  have e1 := com_lc bits (Ev a0 a2 a3 a4 a6 (.lst (bits.map .int)) a9 a10 a11 a12 a13 none none none none none) rfl rfl S bits.length 0 [] (by omega) (by simp; omega)
  have e2 := los_lc bits (Ev a0 a2 a3 a4 a6 (.lst (bits.map .int)) a9 a10 a11 a12 a13 (some (.lst (comC 0 bits))) none none none none) rfl rfl S bits.length 0 [] (by omega) (by simp; omega)
  unfold ct cm at e1
  unfold lt' at e2
  simp only [z0, List.drop_zero, List.nil_append, List.map_nil] at e1 e2
  have q : ∀ (env : Env), env[7]? = some (some (.lst (bits.map .int))) → i_rng1 (e_call (f1 lenD) (a_cons (e_v 7) a_nil)) env S = .ok (rngD 0 bits.length, none) S := fun env h => rng0_eq (by simp [h]) (by omega)
  unfold T13
  simp -implicitDefEqProofs [-i_rng1_eq, q, wipeE, e1, e2]
end Mm
set_option maxRecDepth 100000
namespace Mm
open PySem L2
theorem stage15 (a0 a3 a4 a6 a7 : D) (ch tk : Int) (c1 : 1 ≤ ch) (c3 : ch ≤ 3) (t0 : 0 ≤ tk) (t1 : tk ≤ 70) (a9 a10 a12 a13 a14 a15 : Option D) (S : Sto) : T15 (Ev a0 (.int ch) a3 a4 a6 a7 a9 a10 (some (.int tk)) a12 a13 a14 a15 none none none) S =
    T17 (Ev a0 (.int ch) a3 a4 a6 a7 a9 a10 (some (.int tk)) a12 a13 a14 a15 (some (.int (hg ch tk))) (some (.loc S.length)) none) (S ++ [.dic [] []]) := by
  have d : CDiv (tk + ch - 1) ch := by unfold CDiv; omega
  have q : 0 ≤ (tk + ch - 1) / ch ∧ (tk + ch - 1) / ch ≤ 100 := by
    have : ch = 1 ∨ ch = 2 ∨ ch = 3 := by omega
    rcases this with rfl | rfl | rfl <;> omega
  have m : CMul ((tk + ch - 1) / ch) ch ∨ CMulW ((tk + ch - 1) / ch) ch := .inl (by unfold CMul; omega)
  unfold T15 hg
  simp -implicitDefEqProofs [d, m]
theorem getDs_0 {x : Int} : ∀ {xs : List Int}, x ∈ xs → getDs (xs.map (Sum.inl : Int → Key)) (List.replicate xs.length (.int 0)) (Sum.inl x) = some (.int 0)
  | [], h => by cases h
  | y :: r, h => by
    unfold getDs
    rw [List.length_cons, List.replicate_succ, List.map_cons, List.zip_cons_cons, List.find?_cons]
    by_cases e : y = x
    · simp [e]
    · have : decide ((Sum.inl y : Key) = Sum.inl x) = false := by simp [e]
      dsimp only
      rw [this]
      exact getDs_0 (by rcases List.mem_cons.mp h with q | q; exact absurd q.symm e; exact q)
theorem same_0 (xs : List Int) : sameDs (xs.map .int, List.replicate xs.length (.int 0)) (xs.map .int, List.replicate xs.length (.int 0)) = true := by
  unfold sameDs
  rw [kkO_int]
  dsimp only
  rw [Bool.and_eq_true]
  refine ⟨by simp, ?_⟩
  rw [List.all_eq_true]
  intro kd hkd
  obtain ⟨k, d⟩ := kd
  have hk := (List.of_mem_zip hkd).1
  have hd := (List.of_mem_zip hkd).2
  obtain ⟨x, hx, rfl⟩ := List.mem_map.mp hk
  rw [List.mem_replicate] at hd
  obtain ⟨_, rfl⟩ := hd
  dsimp only
  rw [getDs_0 hx]
  rfl
theorem stage17 (a0 a3 a4 a6 : D) (ch : Int) (c1 : 1 ≤ ch) (c3 : ch ≤ 3) (o : Bool) (bits : List Int) (hb : bits.length ≤ 63) (x : Option D) (S : Sto) (steps : List D) (hs : ∀ d ∈ steps, gd d) : ∃ S', T17 (Ev a0 (.int ch) a3 a4 a6 (.lst (bits.map .int)) (some (.lst steps)) x (some (.int (if o then bits.length + 1 else bits.length))) (some (.lst steps)) (some (recD ch bits o)) (some (.lst (comC 0 bits))) (some (.lst ((losL 0 bits).map .int))) (some (.int (hg ch (if o then bits.length + 1 else bits.length)))) (some (.loc S.length)) none) (S ++ [.dic [] []]) = .ret (.bl true) S' := by
  have hg0 : ∀ t : Int, 0 ≤ t → t ≤ hg ch t ∧ hg ch t < t + ch := fun t h => hg_ok c1 c3 h
  have ht : (bits.length : Int) ≤ (if o then (bits.length : Int) + 1 else bits.length) ∧ (if o then (bits.length : Int) + 1 else bits.length) ≤ bits.length + 1 := by cases o <;> simp <;> omega
  have tz : ((if o then (bits.length : Int) + 1 else bits.length) = 0) ↔ (bits = [] ∧ o = false) := by
    cases o <;> simp <;> omega
  unfold recD
  generalize (if o then (bits.length : Int) + 1 else bits.length) = t at ht tz ⊢
  have h2 := hg0 t (by omega)
  generalize hg ch t = H at h2 ⊢
  generalize hk : (H - bits.length).toNat = k
  have rg : ∀ env S, env[7]? = some (some (.lst (bits.map .int))) → env[16]? = some (some (.int H)) → i_rng2 (e_call (f1 lenD) (a_cons (e_v 7) a_nil)) (e_v 16) env S = .ok (rngD bits.length k, none) S := fun env S h7 h16 => by
    rw [← hk]
    exact rng2_gen (by simp -implicitDefEqProofs [h7]) (by simp -implicitDefEqProofs [h16]) (by
      have := bnd2 (n := bits.length) (by omega)
      have := bnd2 (n := H.toNat) (by omega)
      refine ⟨by omega, by omega, by omega, by omega⟩)
  have f0 : ∀ (a b c d e f g : D) S, fldD [(0, 0), (3, 5)] (.obj 0 [a, b, c, d, e, f, g]) S = some a := fun _ _ _ _ _ _ _ _ => rfl
  have f1' : ∀ (a b c d e f g : D) S, fldD [(0, 1), (3, 6)] (.obj 0 [a, b, c, d, e, f, g]) S = some b := fun _ _ _ _ _ _ _ _ => rfl
  have f2' : ∀ (a b c d e f g : D) S, fldD [(0, 2)] (.obj 0 [a, b, c, d, e, f, g]) S = some c := fun _ _ _ _ _ _ _ _ => rfl
  have f3 : ∀ (a b c d e f g : D) S, fldD [(0, 3), (3, 1)] (.obj 0 [a, b, c, d, e, f, g]) S = some d := fun _ _ _ _ _ _ _ _ => rfl
  have f4 : ∀ (a b c d e f g : D) S, fldD [(0, 4)] (.obj 0 [a, b, c, d, e, f, g]) S = some e := fun _ _ _ _ _ _ _ _ => rfl
  have f5 : ∀ (a b c d e f g : D) S, fldD [(0, 5), (3, 3), (5, 3)] (.obj 0 [a, b, c, d, e, f, g]) S = some f := fun _ _ _ _ _ _ _ _ => rfl
  have f6 : ∀ (a b c d e f g : D) S, fldD [(0, 6), (3, 7)] (.obj 0 [a, b, c, d, e, f, g]) S = some g := fun _ _ _ _ _ _ _ _ => rfl
  rw [sort_los]
  have sp : (if bits = [] ∧ o = false then D.non else D.int ch) = if t = 0 then D.non else D.int ch := by
    by_cases h : t = 0
    · rw [if_pos h, if_pos (tz.mp h)]
    · rw [if_neg h, if_neg fun q => h (tz.mpr q)]
  rw [sp]
  have g1 := fun S => eqD_same true (gd_coms bits 0) S
  have g2 := fun S => eqD_same true (gd_ints (losL 0 bits)) S
  have g3 := fun S => eqD_same true hs S
  have g4 : dneD (.dic ((rngI bits.length k).map .int) (List.replicate k (.int 0))) (.loc S.length) (S ++ [.dic ((rngI bits.length k).map .int) (List.replicate k (.int 0))]) = .ok (.bl false) (S ++ [.dic ((rngI bits.length k).map .int) (List.replicate k (.int 0))]) := by
    have s0 := same_0 (rngI bits.length k)
    rw [rngI_len] at s0
    unfold dneD
    rw [dicOf_dic, dicOf_loc, ga0]
    dsimp only [List.getElem?_cons_zero]
    rw [R.if_pos s0]
  generalize hrec : D.obj 0 _ = rec
  obtain ⟨y, ol⟩ := out_loop S k bits.length [] (Ev a0 (.int ch) a3 a4 a6 (.lst (bits.map .int)) (some (.lst steps)) x (some (.int t)) (some (.lst steps)) (some rec) (some (.lst (comC 0 bits))) (some (.lst ((losL 0 bits).map .int))) (some (.int H)) (some (.loc S.length)) none) rfl rfl (fun _ q => by cases q) (by simp; omega)
  simp only [List.map_nil, List.length_nil, List.replicate_zero, List.nil_append, Nat.zero_add] at ol
  unfold ob at ol
  generalize hS2 : (S ++ [SO.dic ((rngI bits.length k).map .int) (List.replicate k (.int 0))]) = S2 at g4 ol
  refine ⟨S2, ?_⟩
  unfold T17
  subst hrec
  by_cases h : t = 0
  · subst h
    simp only [if_true] at ol ⊢
    simp -implicitDefEqProofs [-i_rng2_eq, rg, ol, f0, f1', f2', f3, f4, f5, f6, g1, g2, g3, g4]
  · simp only [if_neg h] at ol ⊢
    simp -implicitDefEqProofs [-i_rng2_eq, rg, ol, f0, f1', f2', f3, f4, f5, f6, g1, g2, g3, g4, h]
end Mm
set_option maxRecDepth 100000
namespace Mm
open PySem L2
theorem law_ok (ns : List Int) (hn : ns.length ≤ 63) : ∃ S, m_law [.fz ns] [] = .ok (.bl true) S := by
  obtain ⟨ch, o, nm, bits, S, c1, c3, hv, hb, e⟩ := stageA ns hn
  obtain ⟨x, e7⟩ := stage7 (.fz ns) ch o (.str nm) (sy nm ch) bits hb S
  have e11 := stage11 (.fz ns) ch c1 c3 o nm bits hv hb x (some (.int (if o then bits.length + 1 else bits.length))) S
  have e13 := stage13 (.fz ns) (.int ch) (.bl o) (.str nm) (sy nm ch) bits hb (some (.lst (sched bits ++ if o then [.tup [.int 0, .int 0]] else []))) x (some (.int (if o then bits.length + 1 else bits.length))) (some (.lst (sched bits ++ if o then [.tup [.int 0, .int 0]] else []))) (some (recD ch bits o)) S
  have e15 := stage15 (.fz ns) (.bl o) (.str nm) (sy nm ch) (.lst (bits.map .int)) ch (if o then bits.length + 1 else bits.length) c1 c3 (by split <;> omega) (by split <;> omega) (some (.lst (sched bits ++ if o then [.tup [.int 0, .int 0]] else []))) x (some (.lst (sched bits ++ if o then [.tup [.int 0, .int 0]] else []))) (some (recD ch bits o)) (some (.lst (comC 0 bits))) (some (.lst ((losL 0 bits).map .int))) S
  obtain ⟨S', e17⟩ := stage17 (.fz ns) (.bl o) (.str nm) (sy nm ch) ch c1 c3 o bits hb x S (sched bits ++ if o then [.tup [.int 0, .int 0]] else []) (fun d hd => by
    rcases List.mem_append.mp hd with h | h
    · exact gd_sched bits d h
    · split at h
      · rw [List.mem_singleton] at h; rw [h]; exact gd_pair _ _
      · cases h)
  exact ⟨S', by rw [e, e7, e11, e13, e15, e17]; rfl⟩
end Mm
set_option maxRecDepth 100000
namespace Mm
open PySem L2
/-- the law's promise -/
def spLaw10 (K : PySem.W.Frag) : Sp := fun vs H Q _ => ∃ (a : Addr) (ns : List Int), vs = [.ref a] ∧ FzL K H a (ns.map V.int) ∧ ns.length ≤ 63 ∧ ∀ H', Q (.bl true) H'
theorem fz_only {K : PySem.W.Frag} {H : Hp} {a : Addr} {xs : List V} (o : Only H) (h : SqL K H a xs) : FzL K H a xs := by
  rcases h with (h | ⟨u, h⟩) | h
  · rcases o a with e | ⟨u, ys, e⟩
    · rw [h] at e; cases e
    · rw [h] at e; cases e
  · exact .inl ⟨u, h⟩
  · exact .inr fun H' => .inr h
theorem law_fn {P : Program} {wd : World} {K : PySem.W.Frag} {mg : Str → Option Value} {base : Heap} {Γ : Cls'} {k : Nat} {f : Addr} {fd : FuncData} {ps : List Str} (F : FnOk P wd K mg base (L2.CX P wd) k f fd ps (spM K Γ m_law)) : FnOk P wd K mg base (L2.CX P wd) k f fd ps (spLaw10 K) := by
  have i : ∀ vs H Q E, spLaw10 K vs H Q E → spM K Γ m_law vs H Q E := fun vs H Q E ⟨a, ns, ev, h, hl, q⟩ => by
    subst ev
    obtain ⟨S, e⟩ := law_ok ns hl
    refine ⟨⟨fun _ => 0, fun _ => False⟩, [], [.fz ns], ⟨fun k o h => (by simp at h), fun i j hi => absurd hi (Nat.not_lt_zero _), fun k hk => absurd hk (Nat.not_lt_zero _), fun a h => h.elim⟩, .one (by unfold At; exact ⟨a, rfl, h⟩), ?_⟩
    rw [e]
    intro c' H' v _ _ av
    rw [av.bl]
    exact q H'
  exact ⟨fun vs H Q E h => F.len vs H Q E (i vs H Q E h), fun A outer s H args us vs Q E hr e0 b r h => F.run A outer s H args us vs Q E hr e0 b r (i vs H Q E h)⟩
theorem walk10 {l : PySem.W.OpenLaw} {q : Program} {loose : List Str} {XP : (Str → Option Value) → Heap → Prop} {YP : World → Heap → Prop} {d : DefRec} {K : Params → PySem.W.Frag} (hn : l.most = some 63) (hdf : d.params.defaults = [])
    (hY : ∀ (w : World) (h : Heap), YP w h → (K w.params).In h)
    (F : ∀ (w : World) (mg : Str → Option Value) (fa : Addr) (h : Heap), (K w.params).In h → h.Ns mainGlobals mg → mg d.name = some (.ref fa) →
      ∃ fd : FuncData, (∀ (s : Shared) (u : Value), BindsTo s fd ⟨[u], []⟩ [("_law_script", u)]) ∧ ∀ base : Heap, (K w.params).In base → base.Ns mainGlobals mg → FnOk l.prog w (K w.params) mg base (L2.CX l.prog w) 17 fa fd ["_law_script"] (spLaw10 (K w.params))) :
    PySem.W.WalkO q loose XP YP l.row.toRowW d [] (fun f vs => PySem.call f vs) :=
  L2.walk_of (n := 63) (k := 17) (x := "_law_script") (CX := fun w => L2.CX l.prog w) (sp := fun w => spLaw10 (K w.params)) hn (by decide) hdf ⟨rfl, by decide, by decide⟩ hY F (fun _ _ a ns hl o hS => ⟨a, ns, rfl, fz_only o hS, hl, fun _ => rfl⟩) fun _ _ _ _ _ ⟨_, _, _, _, _, _, _, _, _, _, _, _, z⟩ => z
end Mm
set_option maxRecDepth 100000
namespace Mm
open PySem L2
theorem sc_is_integer : FnScope ["value"] ["value"] (defScope s_is_integer) := ⟨rfl, rfl, rfl, by decide +kernel, rfl, by decide +kernel, by decide +kernel⟩
theorem ok_is_integer {P : Program} {wd : World} {K : PySem.W.Frag} {mg : Str → Option Value} {base : Heap} {Γ : Cls'} (Wd : WdT wd K Γ mg)  {f : Addr} {fd : FuncData} (F : Fun K "is_integer" "is_integer" s_is_integer f fd) :
    FnOk P wd K mg base (L2.CX P wd) 1 f fd ["value"] (spM K Γ m_is_integer) := by
  have nd := sc_is_integer.nd
  exact def_ok F sc_is_integer fun cdv A outer s H E hr => (c_last (c_ret (c_and (c_isiT (T := "int") Wd.b_isinstance Wd.b_int (by decide +kernel) (cv 0)) (c_one (c_nott (c_isiT (T := "bool") Wd.b_isinstance Wd.b_bool (by decide +kernel) (cv 0)))))))

theorem sc_is_within : FnScope ["value", "low", "high"] ["value", "low", "high"] (defScope s_is_within) := ⟨rfl, rfl, rfl, by decide +kernel, rfl, by decide +kernel, by decide +kernel⟩
theorem ok_is_within {P : Program} {wd : World} {K : PySem.W.Frag} {mg : Str → Option Value} {base : Heap} {Γ : Cls'} (Wd : WdT wd K Γ mg) (G_is_integer : Df P wd K mg base Γ "is_integer" 1 m_is_integer) {f : Addr} {fd : FuncData} (F : Fun K "is_within" "is_within" s_is_within f fd) :
    FnOk P wd K mg base (L2.CX P wd) 2 f fd ["value", "low", "high"] (spM K Γ m_is_within) := by
  have nd := sc_is_within.nd
  exact def_ok F sc_is_within fun cdv A outer s H E hr => (c_last (c_ret (c_and (c_fn tr0_ok G_is_integer go_def (hr.mono (by first | decide | omega)) (by rfl) (c_acons (cv 0) c_anil)) (c_one (c_chain op_le g_le op_le g_le (cv 1) (cv 0) (cv 2))))))

theorem sc_is_name : FnScope ["value", "letter"] ["value"] (defScope s_is_name) := ⟨rfl, rfl, rfl, by decide +kernel, rfl, by decide +kernel, by decide +kernel⟩
theorem ok_is_name {P : Program} {wd : World} {K : PySem.W.Frag} {mg : Str → Option Value} {base : Heap} {Γ : Cls'} (Wd : WdT wd K Γ mg)  {f : Addr} {fd : FuncData} (F : Fun K "is_name" "is_name" s_is_name f fd) :
    FnOk P wd K mg base (L2.CX P wd) 1 f fd ["value"] (spM K Γ m_is_name) := by
  have nd := sc_is_name.nd
  exact def_ok F sc_is_name fun cdv A outer s H E hr => (c_seq (c_if (c_wt (c_wor (c_tnot (c_tru (c_isiT (T := "str") Wd.b_isinstance Wd.b_str (by decide +kernel) (cv 0)))) (c_wor1 (c_tnot (c_tchain op_le g_le op_le g_le c_int (c_callB call_len g_len (by rfl) Wd.b_len PySem.boot_len (c_acons (cv 0) c_anil)) (c_gl Wd.g_LONGEST_NAME)))))) (c_last (c_ret c_bl)) c_nil)
  (c_last (c_ret (c_callB (cr_all rfl) g_all (by rfl) Wd.b_all (by decide +kernel) (c_acons (c_lcG (own := [("letter", 1)]) (sl := [1]) finL_ok (by decide) rfl nd (ci_str (cv 0)) (blkOk_by (own := [("letter", 1)]) (N := ["value", "letter"]) (sc := defScope s_is_name) (by decide +kernel)) (fun _ _ _ _ _ => (cgn 1 nd)) (fun _ _ _ _ _ => c_tsnil) (fun _ _ _ _ _ => (c_chain op_le_str g_strLe op_le_str g_strLe c_str (cv 1) c_str))) c_anil)))))

theorem sc_held_after : FnScope ["word", "held"] ["word", "held"] (defScope s_held_after) := ⟨rfl, rfl, rfl, by decide +kernel, rfl, by decide +kernel, by decide +kernel⟩
theorem ok_held_after {P : Program} {wd : World} {K : PySem.W.Frag} {mg : Str → Option Value} {base : Heap} {Γ : Cls'} (Wd : WdT wd K Γ mg)  {f : Addr} {fd : FuncData} (F : Fun K "held_after" "held_after" s_held_after f fd) :
    FnOk P wd K mg base (L2.CX P wd) 1 f fd ["word", "held"] (spM K Γ m_held_after) := by
  have nd := sc_held_after.nd
  exact def_ok F sc_held_after fun cdv A outer s H E hr => (c_seq (c_if (c_tcmp (op_eq2 (hu64 hr)) g_eq (cv 0) c_str (nomark _)) (c_last (c_ret (c_bin op_add4 g_add (cv 1) c_int))) c_nil)
  (c_last (c_ret (c_ifx (c_tcmp op_in_seq g_inF (cv 0) (c_tup (c_acons c_str (c_acons c_str (c_acons c_str c_anil)))) (by rfl)) c_int (cv 1)))))

theorem sc_has_form : FnScope ["statement", "word"] ["statement"] (defScope s_has_form) := ⟨rfl, rfl, rfl, by decide +kernel, rfl, by decide +kernel, by decide +kernel⟩
theorem ok_has_form {P : Program} {wd : World} {K : PySem.W.Frag} {mg : Str → Option Value} {base : Heap} {Γ : Cls'} (Wd : WdT wd K Γ mg)  {f : Addr} {fd : FuncData} (F : Fun K "has_form" "has_form" s_has_form f fd) :
    FnOk P wd K mg base (L2.CX P wd) 1 f fd ["statement"] (spM K Γ m_has_form) := by
  have nd := sc_has_form.nd
  exact def_ok F sc_has_form fun cdv A outer s H E hr => (c_seq (c_if (c_wt (c_wor (c_tnot (c_tru (c_isiT (T := "tuple") Wd.b_isinstance Wd.b_tuple (by decide +kernel) (cv 0)))) (c_wor1 (c_tnot (c_tru (cv 0)))))) (c_last (c_ret c_bl)) c_nil)
  (c_seq (cset 1 nd (c_ix (cv 0) c_int))
  (c_seq (c_if (c_wt (c_wor (c_tnot (c_tru (c_isiT (T := "str") Wd.b_isinstance Wd.b_str (by decide +kernel) (cv 1)))) (c_wor1 (c_tcmp (op_ne2 (hu64 hr)) g_ne (c_callB call_len g_len (by rfl) Wd.b_len PySem.boot_len (c_acons (cv 0) c_anil)) (c_kget Wd.k_ITEMS (cv 1)) (nomark _))))) (c_last (c_ret c_bl)) c_nil)
  (c_seq (c_if (c_tcmp (op_eq2 (hu64 hr)) g_eq (cv 1) c_str (nomark _)) (c_last (c_ret (c_and (c_isiT (T := "tuple") Wd.b_isinstance Wd.b_tuple (by decide +kernel) (c_ix (cv 0) c_int)) (c_one (c_isiT (T := "tuple") Wd.b_isinstance Wd.b_tuple (by decide +kernel) (c_ix (cv 0) c_int)))))) c_nil)
  (c_last (c_ret c_bl))))))
end Mm
set_option maxRecDepth 100000
namespace Mm
open PySem L2
theorem sc_fault_of : FnScope ["statement", "place", "earlier", "held", "word"] ["statement", "place", "earlier", "held"] (defScope s_fault_of) := ⟨rfl, rfl, rfl, by decide +kernel, rfl, by decide +kernel, by decide +kernel⟩
theorem ok_fault_of {P : Program} {wd : World} {K : PySem.W.Frag} {mg : Str → Option Value} {base : Heap} {Γ : Cls'} (Wd : WdT wd K Γ mg) (G_has_form : Df P wd K mg base Γ "has_form" 1 m_has_form) (G_is_name : Df P wd K mg base Γ "is_name" 1 m_is_name) {f : Addr} {fd : FuncData} (F : Fun K "fault_of" "fault_of" s_fault_of f fd) :
    FnOk P wd K mg base (L2.CX P wd) 2 f fd ["statement", "place", "earlier", "held"] (spM K Γ m_fault_of) := by
  have nd := sc_fault_of.nd
  exact def_ok F sc_fault_of fun cdv A outer s H E hr => (c_seq (c_if (c_tcmp (op_eq2 (hu64 hr)) g_eq (cv 2) (c_gl Wd.g_MOST_STATEMENTS) (nomark _)) (c_last (c_ret c_str)) c_nil)
  (c_seq (c_if (c_tnot (c_tru (c_fn tr0_ok G_has_form go_def (hr.mono (by first | decide | omega)) (by rfl) (c_acons (cv 0) c_anil)))) (c_last (c_ret c_str)) c_nil)
  (c_seq (cset 4 nd (c_ix (cv 0) c_int))
  (c_seq (c_if (c_wt (c_wand (c_tcmp (op_eq2 (hu64 hr)) g_eq (cv 4) c_str (nomark _)) (c_wand1 (c_tcmp (op_eq2 (hu64 hr)) g_eq (c_bin op_fdiv g_div (c_callB call_len g_len (by rfl) Wd.b_len PySem.boot_len (c_acons (cv 1) c_anil)) c_int) (c_gl Wd.g_MOST_NESTED) (nomark _))))) (c_last (c_ret c_str)) c_nil)
  (c_seq (c_if (c_wt (c_wand (c_tcmp op_in_seq g_inF (cv 4) (c_tup (c_acons c_str (c_acons c_str c_anil))) (by rfl)) (c_wand1 (c_tnot (c_tru (c_fn tr0_ok G_is_name go_def (hr.mono (by first | decide | omega)) (by rfl) (c_acons (c_ix (cv 0) c_int) c_anil))))))) (c_last (c_ret c_str)) c_nil)
  (c_seq (c_if (c_wt (c_wand (c_tcmp (op_eq2 (hu64 hr)) g_eq (cv 4) c_str (nomark _)) (c_wand1 (c_tcmp (op_eq2 (hu64 hr)) g_eq (cv 3) (c_gl Wd.g_MOST_HELD) (nomark _))))) (c_last (c_ret c_str)) c_nil)
  (c_last (c_ret c_non))))))))

theorem sc_Check___init__ : FnScope ["self"] ["self"] (defScope s_Check___init__) := ⟨rfl, rfl, rfl, by decide +kernel, rfl, by decide +kernel, by decide +kernel⟩
theorem ok_Check___init__ {P : Program} {wd : World} {K : PySem.W.Frag} {mg : Str → Option Value} {base : Heap} {Γ : Cls'} (Wd : WdT wd K Γ mg)  {f : Addr} {fd : FuncData} (F : Fun K "__init__" "Check.__init__" s_Check___init__ f fd) :
    FnOk P wd K mg base (L2.CX P wd) 1 f fd ["self"] (spM K Γ m_Check___init__) := by
  have nd := sc_Check___init__.nd
  exact def_ok F sc_Check___init__ fun cdv A outer s H E hr => (c_last (c_sfld (f := "found") (hF1 Wd.f_Check_found) (cv 0) c_dnewT))

theorem sc_Check_check_branch : FnScope ["self", "branch", "above", "held", "index", "statement"] ["self", "branch", "above", "held"] (defScope s_Check_check_branch) := ⟨rfl, rfl, rfl, by decide +kernel, rfl, by decide +kernel, by decide +kernel⟩
theorem ok_Check_check_branch {P : Program} {wd : World} {K : PySem.W.Frag} {mg : Str → Option Value} {base : Heap} {Γ : Cls'} (Wd : WdT wd K Γ mg) {m_Check_check_statement : FM} {n : Nat} (hn : 5 ≤ n) (G_Check_check_statement : Dm P wd K mg base Γ 2 "check_statement" n m_Check_check_statement) {f : Addr} {fd : FuncData} (F : Fun K "check_branch" "Check.check_branch" s_Check_check_branch f fd) :
    FnOk P wd K mg base (L2.CX P wd) (n + 1) f fd ["self", "branch", "above", "held"] (spM K Γ (m_Check_check_branch' m_Check_check_statement)) := by
  have nd := sc_Check_check_branch.nd
  exact def_ok F sc_Check_check_branch fun cdv A outer s H E hr => (c_seq (c_for (sl := [4, 5]) (passes_of rfl) rfl (ci_enum (by rfl) Wd.b_enumerate (cv 1)) (c_gtup rfl (c_gcons (cgn 4 nd) (c_gcons (cgn 5 nd) c_gnil)) (takes_cons (takes_cons takes_nil))) (c_last (cset 3 nd (c_mth tr0_ok G_Check_check_statement go_def (hr.mono (by first | decide | omega)) (cv 0) (c_acons (cv 5) (c_acons (c_bin op_add4 g_addT (cv 2) (c_ttp (c_acons (cv 4) c_anil))) (c_acons (cv 3) c_anil)))))))
  (c_last (c_ret (cv 3))))

theorem sc_Check_check_statement : FnScope ["self", "statement", "place", "held", "why", "yes", "no"] ["self", "statement", "place", "held"] (defScope s_Check_check_statement) := ⟨rfl, rfl, rfl, by decide +kernel, rfl, by decide +kernel, by decide +kernel⟩
theorem ok_Check_check_statement {P : Program} {wd : World} {K : PySem.W.Frag} {mg : Str → Option Value} {base : Heap} {Γ : Cls'} (Wd : WdT wd K Γ mg) {m_Check_check_branch : FM} {n : Nat} (hn : 5 ≤ n) (G_Check_check_branch : Dm P wd K mg base Γ 2 "check_branch" n m_Check_check_branch) (G_fault_of : Df P wd K mg base Γ "fault_of" 2 m_fault_of) (G_held_after : Df P wd K mg base Γ "held_after" 1 m_held_after) {f : Addr} {fd : FuncData} (F : Fun K "check_statement" "Check.check_statement" s_Check_check_statement f fd) :
    FnOk P wd K mg base (L2.CX P wd) (n + 1) f fd ["self", "statement", "place", "held"] (spM K Γ (m_Check_check_statement' m_Check_check_branch)) := by
  have nd := sc_Check_check_statement.nd
  exact def_ok F sc_Check_check_statement fun cdv A outer s H E hr => (c_seq (cset 4 nd (c_fn tr0_ok G_fault_of go_def (hr.mono (by first | decide | omega)) (by rfl) (c_acons (cv 1) (c_acons (cv 2) (c_acons (c_callB call_lenD2 g_dlen (by rfl) Wd.b_len PySem.boot_len (c_acons (c_fld (f := "found") (hF1 Wd.f_Check_found) (cv 0)) c_anil)) (c_acons (cv 3) c_anil))))))
  (c_seq (c_if (c_tcmp op_notN g_notN (cv 4) c_non (nomark _)) (c_last c_bad) c_nil)
  (c_seq (c_dput (hu1 hr) (cv 1) (c_fld (f := "found") (hF1 Wd.f_Check_found) (cv 0)) (cv 2))
  (c_seq (c_if (c_tcmp (op_eq2 (hu64 hr)) g_eq (c_ix (cv 1) c_int) c_str (nomark _)) (c_seq (cset 5 nd (c_mth tr0_ok G_Check_check_branch go_def (hr.mono (by first | decide | omega)) (cv 0) (c_acons (c_ix (cv 1) c_int) (c_acons (c_bin op_add4 g_addT (cv 2) (c_ttp (c_acons c_int c_anil))) (c_acons (cv 3) c_anil)))))
  (c_seq (cset 6 nd (c_mth tr0_ok G_Check_check_branch go_def (hr.mono (by first | decide | omega)) (cv 0) (c_acons (c_ix (cv 1) c_int) (c_acons (c_bin op_add4 g_addT (cv 2) (c_ttp (c_acons c_int c_anil))) (c_acons (cv 3) c_anil)))))
  (c_last (c_ret (c_callB (call_max2 rfl) g_max2 (by rfl) Wd.b_max (by decide +kernel) (c_acons (cv 5) (c_acons (cv 6) c_anil))))))) c_nil)
  (c_last (c_ret (c_fn tr0_ok G_held_after go_def (hr.mono (by first | decide | omega)) (by rfl) (c_acons (c_ix (cv 1) c_int) (c_acons (cv 3) c_anil)))))))))

theorem sc_Script___init__ : FnScope ["self", "statements", "check"] ["self", "statements"] (defScope s_Script___init__) := ⟨rfl, rfl, rfl, by decide +kernel, rfl, by decide +kernel, by decide +kernel⟩
theorem ok_Script___init__ {P : Program} {wd : World} {K : PySem.W.Frag} {mg : Str → Option Value} {base : Heap} {Γ : Cls'} (Wd : WdT wd K Γ mg) (G_Check_check_branch : Dm P wd K mg base Γ 2 "check_branch" 11 m_Check_check_branch) (K_Check : Dk P wd K mg base Γ 2 "Check" 1 m_Check___init__) {f : Addr} {fd : FuncData} (F : Fun K "__init__" "Script.__init__" s_Script___init__ f fd) :
    FnOk P wd K mg base (L2.CX P wd) 12 f fd ["self", "statements"] (spM K Γ m_Script___init__) := by
  have nd := sc_Script___init__.nd
  exact def_ok F sc_Script___init__ fun cdv A outer s H E hr => (c_seq (c_if (c_tnot (c_tru (c_isiT (T := "tuple") Wd.b_isinstance Wd.b_tuple (by decide +kernel) (cv 1)))) (c_last c_bad) c_nil)
  (c_seq (c_if (c_tnot (c_tru (cv 1))) (c_last c_bad) c_nil)
  (c_seq (cset 2 nd (c_mk0 tr0_ok K_Check go_def (hr.mono (by first | decide | omega)) (by rfl)))
  (c_seq (c_expr (c_mth tr0_ok G_Check_check_branch go_def (hr.mono (by first | decide | omega)) (cv 2) (c_acons (cv 1) (c_acons (c_ttp c_anil) (c_acons c_int c_anil)))))
  (c_seq (c_sfld (f := "statements") (hF1 Wd.f_Script_statements) (cv 0) (cv 1))
  (c_seq (c_sfld (f := "found") (hF1 Wd.f_Script_found) (cv 0) (c_fld (f := "found") (hF2 Wd.f_Script_found Wd.f_Check_found) (cv 2)))
  (c_last (c_sfld (f := "places") (hF1 Wd.f_Script_places) (cv 0) (c_callTy call_tuple_of g_tuple (by rfl) Wd.b_tuple (by decide +kernel) (c_acons (c_callTy (call_listD2 rfl) g_dlist (by rfl) Wd.b_list (by decide +kernel) (c_acons (c_fld (f := "found") (hF1 Wd.f_Script_found) (cv 0)) c_anil)) c_anil))))))))))
end Mm
set_option maxRecDepth 100000
namespace Mm
open PySem L2
/-- the two methods that call each other, n deep -/
theorem checks10 {P : Program} {wd : World} {K : PySem.W.Frag} {mg : Str → Option Value} {base : Heap} {Γ : Cls'} (Wd : WdT wd K Γ mg) (G_fault_of : Df P wd K mg base Γ "fault_of" 2 m_fault_of) (G_held_after : Df P wd K mg base Γ "held_after" 1 m_held_after)
    {C fb fs : Addr} {fdb fds : FuncData} (Fb : Fun K "check_branch" "Check.check_branch" s_Check_check_branch fb fdb) (Fs : Fun K "check_statement" "Check.check_statement" s_Check_check_statement fs fds) (bb : Binds K fdb ["self", "branch", "above", "held"] []) (bs : Binds K fds ["self", "statement", "place", "held"] [])
    (gC : Γ.at_ 2 = some C) (cl : Cls K C) (mb : Meth K C "check_branch" fb) (ms : Meth K C "check_statement" fs) (nb : ("check_branch" : Str) ∉ Γ.fs 2) (ns : ("check_statement" : Str) ∉ Γ.fs 2) :
    ∀ n : Nat, Dm P wd K mg base Γ 2 "check_branch" (5 + n) (mCC n).1 ∧ Dm P wd K mg base Γ 2 "check_statement" (5 + n) (mCC n).2
  | 0 => ⟨⟨⟨C, fb, fdb, _, gC, cl, mb, def_ok (k := 4) Fb sc_Check_check_branch fun cdv A outer s H E hr => c_bads, bb⟩, nb⟩, ⟨⟨C, fs, fds, _, gC, cl, ms, def_ok (k := 4) Fs sc_Check_check_statement fun cdv A outer s H E hr => c_bads, bs⟩, ns⟩⟩
  | n + 1 => by
    obtain ⟨ib, is⟩ := checks10 Wd G_fault_of G_held_after Fb Fs bb bs gC cl mb ms nb ns n
    exact ⟨⟨⟨C, fb, fdb, _, gC, cl, mb, ok_Check_check_branch Wd (by omega) is Fb, bb⟩, nb⟩, ⟨⟨C, fs, fds, _, gC, cl, ms, ok_Check_check_statement Wd (n := 5 + n) (by omega) ib G_fault_of G_held_after Fs, bs⟩, ns⟩⟩
end Mm
set_option maxRecDepth 100000
namespace Mm
open PySem L2
theorem sc_Script_after : FnScope ["self", "place", "answer", "statement", "word"] ["self", "place", "answer"] (defScope s_Script_after) := ⟨rfl, rfl, rfl, by decide +kernel, rfl, by decide +kernel, by decide +kernel⟩
theorem ok_Script_after {P : Program} {wd : World} {K : PySem.W.Frag} {mg : Str → Option Value} {base : Heap} {Γ : Cls'} (Wd : WdT wd K Γ mg) (G_Script_behind : Dm P wd K mg base Γ 1 "behind" 1 m_Script_behind) (G_is_answer : Df P wd K mg base Γ "is_answer" 2 m_is_answer) (O_Script___getitem__ : Dn' P wd K mg base Γ 1 "__getitem__" 4 m_Script___getitem__) {f : Addr} {fd : FuncData} (F : FunD K "after" "Script.after" (defArgs s_Script_after) (defBody s_Script_after) (defScope s_Script_after) [.int 0] [] f fd) :
    FnOk P wd K mg base (L2.CX P wd) 6 f fd ["self", "place", "answer"] (spM K Γ m_Script_after) := by
  have nd := sc_Script_after.nd
  exact def_okD F sc_Script_after fun cdv A outer s H E hr => (c_seq (cset 3 nd (c_ixOwn tr0_ok O_Script___getitem__ go_def (hr.mono (by first | decide | omega)) (cv 0) (cv 1)))
  (c_seq (cset 4 nd (c_ix (cv 3) c_int))
  (c_seq (c_if (c_tnot (c_tru (c_fn tr0_ok G_is_answer go_def (hr.mono (by first | decide | omega)) (by rfl) (c_acons (cv 3) (c_acons (cv 2) c_anil))))) (c_last c_bad) c_nil)
  (c_seq (c_if (c_tcmp (op_eq2 (hu64 hr)) g_eq (cv 4) c_str (nomark _)) (c_last (c_ret c_non)) c_nil)
  (c_seq (c_if (c_wt (c_wand (c_tcmp (op_eq2 (hu64 hr)) g_eq (cv 4) c_str (nomark _)) (c_wand1 (c_tru (c_ix (cv 3) (c_bin op_add4 g_add c_int (cv 2))))))) (c_last (c_ret (c_bin op_add4 g_add (cv 1) (c_tup (c_acons (cv 2) (c_acons c_int c_anil)))))) c_nil)
  (c_last (c_ret (c_mth tr0_ok G_Script_behind go_def (hr.mono (by first | decide | omega)) (cv 0) (c_acons (cv 1) c_anil)))))))))

theorem sc_with_lock : FnScope ["locks", "name"] ["locks", "name"] (defScope s_with_lock) := ⟨rfl, rfl, rfl, by decide +kernel, rfl, by decide +kernel, by decide +kernel⟩
theorem ok_with_lock {P : Program} {wd : World} {K : PySem.W.Frag} {mg : Str → Option Value} {base : Heap} {Γ : Cls'} (Wd : WdT wd K Γ mg)  {f : Addr} {fd : FuncData} (F : Fun K "with_lock" "with_lock" s_with_lock f fd) :
    FnOk P wd K mg base (L2.CX P wd) 1 f fd ["locks", "name"] (spM K Γ m_with_lock) := by
  have nd := sc_with_lock.nd
  exact def_ok F sc_with_lock fun cdv A outer s H E hr => (c_last (c_ret (c_ifx (c_tcmp op_in_seq g_inF (cv 1) (cv 0) (by rfl)) (cv 0) c_bade)))

theorem sc_executed : FnScope ["script", "session", "answer", "place", "locks", "transaction", "store", "statement", "word", "committed", "lost", "name", "following"] ["script", "session", "answer"] (defScope s_executed) := ⟨rfl, rfl, rfl, by decide +kernel, rfl, by decide +kernel, by decide +kernel⟩
theorem ok_executed {P : Program} {wd : World} {K : PySem.W.Frag} {mg : Str → Option Value} {base : Heap} {Γ : Cls'} (Wd : WdT wd K Γ mg) (G_Script_after : Dm P wd K mg base Γ 1 "after" 6 m_Script_after) (G_with_lock : Df P wd K mg base Γ "with_lock" 1 m_with_lock) (O_Script___getitem__ : Dn' P wd K mg base Γ 1 "__getitem__" 4 m_Script___getitem__) {f : Addr} {fd : FuncData} (F : Fun K "executed" "executed" s_executed f fd) :
    FnOk P wd K mg base (L2.CX P wd) 7 f fd ["script", "session", "answer"] (spM K Γ m_executed) := by
  have nd := sc_executed.nd
  exact def_ok F sc_executed fun cdv A outer s H E hr => (c_seq (c_asg (sl := [3, 4, 5, 6]) (cv 1) (c_gtup rfl (c_gcons (cgn 3 nd) (c_gcons (cgn 4 nd) (c_gcons (cgn 5 nd) (c_gcons (cgn 6 nd) c_gnil)))) (takes_cons (takes_cons (takes_cons (takes_cons takes_nil))))))
  (c_seq (cset 7 nd (c_ixOwn tr0_ok O_Script___getitem__ go_def (hr.mono (by first | decide | omega)) (cv 0) (cv 3)))
  (c_seq (cset 8 nd (c_ix (cv 7) c_int))
  (c_seq (c_asg2 (sl1 := [9]) (sl2 := [10]) (c_tup c_anil) (cgn 9 nd) (cgn 10 nd))
  (c_seq (c_if (c_tcmp (op_eq2 (hu64 hr)) g_eq (cv 8) c_str (nomark _)) (c_last (c_par (i := 5) (j := 6) rfl nd (by decide) (c_acons (c_bin op_add4 g_add (cv 5) (c_sl (cv 6) c_onone (c_osome c_int))) (c_acons (c_sl (cv 6) (c_osome c_int) c_onone) c_anil)) (hw := by rfl))) (c_last (c_if (c_tcmp (op_eq2 (hu64 hr)) g_eq (cv 8) c_str (nomark _)) (c_last (c_par (i := 9) (j := 5) rfl nd (by decide) (c_acons (cv 5) (c_acons (c_tup c_anil) c_anil)) (hw := by rfl))) (c_last (c_if (c_tcmp (op_eq2 (hu64 hr)) g_eq (cv 8) c_str (nomark _)) (c_last (c_par (i := 10) (j := 5) rfl nd (by decide) (c_acons (cv 5) (c_acons (c_tup c_anil) c_anil)) (hw := by rfl))) (c_last (c_if (c_tcmp (op_eq2 (hu64 hr)) g_eq (cv 8) c_str (nomark _)) (c_last (c_par (i := 10) (j := 6) rfl nd (by decide) (c_acons (cv 6) (c_acons (c_tup c_anil) c_anil)) (hw := by rfl))) (c_last (c_if (c_tcmp (op_eq2 (hu64 hr)) g_eq (cv 8) c_str (nomark _)) (c_last c_bad) (c_last (c_if (c_tcmp (op_eq2 (hu64 hr)) g_eq (cv 8) c_str (nomark _)) (c_last (cset 4 nd (c_fn tr0_ok G_with_lock go_def (hr.mono (by first | decide | omega)) (by rfl) (c_acons (cv 4) (c_acons (c_ix (cv 7) c_int) c_anil))))) (c_last (c_if (c_tcmp (op_eq2 (hu64 hr)) g_eq (cv 8) c_str (nomark _)) (c_last (cset 4 nd (c_callTy call_tuple_of g_tuple (by rfl) Wd.b_tuple (by decide +kernel) (c_acons (c_lcG (own := [("name", 11)]) (sl := [11]) finL_ok (by decide) rfl nd (ci_seq (cv 4)) (blkOk_by (own := [("name", 11)]) (N := ["script", "session", "answer", "place", "locks", "transaction", "store", "statement", "word", "committed", "lost", "name", "following"]) (sc := defScope s_executed) (by decide +kernel)) (fun _ _ _ _ _ => (cgn 11 nd)) (fun _ _ _ _ _ => (c_tsone (c_tcmp (op_ne2 (hu64 hr)) g_ne (cv 11) (c_ix (cv 7) c_int) (nomark _)))) (fun _ _ _ _ _ => (cv 11))) c_anil)))) c_nil)))))))))))))
  (c_seq (cset 12 nd (c_mth tr0_ok G_Script_after go_def (hr.mono (by first | decide | omega)) (cv 0) (c_acons (cv 3) (c_acons (cv 2) c_anil))))
  (c_seq (c_if (c_tcmp op_isN g_isN (cv 12) c_non (nomark _)) (c_last (c_ret (c_tup (c_acons (c_tup (c_acons (c_tup (c_acons c_int c_anil)) (c_acons (c_tup c_anil) (c_acons (c_tup c_anil) (c_acons (cv 6) c_anil))))) (c_acons (cv 9) (c_acons (c_bin op_add4 g_add (cv 10) (cv 5)) c_anil)))))) c_nil)
  (c_last (c_ret (c_tup (c_acons (c_tup (c_acons (cv 12) (c_acons (cv 4) (c_acons (cv 5) (c_acons (cv 6) c_anil))))) (c_acons (cv 9) (c_acons (cv 10) c_anil)))))))))))))

theorem sc_script_of : FnScope ["script", "fault"] ["script"] (defScope s_script_of) := ⟨rfl, rfl, rfl, by decide +kernel, rfl, by decide +kernel, by decide +kernel⟩
theorem ok_script_of {P : Program} {wd : World} {K : PySem.W.Frag} {mg : Str → Option Value} {base : Heap} {Γ : Cls'} (Wd : WdT wd K Γ mg) (K_Script : Dk P wd K mg base Γ 1 "Script" 12 m_Script___init__) {f : Addr} {fd : FuncData} (F : Fun K "script_of" "script_of" s_script_of f fd) :
    FnOk P wd K mg base (L2.CX P wd) 14 f fd ["script"] (spM K Γ m_script_of) := by
  have nd := sc_script_of.nd
  exact def_ok F sc_script_of fun cdv A outer s H E hr => (c_seq (c_if (c_tru (c_isiK Wd.b_isinstance Wd.c_Script (cv 0))) (c_last (c_ret (cv 0))) c_nil)
  (c_last (c_tryNo (c_last (c_ret (c_mk trT_ok K_Script goes_not (hr.mono (by first | decide | omega)) (by rfl) (c_acons (cv 0) c_anil)))))))

theorem sc_Kind___init__ : FnScope ["self", "name", "script", "block", "many"] ["self", "name", "script", "block", "many"] (defScope s_Kind___init__) := ⟨rfl, rfl, rfl, by decide +kernel, rfl, by decide +kernel, by decide +kernel⟩
theorem ok_Kind___init__ {P : Program} {wd : World} {K : PySem.W.Frag} {mg : Str → Option Value} {base : Heap} {Γ : Cls'} (Wd : WdT wd K Γ mg) (G_is_name : Df P wd K mg base Γ "is_name" 1 m_is_name) (G_is_within : Df P wd K mg base Γ "is_within" 2 m_is_within) (G_script_of : Df P wd K mg base Γ "script_of" 14 m_script_of) {f : Addr} {fd : FuncData} (F : FunD K "__init__" "Kind.__init__" (defArgs s_Kind___init__) (defBody s_Kind___init__) (defScope s_Kind___init__) [] [("block", .int 1), ("many", .int 1)] f fd) :
    FnOk P wd K mg base (L2.CX P wd) 15 f fd ["self", "name", "script", "block", "many"] (spM K Γ m_Kind___init__) := by
  have nd := sc_Kind___init__.nd
  exact def_okD F sc_Kind___init__ fun cdv A outer s H E hr => (c_seq (c_if (c_tnot (c_tru (c_fn tr0_ok G_is_name go_def (hr.mono (by first | decide | omega)) (by rfl) (c_acons (cv 1) c_anil)))) (c_last c_bad) c_nil)
  (c_seq (cset 2 nd (c_fn tr0_ok G_script_of go_def (hr.mono (by first | decide | omega)) (by rfl) (c_acons (cv 2) c_anil)))
  (c_seq (c_if (c_tnot (c_tru (c_fn tr0_ok G_is_within go_def (hr.mono (by first | decide | omega)) (by rfl) (c_acons (cv 3) (c_acons c_int (c_acons (c_gl Wd.g_MOST_BLOCK) c_anil)))))) (c_last c_bad) c_nil)
  (c_seq (c_if (c_tnot (c_tru (c_fn tr0_ok G_is_within go_def (hr.mono (by first | decide | omega)) (by rfl) (c_acons (cv 4) (c_acons c_int (c_acons (c_gl Wd.g_MOST_SESSIONS) c_anil)))))) (c_last c_bad) c_nil)
  (c_seq (c_sfld (f := "name") (hF1 Wd.f_Kind_name) (cv 0) (cv 1))
  (c_seq (c_sfld (f := "script") (hF1 Wd.f_Kind_script) (cv 0) (cv 2))
  (c_seq (c_sfld (f := "block") (hF1 Wd.f_Kind_block) (cv 0) (cv 3))
  (c_last (c_sfld (f := "many") (hF1 Wd.f_Kind_many) (cv 0) (cv 4))))))))))
end Mm
set_option maxRecDepth 100000
namespace Mm
open PySem L2
theorem sc_count_of_sessions : FnScope ["kinds", "kind"] ["kinds"] (defScope s_count_of_sessions) := ⟨rfl, rfl, rfl, by decide +kernel, rfl, by decide +kernel, by decide +kernel⟩
theorem ok_count_of_sessions {P : Program} {wd : World} {K : PySem.W.Frag} {mg : Str → Option Value} {base : Heap} {Γ : Cls'} (Wd : WdT wd K Γ mg)  {f : Addr} {fd : FuncData} (F : Fun K "count_of_sessions" "count_of_sessions" s_count_of_sessions f fd) :
    FnOk P wd K mg base (L2.CX P wd) 1 f fd ["kinds"] (spM K Γ m_count_of_sessions) := by
  have nd := sc_count_of_sessions.nd
  exact def_ok F sc_count_of_sessions fun cdv A outer s H E hr => (c_last (c_ret (c_callB (cr_sum rfl) g_sum (by rfl) Wd.b_sum (by decide +kernel) (c_acons (c_lcG (own := [("kind", 1)]) (sl := [1]) finL_ok (by decide) rfl nd (ci_seq (cv 0)) (blkOk_by (own := [("kind", 1)]) (N := ["kinds", "kind"]) (sc := defScope s_count_of_sessions) (by decide +kernel)) (fun _ _ _ _ _ => (cgn 1 nd)) (fun _ _ _ _ _ => c_tsnil) (fun _ _ _ _ _ => (c_fld (f := "many") (hF1 Wd.f_Kind_many) (cv 1)))) c_anil))))

theorem sc_are_kinds : FnScope ["kinds", "kind"] ["kinds"] (defScope s_are_kinds) := ⟨rfl, rfl, rfl, by decide +kernel, rfl, by decide +kernel, by decide +kernel⟩
theorem ok_are_kinds {P : Program} {wd : World} {K : PySem.W.Frag} {mg : Str → Option Value} {base : Heap} {Γ : Cls'} (Wd : WdT wd K Γ mg) (G_count_of_sessions : Df P wd K mg base Γ "count_of_sessions" 1 m_count_of_sessions) {f : Addr} {fd : FuncData} (F : Fun K "are_kinds" "are_kinds" s_are_kinds f fd) :
    FnOk P wd K mg base (L2.CX P wd) 2 f fd ["kinds"] (spM K Γ m_are_kinds) := by
  have nd := sc_are_kinds.nd
  exact def_ok F sc_are_kinds fun cdv A outer s H E hr => (c_seq (c_if (c_wt (c_wor (c_tnot (c_tru (cv 0))) (c_wor1 (c_tnot (c_tru (c_callB (cr_all rfl) g_all (by rfl) Wd.b_all (by decide +kernel) (c_acons (c_lcG (own := [("kind", 1)]) (sl := [1]) finL_ok (by decide) rfl nd (ci_seq (cv 0)) (blkOk_by (own := [("kind", 1)]) (N := ["kinds", "kind"]) (sc := defScope s_are_kinds) (by decide +kernel)) (fun _ _ _ _ _ => (cgn 1 nd)) (fun _ _ _ _ _ => c_tsnil) (fun _ _ _ _ _ => (c_isiK Wd.b_isinstance Wd.c_Kind (cv 1)))) c_anil))))))) (c_last (c_ret c_bl)) c_nil)
  (c_seq (c_if (c_tcmp op_lt g_lt (c_lens (by rfl) Wd.b_len (by rfl) Wd.b_set (c_lcG (own := [("kind", 1)]) (sl := [1]) finL_ok (by decide) rfl nd (ci_seq (cv 0)) (blkOk_by (own := [("kind", 1)]) (N := ["kinds", "kind"]) (sc := defScope s_are_kinds) (by decide +kernel)) (fun _ _ _ _ _ => (cgn 1 nd)) (fun _ _ _ _ _ => c_tsnil) (fun _ _ _ _ _ => (c_fld (f := "name") (hF1 Wd.f_Kind_name) (cv 1))))) (c_callB call_len g_len (by rfl) Wd.b_len PySem.boot_len (c_acons (cv 0) c_anil)) (nomark _)) (c_last (c_ret c_bl)) c_nil)
  (c_last (c_ret (c_cmp op_le g_le (c_fn tr0_ok G_count_of_sessions go_def (hr.mono (by first | decide | omega)) (by rfl) (c_acons (cv 0) c_anil)) (c_gl Wd.g_MOST_SESSIONS) (nomark _))))))

theorem sc_fault_of_system : FnScope ["kinds", "ahead", "window", "crashes", "full", "kind", "greatest_block"] ["kinds", "ahead", "window", "crashes"] (defScope s_fault_of_system) := ⟨rfl, rfl, rfl, by decide +kernel, rfl, by decide +kernel, by decide +kernel⟩
theorem ok_fault_of_system {P : Program} {wd : World} {K : PySem.W.Frag} {mg : Str → Option Value} {base : Heap} {Γ : Cls'} (Wd : WdT wd K Γ mg) (G_are_kinds : Df P wd K mg base Γ "are_kinds" 2 m_are_kinds) (G_count_of_sessions : Df P wd K mg base Γ "count_of_sessions" 1 m_count_of_sessions) (G_is_within : Df P wd K mg base Γ "is_within" 2 m_is_within) {f : Addr} {fd : FuncData} (F : Fun K "fault_of_system" "fault_of_system" s_fault_of_system f fd) :
    FnOk P wd K mg base (L2.CX P wd) 3 f fd ["kinds", "ahead", "window", "crashes"] (spM K Γ m_fault_of_system) := by
  have nd := sc_fault_of_system.nd
  exact def_ok F sc_fault_of_system fun cdv A outer s H E hr => (c_seq (c_if (c_tnot (c_tru (c_fn tr0_ok G_are_kinds go_def (hr.mono (by first | decide | omega)) (by rfl) (c_acons (cv 0) c_anil)))) (c_last (c_ret c_str)) c_nil)
  (c_seq (cset 4 nd (c_cmp (op_eq2 (hu64 hr)) g_eq (c_fn tr0_ok G_count_of_sessions go_def (hr.mono (by first | decide | omega)) (by rfl) (c_acons (cv 0) c_anil)) (c_gl Wd.g_MOST_SESSIONS) (nomark _)))
  (c_seq (c_if (c_wt (c_wand (c_tru (cv 4)) (c_wand1 c_badt))) (c_last (c_ret c_str)) c_nil)
  (c_seq (c_if (c_tnot (c_tru (c_fn tr0_ok G_is_within go_def (hr.mono (by first | decide | omega)) (by rfl) (c_acons (cv 1) (c_acons c_int (c_acons (c_gl Wd.g_MOST_AHEAD) c_anil)))))) (c_last (c_ret c_str)) c_nil)
  (c_seq (cset 6 nd (c_callB (cr_max rfl) g_max (by rfl) Wd.b_max (by decide +kernel) (c_acons (c_lcG (own := [("kind", 5)]) (sl := [5]) finL_ok (by decide) rfl nd (ci_seq (cv 0)) (blkOk_by (own := [("kind", 5)]) (N := ["kinds", "ahead", "window", "crashes", "full", "kind", "greatest_block"]) (sc := defScope s_fault_of_system) (by decide +kernel)) (fun _ _ _ _ _ => (cgn 5 nd)) (fun _ _ _ _ _ => c_tsnil) (fun _ _ _ _ _ => (c_fld (f := "block") (hF1 Wd.f_Kind_block) (cv 5)))) c_anil)))
  (c_seq (c_if (c_wt (c_wand (c_tcmp op_notN g_notN (cv 2) c_non (nomark _)) (c_wand1 (c_tnot (c_tru (c_fn tr0_ok G_is_within go_def (hr.mono (by first | decide | omega)) (by rfl) (c_acons (cv 2) (c_acons (cv 6) (c_acons (c_gl Wd.g_MOST_WINDOW) c_anil))))))))) (c_last (c_ret c_str)) c_nil)
  (c_seq (c_if (c_tnot (c_tru (c_fn tr0_ok G_is_within go_def (hr.mono (by first | decide | omega)) (by rfl) (c_acons (cv 3) (c_acons c_int (c_acons (c_gl Wd.g_MOST_CRASHES) c_anil)))))) (c_last (c_ret c_str)) c_nil)
  (c_last (c_ret c_non)))))))))

theorem sc_System___init__ : FnScope ["self", "ahead", "window", "crashes", "kinds", "why", "kind", "index"] ["self", "ahead", "window", "crashes", "kinds"] (defScope s_System___init__) := ⟨rfl, rfl, rfl, by decide +kernel, rfl, by decide +kernel, by decide +kernel⟩
theorem ok_System___init__ {P : Program} {wd : World} {K : PySem.W.Frag} {mg : Str → Option Value} {base : Heap} {Γ : Cls'} (Wd : WdT wd K Γ mg) (G_fault_of_system : Df P wd K mg base Γ "fault_of_system" 3 m_fault_of_system) (cdv : Value) (f : Addr) (A : Around) (outer : List PySem.Env) (s : Shared) (H : Hp) (E : XK) (hr : Room 3 (A.deeper (PyProof.Rows.envOfC "System.__init__" (defScope s_System___init__) s.heap.objs.size f cdv))) :
    CSs Γ (cxOf (L2.CX P wd) P wd K mg base ["self", "ahead", "window", "crashes", "kinds", "why", "kind", "index"] "System.__init__" (defScope s_System___init__) f cdv A outer s H E) (fun C dd _ H => E C dd H) (defBody s_System___init__) b_System___init__ := by
  have nd := sc_System___init__.nd
  exact (c_seq (cset 5 nd (c_fn tr0_ok G_fault_of_system go_def (hr.mono (by first | decide | omega)) (by rfl) (c_acons (cv 4) (c_acons (cv 1) (c_acons (cv 2) (c_acons (cv 3) c_anil))))))
  (c_seq (c_if (c_tcmp op_notN g_notN (cv 5) c_non (nomark _)) (c_last c_bad) c_nil)
  (c_seq (c_sfld (f := "kinds") (hF1 Wd.f_System_kinds) (cv 0) (cv 4))
  (c_seq (c_sfld (f := "ahead") (hF1 Wd.f_System_ahead) (cv 0) (cv 1))
  (c_seq (c_sfld (f := "window") (hF1 Wd.f_System_window) (cv 0) (cv 2))
  (c_seq (c_sfld (f := "crashes") (hF1 Wd.f_System_crashes) (cv 0) (cv 3))
  (c_last (c_sfld (f := "sessions") (hF1 Wd.f_System_sessions) (cv 0) (c_callTy call_tuple_of g_tuple (by rfl) Wd.b_tuple (by decide +kernel) (c_acons (c_lc2 (own := [("kind", 6), ("index", 7)]) (vs1 := [7]) (sl := [6]) (sl1 := [7]) finL_ok (by decide) (by decide) (by decide) rfl nd (ci_seq (cv 4)) (blkOk_by (own := [("kind", 6), ("index", 7)]) (N := ["self", "ahead", "window", "crashes", "kinds", "why", "kind", "index"]) (sc := defScope s_System___init__) (by decide +kernel)) (fun _ _ _ _ _ => (cgn 6 nd)) (fun _ _ _ _ _ => c_tsnil) (fun _ _ _ _ _ => (ci_rng1 (by rfl) Wd.b_range (c_fld (f := "many") (hF1 Wd.f_Kind_many) (cv 6)))) (fun _ _ _ _ _ => (cgn 7 nd)) (fun _ _ _ _ _ => c_tsnil) (fun _ _ _ _ _ => (c_fld (f := "name") (hF1 Wd.f_Kind_name) (cv 6)))) c_anil))))))))))

theorem sc_System___getitem__ : FnScope ["self", "name", "kind"] ["self", "name"] (defScope s_System___getitem__) := ⟨rfl, rfl, rfl, by decide +kernel, rfl, by decide +kernel, by decide +kernel⟩
theorem ok_System___getitem__ {P : Program} {wd : World} {K : PySem.W.Frag} {mg : Str → Option Value} {base : Heap} {Γ : Cls'} (Wd : WdT wd K Γ mg)  {f : Addr} {fd : FuncData} (F : Fun K "__getitem__" "System.__getitem__" s_System___getitem__ f fd) :
    FnOk P wd K mg base (L2.CX P wd) 1 f fd ["self", "name"] (spM K Γ m_System___getitem__) := by
  have nd := sc_System___getitem__.nd
  exact def_ok F sc_System___getitem__ fun cdv A outer s H E hr => (c_seq (c_for (sl := [2]) (passes_of rfl) rfl (ci_seq (c_fld (f := "kinds") (hF1 Wd.f_System_kinds) (cv 0))) (cgn 2 nd) (c_last (c_if (c_wt (c_wand (c_tru (c_isiT (T := "str") Wd.b_isinstance Wd.b_str (by decide +kernel) (cv 1))) (c_wand1 (c_tcmp (op_eq2 (hu64 hr)) g_eq (c_fld (f := "name") (hF1 Wd.f_Kind_name) (cv 2)) (cv 1) (nomark _))))) (c_last (c_ret (cv 2))) c_nil)))
  (c_last c_bad))
end Mm
set_option maxRecDepth 100000
namespace Mm
open PySem L2 StK StX
abbrev psY : List Str := ["self", "ahead", "window", "crashes"]
theorem bindY0 (D : Addr) (doc pm cdv ct : Value) (an : Option Addr) : ∀ us rest mv ws : List Value, us.length = 1 → mv.length = 3 → ws.length = 0 →
    KwTail D ((["ahead", "window", "crashes"] : List Str).zip mv) (bindArgs (PySem.W.fnOf "__init__" "System.__init__" (defArgs s_System___init__) (defBody s_System___init__) (defScope s_System___init__) .none (.ref D) doc pm an cdv ct) ⟨us ++ rest, ([] : List Str).zip ws⟩) (newTuple rest >>= fun t => pure (psY.zip (us ++ mv) ++ [(("kinds" : Str), t)]))
  | [u], [], [a, w, c], [], _, _, _ => ⟨_, _, _, _, _, _, rfl, rfl, _, _, _, _, _, _, rfl, rfl, _, _, _, _, _, _, rfl, rfl, rfl⟩
  | [u], r :: rs, [a, w, c], [], _, _, _ => ⟨_, _, _, _, _, _, rfl, rfl, _, _, _, _, _, _, rfl, rfl, _, _, _, _, _, _, rfl, rfl, rfl⟩
/-- a def's body, read -/
theorem body_read {K : PySem.W.Frag} {Γ : Cls'} {N ps : List Str} {b : SM} {vs : List V} {H : Hp} {Q : VK} {E : XK} (h : spM K Γ (runDef ps.length N.length b) vs H Q E) : mS ⟨K, Γ⟩ (fun C dd _ H => E C dd H) b { nx := fun _ H' => Q .non H', rt := Q } (L2.start N vs) H := by
  obtain ⟨c, S, ds, r, t, h⟩ := h
  unfold runDef at h
  by_cases hl : ds.length = ps.length
  · rw [if_pos hl, ← hl] at h
    refine ⟨c, _, S, r, envR_start t, ?_⟩
    cases hx : b (ds.map some ++ List.replicate (N.length - ds.length) none) S with
    | next env' S' => rw [hx] at h; exact fun c2 H2 s2 e2 r2 a2 => h c2 H2 .non e2 r2 .o
    | ret d S' => rw [hx] at h; exact fun c2 H2 v e2 r2 a2 => h c2 H2 v e2 r2 a2
    | ex x env' S' => rw [hx] at h; exact fun c2 H2 s2 C dd e2 r2 a2 xa => h c2 H2 C dd e2 r2 xa
    | brk env' S' => rw [hx] at h; exact h.elim
    | cnt env' S' => rw [hx] at h; exact h.elim
    | bad => rw [hx] at h; exact h.elim
  · rw [if_neg hl] at h; exact h.elim
/-- System(..) without keywords -/
theorem sys_ks {P : Program} {wd : World} {K : PySem.W.Frag} {mg : Str → Option Value} {base : Heap} {Γ : Cls'} (Wd : WdT wd K Γ mg) (G : Df P wd K mg base Γ "fault_of_system" 3 m_fault_of_system) {C f KY : Addr} {oc doc pm cdv ct : Value} {od an : Option Addr} {osl : Array (Option Value)}
    (lk : K.lookup f = some ⟨oc, od, .func (PySem.W.fnOf "__init__" "System.__init__" (defArgs s_System___init__) (defBody s_System___init__) (defScope s_System___init__) .none (.ref KY) doc pm an cdv ct), osl⟩) (hcd : PySem.W.codeIn K cdv "System.__init__" = true) {t1 t2 : Tok}
    (k1 : PySem.W.nsIn K KY "ahead" = some (some (.int 0 t1))) (k2 : PySem.W.nsIn K KY "window" = some (some .none)) (k3 : PySem.W.nsIn K KY "crashes" = some (some (.int 0 t2))) (gC : Γ.at_ 5 = some C) (hm : mg "System" = some (.ref C)) (M : Mk K C f) : Dks P wd K mg base Γ 5 "System" 4 m_System___init__ [] gSystem :=
  ⟨C, f, fun ws zs => ws ++ [.int 0, .non, .int 0], gC, hm, M,
    fn_starK (n := 1) (ks := []) (ps := psY) (pv := "kinds") (ms := [("ahead", .int 0), ("window", .non), ("crashes", .int 0)]) (sp := spM K Γ m_System___init__) lk hcd sc_System___init__ cxUp (fun q hq => by
      simp only [List.mem_cons, List.not_mem_nil, or_false] at hq
      rcases hq with rfl | rfl | rfl
      · exact ⟨_, k1, ⟨_, rfl⟩⟩
      · exact ⟨_, k2, rfl⟩
      · exact ⟨_, k3, ⟨_, rfl⟩⟩) (fun us mv ws => us ++ mv) (fun a b c => a.append b) (fun us mv ws h1 h2 h3 => by
        rw [List.length_append, h1, h2]; rfl) (bindY0 KY doc pm cdv ct an) fun A outer s H vs Q E hr h => ⟨_, ok_System___init__ Wd G cdv f A outer s H E hr, body_read (ps := psY ++ [("kinds" : Str)]) (N := ["self", "ahead", "window", "crashes", "kinds", "why", "kind", "index"]) h⟩,
    fun c H j x v es zs a b hl => by
      refine .cons a (.cons (.i 0) (.cons .o (.one (.i 0))))⟩
end Mm
set_option maxRecDepth 100000
namespace Mm
open PySem L2
/-- Kind(name, script, block=..) -/
theorem kind_kk {P : Program} {wd : World} {K : PySem.W.Frag} {mg : Str → Option Value} {base : Heap} {Γ : Cls'} (Wd : WdT wd K Γ mg) (G1 : Df P wd K mg base Γ "is_name" 1 m_is_name) (G2 : Df P wd K mg base Γ "is_within" 2 m_is_within) (G3 : Df P wd K mg base Γ "script_of" 14 m_script_of) {C f : Addr} {fd : FuncData}
    (F : FunD K "__init__" "Kind.__init__" (defArgs s_Kind___init__) (defBody s_Kind___init__) (defScope s_Kind___init__) [] [("block", .int 1), ("many", .int 1)] f fd) (gC : Γ.at_ 4 = some C) (hm : mg "Kind" = some (.ref C)) (M : Mk K C f) : Dkk P wd K mg base Γ 4 "Kind" 15 m_Kind___init__ 2 ["block"] gKind := by
  obtain ⟨mv, hb⟩ := F.kbinds0 (ps := ["self", "name", "script", "block", "many"]) 3 ["block"] [("many", .int 1)] (fun us mv ws => us ++ ws ++ mv) (by simp) (fun q hq => by
    rw [List.mem_singleton] at hq; rw [hq]; simp) (fun r1 r2 r3 => (r1.append r3).append r2)
    (fun _ _ _ _ _ _ us mv ws h1 h2 h3 => match us, mv, ws, h1, h2, h3 with | [_, _, _], [_], [_], _, _, _ => ⟨_, _, _, _, _, _, rfl, rfl, rfl⟩)
  refine ⟨C, f, fd, _, _, _, gC, hm, M, ok_Kind___init__ Wd G1 G2 G3 F, hb, ?_⟩
  intro c H j x v ds es vs zs a b d l1 l2
  show Ats _ _ _ _ (x :: (ds ++ es ++ [.int 1])) ((v :: vs) ++ zs ++ [V.int 1])
  rw [List.cons_append, List.cons_append]
  exact .cons a ((b.app d).app (.one (.i 1)))
end Mm
set_option maxRecDepth 100000
namespace Mm
open PySem L2
theorem sc_Script___contains__ : FnScope ["self", "place", "item"] ["self", "place"] (defScope s_Script___contains__) := ⟨rfl, rfl, rfl, by decide +kernel, rfl, by decide +kernel, by decide +kernel⟩
theorem ok_Script___contains__ {P : Program} {wd : World} {K : PySem.W.Frag} {mg : Str → Option Value} {base : Heap} {Γ : Cls'} (Wd : WdT wd K Γ mg) (G_is_integer : Df P wd K mg base Γ "is_integer" 1 m_is_integer) {f : Addr} {fd : FuncData} (F : Fun K "__contains__" "Script.__contains__" s_Script___contains__ f fd) :
    FnOk P wd K mg base (L2.CX P wd) 2 f fd ["self", "place"] (spM K Γ m_Script___contains__) := by
  have nd := sc_Script___contains__.nd
  exact def_ok F sc_Script___contains__ fun cdv A outer s H E hr => (c_seq (c_if (c_wt (c_wor (c_tnot (c_tru (c_isiT (T := "tuple") Wd.b_isinstance Wd.b_tuple (by decide +kernel) (cv 1)))) (c_wor1 (c_tnot (c_tru (c_callB (cr_all rfl) g_all (by rfl) Wd.b_all (by decide +kernel) (c_acons (c_lcG (own := [("item", 2)]) (sl := [2]) finL_ok (by decide) rfl nd (ci_seq (cv 1)) (blkOk_by (own := [("item", 2)]) (N := ["self", "place", "item"]) (sc := defScope s_Script___contains__) (by decide +kernel)) (fun _ _ _ _ _ => (cgn 2 nd)) (fun _ _ _ _ _ => c_tsnil) (fun _ _ _ _ _ => (c_fn tr0_ok G_is_integer goes_not (hr.mono (by first | decide | omega)) (by rfl) (c_acons (cv 2) c_anil)))) c_anil))))))) (c_last (c_ret c_bl)) c_nil)
  (c_last (c_ret (c_cmp (op_dIn (hu1 hr)) g_din (cv 1) (c_fld (f := "found") (hF1 Wd.f_Script_found) (cv 0)) (by rfl)))))

theorem sc_Script___getitem__ : FnScope ["self", "place"] ["self", "place"] (defScope s_Script___getitem__) := ⟨rfl, rfl, rfl, by decide +kernel, rfl, by decide +kernel, by decide +kernel⟩
theorem ok_Script___getitem__ {P : Program} {wd : World} {K : PySem.W.Frag} {mg : Str → Option Value} {base : Heap} {Γ : Cls'} (Wd : WdT wd K Γ mg) (O_Script___contains__ : Dn' P wd K mg base Γ 1 "__contains__" 2 m_Script___contains__) {f : Addr} {fd : FuncData} (F : Fun K "__getitem__" "Script.__getitem__" s_Script___getitem__ f fd) :
    FnOk P wd K mg base (L2.CX P wd) 4 f fd ["self", "place"] (spM K Γ m_Script___getitem__) := by
  have nd := sc_Script___getitem__.nd
  exact def_ok F sc_Script___getitem__ fun cdv A outer s H E hr => (c_seq (c_if (c_tinOwn (op := .NotIn) tr0_ok O_Script___contains__ (hr.mono (by first | decide | omega)) (cv 1) (cv 0) (by simp) (by rfl)) (c_last c_bad) c_nil)
  (c_last (c_ret (c_dget (hu1 hr) (c_fld (f := "found") (hF1 Wd.f_Script_found) (cv 0)) (cv 1)))))

theorem sc_answers_of : FnScope ["statement"] ["statement"] (defScope s_answers_of) := ⟨rfl, rfl, rfl, by decide +kernel, rfl, by decide +kernel, by decide +kernel⟩
theorem ok_answers_of {P : Program} {wd : World} {K : PySem.W.Frag} {mg : Str → Option Value} {base : Heap} {Γ : Cls'} (Wd : WdT wd K Γ mg)  {f : Addr} {fd : FuncData} (F : Fun K "answers_of" "answers_of" s_answers_of f fd) :
    FnOk P wd K mg base (L2.CX P wd) 1 f fd ["statement"] (spM K Γ m_answers_of) := by
  have nd := sc_answers_of.nd
  exact def_ok F sc_answers_of fun cdv A outer s H E hr => (c_last (c_ret (c_ifx (c_tcmp (op_eq2 (hu64 hr)) g_eq (c_ix (cv 0) c_int) c_str (nomark _)) (c_tup (c_acons c_int (c_acons c_int c_anil))) (c_tup (c_acons c_int c_anil)))))

theorem sc_is_answer : FnScope ["statement", "answer"] ["statement", "answer"] (defScope s_is_answer) := ⟨rfl, rfl, rfl, by decide +kernel, rfl, by decide +kernel, by decide +kernel⟩
theorem ok_is_answer {P : Program} {wd : World} {K : PySem.W.Frag} {mg : Str → Option Value} {base : Heap} {Γ : Cls'} (Wd : WdT wd K Γ mg) (G_answers_of : Df P wd K mg base Γ "answers_of" 1 m_answers_of) (G_is_integer : Df P wd K mg base Γ "is_integer" 1 m_is_integer) {f : Addr} {fd : FuncData} (F : Fun K "is_answer" "is_answer" s_is_answer f fd) :
    FnOk P wd K mg base (L2.CX P wd) 2 f fd ["statement", "answer"] (spM K Γ m_is_answer) := by
  have nd := sc_is_answer.nd
  exact def_ok F sc_is_answer fun cdv A outer s H E hr => (c_last (c_ret (c_and (c_fn tr0_ok G_is_integer go_def (hr.mono (by first | decide | omega)) (by rfl) (c_acons (cv 1) c_anil)) (c_one (c_cmp op_in_seq g_inF (cv 1) (c_fn tr0_ok G_answers_of go_def (hr.mono (by first | decide | omega)) (by rfl) (c_acons (cv 0) c_anil)) (by rfl))))))

theorem sc_Script_behind : FnScope ["self", "place", "follower"] ["self", "place"] (defScope s_Script_behind) := ⟨rfl, rfl, rfl, by decide +kernel, rfl, by decide +kernel, by decide +kernel⟩
theorem ok_Script_behind {P : Program} {wd : World} {K : PySem.W.Frag} {mg : Str → Option Value} {base : Heap} {Γ : Cls'} (Wd : WdT wd K Γ mg)  {f : Addr} {fd : FuncData} (F : Fun K "behind" "Script.behind" s_Script_behind f fd) :
    FnOk P wd K mg base (L2.CX P wd) 1 f fd ["self", "place"] (spM K Γ m_Script_behind) := by
  have nd := sc_Script_behind.nd
  exact def_ok F sc_Script_behind fun cdv A outer s H E hr => (c_seq (c_while (passes_of rfl) (c_tru (cv 1)) (c_seq (cset 2 nd (c_bin op_add4 g_add (c_sl (cv 1) c_onone (c_osome (c_neg c_int))) (c_tup (c_acons (c_bin op_add4 g_add (c_ix (cv 1) (c_neg c_int)) c_int) c_anil))))
  (c_seq (c_if (c_tcmp (op_dIn (hu1 hr)) g_din (cv 2) (c_fld (f := "found") (hF1 Wd.f_Script_found) (cv 0)) (by rfl)) (c_last (c_ret (cv 2))) c_nil)
  (c_last (cset 1 nd (c_sl (cv 1) c_onone (c_osome (c_neg c_int))))))))
  (c_last (c_ret c_non)))
end Mm
set_option maxRecDepth 100000
namespace Mm
open PySem L2
theorem sc_System_kind_of : FnScope ["self", "session"] ["self", "session"] (defScope s_System_kind_of) := ⟨rfl, rfl, rfl, by decide +kernel, rfl, by decide +kernel, by decide +kernel⟩
theorem ok_System_kind_of {P : Program} {wd : World} {K : PySem.W.Frag} {mg : Str → Option Value} {base : Heap} {Γ : Cls'} (Wd : WdT wd K Γ mg) (G_is_within : Df P wd K mg base Γ "is_within" 2 m_is_within) (O_System___getitem__ : Dn' P wd K mg base Γ 5 "__getitem__" 1 m_System___getitem__) {f : Addr} {fd : FuncData} (F : Fun K "kind_of" "System.kind_of" s_System_kind_of f fd) :
    FnOk P wd K mg base (L2.CX P wd) 3 f fd ["self", "session"] (spM K Γ m_System_kind_of) := by
  have nd := sc_System_kind_of.nd
  exact def_ok F sc_System_kind_of fun cdv A outer s H E hr => (c_seq (c_if (c_tnot (c_tru (c_fn tr0_ok G_is_within go_def (hr.mono (by first | decide | omega)) (by rfl) (c_acons (cv 1) (c_acons c_int (c_acons (c_bin op_sub g_sub (c_callB call_len g_len (by rfl) Wd.b_len PySem.boot_len (c_acons (c_fld (f := "sessions") (hF1 Wd.f_System_sessions) (cv 0)) c_anil)) c_int) c_anil)))))) (c_last c_bad) c_nil)
  (c_last (c_ret (c_ixOwn tr0_ok O_System___getitem__ go_def (hr.mono (by first | decide | omega)) (cv 0) (c_ix (c_fld (f := "sessions") (hF1 Wd.f_System_sessions) (cv 0)) (cv 1))))))

theorem sc_next_statement : FnScope ["system", "sessions", "session"] ["system", "sessions", "session"] (defScope s_next_statement) := ⟨rfl, rfl, rfl, by decide +kernel, rfl, by decide +kernel, by decide +kernel⟩
theorem ok_next_statement {P : Program} {wd : World} {K : PySem.W.Frag} {mg : Str → Option Value} {base : Heap} {Γ : Cls'} (Wd : WdT wd K Γ mg) (G_System_kind_of : Dm P wd K mg base Γ 5 "kind_of" 3 m_System_kind_of) (O_Script___getitem__ : Dn' P wd K mg base Γ 1 "__getitem__" 4 m_Script___getitem__) {f : Addr} {fd : FuncData} (F : Fun K "next_statement" "next_statement" s_next_statement f fd) :
    FnOk P wd K mg base (L2.CX P wd) 6 f fd ["system", "sessions", "session"] (spM K Γ m_next_statement) := by
  have nd := sc_next_statement.nd
  exact def_ok F sc_next_statement fun cdv A outer s H E hr => (c_last (c_ret (c_ixOwn tr0_ok O_Script___getitem__ go_def (hr.mono (by first | decide | omega)) (c_fld (f := "script") (hF1 Wd.f_Kind_script) (c_mth tr0_ok G_System_kind_of go_def (hr.mono (by first | decide | omega)) (cv 0) (c_acons (cv 2) c_anil))) (c_ix (c_ix (cv 1) (cv 2)) c_int))))

theorem sc_needs_block : FnScope ["system", "sessions", "session", "store"] ["system", "sessions", "session"] (defScope s_needs_block) := ⟨rfl, rfl, rfl, by decide +kernel, rfl, by decide +kernel, by decide +kernel⟩
theorem ok_needs_block {P : Program} {wd : World} {K : PySem.W.Frag} {mg : Str → Option Value} {base : Heap} {Γ : Cls'} (Wd : WdT wd K Γ mg) (G_next_statement : Df P wd K mg base Γ "next_statement" 6 m_next_statement) {f : Addr} {fd : FuncData} (F : Fun K "needs_block" "needs_block" s_needs_block f fd) :
    FnOk P wd K mg base (L2.CX P wd) 7 f fd ["system", "sessions", "session"] (spM K Γ m_needs_block) := by
  have nd := sc_needs_block.nd
  exact def_ok F sc_needs_block fun cdv A outer s H E hr => (c_seq (cset 3 nd (c_ix (c_ix (cv 1) (cv 2)) c_int))
  (c_last (c_ret (c_and (c_nott (cv 3)) (c_one (c_cmp (op_eq2 (hu64 hr)) g_eq (c_ix (c_fn tr0_ok G_next_statement go_def (hr.mono (by first | decide | omega)) (by rfl) (c_acons (cv 0) (c_acons (cv 1) (c_acons (cv 2) c_anil)))) c_int) c_str (nomark _)))))))

theorem sc_must_wait : FnScope ["system", "sessions", "session", "width", "statement", "at", "other"] ["system", "sessions", "session", "width"] (defScope s_must_wait) := ⟨rfl, rfl, rfl, by decide +kernel, rfl, by decide +kernel, by decide +kernel⟩
theorem ok_must_wait {P : Program} {wd : World} {K : PySem.W.Frag} {mg : Str → Option Value} {base : Heap} {Γ : Cls'} (Wd : WdT wd K Γ mg) (G_System_kind_of : Dm P wd K mg base Γ 5 "kind_of" 3 m_System_kind_of) (G_needs_block : Df P wd K mg base Γ "needs_block" 7 m_needs_block) (G_next_statement : Df P wd K mg base Γ "next_statement" 6 m_next_statement) {f : Addr} {fd : FuncData} (F : Fun K "must_wait" "must_wait" s_must_wait f fd) :
    FnOk P wd K mg base (L2.CX P wd) 8 f fd ["system", "sessions", "session", "width"] (spM K Γ m_must_wait) := by
  have nd := sc_must_wait.nd
  exact def_ok F sc_must_wait fun cdv A outer s H E hr => (c_seq (cset 4 nd (c_fn tr0_ok G_next_statement go_def (hr.mono (by first | decide | omega)) (by rfl) (c_acons (cv 0) (c_acons (cv 1) (c_acons (cv 2) c_anil)))))
  (c_seq (c_if (c_tcmp (op_eq2 (hu64 hr)) g_eq (c_ix (cv 4) c_int) c_str (nomark _)) (c_last (c_ret (c_callB (cr_any rfl) g_any (by rfl) Wd.b_any (by decide +kernel) (c_acons (c_lcG (own := [("at", 5), ("other", 6)]) (sl := [5, 6]) finL_ok (by decide) rfl nd (ci_enum (by rfl) Wd.b_enumerate (cv 1)) (blkOk_by (own := [("at", 5), ("other", 6)]) (N := ["system", "sessions", "session", "width", "statement", "at", "other"]) (sc := defScope s_must_wait) (by decide +kernel)) (fun _ _ _ _ _ => (c_gtup rfl (c_gcons (cgn 5 nd) (c_gcons (cgn 6 nd) c_gnil)) (takes_cons (takes_cons takes_nil)))) (fun _ _ _ _ _ => (c_tsone (c_tcmp (op_ne2 (hu64 hr)) g_ne (cv 5) (cv 2) (nomark _)))) (fun _ _ _ _ _ => (c_cmp op_in_seq g_inF (c_ix (cv 4) c_int) (c_ix (cv 6) c_int) (by rfl)))) c_anil)))) c_nil)
  (c_seq (c_if (c_wt (c_wor (c_tcmp op_isN g_isN (c_fld (f := "window") (hF1 Wd.f_System_window) (cv 0)) c_non (nomark _)) (c_wor (c_tcmp op_isN g_isN (cv 3) c_non (nomark _)) (c_wor1 (c_tnot (c_tru (c_fn tr0_ok G_needs_block go_def (hr.mono (by first | decide | omega)) (by rfl) (c_acons (cv 0) (c_acons (cv 1) (c_acons (cv 2) c_anil)))))))))) (c_last (c_ret c_bl)) c_nil)
  (c_last (c_ret (c_cmp op_gt g_gt (c_bin op_add4 g_add (cv 3) (c_fld (f := "block") (hF1 Wd.f_Kind_block) (c_mth tr0_ok G_System_kind_of go_def (hr.mono (by first | decide | omega)) (cv 0) (c_acons (cv 2) c_anil)))) (c_fld (f := "window") (hF1 Wd.f_System_window) (cv 0)) (nomark _)))))))

theorem sc_reserve_after : FnScope ["system", "reserve", "block"] ["system", "reserve", "block"] (defScope s_reserve_after) := ⟨rfl, rfl, rfl, by decide +kernel, rfl, by decide +kernel, by decide +kernel⟩
theorem ok_reserve_after {P : Program} {wd : World} {K : PySem.W.Frag} {mg : Str → Option Value} {base : Heap} {Γ : Cls'} (Wd : WdT wd K Γ mg)  {f : Addr} {fd : FuncData} (F : Fun K "reserve_after" "reserve_after" s_reserve_after f fd) :
    FnOk P wd K mg base (L2.CX P wd) 1 f fd ["system", "reserve", "block"] (spM K Γ m_reserve_after) := by
  have nd := sc_reserve_after.nd
  exact def_ok F sc_reserve_after fun cdv A outer s H E hr => (c_last (c_ret (c_ifx (c_tcmp op_le g_le (cv 2) (cv 1) (nomark _)) (c_bin op_sub g_sub (cv 1) (cv 2)) (c_fld (f := "ahead") (hF1 Wd.f_System_ahead) (cv 0)))))
end Mm
set_option maxRecDepth 100000
namespace Mm
open PySem L2
theorem sc_is_crash : FnScope ["step"] ["step"] (defScope s_is_crash) := ⟨rfl, rfl, rfl, by decide +kernel, rfl, by decide +kernel, by decide +kernel⟩
theorem ok_is_crash {P : Program} {wd : World} {K : PySem.W.Frag} {mg : Str → Option Value} {base : Heap} {Γ : Cls'} (Wd : WdT wd K Γ mg)  {f : Addr} {fd : FuncData} (F : Fun K "is_crash" "is_crash" s_is_crash f fd) :
    FnOk P wd K mg base (L2.CX P wd) 1 f fd ["step"] (spM K Γ m_is_crash) := by
  have nd := sc_is_crash.nd
  exact def_ok F sc_is_crash fun cdv A outer s H E hr => (c_last (c_ret (c_and (c_isiT (T := "tuple") Wd.b_isinstance Wd.b_tuple (by decide +kernel) (cv 0)) (c_and (c_cmp (op_eq2 (hu64 hr)) g_eq (c_callB call_len g_len (by rfl) Wd.b_len PySem.boot_len (c_acons (cv 0) c_anil)) c_int (nomark _)) (c_and (c_isiT (T := "str") Wd.b_isinstance Wd.b_str (by decide +kernel) (c_ix (cv 0) c_int)) (c_one (c_cmp (op_eq2 (hu64 hr)) g_eq (c_ix (cv 0) c_int) c_str (nomark _))))))))

theorem sc_Record___init__ : FnScope ["self", "commits", "lost", "out", "height", "noted", "crashes", "widest"] ["self", "commits", "lost", "out", "height", "noted", "crashes", "widest"] (defScope s_Record___init__) := ⟨rfl, rfl, rfl, by decide +kernel, rfl, by decide +kernel, by decide +kernel⟩
theorem ok_Record___init__ {P : Program} {wd : World} {K : PySem.W.Frag} {mg : Str → Option Value} {base : Heap} {Γ : Cls'} (Wd : WdT wd K Γ mg)  {f : Addr} {fd : FuncData} (F : Fun K "__init__" "Record.__init__" s_Record___init__ f fd) :
    FnOk P wd K mg base (L2.CX P wd) 1 f fd ["self", "commits", "lost", "out", "height", "noted", "crashes", "widest"] (spM K Γ m_Record___init__) := by
  have nd := sc_Record___init__.nd
  exact def_ok F sc_Record___init__ fun cdv A outer s H E hr => (c_seq (c_sfld (f := "commits") (hF1 Wd.f_Record_commits) (cv 0) (cv 1))
  (c_seq (c_sfld (f := "lost") (hF1 Wd.f_Record_lost) (cv 0) (cv 2))
  (c_seq (c_sfld (f := "out") (hF1 Wd.f_Record_out) (cv 0) (cv 3))
  (c_seq (c_sfld (f := "height") (hF1 Wd.f_Record_height) (cv 0) (cv 4))
  (c_seq (c_sfld (f := "noted") (hF1 Wd.f_Record_noted) (cv 0) (cv 5))
  (c_seq (c_sfld (f := "crashes") (hF1 Wd.f_Record_crashes) (cv 0) (cv 6))
  (c_last (c_sfld (f := "spread") (hF1 Wd.f_Record_spread) (cv 0) (cv 7)))))))))

theorem sc_Moment___init__ : FnScope ["self", "system", "name"] ["self", "system"] (defScope s_Moment___init__) := ⟨rfl, rfl, rfl, by decide +kernel, rfl, by decide +kernel, by decide +kernel⟩
theorem ok_Moment___init__ {P : Program} {wd : World} {K : PySem.W.Frag} {mg : Str → Option Value} {base : Heap} {Γ : Cls'} (Wd : WdT wd K Γ mg)  {f : Addr} {fd : FuncData} (F : Fun K "__init__" "Moment.__init__" s_Moment___init__ f fd) :
    FnOk P wd K mg base (L2.CX P wd) 1 f fd ["self", "system"] (spM K Γ m_Moment___init__) := by
  have nd := sc_Moment___init__.nd
  exact def_ok F sc_Moment___init__ fun cdv A outer s H E hr => (c_seq (c_sfld (f := "system") (hF1 Wd.f_Moment_system) (cv 0) (cv 1))
  (c_seq (c_sfld (f := "height") (hF1 Wd.f_Moment_height) (cv 0) c_int)
  (c_seq (c_sfld (f := "reserve") (hF1 Wd.f_Moment_reserve) (cv 0) (c_fld (f := "ahead") (hF1 Wd.f_System_ahead) (cv 1)))
  (c_seq (c_sfld (f := "crashes") (hF1 Wd.f_Moment_crashes) (cv 0) (c_fld (f := "crashes") (hF3 Wd.f_Record_crashes Wd.f_Moment_crashes Wd.f_System_crashes) (cv 1)))
  (c_seq (c_sfld (f := "sessions") (hF1 Wd.f_Moment_sessions) (cv 0) (c_lcG (own := [("name", 2)]) (sl := [2]) finN_ok (by decide) rfl nd (ci_seq (c_fld (f := "sessions") (hF2 Wd.f_Moment_sessions Wd.f_System_sessions) (cv 1))) (blkOk_by (own := [("name", 2)]) (N := ["self", "system", "name"]) (sc := defScope s_Moment___init__) (by decide +kernel)) (fun _ _ _ _ _ => (cgn 2 nd)) (fun _ _ _ _ _ => c_tsnil) (fun _ _ _ _ _ => (c_gl Wd.g_FRESH))))
  (c_seq (c_sfld (f := "commits") (hF1 Wd.f_Moment_commits) (cv 0) (c_new c_anil))
  (c_seq (c_sfld (f := "lost") (hF1 Wd.f_Moment_lost) (cv 0) (c_new c_anil))
  (c_seq (c_sfld (f := "spread") (hF1 Wd.f_Moment_spread) (cv 0) c_non)
  (c_seq (c_sfld (f := "done") (hF1 Wd.f_Moment_done) (cv 0) (c_new c_anil))
  (c_last (c_sfld (f := "origin") (hF1 Wd.f_Moment_origin) (cv 0) c_non)))))))))))

theorem sc_Moment_owners : FnScope ["self", "session", "place", "locks", "transaction", "store", "number"] ["self"] (defScope s_Moment_owners) := ⟨rfl, rfl, rfl, by decide +kernel, rfl, by decide +kernel, by decide +kernel⟩
theorem ok_Moment_owners {P : Program} {wd : World} {K : PySem.W.Frag} {mg : Str → Option Value} {base : Heap} {Γ : Cls'} (Wd : WdT wd K Γ mg)  {f : Addr} {fd : FuncData} (F : Fun K "owners" "Moment.owners" s_Moment_owners f fd) :
    FnOk P wd K mg base (L2.CX P wd) 1 f fd ["self"] (spM K Γ m_Moment_owners) := by
  have nd := sc_Moment_owners.nd
  exact def_ok F sc_Moment_owners fun cdv A outer s H E hr => (c_last (c_ret (c_dc2 (own := [("session", 1), ("place", 2), ("locks", 3), ("transaction", 4), ("store", 5), ("number", 6)]) (vs1 := [6]) (sl := [1, 2, 3, 4, 5]) (sl1 := [6]) (by decide) (by decide) (by decide) rfl nd (ci_enum (by rfl) Wd.b_enumerate (c_fld (f := "sessions") (hF1 Wd.f_Moment_sessions) (cv 0))) (blkOk_by (own := [("session", 1), ("place", 2), ("locks", 3), ("transaction", 4), ("store", 5), ("number", 6)]) (N := ["self", "session", "place", "locks", "transaction", "store", "number"]) (sc := defScope s_Moment_owners) (by decide +kernel)) (fun _ _ _ _ _ => (c_gtup rfl (c_gcons (cgn 1 nd) (c_gcons (c_gtup rfl (c_gcons (cgn 2 nd) (c_gcons (cgn 3 nd) (c_gcons (cgn 4 nd) (c_gcons (cgn 5 nd) c_gnil)))) (takes_cons (takes_cons (takes_cons (takes_cons takes_nil))))) c_gnil)) (takes_cons (takes_cons takes_nil)))) (fun _ _ _ _ _ => c_tsnil) (fun _ _ _ _ _ => (ci_seq (c_bin op_add4 g_add (cv 4) (cv 5)))) (fun _ _ _ _ _ => (cgn 6 nd)) (fun _ _ _ _ _ => c_tsnil) (fun _ _ _ _ _ => (cv 6)) (fun _ _ _ _ _ => (cv 1)))))

theorem sc_Moment_width : FnScope ["self", "number"] ["self"] (defScope s_Moment_width) := ⟨rfl, rfl, rfl, by decide +kernel, rfl, by decide +kernel, by decide +kernel⟩
theorem ok_Moment_width {P : Program} {wd : World} {K : PySem.W.Frag} {mg : Str → Option Value} {base : Heap} {Γ : Cls'} (Wd : WdT wd K Γ mg) (G_Moment_owners : Dm P wd K mg base Γ 3 "owners" 1 m_Moment_owners) {f : Addr} {fd : FuncData} (F : Fun K "width" "Moment.width" s_Moment_width f fd) :
    FnOk P wd K mg base (L2.CX P wd) 2 f fd ["self"] (spM K Γ m_Moment_width) := by
  have nd := sc_Moment_width.nd
  exact def_ok F sc_Moment_width fun cdv A outer s H E hr => (c_last (c_ret (c_maxdef rfl Wd.b_max (c_lcG (own := [("number", 1)]) (sl := [1]) finL_ok (by decide) rfl nd (ci_seq (c_callTy (call_listD2 rfl) g_dlist (by rfl) Wd.b_list (by decide +kernel) (c_acons (c_mth0 tr0_ok G_Moment_owners go_def (hr.mono (by first | decide | omega)) (cv 0)) c_anil))) (blkOk_by (own := [("number", 1)]) (N := ["self", "number"]) (sc := defScope s_Moment_width) (by decide +kernel)) (fun _ _ _ _ _ => (cgn 1 nd)) (fun _ _ _ _ _ => c_tsnil) (fun _ _ _ _ _ => (c_bin op_sub g_sub (c_fld (f := "height") (hF1 Wd.f_Moment_height) (cv 0)) (cv 1)))))))
end Mm
set_option maxRecDepth 100000
namespace Mm
open PySem L2
theorem sc_Moment_recorded : FnScope ["self", "noted"] ["self"] (defScope s_Moment_recorded) := ⟨rfl, rfl, rfl, by decide +kernel, rfl, by decide +kernel, by decide +kernel⟩
theorem ok_Moment_recorded {P : Program} {wd : World} {K : PySem.W.Frag} {mg : Str → Option Value} {base : Heap} {Γ : Cls'} (Wd : WdT wd K Γ mg) (G_Moment_owners : Dm P wd K mg base Γ 3 "owners" 1 m_Moment_owners) (K_Record : Dk P wd K mg base Γ 0 "Record" 1 m_Record___init__) {f : Addr} {fd : FuncData} (F : Fun K "recorded" "Moment.recorded" s_Moment_recorded f fd) :
    FnOk P wd K mg base (L2.CX P wd) 3 f fd ["self"] (spM K Γ m_Moment_recorded) := by
  have nd := sc_Moment_recorded.nd
  exact def_ok F sc_Moment_recorded fun cdv A outer s H E hr => (c_seq (cset 1 nd (c_bin op_add4 g_add (c_fld (f := "height") (hF1 Wd.f_Moment_height) (cv 0)) (c_fld (f := "reserve") (hF1 Wd.f_Moment_reserve) (cv 0))))
  (c_last (c_ret (c_mk trT_ok K_Record go_def (hr.mono (by first | decide | omega)) (by rfl) (c_acons (c_callTy call_list_of g_list (by rfl) Wd.b_list (by decide +kernel) (c_acons (c_fld (f := "commits") (hF1 Wd.f_Moment_commits) (cv 0)) c_anil)) (c_acons (c_callB cr_sortedI g_sort (by rfl) Wd.b_sorted (by decide +kernel) (c_acons (c_fld (f := "lost") (hF1 Wd.f_Moment_lost) (cv 0)) c_anil)) (c_acons (c_mth0 tr0_ok G_Moment_owners go_def (hr.mono (by first | decide | omega)) (cv 0)) (c_acons (c_fld (f := "height") (hF1 Wd.f_Moment_height) (cv 0)) (c_acons (cv 1) (c_acons (c_fld (f := "crashes") (hF1 Wd.f_Moment_crashes) (cv 0)) (c_acons (c_fld (f := "spread") (hF1 Wd.f_Moment_spread) (cv 0)) c_anil)))))))))))

theorem sc_Moment_holds_up : FnScope ["self", "session"] ["self", "session"] (defScope s_Moment_holds_up) := ⟨rfl, rfl, rfl, by decide +kernel, rfl, by decide +kernel, by decide +kernel⟩
theorem ok_Moment_holds_up {P : Program} {wd : World} {K : PySem.W.Frag} {mg : Str → Option Value} {base : Heap} {Γ : Cls'} (Wd : WdT wd K Γ mg) (G_Moment_width : Dm P wd K mg base Γ 3 "width" 2 m_Moment_width) (G_must_wait : Df P wd K mg base Γ "must_wait" 8 m_must_wait) {f : Addr} {fd : FuncData} (F : Fun K "holds_up" "Moment.holds_up" s_Moment_holds_up f fd) :
    FnOk P wd K mg base (L2.CX P wd) 9 f fd ["self", "session"] (spM K Γ m_Moment_holds_up) := by
  have nd := sc_Moment_holds_up.nd
  exact def_ok F sc_Moment_holds_up fun cdv A outer s H E hr => (c_last (c_ret (c_fn tr0_ok G_must_wait go_def (hr.mono (by first | decide | omega)) (by rfl) (c_acons (c_fld (f := "system") (hF1 Wd.f_Moment_system) (cv 0)) (c_acons (c_fld (f := "sessions") (hF1 Wd.f_Moment_sessions) (cv 0)) (c_acons (cv 1) (c_acons (c_mth0 tr0_ok G_Moment_width go_def (hr.mono (by first | decide | omega)) (cv 0)) c_anil)))))))

theorem sc_Moment_allows : FnScope ["self", "step", "session", "answer"] ["self", "step"] (defScope s_Moment_allows) := ⟨rfl, rfl, rfl, by decide +kernel, rfl, by decide +kernel, by decide +kernel⟩
theorem ok_Moment_allows {P : Program} {wd : World} {K : PySem.W.Frag} {mg : Str → Option Value} {base : Heap} {Γ : Cls'} (Wd : WdT wd K Γ mg) (G_Moment_holds_up : Dm P wd K mg base Γ 3 "holds_up" 9 m_Moment_holds_up) (G_is_answer : Df P wd K mg base Γ "is_answer" 2 m_is_answer) (G_is_crash : Df P wd K mg base Γ "is_crash" 1 m_is_crash) (G_is_within : Df P wd K mg base Γ "is_within" 2 m_is_within) (G_next_statement : Df P wd K mg base Γ "next_statement" 6 m_next_statement) {f : Addr} {fd : FuncData} (F : Fun K "allows" "Moment.allows" s_Moment_allows f fd) :
    FnOk P wd K mg base (L2.CX P wd) 10 f fd ["self", "step"] (spM K Γ m_Moment_allows) := by
  have nd := sc_Moment_allows.nd
  exact def_ok F sc_Moment_allows fun cdv A outer s H E hr => (c_seq (c_if (c_tru (c_fn tr0_ok G_is_crash go_def (hr.mono (by first | decide | omega)) (by rfl) (c_acons (cv 1) c_anil))) (c_last (c_ret (c_cmp op_gt g_gt (c_fld (f := "crashes") (hF1 Wd.f_Moment_crashes) (cv 0)) c_int (nomark _)))) c_nil)
  (c_seq (c_if (c_wt (c_wor (c_tnot (c_tru (c_isiT (T := "tuple") Wd.b_isinstance Wd.b_tuple (by decide +kernel) (cv 1)))) (c_wor1 (c_tcmp (op_ne2 (hu64 hr)) g_ne (c_callB call_len g_len (by rfl) Wd.b_len PySem.boot_len (c_acons (cv 1) c_anil)) c_int (nomark _))))) (c_last (c_ret c_bl)) c_nil)
  (c_seq (c_asg (sl := [2, 3]) (cv 1) (c_gtup rfl (c_gcons (cgn 2 nd) (c_gcons (cgn 3 nd) c_gnil)) (takes_cons (takes_cons takes_nil))))
  (c_seq (c_if (c_wt (c_wor (c_tnot (c_tru (c_fn tr0_ok G_is_within go_def (hr.mono (by first | decide | omega)) (by rfl) (c_acons (cv 2) (c_acons c_int (c_acons (c_bin op_sub g_sub (c_callB call_len g_len (by rfl) Wd.b_len PySem.boot_len (c_acons (c_fld (f := "sessions") (hF1 Wd.f_Moment_sessions) (cv 0)) c_anil)) c_int) c_anil)))))) (c_wor1 (c_tru (c_mth tr0_ok G_Moment_holds_up go_def (hr.mono (by first | decide | omega)) (cv 0) (c_acons (cv 2) c_anil)))))) (c_last (c_ret c_bl)) c_nil)
  (c_last (c_ret (c_fn tr0_ok G_is_answer go_def (hr.mono (by first | decide | omega)) (by rfl) (c_acons (c_fn tr0_ok G_next_statement go_def (hr.mono (by first | decide | omega)) (by rfl) (c_acons (c_fld (f := "system") (hF1 Wd.f_Moment_system) (cv 0)) (c_acons (c_fld (f := "sessions") (hF1 Wd.f_Moment_sessions) (cv 0)) (c_acons (cv 2) c_anil)))) (c_acons (cv 3) c_anil)))))))))

theorem sc_Moment_hand_out : FnScope ["self", "session", "place", "locks", "transaction", "store", "block", "numbers"] ["self", "session"] (defScope s_Moment_hand_out) := ⟨rfl, rfl, rfl, by decide +kernel, rfl, by decide +kernel, by decide +kernel⟩
theorem ok_Moment_hand_out {P : Program} {wd : World} {K : PySem.W.Frag} {mg : Str → Option Value} {base : Heap} {Γ : Cls'} (Wd : WdT wd K Γ mg) (G_System_kind_of : Dm P wd K mg base Γ 5 "kind_of" 3 m_System_kind_of) (G_reserve_after : Df P wd K mg base Γ "reserve_after" 1 m_reserve_after) {f : Addr} {fd : FuncData} (F : Fun K "hand_out" "Moment.hand_out" s_Moment_hand_out f fd) :
    FnOk P wd K mg base (L2.CX P wd) 4 f fd ["self", "session"] (spM K Γ m_Moment_hand_out) := by
  have nd := sc_Moment_hand_out.nd
  exact def_ok F sc_Moment_hand_out fun cdv A outer s H E hr => (c_seq (c_asg (sl := [2, 3, 4, 5]) (c_ix (c_fld (f := "sessions") (hF1 Wd.f_Moment_sessions) (cv 0)) (cv 1)) (c_gtup rfl (c_gcons (cgn 2 nd) (c_gcons (cgn 3 nd) (c_gcons (cgn 4 nd) (c_gcons (cgn 5 nd) c_gnil)))) (takes_cons (takes_cons (takes_cons (takes_cons takes_nil))))))
  (c_seq (cset 6 nd (c_fld (f := "block") (hF1 Wd.f_Kind_block) (c_mth tr0_ok G_System_kind_of go_def (hr.mono (by first | decide | omega)) (c_fld (f := "system") (hF1 Wd.f_Moment_system) (cv 0)) (c_acons (cv 1) c_anil))))
  (c_seq (cset 7 nd (c_tupRg rfl Wd.b_tuple Wd.b_range (c_fld (f := "height") (hF1 Wd.f_Moment_height) (cv 0)) (c_bin op_add4 g_add (c_fld (f := "height") (hF1 Wd.f_Moment_height) (cv 0)) (cv 6))))
  (c_seq (c_put (c_tup (c_acons (cv 2) (c_acons (cv 3) (c_acons (cv 4) (c_acons (cv 7) c_anil))))) (c_fld (f := "sessions") (hF1 Wd.f_Moment_sessions) (cv 0)) (cv 1))
  (c_seq (c_fldaug in_add Wd.f_Moment_height (cv 0) (cv 6))
  (c_last (c_sfld (f := "reserve") (hF1 Wd.f_Moment_reserve) (cv 0) (c_fn tr0_ok G_reserve_after go_def (hr.mono (by first | decide | omega)) (by rfl) (c_acons (c_fld (f := "system") (hF1 Wd.f_Moment_system) (cv 0)) (c_acons (c_fld (f := "reserve") (hF1 Wd.f_Moment_reserve) (cv 0)) (c_acons (cv 6) c_anil)))))))))))

theorem sc_Moment_execute_statement : FnScope ["self", "session", "answer", "script", "after", "committed", "lost"] ["self", "session", "answer"] (defScope s_Moment_execute_statement) := ⟨rfl, rfl, rfl, by decide +kernel, rfl, by decide +kernel, by decide +kernel⟩
theorem ok_Moment_execute_statement {P : Program} {wd : World} {K : PySem.W.Frag} {mg : Str → Option Value} {base : Heap} {Γ : Cls'} (Wd : WdT wd K Γ mg) (G_Moment_hand_out : Dm P wd K mg base Γ 3 "hand_out" 4 m_Moment_hand_out) (G_System_kind_of : Dm P wd K mg base Γ 5 "kind_of" 3 m_System_kind_of) (G_executed : Df P wd K mg base Γ "executed" 7 m_executed) (G_needs_block : Df P wd K mg base Γ "needs_block" 7 m_needs_block) {f : Addr} {fd : FuncData} (F : Fun K "execute_statement" "Moment.execute_statement" s_Moment_execute_statement f fd) :
    FnOk P wd K mg base (L2.CX P wd) 8 f fd ["self", "session", "answer"] (spM K Γ m_Moment_execute_statement) := by
  have nd := sc_Moment_execute_statement.nd
  exact def_ok F sc_Moment_execute_statement fun cdv A outer s H E hr => (c_seq (c_if (c_tru (c_fn tr0_ok G_needs_block go_def (hr.mono (by first | decide | omega)) (by rfl) (c_acons (c_fld (f := "system") (hF1 Wd.f_Moment_system) (cv 0)) (c_acons (c_fld (f := "sessions") (hF1 Wd.f_Moment_sessions) (cv 0)) (c_acons (cv 1) c_anil))))) (c_last (c_expr (c_mth tr0_ok G_Moment_hand_out go_def (hr.mono (by first | decide | omega)) (cv 0) (c_acons (cv 1) c_anil)))) c_nil)
  (c_seq (cset 3 nd (c_fld (f := "script") (hF1 Wd.f_Kind_script) (c_mth tr0_ok G_System_kind_of go_def (hr.mono (by first | decide | omega)) (c_fld (f := "system") (hF1 Wd.f_Moment_system) (cv 0)) (c_acons (cv 1) c_anil))))
  (c_seq (c_asg (sl := [4, 5, 6]) (c_fn tr0_ok G_executed go_def (hr.mono (by first | decide | omega)) (by rfl) (c_acons (cv 3) (c_acons (c_ix (c_fld (f := "sessions") (hF1 Wd.f_Moment_sessions) (cv 0)) (cv 1)) (c_acons (cv 2) c_anil)))) (c_gtup rfl (c_gcons (cgn 4 nd) (c_gcons (cgn 5 nd) (c_gcons (cgn 6 nd) c_gnil))) (takes_cons (takes_cons (takes_cons takes_nil)))))
  (c_seq (c_put (cv 4) (c_fld (f := "sessions") (hF1 Wd.f_Moment_sessions) (cv 0)) (cv 1))
  (c_seq (c_if (c_tru (cv 5)) (c_last (c_expr (c_meth PySem.F.plainAttrs_list PySem.F.slot_list_append PySem.F.type_list_append mt_append gty_list gm_app (c_fld (f := "commits") (hF1 Wd.f_Moment_commits) (cv 0)) (c_acons (c_tup (c_acons (cv 1) (c_acons (cv 5) c_anil))) c_anil)))) c_nil)
  (c_last (c_expr (c_meth PySem.F.plainAttrs_list PySem.F.slot_list_extend PySem.F.type_list_extend mt_ext2 gty_list gm_ext2 (c_fld (f := "lost") (hF1 Wd.f_Moment_lost) (cv 0)) (c_acons (cv 6) c_anil)))))))))
end Mm
set_option maxRecDepth 100000
namespace Mm
open PySem L2
theorem sc_Moment_execute : FnScope ["self", "step", "session", "answer", "width"] ["self", "step"] (defScope s_Moment_execute) := ⟨rfl, rfl, rfl, by decide +kernel, rfl, by decide +kernel, by decide +kernel⟩
theorem ok_Moment_execute {P : Program} {wd : World} {K : PySem.W.Frag} {mg : Str → Option Value} {base : Heap} {Γ : Cls'} (Wd : WdT wd K Γ mg) (G_Moment_execute_statement : Dm P wd K mg base Γ 3 "execute_statement" 8 m_Moment_execute_statement) (G_Moment_width : Dm P wd K mg base Γ 3 "width" 2 m_Moment_width) (G_is_crash : Df P wd K mg base Γ "is_crash" 1 m_is_crash) {f : Addr} {fd : FuncData} (F : Fun K "execute" "Moment.execute" s_Moment_execute f fd) :
    FnOk P wd K mg base (L2.CX P wd) 9 f fd ["self", "step"] (spM K Γ m_Moment_execute) := by
  have nd := sc_Moment_execute.nd
  exact def_ok F sc_Moment_execute fun cdv A outer s H E hr => (c_seq (c_if (c_tru (c_fn tr0_ok G_is_crash go_def (hr.mono (by first | decide | omega)) (by rfl) (c_acons (cv 1) c_anil))) (c_last c_bad) (c_seq (c_asg (sl := [2, 3]) (cv 1) (c_gtup rfl (c_gcons (cgn 2 nd) (c_gcons (cgn 3 nd) c_gnil)) (takes_cons (takes_cons takes_nil))))
  (c_last (c_expr (c_mth tr0_ok G_Moment_execute_statement go_def (hr.mono (by first | decide | omega)) (cv 0) (c_acons (cv 2) (c_acons (cv 3) c_anil)))))))
  (c_seq (c_expr (c_meth PySem.F.plainAttrs_list PySem.F.slot_list_append PySem.F.type_list_append mt_append gty_list gm_app (c_fld (f := "done") (hF1 Wd.f_Moment_done) (cv 0)) (c_acons (cv 1) c_anil)))
  (c_seq (cset 4 nd (c_mth0 tr0_ok G_Moment_width go_def (hr.mono (by first | decide | omega)) (cv 0)))
  (c_last (c_if (c_wt (c_wand (c_tcmp op_notN g_notN (cv 4) c_non (nomark _)) (c_wand1 (c_wt (c_wor (c_tcmp op_isN g_isN (c_fld (f := "spread") (hF1 Wd.f_Moment_spread) (cv 0)) c_non (nomark _)) (c_wor1 (c_tcmp op_gt g_gt (cv 4) (c_fld (f := "spread") (hF1 Wd.f_Moment_spread) (cv 0)) (nomark _)))))))) (c_last (c_sfld (f := "spread") (hF1 Wd.f_Moment_spread) (cv 0) (cv 4))) c_nil)))))

theorem sc_follow : FnScope ["moment", "schedule", "index", "step"] ["moment", "schedule"] (defScope s_follow) := ⟨rfl, rfl, rfl, by decide +kernel, rfl, by decide +kernel, by decide +kernel⟩
theorem ok_follow {P : Program} {wd : World} {K : PySem.W.Frag} {mg : Str → Option Value} {base : Heap} {Γ : Cls'} (Wd : WdT wd K Γ mg) (G_Moment_allows : Dm P wd K mg base Γ 3 "allows" 10 m_Moment_allows) (G_Moment_execute : Dm P wd K mg base Γ 3 "execute" 9 m_Moment_execute) {f : Addr} {fd : FuncData} (F : Fun K "follow" "follow" s_follow f fd) :
    FnOk P wd K mg base (L2.CX P wd) 11 f fd ["moment", "schedule"] (spM K Γ m_follow) := by
  have nd := sc_follow.nd
  exact def_ok F sc_follow fun cdv A outer s H E hr => (c_seq (c_if (c_tnot (c_tru (c_isiT (T := "list") Wd.b_isinstance Wd.b_list (by decide +kernel) (cv 1)))) (c_last c_bad) c_nil)
  (c_last (c_for (sl := [2, 3]) (passes_of rfl) rfl (ci_enum (by rfl) Wd.b_enumerate (cv 1)) (c_gtup rfl (c_gcons (cgn 2 nd) (c_gcons (cgn 3 nd) c_gnil)) (takes_cons (takes_cons takes_nil))) (c_seq (c_if (c_tnot (c_tru (c_mth tr0_ok G_Moment_allows go_def (hr.mono (by first | decide | omega)) (cv 0) (c_acons (cv 3) c_anil)))) (c_last c_bad) c_nil)
  (c_last (c_expr (c_mth tr0_ok G_Moment_execute go_def (hr.mono (by first | decide | omega)) (cv 0) (c_acons (cv 3) c_anil))))))))

theorem sc_run : FnScope ["system", "schedule", "moment"] ["system", "schedule"] (defScope s_run) := ⟨rfl, rfl, rfl, by decide +kernel, rfl, by decide +kernel, by decide +kernel⟩
theorem ok_run {P : Program} {wd : World} {K : PySem.W.Frag} {mg : Str → Option Value} {base : Heap} {Γ : Cls'} (Wd : WdT wd K Γ mg) (G_Moment_recorded : Dm P wd K mg base Γ 3 "recorded" 3 m_Moment_recorded) (G_follow : Df P wd K mg base Γ "follow" 11 m_follow) (K_Moment : Dk P wd K mg base Γ 3 "Moment" 1 m_Moment___init__) {f : Addr} {fd : FuncData} (F : Fun K "run" "run" s_run f fd) :
    FnOk P wd K mg base (L2.CX P wd) 12 f fd ["system", "schedule"] (spM K Γ m_run) := by
  have nd := sc_run.nd
  exact def_ok F sc_run fun cdv A outer s H E hr => (c_seq (cset 2 nd (c_mk tr0_ok K_Moment go_def (hr.mono (by first | decide | omega)) (by rfl) (c_acons (cv 0) c_anil)))
  (c_seq (c_expr (c_fn tr0_ok G_follow go_def (hr.mono (by first | decide | omega)) (by rfl) (c_acons (cv 2) (c_acons (cv 1) c_anil))))
  (c_last (c_ret (c_mth0 tr0_ok G_Moment_recorded go_def (hr.mono (by first | decide | omega)) (cv 2))))))

theorem sc__law_pool : FnScope ["_law_script", "_law_k", "_law_cell"] ["_law_script", "_law_k"] (defScope s__law_pool) := ⟨rfl, rfl, rfl, by decide +kernel, rfl, by decide +kernel, by decide +kernel⟩
theorem ok__law_pool {P : Program} {wd : World} {K : PySem.W.Frag} {mg : Str → Option Value} {base : Heap} {Γ : Cls'} (Wd : WdT wd K Γ mg)  {f : Addr} {fd : FuncData} (F : Fun K "_law_pool" "_law_pool" s__law_pool f fd) :
    FnOk P wd K mg base (L2.CX P wd) 1 f fd ["_law_script", "_law_k"] (spM K Γ m__law_pool) := by
  have nd := sc__law_pool.nd
  exact def_ok F sc__law_pool fun cdv A outer s H E hr => (c_seq (cset 2 nd (c_bin op_add4 g_add (cv 1) c_int))
  (c_seq (c_if (c_tcmp op_lt g_lt (cv 1) (c_callB call_len g_len (by rfl) Wd.b_len PySem.boot_len (c_acons (cv 0) c_anil)) (nomark _)) (c_last (cset 2 nd (c_callTy call_int1 g_intc (by rfl) Wd.b_int (by decide +kernel) (c_acons (c_ix (cv 0) (cv 1)) c_anil)))) c_nil)
  (c_last (c_ret (c_new (c_acons (c_callB (call_max2 rfl) g_max2 (by rfl) Wd.b_max (by decide +kernel) (c_acons c_int (c_acons (c_bin op_sub g_sub (cv 2) (c_bin op_pow g_pow c_int c_int)) c_anil))) (c_acons (c_bin op_mod g_mod (c_callTy call_int1 g_intc (by rfl) Wd.b_int (by decide +kernel) (c_acons (cv 2) c_anil)) c_int) (c_acons c_int c_anil))))))))

theorem sc__law_draw : FnScope ["_law_pool_here", "_law_amount", "_law_digit", "_law_number"] ["_law_pool_here", "_law_amount"] (defScope s__law_draw) := ⟨rfl, rfl, rfl, by decide +kernel, rfl, by decide +kernel, by decide +kernel⟩
theorem ok__law_draw {P : Program} {wd : World} {K : PySem.W.Frag} {mg : Str → Option Value} {base : Heap} {Γ : Cls'} (Wd : WdT wd K Γ mg)  {f : Addr} {fd : FuncData} (F : Fun K "_law_draw" "_law_draw" s__law_draw f fd) :
    FnOk P wd K mg base (L2.CX P wd) 1 f fd ["_law_pool_here", "_law_amount"] (spM K Γ m__law_draw) := by
  have nd := sc__law_draw.nd
  exact def_ok F sc__law_draw fun cdv A outer s H E hr => (c_seq (c_if (c_tcmp op_gt g_gt (c_ix (cv 0) c_int) c_int (nomark _)) (c_seq (cset 2 nd (c_bin op_mod g_mod (c_callTy call_int1 g_intc (by rfl) Wd.b_int (by decide +kernel) (c_acons (c_ix (cv 0) c_int) c_anil)) (cv 1)))
  (c_seq (c_put (c_bin op_fdiv g_div (c_ix (cv 0) c_int) (cv 1)) (cv 0) c_int)
  (c_last (c_ret (cv 2))))) c_nil)
  (c_seq (c_put (c_bin op_add4 g_add (c_ix (cv 0) c_int) c_int) (cv 0) c_int)
  (c_seq (cset 3 nd (c_bin op_mod g_mod (c_callTy call_int1 g_intc (by rfl) Wd.b_int (by decide +kernel) (c_acons (c_bin op_mul3 g_mul (c_bin op_add4 g_add (c_bin op_add4 g_add (c_ix (cv 0) c_int) (c_bin op_mul3 g_mul c_int (c_ix (cv 0) c_int))) c_int) c_int) c_anil)) c_int))
  (c_seq (cset 3 nd (c_bin op_mod g_mod (c_callTy call_int1 g_intc (by rfl) Wd.b_int (by decide +kernel) (c_acons (c_bin op_mul3 g_mul (cv 3) (c_bin op_add4 g_add (c_bin op_fdiv g_div (cv 3) c_int) c_int)) c_anil)) c_int))
  (c_seq (cset 3 nd (c_bin op_mod g_mod (c_callTy call_int1 g_intc (by rfl) Wd.b_int (by decide +kernel) (c_acons (c_bin op_mul3 g_mul (cv 3) (c_bin op_add4 g_add (c_bin op_fdiv g_div (cv 3) c_int) c_int)) c_anil)) c_int))
  (c_last (c_ret (c_bin op_mod g_mod (c_callTy call_int1 g_intc (by rfl) Wd.b_int (by decide +kernel) (c_acons (cv 3) c_anil)) (cv 1)))))))))
end Mm
set_option maxRecDepth 100000
namespace Mm
open PySem L2
theorem sc__law_names : FnScope ["_law_pool_here", "_law_letters", "_law_base", "_law_k", "_law_at", "_law_first", "_law_signs", "_law_sign"] ["_law_pool_here"] (defScope s__law_names) := ⟨rfl, rfl, rfl, by decide +kernel, rfl, by decide +kernel, by decide +kernel⟩
theorem ok__law_names {P : Program} {wd : World} {K : PySem.W.Frag} {mg : Str → Option Value} {base : Heap} {Γ : Cls'} (Wd : WdT wd K Γ mg) (G__law_draw : Df P wd K mg base Γ "_law_draw" 1 m__law_draw) {f : Addr} {fd : FuncData} (F : Fun K "_law_names" "_law_names" s__law_names f fd) :
    FnOk P wd K mg base (L2.CX P wd) 2 f fd ["_law_pool_here"] (spM K Γ m__law_names) := by
  have nd := sc__law_names.nd
  exact def_ok F sc__law_names fun cdv A outer s H E hr => (c_seq (cset 1 nd c_str)
  (c_seq (cset 2 nd c_str)
  (c_seq (c_for (sl := [3]) (passes_of rfl) rfl (ci_rng1 (by rfl) Wd.b_range (c_fn tr0_ok G__law_draw go_def (hr.mono (by first | decide | omega)) (by rfl) (c_acons (cv 0) (c_acons c_int c_anil)))) (cgn 3 nd) (c_last (cset 2 nd (c_bin op_add4 g_add (cv 2) (c_ix (cv 1) (c_fn tr0_ok G__law_draw go_def (hr.mono (by first | decide | omega)) (by rfl) (c_acons (cv 0) (c_acons c_int c_anil))))))))
  (c_seq (cset 4 nd (c_fn tr0_ok G__law_draw go_def (hr.mono (by first | decide | omega)) (by rfl) (c_acons (cv 0) (c_acons (c_bin op_add4 g_add (c_callB call_len g_len (by rfl) Wd.b_len PySem.boot_len (c_acons (cv 2) c_anil)) c_int) c_anil))))
  (c_seq (cset 5 nd (c_fn tr0_ok G__law_draw go_def (hr.mono (by first | decide | omega)) (by rfl) (c_acons (cv 0) (c_acons c_int c_anil))))
  (c_seq (cset 6 nd (c_lst (c_acons (cv 5) (c_acons (c_bin op_mod g_mod (c_callTy call_int1 g_intc (by rfl) Wd.b_int (by decide +kernel) (c_acons (c_bin op_add4 g_add (c_bin op_add4 g_add (cv 5) c_int) (c_fn tr0_ok G__law_draw go_def (hr.mono (by first | decide | omega)) (by rfl) (c_acons (cv 0) (c_acons c_int c_anil)))) c_anil)) c_int) (c_acons (c_bin op_mod g_mod (c_callTy call_int1 g_intc (by rfl) Wd.b_int (by decide +kernel) (c_acons (c_bin op_add4 g_add (c_bin op_add4 g_add (cv 5) c_int) (c_fn tr0_ok G__law_draw go_def (hr.mono (by first | decide | omega)) (by rfl) (c_acons (cv 0) (c_acons c_int c_anil)))) c_anil)) c_int) c_anil)))))
  (c_last (c_ret (c_lcG (own := [("_law_sign", 7)]) (sl := [7]) finL_ok (by decide) rfl nd (ci_seq (cv 6)) (blkOk_by (own := [("_law_sign", 7)]) (N := ["_law_pool_here", "_law_letters", "_law_base", "_law_k", "_law_at", "_law_first", "_law_signs", "_law_sign"]) (sc := defScope s__law_names) (by decide +kernel)) (fun _ _ _ _ _ => (cgn 7 nd)) (fun _ _ _ _ _ => c_tsnil) (fun _ _ _ _ _ => (c_bin op_add4 g_add (c_bin op_add4 g_add (c_sl (cv 2) c_onone (c_osome (cv 4))) (c_ix (cv 1) (cv 7))) (c_sl (cv 2) (c_osome (cv 4)) c_onone))))))))))))

theorem sc_law : FnScope ["_law_script", "_law_pool_here", "_law_chunk", "_law_open_round", "_law_name", "_law_statements", "_law_system", "_law_answers", "_law_k", "_law_schedule", "_law_answer", "_law_taken", "_law_handed", "_law_record", "_law_commits", "_law_lost", "_law_height", "_law_out", "_law_number"] ["_law_script"] (defScope s_law) := ⟨rfl, rfl, rfl, by decide +kernel, rfl, by decide +kernel, by decide +kernel⟩
theorem ok_law {P : Program} {wd : World} {K : PySem.W.Frag} {mg : Str → Option Value} {base : Heap} {Γ : Cls'} (Wd : WdT wd K Γ mg) (G__law_draw : Df P wd K mg base Γ "_law_draw" 1 m__law_draw) (G__law_names : Df P wd K mg base Γ "_law_names" 2 m__law_names) (G__law_pool : Df P wd K mg base Γ "_law_pool" 1 m__law_pool) (G_run : Df P wd K mg base Γ "run" 12 m_run) (K_Kind : Dkk P wd K mg base Γ 4 "Kind" 15 m_Kind___init__ 2 ["block"] gKind) (K_System : Dks P wd K mg base Γ 5 "System" 4 m_System___init__ [] gSystem) {f : Addr} {fd : FuncData} (F : Fun K "law" "law" s_law f fd) :
    FnOk P wd K mg base (L2.CX P wd) 17 f fd ["_law_script"] (spM K Γ m_law) := by
  have nd := sc_law.nd
  exact def_ok F sc_law fun cdv A outer s H E hr => (c_seq (cset 1 nd (c_fn tr0_ok G__law_pool go_def (hr.mono (by first | decide | omega)) (by rfl) (c_acons (cv 0) (c_acons c_int c_anil))))
  (c_seq (cset 2 nd (c_bin op_add4 g_add c_int (c_fn tr0_ok G__law_draw go_def (hr.mono (by first | decide | omega)) (by rfl) (c_acons (cv 1) (c_acons c_int c_anil)))))
  (c_seq (cset 3 nd (c_cmp (op_eq2 (hu64 hr)) g_eq (c_fn tr0_ok G__law_draw go_def (hr.mono (by first | decide | omega)) (by rfl) (c_acons (cv 1) (c_acons c_int c_anil))) c_int (nomark _)))
  (c_seq (cset 4 nd (c_ix (c_fn tr0_ok G__law_names go_def (hr.mono (by first | decide | omega)) (by rfl) (c_acons (cv 1) c_anil)) c_int))
  (c_seq (cset 5 nd (c_tup (c_acons (c_tup (c_acons c_str c_anil)) (c_acons (c_tup (c_acons c_str (c_acons (c_tup (c_acons (c_tup (c_acons c_str c_anil)) c_anil)) (c_acons (c_tup (c_acons (c_tup (c_acons c_str c_anil)) c_anil)) c_anil)))) c_anil))))
  (c_seq (cset 6 nd (c_mks trT_ok K_System go_def (hr.mono (by first | decide | omega)) (by rfl) (c_acons (c_mkk trT_ok K_Kind go_def (hr.mono (by first | decide | omega)) (by rfl) (c_acons (cv 4) (c_acons (cv 5) c_anil)) (c_kcons (cv 2) c_knil)) c_anil) c_knil))
  (c_seq (cset 7 nd (c_lcG (own := [("_law_k", 8)]) (sl := [8]) finL_ok (by decide) rfl nd (ci_rng2 (by rfl) Wd.b_range c_int (c_callB call_len g_len (by rfl) Wd.b_len PySem.boot_len (c_acons (cv 0) c_anil))) (blkOk_by (own := [("_law_k", 8)]) (N := ["_law_script", "_law_pool_here", "_law_chunk", "_law_open_round", "_law_name", "_law_statements", "_law_system", "_law_answers", "_law_k", "_law_schedule", "_law_answer", "_law_taken", "_law_handed", "_law_record", "_law_commits", "_law_lost", "_law_height", "_law_out", "_law_number"]) (sc := defScope s_law) (by decide +kernel)) (fun _ _ _ _ _ => (cgn 8 nd)) (fun _ _ _ _ _ => c_tsnil) (fun _ _ _ _ _ => (c_fn tr0_ok G__law_draw goes_not (hr.mono (by first | decide | omega)) (by rfl) (c_acons (c_fn tr0_ok G__law_pool goes_not (hr.mono (by first | decide | omega)) (by rfl) (c_acons (cv 0) (c_acons (cv 8) c_anil))) (c_acons c_int c_anil))))))
  (c_seq (cset 9 nd (c_lst c_anil))
  (c_seq (c_for (sl := [10]) (passes_of rfl) rfl (ci_seq (cv 7)) (cgn 10 nd) (c_last (cset 9 nd (c_bin op_add4 g_add (cv 9) (c_lst (c_acons (c_tup (c_acons c_int (c_acons c_int c_anil))) (c_acons (c_tup (c_acons c_int (c_acons (cv 10) c_anil))) (c_acons (c_tup (c_acons c_int (c_acons c_int c_anil))) c_anil))))))))
  (c_seq (cset 11 nd (c_callB call_len g_len (by rfl) Wd.b_len PySem.boot_len (c_acons (cv 7) c_anil)))
  (c_seq (c_if (c_tru (cv 3)) (c_seq (cset 9 nd (c_bin op_add4 g_add (cv 9) (c_lst (c_acons (c_tup (c_acons c_int (c_acons c_int c_anil))) c_anil))))
  (c_last (cset 11 nd (c_bin op_add4 g_add (cv 11) c_int)))) c_nil)
  (c_seq (cset 12 nd (c_callTy call_list_of g_list (by rfl) Wd.b_list (by decide +kernel) (c_acons (cv 9) c_anil)))
  (c_seq (cset 13 nd (c_fn trT_ok G_run go_def (hr.mono (by first | decide | omega)) (by rfl) (c_acons (cv 6) (c_acons (cv 12) c_anil))))
  (c_seq (c_setlcG (i := 14) (own := [("_law_k", 8)]) (sl := [8]) finL_ok (by decide) rfl nd rfl rfl (sw_true rfl rfl rfl (by decide +kernel)) (ci_rng1 (by rfl) Wd.b_range (c_callB call_len g_len (by rfl) Wd.b_len PySem.boot_len (c_acons (cv 7) c_anil))) (blkOk_by (own := [("_law_k", 8)]) (N := ["_law_script", "_law_pool_here", "_law_chunk", "_law_open_round", "_law_name", "_law_statements", "_law_system", "_law_answers", "_law_k", "_law_schedule", "_law_answer", "_law_taken", "_law_handed", "_law_record", "_law_commits", "_law_lost", "_law_height", "_law_out", "_law_number"]) (sc := defScope s_law) (by decide +kernel)) (fun _ _ _ _ _ => (cgn 8 nd)) (fun _ _ _ _ _ => (c_tsone (c_tcmp (op_eq2 (hu64 hr)) g_eq (c_ix (cv 7) (cv 8)) c_int (nomark _)))) (fun _ _ _ _ _ => (c_tup (c_acons c_int (c_acons (c_tup (c_acons (cv 8) c_anil)) c_anil)))))
  (c_seq (c_setlcG (i := 15) (own := [("_law_k", 8)]) (sl := [8]) finL_ok (by decide) rfl nd rfl rfl (sw_true rfl rfl rfl (by decide +kernel)) (ci_rng1 (by rfl) Wd.b_range (c_callB call_len g_len (by rfl) Wd.b_len PySem.boot_len (c_acons (cv 7) c_anil))) (blkOk_by (own := [("_law_k", 8)]) (N := ["_law_script", "_law_pool_here", "_law_chunk", "_law_open_round", "_law_name", "_law_statements", "_law_system", "_law_answers", "_law_k", "_law_schedule", "_law_answer", "_law_taken", "_law_handed", "_law_record", "_law_commits", "_law_lost", "_law_height", "_law_out", "_law_number"]) (sc := defScope s_law) (by decide +kernel)) (fun _ _ _ _ _ => (cgn 8 nd)) (fun _ _ _ _ _ => (c_tsone (c_tcmp (op_eq2 (hu64 hr)) g_eq (c_ix (cv 7) (cv 8)) c_int (nomark _)))) (fun _ _ _ _ _ => (cv 8)))
  (c_seq (cset 16 nd (c_bin op_mul3 g_mul (c_bin op_fdiv g_div (c_bin op_sub g_sub (c_bin op_add4 g_add (cv 11) (cv 2)) c_int) (cv 2)) (cv 2)))
  (c_seq (cset 17 nd c_dnewK)
  (c_seq (c_for (sl := [18]) (passes_of rfl) rfl (ci_rng2 (by rfl) Wd.b_range (c_callB call_len g_len (by rfl) Wd.b_len PySem.boot_len (c_acons (cv 7) c_anil)) (cv 16)) (cgn 18 nd) (c_last (c_dput (hu1 hr) c_int (cv 17) (cv 18))))
  (c_seq (c_if (c_wt (c_wor (c_tcmp (op_ne2 (hu64 hr)) g_ne (c_fld (f := "commits") (hF2 Wd.f_Record_commits Wd.f_Moment_commits) (cv 13)) (cv 14) (nomark _)) (c_wor (c_tcmp (op_ne2 (hu64 hr)) g_ne (c_fld (f := "lost") (hF2 Wd.f_Record_lost Wd.f_Moment_lost) (cv 13)) (cv 15) (nomark _)) (c_wor (c_tcmp (op_ne_dictA (hu0 hr)) g_dne (c_fld (f := "out") (hF1 Wd.f_Record_out) (cv 13)) (cv 17) (nomark _)) (c_wor1 (c_tcmp (op_ne2 (hu64 hr)) g_ne (cv 12) (cv 9) (nomark _))))))) (c_last (c_ret c_bl)) c_nil)
  (c_seq (c_if (c_wt (c_wor (c_tcmp (op_ne2 (hu64 hr)) g_ne (c_fld (f := "height") (hF2 Wd.f_Record_height Wd.f_Moment_height) (cv 13)) (cv 16) (nomark _)) (c_wor (c_tcmp (op_ne2 (hu64 hr)) g_ne (c_fld (f := "noted") (hF1 Wd.f_Record_noted) (cv 13)) (cv 16) (nomark _)) (c_wor1 (c_tcmp (op_ne2 (hu64 hr)) g_ne (c_fld (f := "crashes") (hF3 Wd.f_Record_crashes Wd.f_Moment_crashes Wd.f_System_crashes) (cv 13)) c_int (nomark _)))))) (c_last (c_ret c_bl)) c_nil)
  (c_seq (c_if (c_tcmp (op_eq2 (hu64 hr)) g_eq (cv 11) c_int (nomark _)) (c_last (c_ret (c_cmp op_isN g_isN (c_fld (f := "spread") (hF2 Wd.f_Record_spread Wd.f_Moment_spread) (cv 13)) c_non (nomark _)))) c_nil)
  (c_last (c_ret (c_cmp (op_eq2 (hu64 hr)) g_eq (c_fld (f := "spread") (hF2 Wd.f_Record_spread Wd.f_Moment_spread) (cv 13)) (cv 2) (nomark _)))))))))))))))))))))))))
end Mm
set_option maxRecDepth 100000
namespace Mm
open PySem L2 StK PyProof.Rows
def gfs : Nat → List Str := fun k => (([["commits", "lost", "out", "height", "noted", "crashes", "spread"], ["statements", "found", "places"], ["found"], ["system", "height", "reserve", "crashes", "sessions", "commits", "lost", "spread", "done", "origin"], ["name", "script", "block", "many"], ["kinds", "ahead", "window", "crashes", "sessions"]] : List (List Str))[k]?).getD []
abbrev Gam (C_Record C_Script C_Check C_Moment C_Kind C_System : Addr) : Cls' := ⟨fun k => [C_Record, C_Script, C_Check, C_Moment, C_Kind, C_System][k]?, gfs⟩
theorem lookup_mem : ∀ {l : List (Str × Int)} {z : Str} {i : Int}, l.lookup z = some i → (z, i) ∈ l
  | [], z, i, h => by cases h
  | (a, b) :: l, z, i, h => by
    rw [List.lookup_cons] at h
    cases e : (z == a) with
    | true => rw [e] at h; cases h; rw [eq_of_beq e]; exact List.mem_cons_self ..
    | false => rw [e] at h; exact List.mem_cons_of_mem _ (lookup_mem h)
theorem kit_no {K : PySem.W.Frag} {C : Addr} {t : String} (iC : PySem.W.isClsIn K C = true) (tC : PySem.W.typeIn K (.ref C) = some (.type "type")) (u : PySem.W.subIn K (.type t) (.ref C) = some false) : PySem.W.kitOne K (.type t) (.ref C) = some false := by
  have e1 : (PySem.W.clsIn K C).isSome = true := iC
  show (if ((PySem.W.clsIn K C).isSome && PySem.W.typeIn K (.ref C) == some (.type "type")) = true then PySem.W.subIn K (.type t) (.ref C) else none) = some false
  rw [e1, tC, if_pos (show (true && some (Value.type "type") == some (Value.type "type")) = true from by rw [beq_self_eq_true]; rfl)]
  exact u
theorem kit_me {K : PySem.W.Frag} (C : Addr) : PySem.W.kitOne K (.ref C) (.ref C) = some true := by
  unfold PySem.W.kitOne
  rw [if_pos (beq_self_eq_true _)]
theorem gl_int {K : PySem.W.Frag} {Γ : Cls'} {mg : Str → Option Value} {x : Str} {i : Int} {t : Tok} (h : mg x = some (.int i t)) : GlD K Γ mg x (.int i) := ⟨_, .int i, h, ⟨_, rfl⟩, fun c H n => .i i⟩
theorem at_tupK {K : PySem.W.Frag} {Γ : Cls'} {a : Addr} {od : Option Addr} {its : Array Value} {n : Nat} {sl : Array (Option Value)} {vs : List V} {ds : List D} (l : K.lookup a = some ⟨.type "tuple", od, .seq its n, sl⟩) (hl : its.toList.length ≤ 1000) (hv : Vals vs its.toList) (ha : ∀ c H j, Ats ⟨K, Γ⟩ c H j ds vs) : ∀ c H j, At ⟨K, Γ⟩ c H j (.tup ds) (.ref a) := fun c H j => by
  unfold At
  exact ⟨a, vs, rfl, .inr ⟨_, its, n, l, rfl, rfl, Nat.le_trans (by simpa using hl) (by decide), hv⟩, ha c H j⟩

set_option maxHeartbeats 4000000 in
theorem all_mk {l : PySem.W.OpenLaw} {w : World} {K : PySem.W.Frag} {h : Heap} {mg : Str → Option Value} {fa C_Record C_Script C_Check C_Moment C_Kind C_System f_is_integer f_is_within f_is_name f_held_after f_has_form f_fault_of f_answers_of f_is_answer f_with_lock f_executed f_script_of f_count_of_sessions f_are_kinds f_fault_of_system f_next_statement f_needs_block f_must_wait f_reserve_after f_is_crash f_follow f_run f__law_pool f__law_draw f__law_names f_law f_Check___init__ f_Check_check_branch f_Check_check_statement f_Script___init__ f_Script___contains__ f_Script___getitem__ f_Script_behind f_Script_after TD_Script_after f_Kind___init__ f_System___init__ f_System___getitem__ f_System_kind_of f_Record___init__ f_Moment___init__ f_Moment_owners f_Moment_width f_Moment_recorded f_Moment_holds_up f_Moment_allows f_Moment_hand_out f_Moment_execute_statement f_Moment_execute KD_Kind KD_System GFRESH GFRESH_0 GFRESH_1 GFRESH_2 GFRESH_3 itITEMS : Addr} (X : K.In h) (G : h.Ns mainGlobals mg) (hfa : mg "law" = some (.ref fa))
    {tTScript_after_0 tkKind_block tkKind_many tkSystem_ahead tkSystem_crashes t_LONGEST_NAME t_MOST_AHEAD t_MOST_BLOCK t_MOST_CRASHES t_MOST_HELD t_MOST_NESTED t_MOST_SESSIONS t_MOST_STATEMENTS t_MOST_WINDOW tvGFRESH_0_0 ttITEMS_take ttITEMS_commit ttITEMS_rollback ttITEMS_drop ttITEMS_leave ttITEMS_lock ttITEMS_unlock ttITEMS_choose : Tok}
    {od_is_integer an_is_integer : Option Addr} {sl_is_integer : Array (Option Value)} {oc_is_integer kV_is_integer dc_is_integer pm_is_integer cd_is_integer ct_is_integer : Value}
    {od_is_within an_is_within : Option Addr} {sl_is_within : Array (Option Value)} {oc_is_within kV_is_within dc_is_within pm_is_within cd_is_within ct_is_within : Value}
    {od_is_name an_is_name : Option Addr} {sl_is_name : Array (Option Value)} {oc_is_name kV_is_name dc_is_name pm_is_name cd_is_name ct_is_name : Value}
    {od_held_after an_held_after : Option Addr} {sl_held_after : Array (Option Value)} {oc_held_after kV_held_after dc_held_after pm_held_after cd_held_after ct_held_after : Value}
    {od_has_form an_has_form : Option Addr} {sl_has_form : Array (Option Value)} {oc_has_form kV_has_form dc_has_form pm_has_form cd_has_form ct_has_form : Value}
    {od_fault_of an_fault_of : Option Addr} {sl_fault_of : Array (Option Value)} {oc_fault_of kV_fault_of dc_fault_of pm_fault_of cd_fault_of ct_fault_of : Value}
    {od_answers_of an_answers_of : Option Addr} {sl_answers_of : Array (Option Value)} {oc_answers_of kV_answers_of dc_answers_of pm_answers_of cd_answers_of ct_answers_of : Value}
    {od_is_answer an_is_answer : Option Addr} {sl_is_answer : Array (Option Value)} {oc_is_answer kV_is_answer dc_is_answer pm_is_answer cd_is_answer ct_is_answer : Value}
    {od_with_lock an_with_lock : Option Addr} {sl_with_lock : Array (Option Value)} {oc_with_lock kV_with_lock dc_with_lock pm_with_lock cd_with_lock ct_with_lock : Value}
    {od_executed an_executed : Option Addr} {sl_executed : Array (Option Value)} {oc_executed kV_executed dc_executed pm_executed cd_executed ct_executed : Value}
    {od_script_of an_script_of : Option Addr} {sl_script_of : Array (Option Value)} {oc_script_of kV_script_of dc_script_of pm_script_of cd_script_of ct_script_of : Value}
    {od_count_of_sessions an_count_of_sessions : Option Addr} {sl_count_of_sessions : Array (Option Value)} {oc_count_of_sessions kV_count_of_sessions dc_count_of_sessions pm_count_of_sessions cd_count_of_sessions ct_count_of_sessions : Value}
    {od_are_kinds an_are_kinds : Option Addr} {sl_are_kinds : Array (Option Value)} {oc_are_kinds kV_are_kinds dc_are_kinds pm_are_kinds cd_are_kinds ct_are_kinds : Value}
    {od_fault_of_system an_fault_of_system : Option Addr} {sl_fault_of_system : Array (Option Value)} {oc_fault_of_system kV_fault_of_system dc_fault_of_system pm_fault_of_system cd_fault_of_system ct_fault_of_system : Value}
    {od_next_statement an_next_statement : Option Addr} {sl_next_statement : Array (Option Value)} {oc_next_statement kV_next_statement dc_next_statement pm_next_statement cd_next_statement ct_next_statement : Value}
    {od_needs_block an_needs_block : Option Addr} {sl_needs_block : Array (Option Value)} {oc_needs_block kV_needs_block dc_needs_block pm_needs_block cd_needs_block ct_needs_block : Value}
    {od_must_wait an_must_wait : Option Addr} {sl_must_wait : Array (Option Value)} {oc_must_wait kV_must_wait dc_must_wait pm_must_wait cd_must_wait ct_must_wait : Value}
    {od_reserve_after an_reserve_after : Option Addr} {sl_reserve_after : Array (Option Value)} {oc_reserve_after kV_reserve_after dc_reserve_after pm_reserve_after cd_reserve_after ct_reserve_after : Value}
    {od_is_crash an_is_crash : Option Addr} {sl_is_crash : Array (Option Value)} {oc_is_crash kV_is_crash dc_is_crash pm_is_crash cd_is_crash ct_is_crash : Value}
    {od_follow an_follow : Option Addr} {sl_follow : Array (Option Value)} {oc_follow kV_follow dc_follow pm_follow cd_follow ct_follow : Value}
    {od_run an_run : Option Addr} {sl_run : Array (Option Value)} {oc_run kV_run dc_run pm_run cd_run ct_run : Value}
    {od__law_pool an__law_pool : Option Addr} {sl__law_pool : Array (Option Value)} {oc__law_pool kV__law_pool dc__law_pool pm__law_pool cd__law_pool ct__law_pool : Value}
    {od__law_draw an__law_draw : Option Addr} {sl__law_draw : Array (Option Value)} {oc__law_draw kV__law_draw dc__law_draw pm__law_draw cd__law_draw ct__law_draw : Value}
    {od__law_names an__law_names : Option Addr} {sl__law_names : Array (Option Value)} {oc__law_names kV__law_names dc__law_names pm__law_names cd__law_names ct__law_names : Value}
    {od_law an_law : Option Addr} {sl_law : Array (Option Value)} {oc_law kV_law dc_law pm_law cd_law ct_law : Value}
    {od_Check___init__ an_Check___init__ : Option Addr} {sl_Check___init__ : Array (Option Value)} {oc_Check___init__ kV_Check___init__ dc_Check___init__ pm_Check___init__ cd_Check___init__ ct_Check___init__ : Value}
    {od_Check_check_branch an_Check_check_branch : Option Addr} {sl_Check_check_branch : Array (Option Value)} {oc_Check_check_branch kV_Check_check_branch dc_Check_check_branch pm_Check_check_branch cd_Check_check_branch ct_Check_check_branch : Value}
    {od_Check_check_statement an_Check_check_statement : Option Addr} {sl_Check_check_statement : Array (Option Value)} {oc_Check_check_statement kV_Check_check_statement dc_Check_check_statement pm_Check_check_statement cd_Check_check_statement ct_Check_check_statement : Value}
    {od_Script___init__ an_Script___init__ : Option Addr} {sl_Script___init__ : Array (Option Value)} {oc_Script___init__ kV_Script___init__ dc_Script___init__ pm_Script___init__ cd_Script___init__ ct_Script___init__ : Value}
    {od_Script___contains__ an_Script___contains__ : Option Addr} {sl_Script___contains__ : Array (Option Value)} {oc_Script___contains__ kV_Script___contains__ dc_Script___contains__ pm_Script___contains__ cd_Script___contains__ ct_Script___contains__ : Value}
    {od_Script___getitem__ an_Script___getitem__ : Option Addr} {sl_Script___getitem__ : Array (Option Value)} {oc_Script___getitem__ kV_Script___getitem__ dc_Script___getitem__ pm_Script___getitem__ cd_Script___getitem__ ct_Script___getitem__ : Value}
    {od_Script_behind an_Script_behind : Option Addr} {sl_Script_behind : Array (Option Value)} {oc_Script_behind kV_Script_behind dc_Script_behind pm_Script_behind cd_Script_behind ct_Script_behind : Value}
    {od_Script_after an_Script_after : Option Addr} {sl_Script_after : Array (Option Value)} {oc_Script_after kV_Script_after dc_Script_after pm_Script_after cd_Script_after ct_Script_after : Value}
    {cTScript_after : Value} {dTScript_after : Option Addr} {nTScript_after : Nat} {slTScript_after : Array (Option Value)}
    {od_Kind___init__ an_Kind___init__ : Option Addr} {sl_Kind___init__ : Array (Option Value)} {oc_Kind___init__ dc_Kind___init__ pm_Kind___init__ cd_Kind___init__ ct_Kind___init__ : Value}
    {od_System___init__ an_System___init__ : Option Addr} {sl_System___init__ : Array (Option Value)} {oc_System___init__ dc_System___init__ pm_System___init__ cd_System___init__ ct_System___init__ : Value}
    {od_System___getitem__ an_System___getitem__ : Option Addr} {sl_System___getitem__ : Array (Option Value)} {oc_System___getitem__ kV_System___getitem__ dc_System___getitem__ pm_System___getitem__ cd_System___getitem__ ct_System___getitem__ : Value}
    {od_System_kind_of an_System_kind_of : Option Addr} {sl_System_kind_of : Array (Option Value)} {oc_System_kind_of kV_System_kind_of dc_System_kind_of pm_System_kind_of cd_System_kind_of ct_System_kind_of : Value}
    {od_Record___init__ an_Record___init__ : Option Addr} {sl_Record___init__ : Array (Option Value)} {oc_Record___init__ kV_Record___init__ dc_Record___init__ pm_Record___init__ cd_Record___init__ ct_Record___init__ : Value}
    {od_Moment___init__ an_Moment___init__ : Option Addr} {sl_Moment___init__ : Array (Option Value)} {oc_Moment___init__ kV_Moment___init__ dc_Moment___init__ pm_Moment___init__ cd_Moment___init__ ct_Moment___init__ : Value}
    {od_Moment_owners an_Moment_owners : Option Addr} {sl_Moment_owners : Array (Option Value)} {oc_Moment_owners kV_Moment_owners dc_Moment_owners pm_Moment_owners cd_Moment_owners ct_Moment_owners : Value}
    {od_Moment_width an_Moment_width : Option Addr} {sl_Moment_width : Array (Option Value)} {oc_Moment_width kV_Moment_width dc_Moment_width pm_Moment_width cd_Moment_width ct_Moment_width : Value}
    {od_Moment_recorded an_Moment_recorded : Option Addr} {sl_Moment_recorded : Array (Option Value)} {oc_Moment_recorded kV_Moment_recorded dc_Moment_recorded pm_Moment_recorded cd_Moment_recorded ct_Moment_recorded : Value}
    {od_Moment_holds_up an_Moment_holds_up : Option Addr} {sl_Moment_holds_up : Array (Option Value)} {oc_Moment_holds_up kV_Moment_holds_up dc_Moment_holds_up pm_Moment_holds_up cd_Moment_holds_up ct_Moment_holds_up : Value}
    {od_Moment_allows an_Moment_allows : Option Addr} {sl_Moment_allows : Array (Option Value)} {oc_Moment_allows kV_Moment_allows dc_Moment_allows pm_Moment_allows cd_Moment_allows ct_Moment_allows : Value}
    {od_Moment_hand_out an_Moment_hand_out : Option Addr} {sl_Moment_hand_out : Array (Option Value)} {oc_Moment_hand_out kV_Moment_hand_out dc_Moment_hand_out pm_Moment_hand_out cd_Moment_hand_out ct_Moment_hand_out : Value}
    {od_Moment_execute_statement an_Moment_execute_statement : Option Addr} {sl_Moment_execute_statement : Array (Option Value)} {oc_Moment_execute_statement kV_Moment_execute_statement dc_Moment_execute_statement pm_Moment_execute_statement cd_Moment_execute_statement ct_Moment_execute_statement : Value}
    {od_Moment_execute an_Moment_execute : Option Addr} {sl_Moment_execute : Array (Option Value)} {oc_Moment_execute kV_Moment_execute dc_Moment_execute pm_Moment_execute cd_Moment_execute ct_Moment_execute : Value}
    {ocGFRESH : Option Addr} {itGFRESH : Array Value} {nnGFRESH : Nat} {slGFRESH : Array (Option Value)}
    {ocGFRESH_0 : Option Addr} {itGFRESH_0 : Array Value} {nnGFRESH_0 : Nat} {slGFRESH_0 : Array (Option Value)}
    {ocGFRESH_1 : Option Addr} {itGFRESH_1 : Array Value} {nnGFRESH_1 : Nat} {slGFRESH_1 : Array (Option Value)}
    {ocGFRESH_2 : Option Addr} {itGFRESH_2 : Array Value} {nnGFRESH_2 : Nat} {slGFRESH_2 : Array (Option Value)}
    {ocGFRESH_3 : Option Addr} {itGFRESH_3 : Array Value} {nnGFRESH_3 : Nat} {slGFRESH_3 : Array (Option Value)}
    {esITEMS : Array DictEntry} {nnITEMS : Nat}
    (aRecord : PySem.W.nsIn K mainGlobals "Record" = some (some (.ref C_Record)))
    (pgRecord : PySem.W.plainGet K C_Record Str.empty = true)
    (hdRecord : PySem.W.hasDictIn K C_Record = true)
    (poRecord : PySem.W.plainOver K C_Record = true)
    (saRecord : PySem.W.findIn K (.ref C_Record) "__setattr__" = some (some (.builtin "object.__setattr__")))
    (mkRecord : PySem.W.makesIn K C_Record = true)
    (kcRecord : PySem.W.keepIn K (.ref C_Record) = true)
    (nRecord_commits : PySem.W.findIn K (.ref C_Record) "commits" = some none)
    (nRecord_crashes : PySem.W.findIn K (.ref C_Record) "crashes" = some none)
    (nRecord_height : PySem.W.findIn K (.ref C_Record) "height" = some none)
    (nRecord_lost : PySem.W.findIn K (.ref C_Record) "lost" = some none)
    (nRecord_noted : PySem.W.findIn K (.ref C_Record) "noted" = some none)
    (nRecord_out : PySem.W.findIn K (.ref C_Record) "out" = some none)
    (nRecord_spread : PySem.W.findIn K (.ref C_Record) "spread" = some none)
    (aScript : PySem.W.nsIn K mainGlobals "Script" = some (some (.ref C_Script)))
    (pgScript : PySem.W.plainGet K C_Script Str.empty = true)
    (hdScript : PySem.W.hasDictIn K C_Script = true)
    (poScript : PySem.W.plainOver K C_Script = true)
    (saScript : PySem.W.findIn K (.ref C_Script) "__setattr__" = some (some (.builtin "object.__setattr__")))
    (mkScript : PySem.W.makesIn K C_Script = true)
    (kcScript : PySem.W.keepIn K (.ref C_Script) = true)
    (nScript_found : PySem.W.findIn K (.ref C_Script) "found" = some none)
    (nScript_places : PySem.W.findIn K (.ref C_Script) "places" = some none)
    (nScript_statements : PySem.W.findIn K (.ref C_Script) "statements" = some none)
    (aCheck : PySem.W.nsIn K mainGlobals "Check" = some (some (.ref C_Check)))
    (pgCheck : PySem.W.plainGet K C_Check Str.empty = true)
    (hdCheck : PySem.W.hasDictIn K C_Check = true)
    (poCheck : PySem.W.plainOver K C_Check = true)
    (saCheck : PySem.W.findIn K (.ref C_Check) "__setattr__" = some (some (.builtin "object.__setattr__")))
    (mkCheck : PySem.W.makesIn K C_Check = true)
    (kcCheck : PySem.W.keepIn K (.ref C_Check) = true)
    (nCheck_found : PySem.W.findIn K (.ref C_Check) "found" = some none)
    (aMoment : PySem.W.nsIn K mainGlobals "Moment" = some (some (.ref C_Moment)))
    (pgMoment : PySem.W.plainGet K C_Moment Str.empty = true)
    (hdMoment : PySem.W.hasDictIn K C_Moment = true)
    (poMoment : PySem.W.plainOver K C_Moment = true)
    (saMoment : PySem.W.findIn K (.ref C_Moment) "__setattr__" = some (some (.builtin "object.__setattr__")))
    (mkMoment : PySem.W.makesIn K C_Moment = true)
    (kcMoment : PySem.W.keepIn K (.ref C_Moment) = true)
    (nMoment_commits : PySem.W.findIn K (.ref C_Moment) "commits" = some none)
    (nMoment_crashes : PySem.W.findIn K (.ref C_Moment) "crashes" = some none)
    (nMoment_done : PySem.W.findIn K (.ref C_Moment) "done" = some none)
    (nMoment_height : PySem.W.findIn K (.ref C_Moment) "height" = some none)
    (nMoment_lost : PySem.W.findIn K (.ref C_Moment) "lost" = some none)
    (nMoment_origin : PySem.W.findIn K (.ref C_Moment) "origin" = some none)
    (nMoment_reserve : PySem.W.findIn K (.ref C_Moment) "reserve" = some none)
    (nMoment_sessions : PySem.W.findIn K (.ref C_Moment) "sessions" = some none)
    (nMoment_spread : PySem.W.findIn K (.ref C_Moment) "spread" = some none)
    (nMoment_system : PySem.W.findIn K (.ref C_Moment) "system" = some none)
    (aKind : PySem.W.nsIn K mainGlobals "Kind" = some (some (.ref C_Kind)))
    (pgKind : PySem.W.plainGet K C_Kind Str.empty = true)
    (hdKind : PySem.W.hasDictIn K C_Kind = true)
    (poKind : PySem.W.plainOver K C_Kind = true)
    (saKind : PySem.W.findIn K (.ref C_Kind) "__setattr__" = some (some (.builtin "object.__setattr__")))
    (mkKind : PySem.W.makesIn K C_Kind = true)
    (kcKind : PySem.W.keepIn K (.ref C_Kind) = true)
    (nKind_block : PySem.W.findIn K (.ref C_Kind) "block" = some none)
    (nKind_many : PySem.W.findIn K (.ref C_Kind) "many" = some none)
    (nKind_name : PySem.W.findIn K (.ref C_Kind) "name" = some none)
    (nKind_script : PySem.W.findIn K (.ref C_Kind) "script" = some none)
    (aSystem : PySem.W.nsIn K mainGlobals "System" = some (some (.ref C_System)))
    (pgSystem : PySem.W.plainGet K C_System Str.empty = true)
    (hdSystem : PySem.W.hasDictIn K C_System = true)
    (poSystem : PySem.W.plainOver K C_System = true)
    (saSystem : PySem.W.findIn K (.ref C_System) "__setattr__" = some (some (.builtin "object.__setattr__")))
    (mkSystem : PySem.W.makesIn K C_System = true)
    (kcSystem : PySem.W.keepIn K (.ref C_System) = true)
    (nSystem_ahead : PySem.W.findIn K (.ref C_System) "ahead" = some none)
    (nSystem_crashes : PySem.W.findIn K (.ref C_System) "crashes" = some none)
    (nSystem_kinds : PySem.W.findIn K (.ref C_System) "kinds" = some none)
    (nSystem_sessions : PySem.W.findIn K (.ref C_System) "sessions" = some none)
    (nSystem_window : PySem.W.findIn K (.ref C_System) "window" = some none)
    (cn : PySem.W.specialIn K (.builtin "object.__class__") "__get__" = some (some (.builtin "getset_descriptor.__get__")))
    (ct : PySem.W.takesIn K (.builtin "object.__class__") = some true)
    (caScript : PySem.W.findIn K (.ref C_Script) "__class__" = some (some (.builtin "object.__class__")))
    (obScript : PySem.W.mroIn K C_Script (.type "object") = some true)
    (icScript : PySem.W.isClsIn K C_Script = true)
    (tcScript : PySem.W.typeIn K (.ref C_Script) = some (.type "type"))
    (uScript_tuple : PySem.W.subIn K (.type "tuple") (.ref C_Script) = some false)
    (caKind : PySem.W.findIn K (.ref C_Kind) "__class__" = some (some (.builtin "object.__class__")))
    (obKind : PySem.W.mroIn K C_Kind (.type "object") = some true)
    (icKind : PySem.W.isClsIn K C_Kind = true)
    (tcKind : PySem.W.typeIn K (.ref C_Kind) = some (.type "type"))
    (a_is_integer : PySem.W.nsIn K mainGlobals "is_integer" = some (some (.ref f_is_integer)))
    (l_is_integer : K.lookup f_is_integer = some ⟨oc_is_integer, od_is_integer, .func (PySem.W.fnOf "is_integer" "is_integer" (defArgs s_is_integer) (defBody s_is_integer) (defScope s_is_integer) .none kV_is_integer dc_is_integer pm_is_integer an_is_integer cd_is_integer ct_is_integer), sl_is_integer⟩)
    (c_is_integer : PySem.W.codeIn K cd_is_integer "is_integer" = true)
    (k_is_integer : PySem.W.keepIn K (.ref f_is_integer) = true)
    (a_is_within : PySem.W.nsIn K mainGlobals "is_within" = some (some (.ref f_is_within)))
    (l_is_within : K.lookup f_is_within = some ⟨oc_is_within, od_is_within, .func (PySem.W.fnOf "is_within" "is_within" (defArgs s_is_within) (defBody s_is_within) (defScope s_is_within) .none kV_is_within dc_is_within pm_is_within an_is_within cd_is_within ct_is_within), sl_is_within⟩)
    (c_is_within : PySem.W.codeIn K cd_is_within "is_within" = true)
    (k_is_within : PySem.W.keepIn K (.ref f_is_within) = true)
    (a_is_name : PySem.W.nsIn K mainGlobals "is_name" = some (some (.ref f_is_name)))
    (l_is_name : K.lookup f_is_name = some ⟨oc_is_name, od_is_name, .func (PySem.W.fnOf "is_name" "is_name" (defArgs s_is_name) (defBody s_is_name) (defScope s_is_name) .none kV_is_name dc_is_name pm_is_name an_is_name cd_is_name ct_is_name), sl_is_name⟩)
    (c_is_name : PySem.W.codeIn K cd_is_name "is_name" = true)
    (k_is_name : PySem.W.keepIn K (.ref f_is_name) = true)
    (a_held_after : PySem.W.nsIn K mainGlobals "held_after" = some (some (.ref f_held_after)))
    (l_held_after : K.lookup f_held_after = some ⟨oc_held_after, od_held_after, .func (PySem.W.fnOf "held_after" "held_after" (defArgs s_held_after) (defBody s_held_after) (defScope s_held_after) .none kV_held_after dc_held_after pm_held_after an_held_after cd_held_after ct_held_after), sl_held_after⟩)
    (c_held_after : PySem.W.codeIn K cd_held_after "held_after" = true)
    (k_held_after : PySem.W.keepIn K (.ref f_held_after) = true)
    (a_has_form : PySem.W.nsIn K mainGlobals "has_form" = some (some (.ref f_has_form)))
    (l_has_form : K.lookup f_has_form = some ⟨oc_has_form, od_has_form, .func (PySem.W.fnOf "has_form" "has_form" (defArgs s_has_form) (defBody s_has_form) (defScope s_has_form) .none kV_has_form dc_has_form pm_has_form an_has_form cd_has_form ct_has_form), sl_has_form⟩)
    (c_has_form : PySem.W.codeIn K cd_has_form "has_form" = true)
    (k_has_form : PySem.W.keepIn K (.ref f_has_form) = true)
    (a_fault_of : PySem.W.nsIn K mainGlobals "fault_of" = some (some (.ref f_fault_of)))
    (l_fault_of : K.lookup f_fault_of = some ⟨oc_fault_of, od_fault_of, .func (PySem.W.fnOf "fault_of" "fault_of" (defArgs s_fault_of) (defBody s_fault_of) (defScope s_fault_of) .none kV_fault_of dc_fault_of pm_fault_of an_fault_of cd_fault_of ct_fault_of), sl_fault_of⟩)
    (c_fault_of : PySem.W.codeIn K cd_fault_of "fault_of" = true)
    (k_fault_of : PySem.W.keepIn K (.ref f_fault_of) = true)
    (a_answers_of : PySem.W.nsIn K mainGlobals "answers_of" = some (some (.ref f_answers_of)))
    (l_answers_of : K.lookup f_answers_of = some ⟨oc_answers_of, od_answers_of, .func (PySem.W.fnOf "answers_of" "answers_of" (defArgs s_answers_of) (defBody s_answers_of) (defScope s_answers_of) .none kV_answers_of dc_answers_of pm_answers_of an_answers_of cd_answers_of ct_answers_of), sl_answers_of⟩)
    (c_answers_of : PySem.W.codeIn K cd_answers_of "answers_of" = true)
    (k_answers_of : PySem.W.keepIn K (.ref f_answers_of) = true)
    (a_is_answer : PySem.W.nsIn K mainGlobals "is_answer" = some (some (.ref f_is_answer)))
    (l_is_answer : K.lookup f_is_answer = some ⟨oc_is_answer, od_is_answer, .func (PySem.W.fnOf "is_answer" "is_answer" (defArgs s_is_answer) (defBody s_is_answer) (defScope s_is_answer) .none kV_is_answer dc_is_answer pm_is_answer an_is_answer cd_is_answer ct_is_answer), sl_is_answer⟩)
    (c_is_answer : PySem.W.codeIn K cd_is_answer "is_answer" = true)
    (k_is_answer : PySem.W.keepIn K (.ref f_is_answer) = true)
    (a_with_lock : PySem.W.nsIn K mainGlobals "with_lock" = some (some (.ref f_with_lock)))
    (l_with_lock : K.lookup f_with_lock = some ⟨oc_with_lock, od_with_lock, .func (PySem.W.fnOf "with_lock" "with_lock" (defArgs s_with_lock) (defBody s_with_lock) (defScope s_with_lock) .none kV_with_lock dc_with_lock pm_with_lock an_with_lock cd_with_lock ct_with_lock), sl_with_lock⟩)
    (c_with_lock : PySem.W.codeIn K cd_with_lock "with_lock" = true)
    (k_with_lock : PySem.W.keepIn K (.ref f_with_lock) = true)
    (a_executed : PySem.W.nsIn K mainGlobals "executed" = some (some (.ref f_executed)))
    (l_executed : K.lookup f_executed = some ⟨oc_executed, od_executed, .func (PySem.W.fnOf "executed" "executed" (defArgs s_executed) (defBody s_executed) (defScope s_executed) .none kV_executed dc_executed pm_executed an_executed cd_executed ct_executed), sl_executed⟩)
    (c_executed : PySem.W.codeIn K cd_executed "executed" = true)
    (k_executed : PySem.W.keepIn K (.ref f_executed) = true)
    (a_script_of : PySem.W.nsIn K mainGlobals "script_of" = some (some (.ref f_script_of)))
    (l_script_of : K.lookup f_script_of = some ⟨oc_script_of, od_script_of, .func (PySem.W.fnOf "script_of" "script_of" (defArgs s_script_of) (defBody s_script_of) (defScope s_script_of) .none kV_script_of dc_script_of pm_script_of an_script_of cd_script_of ct_script_of), sl_script_of⟩)
    (c_script_of : PySem.W.codeIn K cd_script_of "script_of" = true)
    (k_script_of : PySem.W.keepIn K (.ref f_script_of) = true)
    (a_count_of_sessions : PySem.W.nsIn K mainGlobals "count_of_sessions" = some (some (.ref f_count_of_sessions)))
    (l_count_of_sessions : K.lookup f_count_of_sessions = some ⟨oc_count_of_sessions, od_count_of_sessions, .func (PySem.W.fnOf "count_of_sessions" "count_of_sessions" (defArgs s_count_of_sessions) (defBody s_count_of_sessions) (defScope s_count_of_sessions) .none kV_count_of_sessions dc_count_of_sessions pm_count_of_sessions an_count_of_sessions cd_count_of_sessions ct_count_of_sessions), sl_count_of_sessions⟩)
    (c_count_of_sessions : PySem.W.codeIn K cd_count_of_sessions "count_of_sessions" = true)
    (k_count_of_sessions : PySem.W.keepIn K (.ref f_count_of_sessions) = true)
    (a_are_kinds : PySem.W.nsIn K mainGlobals "are_kinds" = some (some (.ref f_are_kinds)))
    (l_are_kinds : K.lookup f_are_kinds = some ⟨oc_are_kinds, od_are_kinds, .func (PySem.W.fnOf "are_kinds" "are_kinds" (defArgs s_are_kinds) (defBody s_are_kinds) (defScope s_are_kinds) .none kV_are_kinds dc_are_kinds pm_are_kinds an_are_kinds cd_are_kinds ct_are_kinds), sl_are_kinds⟩)
    (c_are_kinds : PySem.W.codeIn K cd_are_kinds "are_kinds" = true)
    (k_are_kinds : PySem.W.keepIn K (.ref f_are_kinds) = true)
    (a_fault_of_system : PySem.W.nsIn K mainGlobals "fault_of_system" = some (some (.ref f_fault_of_system)))
    (l_fault_of_system : K.lookup f_fault_of_system = some ⟨oc_fault_of_system, od_fault_of_system, .func (PySem.W.fnOf "fault_of_system" "fault_of_system" (defArgs s_fault_of_system) (defBody s_fault_of_system) (defScope s_fault_of_system) .none kV_fault_of_system dc_fault_of_system pm_fault_of_system an_fault_of_system cd_fault_of_system ct_fault_of_system), sl_fault_of_system⟩)
    (c_fault_of_system : PySem.W.codeIn K cd_fault_of_system "fault_of_system" = true)
    (k_fault_of_system : PySem.W.keepIn K (.ref f_fault_of_system) = true)
    (a_next_statement : PySem.W.nsIn K mainGlobals "next_statement" = some (some (.ref f_next_statement)))
    (l_next_statement : K.lookup f_next_statement = some ⟨oc_next_statement, od_next_statement, .func (PySem.W.fnOf "next_statement" "next_statement" (defArgs s_next_statement) (defBody s_next_statement) (defScope s_next_statement) .none kV_next_statement dc_next_statement pm_next_statement an_next_statement cd_next_statement ct_next_statement), sl_next_statement⟩)
    (c_next_statement : PySem.W.codeIn K cd_next_statement "next_statement" = true)
    (k_next_statement : PySem.W.keepIn K (.ref f_next_statement) = true)
    (a_needs_block : PySem.W.nsIn K mainGlobals "needs_block" = some (some (.ref f_needs_block)))
    (l_needs_block : K.lookup f_needs_block = some ⟨oc_needs_block, od_needs_block, .func (PySem.W.fnOf "needs_block" "needs_block" (defArgs s_needs_block) (defBody s_needs_block) (defScope s_needs_block) .none kV_needs_block dc_needs_block pm_needs_block an_needs_block cd_needs_block ct_needs_block), sl_needs_block⟩)
    (c_needs_block : PySem.W.codeIn K cd_needs_block "needs_block" = true)
    (k_needs_block : PySem.W.keepIn K (.ref f_needs_block) = true)
    (a_must_wait : PySem.W.nsIn K mainGlobals "must_wait" = some (some (.ref f_must_wait)))
    (l_must_wait : K.lookup f_must_wait = some ⟨oc_must_wait, od_must_wait, .func (PySem.W.fnOf "must_wait" "must_wait" (defArgs s_must_wait) (defBody s_must_wait) (defScope s_must_wait) .none kV_must_wait dc_must_wait pm_must_wait an_must_wait cd_must_wait ct_must_wait), sl_must_wait⟩)
    (c_must_wait : PySem.W.codeIn K cd_must_wait "must_wait" = true)
    (k_must_wait : PySem.W.keepIn K (.ref f_must_wait) = true)
    (a_reserve_after : PySem.W.nsIn K mainGlobals "reserve_after" = some (some (.ref f_reserve_after)))
    (l_reserve_after : K.lookup f_reserve_after = some ⟨oc_reserve_after, od_reserve_after, .func (PySem.W.fnOf "reserve_after" "reserve_after" (defArgs s_reserve_after) (defBody s_reserve_after) (defScope s_reserve_after) .none kV_reserve_after dc_reserve_after pm_reserve_after an_reserve_after cd_reserve_after ct_reserve_after), sl_reserve_after⟩)
    (c_reserve_after : PySem.W.codeIn K cd_reserve_after "reserve_after" = true)
    (k_reserve_after : PySem.W.keepIn K (.ref f_reserve_after) = true)
    (a_is_crash : PySem.W.nsIn K mainGlobals "is_crash" = some (some (.ref f_is_crash)))
    (l_is_crash : K.lookup f_is_crash = some ⟨oc_is_crash, od_is_crash, .func (PySem.W.fnOf "is_crash" "is_crash" (defArgs s_is_crash) (defBody s_is_crash) (defScope s_is_crash) .none kV_is_crash dc_is_crash pm_is_crash an_is_crash cd_is_crash ct_is_crash), sl_is_crash⟩)
    (c_is_crash : PySem.W.codeIn K cd_is_crash "is_crash" = true)
    (k_is_crash : PySem.W.keepIn K (.ref f_is_crash) = true)
    (a_follow : PySem.W.nsIn K mainGlobals "follow" = some (some (.ref f_follow)))
    (l_follow : K.lookup f_follow = some ⟨oc_follow, od_follow, .func (PySem.W.fnOf "follow" "follow" (defArgs s_follow) (defBody s_follow) (defScope s_follow) .none kV_follow dc_follow pm_follow an_follow cd_follow ct_follow), sl_follow⟩)
    (c_follow : PySem.W.codeIn K cd_follow "follow" = true)
    (k_follow : PySem.W.keepIn K (.ref f_follow) = true)
    (a_run : PySem.W.nsIn K mainGlobals "run" = some (some (.ref f_run)))
    (l_run : K.lookup f_run = some ⟨oc_run, od_run, .func (PySem.W.fnOf "run" "run" (defArgs s_run) (defBody s_run) (defScope s_run) .none kV_run dc_run pm_run an_run cd_run ct_run), sl_run⟩)
    (c_run : PySem.W.codeIn K cd_run "run" = true)
    (k_run : PySem.W.keepIn K (.ref f_run) = true)
    (a__law_pool : PySem.W.nsIn K mainGlobals "_law_pool" = some (some (.ref f__law_pool)))
    (l__law_pool : K.lookup f__law_pool = some ⟨oc__law_pool, od__law_pool, .func (PySem.W.fnOf "_law_pool" "_law_pool" (defArgs s__law_pool) (defBody s__law_pool) (defScope s__law_pool) .none kV__law_pool dc__law_pool pm__law_pool an__law_pool cd__law_pool ct__law_pool), sl__law_pool⟩)
    (c__law_pool : PySem.W.codeIn K cd__law_pool "_law_pool" = true)
    (k__law_pool : PySem.W.keepIn K (.ref f__law_pool) = true)
    (a__law_draw : PySem.W.nsIn K mainGlobals "_law_draw" = some (some (.ref f__law_draw)))
    (l__law_draw : K.lookup f__law_draw = some ⟨oc__law_draw, od__law_draw, .func (PySem.W.fnOf "_law_draw" "_law_draw" (defArgs s__law_draw) (defBody s__law_draw) (defScope s__law_draw) .none kV__law_draw dc__law_draw pm__law_draw an__law_draw cd__law_draw ct__law_draw), sl__law_draw⟩)
    (c__law_draw : PySem.W.codeIn K cd__law_draw "_law_draw" = true)
    (k__law_draw : PySem.W.keepIn K (.ref f__law_draw) = true)
    (a__law_names : PySem.W.nsIn K mainGlobals "_law_names" = some (some (.ref f__law_names)))
    (l__law_names : K.lookup f__law_names = some ⟨oc__law_names, od__law_names, .func (PySem.W.fnOf "_law_names" "_law_names" (defArgs s__law_names) (defBody s__law_names) (defScope s__law_names) .none kV__law_names dc__law_names pm__law_names an__law_names cd__law_names ct__law_names), sl__law_names⟩)
    (c__law_names : PySem.W.codeIn K cd__law_names "_law_names" = true)
    (k__law_names : PySem.W.keepIn K (.ref f__law_names) = true)
    (a_law : PySem.W.nsIn K mainGlobals "law" = some (some (.ref f_law)))
    (l_law : K.lookup f_law = some ⟨oc_law, od_law, .func (PySem.W.fnOf "law" "law" (defArgs s_law) (defBody s_law) (defScope s_law) .none kV_law dc_law pm_law an_law cd_law ct_law), sl_law⟩)
    (c_law : PySem.W.codeIn K cd_law "law" = true)
    (k_law : PySem.W.keepIn K (.ref f_law) = true)
    (a_Check___init__ : PySem.W.findIn K (.ref C_Check) "__init__" = some (some (.ref f_Check___init__)))
    (i_Check___init__ : PySem.W.isFn K (.ref f_Check___init__) = true)
    (l_Check___init__ : K.lookup f_Check___init__ = some ⟨oc_Check___init__, od_Check___init__, .func (PySem.W.fnOf "__init__" "Check.__init__" (defArgs s_Check___init__) (defBody s_Check___init__) (defScope s_Check___init__) .none kV_Check___init__ dc_Check___init__ pm_Check___init__ an_Check___init__ cd_Check___init__ ct_Check___init__), sl_Check___init__⟩)
    (c_Check___init__ : PySem.W.codeIn K cd_Check___init__ "Check.__init__" = true)
    (k_Check___init__ : PySem.W.keepIn K (.ref f_Check___init__) = true)
    (a_Check_check_branch : PySem.W.findIn K (.ref C_Check) "check_branch" = some (some (.ref f_Check_check_branch)))
    (i_Check_check_branch : PySem.W.isFn K (.ref f_Check_check_branch) = true)
    (l_Check_check_branch : K.lookup f_Check_check_branch = some ⟨oc_Check_check_branch, od_Check_check_branch, .func (PySem.W.fnOf "check_branch" "Check.check_branch" (defArgs s_Check_check_branch) (defBody s_Check_check_branch) (defScope s_Check_check_branch) .none kV_Check_check_branch dc_Check_check_branch pm_Check_check_branch an_Check_check_branch cd_Check_check_branch ct_Check_check_branch), sl_Check_check_branch⟩)
    (c_Check_check_branch : PySem.W.codeIn K cd_Check_check_branch "Check.check_branch" = true)
    (k_Check_check_branch : PySem.W.keepIn K (.ref f_Check_check_branch) = true)
    (a_Check_check_statement : PySem.W.findIn K (.ref C_Check) "check_statement" = some (some (.ref f_Check_check_statement)))
    (i_Check_check_statement : PySem.W.isFn K (.ref f_Check_check_statement) = true)
    (l_Check_check_statement : K.lookup f_Check_check_statement = some ⟨oc_Check_check_statement, od_Check_check_statement, .func (PySem.W.fnOf "check_statement" "Check.check_statement" (defArgs s_Check_check_statement) (defBody s_Check_check_statement) (defScope s_Check_check_statement) .none kV_Check_check_statement dc_Check_check_statement pm_Check_check_statement an_Check_check_statement cd_Check_check_statement ct_Check_check_statement), sl_Check_check_statement⟩)
    (c_Check_check_statement : PySem.W.codeIn K cd_Check_check_statement "Check.check_statement" = true)
    (k_Check_check_statement : PySem.W.keepIn K (.ref f_Check_check_statement) = true)
    (a_Script___init__ : PySem.W.findIn K (.ref C_Script) "__init__" = some (some (.ref f_Script___init__)))
    (i_Script___init__ : PySem.W.isFn K (.ref f_Script___init__) = true)
    (l_Script___init__ : K.lookup f_Script___init__ = some ⟨oc_Script___init__, od_Script___init__, .func (PySem.W.fnOf "__init__" "Script.__init__" (defArgs s_Script___init__) (defBody s_Script___init__) (defScope s_Script___init__) .none kV_Script___init__ dc_Script___init__ pm_Script___init__ an_Script___init__ cd_Script___init__ ct_Script___init__), sl_Script___init__⟩)
    (c_Script___init__ : PySem.W.codeIn K cd_Script___init__ "Script.__init__" = true)
    (k_Script___init__ : PySem.W.keepIn K (.ref f_Script___init__) = true)
    (a_Script___contains__ : PySem.W.findIn K (.ref C_Script) "__contains__" = some (some (.ref f_Script___contains__)))
    (i_Script___contains__ : PySem.W.isFn K (.ref f_Script___contains__) = true)
    (l_Script___contains__ : K.lookup f_Script___contains__ = some ⟨oc_Script___contains__, od_Script___contains__, .func (PySem.W.fnOf "__contains__" "Script.__contains__" (defArgs s_Script___contains__) (defBody s_Script___contains__) (defScope s_Script___contains__) .none kV_Script___contains__ dc_Script___contains__ pm_Script___contains__ an_Script___contains__ cd_Script___contains__ ct_Script___contains__), sl_Script___contains__⟩)
    (c_Script___contains__ : PySem.W.codeIn K cd_Script___contains__ "Script.__contains__" = true)
    (k_Script___contains__ : PySem.W.keepIn K (.ref f_Script___contains__) = true)
    (fg_Script___contains__ : PySem.W.fnIn K f_Script___contains__ = true)
    (a_Script___getitem__ : PySem.W.findIn K (.ref C_Script) "__getitem__" = some (some (.ref f_Script___getitem__)))
    (i_Script___getitem__ : PySem.W.isFn K (.ref f_Script___getitem__) = true)
    (l_Script___getitem__ : K.lookup f_Script___getitem__ = some ⟨oc_Script___getitem__, od_Script___getitem__, .func (PySem.W.fnOf "__getitem__" "Script.__getitem__" (defArgs s_Script___getitem__) (defBody s_Script___getitem__) (defScope s_Script___getitem__) .none kV_Script___getitem__ dc_Script___getitem__ pm_Script___getitem__ an_Script___getitem__ cd_Script___getitem__ ct_Script___getitem__), sl_Script___getitem__⟩)
    (c_Script___getitem__ : PySem.W.codeIn K cd_Script___getitem__ "Script.__getitem__" = true)
    (k_Script___getitem__ : PySem.W.keepIn K (.ref f_Script___getitem__) = true)
    (fg_Script___getitem__ : PySem.W.fnIn K f_Script___getitem__ = true)
    (a_Script_behind : PySem.W.findIn K (.ref C_Script) "behind" = some (some (.ref f_Script_behind)))
    (i_Script_behind : PySem.W.isFn K (.ref f_Script_behind) = true)
    (l_Script_behind : K.lookup f_Script_behind = some ⟨oc_Script_behind, od_Script_behind, .func (PySem.W.fnOf "behind" "Script.behind" (defArgs s_Script_behind) (defBody s_Script_behind) (defScope s_Script_behind) .none kV_Script_behind dc_Script_behind pm_Script_behind an_Script_behind cd_Script_behind ct_Script_behind), sl_Script_behind⟩)
    (c_Script_behind : PySem.W.codeIn K cd_Script_behind "Script.behind" = true)
    (k_Script_behind : PySem.W.keepIn K (.ref f_Script_behind) = true)
    (a_Script_after : PySem.W.findIn K (.ref C_Script) "after" = some (some (.ref f_Script_after)))
    (i_Script_after : PySem.W.isFn K (.ref f_Script_after) = true)
    (l_Script_after : K.lookup f_Script_after = some ⟨oc_Script_after, od_Script_after, .func (PySem.W.fnOf "after" "Script.after" (defArgs s_Script_after) (defBody s_Script_after) (defScope s_Script_after) (.ref TD_Script_after) kV_Script_after dc_Script_after pm_Script_after an_Script_after cd_Script_after ct_Script_after), sl_Script_after⟩)
    (c_Script_after : PySem.W.codeIn K cd_Script_after "Script.after" = true)
    (k_Script_after : PySem.W.keepIn K (.ref f_Script_after) = true)
    (lT_Script_after : K.lookup TD_Script_after = some ⟨cTScript_after, dTScript_after, .seq [.int 0 tTScript_after_0].toArray nTScript_after, slTScript_after⟩)
    (a_Kind___init__ : PySem.W.findIn K (.ref C_Kind) "__init__" = some (some (.ref f_Kind___init__)))
    (i_Kind___init__ : PySem.W.isFn K (.ref f_Kind___init__) = true)
    (l_Kind___init__ : K.lookup f_Kind___init__ = some ⟨oc_Kind___init__, od_Kind___init__, .func (PySem.W.fnOf "__init__" "Kind.__init__" (defArgs s_Kind___init__) (defBody s_Kind___init__) (defScope s_Kind___init__) .none (.ref KD_Kind) dc_Kind___init__ pm_Kind___init__ an_Kind___init__ cd_Kind___init__ ct_Kind___init__), sl_Kind___init__⟩)
    (c_Kind___init__ : PySem.W.codeIn K cd_Kind___init__ "Kind.__init__" = true)
    (k_Kind___init__ : PySem.W.keepIn K (.ref f_Kind___init__) = true)
    (a_System___init__ : PySem.W.findIn K (.ref C_System) "__init__" = some (some (.ref f_System___init__)))
    (i_System___init__ : PySem.W.isFn K (.ref f_System___init__) = true)
    (l_System___init__ : K.lookup f_System___init__ = some ⟨oc_System___init__, od_System___init__, .func (PySem.W.fnOf "__init__" "System.__init__" (defArgs s_System___init__) (defBody s_System___init__) (defScope s_System___init__) .none (.ref KD_System) dc_System___init__ pm_System___init__ an_System___init__ cd_System___init__ ct_System___init__), sl_System___init__⟩)
    (c_System___init__ : PySem.W.codeIn K cd_System___init__ "System.__init__" = true)
    (k_System___init__ : PySem.W.keepIn K (.ref f_System___init__) = true)
    (a_System___getitem__ : PySem.W.findIn K (.ref C_System) "__getitem__" = some (some (.ref f_System___getitem__)))
    (i_System___getitem__ : PySem.W.isFn K (.ref f_System___getitem__) = true)
    (l_System___getitem__ : K.lookup f_System___getitem__ = some ⟨oc_System___getitem__, od_System___getitem__, .func (PySem.W.fnOf "__getitem__" "System.__getitem__" (defArgs s_System___getitem__) (defBody s_System___getitem__) (defScope s_System___getitem__) .none kV_System___getitem__ dc_System___getitem__ pm_System___getitem__ an_System___getitem__ cd_System___getitem__ ct_System___getitem__), sl_System___getitem__⟩)
    (c_System___getitem__ : PySem.W.codeIn K cd_System___getitem__ "System.__getitem__" = true)
    (k_System___getitem__ : PySem.W.keepIn K (.ref f_System___getitem__) = true)
    (fg_System___getitem__ : PySem.W.fnIn K f_System___getitem__ = true)
    (a_System_kind_of : PySem.W.findIn K (.ref C_System) "kind_of" = some (some (.ref f_System_kind_of)))
    (i_System_kind_of : PySem.W.isFn K (.ref f_System_kind_of) = true)
    (l_System_kind_of : K.lookup f_System_kind_of = some ⟨oc_System_kind_of, od_System_kind_of, .func (PySem.W.fnOf "kind_of" "System.kind_of" (defArgs s_System_kind_of) (defBody s_System_kind_of) (defScope s_System_kind_of) .none kV_System_kind_of dc_System_kind_of pm_System_kind_of an_System_kind_of cd_System_kind_of ct_System_kind_of), sl_System_kind_of⟩)
    (c_System_kind_of : PySem.W.codeIn K cd_System_kind_of "System.kind_of" = true)
    (k_System_kind_of : PySem.W.keepIn K (.ref f_System_kind_of) = true)
    (a_Record___init__ : PySem.W.findIn K (.ref C_Record) "__init__" = some (some (.ref f_Record___init__)))
    (i_Record___init__ : PySem.W.isFn K (.ref f_Record___init__) = true)
    (l_Record___init__ : K.lookup f_Record___init__ = some ⟨oc_Record___init__, od_Record___init__, .func (PySem.W.fnOf "__init__" "Record.__init__" (defArgs s_Record___init__) (defBody s_Record___init__) (defScope s_Record___init__) .none kV_Record___init__ dc_Record___init__ pm_Record___init__ an_Record___init__ cd_Record___init__ ct_Record___init__), sl_Record___init__⟩)
    (c_Record___init__ : PySem.W.codeIn K cd_Record___init__ "Record.__init__" = true)
    (k_Record___init__ : PySem.W.keepIn K (.ref f_Record___init__) = true)
    (a_Moment___init__ : PySem.W.findIn K (.ref C_Moment) "__init__" = some (some (.ref f_Moment___init__)))
    (i_Moment___init__ : PySem.W.isFn K (.ref f_Moment___init__) = true)
    (l_Moment___init__ : K.lookup f_Moment___init__ = some ⟨oc_Moment___init__, od_Moment___init__, .func (PySem.W.fnOf "__init__" "Moment.__init__" (defArgs s_Moment___init__) (defBody s_Moment___init__) (defScope s_Moment___init__) .none kV_Moment___init__ dc_Moment___init__ pm_Moment___init__ an_Moment___init__ cd_Moment___init__ ct_Moment___init__), sl_Moment___init__⟩)
    (c_Moment___init__ : PySem.W.codeIn K cd_Moment___init__ "Moment.__init__" = true)
    (k_Moment___init__ : PySem.W.keepIn K (.ref f_Moment___init__) = true)
    (a_Moment_owners : PySem.W.findIn K (.ref C_Moment) "owners" = some (some (.ref f_Moment_owners)))
    (i_Moment_owners : PySem.W.isFn K (.ref f_Moment_owners) = true)
    (l_Moment_owners : K.lookup f_Moment_owners = some ⟨oc_Moment_owners, od_Moment_owners, .func (PySem.W.fnOf "owners" "Moment.owners" (defArgs s_Moment_owners) (defBody s_Moment_owners) (defScope s_Moment_owners) .none kV_Moment_owners dc_Moment_owners pm_Moment_owners an_Moment_owners cd_Moment_owners ct_Moment_owners), sl_Moment_owners⟩)
    (c_Moment_owners : PySem.W.codeIn K cd_Moment_owners "Moment.owners" = true)
    (k_Moment_owners : PySem.W.keepIn K (.ref f_Moment_owners) = true)
    (a_Moment_width : PySem.W.findIn K (.ref C_Moment) "width" = some (some (.ref f_Moment_width)))
    (i_Moment_width : PySem.W.isFn K (.ref f_Moment_width) = true)
    (l_Moment_width : K.lookup f_Moment_width = some ⟨oc_Moment_width, od_Moment_width, .func (PySem.W.fnOf "width" "Moment.width" (defArgs s_Moment_width) (defBody s_Moment_width) (defScope s_Moment_width) .none kV_Moment_width dc_Moment_width pm_Moment_width an_Moment_width cd_Moment_width ct_Moment_width), sl_Moment_width⟩)
    (c_Moment_width : PySem.W.codeIn K cd_Moment_width "Moment.width" = true)
    (k_Moment_width : PySem.W.keepIn K (.ref f_Moment_width) = true)
    (a_Moment_recorded : PySem.W.findIn K (.ref C_Moment) "recorded" = some (some (.ref f_Moment_recorded)))
    (i_Moment_recorded : PySem.W.isFn K (.ref f_Moment_recorded) = true)
    (l_Moment_recorded : K.lookup f_Moment_recorded = some ⟨oc_Moment_recorded, od_Moment_recorded, .func (PySem.W.fnOf "recorded" "Moment.recorded" (defArgs s_Moment_recorded) (defBody s_Moment_recorded) (defScope s_Moment_recorded) .none kV_Moment_recorded dc_Moment_recorded pm_Moment_recorded an_Moment_recorded cd_Moment_recorded ct_Moment_recorded), sl_Moment_recorded⟩)
    (c_Moment_recorded : PySem.W.codeIn K cd_Moment_recorded "Moment.recorded" = true)
    (k_Moment_recorded : PySem.W.keepIn K (.ref f_Moment_recorded) = true)
    (a_Moment_holds_up : PySem.W.findIn K (.ref C_Moment) "holds_up" = some (some (.ref f_Moment_holds_up)))
    (i_Moment_holds_up : PySem.W.isFn K (.ref f_Moment_holds_up) = true)
    (l_Moment_holds_up : K.lookup f_Moment_holds_up = some ⟨oc_Moment_holds_up, od_Moment_holds_up, .func (PySem.W.fnOf "holds_up" "Moment.holds_up" (defArgs s_Moment_holds_up) (defBody s_Moment_holds_up) (defScope s_Moment_holds_up) .none kV_Moment_holds_up dc_Moment_holds_up pm_Moment_holds_up an_Moment_holds_up cd_Moment_holds_up ct_Moment_holds_up), sl_Moment_holds_up⟩)
    (c_Moment_holds_up : PySem.W.codeIn K cd_Moment_holds_up "Moment.holds_up" = true)
    (k_Moment_holds_up : PySem.W.keepIn K (.ref f_Moment_holds_up) = true)
    (a_Moment_allows : PySem.W.findIn K (.ref C_Moment) "allows" = some (some (.ref f_Moment_allows)))
    (i_Moment_allows : PySem.W.isFn K (.ref f_Moment_allows) = true)
    (l_Moment_allows : K.lookup f_Moment_allows = some ⟨oc_Moment_allows, od_Moment_allows, .func (PySem.W.fnOf "allows" "Moment.allows" (defArgs s_Moment_allows) (defBody s_Moment_allows) (defScope s_Moment_allows) .none kV_Moment_allows dc_Moment_allows pm_Moment_allows an_Moment_allows cd_Moment_allows ct_Moment_allows), sl_Moment_allows⟩)
    (c_Moment_allows : PySem.W.codeIn K cd_Moment_allows "Moment.allows" = true)
    (k_Moment_allows : PySem.W.keepIn K (.ref f_Moment_allows) = true)
    (a_Moment_hand_out : PySem.W.findIn K (.ref C_Moment) "hand_out" = some (some (.ref f_Moment_hand_out)))
    (i_Moment_hand_out : PySem.W.isFn K (.ref f_Moment_hand_out) = true)
    (l_Moment_hand_out : K.lookup f_Moment_hand_out = some ⟨oc_Moment_hand_out, od_Moment_hand_out, .func (PySem.W.fnOf "hand_out" "Moment.hand_out" (defArgs s_Moment_hand_out) (defBody s_Moment_hand_out) (defScope s_Moment_hand_out) .none kV_Moment_hand_out dc_Moment_hand_out pm_Moment_hand_out an_Moment_hand_out cd_Moment_hand_out ct_Moment_hand_out), sl_Moment_hand_out⟩)
    (c_Moment_hand_out : PySem.W.codeIn K cd_Moment_hand_out "Moment.hand_out" = true)
    (k_Moment_hand_out : PySem.W.keepIn K (.ref f_Moment_hand_out) = true)
    (a_Moment_execute_statement : PySem.W.findIn K (.ref C_Moment) "execute_statement" = some (some (.ref f_Moment_execute_statement)))
    (i_Moment_execute_statement : PySem.W.isFn K (.ref f_Moment_execute_statement) = true)
    (l_Moment_execute_statement : K.lookup f_Moment_execute_statement = some ⟨oc_Moment_execute_statement, od_Moment_execute_statement, .func (PySem.W.fnOf "execute_statement" "Moment.execute_statement" (defArgs s_Moment_execute_statement) (defBody s_Moment_execute_statement) (defScope s_Moment_execute_statement) .none kV_Moment_execute_statement dc_Moment_execute_statement pm_Moment_execute_statement an_Moment_execute_statement cd_Moment_execute_statement ct_Moment_execute_statement), sl_Moment_execute_statement⟩)
    (c_Moment_execute_statement : PySem.W.codeIn K cd_Moment_execute_statement "Moment.execute_statement" = true)
    (k_Moment_execute_statement : PySem.W.keepIn K (.ref f_Moment_execute_statement) = true)
    (a_Moment_execute : PySem.W.findIn K (.ref C_Moment) "execute" = some (some (.ref f_Moment_execute)))
    (i_Moment_execute : PySem.W.isFn K (.ref f_Moment_execute) = true)
    (l_Moment_execute : K.lookup f_Moment_execute = some ⟨oc_Moment_execute, od_Moment_execute, .func (PySem.W.fnOf "execute" "Moment.execute" (defArgs s_Moment_execute) (defBody s_Moment_execute) (defScope s_Moment_execute) .none kV_Moment_execute dc_Moment_execute pm_Moment_execute an_Moment_execute cd_Moment_execute ct_Moment_execute), sl_Moment_execute⟩)
    (c_Moment_execute : PySem.W.codeIn K cd_Moment_execute "Moment.execute" = true)
    (k_Moment_execute : PySem.W.keepIn K (.ref f_Moment_execute) = true)
    (kdKind_block : PySem.W.nsIn K KD_Kind "block" = some (some (.int 1 tkKind_block)))
    (kdKind_many : PySem.W.nsIn K KD_Kind "many" = some (some (.int 1 tkKind_many)))
    (kdSystem_ahead : PySem.W.nsIn K KD_System "ahead" = some (some (.int 0 tkSystem_ahead)))
    (kdSystem_window : PySem.W.nsIn K KD_System "window" = some (some .none))
    (kdSystem_crashes : PySem.W.nsIn K KD_System "crashes" = some (some (.int 0 tkSystem_crashes)))
    (z_all : PySem.W.nsIn K mainGlobals "all" = some none)
    (z_any : PySem.W.nsIn K mainGlobals "any" = some none)
    (z_bool : PySem.W.nsIn K mainGlobals "bool" = some none)
    (z_enumerate : PySem.W.nsIn K mainGlobals "enumerate" = some none)
    (z_int : PySem.W.nsIn K mainGlobals "int" = some none)
    (z_isinstance : PySem.W.nsIn K mainGlobals "isinstance" = some none)
    (z_len : PySem.W.nsIn K mainGlobals "len" = some none)
    (z_list : PySem.W.nsIn K mainGlobals "list" = some none)
    (z_max : PySem.W.nsIn K mainGlobals "max" = some none)
    (z_range : PySem.W.nsIn K mainGlobals "range" = some none)
    (z_set : PySem.W.nsIn K mainGlobals "set" = some none)
    (z_sorted : PySem.W.nsIn K mainGlobals "sorted" = some none)
    (z_str : PySem.W.nsIn K mainGlobals "str" = some none)
    (z_sum : PySem.W.nsIn K mainGlobals "sum" = some none)
    (z_tuple : PySem.W.nsIn K mainGlobals "tuple" = some none)
    (v_LONGEST_NAME : PySem.W.nsIn K mainGlobals "LONGEST_NAME" = some (some (.int 8 t_LONGEST_NAME)))
    (v_MOST_AHEAD : PySem.W.nsIn K mainGlobals "MOST_AHEAD" = some (some (.int 4 t_MOST_AHEAD)))
    (v_MOST_BLOCK : PySem.W.nsIn K mainGlobals "MOST_BLOCK" = some (some (.int 3 t_MOST_BLOCK)))
    (v_MOST_CRASHES : PySem.W.nsIn K mainGlobals "MOST_CRASHES" = some (some (.int 2 t_MOST_CRASHES)))
    (v_MOST_HELD : PySem.W.nsIn K mainGlobals "MOST_HELD" = some (some (.int 3 t_MOST_HELD)))
    (v_MOST_NESTED : PySem.W.nsIn K mainGlobals "MOST_NESTED" = some (some (.int 2 t_MOST_NESTED)))
    (v_MOST_SESSIONS : PySem.W.nsIn K mainGlobals "MOST_SESSIONS" = some (some (.int 3 t_MOST_SESSIONS)))
    (v_MOST_STATEMENTS : PySem.W.nsIn K mainGlobals "MOST_STATEMENTS" = some (some (.int 8 t_MOST_STATEMENTS)))
    (v_MOST_WINDOW : PySem.W.nsIn K mainGlobals "MOST_WINDOW" = some (some (.int 8 t_MOST_WINDOW)))
    (v_FRESH : PySem.W.nsIn K mainGlobals "FRESH" = some (some (.ref GFRESH)))
    (lGFRESH : K.lookup GFRESH = some ⟨.type "tuple", ocGFRESH, .seq itGFRESH nnGFRESH, slGFRESH⟩)
    (eGFRESH : itGFRESH.toList = [.ref GFRESH_0, .ref GFRESH_1, .ref GFRESH_2, .ref GFRESH_3])
    (lGFRESH_0 : K.lookup GFRESH_0 = some ⟨.type "tuple", ocGFRESH_0, .seq itGFRESH_0 nnGFRESH_0, slGFRESH_0⟩)
    (eGFRESH_0 : itGFRESH_0.toList = [.int 0 tvGFRESH_0_0])
    (lGFRESH_1 : K.lookup GFRESH_1 = some ⟨.type "tuple", ocGFRESH_1, .seq itGFRESH_1 nnGFRESH_1, slGFRESH_1⟩)
    (eGFRESH_1 : itGFRESH_1.toList = [])
    (lGFRESH_2 : K.lookup GFRESH_2 = some ⟨.type "tuple", ocGFRESH_2, .seq itGFRESH_2 nnGFRESH_2, slGFRESH_2⟩)
    (eGFRESH_2 : itGFRESH_2.toList = [])
    (lGFRESH_3 : K.lookup GFRESH_3 = some ⟨.type "tuple", ocGFRESH_3, .seq itGFRESH_3 nnGFRESH_3, slGFRESH_3⟩)
    (eGFRESH_3 : itGFRESH_3.toList = [])
    (v_ITEMS : PySem.W.nsIn K mainGlobals "ITEMS" = some (some (.ref itITEMS)))
    (lkITEMS : K.lookup itITEMS = some ⟨.type "dict", none, .dict esITEMS nnITEMS, #[]⟩)
    (klITEMS : PySem.W.KeysLit w.params esITEMS.toList)
    (smITEMS : (itITEMS == sysModules) = false)
    (eITEMS_take : PySem.W.nsIn K itITEMS "take" = some (some (.int 1 ttITEMS_take)))
    (eITEMS_commit : PySem.W.nsIn K itITEMS "commit" = some (some (.int 1 ttITEMS_commit)))
    (eITEMS_rollback : PySem.W.nsIn K itITEMS "rollback" = some (some (.int 1 ttITEMS_rollback)))
    (eITEMS_drop : PySem.W.nsIn K itITEMS "drop" = some (some (.int 1 ttITEMS_drop)))
    (eITEMS_leave : PySem.W.nsIn K itITEMS "leave" = some (some (.int 1 ttITEMS_leave)))
    (eITEMS_lock : PySem.W.nsIn K itITEMS "lock" = some (some (.int 2 ttITEMS_lock)))
    (eITEMS_unlock : PySem.W.nsIn K itITEMS "unlock" = some (some (.int 2 ttITEMS_unlock)))
    (eITEMS_choose : PySem.W.nsIn K itITEMS "choose" = some (some (.int 3 ttITEMS_choose)))
    : ∃ fd : FuncData, (∀ (s : Shared) (v : Value), BindsTo s fd ⟨[v], []⟩ [("_law_script", v)]) ∧ ∀ base : Heap, K.In base → base.Ns mainGlobals mg → FnOk l.prog w K mg base (L2.CX l.prog w) 17 fa fd ["_law_script"] (spLaw10 K) := by
  have e := hfa.symm.trans (PySem.W.mg_of X G a_law)
  cases e
  have Cl_Record : Cls K C_Record := ⟨pgRecord, hdRecord, poRecord, saRecord⟩
  have Cl_Script : Cls K C_Script := ⟨pgScript, hdScript, poScript, saScript⟩
  have Cl_Check : Cls K C_Check := ⟨pgCheck, hdCheck, poCheck, saCheck⟩
  have Cl_Moment : Cls K C_Moment := ⟨pgMoment, hdMoment, poMoment, saMoment⟩
  have Cl_Kind : Cls K C_Kind := ⟨pgKind, hdKind, poKind, saKind⟩
  have Cl_System : Cls K C_System := ⟨pgSystem, hdSystem, poSystem, saSystem⟩
  have kgITEMS : ∀ z n, (z, n) ∈ items → KG K w itITEMS z (.int n) := by
    intro z n hm
    simp only [items, List.mem_cons, List.not_mem_nil, or_false, Prod.mk.injEq] at hm
    rcases hm with ⟨rfl, rfl⟩ | ⟨rfl, rfl⟩ | ⟨rfl, rfl⟩ | ⟨rfl, rfl⟩ | ⟨rfl, rfl⟩ | ⟨rfl, rfl⟩ | ⟨rfl, rfl⟩ | ⟨rfl, rfl⟩
    · exact ⟨⟨_, _, _, lkITEMS, klITEMS, eITEMS_take, ⟨_, rfl⟩⟩, smITEMS⟩
    · exact ⟨⟨_, _, _, lkITEMS, klITEMS, eITEMS_commit, ⟨_, rfl⟩⟩, smITEMS⟩
    · exact ⟨⟨_, _, _, lkITEMS, klITEMS, eITEMS_rollback, ⟨_, rfl⟩⟩, smITEMS⟩
    · exact ⟨⟨_, _, _, lkITEMS, klITEMS, eITEMS_drop, ⟨_, rfl⟩⟩, smITEMS⟩
    · exact ⟨⟨_, _, _, lkITEMS, klITEMS, eITEMS_leave, ⟨_, rfl⟩⟩, smITEMS⟩
    · exact ⟨⟨_, _, _, lkITEMS, klITEMS, eITEMS_lock, ⟨_, rfl⟩⟩, smITEMS⟩
    · exact ⟨⟨_, _, _, lkITEMS, klITEMS, eITEMS_unlock, ⟨_, rfl⟩⟩, smITEMS⟩
    · exact ⟨⟨_, _, _, lkITEMS, klITEMS, eITEMS_choose, ⟨_, rfl⟩⟩, smITEMS⟩
  have ATGFRESH_0 := at_tupK (Γ := (Gam C_Record C_Script C_Check C_Moment C_Kind C_System)) (vs := [V.int 0]) lGFRESH_0 (by rw [eGFRESH_0]; simp) (by rw [eGFRESH_0]; exact (.cons (by first | rfl | exact ⟨_, rfl⟩) .nil)) fun c H j => (.cons ((.i 0)) .nil)
  have ATGFRESH_1 := at_tupK (Γ := (Gam C_Record C_Script C_Check C_Moment C_Kind C_System)) (vs := []) lGFRESH_1 (by rw [eGFRESH_1]; simp) (by rw [eGFRESH_1]; exact .nil) fun c H j => .nil
  have ATGFRESH_2 := at_tupK (Γ := (Gam C_Record C_Script C_Check C_Moment C_Kind C_System)) (vs := []) lGFRESH_2 (by rw [eGFRESH_2]; simp) (by rw [eGFRESH_2]; exact .nil) fun c H j => .nil
  have ATGFRESH_3 := at_tupK (Γ := (Gam C_Record C_Script C_Check C_Moment C_Kind C_System)) (vs := []) lGFRESH_3 (by rw [eGFRESH_3]; simp) (by rw [eGFRESH_3]; exact .nil) fun c H j => .nil
  have ATGFRESH := at_tupK (Γ := (Gam C_Record C_Script C_Check C_Moment C_Kind C_System)) (vs := [V.ref GFRESH_0, V.ref GFRESH_1, V.ref GFRESH_2, V.ref GFRESH_3]) lGFRESH (by rw [eGFRESH]; simp) (by rw [eGFRESH]; exact (.cons (by first | rfl | exact ⟨_, rfl⟩) (.cons (by first | rfl | exact ⟨_, rfl⟩) (.cons (by first | rfl | exact ⟨_, rfl⟩) (.cons (by first | rfl | exact ⟨_, rfl⟩) .nil))))) fun c H j => (.cons (ATGFRESH_0 c H j) (.cons (ATGFRESH_1 c H j) (.cons (ATGFRESH_2 c H j) (.cons (ATGFRESH_3 c H j) .nil))))
  have Wd : WdT w K (Gam C_Record C_Script C_Check C_Moment C_Kind C_System) mg := ⟨PySem.W.mg_none_of X G z_all,
    PySem.W.mg_none_of X G z_any,
    PySem.W.mg_none_of X G z_bool,
    PySem.W.mg_none_of X G z_enumerate,
    PySem.W.mg_none_of X G z_int,
    PySem.W.mg_none_of X G z_isinstance,
    PySem.W.mg_none_of X G z_len,
    PySem.W.mg_none_of X G z_list,
    PySem.W.mg_none_of X G z_max,
    PySem.W.mg_none_of X G z_range,
    PySem.W.mg_none_of X G z_set,
    PySem.W.mg_none_of X G z_sorted,
    PySem.W.mg_none_of X G z_str,
    PySem.W.mg_none_of X G z_sum,
    PySem.W.mg_none_of X G z_tuple,
    ⟨C_Kind, PySem.W.mg_of X G aKind, ⟨fun a r h => by
      unfold kt_Kind at h
      split at h <;> (first | cases h) <;> (rename_i e; cases e) <;> (first | fail | skip), fun k r C h g => by
      unfold kt_Kind at h
      split at h <;> (first | cases h) <;> (rename_i e; cases e)
      have e := Option.some.inj (show some C_Kind = some C from g); subst e
      exact ⟨⟨Cl_Kind, caKind, cn, ct, obKind⟩, kit_me _⟩⟩⟩,
    ⟨C_Script, PySem.W.mg_of X G aScript, ⟨fun a r h => by
      unfold kt_Script at h
      split at h <;> (first | cases h) <;> (rename_i e; cases e) <;> (first | exact kit_no icScript tcScript uScript_tuple | skip), fun k r C h g => by
      unfold kt_Script at h
      split at h <;> (first | cases h) <;> (rename_i e; cases e)
      have e := Option.some.inj (show some C_Script = some C from g); subst e
      exact ⟨⟨Cl_Script, caScript, cn, ct, obScript⟩, kit_me _⟩⟩⟩,
    ⟨fun C h => by have e := Option.some.inj (show some C_Check = some C from h); subst e; exact ⟨Cl_Check, nCheck_found⟩, rfl, by show (gfs 2).Nodup; decide +kernel, by show (gfs 2).length < 1000; decide +kernel⟩,
    ⟨fun C h => by have e := Option.some.inj (show some C_Kind = some C from h); subst e; exact ⟨Cl_Kind, nKind_block⟩, rfl, by show (gfs 4).Nodup; decide +kernel, by show (gfs 4).length < 1000; decide +kernel⟩,
    ⟨fun C h => by have e := Option.some.inj (show some C_Kind = some C from h); subst e; exact ⟨Cl_Kind, nKind_many⟩, rfl, by show (gfs 4).Nodup; decide +kernel, by show (gfs 4).length < 1000; decide +kernel⟩,
    ⟨fun C h => by have e := Option.some.inj (show some C_Kind = some C from h); subst e; exact ⟨Cl_Kind, nKind_name⟩, rfl, by show (gfs 4).Nodup; decide +kernel, by show (gfs 4).length < 1000; decide +kernel⟩,
    ⟨fun C h => by have e := Option.some.inj (show some C_Kind = some C from h); subst e; exact ⟨Cl_Kind, nKind_script⟩, rfl, by show (gfs 4).Nodup; decide +kernel, by show (gfs 4).length < 1000; decide +kernel⟩,
    ⟨fun C h => by have e := Option.some.inj (show some C_Moment = some C from h); subst e; exact ⟨Cl_Moment, nMoment_commits⟩, rfl, by show (gfs 3).Nodup; decide +kernel, by show (gfs 3).length < 1000; decide +kernel⟩,
    ⟨fun C h => by have e := Option.some.inj (show some C_Moment = some C from h); subst e; exact ⟨Cl_Moment, nMoment_crashes⟩, rfl, by show (gfs 3).Nodup; decide +kernel, by show (gfs 3).length < 1000; decide +kernel⟩,
    ⟨fun C h => by have e := Option.some.inj (show some C_Moment = some C from h); subst e; exact ⟨Cl_Moment, nMoment_done⟩, rfl, by show (gfs 3).Nodup; decide +kernel, by show (gfs 3).length < 1000; decide +kernel⟩,
    ⟨fun C h => by have e := Option.some.inj (show some C_Moment = some C from h); subst e; exact ⟨Cl_Moment, nMoment_height⟩, rfl, by show (gfs 3).Nodup; decide +kernel, by show (gfs 3).length < 1000; decide +kernel⟩,
    ⟨fun C h => by have e := Option.some.inj (show some C_Moment = some C from h); subst e; exact ⟨Cl_Moment, nMoment_lost⟩, rfl, by show (gfs 3).Nodup; decide +kernel, by show (gfs 3).length < 1000; decide +kernel⟩,
    ⟨fun C h => by have e := Option.some.inj (show some C_Moment = some C from h); subst e; exact ⟨Cl_Moment, nMoment_origin⟩, rfl, by show (gfs 3).Nodup; decide +kernel, by show (gfs 3).length < 1000; decide +kernel⟩,
    ⟨fun C h => by have e := Option.some.inj (show some C_Moment = some C from h); subst e; exact ⟨Cl_Moment, nMoment_reserve⟩, rfl, by show (gfs 3).Nodup; decide +kernel, by show (gfs 3).length < 1000; decide +kernel⟩,
    ⟨fun C h => by have e := Option.some.inj (show some C_Moment = some C from h); subst e; exact ⟨Cl_Moment, nMoment_sessions⟩, rfl, by show (gfs 3).Nodup; decide +kernel, by show (gfs 3).length < 1000; decide +kernel⟩,
    ⟨fun C h => by have e := Option.some.inj (show some C_Moment = some C from h); subst e; exact ⟨Cl_Moment, nMoment_spread⟩, rfl, by show (gfs 3).Nodup; decide +kernel, by show (gfs 3).length < 1000; decide +kernel⟩,
    ⟨fun C h => by have e := Option.some.inj (show some C_Moment = some C from h); subst e; exact ⟨Cl_Moment, nMoment_system⟩, rfl, by show (gfs 3).Nodup; decide +kernel, by show (gfs 3).length < 1000; decide +kernel⟩,
    ⟨fun C h => by have e := Option.some.inj (show some C_Record = some C from h); subst e; exact ⟨Cl_Record, nRecord_commits⟩, rfl, by show (gfs 0).Nodup; decide +kernel, by show (gfs 0).length < 1000; decide +kernel⟩,
    ⟨fun C h => by have e := Option.some.inj (show some C_Record = some C from h); subst e; exact ⟨Cl_Record, nRecord_crashes⟩, rfl, by show (gfs 0).Nodup; decide +kernel, by show (gfs 0).length < 1000; decide +kernel⟩,
    ⟨fun C h => by have e := Option.some.inj (show some C_Record = some C from h); subst e; exact ⟨Cl_Record, nRecord_height⟩, rfl, by show (gfs 0).Nodup; decide +kernel, by show (gfs 0).length < 1000; decide +kernel⟩,
    ⟨fun C h => by have e := Option.some.inj (show some C_Record = some C from h); subst e; exact ⟨Cl_Record, nRecord_lost⟩, rfl, by show (gfs 0).Nodup; decide +kernel, by show (gfs 0).length < 1000; decide +kernel⟩,
    ⟨fun C h => by have e := Option.some.inj (show some C_Record = some C from h); subst e; exact ⟨Cl_Record, nRecord_noted⟩, rfl, by show (gfs 0).Nodup; decide +kernel, by show (gfs 0).length < 1000; decide +kernel⟩,
    ⟨fun C h => by have e := Option.some.inj (show some C_Record = some C from h); subst e; exact ⟨Cl_Record, nRecord_out⟩, rfl, by show (gfs 0).Nodup; decide +kernel, by show (gfs 0).length < 1000; decide +kernel⟩,
    ⟨fun C h => by have e := Option.some.inj (show some C_Record = some C from h); subst e; exact ⟨Cl_Record, nRecord_spread⟩, rfl, by show (gfs 0).Nodup; decide +kernel, by show (gfs 0).length < 1000; decide +kernel⟩,
    ⟨fun C h => by have e := Option.some.inj (show some C_Script = some C from h); subst e; exact ⟨Cl_Script, nScript_found⟩, rfl, by show (gfs 1).Nodup; decide +kernel, by show (gfs 1).length < 1000; decide +kernel⟩,
    ⟨fun C h => by have e := Option.some.inj (show some C_Script = some C from h); subst e; exact ⟨Cl_Script, nScript_places⟩, rfl, by show (gfs 1).Nodup; decide +kernel, by show (gfs 1).length < 1000; decide +kernel⟩,
    ⟨fun C h => by have e := Option.some.inj (show some C_Script = some C from h); subst e; exact ⟨Cl_Script, nScript_statements⟩, rfl, by show (gfs 1).Nodup; decide +kernel, by show (gfs 1).length < 1000; decide +kernel⟩,
    ⟨fun C h => by have e := Option.some.inj (show some C_System = some C from h); subst e; exact ⟨Cl_System, nSystem_ahead⟩, rfl, by show (gfs 5).Nodup; decide +kernel, by show (gfs 5).length < 1000; decide +kernel⟩,
    ⟨fun C h => by have e := Option.some.inj (show some C_System = some C from h); subst e; exact ⟨Cl_System, nSystem_crashes⟩, rfl, by show (gfs 5).Nodup; decide +kernel, by show (gfs 5).length < 1000; decide +kernel⟩,
    ⟨fun C h => by have e := Option.some.inj (show some C_System = some C from h); subst e; exact ⟨Cl_System, nSystem_kinds⟩, rfl, by show (gfs 5).Nodup; decide +kernel, by show (gfs 5).length < 1000; decide +kernel⟩,
    ⟨fun C h => by have e := Option.some.inj (show some C_System = some C from h); subst e; exact ⟨Cl_System, nSystem_sessions⟩, rfl, by show (gfs 5).Nodup; decide +kernel, by show (gfs 5).length < 1000; decide +kernel⟩,
    ⟨fun C h => by have e := Option.some.inj (show some C_System = some C from h); subst e; exact ⟨Cl_System, nSystem_window⟩, rfl, by show (gfs 5).Nodup; decide +kernel, by show (gfs 5).length < 1000; decide +kernel⟩,
    ⟨_, .ref GFRESH, PySem.W.mg_of X G v_FRESH, rfl, fun c H j => ATGFRESH c H j⟩,
    gl_int (PySem.W.mg_of X G v_LONGEST_NAME),
    gl_int (PySem.W.mg_of X G v_MOST_AHEAD),
    gl_int (PySem.W.mg_of X G v_MOST_BLOCK),
    gl_int (PySem.W.mg_of X G v_MOST_CRASHES),
    gl_int (PySem.W.mg_of X G v_MOST_HELD),
    gl_int (PySem.W.mg_of X G v_MOST_NESTED),
    gl_int (PySem.W.mg_of X G v_MOST_SESSIONS),
    gl_int (PySem.W.mg_of X G v_MOST_STATEMENTS),
    gl_int (PySem.W.mg_of X G v_MOST_WINDOW),
    ⟨_, PySem.W.mg_of X G v_ITEMS, ⟨_, _, lkITEMS⟩, fun z i h => kgITEMS z i (lookup_mem h)⟩⟩
  have F_is_integer := fun_mk (st := s_is_integer) l_is_integer c_is_integer k_is_integer
  have b_is_integer := F_is_integer.binds (ps := ["value"]) fun _ _ _ _ _ _ us hl => match us, hl with | [_], _ => rfl
  have F_is_within := fun_mk (st := s_is_within) l_is_within c_is_within k_is_within
  have b_is_within := F_is_within.binds (ps := ["value", "low", "high"]) fun _ _ _ _ _ _ us hl => match us, hl with | [_, _, _], _ => rfl
  have F_is_name := fun_mk (st := s_is_name) l_is_name c_is_name k_is_name
  have b_is_name := F_is_name.binds (ps := ["value"]) fun _ _ _ _ _ _ us hl => match us, hl with | [_], _ => rfl
  have F_held_after := fun_mk (st := s_held_after) l_held_after c_held_after k_held_after
  have b_held_after := F_held_after.binds (ps := ["word", "held"]) fun _ _ _ _ _ _ us hl => match us, hl with | [_, _], _ => rfl
  have F_has_form := fun_mk (st := s_has_form) l_has_form c_has_form k_has_form
  have b_has_form := F_has_form.binds (ps := ["statement"]) fun _ _ _ _ _ _ us hl => match us, hl with | [_], _ => rfl
  have F_fault_of := fun_mk (st := s_fault_of) l_fault_of c_fault_of k_fault_of
  have b_fault_of := F_fault_of.binds (ps := ["statement", "place", "earlier", "held"]) fun _ _ _ _ _ _ us hl => match us, hl with | [_, _, _, _], _ => rfl
  have F_answers_of := fun_mk (st := s_answers_of) l_answers_of c_answers_of k_answers_of
  have b_answers_of := F_answers_of.binds (ps := ["statement"]) fun _ _ _ _ _ _ us hl => match us, hl with | [_], _ => rfl
  have F_is_answer := fun_mk (st := s_is_answer) l_is_answer c_is_answer k_is_answer
  have b_is_answer := F_is_answer.binds (ps := ["statement", "answer"]) fun _ _ _ _ _ _ us hl => match us, hl with | [_, _], _ => rfl
  have F_with_lock := fun_mk (st := s_with_lock) l_with_lock c_with_lock k_with_lock
  have b_with_lock := F_with_lock.binds (ps := ["locks", "name"]) fun _ _ _ _ _ _ us hl => match us, hl with | [_, _], _ => rfl
  have F_executed := fun_mk (st := s_executed) l_executed c_executed k_executed
  have b_executed := F_executed.binds (ps := ["script", "session", "answer"]) fun _ _ _ _ _ _ us hl => match us, hl with | [_, _, _], _ => rfl
  have F_script_of := fun_mk (st := s_script_of) l_script_of c_script_of k_script_of
  have b_script_of := F_script_of.binds (ps := ["script"]) fun _ _ _ _ _ _ us hl => match us, hl with | [_], _ => rfl
  have F_count_of_sessions := fun_mk (st := s_count_of_sessions) l_count_of_sessions c_count_of_sessions k_count_of_sessions
  have b_count_of_sessions := F_count_of_sessions.binds (ps := ["kinds"]) fun _ _ _ _ _ _ us hl => match us, hl with | [_], _ => rfl
  have F_are_kinds := fun_mk (st := s_are_kinds) l_are_kinds c_are_kinds k_are_kinds
  have b_are_kinds := F_are_kinds.binds (ps := ["kinds"]) fun _ _ _ _ _ _ us hl => match us, hl with | [_], _ => rfl
  have F_fault_of_system := fun_mk (st := s_fault_of_system) l_fault_of_system c_fault_of_system k_fault_of_system
  have b_fault_of_system := F_fault_of_system.binds (ps := ["kinds", "ahead", "window", "crashes"]) fun _ _ _ _ _ _ us hl => match us, hl with | [_, _, _, _], _ => rfl
  have F_next_statement := fun_mk (st := s_next_statement) l_next_statement c_next_statement k_next_statement
  have b_next_statement := F_next_statement.binds (ps := ["system", "sessions", "session"]) fun _ _ _ _ _ _ us hl => match us, hl with | [_, _, _], _ => rfl
  have F_needs_block := fun_mk (st := s_needs_block) l_needs_block c_needs_block k_needs_block
  have b_needs_block := F_needs_block.binds (ps := ["system", "sessions", "session"]) fun _ _ _ _ _ _ us hl => match us, hl with | [_, _, _], _ => rfl
  have F_must_wait := fun_mk (st := s_must_wait) l_must_wait c_must_wait k_must_wait
  have b_must_wait := F_must_wait.binds (ps := ["system", "sessions", "session", "width"]) fun _ _ _ _ _ _ us hl => match us, hl with | [_, _, _, _], _ => rfl
  have F_reserve_after := fun_mk (st := s_reserve_after) l_reserve_after c_reserve_after k_reserve_after
  have b_reserve_after := F_reserve_after.binds (ps := ["system", "reserve", "block"]) fun _ _ _ _ _ _ us hl => match us, hl with | [_, _, _], _ => rfl
  have F_is_crash := fun_mk (st := s_is_crash) l_is_crash c_is_crash k_is_crash
  have b_is_crash := F_is_crash.binds (ps := ["step"]) fun _ _ _ _ _ _ us hl => match us, hl with | [_], _ => rfl
  have F_follow := fun_mk (st := s_follow) l_follow c_follow k_follow
  have b_follow := F_follow.binds (ps := ["moment", "schedule"]) fun _ _ _ _ _ _ us hl => match us, hl with | [_, _], _ => rfl
  have F_run := fun_mk (st := s_run) l_run c_run k_run
  have b_run := F_run.binds (ps := ["system", "schedule"]) fun _ _ _ _ _ _ us hl => match us, hl with | [_, _], _ => rfl
  have F__law_pool := fun_mk (st := s__law_pool) l__law_pool c__law_pool k__law_pool
  have b__law_pool := F__law_pool.binds (ps := ["_law_script", "_law_k"]) fun _ _ _ _ _ _ us hl => match us, hl with | [_, _], _ => rfl
  have F__law_draw := fun_mk (st := s__law_draw) l__law_draw c__law_draw k__law_draw
  have b__law_draw := F__law_draw.binds (ps := ["_law_pool_here", "_law_amount"]) fun _ _ _ _ _ _ us hl => match us, hl with | [_, _], _ => rfl
  have F__law_names := fun_mk (st := s__law_names) l__law_names c__law_names k__law_names
  have b__law_names := F__law_names.binds (ps := ["_law_pool_here"]) fun _ _ _ _ _ _ us hl => match us, hl with | [_], _ => rfl
  have F_law := fun_mk (st := s_law) l_law c_law k_law
  have F_Check___init__ := fun_mk (st := s_Check___init__) l_Check___init__ c_Check___init__ k_Check___init__
  have b_Check___init__ := F_Check___init__.binds (ps := ["self"]) fun _ _ _ _ _ _ us hl => match us, hl with | [_], _ => rfl
  have F_Check_check_branch := fun_mk (st := s_Check_check_branch) l_Check_check_branch c_Check_check_branch k_Check_check_branch
  have b_Check_check_branch := F_Check_check_branch.binds (ps := ["self", "branch", "above", "held"]) fun _ _ _ _ _ _ us hl => match us, hl with | [_, _, _, _], _ => rfl
  have F_Check_check_statement := fun_mk (st := s_Check_check_statement) l_Check_check_statement c_Check_check_statement k_Check_check_statement
  have b_Check_check_statement := F_Check_check_statement.binds (ps := ["self", "statement", "place", "held"]) fun _ _ _ _ _ _ us hl => match us, hl with | [_, _, _, _], _ => rfl
  have F_Script___init__ := fun_mk (st := s_Script___init__) l_Script___init__ c_Script___init__ k_Script___init__
  have b_Script___init__ := F_Script___init__.binds (ps := ["self", "statements"]) fun _ _ _ _ _ _ us hl => match us, hl with | [_, _], _ => rfl
  have F_Script___contains__ := fun_mk (st := s_Script___contains__) l_Script___contains__ c_Script___contains__ k_Script___contains__
  have b_Script___contains__ := F_Script___contains__.binds (ps := ["self", "place"]) fun _ _ _ _ _ _ us hl => match us, hl with | [_, _], _ => rfl
  have F_Script___getitem__ := fun_mk (st := s_Script___getitem__) l_Script___getitem__ c_Script___getitem__ k_Script___getitem__
  have b_Script___getitem__ := F_Script___getitem__.binds (ps := ["self", "place"]) fun _ _ _ _ _ _ us hl => match us, hl with | [_, _], _ => rfl
  have F_Script_behind := fun_mk (st := s_Script_behind) l_Script_behind c_Script_behind k_Script_behind
  have b_Script_behind := F_Script_behind.binds (ps := ["self", "place"]) fun _ _ _ _ _ _ us hl => match us, hl with | [_, _], _ => rfl
  have F_Script_after : FunD K "after" "Script.after" (defArgs s_Script_after) (defBody s_Script_after) (defScope s_Script_after) [.int 0] [] f_Script_after _ := ⟨⟨_, _, _, _, _, _, _, _, _, _, rfl, l_Script_after, c_Script_after, .inr ⟨by simp, TD_Script_after, _, [.int 0 tTScript_after_0], nTScript_after, rfl, lT_Script_after, rfl, (.cons (by first | exact ⟨_, rfl⟩ | rfl) .nil)⟩, .inl rfl⟩, k_Script_after⟩
  obtain ⟨ds_Script_after_0, rds_Script_after_0, b_Script_after_0⟩ := F_Script_after.binds1 (ps := ["self", "place", "answer"]) 2 0 (by simp) rfl (fun _ _ _ _ _ _ _ us its h1 h2 => match us, its, h1, h2 with | [_, _], [_], _, _ => ⟨_, rfl, rfl⟩)
  obtain ⟨ds_Script_after_1, rds_Script_after_1, b_Script_after_1⟩ := F_Script_after.binds1 (ps := ["self", "place", "answer"]) 3 1 (by simp) rfl (fun _ _ _ _ _ _ _ us its h1 h2 => match us, its, h1, h2 with | [_, _, _], [_], _, _ => ⟨_, rfl, rfl⟩)
  have eds_Script_after : ds_Script_after_1 = [] := by cases rds_Script_after_1; rfl
  subst eds_Script_after
  have b_Script_after := b_Script_after_1
  have F_System___getitem__ := fun_mk (st := s_System___getitem__) l_System___getitem__ c_System___getitem__ k_System___getitem__
  have b_System___getitem__ := F_System___getitem__.binds (ps := ["self", "name"]) fun _ _ _ _ _ _ us hl => match us, hl with | [_, _], _ => rfl
  have F_System_kind_of := fun_mk (st := s_System_kind_of) l_System_kind_of c_System_kind_of k_System_kind_of
  have b_System_kind_of := F_System_kind_of.binds (ps := ["self", "session"]) fun _ _ _ _ _ _ us hl => match us, hl with | [_, _], _ => rfl
  have F_Record___init__ := fun_mk (st := s_Record___init__) l_Record___init__ c_Record___init__ k_Record___init__
  have b_Record___init__ := F_Record___init__.binds (ps := ["self", "commits", "lost", "out", "height", "noted", "crashes", "widest"]) fun _ _ _ _ _ _ us hl => match us, hl with | [_, _, _, _, _, _, _, _], _ => rfl
  have F_Moment___init__ := fun_mk (st := s_Moment___init__) l_Moment___init__ c_Moment___init__ k_Moment___init__
  have b_Moment___init__ := F_Moment___init__.binds (ps := ["self", "system"]) fun _ _ _ _ _ _ us hl => match us, hl with | [_, _], _ => rfl
  have F_Moment_owners := fun_mk (st := s_Moment_owners) l_Moment_owners c_Moment_owners k_Moment_owners
  have b_Moment_owners := F_Moment_owners.binds (ps := ["self"]) fun _ _ _ _ _ _ us hl => match us, hl with | [_], _ => rfl
  have F_Moment_width := fun_mk (st := s_Moment_width) l_Moment_width c_Moment_width k_Moment_width
  have b_Moment_width := F_Moment_width.binds (ps := ["self"]) fun _ _ _ _ _ _ us hl => match us, hl with | [_], _ => rfl
  have F_Moment_recorded := fun_mk (st := s_Moment_recorded) l_Moment_recorded c_Moment_recorded k_Moment_recorded
  have b_Moment_recorded := F_Moment_recorded.binds (ps := ["self"]) fun _ _ _ _ _ _ us hl => match us, hl with | [_], _ => rfl
  have F_Moment_holds_up := fun_mk (st := s_Moment_holds_up) l_Moment_holds_up c_Moment_holds_up k_Moment_holds_up
  have b_Moment_holds_up := F_Moment_holds_up.binds (ps := ["self", "session"]) fun _ _ _ _ _ _ us hl => match us, hl with | [_, _], _ => rfl
  have F_Moment_allows := fun_mk (st := s_Moment_allows) l_Moment_allows c_Moment_allows k_Moment_allows
  have b_Moment_allows := F_Moment_allows.binds (ps := ["self", "step"]) fun _ _ _ _ _ _ us hl => match us, hl with | [_, _], _ => rfl
  have F_Moment_hand_out := fun_mk (st := s_Moment_hand_out) l_Moment_hand_out c_Moment_hand_out k_Moment_hand_out
  have b_Moment_hand_out := F_Moment_hand_out.binds (ps := ["self", "session"]) fun _ _ _ _ _ _ us hl => match us, hl with | [_, _], _ => rfl
  have F_Moment_execute_statement := fun_mk (st := s_Moment_execute_statement) l_Moment_execute_statement c_Moment_execute_statement k_Moment_execute_statement
  have b_Moment_execute_statement := F_Moment_execute_statement.binds (ps := ["self", "session", "answer"]) fun _ _ _ _ _ _ us hl => match us, hl with | [_, _, _], _ => rfl
  have F_Moment_execute := fun_mk (st := s_Moment_execute) l_Moment_execute c_Moment_execute k_Moment_execute
  have b_Moment_execute := F_Moment_execute.binds (ps := ["self", "step"]) fun _ _ _ _ _ _ us hl => match us, hl with | [_, _], _ => rfl
  have F_Kind___init__ : FunD K "__init__" "Kind.__init__" (defArgs s_Kind___init__) (defBody s_Kind___init__) (defScope s_Kind___init__) [] [("block", .int 1), ("many", .int 1)] f_Kind___init__ _ := ⟨⟨_, _, _, _, _, _, _, _, _, _, rfl, l_Kind___init__, c_Kind___init__, .inl ⟨rfl, rfl⟩, .inr ⟨KD_Kind, rfl, fun q hq => by
    simp only [List.mem_cons, List.not_mem_nil, or_false] at hq
    rcases hq with rfl | rfl
    · exact ⟨_, kdKind_block, ⟨_, rfl⟩⟩
    · exact ⟨_, kdKind_many, ⟨_, rfl⟩⟩⟩⟩, k_Kind___init__⟩
  refine ⟨PySem.W.fnOf "law" "law" (defArgs s_law) (defBody s_law) (defScope s_law) .none kV_law dc_law pm_law an_law cd_law ct_law, fun s v => .of_eq rfl, fun base _ _ => ?_⟩
  have G_is_integer : Df l.prog w K mg base (Gam C_Record C_Script C_Check C_Moment C_Kind C_System) "is_integer" 1 m_is_integer := ⟨f_is_integer, _, _, (ok_is_integer (P := l.prog) (base := base) Wd  F_is_integer), b_is_integer, k_is_integer, PySem.W.mg_of X G a_is_integer⟩
  have G_is_within : Df l.prog w K mg base (Gam C_Record C_Script C_Check C_Moment C_Kind C_System) "is_within" 2 m_is_within := ⟨f_is_within, _, _, (ok_is_within (P := l.prog) (base := base) Wd G_is_integer F_is_within), b_is_within, k_is_within, PySem.W.mg_of X G a_is_within⟩
  have G_is_name : Df l.prog w K mg base (Gam C_Record C_Script C_Check C_Moment C_Kind C_System) "is_name" 1 m_is_name := ⟨f_is_name, _, _, (ok_is_name (P := l.prog) (base := base) Wd  F_is_name), b_is_name, k_is_name, PySem.W.mg_of X G a_is_name⟩
  have G_held_after : Df l.prog w K mg base (Gam C_Record C_Script C_Check C_Moment C_Kind C_System) "held_after" 1 m_held_after := ⟨f_held_after, _, _, (ok_held_after (P := l.prog) (base := base) Wd  F_held_after), b_held_after, k_held_after, PySem.W.mg_of X G a_held_after⟩
  have G_has_form : Df l.prog w K mg base (Gam C_Record C_Script C_Check C_Moment C_Kind C_System) "has_form" 1 m_has_form := ⟨f_has_form, _, _, (ok_has_form (P := l.prog) (base := base) Wd  F_has_form), b_has_form, k_has_form, PySem.W.mg_of X G a_has_form⟩
  have G_fault_of : Df l.prog w K mg base (Gam C_Record C_Script C_Check C_Moment C_Kind C_System) "fault_of" 2 m_fault_of := ⟨f_fault_of, _, _, (ok_fault_of (P := l.prog) (base := base) Wd G_has_form G_is_name F_fault_of), b_fault_of, k_fault_of, PySem.W.mg_of X G a_fault_of⟩
  have K_Check : Dk l.prog w K mg base (Gam C_Record C_Script C_Check C_Moment C_Kind C_System) 2 "Check" 1 m_Check___init__ := ⟨C_Check, f_Check___init__, _, _, rfl, PySem.W.mg_of X G aCheck, ⟨mkCheck, a_Check___init__, i_Check___init__, kcCheck⟩, (ok_Check___init__ (P := l.prog) (base := base) Wd  F_Check___init__), b_Check___init__⟩
  have GC := checks10 (P := l.prog) (base := base) (Γ := (Gam C_Record C_Script C_Check C_Moment C_Kind C_System)) Wd G_fault_of G_held_after F_Check_check_branch F_Check_check_statement b_Check_check_branch b_Check_check_statement rfl Cl_Check ⟨a_Check_check_branch, i_Check_check_branch, k_Check_check_branch⟩ ⟨a_Check_check_statement, i_Check_check_statement, k_Check_check_statement⟩ (by show _ ∉ gfs 2; decide +kernel) (by show _ ∉ gfs 2; decide +kernel) 6
  have G_Check_check_branch : Dm l.prog w K mg base (Gam C_Record C_Script C_Check C_Moment C_Kind C_System) 2 "check_branch" 11 m_Check_check_branch := GC.1
  have G_Check_check_statement := GC.2
  have K_Script : Dk l.prog w K mg base (Gam C_Record C_Script C_Check C_Moment C_Kind C_System) 1 "Script" 12 m_Script___init__ := ⟨C_Script, f_Script___init__, _, _, rfl, PySem.W.mg_of X G aScript, ⟨mkScript, a_Script___init__, i_Script___init__, kcScript⟩, (ok_Script___init__ (P := l.prog) (base := base) Wd G_Check_check_branch K_Check F_Script___init__), b_Script___init__⟩
  have O_Script___contains__ : Dn' l.prog w K mg base (Gam C_Record C_Script C_Check C_Moment C_Kind C_System) 1 "__contains__" 2 m_Script___contains__ := ⟨C_Script, f_Script___contains__, _, _, rfl, ⟨a_Script___contains__, i_Script___contains__⟩, fg_Script___contains__, (ok_Script___contains__ (P := l.prog) (base := base) Wd G_is_integer F_Script___contains__), b_Script___contains__⟩
  have O_Script___getitem__ : Dn' l.prog w K mg base (Gam C_Record C_Script C_Check C_Moment C_Kind C_System) 1 "__getitem__" 4 m_Script___getitem__ := ⟨C_Script, f_Script___getitem__, _, _, rfl, ⟨a_Script___getitem__, i_Script___getitem__⟩, fg_Script___getitem__, (ok_Script___getitem__ (P := l.prog) (base := base) Wd O_Script___contains__ F_Script___getitem__), b_Script___getitem__⟩
  have G_answers_of : Df l.prog w K mg base (Gam C_Record C_Script C_Check C_Moment C_Kind C_System) "answers_of" 1 m_answers_of := ⟨f_answers_of, _, _, (ok_answers_of (P := l.prog) (base := base) Wd  F_answers_of), b_answers_of, k_answers_of, PySem.W.mg_of X G a_answers_of⟩
  have G_is_answer : Df l.prog w K mg base (Gam C_Record C_Script C_Check C_Moment C_Kind C_System) "is_answer" 2 m_is_answer := ⟨f_is_answer, _, _, (ok_is_answer (P := l.prog) (base := base) Wd G_answers_of G_is_integer F_is_answer), b_is_answer, k_is_answer, PySem.W.mg_of X G a_is_answer⟩
  have G_Script_behind : Dm l.prog w K mg base (Gam C_Record C_Script C_Check C_Moment C_Kind C_System) 1 "behind" 1 m_Script_behind := ⟨⟨C_Script, f_Script_behind, _, _, rfl, Cl_Script, ⟨a_Script_behind, i_Script_behind, k_Script_behind⟩, (ok_Script_behind (P := l.prog) (base := base) Wd  F_Script_behind), b_Script_behind⟩, by show _ ∉ gfs 1; decide +kernel⟩
  have G_Script_after : Dm l.prog w K mg base (Gam C_Record C_Script C_Check C_Moment C_Kind C_System) 1 "after" 6 m_Script_after := ⟨⟨C_Script, f_Script_after, _, _, rfl, Cl_Script, ⟨a_Script_after, i_Script_after, k_Script_after⟩, (ok_Script_after (P := l.prog) (base := base) Wd G_Script_behind G_is_answer O_Script___getitem__ F_Script_after), b_Script_after⟩, by show _ ∉ gfs 1; decide +kernel⟩
  have G_with_lock : Df l.prog w K mg base (Gam C_Record C_Script C_Check C_Moment C_Kind C_System) "with_lock" 1 m_with_lock := ⟨f_with_lock, _, _, (ok_with_lock (P := l.prog) (base := base) Wd  F_with_lock), b_with_lock, k_with_lock, PySem.W.mg_of X G a_with_lock⟩
  have G_executed : Df l.prog w K mg base (Gam C_Record C_Script C_Check C_Moment C_Kind C_System) "executed" 7 m_executed := ⟨f_executed, _, _, (ok_executed (P := l.prog) (base := base) Wd G_Script_after G_with_lock O_Script___getitem__ F_executed), b_executed, k_executed, PySem.W.mg_of X G a_executed⟩
  have G_script_of : Df l.prog w K mg base (Gam C_Record C_Script C_Check C_Moment C_Kind C_System) "script_of" 14 m_script_of := ⟨f_script_of, _, _, (ok_script_of (P := l.prog) (base := base) Wd K_Script F_script_of), b_script_of, k_script_of, PySem.W.mg_of X G a_script_of⟩
  have K_Kind : Dkk l.prog w K mg base (Gam C_Record C_Script C_Check C_Moment C_Kind C_System) 4 "Kind" 15 m_Kind___init__ 2 ["block"] gKind := kind_kk Wd G_is_name G_is_within G_script_of F_Kind___init__ rfl (PySem.W.mg_of X G aKind) ⟨mkKind, a_Kind___init__, i_Kind___init__, kcKind⟩
  have G_count_of_sessions : Df l.prog w K mg base (Gam C_Record C_Script C_Check C_Moment C_Kind C_System) "count_of_sessions" 1 m_count_of_sessions := ⟨f_count_of_sessions, _, _, (ok_count_of_sessions (P := l.prog) (base := base) Wd  F_count_of_sessions), b_count_of_sessions, k_count_of_sessions, PySem.W.mg_of X G a_count_of_sessions⟩
  have G_are_kinds : Df l.prog w K mg base (Gam C_Record C_Script C_Check C_Moment C_Kind C_System) "are_kinds" 2 m_are_kinds := ⟨f_are_kinds, _, _, (ok_are_kinds (P := l.prog) (base := base) Wd G_count_of_sessions F_are_kinds), b_are_kinds, k_are_kinds, PySem.W.mg_of X G a_are_kinds⟩
  have G_fault_of_system : Df l.prog w K mg base (Gam C_Record C_Script C_Check C_Moment C_Kind C_System) "fault_of_system" 3 m_fault_of_system := ⟨f_fault_of_system, _, _, (ok_fault_of_system (P := l.prog) (base := base) Wd G_are_kinds G_count_of_sessions G_is_within F_fault_of_system), b_fault_of_system, k_fault_of_system, PySem.W.mg_of X G a_fault_of_system⟩
  have K_System : Dks l.prog w K mg base (Gam C_Record C_Script C_Check C_Moment C_Kind C_System) 5 "System" 4 m_System___init__ [] gSystem := sys_ks Wd G_fault_of_system l_System___init__ c_System___init__ kdSystem_ahead kdSystem_window kdSystem_crashes rfl (PySem.W.mg_of X G aSystem) ⟨mkSystem, a_System___init__, i_System___init__, kcSystem⟩
  have O_System___getitem__ : Dn' l.prog w K mg base (Gam C_Record C_Script C_Check C_Moment C_Kind C_System) 5 "__getitem__" 1 m_System___getitem__ := ⟨C_System, f_System___getitem__, _, _, rfl, ⟨a_System___getitem__, i_System___getitem__⟩, fg_System___getitem__, (ok_System___getitem__ (P := l.prog) (base := base) Wd  F_System___getitem__), b_System___getitem__⟩
  have G_System_kind_of : Dm l.prog w K mg base (Gam C_Record C_Script C_Check C_Moment C_Kind C_System) 5 "kind_of" 3 m_System_kind_of := ⟨⟨C_System, f_System_kind_of, _, _, rfl, Cl_System, ⟨a_System_kind_of, i_System_kind_of, k_System_kind_of⟩, (ok_System_kind_of (P := l.prog) (base := base) Wd G_is_within O_System___getitem__ F_System_kind_of), b_System_kind_of⟩, by show _ ∉ gfs 5; decide +kernel⟩
  have G_next_statement : Df l.prog w K mg base (Gam C_Record C_Script C_Check C_Moment C_Kind C_System) "next_statement" 6 m_next_statement := ⟨f_next_statement, _, _, (ok_next_statement (P := l.prog) (base := base) Wd G_System_kind_of O_Script___getitem__ F_next_statement), b_next_statement, k_next_statement, PySem.W.mg_of X G a_next_statement⟩
  have G_needs_block : Df l.prog w K mg base (Gam C_Record C_Script C_Check C_Moment C_Kind C_System) "needs_block" 7 m_needs_block := ⟨f_needs_block, _, _, (ok_needs_block (P := l.prog) (base := base) Wd G_next_statement F_needs_block), b_needs_block, k_needs_block, PySem.W.mg_of X G a_needs_block⟩
  have G_must_wait : Df l.prog w K mg base (Gam C_Record C_Script C_Check C_Moment C_Kind C_System) "must_wait" 8 m_must_wait := ⟨f_must_wait, _, _, (ok_must_wait (P := l.prog) (base := base) Wd G_System_kind_of G_needs_block G_next_statement F_must_wait), b_must_wait, k_must_wait, PySem.W.mg_of X G a_must_wait⟩
  have G_reserve_after : Df l.prog w K mg base (Gam C_Record C_Script C_Check C_Moment C_Kind C_System) "reserve_after" 1 m_reserve_after := ⟨f_reserve_after, _, _, (ok_reserve_after (P := l.prog) (base := base) Wd  F_reserve_after), b_reserve_after, k_reserve_after, PySem.W.mg_of X G a_reserve_after⟩
  have G_is_crash : Df l.prog w K mg base (Gam C_Record C_Script C_Check C_Moment C_Kind C_System) "is_crash" 1 m_is_crash := ⟨f_is_crash, _, _, (ok_is_crash (P := l.prog) (base := base) Wd  F_is_crash), b_is_crash, k_is_crash, PySem.W.mg_of X G a_is_crash⟩
  have K_Record : Dk l.prog w K mg base (Gam C_Record C_Script C_Check C_Moment C_Kind C_System) 0 "Record" 1 m_Record___init__ := ⟨C_Record, f_Record___init__, _, _, rfl, PySem.W.mg_of X G aRecord, ⟨mkRecord, a_Record___init__, i_Record___init__, kcRecord⟩, (ok_Record___init__ (P := l.prog) (base := base) Wd  F_Record___init__), b_Record___init__⟩
  have K_Moment : Dk l.prog w K mg base (Gam C_Record C_Script C_Check C_Moment C_Kind C_System) 3 "Moment" 1 m_Moment___init__ := ⟨C_Moment, f_Moment___init__, _, _, rfl, PySem.W.mg_of X G aMoment, ⟨mkMoment, a_Moment___init__, i_Moment___init__, kcMoment⟩, (ok_Moment___init__ (P := l.prog) (base := base) Wd  F_Moment___init__), b_Moment___init__⟩
  have G_Moment_owners : Dm l.prog w K mg base (Gam C_Record C_Script C_Check C_Moment C_Kind C_System) 3 "owners" 1 m_Moment_owners := ⟨⟨C_Moment, f_Moment_owners, _, _, rfl, Cl_Moment, ⟨a_Moment_owners, i_Moment_owners, k_Moment_owners⟩, (ok_Moment_owners (P := l.prog) (base := base) Wd  F_Moment_owners), b_Moment_owners⟩, by show _ ∉ gfs 3; decide +kernel⟩
  have G_Moment_width : Dm l.prog w K mg base (Gam C_Record C_Script C_Check C_Moment C_Kind C_System) 3 "width" 2 m_Moment_width := ⟨⟨C_Moment, f_Moment_width, _, _, rfl, Cl_Moment, ⟨a_Moment_width, i_Moment_width, k_Moment_width⟩, (ok_Moment_width (P := l.prog) (base := base) Wd G_Moment_owners F_Moment_width), b_Moment_width⟩, by show _ ∉ gfs 3; decide +kernel⟩
  have G_Moment_recorded : Dm l.prog w K mg base (Gam C_Record C_Script C_Check C_Moment C_Kind C_System) 3 "recorded" 3 m_Moment_recorded := ⟨⟨C_Moment, f_Moment_recorded, _, _, rfl, Cl_Moment, ⟨a_Moment_recorded, i_Moment_recorded, k_Moment_recorded⟩, (ok_Moment_recorded (P := l.prog) (base := base) Wd G_Moment_owners K_Record F_Moment_recorded), b_Moment_recorded⟩, by show _ ∉ gfs 3; decide +kernel⟩
  have G_Moment_holds_up : Dm l.prog w K mg base (Gam C_Record C_Script C_Check C_Moment C_Kind C_System) 3 "holds_up" 9 m_Moment_holds_up := ⟨⟨C_Moment, f_Moment_holds_up, _, _, rfl, Cl_Moment, ⟨a_Moment_holds_up, i_Moment_holds_up, k_Moment_holds_up⟩, (ok_Moment_holds_up (P := l.prog) (base := base) Wd G_Moment_width G_must_wait F_Moment_holds_up), b_Moment_holds_up⟩, by show _ ∉ gfs 3; decide +kernel⟩
  have G_Moment_allows : Dm l.prog w K mg base (Gam C_Record C_Script C_Check C_Moment C_Kind C_System) 3 "allows" 10 m_Moment_allows := ⟨⟨C_Moment, f_Moment_allows, _, _, rfl, Cl_Moment, ⟨a_Moment_allows, i_Moment_allows, k_Moment_allows⟩, (ok_Moment_allows (P := l.prog) (base := base) Wd G_Moment_holds_up G_is_answer G_is_crash G_is_within G_next_statement F_Moment_allows), b_Moment_allows⟩, by show _ ∉ gfs 3; decide +kernel⟩
  have G_Moment_hand_out : Dm l.prog w K mg base (Gam C_Record C_Script C_Check C_Moment C_Kind C_System) 3 "hand_out" 4 m_Moment_hand_out := ⟨⟨C_Moment, f_Moment_hand_out, _, _, rfl, Cl_Moment, ⟨a_Moment_hand_out, i_Moment_hand_out, k_Moment_hand_out⟩, (ok_Moment_hand_out (P := l.prog) (base := base) Wd G_System_kind_of G_reserve_after F_Moment_hand_out), b_Moment_hand_out⟩, by show _ ∉ gfs 3; decide +kernel⟩
  have G_Moment_execute_statement : Dm l.prog w K mg base (Gam C_Record C_Script C_Check C_Moment C_Kind C_System) 3 "execute_statement" 8 m_Moment_execute_statement := ⟨⟨C_Moment, f_Moment_execute_statement, _, _, rfl, Cl_Moment, ⟨a_Moment_execute_statement, i_Moment_execute_statement, k_Moment_execute_statement⟩, (ok_Moment_execute_statement (P := l.prog) (base := base) Wd G_Moment_hand_out G_System_kind_of G_executed G_needs_block F_Moment_execute_statement), b_Moment_execute_statement⟩, by show _ ∉ gfs 3; decide +kernel⟩
  have G_Moment_execute : Dm l.prog w K mg base (Gam C_Record C_Script C_Check C_Moment C_Kind C_System) 3 "execute" 9 m_Moment_execute := ⟨⟨C_Moment, f_Moment_execute, _, _, rfl, Cl_Moment, ⟨a_Moment_execute, i_Moment_execute, k_Moment_execute⟩, (ok_Moment_execute (P := l.prog) (base := base) Wd G_Moment_execute_statement G_Moment_width G_is_crash F_Moment_execute), b_Moment_execute⟩, by show _ ∉ gfs 3; decide +kernel⟩
  have G_follow : Df l.prog w K mg base (Gam C_Record C_Script C_Check C_Moment C_Kind C_System) "follow" 11 m_follow := ⟨f_follow, _, _, (ok_follow (P := l.prog) (base := base) Wd G_Moment_allows G_Moment_execute F_follow), b_follow, k_follow, PySem.W.mg_of X G a_follow⟩
  have G_run : Df l.prog w K mg base (Gam C_Record C_Script C_Check C_Moment C_Kind C_System) "run" 12 m_run := ⟨f_run, _, _, (ok_run (P := l.prog) (base := base) Wd G_Moment_recorded G_follow K_Moment F_run), b_run, k_run, PySem.W.mg_of X G a_run⟩
  have G__law_pool : Df l.prog w K mg base (Gam C_Record C_Script C_Check C_Moment C_Kind C_System) "_law_pool" 1 m__law_pool := ⟨f__law_pool, _, _, (ok__law_pool (P := l.prog) (base := base) Wd  F__law_pool), b__law_pool, k__law_pool, PySem.W.mg_of X G a__law_pool⟩
  have G__law_draw : Df l.prog w K mg base (Gam C_Record C_Script C_Check C_Moment C_Kind C_System) "_law_draw" 1 m__law_draw := ⟨f__law_draw, _, _, (ok__law_draw (P := l.prog) (base := base) Wd  F__law_draw), b__law_draw, k__law_draw, PySem.W.mg_of X G a__law_draw⟩
  have G__law_names : Df l.prog w K mg base (Gam C_Record C_Script C_Check C_Moment C_Kind C_System) "_law_names" 2 m__law_names := ⟨f__law_names, _, _, (ok__law_names (P := l.prog) (base := base) Wd G__law_draw F__law_names), b__law_names, k__law_names, PySem.W.mg_of X G a__law_names⟩
  exact law_fn (ok_law (P := l.prog) (base := base) Wd G__law_draw G__law_names G__law_pool G_run K_Kind K_System F_law)
end Mm
open PySem PySem.W PyProof.Rows
set_option maxRecDepth 100000 in
set_option maxHeartbeats 0 in
theorem PySem.Challenge.cw_takenahead_k10_run_one_session_holds : PySem.Challenge.rw_takenahead_k10_run_one_session.Holds := by
  w_on; o_law; k_head; (case hw => w_witness2)
  k_fill
  refine Mm.walk10 (l := PySem.Challenge.rw_takenahead_k10_run_one_session) rfl rfl (fun w h Y => PySem.W.kIn_of Y) ?F
  case F =>
    intro w mg fa h KX G hmg
    refine' Mm.all_mk KX G hmg ?aRecord ?pgRecord ?hdRecord ?poRecord ?saRecord ?mkRecord ?kcRecord ?nRecord_commits ?nRecord_crashes ?nRecord_height ?nRecord_lost ?nRecord_noted ?nRecord_out ?nRecord_spread ?aScript ?pgScript ?hdScript ?poScript ?saScript ?mkScript ?kcScript ?nScript_found ?nScript_places ?nScript_statements ?aCheck ?pgCheck ?hdCheck ?poCheck ?saCheck ?mkCheck ?kcCheck ?nCheck_found ?aMoment ?pgMoment ?hdMoment ?poMoment ?saMoment ?mkMoment ?kcMoment ?nMoment_commits ?nMoment_crashes ?nMoment_done ?nMoment_height ?nMoment_lost ?nMoment_origin ?nMoment_reserve ?nMoment_sessions ?nMoment_spread ?nMoment_system ?aKind ?pgKind ?hdKind ?poKind ?saKind ?mkKind ?kcKind ?nKind_block ?nKind_many ?nKind_name ?nKind_script ?aSystem ?pgSystem ?hdSystem ?poSystem ?saSystem ?mkSystem ?kcSystem ?nSystem_ahead ?nSystem_crashes ?nSystem_kinds ?nSystem_sessions ?nSystem_window ?cn ?ct ?caScript ?obScript ?icScript ?tcScript ?uScript_tuple ?caKind ?obKind ?icKind ?tcKind ?a_is_integer ?l_is_integer ?c_is_integer ?k_is_integer ?a_is_within ?l_is_within ?c_is_within ?k_is_within ?a_is_name ?l_is_name ?c_is_name ?k_is_name ?a_held_after ?l_held_after ?c_held_after ?k_held_after ?a_has_form ?l_has_form ?c_has_form ?k_has_form ?a_fault_of ?l_fault_of ?c_fault_of ?k_fault_of ?a_answers_of ?l_answers_of ?c_answers_of ?k_answers_of ?a_is_answer ?l_is_answer ?c_is_answer ?k_is_answer ?a_with_lock ?l_with_lock ?c_with_lock ?k_with_lock ?a_executed ?l_executed ?c_executed ?k_executed ?a_script_of ?l_script_of ?c_script_of ?k_script_of ?a_count_of_sessions ?l_count_of_sessions ?c_count_of_sessions ?k_count_of_sessions ?a_are_kinds ?l_are_kinds ?c_are_kinds ?k_are_kinds ?a_fault_of_system ?l_fault_of_system ?c_fault_of_system ?k_fault_of_system ?a_next_statement ?l_next_statement ?c_next_statement ?k_next_statement ?a_needs_block ?l_needs_block ?c_needs_block ?k_needs_block ?a_must_wait ?l_must_wait ?c_must_wait ?k_must_wait ?a_reserve_after ?l_reserve_after ?c_reserve_after ?k_reserve_after ?a_is_crash ?l_is_crash ?c_is_crash ?k_is_crash ?a_follow ?l_follow ?c_follow ?k_follow ?a_run ?l_run ?c_run ?k_run ?a__law_pool ?l__law_pool ?c__law_pool ?k__law_pool ?a__law_draw ?l__law_draw ?c__law_draw ?k__law_draw ?a__law_names ?l__law_names ?c__law_names ?k__law_names ?a_law ?l_law ?c_law ?k_law ?a_Check___init__ ?i_Check___init__ ?l_Check___init__ ?c_Check___init__ ?k_Check___init__ ?a_Check_check_branch ?i_Check_check_branch ?l_Check_check_branch ?c_Check_check_branch ?k_Check_check_branch ?a_Check_check_statement ?i_Check_check_statement ?l_Check_check_statement ?c_Check_check_statement ?k_Check_check_statement ?a_Script___init__ ?i_Script___init__ ?l_Script___init__ ?c_Script___init__ ?k_Script___init__ ?a_Script___contains__ ?i_Script___contains__ ?l_Script___contains__ ?c_Script___contains__ ?k_Script___contains__ ?fg_Script___contains__ ?a_Script___getitem__ ?i_Script___getitem__ ?l_Script___getitem__ ?c_Script___getitem__ ?k_Script___getitem__ ?fg_Script___getitem__ ?a_Script_behind ?i_Script_behind ?l_Script_behind ?c_Script_behind ?k_Script_behind ?a_Script_after ?i_Script_after ?l_Script_after ?c_Script_after ?k_Script_after ?lT_Script_after ?a_Kind___init__ ?i_Kind___init__ ?l_Kind___init__ ?c_Kind___init__ ?k_Kind___init__ ?a_System___init__ ?i_System___init__ ?l_System___init__ ?c_System___init__ ?k_System___init__ ?a_System___getitem__ ?i_System___getitem__ ?l_System___getitem__ ?c_System___getitem__ ?k_System___getitem__ ?fg_System___getitem__ ?a_System_kind_of ?i_System_kind_of ?l_System_kind_of ?c_System_kind_of ?k_System_kind_of ?a_Record___init__ ?i_Record___init__ ?l_Record___init__ ?c_Record___init__ ?k_Record___init__ ?a_Moment___init__ ?i_Moment___init__ ?l_Moment___init__ ?c_Moment___init__ ?k_Moment___init__ ?a_Moment_owners ?i_Moment_owners ?l_Moment_owners ?c_Moment_owners ?k_Moment_owners ?a_Moment_width ?i_Moment_width ?l_Moment_width ?c_Moment_width ?k_Moment_width ?a_Moment_recorded ?i_Moment_recorded ?l_Moment_recorded ?c_Moment_recorded ?k_Moment_recorded ?a_Moment_holds_up ?i_Moment_holds_up ?l_Moment_holds_up ?c_Moment_holds_up ?k_Moment_holds_up ?a_Moment_allows ?i_Moment_allows ?l_Moment_allows ?c_Moment_allows ?k_Moment_allows ?a_Moment_hand_out ?i_Moment_hand_out ?l_Moment_hand_out ?c_Moment_hand_out ?k_Moment_hand_out ?a_Moment_execute_statement ?i_Moment_execute_statement ?l_Moment_execute_statement ?c_Moment_execute_statement ?k_Moment_execute_statement ?a_Moment_execute ?i_Moment_execute ?l_Moment_execute ?c_Moment_execute ?k_Moment_execute ?kdKind_block ?kdKind_many ?kdSystem_ahead ?kdSystem_window ?kdSystem_crashes ?z_all ?z_any ?z_bool ?z_enumerate ?z_int ?z_isinstance ?z_len ?z_list ?z_max ?z_range ?z_set ?z_sorted ?z_str ?z_sum ?z_tuple ?v_LONGEST_NAME ?v_MOST_AHEAD ?v_MOST_BLOCK ?v_MOST_CRASHES ?v_MOST_HELD ?v_MOST_NESTED ?v_MOST_SESSIONS ?v_MOST_STATEMENTS ?v_MOST_WINDOW ?v_FRESH ?lGFRESH ?eGFRESH ?lGFRESH_0 ?eGFRESH_0 ?lGFRESH_1 ?eGFRESH_1 ?lGFRESH_2 ?eGFRESH_2 ?lGFRESH_3 ?eGFRESH_3 ?v_ITEMS ?lkITEMS ?klITEMS ?smITEMS ?eITEMS_take ?eITEMS_commit ?eITEMS_rollback ?eITEMS_drop ?eITEMS_leave ?eITEMS_lock ?eITEMS_unlock ?eITEMS_choose
    (case aRecord => k_is)
    (case pgRecord => k_is)
    (case hdRecord => k_is)
    (case poRecord => k_is)
    (case saRecord => k_is)
    (case mkRecord => k_is)
    (case kcRecord => k_is)
    (case nRecord_commits => k_is)
    (case nRecord_crashes => k_is)
    (case nRecord_height => k_is)
    (case nRecord_lost => k_is)
    (case nRecord_noted => k_is)
    (case nRecord_out => k_is)
    (case nRecord_spread => k_is)
    (case aScript => k_is)
    (case pgScript => k_is)
    (case hdScript => k_is)
    (case poScript => k_is)
    (case saScript => k_is)
    (case mkScript => k_is)
    (case kcScript => k_is)
    (case nScript_found => k_is)
    (case nScript_places => k_is)
    (case nScript_statements => k_is)
    (case aCheck => k_is)
    (case pgCheck => k_is)
    (case hdCheck => k_is)
    (case poCheck => k_is)
    (case saCheck => k_is)
    (case mkCheck => k_is)
    (case kcCheck => k_is)
    (case nCheck_found => k_is)
    (case aMoment => k_is)
    (case pgMoment => k_is)
    (case hdMoment => k_is)
    (case poMoment => k_is)
    (case saMoment => k_is)
    (case mkMoment => k_is)
    (case kcMoment => k_is)
    (case nMoment_commits => k_is)
    (case nMoment_crashes => k_is)
    (case nMoment_done => k_is)
    (case nMoment_height => k_is)
    (case nMoment_lost => k_is)
    (case nMoment_origin => k_is)
    (case nMoment_reserve => k_is)
    (case nMoment_sessions => k_is)
    (case nMoment_spread => k_is)
    (case nMoment_system => k_is)
    (case aKind => k_is)
    (case pgKind => k_is)
    (case hdKind => k_is)
    (case poKind => k_is)
    (case saKind => k_is)
    (case mkKind => k_is)
    (case kcKind => k_is)
    (case nKind_block => k_is)
    (case nKind_many => k_is)
    (case nKind_name => k_is)
    (case nKind_script => k_is)
    (case aSystem => k_is)
    (case pgSystem => k_is)
    (case hdSystem => k_is)
    (case poSystem => k_is)
    (case saSystem => k_is)
    (case mkSystem => k_is)
    (case kcSystem => k_is)
    (case nSystem_ahead => k_is)
    (case nSystem_crashes => k_is)
    (case nSystem_kinds => k_is)
    (case nSystem_sessions => k_is)
    (case nSystem_window => k_is)
    (case cn => k_is)
    (case ct => k_is)
    (case caScript => k_is)
    (case obScript => k_is)
    (case icScript => k_is)
    (case tcScript => k_is)
    (case uScript_tuple => k_is)
    (case caKind => k_is)
    (case obKind => k_is)
    (case icKind => k_is)
    (case tcKind => k_is)
    (case a_is_integer => k_is)
    (case l_is_integer => k_is)
    (case c_is_integer => k_is)
    (case k_is_integer => k_is)
    (case a_is_within => k_is)
    (case l_is_within => k_is)
    (case c_is_within => k_is)
    (case k_is_within => k_is)
    (case a_is_name => k_is)
    (case l_is_name => k_is)
    (case c_is_name => k_is)
    (case k_is_name => k_is)
    (case a_held_after => k_is)
    (case l_held_after => k_is)
    (case c_held_after => k_is)
    (case k_held_after => k_is)
    (case a_has_form => k_is)
    (case l_has_form => k_is)
    (case c_has_form => k_is)
    (case k_has_form => k_is)
    (case a_fault_of => k_is)
    (case l_fault_of => k_is)
    (case c_fault_of => k_is)
    (case k_fault_of => k_is)
    (case a_answers_of => k_is)
    (case l_answers_of => k_is)
    (case c_answers_of => k_is)
    (case k_answers_of => k_is)
    (case a_is_answer => k_is)
    (case l_is_answer => k_is)
    (case c_is_answer => k_is)
    (case k_is_answer => k_is)
    (case a_with_lock => k_is)
    (case l_with_lock => k_is)
    (case c_with_lock => k_is)
    (case k_with_lock => k_is)
    (case a_executed => k_is)
    (case l_executed => k_is)
    (case c_executed => k_is)
    (case k_executed => k_is)
    (case a_script_of => k_is)
    (case l_script_of => k_is)
    (case c_script_of => k_is)
    (case k_script_of => k_is)
    (case a_count_of_sessions => k_is)
    (case l_count_of_sessions => k_is)
    (case c_count_of_sessions => k_is)
    (case k_count_of_sessions => k_is)
    (case a_are_kinds => k_is)
    (case l_are_kinds => k_is)
    (case c_are_kinds => k_is)
    (case k_are_kinds => k_is)
    (case a_fault_of_system => k_is)
    (case l_fault_of_system => k_is)
    (case c_fault_of_system => k_is)
    (case k_fault_of_system => k_is)
    (case a_next_statement => k_is)
    (case l_next_statement => k_is)
    (case c_next_statement => k_is)
    (case k_next_statement => k_is)
    (case a_needs_block => k_is)
    (case l_needs_block => k_is)
    (case c_needs_block => k_is)
    (case k_needs_block => k_is)
    (case a_must_wait => k_is)
    (case l_must_wait => k_is)
    (case c_must_wait => k_is)
    (case k_must_wait => k_is)
    (case a_reserve_after => k_is)
    (case l_reserve_after => k_is)
    (case c_reserve_after => k_is)
    (case k_reserve_after => k_is)
    (case a_is_crash => k_is)
    (case l_is_crash => k_is)
    (case c_is_crash => k_is)
    (case k_is_crash => k_is)
    (case a_follow => k_is)
    (case l_follow => k_is)
    (case c_follow => k_is)
    (case k_follow => k_is)
    (case a_run => k_is)
    (case l_run => k_is)
    (case c_run => k_is)
    (case k_run => k_is)
    (case a__law_pool => k_is)
    (case l__law_pool => k_is)
    (case c__law_pool => k_is)
    (case k__law_pool => k_is)
    (case a__law_draw => k_is)
    (case l__law_draw => k_is)
    (case c__law_draw => k_is)
    (case k__law_draw => k_is)
    (case a__law_names => k_is)
    (case l__law_names => k_is)
    (case c__law_names => k_is)
    (case k__law_names => k_is)
    (case a_law => k_is)
    (case l_law => k_is)
    (case c_law => k_is)
    (case k_law => k_is)
    (case a_Check___init__ => k_is)
    (case i_Check___init__ => k_is)
    (case l_Check___init__ => k_is)
    (case c_Check___init__ => k_is)
    (case k_Check___init__ => k_is)
    (case a_Check_check_branch => k_is)
    (case i_Check_check_branch => k_is)
    (case l_Check_check_branch => k_is)
    (case c_Check_check_branch => k_is)
    (case k_Check_check_branch => k_is)
    (case a_Check_check_statement => k_is)
    (case i_Check_check_statement => k_is)
    (case l_Check_check_statement => k_is)
    (case c_Check_check_statement => k_is)
    (case k_Check_check_statement => k_is)
    (case a_Script___init__ => k_is)
    (case i_Script___init__ => k_is)
    (case l_Script___init__ => k_is)
    (case c_Script___init__ => k_is)
    (case k_Script___init__ => k_is)
    (case a_Script___contains__ => k_is)
    (case i_Script___contains__ => k_is)
    (case l_Script___contains__ => k_is)
    (case c_Script___contains__ => k_is)
    (case k_Script___contains__ => k_is)
    (case fg_Script___contains__ => k_is)
    (case a_Script___getitem__ => k_is)
    (case i_Script___getitem__ => k_is)
    (case l_Script___getitem__ => k_is)
    (case c_Script___getitem__ => k_is)
    (case k_Script___getitem__ => k_is)
    (case fg_Script___getitem__ => k_is)
    (case a_Script_behind => k_is)
    (case i_Script_behind => k_is)
    (case l_Script_behind => k_is)
    (case c_Script_behind => k_is)
    (case k_Script_behind => k_is)
    (case a_Script_after => k_is)
    (case i_Script_after => k_is)
    (case l_Script_after => k_is)
    (case c_Script_after => k_is)
    (case k_Script_after => k_is)
    (case lT_Script_after => k_is)
    (case a_Kind___init__ => k_is)
    (case i_Kind___init__ => k_is)
    (case l_Kind___init__ => k_is)
    (case c_Kind___init__ => k_is)
    (case k_Kind___init__ => k_is)
    (case a_System___init__ => k_is)
    (case i_System___init__ => k_is)
    (case l_System___init__ => k_is)
    (case c_System___init__ => k_is)
    (case k_System___init__ => k_is)
    (case a_System___getitem__ => k_is)
    (case i_System___getitem__ => k_is)
    (case l_System___getitem__ => k_is)
    (case c_System___getitem__ => k_is)
    (case k_System___getitem__ => k_is)
    (case fg_System___getitem__ => k_is)
    (case a_System_kind_of => k_is)
    (case i_System_kind_of => k_is)
    (case l_System_kind_of => k_is)
    (case c_System_kind_of => k_is)
    (case k_System_kind_of => k_is)
    (case a_Record___init__ => k_is)
    (case i_Record___init__ => k_is)
    (case l_Record___init__ => k_is)
    (case c_Record___init__ => k_is)
    (case k_Record___init__ => k_is)
    (case a_Moment___init__ => k_is)
    (case i_Moment___init__ => k_is)
    (case l_Moment___init__ => k_is)
    (case c_Moment___init__ => k_is)
    (case k_Moment___init__ => k_is)
    (case a_Moment_owners => k_is)
    (case i_Moment_owners => k_is)
    (case l_Moment_owners => k_is)
    (case c_Moment_owners => k_is)
    (case k_Moment_owners => k_is)
    (case a_Moment_width => k_is)
    (case i_Moment_width => k_is)
    (case l_Moment_width => k_is)
    (case c_Moment_width => k_is)
    (case k_Moment_width => k_is)
    (case a_Moment_recorded => k_is)
    (case i_Moment_recorded => k_is)
    (case l_Moment_recorded => k_is)
    (case c_Moment_recorded => k_is)
    (case k_Moment_recorded => k_is)
    (case a_Moment_holds_up => k_is)
    (case i_Moment_holds_up => k_is)
    (case l_Moment_holds_up => k_is)
    (case c_Moment_holds_up => k_is)
    (case k_Moment_holds_up => k_is)
    (case a_Moment_allows => k_is)
    (case i_Moment_allows => k_is)
    (case l_Moment_allows => k_is)
    (case c_Moment_allows => k_is)
    (case k_Moment_allows => k_is)
    (case a_Moment_hand_out => k_is)
    (case i_Moment_hand_out => k_is)
    (case l_Moment_hand_out => k_is)
    (case c_Moment_hand_out => k_is)
    (case k_Moment_hand_out => k_is)
    (case a_Moment_execute_statement => k_is)
    (case i_Moment_execute_statement => k_is)
    (case l_Moment_execute_statement => k_is)
    (case c_Moment_execute_statement => k_is)
    (case k_Moment_execute_statement => k_is)
    (case a_Moment_execute => k_is)
    (case i_Moment_execute => k_is)
    (case l_Moment_execute => k_is)
    (case c_Moment_execute => k_is)
    (case k_Moment_execute => k_is)
    (case kdKind_block => k_is)
    (case kdKind_many => k_is)
    (case kdSystem_ahead => k_is)
    (case kdSystem_window => k_is)
    (case kdSystem_crashes => k_is)
    (case z_all => k_is)
    (case z_any => k_is)
    (case z_bool => k_is)
    (case z_enumerate => k_is)
    (case z_int => k_is)
    (case z_isinstance => k_is)
    (case z_len => k_is)
    (case z_list => k_is)
    (case z_max => k_is)
    (case z_range => k_is)
    (case z_set => k_is)
    (case z_sorted => k_is)
    (case z_str => k_is)
    (case z_sum => k_is)
    (case z_tuple => k_is)
    (case v_LONGEST_NAME => k_is)
    (case v_MOST_AHEAD => k_is)
    (case v_MOST_BLOCK => k_is)
    (case v_MOST_CRASHES => k_is)
    (case v_MOST_HELD => k_is)
    (case v_MOST_NESTED => k_is)
    (case v_MOST_SESSIONS => k_is)
    (case v_MOST_STATEMENTS => k_is)
    (case v_MOST_WINDOW => k_is)
    (case v_FRESH => k_is)
    (case lGFRESH => k_is)
    (case eGFRESH => rfl)
    (case lGFRESH_0 => k_is)
    (case eGFRESH_0 => rfl)
    (case lGFRESH_1 => k_is)
    (case eGFRESH_1 => rfl)
    (case lGFRESH_2 => k_is)
    (case eGFRESH_2 => rfl)
    (case lGFRESH_3 => k_is)
    (case eGFRESH_3 => rfl)
    (case v_ITEMS => k_is)
    (case lkITEMS => k_is)
    (case klITEMS => (repeat (first | exact trivial | refine ⟨⟨_, _, rfl, rfl⟩, ?_⟩)))
    (case smITEMS => first | rfl | decide)
    (case eITEMS_take => k_is)
    (case eITEMS_commit => k_is)
    (case eITEMS_rollback => k_is)
    (case eITEMS_drop => k_is)
    (case eITEMS_leave => k_is)
    (case eITEMS_lock => k_is)
    (case eITEMS_unlock => k_is)
    (case eITEMS_choose => k_is)
