import PyProof.Rows.All
import Wide.All
import OpenK.AllK
import Wide.FinOn
import HandS.ForMost
import HandS.Exc
import HandS.TupAny
import HandS.TupMul
import HandS.Deep
import HandS.Wide
import HandS.IsInst
import HandS.TupLen
import HandS.TupLe
import HandS.Conv
import HandS.More
import HandS.OwnEq
import KE.GoesMore
import HandS.Zip
import HandS.ExcOwn
import HandS.WordsExc
import HandS.Defaults
import HandS.ExcInit
import HandS.ExcField
import HandS.ExcIs
import HandS.DeepEq
import KE.KExcIs
import PyProof.NeKinds
import HandS.MakeKwOnly
import HandS.Star
import KE.KStar
import HandS.Strs
import HandS.SortKw
import PyProof.MinMaxWalk
import PyProof.WalkInts
import KE.KMinKey
import HandS.Flow
import HandS.AnyAll
import PyProof.AutoSeq1
import HandS.DictTup
import HandS.DictComp
import HandS.Style
import PyProof.Rows.StrMeet
import PyProof.RulesAssignMore
import HandS.TryOnly
import HandS.Iter
import KE.SortKeyHeap
import KE.SortUse
import PyProof.Straight
import HandS.Text
import HandS.FStr
import HandS.Ends
import HandS.Walk
import PySem.Challenge.RW_takenahead_k74_systems_are_written
set_option Elab.async false
set_option linter.all false
set_option maxRecDepth 100000
/-! Plain data for the values of a program: trees D, a store of what changes, and what it means that a heap holds them. -/
namespace Mm
open PySem L2
inductive D where
  | non | bl (b : Bool) | int (i : Int) | str (x : Str)
  | tup (ds : List D) | lst (ds : List D) | dic (ks vs : List D) | obj (c : Nat) (ds : List D)
  | fz (ns : List Int) | loc (n : Nat) | oth (v : V) | ttp (ds : List D) | xn (k : Nat) (ds : List D)
  deriving Inhabited
inductive SO where
  | lst (ds : List D) | dic (ks vs : List D) | ins (c : Nat) (ds : List D)
  deriving Inhabited
structure Exn where
  c : Nat
  ds : List D
inductive R (α : Type) where
  | ok (a : α) (S : List SO) | ex (x : Exn) (S : List SO) | bad
def R.bind {α β : Type} (r : R α) (f : α → List SO → R β) : R β := match r with
  | .ok a S => f a S
  | .ex x S => .ex x S
  | .bad => .bad
@[simp] theorem R.bind_ok {α β : Type} (a : α) (S : List SO) (f : α → List SO → R β) : (R.ok a S).bind f = f a S := rfl
@[simp] theorem R.bind_ex {α β : Type} (x : Exn) (S : List SO) (f : α → List SO → R β) : (R.ex x S : R α).bind f = .ex x S := rfl
@[simp] theorem R.bind_bad {α β : Type} (f : α → List SO → R β) : (R.bad : R α).bind f = .bad := rfl
abbrev Env := List (Option D)
abbrev Sto := List SO
abbrev EM := Env → Sto → R D
/-- where the store's places stand in the heap; what is never changed any more -/
structure Cn where
  ρ : Nat → Addr
  F : Addr → Prop
/-- the classes: where they stand, their fields in the order in which they are set -/
structure Cls' where
  at_ : Nat → Option Addr
  fs : Nat → List Str
  /-- the error that is handled: it, and its dict -/
  ex : Option (Addr × Addr)
  /-- the dict that is walked, and must not change -/
  lk : Option Addr := none
/-- what is fixed: the written part, the classes -/
structure Wn where
  K : PySem.W.Frag
  Γ : Cls'
def isOth : V → Bool
  | .byt _ => true
  | .flt _ => true
  | .ty _ => true
  | _ => false
def keyD : Key → D
  | .inl i => .int i
  | .inr x => .str x
/-- a list of ints that nobody can change: frozen, or written in the text -/
def FzL (K : PySem.W.Frag) (H : Hp) (a : Addr) (xs : List V) : Prop := (∃ o, H a = some (.frz o (.lst xs))) ∨ ∀ H', SqL K H' a xs
theorem FzL.sq {K : PySem.W.Frag} {H : Hp} {a : Addr} {xs : List V} (h : FzL K H a xs) : SqL K H a xs := by
  rcases h with h | h
  · exact .inl (.inr h)
  · exact h H
/-- what stands at a, or stands there locked -/
def DkA (w : Wn) (H : Hp) (a : Addr) (o : HO) : Prop := H a = some o ∨ (w.Γ.lk = some a ∧ ∃ od, H a = some (.frz od o))
theorem DkA.rd {w : Wn} {H : Hp} {a : Addr} {o : HO} (h : DkA w H a o) : Rd H a o := by
  rcases h with h | ⟨_, od, h⟩
  · exact .inl h
  · exact .inr ⟨od, h⟩
theorem DkA.ex {w : Wn} {H : Hp} {a : Addr} {o : HO} (hl : w.Γ.lk = none) (h : DkA w H a o) : H a = some o := by
  rcases h with h | ⟨e, od, h⟩
  · exact h
  · rw [hl] at e; cases e
theorem dkA_in {w : Wn} {H : Hp} {p : Addr} {vs : List V} {P Q : List Key → Prop} {P' Q' : List (List Key) → Prop} (h : (∃ kk : List Key, H p = some (.dK (kk.zip vs)) ∧ P kk ∧ Q kk) ∨ (∃ kk : List (List Key), H p = some (.dT (kk.zip vs)) ∧ P' kk ∧ Q' kk)) : (∃ kk : List Key, DkA w H p (.dK (kk.zip vs)) ∧ P kk ∧ Q kk) ∨ (∃ kk : List (List Key), DkA w H p (.dT (kk.zip vs)) ∧ P' kk ∧ Q' kk) := by
  rcases h with ⟨kk, h, q⟩ | ⟨kk, h, q⟩
  · exact .inl ⟨kk, .inl h, q⟩
  · exact .inr ⟨kk, .inl h, q⟩
section
variable (w : Wn) (c : Cn) (H : Hp) (n : Nat)
mutual
def At : D → V → Prop
  | .non, v => v = .non
  | .bl b, v => v = .bl b
  | .int i, v => v = .int i
  | .str x, v => v = .str x
  | .tup ds, v => ∃ a vs, v = .ref a ∧ SqT w.K H a vs ∧ Ats ds vs
  | .ttp ds, v => ∃ a vs, v = .ref a ∧ H a = some (.tup vs) ∧ Ats ds vs
  | .lst ds, v => ∃ a vs, v = .ref a ∧ c.F a ∧ H a = some (.lst vs) ∧ Ats ds vs
  | .dic ks ds, v => ∃ a vs, v = .ref a ∧ c.F a ∧ ((∃ kk : List Key, DkA w H a (.dK (kk.zip vs)) ∧ kk.length = vs.length ∧ ks = kk.map keyD) ∨ (∃ kk : List (List Key), DkA w H a (.dT (kk.zip vs)) ∧ kk.length = vs.length ∧ ks = .non :: kk.map fun k => .tup (k.map keyD))) ∧ Ats ds vs
  | .obj k ds, v => ∃ a vs C dx, v = .ref a ∧ c.F a ∧ w.Γ.at_ k = some C ∧ vs.length ≤ (w.Γ.fs k).length ∧ H a = some (.ins C dx ((w.Γ.fs k).zip vs)) ∧ Ats ds vs
  | .fz ns, v => ∃ a, v = .ref a ∧ FzL w.K H a (ns.map V.int)
  | .loc k, v => k < n ∧ v = .ref (c.ρ k)
  | .oth u, v => v = u ∧ isOth u = true
  | .xn k ds, v => ∃ a dd C vs, v = .ref a ∧ w.Γ.ex = some (a, dd) ∧ w.Γ.at_ k = some C ∧ vs.length ≤ (w.Γ.fs k).length ∧ H dd = some (.xd ((w.Γ.fs k).zip vs)) ∧ Ats ds vs
def Ats : List D → List V → Prop
  | [], vs => vs = []
  | d :: ds, vs => ∃ v r, vs = v :: r ∧ At d v ∧ Ats ds r
end
def OAt (a : Addr) : SO → Prop
  | .lst ds => ∃ vs, H a = some (.lst vs) ∧ Ats w c H n ds vs
  | .dic ks ds => ∃ vs, ((∃ kk : List Key, DkA w H a (.dK (kk.zip vs)) ∧ kk.length = vs.length ∧ ks = kk.map keyD) ∨ (∃ kk : List (List Key), DkA w H a (.dT (kk.zip vs)) ∧ kk.length = vs.length ∧ ks = .non :: kk.map fun k => .tup (k.map keyD))) ∧ Ats w c H n ds vs
  | .ins k ds => ∃ vs C dx, w.Γ.at_ k = some C ∧ vs.length ≤ (w.Γ.fs k).length ∧ H a = some (.ins C dx ((w.Γ.fs k).zip vs)) ∧ Ats w c H n ds vs
end
structure Rep (w : Wn) (c : Cn) (H : Hp) (S : Sto) : Prop where
  obj : ∀ k o, S[k]? = some o → OAt w c H S.length (c.ρ k) o
  inj : ∀ k m, k < S.length → m < S.length → c.ρ k = c.ρ m → k = m
  live : ∀ k, k < S.length → ¬ c.F (c.ρ k)
  fro : ∀ a, c.F a → ∃ u, H a = some u
/-- what values lean on is kept -/
structure ExtA (c : Cn) (H : Hp) (n : Nat) (c' : Cn) (H' : Hp) (n' : Nat) : Prop where
  le : n ≤ n'
  rho : ∀ k, k < n → c'.ρ k = c.ρ k
  fro : ∀ a, c.F a → c'.F a
  tup : ∀ a xs, H a = some (.tup xs) → H' a = some (.tup xs)
  frz : ∀ a o u, H a = some (.frz o u) → H' a = some (.frz o u)
  xd : ∀ a u, H a = some (.xd u) → H' a = some (.xd u)
  keepF : ∀ a o, c.F a → H a = some o → H' a = some o
structure Ext (c : Cn) (H : Hp) (n : Nat) (c' : Cn) (H' : Hp) (n' : Nat) : Prop where
  le : n ≤ n'
  rho : ∀ k, k < n → c'.ρ k = c.ρ k
  fro : ∀ a, c.F a → c'.F a
  tup : ∀ a xs, H a = some (.tup xs) → H' a = some (.tup xs)
  frz : ∀ a o u, H a = some (.frz o u) → H' a = some (.frz o u)
  xd : ∀ a u, H a = some (.xd u) → H' a = some (.xd u)
  keep : ∀ a o, H a = some o → (∀ k, k < n → c.ρ k ≠ a) → H' a = some o
  keepF : ∀ a o, c.F a → H a = some o → H' a = some o
  new : ∀ k, n ≤ k → k < n' → H (c'.ρ k) = none
  there : ∀ a o, H a = some o → ∃ o', H' a = some o'
  nF : ∀ a, c'.F a → c.F a ∨ H a = none
theorem Ext.A {c c' : Cn} {H H' : Hp} {n n' : Nat} (e : Ext c H n c' H' n') : ExtA c H n c' H' n' := ⟨e.le, e.rho, e.fro, e.tup, e.frz, e.xd, e.keepF⟩
theorem Ext.refl {c : Cn} {H : Hp} {n : Nat} : Ext c H n c H n := ⟨Nat.le_refl _, fun _ _ => rfl, fun _ h => h, fun _ _ h => h, fun _ _ _ h => h, fun _ _ h => h, fun _ _ h _ => h, fun _ _ _ h => h, fun k a b => absurd b (Nat.not_lt.mpr a), fun _ o h => ⟨o, h⟩, fun _ h => .inl h⟩
theorem Ext.trans {c c1 c2 : Cn} {H H1 H2 : Hp} {n n1 n2 : Nat} (a : Ext c H n c1 H1 n1) (b : Ext c1 H1 n1 c2 H2 n2) : Ext c H n c2 H2 n2 where
  le := Nat.le_trans a.le b.le
  rho := fun k h => (b.rho k (Nat.lt_of_lt_of_le h a.le)).trans (a.rho k h)
  fro := fun x h => b.fro x (a.fro x h)
  tup := fun x xs h => b.tup x xs (a.tup x xs h)
  frz := fun x o u h => b.frz x o u (a.frz x o u h)
  xd := fun x u h => b.xd x u (a.xd x u h)
  keep := fun x o h q => b.keep x o (a.keep x o h q) fun k hk => by
      by_cases hn : k < n
      · rw [a.rho k hn]; exact q k hn
      · intro e
        have := a.new k (Nat.le_of_not_lt hn) hk
        rw [e, h] at this; cases this
  keepF := fun x o f h => b.keepF x o (a.fro x f) (a.keepF x o f h)
  new := fun k h1 h2 => by
      by_cases hn : k < n1
      · rw [b.rho k hn]; exact a.new k h1 hn
      · have q := b.new k (Nat.le_of_not_lt hn) h2
        cases e : H (c2.ρ k) with
        | none => rfl
        | some o =>
          obtain ⟨o', e'⟩ := a.there _ o e
          rw [q] at e'; cases e'
  there := fun x o h => by
      obtain ⟨o', e⟩ := a.there x o h
      exact b.there x o' e
  nF := fun x h => by
      rcases b.nF x h with h | h
      · exact a.nF x h
      · right
        cases e : H x with
        | none => rfl
        | some o =>
          obtain ⟨o', e'⟩ := a.there _ o e
          rw [h] at e'; cases e'
section
variable {w : Wn} {c c' : Cn} {H H' : Hp} {n n' : Nat}
theorem ExtA.sqT (e : ExtA c H n c' H' n') {K : PySem.W.Frag} {a : Addr} {xs : List V} (h : SqT K H a xs) : SqT K H' a xs := by
  rcases h with (h | ⟨o, h⟩) | h
  · exact .inl (.inl (e.tup _ _ h))
  · exact .inl (.inr ⟨o, e.frz _ _ _ h⟩)
  · exact .inr h
theorem ExtA.sqL (e : ExtA c H n c' H' n') {K : PySem.W.Frag} {a : Addr} {xs : List V} (f : c.F a) (h : SqL K H a xs) : SqL K H' a xs := by
  rcases h with (h | ⟨o, h⟩) | h
  · exact .inl (.inl (e.keepF _ _ f h))
  · exact .inl (.inr ⟨o, e.frz _ _ _ h⟩)
  · exact .inr h
theorem Ext.sqT (e : Ext c H n c' H' n') {K : PySem.W.Frag} {a : Addr} {xs : List V} (h : SqT K H a xs) : SqT K H' a xs := e.A.sqT h
theorem Ext.sqL (e : Ext c H n c' H' n') {K : PySem.W.Frag} {a : Addr} {xs : List V} (f : c.F a) (h : SqL K H a xs) : SqL K H' a xs := e.A.sqL f h
theorem ExtA.fzL (e : ExtA c H n c' H' n') {K : PySem.W.Frag} {a : Addr} {xs : List V} (h : FzL K H a xs) : FzL K H' a xs := by
  rcases h with ⟨o, h⟩ | h
  · exact .inl ⟨o, e.frz _ _ _ h⟩
  · exact .inr h
theorem ExtA.dkA (e : ExtA c H n c' H' n') {a : Addr} {o : HO} (f : c.F a) (h : DkA w H a o) : DkA w H' a o := by
  rcases h with h | ⟨l, od, h⟩
  · exact .inl (e.keepF _ _ f h)
  · exact .inr ⟨l, od, e.keepF _ _ f h⟩
mutual
theorem At.monoA (e : ExtA c H n c' H' n') : ∀ (d : D) (v : V), At w c H n d v → At w c' H' n' d v
  | .non, v, h => h
  | .bl b, v, h => h
  | .int i, v, h => h
  | .str x, v, h => h
  | .tup ds, v, h => by
    unfold At at h ⊢
    obtain ⟨a, vs, r, s, t⟩ := h
    exact ⟨a, vs, r, e.sqT s, Ats.monoA e ds vs t⟩
  | .ttp ds, v, h => by
    unfold At at h ⊢
    obtain ⟨a, vs, r, s, t⟩ := h
    exact ⟨a, vs, r, e.tup _ _ s, Ats.monoA e ds vs t⟩
  | .lst ds, v, h => by
    unfold At at h ⊢
    obtain ⟨a, vs, r, f, s, t⟩ := h
    exact ⟨a, vs, r, e.fro _ f, e.keepF _ _ f s, Ats.monoA e ds vs t⟩
  | .dic ks ds, v, h => by
    unfold At at h ⊢
    obtain ⟨a, vs, r, f, s, t⟩ := h
    refine ⟨a, vs, r, e.fro _ f, ?_, Ats.monoA e ds vs t⟩
    rcases s with ⟨kk, s⟩ | ⟨kk, s⟩
    · exact .inl ⟨kk, e.dkA f s.1, s.2⟩
    · exact .inr ⟨kk, e.dkA f s.1, s.2⟩
  | .obj k ds, v, h => by
    unfold At at h ⊢
    obtain ⟨a, vs, C, dx, r, f, g, l, s, t⟩ := h
    exact ⟨a, vs, C, dx, r, e.fro _ f, g, l, e.keepF _ _ f s, Ats.monoA e ds vs t⟩
  | .fz ns, v, h => by
    unfold At at h ⊢
    obtain ⟨a, r, s⟩ := h
    exact ⟨a, r, e.fzL s⟩
  | .loc k, v, h => by
    unfold At at h ⊢
    exact ⟨Nat.lt_of_lt_of_le h.1 e.le, by rw [e.rho k h.1]; exact h.2⟩
  | .oth u, v, h => h
  | .xn k ds, v, h => by
    unfold At at h ⊢
    obtain ⟨a, dd, C, vs, r, x, g, l, s, t⟩ := h
    exact ⟨a, dd, C, vs, r, x, g, l, e.xd _ _ s, Ats.monoA e ds vs t⟩
theorem Ats.monoA (e : ExtA c H n c' H' n') : ∀ (ds : List D) (vs : List V), Ats w c H n ds vs → Ats w c' H' n' ds vs
  | [], vs, h => h
  | d :: ds, vs, h => by
    unfold Ats at h ⊢
    obtain ⟨v, r, q, a, b⟩ := h
    exact ⟨v, r, q, At.monoA e d v a, Ats.monoA e ds r b⟩
end
theorem At.mono (e : Ext c H n c' H' n') (d : D) (v : V) (h : At w c H n d v) : At w c' H' n' d v := At.monoA e.A d v h
theorem Ats.mono (e : Ext c H n c' H' n') (ds : List D) (vs : List V) (h : Ats w c H n ds vs) : Ats w c' H' n' ds vs := Ats.monoA e.A ds vs h
theorem Ats.len : ∀ {ds : List D} {vs : List V}, Ats w c H n ds vs → vs.length = ds.length
  | [], vs, h => by unfold Ats at h; rw [h]; rfl
  | d :: ds, vs, h => by
    unfold Ats at h
    obtain ⟨v, r, q, a, b⟩ := h
    rw [q, List.length_cons, List.length_cons, Ats.len b]
theorem Ats.get : ∀ {ds : List D} {vs : List V} {i : Nat} {d : D}, Ats w c H n ds vs → ds[i]? = some d → ∃ v, vs[i]? = some v ∧ At w c H n d v
  | [], vs, i, d, h, e => by simp at e
  | d :: ds, vs, i, d', h, e => by
    unfold Ats at h
    obtain ⟨v, r, q, a, b⟩ := h
    subst q
    cases i with
    | zero => cases e; exact ⟨v, rfl, a⟩
    | succ i => exact Ats.get (i := i) b (by simpa using e)
theorem Ats.get' : ∀ {ds : List D} {vs : List V} {i : Nat} {v : V}, Ats w c H n ds vs → vs[i]? = some v → ∃ d, ds[i]? = some d ∧ At w c H n d v
  | [], vs, i, v, h, e => by unfold Ats at h; subst h; simp at e
  | d :: ds, vs, i, v', h, e => by
    unfold Ats at h
    obtain ⟨v, r, q, a, b⟩ := h
    subst q
    cases i with
    | zero => cases e; exact ⟨d, rfl, a⟩
    | succ i => exact Ats.get' (i := i) b (by simpa using e)
theorem Ats.nil : Ats w c H n [] [] := by unfold Ats; rfl
theorem Ats.cons {d : D} {ds : List D} {v : V} {vs : List V} (a : At w c H n d v) (b : Ats w c H n ds vs) : Ats w c H n (d :: ds) (v :: vs) := by
  unfold Ats; exact ⟨v, vs, rfl, a, b⟩
theorem Ats.app : ∀ {ds es : List D} {vs ws : List V}, Ats w c H n ds vs → Ats w c H n es ws → Ats w c H n (ds ++ es) (vs ++ ws)
  | [], es, vs, ws, h, g => by unfold Ats at h; rw [h]; exact g
  | d :: ds, es, vs, ws, h, g => by
    unfold Ats at h
    obtain ⟨v, r, q, a, b⟩ := h
    rw [q]
    exact .cons a (Ats.app b g)
theorem Ats.one {d : D} {v : V} (a : At w c H n d v) : Ats w c H n [d] [v] := .cons a .nil
theorem Ats.drop : ∀ {ds : List D} {vs : List V} (k : Nat), Ats w c H n ds vs → Ats w c H n (ds.drop k) (vs.drop k)
  | ds, vs, 0, h => h
  | [], vs, k + 1, h => by unfold Ats at h; rw [h]; exact .nil
  | d :: ds, vs, k + 1, h => by
    unfold Ats at h
    obtain ⟨v, r, q, a, b⟩ := h
    rw [q]; exact Ats.drop k b
theorem Ats.take : ∀ {ds : List D} {vs : List V} (k : Nat), Ats w c H n ds vs → Ats w c H n (ds.take k) (vs.take k)
  | ds, vs, 0, h => by simp [Ats]
  | [], vs, k + 1, h => by unfold Ats at h; rw [h]; exact .nil
  | d :: ds, vs, k + 1, h => by
    unfold Ats at h
    obtain ⟨v, r, q, a, b⟩ := h
    rw [q]; exact .cons a (Ats.take k b)
theorem Ats.set {d : D} {v : V} (x : At w c H n d v) : ∀ {ds : List D} {vs : List V} (k : Nat), Ats w c H n ds vs → Ats w c H n (ds.set k d) (vs.set k v)
  | [], vs, k, h => by unfold Ats at h; rw [h]; simp [Ats]
  | d :: ds, vs, k, h => by
    unfold Ats at h
    obtain ⟨v, r, q, a, b⟩ := h
    rw [q]
    cases k with
    | zero => exact .cons x b
    | succ k => exact .cons a (Ats.set x k b)
theorem Ats.uncons {d : D} {ds : List D} {vs : List V} (h : Ats w c H n (d :: ds) vs) : ∃ v r, vs = v :: r ∧ At w c H n d v ∧ Ats w c H n ds r := by unfold Ats at h; exact h
theorem Ats.unnil {vs : List V} (h : Ats w c H n [] vs) : vs = [] := by unfold Ats at h; exact h
theorem OAt.monoA (e : ExtA c H n c' H' n') {a : Addr} (ka : ∀ o, H a = some o → H' a = some o) : ∀ {o : SO}, OAt w c H n a o → OAt w c' H' n' a o
  | .lst ds, h => by
    obtain ⟨vs, g, t⟩ := h
    exact ⟨vs, ka _ g, Ats.monoA e _ _ t⟩
  | .dic ks ds, h => by
    obtain ⟨vs, g, t⟩ := h
    refine ⟨vs, ?_, Ats.monoA e _ _ t⟩
    rcases g with ⟨kk, s⟩ | ⟨kk, s⟩
    · exact .inl ⟨kk, s.1.imp (ka _) (fun ⟨l, od, z⟩ => ⟨l, od, ka _ z⟩), s.2⟩
    · exact .inr ⟨kk, s.1.imp (ka _) (fun ⟨l, od, z⟩ => ⟨l, od, ka _ z⟩), s.2⟩
  | .ins k ds, h => by
    obtain ⟨vs, C, dx, g, l, s, t⟩ := h
    exact ⟨vs, C, dx, g, l, ka _ s, Ats.monoA e _ _ t⟩
theorem OAt.mono (e : Ext c H n c' H' n') {a : Addr} (ka : ∀ o, H a = some o → H' a = some o) {o : SO} (h : OAt w c H n a o) : OAt w c' H' n' a o := OAt.monoA e.A ka h
theorem OAt.some {a : Addr} : ∀ {o : SO}, OAt w c H n a o → ∃ u, H a = .some u ∧ (Mut (.some u) ∨ w.Γ.lk = .some a)
  | .lst ds, h => by
    obtain ⟨vs, g, t⟩ := h
    exact ⟨_, g, .inl trivial⟩
  | .dic ks ds, h => by
    obtain ⟨vs, g, t⟩ := h
    rcases g with ⟨kk, s⟩ | ⟨kk, s⟩
    · rcases s.1 with z | ⟨l, od, z⟩
      · exact ⟨_, z, .inl trivial⟩
      · exact ⟨_, z, .inr l⟩
    · rcases s.1 with z | ⟨l, od, z⟩
      · exact ⟨_, z, .inl trivial⟩
      · exact ⟨_, z, .inr l⟩
  | .ins k ds, h => by
    obtain ⟨vs, C, dx, g, l, s, t⟩ := h
    exact ⟨_, s, .inl trivial⟩
end
section
variable {w : Wn} {c c' : Cn} {H H' : Hp} {S : Sto}
theorem Rep.get (r : Rep w c H S) {k : Nat} {o : SO} (h : S[k]? = some o) : OAt w c H S.length (c.ρ k) o := r.obj k o h
theorem Rep.lt {k : Nat} {o : SO} (h : S[k]? = some o) : k < S.length := (List.getElem?_eq_some_iff.mp h).1
theorem Rep.some (r : Rep w c H S) {k : Nat} (h : k < S.length) : ∃ u, H (c.ρ k) = .some u ∧ (Mut (.some u) ∨ w.Γ.lk = .some (c.ρ k)) := (r.obj k _ (List.getElem?_eq_getElem h)).some
theorem Rep.ne (r : Rep w c H S) {a : Addr} (h : H a = none) {k : Nat} (hk : k < S.length) : c.ρ k ≠ a := fun e => by
  obtain ⟨u, q, _⟩ := r.some hk
  rw [e, h] at q; cases q
theorem Rep.nF (r : Rep w c H S) {a : Addr} (h : H a = none) : ¬ c.F a := fun f => by
  obtain ⟨u, q⟩ := r.fro a f
  rw [h] at q; cases q
/-- the heap grows by a new object that is neither a place of the store nor unchangeable by name: a tuple, or anything else -/
theorem Ext.grow {n : Nat} {p : Addr} {o : HO} (hp : H p = none) : Ext c H n c (upd H p o) n :=
  ⟨Nat.le_refl _, fun _ _ => rfl, fun _ h => h, fun a xs h => by rw [upd_ne (ne_of_none h hp)]; exact h, fun a o u h => by rw [upd_ne (ne_of_none h hp)]; exact h, fun a u h => by rw [upd_ne (ne_of_none h hp)]; exact h, fun a u h _ => by rw [upd_ne (ne_of_none h hp)]; exact h,
    fun a u _ h => by rw [upd_ne (ne_of_none h hp)]; exact h, fun k a b => absurd b (Nat.not_lt.mpr a), fun a u h => ⟨u, by rw [upd_ne (ne_of_none h hp)]; exact h⟩, fun _ h => .inl h⟩
theorem Rep.grow (r : Rep w c H S) {p : Addr} {o : HO} (hp : H p = none) : Rep w c (upd H p o) S :=
  ⟨fun k u h => (r.obj k u h).mono (Ext.grow hp) fun x hx => by rw [upd_ne (ne_of_none hx hp)]; exact hx, r.inj, r.live, fun a f => by
    obtain ⟨u, q⟩ := r.fro a f
    exact ⟨u, by rw [upd_ne (ne_of_none q hp)]; exact q⟩⟩
/-- what stands at p is not changed any more -/
def Cn.fr (c : Cn) (p : Addr) : Cn := { c with F := fun a => c.F a ∨ a = p }
theorem Ext.fr {n : Nat} {p : Addr} {o : HO} (hp : H p = none) : Ext c H n (c.fr p) (upd H p o) n :=
  let e := Ext.grow (c := c) (n := n) (o := o) hp
  ⟨e.le, fun _ _ => rfl, fun _ h => .inl h, e.tup, e.frz, e.xd, e.keep, e.keepF, e.new, e.there, fun a h => by
    rcases h with h | h
    · exact .inl h
    · right; rw [h]; exact hp⟩
theorem Rep.fr (r : Rep w c H S) {p : Addr} {o : HO} (hp : H p = none) : Rep w (c.fr p) (upd H p o) S :=
  ⟨fun k u h => (r.obj k u h).mono (Ext.fr hp) fun x hx => by rw [upd_ne (ne_of_none hx hp)]; exact hx, r.inj, fun k hk f => by
    rcases f with f | f
    · exact r.live k hk f
    · exact r.ne hp hk f, fun a f => by
    rcases f with f | f
    · obtain ⟨u, q⟩ := r.fro a f
      exact ⟨u, by rw [upd_ne (ne_of_none q hp)]; exact q⟩
    · rw [f]; exact ⟨o, upd_same⟩⟩
/-- a new place of the store -/
def Cn.nw (c : Cn) (n : Nat) (p : Addr) : Cn := { c with ρ := fun k => if k = n then p else c.ρ k }
theorem Cn.nw_at {n : Nat} {p : Addr} : (c.nw n p).ρ n = p := if_pos rfl
theorem Cn.nw_ne {n k : Nat} {p : Addr} (h : k ≠ n) : (c.nw n p).ρ k = c.ρ k := if_neg h
theorem Ext.nw {n : Nat} {p : Addr} {o : HO} (hp : H p = none) : Ext c H n (c.nw n p) (upd H p o) (n + 1) :=
  let e := Ext.grow (c := c) (n := n) (o := o) hp
  ⟨Nat.le_succ _, fun k h => Cn.nw_ne (Nat.ne_of_lt h), fun _ h => h, e.tup, e.frz, e.xd, e.keep, e.keepF, fun k h1 h2 => by
    have : k = n := by omega
    rw [this, Cn.nw_at]; exact hp, e.there, fun a h => .inl h⟩
theorem Rep.nw (r : Rep w c H S) {p : Addr} {o : HO} {so : SO} (hp : H p = none) (q : OAt w (c.nw S.length p) (upd H p o) (S.length + 1) p so) : Rep w (c.nw S.length p) (upd H p o) (S ++ [so]) := by
  have e : Ext c H S.length (c.nw S.length p) (upd H p o) (S.length + 1) := Ext.nw hp
  refine ⟨fun k u h => ?_, fun k m hk hm he => ?_, fun k hk f => ?_, fun a f => ?_⟩
  · rw [List.length_append, List.length_singleton]
    by_cases hk : k < S.length
    · rw [List.getElem?_append_left hk] at h
      have := (r.obj k u h).mono e fun x hx => by rw [upd_ne (ne_of_none hx hp)]; exact hx
      rw [Cn.nw_ne (Nat.ne_of_lt hk)]
      exact this
    · have hl := Rep.lt h
      rw [List.length_append, List.length_singleton] at hl
      have ek : k = S.length := by omega
      subst ek
      rw [List.getElem?_append_right (Nat.le_refl _)] at h
      simp at h
      subst h
      rw [Cn.nw_at]
      exact q
  · rw [List.length_append, List.length_singleton] at hk hm
    by_cases h1 : k = S.length
    · by_cases h2 : m = S.length
      · rw [h1, h2]
      · rw [h1, Cn.nw_at, Cn.nw_ne h2] at he
        exact absurd he.symm (r.ne hp (by omega))
    · by_cases h2 : m = S.length
      · rw [h2, Cn.nw_at, Cn.nw_ne h1] at he
        exact absurd he (r.ne hp (by omega))
      · rw [Cn.nw_ne h1, Cn.nw_ne h2] at he
        exact r.inj k m (by omega) (by omega) he
  · rw [List.length_append, List.length_singleton] at hk
    by_cases h1 : k = S.length
    · rw [h1, Cn.nw_at] at f
      exact r.nF hp f
    · rw [Cn.nw_ne h1] at f
      exact r.live k (by omega) f
  · obtain ⟨u, q⟩ := r.fro a f
    exact ⟨u, by rw [upd_ne (ne_of_none q hp)]; exact q⟩
/-- what stands at a place of the store is changed -/
theorem Ext.wr (r : Rep w c H S) {k : Nat} {o : HO} (hk : k < S.length) (hm : ∃ u, H (c.ρ k) = .some u ∧ Mut (.some u)) : Ext c H S.length c (upd H (c.ρ k) o) S.length := by
  obtain ⟨u, q, m⟩ := hm
  have nm : ∀ a x, H a = .some x → ¬ Mut (.some x) → a ≠ c.ρ k := fun a x h z e => by
    rw [e, q] at h; cases h; exact z m
  refine ⟨Nat.le_refl _, fun _ _ => rfl, fun _ h => h, fun a xs h => ?_, fun a x y h => ?_, fun a x h => ?_, fun a x h hn => ?_, fun a x f h => ?_, fun k a b => absurd b (Nat.not_lt.mpr a), fun a x h => ?_, fun _ h => .inl h⟩
  · rw [upd_ne (nm a _ h fun z => z)]; exact h
  · rw [upd_ne (nm a _ h fun z => z)]; exact h
  · rw [upd_ne (nm a _ h fun z => z)]; exact h
  · rw [upd_ne fun e => hn k hk e.symm]; exact h
  · rw [upd_ne fun e => r.live k hk (by rw [← e]; exact f)]; exact h
  · by_cases e : a = c.ρ k
    · rw [e]; exact ⟨o, upd_same⟩
    · exact ⟨x, by rw [upd_ne e]; exact h⟩
theorem Rep.wr (r : Rep w c H S) {k : Nat} {o : HO} {so : SO} (hk : k < S.length) (hm : ∃ u, H (c.ρ k) = .some u ∧ Mut (.some u)) (q : OAt w c (upd H (c.ρ k) o) S.length (c.ρ k) so) : Rep w c (upd H (c.ρ k) o) (S.set k so) := by
  have e : Ext c H S.length c (upd H (c.ρ k) o) S.length := Ext.wr r hk hm
  refine ⟨fun m u h => ?_, fun i j hi hj => ?_, fun i hi => ?_, fun a f => ?_⟩
  · rw [List.length_set]
    by_cases hm : m = k
    · subst hm
      rw [List.getElem?_set_self hk] at h
      cases h; exact q
    · rw [List.getElem?_set_ne (Ne.symm hm)] at h
      refine (r.obj m u h).mono e fun x hx => ?_
      rw [upd_ne fun z => hm (r.inj m k (Rep.lt h) hk z)]; exact hx
  · rw [List.length_set] at hi hj; exact r.inj i j hi hj
  · rw [List.length_set] at hi; exact r.live i hi
  · obtain ⟨u, q⟩ := r.fro a f
    exact e.there a u q
/-- a list that stands neither in the store nor under what is unchangeable is changed -/
theorem ExtA.side {n : Nat} {p : Addr} {xs ys : List V} (hp : H p = .some (.lst xs)) (hf : ¬ c.F p) : ExtA c H n c (upd H p (.lst ys)) n :=
  ⟨Nat.le_refl _, fun _ _ => rfl, fun _ h => h, fun a us h => by rw [upd_ne (ne_of h hp fun z => nomatch z)]; exact h, fun a o u h => by rw [upd_ne (ne_of h hp fun z => nomatch z)]; exact h, fun a u h => by rw [upd_ne (ne_of h hp fun z => nomatch z)]; exact h, fun a o f h => by
    rw [upd_ne fun e => hf (by rw [← e]; exact f)]; exact h⟩
theorem Rep.side (r : Rep w c H S) {p : Addr} {xs ys : List V} (hp : H p = .some (.lst xs)) (hf : ¬ c.F p) (hn : ∀ k, k < S.length → c.ρ k ≠ p) : Rep w c (upd H p (.lst ys)) S :=
  ⟨fun k o h => (r.obj k o h).monoA (ExtA.side hp hf) fun u hu => by rw [upd_ne (hn k (Rep.lt h))]; exact hu, r.inj, r.live, fun a f => by
    obtain ⟨u, q⟩ := r.fro a f
    exact ⟨u, by rw [upd_ne fun e => hf (by rw [← e]; exact f)]; exact q⟩⟩
/-- seen from a time when nothing stood there -/
theorem Ext.side {c0 : Cn} {H0 : Hp} {n0 n : Nat} {p : Addr} {o u : HO} (e : Ext c0 H0 n0 c H n) (h0 : H0 p = none) (hp : H p = .some u) : Ext c0 H0 n0 c (upd H p o) n :=
  ⟨e.le, e.rho, e.fro, fun a xs h => by rw [upd_ne (ne_of_none h h0)]; exact e.tup a xs h, fun a x y h => by rw [upd_ne (ne_of_none h h0)]; exact e.frz a x y h, fun a x h => by rw [upd_ne (ne_of_none h h0)]; exact e.xd a x h, fun a x h q => by rw [upd_ne (ne_of_none h h0)]; exact e.keep a x h q,
    fun a x f h => by rw [upd_ne (ne_of_none h h0)]; exact e.keepF a x f h, e.new, fun a x h => by
      obtain ⟨x', q⟩ := e.there a x h
      exact ⟨x', by rw [upd_ne (ne_of_none h h0)]; exact q⟩, e.nF⟩
end
end Mm
set_option maxRecDepth 100000
/-! Expressions over the plain data. -/
namespace Mm
open PySem L2
abbrev TM := Env → Sto → R Bool
abbrev AM := Env → Sto → R (List D)
section
variable (w : Wn) (W : WX)
def XAt (c : Cn) (H : Hp) (n : Nat) (x : Exn) (C : Value) (dd : Option Addr) : Prop :=
  ∃ (a d : Addr) (vs : List V), w.Γ.at_ x.c = some a ∧ C = .ref a ∧ dd = some d ∧ vs.length ≤ (w.Γ.fs x.c).length ∧ H d = some (.xd ((w.Γ.fs x.c).zip vs)) ∧ Ats w c H n x.ds vs
/-- what an outcome asks: of each value and heap that may have come of it -/
def Po {α β : Type} (rel : Cn → Hp → Nat → α → β → Prop) (σ : St) (c : Cn) (H : Hp) (n : Nat) (r : R α) (Q : β → Hp → Prop) : Prop := match r with
  | .ok d S => ∀ c' H' v, Ext c H n c' H' S.length → Rep w c' H' S → rel c' H' S.length d v → Q v H'
  | .ex x S => ∀ c' H' C dd, Ext c H n c' H' S.length → Rep w c' H' S → XAt w c' H' S.length x C dd → W C dd σ H'
  | .bad => False
def relB (_ : Cn) (_ : Hp) (_ : Nat) (b v : Bool) : Prop := v = b
abbrev PoE := Po w W (At w)
abbrev PoA := Po w W (Ats w)
abbrev PoT := Po w W relB
def EnvR (c : Cn) (H : Hp) (n : Nat) (σ : List (Option V)) (env : Env) : Prop := σ.length = env.length ∧ ∀ (i : Nat) (d : D), env[i]? = some (some d) → ∃ v : V, σ[i]? = some (some v) ∧ At w c H n d v
def mG {α β : Type} (rel : Cn → Hp → Nat → α → β → Prop) (m : Env → Sto → R α) (σ : St) (H : Hp) (Q : β → Hp → Prop) : Prop :=
  ∃ c env S, Rep w c H S ∧ EnvR w c H S.length σ env ∧ Po w W rel σ c H S.length (m env S) Q
def mE (m : EM) : TE := fun σ H Q => mG w W (At w) m σ H Q
def mA (m : AM) : TA := fun σ H Q => mG w W (Ats w) m σ H Q
def mT (m : TM) : TT := fun σ H Q => mG w W relB m σ H Q
end
abbrev CE (Γ : Cls') (X : Cx) (W : WX) (e : Expr) (m : EM) : Prop := PE X e (mE ⟨X.K, Γ⟩ W m)
abbrev CA (Γ : Cls') (X : Cx) (W : WX) (es : List Expr) (m : AM) : Prop := PA X es (mA ⟨X.K, Γ⟩ W m)
abbrev CT (Γ : Cls') (X : Cx) (W : WX) (e : Expr) (m : TM) : Prop := PT X e (mT ⟨X.K, Γ⟩ W m)
theorem PE.weak {X : Cx} {e : Expr} {t t' : TE} (h : PE X e t) (i : ∀ σ H Q, t' σ H Q → t σ H Q) : PE X e t' := ⟨fun pins s σ H Q I q => h.run pins s σ H Q I (i σ H Q q)⟩
theorem PA.weak {X : Cx} {e : List Expr} {t t' : TA} (h : PA X e t) (i : ∀ σ H Q, t' σ H Q → t σ H Q) : PA X e t' := ⟨fun pos pins s σ H Q I q => h.run pos pins s σ H Q I (i σ H Q q)⟩
theorem PT.weak {X : Cx} {e : Expr} {t t' : TT} (h : PT X e t) (i : ∀ σ H Q, t' σ H Q → t σ H Q) : PT X e t' := ⟨fun pins s σ H Q I q => h.run pins s σ H Q I (i σ H Q q)⟩
theorem PW.weak {X : Cx} {e : Expr} {t t' : TT} (h : PW X e t) (i : ∀ σ H Q, t' σ H Q → t σ H Q) : PW X e t' := ⟨fun wh pins s σ H Q I q => h.run wh pins s σ H Q I (i σ H Q q)⟩
section
variable {w : Wn} {W : WX} {σ : St} {c c' : Cn} {H H' : Hp} {n n' : Nat} {S : Sto} {env : Env}
theorem EnvR.mono (e : Ext c H n c' H' n') (h : EnvR w c H n σ env) : EnvR w c' H' n' σ env := ⟨h.1, fun i d q => by
  obtain ⟨v, a, b⟩ := h.2 i d q
  exact ⟨v, a, b.mono e⟩⟩
theorem EnvR.get {i : Nat} {d : D} (h : EnvR w c H n σ env) (q : env[i]? = some (some d)) : ∃ v, σ[i]? = some (some v) ∧ At w c H n d v := h.2 i d q
theorem EnvR.set {i : Nat} {d : D} {v : V} (h : EnvR w c H n σ env) (a : At w c H n d v) : EnvR w c H n (σ.set i (some v)) (env.set i (some d)) := by
  refine ⟨by rw [List.length_set, List.length_set]; exact h.1, fun j d' q => ?_⟩
  by_cases e : j = i
  · subst e
    by_cases hl : j < env.length
    · rw [List.getElem?_set_self hl] at q
      cases q
      exact ⟨v, List.getElem?_set_self (by rw [h.1]; exact hl), a⟩
    · rw [List.getElem?_eq_none (by rw [List.length_set]; omega)] at q; cases q
  · rw [List.getElem?_set_ne (Ne.symm e)] at q ⊢
    exact h.2 j d' q
theorem Po.mono {α β : Type} {rel : Cn → Hp → Nat → α → β → Prop} {r : R α} {Q : β → Hp → Prop} (e : Ext c H n c' H' n') (h : Po w W rel σ c H n r Q) : Po w W rel σ c' H' n' r Q := by
  cases r with
  | ok d S => exact fun c2 H2 v e2 r2 a => h c2 H2 v (e.trans e2) r2 a
  | ex x S => exact fun c2 H2 C dd e2 r2 a => h c2 H2 C dd (e.trans e2) r2 a
  | bad => exact h.elim
theorem Po.imp {α β : Type} {rel : Cn → Hp → Nat → α → β → Prop} {r : R α} {Q Q' : β → Hp → Prop} (h : Po w W rel σ c H n r Q) (i : ∀ v H, Q v H → Q' v H) : Po w W rel σ c H n r Q' := by
  cases r with
  | ok d S => exact fun c2 H2 v e2 r2 a => i _ _ (h c2 H2 v e2 r2 a)
  | ex x S => exact h
  | bad => exact h.elim
/-- one part, then the rest -/
theorem Po.bind {α β γ δ : Type} {rel : Cn → Hp → Nat → α → β → Prop} {rel2 : Cn → Hp → Nat → γ → δ → Prop} {r : R α} {f : α → Sto → R γ} {Q : δ → Hp → Prop} (h : Po w W rel2 σ c H n (r.bind f) Q) :
    Po w W rel σ c H n r fun v H1 => ∃ c1 S1 d, Ext c H n c1 H1 S1.length ∧ Rep w c1 H1 S1 ∧ rel c1 H1 S1.length d v ∧ Po w W rel2 σ c1 H1 S1.length (f d S1) Q := by
  cases r with
  | ok d S => exact fun c2 H2 v e2 r2 a => ⟨c2, S, d, e2, r2, a, Po.mono e2 h⟩
  | ex x S => exact h
  | bad => exact h.elim
/-! ## ends -/
theorem fin_ok {d : D} {v : V} {Q : VK} (h : PoE w W σ c H S.length (.ok d S) Q) (r : Rep w c H S) (a : At w c H S.length d v) : Q v H := h c H v Ext.refl r a
theorem fin_tup {ds : List D} {vs : List V} {Q : VK} (h : PoE w W σ c H S.length (.ok (.tup ds) S) Q) (r : Rep w c H S) (a : Ats w c H S.length ds vs) {p : Addr} (hp : H p = none) : Q (.ref p) (upd H p (.tup vs)) := by
  refine h c _ (.ref p) (Ext.grow hp) (r.grow hp) ?_
  unfold At
  exact ⟨p, vs, rfl, SqT.of upd_same, a.mono (Ext.grow hp)⟩
theorem fin_lst {ds : List D} {vs : List V} {Q : VK} (h : PoE w W σ c H S.length (.ok (.lst ds) S) Q) (r : Rep w c H S) (a : Ats w c H S.length ds vs) {p : Addr} (hp : H p = none) : Q (.ref p) (upd H p (.lst vs)) := by
  refine h (c.fr p) _ (.ref p) (Ext.fr hp) (r.fr hp) ?_
  unfold At
  exact ⟨p, vs, rfl, .inr rfl, upd_same, a.mono (Ext.fr hp)⟩
theorem fin_new {ds : List D} {vs : List V} {Q : VK} (h : PoE w W σ c H S.length (.ok (.loc S.length) (S ++ [.lst ds])) Q) (r : Rep w c H S) (a : Ats w c H S.length ds vs) {p : Addr} (hp : H p = none) : Q (.ref p) (upd H p (.lst vs)) := by
  have hl : (S ++ [SO.lst ds]).length = S.length + 1 := by rw [List.length_append]; rfl
  refine h (c.nw S.length p) _ (.ref p) (by rw [hl]; exact Ext.nw hp) (r.nw hp ⟨vs, upd_same, a.mono (Ext.nw hp)⟩) ?_
  unfold At
  exact ⟨by rw [hl]; exact Nat.lt_succ_self _, by rw [Cn.nw_at]⟩
/-! ## a list: unchangeable, or in the store -/
def lstOf (S : Sto) : D → Option (List D)
  | .lst ds => some ds
  | .loc k => match S[k]? with
    | some (.lst ds) => some ds
    | _ => none
  | _ => none
@[simp] theorem lstOf_lst (S : Sto) (ds : List D) : lstOf S (.lst ds) = some ds := rfl
theorem lstOf_loc {S : Sto} {k : Nat} {ds : List D} (h : S[k]? = some (.lst ds)) : lstOf S (.loc k) = some ds := by
  show (match S[k]? with
    | some (.lst ds) => some ds
    | _ => none) = some ds
  rw [h]
theorem lstOf_at {x : D} {v : V} {ds : List D} (r : Rep w c H S) (a : At w c H S.length x v) (h : lstOf S x = some ds) : ∃ p vs, v = .ref p ∧ H p = some (.lst vs) ∧ Ats w c H S.length ds vs := by
  cases x with
  | lst es =>
    cases h
    unfold At at a
    obtain ⟨p, vs, e, f, g, t⟩ := a
    exact ⟨p, vs, e, g, t⟩
  | loc k =>
    unfold At at a
    change (match S[k]? with
      | some (.lst ds) => some ds
      | _ => none) = some ds at h
    cases hk : S[k]? with
    | none => rw [hk] at h; cases h
    | some o =>
      rw [hk] at h
      cases o with
      | lst es =>
        cases h
        obtain ⟨vs, g, t⟩ := r.get hk
        exact ⟨_, vs, a.2, g, t⟩
      | _ => cases h
  | _ => cases h
def tupOf : D → Option (List D)
  | .tup ds => some ds
  | _ => none
/-- a list or a tuple, read -/
def seqOf (S : Sto) (d : D) : Option (List D) := match d with
  | .tup ds => some ds
  | .ttp ds => some ds
  | .fz ns => some (ns.map .int)
  | d => lstOf S d
@[simp] theorem seqOf_ttp (S : Sto) (ds : List D) : seqOf S (.ttp ds) = some ds := rfl
@[simp] theorem seqOf_tup (S : Sto) (ds : List D) : seqOf S (.tup ds) = some ds := rfl
@[simp] theorem seqOf_lst (S : Sto) (ds : List D) : seqOf S (.lst ds) = some ds := rfl
@[simp] theorem seqOf_fz (S : Sto) (ns : List Int) : seqOf S (.fz ns) = some (ns.map .int) := rfl
theorem seqOf_loc {S : Sto} {k : Nat} {ds : List D} (h : S[k]? = some (.lst ds)) : seqOf S (.loc k) = some ds := lstOf_loc h
theorem ats_ints : ∀ ns : List Int, Ats w c H n (ns.map .int) (ns.map V.int)
  | [] => .nil
  | i :: r => .cons (by unfold At; rfl) (ats_ints r)
theorem seqOf_at {x : D} {v : V} {ds : List D} (r : Rep w c H S) (a : At w c H S.length x v) (h : seqOf S x = some ds) : ∃ p vs, v = .ref p ∧ (SqL w.K H p vs ∨ SqT w.K H p vs) ∧ Ats w c H S.length ds vs := by
  have go : lstOf S x = some ds → ∃ p vs, v = .ref p ∧ (SqL w.K H p vs ∨ SqT w.K H p vs) ∧ Ats w c H S.length ds vs := fun h => by
    obtain ⟨p, vs, e, g, t⟩ := lstOf_at r a h
    exact ⟨p, vs, e, .inl (SqL.of g), t⟩
  cases x with
  | tup es =>
    cases h
    unfold At at a
    obtain ⟨p, vs, e, g, t⟩ := a
    exact ⟨p, vs, e, .inr g, t⟩
  | ttp es =>
    cases h
    unfold At at a
    obtain ⟨p, vs, e, g, t⟩ := a
    exact ⟨p, vs, e, .inr (SqT.of g), t⟩
  | fz ns =>
    cases h
    unfold At at a
    obtain ⟨p, e, g⟩ := a
    exact ⟨p, _, e, .inl g.sq, ats_ints ns⟩
  | lst es => exact go h
  | loc k => exact go h
  | _ => cases h
end
/-! ## the parts -/
section
variable {Γ : Cls'} {X : Cx} {W : WX}
def e_k (d : D) : EM := fun _ S => .ok d S
def e_v (i : Nat) : EM := fun env S => match env[i]? with
  | some (some d) => .ok d S
  | _ => .bad
@[simp] theorem e_k_eq (d : D) (env : Env) (S : Sto) : e_k d env S = .ok d S := rfl
theorem c_int {i : Int} {j pos} : CE Γ X W (.Constant (.int i) j pos) (e_k (.int i)) := PE.weak pe_int fun σ H Q ⟨c, env, S, r, ev, h⟩ => fin_ok h r (by unfold At; rfl)
theorem c_bl {b : Bool} {j pos} : CE Γ X W (.Constant (.bool b) j pos) (e_k (.bl b)) := PE.weak pe_bl fun σ H Q ⟨c, env, S, r, ev, h⟩ => fin_ok h r (by unfold At; rfl)
theorem c_non {j pos} : CE Γ X W (.Constant .none j pos) (e_k .non) := PE.weak pe_non fun σ H Q ⟨c, env, S, r, ev, h⟩ => fin_ok h r (by unfold At; rfl)
theorem c_str {x : Str} {j pos} : CE Γ X W (.Constant (.str x) j pos) (e_k (.str x)) := PE.weak pe_str fun σ H Q ⟨c, env, S, r, ev, h⟩ => fin_ok h r (by unfold At; rfl)
theorem c_var {i : Nat} {x : Str} {pos : Pos} (hN : X.N[i]? = some x) (hv : Vis X.env.scope x) (hd : (x == ("__debug__" : Str)) = false := by decide) (hcd : (x == ("__classdict__" : Str)) = false := by decide) : CE Γ X W (.Name x pos) (e_v i) :=
  PE.weak (pe_var hN hv hd hcd) fun σ H Q ⟨c, env, S, r, ev, h⟩ => by
    change PoE _ W σ c H S.length (match env[i]? with
      | some (some d) => .ok d S
      | _ => .bad) Q at h
    cases he : env[i]? with
    | none => rw [he] at h; exact h.elim
    | some o =>
      cases o with
      | none => rw [he] at h; exact h.elim
      | some d =>
        rw [he] at h
        obtain ⟨v, q, a⟩ := ev.get he
        exact ⟨v, q, fin_ok h r a⟩
/-- two operands and what is made of them -/
def e_op (g : D → D → Sto → R D) (ma mb : EM) : EM := fun env S => (ma env S).bind fun x S1 => (mb env S1).bind fun y S2 => g x y S2
/-- g is what f does -/
def GOp (Γ : Cls') (X : Cx) (g : D → D → Sto → R D) (r : R2) : Prop := ∀ (W : WX) (σ : St) (c : Cn) (H : Hp) (S : Sto) (x y : D) (v u : V) (Q : VK), Rep ⟨X.K, Γ⟩ c H S → At ⟨X.K, Γ⟩ c H S.length x v → At ⟨X.K, Γ⟩ c H S.length y u → PoE ⟨X.K, Γ⟩ W σ c H S.length (g x y S) Q → r v u H Q
variable {a b : Expr} {ma mb : EM} {pos : Pos}
theorem c_bin {op : Operator} {r : R2} {g : D → D → Sto → R D} (ho : OpR X (binaryOp op) r) (hg : GOp Γ X g r) (ha : CE Γ X W a ma) (hb : CE Γ X W b mb) : CE Γ X W (.BinOp a op b pos) (e_op g ma mb) := by
  refine PE.weak (pe_op ho ha hb) fun σ H Q ⟨c, env, S, r, ev, h⟩ => ?_
  refine ⟨c, env, S, r, ev, (Po.bind h).imp fun v H1 ⟨c1, S1, d1, e1, r1, a1, h1⟩ => ?_⟩
  refine ⟨c1, env, S1, r1, ev.mono e1, (Po.bind h1).imp fun u H2 ⟨c2, S2, d2, e2, r2, a2, h2⟩ => ?_⟩
  exact hg W σ c2 H2 S2 d1 d2 v u Q r2 (a1.mono e2) a2 h2
end
end Mm
set_option maxRecDepth 100000
/-! Operators over the plain data. -/
namespace Mm
open PySem L2
section
variable {w : Wn} {W : WX} {σ : St} {c c' : Cn} {H H' : Hp} {n n' : Nat} {S : Sto} {env : Env}
/-! ## as data -/
mutual
def pyD : D → Option PyData
  | .non => some .none
  | .bl b => some (.bool b)
  | .int i => some (.int i)
  | .str x => some (.str x)
  | .lst ds => (pyDs ds).map .list
  | .tup ds => (pyDs ds).map .tuple
  | _ => none
def pyDs : List D → Option (List PyData)
  | [] => some []
  | d :: r => (pyD d).bind fun p => (pyDs r).map fun q => p :: q
end
mutual
theorem pyD_at : ∀ (d : D) (v : V) (p : PyData), At w c H n d v → pyD d = some p → Dp w.K H v p
  | .non, v, p, a, h => by unfold At at a; unfold pyD at h; cases h; rw [a]; exact .non
  | .bl b, v, p, a, h => by unfold At at a; unfold pyD at h; cases h; rw [a]; exact .bl b
  | .int i, v, p, a, h => by unfold At at a; unfold pyD at h; cases h; rw [a]; exact .int i
  | .str x, v, p, a, h => by unfold At at a; unfold pyD at h; cases h; rw [a]; exact .str x
  | .lst ds, v, p, a, h => by
    unfold At at a; unfold pyD at h
    obtain ⟨q, vs, e, f, g, t⟩ := a
    cases hq : pyDs ds with
    | none => rw [hq] at h; cases h
    | some ps => rw [hq] at h; cases h; rw [e]; exact .lst (SqL.of g) (pyDs_at ds vs ps t hq)
  | .tup ds, v, p, a, h => by
    unfold At at a; unfold pyD at h
    obtain ⟨q, vs, e, g, t⟩ := a
    cases hq : pyDs ds with
    | none => rw [hq] at h; cases h
    | some ps => rw [hq] at h; cases h; rw [e]; exact .tup g (pyDs_at ds vs ps t hq)
  | .dic _ _, _, _, _, h => by unfold pyD at h; cases h
  | .obj _ _, _, _, _, h => by unfold pyD at h; cases h
  | .fz _, _, _, _, h => by unfold pyD at h; cases h
  | .loc _, _, _, _, h => by unfold pyD at h; cases h
  | .oth _, _, _, _, h => by unfold pyD at h; cases h
  | .ttp _, _, _, _, h => by unfold pyD at h; cases h
  | .xn _ _, _, _, _, h => by unfold pyD at h; cases h
theorem pyDs_at : ∀ (ds : List D) (vs : List V) (ps : List PyData), Ats w c H n ds vs → pyDs ds = some ps → DpAll w.K H vs ps
  | [], vs, ps, a, h => by unfold Ats at a; unfold pyDs at h; cases h; rw [a]; exact .nil
  | d :: r, vs, ps, a, h => by
    unfold Ats at a; unfold pyDs at h
    obtain ⟨v, vr, e, a1, a2⟩ := a
    cases h1 : pyD d with
    | none => rw [h1] at h; cases h
    | some p =>
      rw [h1] at h
      cases h2 : pyDs r with
      | none => rw [h2] at h; cases h
      | some q => rw [h2] at h; cases h; rw [e]; exact .cons (pyD_at d v p a1 h1) (pyDs_at r vr q a2 h2)
end
def pyOf (S : Sto) (d : D) : Option PyData := match d with
  | .loc k => match S[k]? with
    | some (.lst ds) => (pyDs ds).map .list
    | _ => none
  | d => pyD d
theorem pyOf_at {d : D} {v : V} {p : PyData} (r : Rep w c H S) (a : At w c H S.length d v) (h : pyOf S d = some p) : Dp w.K H v p := by
  cases d with
  | loc k =>
    unfold At at a
    change (match S[k]? with
      | some (.lst ds) => (pyDs ds).map .list
      | _ => none) = some p at h
    cases hk : S[k]? with
    | none => rw [hk] at h; cases h
    | some o =>
      rw [hk] at h
      cases o with
      | lst es =>
        obtain ⟨vs, g, t⟩ := r.get hk
        rw [a.2]
        cases hq : pyDs es with
        | none => simp only [hq] at h; cases h
        | some ps => simp only [hq] at h; cases h; exact .lst (SqL.of g) (pyDs_at es vs ps t hq)
      | _ => cases h
  | _ => exact pyD_at _ v p a h
/-! ## what operators do -/
def R.if {α : Type} (b : Prop) [Decidable b] (r : R α) : R α := if b then r else .bad
@[simp] theorem R.if_pos {α : Type} {b : Prop} [Decidable b] {r : R α} (h : b) : R.if b r = r := _root_.if_pos h
theorem Po.if {α β : Type} {rel : Cn → Hp → Nat → α → β → Prop} {b : Prop} [Decidable b] {r : R α} {Q : β → Hp → Prop} (h : Po w W rel σ c H n (R.if b r) Q) : b ∧ Po w W rel σ c H n r Q := by
  unfold R.if at h
  by_cases hb : b
  · rw [_root_.if_pos hb] at h; exact ⟨hb, h⟩
  · rw [if_neg hb] at h; exact h.elim
def addL (S : Sto) (x y : D) : R D := match lstOf S x, lstOf S y with
  | some a, some b => .if (a.length + b.length ≤ sizeLine) (.ok (.lst (a ++ b)) S)
  | _, _ => .bad
def addD (x y : D) (S : Sto) : R D := match x, y with
  | .int i, .int j => .ok (.int (i + j)) S
  | .str a, .str b => .if (a.length + b.length ≤ sizeLine) (.ok (.str (a ++ b)) S)
  | .tup a, .tup b => .if (a.length + b.length ≤ sizeLine) (.ok (.tup (a ++ b)) S)
  | .lst a, y => addL S (.lst a) y
  | .loc a, y => addL S (.loc a) y
  | _, _ => .bad
def rAdd4 (K : PySem.W.Frag) : R2 := fun x y H Q => (((∃ i j, x = .int i ∧ y = .int j ∧ Q (.int (i + j)) H) ∨ (∃ i j, x = .str i ∧ y = .str j ∧ i.length + j.length ≤ sizeLine ∧ Q (.str (i ++ j)) H)) ∨ rCatA K x y H Q) ∨ rCat x y H Q
theorem op_add4 {X : Cx} : OpR X (binaryOp .Add) (rAdd4 X.K) := ((op_add.or op_add_str).or op_catA).or op_cat
theorem At.int {i : Int} {v : V} (h : At w c H n (.int i) v) : v = .int i := by unfold At at h; exact h
theorem At.str {i : Str} {v : V} (h : At w c H n (.str i) v) : v = .str i := by unfold At at h; exact h
theorem At.bl {i : Bool} {v : V} (h : At w c H n (.bl i) v) : v = .bl i := by unfold At at h; exact h
theorem At.non {v : V} (h : At w c H n .non v) : v = .non := by unfold At at h; exact h
theorem At.tup {ds : List D} {v : V} (h : At w c H n (.tup ds) v) : ∃ a vs, v = .ref a ∧ SqT w.K H a vs ∧ Ats w c H n ds vs := by unfold At at h; exact h
theorem At.i (i : Int) : At w c H n (.int i) (.int i) := by unfold At; rfl
theorem At.b (b : Bool) : At w c H n (.bl b) (.bl b) := by unfold At; rfl
theorem At.s (x : Str) : At w c H n (.str x) (.str x) := by unfold At; rfl
theorem At.o : At w c H n .non .non := by unfold At; rfl
theorem addL_at {x y : D} {v u : V} {Q : VK} (r : Rep w c H S) (a : At w c H S.length x v) (b : At w c H S.length y u) (h : PoE w W σ c H S.length (addL S x y) Q) : rCat v u H Q := by
  unfold addL at h
  cases hx : lstOf S x with
  | none => rw [hx] at h; exact h.elim
  | some as =>
    cases hy : lstOf S y with
    | none => rw [hx, hy] at h; exact h.elim
    | some bs =>
      rw [hx, hy] at h
      obtain ⟨hl, h⟩ := Po.if h
      obtain ⟨p, vs, rfl, g, t⟩ := lstOf_at r a hx
      obtain ⟨q, us, rfl, g', t'⟩ := lstOf_at r b hy
      exact ⟨p, q, vs, us, rfl, rfl, g, g', by rw [t.len, t'.len]; exact hl, fun z hz => fin_lst h r (t.app t') hz⟩
theorem g_add {Γ : Cls'} {X : Cx} : GOp Γ X addD (rAdd4 X.K) := by
  intro W σ c H S x y v u Q r a b h
  cases x with
  | int i =>
    cases y with
    | int j => exact .inl (.inl (.inl ⟨i, j, a.int, b.int, fin_ok h r (.i _)⟩))
    | _ => exact h.elim
  | str i =>
    cases y with
    | str j =>
      obtain ⟨hl, h⟩ := Po.if h
      exact .inl (.inl (.inr ⟨i, j, a.str, b.str, hl, fin_ok h r (.s _)⟩))
    | _ => exact h.elim
  | tup i =>
    cases y with
    | tup j =>
      obtain ⟨hl, h⟩ := Po.if h
      have a' := a
      have b' := b
      obtain ⟨p, vs, rfl, g, t⟩ := a.tup
      obtain ⟨q, us, rfl, g', t'⟩ := b.tup
      refine .inl (.inr ⟨p, q, vs, us, rfl, rfl, g, g', by rw [t.len, t'.len]; exact hl, fun e => ?_, fun _ e => ?_, fun _ _ z hz => fin_tup h r (t.app t') hz⟩)
      · have : i = [] := by
          have := t.len; rw [e] at this; exact List.length_eq_zero_iff.mp this.symm
        subst this
        exact fin_ok h r b'
      · have : j = [] := by
          have := t'.len; rw [e] at this; exact List.length_eq_zero_iff.mp this.symm
        subst this
        exact fin_ok h r (by rw [List.append_nil]; exact a')
    | _ => exact h.elim
  | lst i => exact .inr (addL_at r a b h)
  | loc k => exact .inr (addL_at r a b h)
  | _ => exact h.elim
@[simp] theorem addD_int (i j : Int) (S : Sto) : addD (.int i) (.int j) S = .ok (.int (i + j)) S := rfl
@[simp] theorem addD_str (i j : Str) (S : Sto) : addD (.str i) (.str j) S = .if (i.length + j.length ≤ sizeLine) (.ok (.str (i ++ j)) S) := rfl
@[simp] theorem addD_tup (i j : List D) (S : Sto) : addD (.tup i) (.tup j) S = .if (i.length + j.length ≤ sizeLine) (.ok (.tup (i ++ j)) S) := rfl
@[simp] theorem addD_ll (i j : List D) (S : Sto) : addD (.lst i) (.lst j) S = .if (i.length + j.length ≤ sizeLine) (.ok (.lst (i ++ j)) S) := rfl
/-- two ints -/
def intD (C : Int → Int → Prop) [∀ i j, Decidable (C i j)] (f : Int → Int → D) (x y : D) (S : Sto) : R D := match x, y with
  | .int i, .int j => .if (C i j) (.ok (f i j) S)
  | _, _ => .bad
def intD0 (f : Int → Int → D) (x y : D) (S : Sto) : R D := match x, y with
  | .int i, .int j => .ok (f i j) S
  | _, _ => .bad
@[simp] theorem intD_int (C : Int → Int → Prop) [∀ i j, Decidable (C i j)] (f : Int → Int → D) (i j : Int) (S : Sto) : intD C f (.int i) (.int j) S = .if (C i j) (.ok (f i j) S) := rfl
@[simp] theorem intD0_int (f : Int → Int → D) (i j : Int) (S : Sto) : intD0 f (.int i) (.int j) S = .ok (f i j) S := rfl
def DV : D → Option V
  | .int i => some (.int i)
  | .bl b => some (.bl b)
  | .str x => some (.str x)
  | .non => some .non
  | _ => none
theorem DV.at {d : D} {v : V} (h : DV d = some v) : At w c H n d v := by
  cases d with
  | int i => cases h; exact .i _
  | bl i => cases h; exact .b _
  | str i => cases h; exact .s _
  | non => cases h; exact .o
  | _ => cases h
theorem g_int {Γ : Cls'} {X : Cx} {C : Int → Int → Prop} [∀ i j, Decidable (C i j)] {f : Int → Int → D} {fv : Int → Int → V} (hf : ∀ i j, DV (f i j) = some (fv i j)) : GOp Γ X (intD C f) (rI C fv) := by
  intro W σ c H S x y v u Q r a b h
  cases x with
  | int i =>
    cases y with
    | int j =>
      obtain ⟨hl, h⟩ := Po.if h
      exact ⟨i, j, a.int, b.int, hl, fin_ok h r (DV.at (hf i j))⟩
    | _ => exact h.elim
  | _ => cases y <;> exact h.elim
theorem g_int0 {Γ : Cls'} {X : Cx} {f : Int → Int → D} {fv : Int → Int → V} (hf : ∀ i j, DV (f i j) = some (fv i j)) : GOp Γ X (intD0 f) (rI0 fv) := by
  intro W σ c H S x y v u Q r a b h
  cases x with
  | int i =>
    cases y with
    | int j => exact ⟨i, j, a.int, b.int, fin_ok h r (DV.at (hf i j))⟩
    | _ => exact h.elim
  | _ => cases y <;> exact h.elim
instance : ∀ i j, Decidable (CDiv i j) := fun _ _ => inferInstanceAs (Decidable (_ ∧ _))
instance : ∀ i j, Decidable (CPow i j) := fun _ _ => inferInstanceAs (Decidable (_ ∧ _ ∧ _))
instance : ∀ i j, Decidable (CMul i j) := fun _ _ => inferInstanceAs (Decidable (_ ∨ _))
instance : ∀ i j, Decidable (CMulW i j) := fun _ _ => inferInstanceAs (Decidable (_ < _))
def repD (x y : D) (S : Sto) : R D := match y with
  | .int k => match lstOf S x with
    | some a => .if (-(2 ^ 63) ≤ k ∧ k < 2 ^ 63 ∧ a.length * k.toNat ≤ sizeLine) (.ok (.lst (List.replicate k.toNat a).flatten) S)
    | none => .bad
  | _ => .bad
def mulD (x y : D) (S : Sto) : R D := match x, y with
  | .int i, .int j => .if (CMul i j ∨ CMulW i j) (.ok (.int (i * j)) S)
  | x, y => repD x y S
@[simp] theorem mulD_int (i j : Int) (S : Sto) : mulD (.int i) (.int j) S = .if (CMul i j ∨ CMulW i j) (.ok (.int (i * j)) S) := rfl
def rMul3 : R2 := fun x y H Q => ((rI CMul fun i j => .int (i * j)) x y H Q ∨ (rI CMulW fun i j => .int (i * j)) x y H Q) ∨ rRep x y H Q
theorem op_mul3 {X : Cx} : OpR X (binaryOp .Mult) rMul3 := (op_mul.or op_mulW).or op_rep
theorem ats_rep {ds : List D} {vs : List V} (t : Ats w c H n ds vs) : ∀ k, Ats w c H n (List.replicate k ds).flatten (List.replicate k vs).flatten
  | 0 => .nil
  | k + 1 => by rw [List.replicate_succ, List.replicate_succ, List.flatten_cons, List.flatten_cons]; exact t.app (ats_rep t k)
theorem g_mul {Γ : Cls'} {X : Cx} : GOp Γ X mulD rMul3 := by
  intro W σ c H S x y v u Q r a b h
  have go : PoE ⟨X.K, Γ⟩ W σ c H S.length (repD x y S) Q → rMul3 v u H Q := fun h => by
    unfold repD at h
    cases y with
    | int k =>
      dsimp only at h
      cases hx : lstOf S x with
      | none => rw [hx] at h; exact h.elim
      | some as =>
        rw [hx] at h
        obtain ⟨⟨k1, k2, hl⟩, h⟩ := Po.if h
        obtain ⟨p, vs, rfl, g, t⟩ := lstOf_at r a hx
        exact .inr ⟨p, k, vs, rfl, b.int, g, k1, k2, by rw [t.len]; exact hl, fun z hz => fin_lst h r (ats_rep t _) hz⟩
    | _ => exact h.elim
  cases x with
  | int i =>
    cases y with
    | int j =>
      obtain ⟨hl, h⟩ := Po.if h
      rcases hl with hl | hl
      · exact .inl (.inl ⟨i, j, a.int, b.int, hl, fin_ok h r (.i _)⟩)
      · exact .inl (.inr ⟨i, j, a.int, b.int, hl, fin_ok h r (.i _)⟩)
    | _ => exact go h
  | _ => exact go h
/-! ## comparisons -/
def eqD (neg : Bool) (x y : D) (S : Sto) : R D := match x, y with
  | .int i, .int j => .ok (.bl (neg ^^ decide (i = j))) S
  | .str i, .str j => .ok (.bl (neg ^^ decide (i = j))) S
  | x, y => match pyOf S x, pyOf S y with
    | some p, some q => .if (SeqAt.shaped p = true ∧ SeqAt.shaped q = true) (.ok (.bl (neg ^^ PyData.eqv p q)) S)
    | _, _ => .bad
@[simp] theorem eqD_int (neg : Bool) (i j : Int) (S : Sto) : eqD neg (.int i) (.int j) S = .ok (.bl (neg ^^ decide (i = j))) S := rfl
@[simp] theorem eqD_str (neg : Bool) (i j : Str) (S : Sto) : eqD neg (.str i) (.str j) S = .ok (.bl (neg ^^ decide (i = j))) S := rfl
def rEq2 (K : PySem.W.Frag) : R2 := fun x y H Q => rEq x y H Q ∨ rEqD K x y H Q
def rNe2 (K : PySem.W.Frag) : R2 := fun x y H Q => rNe x y H Q ∨ rNeD K x y H Q
theorem op_eq2 {X : Cx} (hu : X.A.units + 64 < cLine) : OpR X (compareOp .Eq) (rEq2 X.K) := op_eq.or (op_eqD hu)
theorem op_ne2 {X : Cx} (hu : X.A.units + 64 < cLine) : OpR X (compareOp .NotEq) (rNe2 X.K) := op_ne.or (op_neD hu)
theorem dint {i j : Int} : decide (V.int i = V.int j) = decide (i = j) := by by_cases h : i = j <;> simp [h]
theorem dstr {i j : Str} : decide (V.str i = V.str j) = decide (i = j) := by by_cases h : i = j <;> simp [h]
theorem eqD_at {neg : Bool} {x y : D} {v u : V} {Q : VK} (r : Rep w c H S) (a : At w c H S.length x v) (b : At w c H S.length y u) (h : PoE w W σ c H S.length (eqD neg x y S) Q) :
    (scal v u = true ∧ Q (.bl (neg ^^ decide (v = u))) H) ∨ ∃ d e, Dp w.K H v d ∧ Dp w.K H u e ∧ SeqAt.shaped d = true ∧ SeqAt.shaped e = true ∧ Q (.bl (neg ^^ PyData.eqv d e)) H := by
  have go : PoE w W σ c H S.length (match pyOf S x, pyOf S y with
    | some p, some q => .if (SeqAt.shaped p = true ∧ SeqAt.shaped q = true) (.ok (.bl (neg ^^ PyData.eqv p q)) S)
    | _, _ => .bad) Q → ((scal v u = true ∧ Q (.bl (neg ^^ decide (v = u))) H) ∨ ∃ d e, Dp w.K H v d ∧ Dp w.K H u e ∧ SeqAt.shaped d = true ∧ SeqAt.shaped e = true ∧ Q (.bl (neg ^^ PyData.eqv d e)) H) := fun h => by
    cases hx : pyOf S x with
    | none => rw [hx] at h; exact h.elim
    | some p =>
      cases hy : pyOf S y with
      | none => rw [hx, hy] at h; exact h.elim
      | some q =>
        rw [hx, hy] at h
        obtain ⟨⟨s1, s2⟩, h⟩ := Po.if h
        exact .inr ⟨p, q, pyOf_at r a hx, pyOf_at r b hy, s1, s2, fin_ok h r (.b _)⟩
  cases x with
  | int i =>
    cases y with
    | int j =>
      left
      have e1 := a.int; have e2 := b.int
      subst e1; subst e2
      refine ⟨rfl, ?_⟩
      rw [dint]
      exact fin_ok h r (.b _)
    | _ => exact go h
  | str i =>
    cases y with
    | str j =>
      left
      have e1 := a.str; have e2 := b.str
      subst e1; subst e2
      refine ⟨rfl, ?_⟩
      rw [dstr]
      exact fin_ok h r (.b _)
    | _ => exact go h
  | _ => exact go h
theorem g_eq {Γ : Cls'} {X : Cx} : GOp Γ X (eqD false) (rEq2 X.K) := by
  intro W σ c H S x y v u Q r a b h
  rcases eqD_at r a b h with ⟨h1, h2⟩ | ⟨d, e, h1, h2, h3, h4, h5⟩
  · exact .inl ⟨h1, by simpa using h2⟩
  · exact .inr ⟨d, e, h1, h2, h3, h4, by simpa using h5⟩
theorem g_ne {Γ : Cls'} {X : Cx} : GOp Γ X (eqD true) (rNe2 X.K) := by
  intro W σ c H S x y v u Q r a b h
  rcases eqD_at r a b h with ⟨h1, h2⟩ | ⟨d, e, h1, h2, h3, h4, h5⟩
  · exact .inl ⟨h1, by simpa using h2⟩
  · exact .inr ⟨d, e, h1, h2, h3, h4, by simpa using h5⟩
def isNon : D → Bool
  | .non => true
  | _ => false
def isD (neg : Bool) (x y : D) (S : Sto) : R D := match y with
  | .non => .ok (.bl (neg ^^ isNon x)) S
  | _ => .bad
@[simp] theorem isD_non (neg : Bool) (x : D) (S : Sto) : isD neg x .non S = .ok (.bl (neg ^^ isNon x)) S := rfl
theorem isNon_at {x : D} {v : V} (a : At w c H n x v) : decide (v = .non) = isNon x := by
  cases x with
  | non => rw [a.non]; rfl
  | int i => rw [a.int]; rfl
  | str i => rw [a.str]; rfl
  | bl i => rw [a.bl]; rfl
  | tup ds => unfold At at a; obtain ⟨p, vs, rfl, _⟩ := a; rfl
  | ttp ds => unfold At at a; obtain ⟨p, vs, rfl, _⟩ := a; rfl
  | lst ds => unfold At at a; obtain ⟨p, vs, rfl, _⟩ := a; rfl
  | dic ds => unfold At at a; obtain ⟨p, vs, rfl, _⟩ := a; rfl
  | obj ds => unfold At at a; obtain ⟨p, vs, C, dx, rfl, _⟩ := a; rfl
  | fz ds => unfold At at a; obtain ⟨p, rfl, _⟩ := a; rfl
  | loc k => unfold At at a; rw [a.2]; rfl
  | xn k ds => unfold At at a; obtain ⟨p, dd, C, vs, rfl, _⟩ := a; rfl
  | oth u =>
    unfold At at a
    obtain ⟨rfl, n⟩ := a
    cases v <;> first | rfl | cases n
end
end Mm
set_option maxRecDepth 100000
/-! More expressions over the plain data. -/
namespace Mm
open PySem L2
section
variable {w : Wn} {W : WX} {σ : St} {c c' : Cn} {H H' : Hp} {n n' : Nat} {S : Sto} {env : Env}
variable {Γ : Cls'} {X : Cx} {a b e : Expr} {ma mb : EM} {pos : Pos}
theorem c_cmp {op : CmpOp} {r : R2} {g : D → D → Sto → R D} (ho : OpR X (compareOp op) r) (hg : GOp Γ X g r) (ha : CE Γ X W a ma) (hb : CE Γ X W b mb) (hm : behindInMarks op b = false) : CE Γ X W (.Compare a [op] [b] pos) (e_op g ma mb) := by
  refine PE.weak (pe_cmpR ho ha hb hm) fun σ H Q ⟨c, env, S, r, ev, h⟩ => ?_
  refine ⟨c, env, S, r, ev, (Po.bind h).imp fun v H1 ⟨c1, S1, d1, e1, r1, a1, h1⟩ => ?_⟩
  refine ⟨c1, env, S1, r1, ev.mono e1, (Po.bind h1).imp fun u H2 ⟨c2, S2, d2, e2, r2, a2, h2⟩ => ?_⟩
  exact hg W σ c2 H2 S2 d1 d2 v u Q r2 (a1.mono e2) a2 h2
/-- a value's truth -/
def truD (S : Sto) (d : D) : Option Bool := match d with
  | .bl b => some b
  | .non => some false
  | .int i => some (i != 0)
  | .str x => if x.length ≤ sizeLine then some ((x.length : Int) != 0) else none
  | d => (seqOf S d).map fun ds => !ds.isEmpty
@[simp] theorem truD_bl (S : Sto) (b : Bool) : truD S (.bl b) = some b := rfl
@[simp] theorem truD_int (S : Sto) (i : Int) : truD S (.int i) = some (i != 0) := rfl
@[simp] theorem truD_tup (S : Sto) (ds : List D) : truD S (.tup ds) = some (!ds.isEmpty) := rfl
@[simp] theorem truD_lst (S : Sto) (ds : List D) : truD S (.lst ds) = some (!ds.isEmpty) := rfl
@[simp] theorem truD_non (S : Sto) : truD S .non = some false := rfl
theorem isEmpty_eq {α β : Type} {x : List α} {y : List β} (h : x.length = y.length) : x.isEmpty = y.isEmpty := by
  cases x <;> cases y <;> simp_all
theorem truD_at {d : D} {v : V} {k : Bool} (r : Rep w c H S) (a : At w c H S.length d v) (h : truD S d = some k) : TruV w.K v H k := by
  have go : ∀ ds, seqOf S d = some ds → k = !ds.isEmpty → TruV w.K v H k := fun ds h e => by
    obtain ⟨p, vs, rfl, g, t⟩ := seqOf_at r a h
    rw [← isEmpty_eq t.len] at e
    rcases g with g | g
    · exact .inl ⟨vs, g, e⟩
    · exact .inr (.inl ⟨vs, g, e⟩)
  have go2 : (seqOf S d).map (fun ds => !ds.isEmpty) = some k → TruV w.K v H k := fun h => by
    cases hs : seqOf S d with
    | none => rw [hs] at h; cases h
    | some ds => rw [hs] at h; cases h; exact go ds hs rfl
  cases d with
  | bl b => cases h; rw [a.bl]; rfl
  | non => cases h; rw [a.non]; rfl
  | int i => cases h; rw [a.int]; rfl
  | str x =>
    change (if x.length ≤ sizeLine then some ((x.length : Int) != 0) else none) = some k at h
    by_cases hl : x.length ≤ sizeLine
    · rw [if_pos hl] at h; cases h; rw [a.str]; exact ⟨hl, rfl⟩
    · rw [if_neg hl] at h; cases h
  | tup ds => exact go2 h
  | ttp ds => exact go2 h
  | lst ds => exact go2 h
  | fz ns => exact go2 h
  | loc k => exact go2 h
  | dic ks ds => cases h
  | obj k ds => cases h
  | oth u => cases h
  | xn k ds => cases h
def R.ofO {α : Type} (o : Option α) (S : Sto) : R α := match o with
  | some a => .ok a S
  | none => .bad
@[simp] theorem R.ofO_some {α : Type} (a : α) (S : Sto) : R.ofO (some a) S = .ok a S := rfl
theorem Po.ofO {α β : Type} {rel : Cn → Hp → Nat → α → β → Prop} {o : Option α} {Q : β → Hp → Prop} (h : Po w W rel σ c H n (R.ofO o S) Q) : ∃ a, o = some a ∧ Po w W rel σ c H n (.ok a S) Q := by
  cases o with
  | none => exact h.elim
  | some a => exact ⟨a, rfl, h⟩
def t_v (m : EM) : TM := fun env S => (m env S).bind fun d S1 => .ofO (truD S1 d) S1
theorem c_tru (ha : CE Γ X W a ma) (he : ∀ whole, isTrue a X.env whole = (do let v ← whole; standAt a.pos; holding [v] (truthy v)) := by intro _; rfl) : CT Γ X W a (t_v ma) := by
  refine PT.weak (pt_truth ha he) fun σ H Q ⟨c, env, S, r, ev, h⟩ => ?_
  refine ⟨c, env, S, r, ev, (Po.bind h).imp fun v H1 ⟨c1, S1, d1, e1, r1, a1, h1⟩ => ?_⟩
  obtain ⟨k, hk, h1⟩ := Po.ofO h1
  exact ⟨k, truD_at r1 a1 hk, h1 c1 H1 k Ext.refl r1 rfl⟩
/-- a comparison whose answer is a bool, as a test -/
def blD : D → Option Bool
  | .bl b => some b
  | _ => none
def t_b (m : EM) : TM := fun env S => (m env S).bind fun d S1 => .ofO (blD d) S1
@[simp] theorem blD_bl (b : Bool) : blD (.bl b) = some b := rfl
theorem tB_ok {m : EM} {σ : St} {H : Hp} {Q : Bool → Hp → Prop} (h : mT w W (t_b m) σ H Q) : mE w W m σ H fun x H' => ∃ k, x = .bl k ∧ Q k H' := by
  obtain ⟨c, env, S, r, ev, h⟩ := h
  refine ⟨c, env, S, r, ev, (Po.bind h).imp fun v H1 ⟨c1, S1, d1, e1, r1, a1, h1⟩ => ?_⟩
  obtain ⟨k, hk, h1⟩ := Po.ofO h1
  cases d1 with
  | bl b =>
    cases hk
    exact ⟨_, a1.bl, h1 c1 H1 _ Ext.refl r1 rfl⟩
  | _ => cases hk
theorem c_tcmp {op : CmpOp} {r : R2} {g : D → D → Sto → R D} (ho : OpR X (compareOp op) r) (hg : GOp Γ X g r) (ha : CE Γ X W a ma) (hb : CE Γ X W b mb) (hm : behindInMarks op b = false) : CT Γ X W (.Compare a [op] [b] pos) (t_b (e_op g ma mb)) := by
  refine PT.weak (pt_cmpR ho ha hb hm) fun σ H Q h => ?_
  obtain ⟨c, env, S, r, ev, h⟩ := tB_ok h
  refine ⟨c, env, S, r, ev, (Po.bind h).imp fun v H1 ⟨c1, S1, d1, e1, r1, a1, h1⟩ => ?_⟩
  refine ⟨c1, env, S1, r1, ev.mono e1, (Po.bind h1).imp fun u H2 ⟨c2, S2, d2, e2, r2, a2, h2⟩ => ?_⟩
  exact hg W σ c2 H2 S2 d1 d2 v u _ r2 (a1.mono e2) a2 h2
/-! ## and, or, not, if -/
def t_and (p q : TM) : TM := fun env S => (p env S).bind fun k S1 => if k = true then q env S1 else .ok false S1
def t_or (p q : TM) : TM := fun env S => (p env S).bind fun k S1 => if k = true then .ok true S1 else q env S1
def t_not (p : TM) : TM := fun env S => (p env S).bind fun k S1 => .ok (!k) S1
def e_and (p q : EM) : EM := fun env S => (p env S).bind fun d S1 => match d with
  | .bl true => q env S1
  | .bl false => .ok (.bl false) S1
  | _ => .bad
def e_or (p q : EM) : EM := fun env S => (p env S).bind fun d S1 => match d with
  | .bl true => .ok (.bl true) S1
  | .bl false => q env S1
  | _ => .bad
def e_not (p : EM) : EM := fun env S => (p env S).bind fun d S1 => match d with
  | .bl k => .ok (.bl (!k)) S1
  | _ => .bad
def e_if (t : TM) (p q : EM) : EM := fun env S => (t env S).bind fun k S1 => if k = true then p env S1 else q env S1
variable {pm qm : TM} {rest : List Expr}
abbrev CW (Γ : Cls') (X : Cx) (W : WX) (e : Expr) (m : TM) : Prop := PW X e (mT ⟨X.K, Γ⟩ W m)
theorem c_wand1 (ha : CT Γ X W a pm) : CW Γ X W (.BoolOp .And [a] pos) pm := pw_and1 ha
theorem c_wor1 (ha : CT Γ X W a pm) : CW Γ X W (.BoolOp .Or [a] pos) pm := pw_or1 ha
theorem c_wand (ha : CT Γ X W a pm) (hb : CW Γ X W (.BoolOp .And (b :: rest) pos) qm) : CW Γ X W (.BoolOp .And (a :: b :: rest) pos) (t_and pm qm) := by
  refine PW.weak (pw_and ha hb) fun σ H Q ⟨c, env, S, r, ev, h⟩ => ?_
  refine ⟨c, env, S, r, ev, (Po.bind h).imp fun k H1 ⟨c1, S1, d1, e1, r1, a1, h1⟩ => ?_⟩
  cases (show k = d1 from a1)
  cases k with
  | true => exact ⟨c1, env, S1, r1, ev.mono e1, h1⟩
  | false => exact h1 c1 H1 false Ext.refl r1 rfl
theorem c_wor (ha : CT Γ X W a pm) (hb : CW Γ X W (.BoolOp .Or (b :: rest) pos) qm) : CW Γ X W (.BoolOp .Or (a :: b :: rest) pos) (t_or pm qm) := by
  refine PW.weak (pw_or ha hb) fun σ H Q ⟨c, env, S, r, ev, h⟩ => ?_
  refine ⟨c, env, S, r, ev, (Po.bind h).imp fun k H1 ⟨c1, S1, d1, e1, r1, a1, h1⟩ => ?_⟩
  cases (show k = d1 from a1)
  cases k with
  | false => exact ⟨c1, env, S1, r1, ev.mono e1, h1⟩
  | true => exact h1 c1 H1 true Ext.refl r1 rfl
theorem c_wt (h : CW Γ X W e pm) : CT Γ X W e pm := h.pt
theorem c_tnot (ha : CT Γ X W a pm) : CT Γ X W (.UnaryOp .Not a pos) (t_not pm) := by
  refine PT.weak (pt_not ha) fun σ H Q ⟨c, env, S, r, ev, h⟩ => ?_
  refine ⟨c, env, S, r, ev, (Po.bind h).imp fun k H1 ⟨c1, S1, d1, e1, r1, a1, h1⟩ => ?_⟩
  cases (show k = d1 from a1)
  exact h1 c1 H1 _ Ext.refl r1 rfl
theorem c_one {op} (ha : CE Γ X W a ma) : CE Γ X W (.BoolOp op [a] pos) ma := pe_one ha
theorem c_and (ha : CE Γ X W a ma) (hb : CE Γ X W (.BoolOp .And (b :: rest) pos) mb) : CE Γ X W (.BoolOp .And (a :: b :: rest) pos) (e_and ma mb) := by
  refine PE.weak (pe_and ha hb) fun σ H Q ⟨c, env, S, r, ev, h⟩ => ?_
  refine ⟨c, env, S, r, ev, (Po.bind h).imp fun v H1 ⟨c1, S1, d1, e1, r1, a1, h1⟩ => ?_⟩
  cases d1 with
  | bl k =>
    refine ⟨k, a1.bl, ?_⟩
    cases k with
    | true => exact ⟨c1, env, S1, r1, ev.mono e1, h1⟩
    | false => exact fin_ok h1 r1 (.b _)
  | _ => exact h1.elim
theorem c_or (ha : CE Γ X W a ma) (hb : CE Γ X W (.BoolOp .Or (b :: rest) pos) mb) : CE Γ X W (.BoolOp .Or (a :: b :: rest) pos) (e_or ma mb) := by
  refine PE.weak (pe_or ha hb) fun σ H Q ⟨c, env, S, r, ev, h⟩ => ?_
  refine ⟨c, env, S, r, ev, (Po.bind h).imp fun v H1 ⟨c1, S1, d1, e1, r1, a1, h1⟩ => ?_⟩
  cases d1 with
  | bl k =>
    refine ⟨k, a1.bl, ?_⟩
    cases k with
    | false => exact ⟨c1, env, S1, r1, ev.mono e1, h1⟩
    | true => exact fin_ok h1 r1 (.b _)
  | _ => exact h1.elim
theorem c_not (ha : CE Γ X W a ma) : CE Γ X W (.UnaryOp .Not a pos) (e_not ma) := by
  refine PE.weak (pe_not ha) fun σ H Q ⟨c, env, S, r, ev, h⟩ => ?_
  refine ⟨c, env, S, r, ev, (Po.bind h).imp fun v H1 ⟨c1, S1, d1, e1, r1, a1, h1⟩ => ?_⟩
  cases d1 with
  | bl k => exact ⟨k, a1.bl, fin_ok h1 r1 (.b _)⟩
  | _ => exact h1.elim
theorem c_ifx {t : Expr} (ht : CT Γ X W t pm) (ha : CE Γ X W a ma) (hb : CE Γ X W b mb) : CE Γ X W (.IfExp t a b pos) (e_if pm ma mb) := by
  refine PE.weak (pe_ifExp ht ha hb) fun σ H Q ⟨c, env, S, r, ev, h⟩ => ?_
  refine ⟨c, env, S, r, ev, (Po.bind h).imp fun k H1 ⟨c1, S1, d1, e1, r1, a1, h1⟩ => ?_⟩
  cases (show k = d1 from a1)
  cases k with
  | true => exact ⟨c1, env, S1, r1, ev.mono e1, h1⟩
  | false => exact ⟨c1, env, S1, r1, ev.mono e1, h1⟩
/-! ## arguments, displays -/
def a_nil : AM := fun _ S => .ok [] S
def a_cons (m : EM) (r : AM) : AM := fun env S => (m env S).bind fun d S1 => (r env S1).bind fun ds S2 => .ok (d :: ds) S2
variable {es : List Expr} {am : AM}
theorem c_anil : CA Γ X W [] a_nil := PA.weak pa_nil fun σ H Q ⟨c, env, S, r, ev, h⟩ => h c H [] Ext.refl r .nil
theorem c_acons (ha : CE Γ X W e ma) (hr : CA Γ X W es am) (hs : starEach (e :: es) X.env = (false, eval e X.env) :: starEach es X.env := by rfl) : CA Γ X W (e :: es) (a_cons ma am) := by
  refine PA.weak (pa_cons ha hr hs) fun σ H Q ⟨c, env, S, r, ev, h⟩ => ?_
  refine ⟨c, env, S, r, ev, (Po.bind h).imp fun v H1 ⟨c1, S1, d1, e1, r1, a1, h1⟩ => ?_⟩
  refine ⟨c1, env, S1, r1, ev.mono e1, (Po.bind h1).imp fun u H2 ⟨c2, S2, d2, e2, r2, a2, h2⟩ => ?_⟩
  exact h2 c2 H2 _ Ext.refl r2 (.cons (a1.mono e2) a2)
def e_tup (m : AM) : EM := fun env S => (m env S).bind fun ds S1 => .if (ds.length ≤ 1000) (.ok (.tup ds) S1)
/-- an unchangeable list -/
def e_lst (m : AM) : EM := fun env S => (m env S).bind fun ds S1 => .if (ds.length ≤ 1000) (.ok (.lst ds) S1)
/-- a new place of the store -/
def e_new (m : AM) : EM := fun env S => (m env S).bind fun ds S1 => .if (ds.length ≤ 1000) (.ok (.loc S1.length) (S1 ++ [.lst ds]))
theorem line1000 : 1000 ≤ sizeLine := by rw [sizeLine_eq]; decide
theorem c_tup {k} (h : CA Γ X W es am) : CE Γ X W (.Tuple es k pos) (e_tup am) := by
  refine PE.weak (pe_tup h) fun σ H Q ⟨c, env, S, r, ev, h⟩ => ?_
  refine ⟨c, env, S, r, ev, (Po.bind h).imp fun vs H1 ⟨c1, S1, ds, e1, r1, a1, h1⟩ => ?_⟩
  obtain ⟨hl, h1⟩ := Po.if h1
  exact ⟨by rw [a1.len]; exact Nat.le_trans hl line1000, fun p hp => fin_tup h1 r1 a1 hp⟩
theorem c_lst (h : CA Γ X W es am) : CE Γ X W (.List es pos) (e_lst am) := by
  refine PE.weak (pe_lst h) fun σ H Q ⟨c, env, S, r, ev, h⟩ => ?_
  refine ⟨c, env, S, r, ev, (Po.bind h).imp fun vs H1 ⟨c1, S1, ds, e1, r1, a1, h1⟩ => ?_⟩
  obtain ⟨hl, h1⟩ := Po.if h1
  exact ⟨by rw [a1.len]; exact Nat.le_trans hl line1000, fun p hp => fin_lst h1 r1 a1 hp⟩
theorem c_new (h : CA Γ X W es am) : CE Γ X W (.List es pos) (e_new am) := by
  refine PE.weak (pe_lst h) fun σ H Q ⟨c, env, S, r, ev, h⟩ => ?_
  refine ⟨c, env, S, r, ev, (Po.bind h).imp fun vs H1 ⟨c1, S1, ds, e1, r1, a1, h1⟩ => ?_⟩
  obtain ⟨hl, h1⟩ := Po.if h1
  exact ⟨by rw [a1.len]; exact Nat.le_trans hl line1000, fun p hp => fin_new h1 r1 a1 hp⟩
/-! ## a[i], a[i:j] -/
def ixD (x y : D) (S : Sto) : R D := match x, y with
  | .str z, .int i => .if (z.length ≤ sizeLine) (.ofO ((atI z.cps.toList i).map fun k => .str ⟨#[k]⟩) S)
  | x, .int i => .ofO ((seqOf S x).bind fun ds => atI ds i) S
  | _, _ => .bad
@[simp] theorem ixD_tup (ds : List D) (i : Int) (S : Sto) : ixD (.tup ds) (.int i) S = .ofO (atI ds i) S := rfl
@[simp] theorem ixD_lst (ds : List D) (i : Int) (S : Sto) : ixD (.lst ds) (.int i) S = .ofO (atI ds i) S := rfl
@[simp] theorem ixD_fz (ns : List Int) (i : Int) (S : Sto) : ixD (.fz ns) (.int i) S = .ofO (atI (ns.map D.int) i) S := rfl
@[simp] theorem ixD_str (z : Str) (i : Int) (S : Sto) : ixD (.str z) (.int i) S = .if (z.length ≤ sizeLine) (.ofO ((atI z.cps.toList i).map fun k => .str ⟨#[k]⟩) S) := rfl
theorem ixD_loc {k : Nat} {ds : List D} {i : Int} {S : Sto} (h : S[k]? = some (.lst ds)) : ixD (.loc k) (.int i) S = .ofO (atI ds i) S := by
  show R.ofO ((lstOf S (.loc k)).bind fun ds => atI ds i) S = _
  rw [lstOf_loc h]; rfl
def rIx3 (K : PySem.W.Frag) : R2 := fun x y H Q => (rIxL K x y H Q ∨ rIxT K x y H Q) ∨ rIxS x y H Q
theorem ix3 : IxR X (rIx3 X.K) := (ix_list.or ix_tup).or ix_str
theorem Ats.atI {ds : List D} {vs : List V} {i : Int} {d : D} (t : Ats w c H n ds vs) (h : L2.atI ds i = some d) : ∃ v, L2.atI vs i = some v ∧ At w c H n d v := by
  unfold L2.atI at h ⊢
  rw [t.len]
  cases hj : ixN ds.length i with
  | none => rw [hj] at h; cases h
  | some j =>
    rw [hj] at h
    exact t.get h
theorem g_ix : GOp Γ X ixD (rIx3 X.K) := by
  intro W σ c H S x y v u Q r a b h
  have go : ∀ i, y = .int i → PoE ⟨X.K, Γ⟩ W σ c H S.length (.ofO ((seqOf S x).bind fun ds => L2.atI ds i) S) Q → rIx3 X.K v u H Q := fun i e h' => by
    subst e
    obtain ⟨d, hd, h⟩ := Po.ofO h'
    cases hx : seqOf S x with
    | none => rw [hx] at hd; cases hd
    | some ds =>
      rw [hx] at hd
      obtain ⟨p, vs, rfl, g, t⟩ := seqOf_at r a hx
      obtain ⟨z, hz, az⟩ := t.atI hd
      rcases g with g | g
      · exact .inl (.inl ⟨p, vs, i, z, rfl, b.int, g, hz, fin_ok h r az⟩)
      · exact .inl (.inr ⟨p, vs, i, z, rfl, b.int, g, hz, fin_ok h r az⟩)
  cases y with
  | int i =>
    cases x with
    | str z =>
      change PoE ⟨X.K, Γ⟩ W σ c H S.length (.if (z.length ≤ sizeLine) (.ofO ((L2.atI z.cps.toList i).map fun k => .str ⟨#[k]⟩) S)) Q at h
      obtain ⟨hl, h⟩ := Po.if h
      obtain ⟨d, hd, h⟩ := Po.ofO h
      cases hk : L2.atI z.cps.toList i with
      | none => rw [hk] at hd; cases hd
      | some k =>
        rw [hk] at hd
        cases hd
        exact .inr ⟨z, i, k, a.str, b.int, hl, hk, fin_ok h r (.s _)⟩
    | tup _ => exact go i rfl h
    | lst _ => exact go i rfl h
    | fz _ => exact go i rfl h
    | loc _ => exact go i rfl h
    | non => exact go i rfl h
    | bl _ => exact go i rfl h
    | int _ => exact go i rfl h
    | dic _ _ => exact go i rfl h
    | obj _ _ => exact go i rfl h
    | oth _ => exact go i rfl h
    | ttp _ => exact go i rfl h
    | xn _ _ => exact go i rfl h
  | _ => cases x <;> exact h.elim
theorem c_ix (ha : CE Γ X W a ma) (hb : CE Γ X W b mb) (hs : PlainIx b := by exact fun _ _ => rfl) : CE Γ X W (.Subscript a b pos) (e_op ixD ma mb) := by
  refine PE.weak (pe_ix ix3 ha hb hs) fun σ H Q ⟨c, env, S, r, ev, h⟩ => ?_
  refine ⟨c, env, S, r, ev, (Po.bind h).imp fun v H1 ⟨c1, S1, d1, e1, r1, a1, h1⟩ => ?_⟩
  refine ⟨c1, env, S1, r1, ev.mono e1, (Po.bind h1).imp fun u H2 ⟨c2, S2, d2, e2, r2, a2, h2⟩ => ?_⟩
  exact g_ix W σ c2 H2 S2 d1 d2 v u Q r2 (a1.mono e2) a2 h2
abbrev OM := Env → Sto → R (Option Int)
def relO (_ : Cn) (_ : Hp) (_ : Nat) (x v : Option Int) : Prop := v = x
def mO (w : Wn) (W : WX) (m : OM) : TO := fun σ H Q => mG w W relO m σ H Q
abbrev CO (Γ : Cls') (X : Cx) (W : WX) (e : Option Expr) (m : OM) : Prop := PO X e (mO ⟨X.K, Γ⟩ W m)
def o_none : OM := fun _ S => .ok none S
def o_some (m : EM) : OM := fun env S => (m env S).bind fun d S1 => match d with
  | .int i => .ok (some i) S1
  | _ => .bad
theorem PO.weak {e : Option Expr} {t t' : TO} (h : PO X e t) (i : ∀ σ H Q, t' σ H Q → t σ H Q) : PO X e t' := ⟨fun pins s σ H Q I q => h.run pins s σ H Q I (i σ H Q q)⟩
theorem c_onone : CO Γ X W none o_none := PO.weak po_none fun σ H Q ⟨c, env, S, r, ev, h⟩ => h c H none Ext.refl r rfl
theorem c_osome (ha : CE Γ X W a ma) : CO Γ X W (some a) (o_some ma) := by
  refine PO.weak (po_some ha) fun σ H Q ⟨c, env, S, r, ev, h⟩ => ?_
  refine ⟨c, env, S, r, ev, (Po.bind h).imp fun v H1 ⟨c1, S1, d1, e1, r1, a1, h1⟩ => ?_⟩
  cases d1 with
  | int i => exact ⟨i, a1.int, h1 c1 H1 _ Ext.refl r1 rfl⟩
  | _ => exact h1.elim
def cutD (ds : List D) (lo hi : Option Int) : List D := (ds.drop (HT.sIx ds.length 0 lo)).take (HT.sIx ds.length ds.length hi - HT.sIx ds.length 0 lo)
theorem Ats.cut {ds : List D} {vs : List V} (t : Ats w c H n ds vs) (lo hi : Option Int) : Ats w c H n (cutD ds lo hi) (cutV vs lo hi) := by
  unfold cutD cutV
  rw [t.len]
  exact (t.drop _).take _
def slD (x : D) (lo hi : Option Int) (S : Sto) : R D := match x with
  | .tup ds => .ok (.tup (cutD ds lo hi)) S
  | .str z => .if (z.length ≤ sizeLine) (.ok (.str (cutS z lo hi)) S)
  | x => match lstOf S x with
    | some ds => .ok (.lst (cutD ds lo hi)) S
    | none => .bad
@[simp] theorem slD_tup (ds : List D) (lo hi : Option Int) (S : Sto) : slD (.tup ds) lo hi S = .ok (.tup (cutD ds lo hi)) S := rfl
@[simp] theorem slD_lst (ds : List D) (lo hi : Option Int) (S : Sto) : slD (.lst ds) lo hi S = .ok (.lst (cutD ds lo hi)) S := rfl
@[simp] theorem slD_str (z : Str) (lo hi : Option Int) (S : Sto) : slD (.str z) lo hi S = .if (z.length ≤ sizeLine) (.ok (.str (cutS z lo hi)) S) := rfl
def e_sl (m : EM) (l h : OM) : EM := fun env S => (m env S).bind fun d S1 => (l env S1).bind fun lo S2 => (h env S2).bind fun hi S3 => slD d lo hi S3
theorem sl3 : SlR X (fun x lo hi H Q => (rSlL X.K x lo hi H Q ∨ rSlA X.K x lo hi H Q) ∨ rSlS x lo hi H Q) := (sl_list.or sl_tupA).or sl_str
theorem c_sl {lo hi : Option Expr} {lm hm : OM} {p2 : Pos} (ha : CE Γ X W a ma) (hl : CO Γ X W lo lm) (hh : CO Γ X W hi hm) : CE Γ X W (.Subscript a (.Slice lo hi none p2) pos) (e_sl ma lm hm) := by
  refine PE.weak (pe_slice sl3 ha hl hh) fun σ H Q ⟨c, env, S, r, ev, h⟩ => ?_
  refine ⟨c, env, S, r, ev, (Po.bind h).imp fun v H1 ⟨c1, S1, d1, e1, r1, a1, h1⟩ => ?_⟩
  refine ⟨c1, env, S1, r1, ev.mono e1, (Po.bind h1).imp fun u H2 ⟨c2, S2, d2, e2, r2, a2, h2⟩ => ?_⟩
  refine ⟨c2, env, S2, r2, (ev.mono e1).mono e2, (Po.bind h2).imp fun u3 H3 ⟨c3, S3, d3, e3, r3, a3, h3⟩ => ?_⟩
  cases (show u = d2 from a2)
  cases (show u3 = d3 from a3)
  have ax := (a1.mono e2).mono e3
  have go : (match lstOf S3 d1 with
    | some ds => R.ok (.lst (cutD ds u u3)) S3
    | none => .bad) = slD d1 u u3 S3 → (rSlL X.K v u u3 H3 Q ∨ rSlA X.K v u u3 H3 Q) ∨ rSlS v u u3 H3 Q := fun e => by
    cases hx : lstOf S3 d1 with
    | none => rw [hx] at e; rw [← e] at h3; exact h3.elim
    | some ds =>
      rw [hx] at e; rw [← e] at h3
      obtain ⟨p, vs, rfl, g, t⟩ := lstOf_at r3 ax hx
      exact .inl (.inl ⟨p, vs, rfl, SqL.of g, fun z hz => fin_lst h3 r3 (t.cut _ _) hz⟩)
  cases d1 with
  | tup ds =>
    have ax' := ax
    obtain ⟨p, vs, rfl, g, t⟩ := ax.tup
    refine .inl (.inr ⟨p, vs, rfl, g, fun hw => ?_, fun _ z hz => fin_tup h3 r3 (t.cut _ _) hz⟩)
    have e : cutD ds u u3 = ds := by
      unfold cutD
      rw [t.len] at hw
      rw [hw.1, hw.2, List.drop_zero, Nat.sub_zero, List.take_length]
    refine fin_ok h3 r3 ?_
    rw [e]; exact ax'
  | str z =>
    obtain ⟨hl, h3⟩ := Po.if h3
    exact .inr ⟨z, ax.str, hl, fin_ok h3 r3 (.s _)⟩
  | lst ds => exact go rfl
  | loc k => exact go rfl
  | non => exact go rfl
  | bl _ => exact go rfl
  | int _ => exact go rfl
  | dic _ _ => exact go rfl
  | obj _ _ => exact go rfl
  | fz _ => exact go rfl
  | oth _ => exact go rfl
  | ttp _ => exact go rfl
  | xn _ _ => exact go rfl
/-! ## calls of what is built in -/
def e_call (g : List D → Sto → R D) (m : AM) : EM := fun env S => (m env S).bind fun ds S1 => g ds S1
def GCall (Γ : Cls') (X : Cx) (g : List D → Sto → R D) (r : List V → Hp → VK → Prop) : Prop := ∀ (W : WX) (σ : St) (c : Cn) (H : Hp) (S : Sto) (ds : List D) (vs : List V) (Q : VK), Rep ⟨X.K, Γ⟩ c H S → Ats ⟨X.K, Γ⟩ c H S.length ds vs → PoE ⟨X.K, Γ⟩ W σ c H S.length (g ds S) Q → r vs H Q
theorem c_callB {id : String} {x : Str} {p : Pos} {r : List V → Hp → VK → Prop} {g : List D → Sto → R D} (hc : CallR X (.builtin id) r) (hg : GCall Γ X g r) (hgl : Gl X x) (hm : X.mg x = none) (hv : bootBuiltins x = some (.builtin id)) (ha : CA Γ X W (e :: es) am) (hn : x ≠ "__name__" := by decide) (hdb : (x == ("__debug__" : Str)) = false := by decide)
    (he : starEach (e :: es) X.env = (false, eval e X.env) :: starEach es X.env := by rfl) (hpl : (backTo pos (starEach es X.env)).any (·.1) = false := by rfl) : CE Γ X W (.Call (.Name x p) (e :: es) [] pos) (e_call g am) := by
  refine PE.weak (pe_callB hc hgl hm hv ha hn hdb he hpl) fun σ H Q ⟨c, env, S, r, ev, h⟩ => ?_
  exact ⟨c, env, S, r, ev, (Po.bind h).imp fun vs H1 ⟨c1, S1, ds, e1, r1, a1, h1⟩ => hg W σ c1 H1 S1 ds vs Q r1 a1 h1⟩
theorem c_callTy {T : String} {x : Str} {p : Pos} {r : List V → Hp → VK → Prop} {g : List D → Sto → R D} (hc : CallR X (.type T) r) (hg : GCall Γ X g r) (hgl : Gl X x) (hm : X.mg x = none) (hv : bootBuiltins x = some (.type T)) (ha : CA Γ X W (e :: es) am) (hn : x ≠ "__name__" := by decide) (hdb : (x == ("__debug__" : Str)) = false := by decide)
    (he : starEach (e :: es) X.env = (false, eval e X.env) :: starEach es X.env := by rfl) (hpl : (backTo pos (starEach es X.env)).any (·.1) = false := by rfl) : CE Γ X W (.Call (.Name x p) (e :: es) [] pos) (e_call g am) := by
  refine PE.weak (pe_callTy hc hgl hm hv ha hn hdb he hpl) fun σ H Q ⟨c, env, S, r, ev, h⟩ => ?_
  exact ⟨c, env, S, r, ev, (Po.bind h).imp fun vs H1 ⟨c1, S1, ds, e1, r1, a1, h1⟩ => hg W σ c1 H1 S1 ds vs Q r1 a1 h1⟩
theorem Ats.un1 {d : D} {vs : List V} (h : Ats w c H n [d] vs) : ∃ v, vs = [v] ∧ At w c H n d v := by
  obtain ⟨v, r, rfl, a, b⟩ := h.uncons
  rw [b.unnil]
  exact ⟨v, rfl, a⟩
theorem Ats.un2 {d d' : D} {vs : List V} (h : Ats w c H n [d, d'] vs) : ∃ v v', vs = [v, v'] ∧ At w c H n d v ∧ At w c H n d' v' := by
  obtain ⟨v, r, rfl, a, b⟩ := h.uncons
  obtain ⟨v', rfl, b'⟩ := b.un1
  exact ⟨v, v', rfl, a, b'⟩
def f1 (g : D → Sto → R D) (ds : List D) (S : Sto) : R D := match ds with
  | [x] => g x S
  | _ => .bad
def f2 (g : D → D → Sto → R D) (ds : List D) (S : Sto) : R D := match ds with
  | [x, y] => g x y S
  | _ => .bad
@[simp] theorem f1_eq (g : D → Sto → R D) (x : D) (S : Sto) : f1 g [x] S = g x S := rfl
@[simp] theorem f2_eq (g : D → D → Sto → R D) (x y : D) (S : Sto) : f2 g [x, y] S = g x y S := rfl
theorem GCall.one {g : D → Sto → R D} {r : List V → Hp → VK → Prop} (h : ∀ (W : WX) (σ : St) (c : Cn) (H : Hp) (S : Sto) (d : D) (v : V) (Q : VK), Rep ⟨X.K, Γ⟩ c H S → At ⟨X.K, Γ⟩ c H S.length d v → PoE ⟨X.K, Γ⟩ W σ c H S.length (g d S) Q → r [v] H Q) : GCall Γ X (f1 g) r := by
  intro W σ c H S ds vs Q rp a q
  cases ds with
  | nil => exact q.elim
  | cons x rs =>
    cases rs with
    | nil =>
      obtain ⟨v, rfl, a'⟩ := a.un1
      exact h W σ c H S x v Q rp a' q
    | cons y rs => exact q.elim
theorem GCall.two {g : D → D → Sto → R D} {r : List V → Hp → VK → Prop} (h : ∀ (W : WX) (σ : St) (c : Cn) (H : Hp) (S : Sto) (d e : D) (v u : V) (Q : VK), Rep ⟨X.K, Γ⟩ c H S → At ⟨X.K, Γ⟩ c H S.length d v → At ⟨X.K, Γ⟩ c H S.length e u → PoE ⟨X.K, Γ⟩ W σ c H S.length (g d e S) Q → r [v, u] H Q) : GCall Γ X (f2 g) r := by
  intro W σ c H S ds vs Q rp a q
  cases ds with
  | nil => exact q.elim
  | cons x rs =>
    cases rs with
    | nil => exact q.elim
    | cons y rs =>
      cases rs with
      | nil =>
        obtain ⟨v, v', rfl, a', b'⟩ := a.un2
        exact h W σ c H S x y v v' Q rp a' b' q
      | cons z rs => exact q.elim
def lenD (x : D) (S : Sto) : R D := match x with
  | .str z => .if (z.length ≤ sizeLine) (.ok (.int z.length) S)
  | x => .ofO ((seqOf S x).map fun ds => D.int ds.length) S
@[simp] theorem lenD_tup (ds : List D) (S : Sto) : lenD (.tup ds) S = .ok (.int ds.length) S := rfl
@[simp] theorem lenD_lst (ds : List D) (S : Sto) : lenD (.lst ds) S = .ok (.int ds.length) S := rfl
@[simp] theorem lenD_fz (ds : List Int) (S : Sto) : lenD (.fz ds) S = .ok (.int ds.length) S := by
  show R.ok (D.int ((ds.map D.int).length : Int)) S = _
  rw [List.length_map]
@[simp] theorem lenD_str (z : Str) (S : Sto) : lenD (.str z) S = .if (z.length ≤ sizeLine) (.ok (.int z.length) S) := rfl
theorem lenD_loc {k : Nat} {ds : List D} {S : Sto} (h : S[k]? = some (.lst ds)) : lenD (.loc k) S = .ok (.int ds.length) S := by
  show R.ofO ((lstOf S (.loc k)).map fun ds => D.int ds.length) S = _
  rw [lstOf_loc h]; rfl
theorem g_len : GCall Γ X (f1 lenD) (fun xs H Q => ∃ x n, xs = [x] ∧ LenV X.K x H n ∧ Q (.int n) H) := by
  refine .one fun W σ c H S x v Q r a h => ?_
  have go : PoE ⟨X.K, Γ⟩ W σ c H S.length (.ofO ((seqOf S x).map fun ds => D.int ds.length) S) Q → ∃ y n, [v] = [y] ∧ LenV X.K y H n ∧ Q (.int n) H := fun h => by
    obtain ⟨d, hd, h⟩ := Po.ofO h
    cases hx : seqOf S x with
    | none => rw [hx] at hd; cases hd
    | some ds =>
      rw [hx] at hd
      cases hd
      obtain ⟨p, vs, rfl, g, t⟩ := seqOf_at r a hx
      refine ⟨.ref p, ds.length, rfl, ?_, fin_ok h r (.i _)⟩
      rcases g with g | g
      · exact .inl ⟨vs, g, t.len.symm⟩
      · exact .inr ⟨vs, g, t.len.symm⟩
  cases x with
  | str z =>
    obtain ⟨hl, h⟩ := Po.if h
    exact ⟨v, z.length, rfl, by rw [a.str]; exact ⟨hl, rfl⟩, fin_ok h r (.i _)⟩
  | _ => exact go h
def intcD (x : D) (S : Sto) : R D := match x with
  | .int i => .ok (.int i) S
  | .bl k => .ok (.int (if k then 1 else 0)) S
  | _ => .bad
@[simp] theorem intcD_i (i : Int) (S : Sto) : intcD (.int i) S = .ok (.int i) S := rfl
@[simp] theorem intcD_b (k : Bool) (S : Sto) : intcD (.bl k) S = .ok (.int (if k then 1 else 0)) S := rfl
theorem g_intc : GCall Γ X (f1 intcD) (fun xs H Q => (∃ i, xs = [.int i] ∧ Q (.int i) H) ∨ ∃ k, xs = [.bl k] ∧ Q (.int (if k then 1 else 0)) H) := by
  refine .one fun W σ c H S x v Q r a h => ?_
  cases x with
  | int i => exact .inl ⟨i, by rw [a.int], fin_ok h r (.i _)⟩
  | bl k => exact .inr ⟨k, by rw [a.bl], fin_ok h r (.i _)⟩
  | _ => exact h.elim
theorem g_int2 {f : Int → Int → Int} : GCall Γ X (f2 (intD0 fun i j => .int (f i j))) (fun xs H Q => ∃ i j, xs = [.int i, .int j] ∧ Q (.int (f i j)) H) := by
  refine .two fun W σ c H S x y v u Q r a b h => ?_
  cases x with
  | int i =>
    cases y with
    | int j => exact ⟨i, j, by rw [a.int, b.int], fin_ok h r (.i _)⟩
    | _ => exact h.elim
  | _ => cases y <;> exact h.elim
def tupleD (x : D) (S : Sto) : R D := .ofO ((seqOf S x).map D.tup) S
def listD (x : D) (S : Sto) : R D := .ofO ((seqOf S x).map D.lst) S
/-- list(x) as a new place of the store -/
def listN (x : D) (S : Sto) : R D := match seqOf S x with
  | some ds => .ok (.loc S.length) (S ++ [SO.lst ds])
  | none => .bad
@[simp] theorem tupleD_t (ds : List D) (S : Sto) : tupleD (.tup ds) S = .ok (.tup ds) S := rfl
@[simp] theorem tupleD_l (ds : List D) (S : Sto) : tupleD (.lst ds) S = .ok (.tup ds) S := rfl
theorem tupleD_loc {k : Nat} {ds : List D} {S : Sto} (h : S[k]? = some (.lst ds)) : tupleD (.loc k) S = .ok (.tup ds) S := by
  show R.ofO ((lstOf S (.loc k)).map D.tup) S = _
  rw [lstOf_loc h]; rfl
@[simp] theorem listD_t (ds : List D) (S : Sto) : listD (.tup ds) S = .ok (.lst ds) S := rfl
@[simp] theorem listD_l (ds : List D) (S : Sto) : listD (.lst ds) S = .ok (.lst ds) S := rfl
theorem listD_loc {k : Nat} {ds : List D} {S : Sto} (h : S[k]? = some (.lst ds)) : listD (.loc k) S = .ok (.lst ds) S := by
  show R.ofO ((lstOf S (.loc k)).map D.lst) S = _
  rw [lstOf_loc h]; rfl
@[simp] theorem listN_t (ds : List D) (S : Sto) : listN (.tup ds) S = .ok (.loc S.length) (S ++ [.lst ds]) := rfl
@[simp] theorem listN_l (ds : List D) (S : Sto) : listN (.lst ds) S = .ok (.loc S.length) (S ++ [.lst ds]) := rfl
theorem listN_loc {k : Nat} {ds : List D} {S : Sto} (h : S[k]? = some (.lst ds)) : listN (.loc k) S = .ok (.loc S.length) (S ++ [.lst ds]) := by
  show (match lstOf S (.loc k) with
    | some ds => R.ok (D.loc S.length) (S ++ [SO.lst ds])
    | none => .bad) = _
  rw [lstOf_loc h]
theorem seqO {f : List D → D} {x : D} {v : V} {Q : VK} (r : Rep w c H S) (a : At w c H S.length x v) (h : PoE w W σ c H S.length (.ofO ((seqOf S x).map f) S) Q) :
    ∃ p vs ds, v = .ref p ∧ (SqL w.K H p vs ∨ SqT w.K H p vs) ∧ Ats w c H S.length ds vs ∧ PoE w W σ c H S.length (.ok (f ds) S) Q := by
  obtain ⟨d, hd, h⟩ := Po.ofO h
  cases hx : seqOf S x with
  | none => rw [hx] at hd; cases hd
  | some ds =>
    rw [hx] at hd
    cases hd
    obtain ⟨p, vs, rfl, g, t⟩ := seqOf_at r a hx
    exact ⟨p, vs, ds, rfl, g, t, h⟩
theorem g_tuple : GCall Γ X (f1 tupleD) (fun xs H Q => ∃ p ys, xs = [.ref p] ∧ ((SqL X.K H p ys ∧ ∀ l, H l = none → Q (.ref l) (upd H l (.tup ys))) ∨ (SqT X.K H p ys ∧ Q (.ref p) H))) := by
  refine .one fun W σ c H S x v Q r a h => ?_
  obtain ⟨p, vs, ds, rfl, g, t, h⟩ := seqO r a h
  refine ⟨p, vs, rfl, ?_⟩
  rcases g with g | g
  · exact .inl ⟨g, fun l hl => fin_tup h r t hl⟩
  · exact .inr ⟨g, fin_ok h r (by unfold At; exact ⟨p, vs, rfl, g, t⟩)⟩
theorem g_list : GCall Γ X (f1 listD) (fun xs H Q => ∃ p ys, xs = [.ref p] ∧ (SqL X.K H p ys ∨ SqT X.K H p ys) ∧ ∀ l, H l = none → Q (.ref l) (upd H l (.lst ys))) := by
  refine .one fun W σ c H S x v Q r a h => ?_
  obtain ⟨p, vs, ds, rfl, g, t, h⟩ := seqO r a h
  exact ⟨p, vs, rfl, g, fun l hl => fin_lst h r t hl⟩
theorem g_listN : GCall Γ X (f1 listN) (fun xs H Q => ∃ p ys, xs = [.ref p] ∧ (SqL X.K H p ys ∨ SqT X.K H p ys) ∧ ∀ l, H l = none → Q (.ref l) (upd H l (.lst ys))) := by
  refine .one fun W σ c H S x v Q r a h => ?_
  unfold listN at h
  cases hx : seqOf S x with
  | none => rw [hx] at h; exact h.elim
  | some ds =>
    rw [hx] at h
    obtain ⟨p, vs, rfl, g, t⟩ := seqOf_at r a hx
    exact ⟨p, vs, rfl, g, fun l hl => fin_new h r t hl⟩
end
end Mm
set_option maxRecDepth 100000
/-! Statements over the plain data. -/
namespace Mm
open PySem L2
inductive RS where
  | next (env : Env) (S : Sto) | ret (d : D) (S : Sto) | brk (env : Env) (S : Sto) | cnt (env : Env) (S : Sto) | ex (x : Exn) (env : Env) (S : Sto) | bad
abbrev SM := Env → Sto → RS
def R.toS {α : Type} (r : R α) (env : Env) (f : α → Sto → RS) : RS := match r with
  | .ok a S => f a S
  | .ex x S => .ex x env S
  | .bad => .bad
@[simp] theorem R.toS_ok {α : Type} (a : α) (S : Sto) (env : Env) (f : α → Sto → RS) : (R.ok a S).toS env f = f a S := rfl
@[simp] theorem R.toS_ex {α : Type} (x : Exn) (S : Sto) (env : Env) (f : α → Sto → RS) : (R.ex x S : R α).toS env f = .ex x env S := rfl
@[simp] theorem R.toS_bad {α : Type} (env : Env) (f : α → Sto → RS) : (R.bad : R α).toS env f = .bad := rfl
def RS.bind (r : RS) (f : Env → Sto → RS) : RS := match r with
  | .next env S => f env S
  | r => r
@[simp] theorem RS.bind_next (env : Env) (S : Sto) (f : Env → Sto → RS) : (RS.next env S).bind f = f env S := rfl
@[simp] theorem RS.bind_ret (d : D) (S : Sto) (f : Env → Sto → RS) : (RS.ret d S).bind f = .ret d S := rfl
@[simp] theorem RS.bind_brk (env : Env) (S : Sto) (f : Env → Sto → RS) : (RS.brk env S).bind f = .brk env S := rfl
@[simp] theorem RS.bind_cnt (env : Env) (S : Sto) (f : Env → Sto → RS) : (RS.cnt env S).bind f = .cnt env S := rfl
@[simp] theorem RS.bind_ex (x : Exn) (env : Env) (S : Sto) (f : Env → Sto → RS) : (RS.ex x env S).bind f = .ex x env S := rfl
@[simp] theorem RS.bind_bad (f : Env → Sto → RS) : RS.bad.bind f = .bad := rfl
def RS.if (b : Prop) [Decidable b] (r : RS) : RS := if b then r else .bad
@[simp] theorem RS.if_pos {b : Prop} [Decidable b] {r : RS} (h : b) : RS.if b r = r := _root_.if_pos h
section
variable (w : Wn) (W : WX)
def PoS (c : Cn) (H : Hp) (n : Nat) (r : RS) (Dn : Ends) : Prop := match r with
  | .next env S => ∀ c' H' σ', Ext c H n c' H' S.length → Rep w c' H' S → EnvR w c' H' S.length σ' env → Dn.nx σ' H'
  | .brk env S => ∀ c' H' σ', Ext c H n c' H' S.length → Rep w c' H' S → EnvR w c' H' S.length σ' env → Dn.bk σ' H'
  | .cnt env S => ∀ c' H' σ', Ext c H n c' H' S.length → Rep w c' H' S → EnvR w c' H' S.length σ' env → Dn.ct σ' H'
  | .ret d S => ∀ c' H' v, Ext c H n c' H' S.length → Rep w c' H' S → At w c' H' S.length d v → Dn.rt v H'
  | .ex x env S => ∀ c' H' σ' C dd, Ext c H n c' H' S.length → Rep w c' H' S → EnvR w c' H' S.length σ' env → XAt w c' H' S.length x C dd → W C dd σ' H'
  | .bad => False
def mS (m : SM) : TS := fun Dn σ H => ∃ c env S, Rep w c H S ∧ EnvR w c H S.length σ env ∧ PoS w W c H S.length (m env S) Dn
end
abbrev CS (Γ : Cls') (X : Cx) (W : WX) (st : Stmt) (m : SM) : Prop := PS X st (mS ⟨X.K, Γ⟩ W m)
abbrev CSs (Γ : Cls') (X : Cx) (W : WX) (st : List Stmt) (m : SM) : Prop := PSs X st (mS ⟨X.K, Γ⟩ W m)
theorem PS.weak {X : Cx} {st : Stmt} {t t' : TS} (h : PS X st t) (i : ∀ D σ H, t' D σ H → t D σ H) : PS X st t' := ⟨fun pins s σ H D I q => h.run pins s σ H D I (i D σ H q)⟩
theorem PSs.weak {X : Cx} {st : List Stmt} {t t' : TS} (h : PSs X st t) (i : ∀ D σ H, t' D σ H → t D σ H) : PSs X st t' := ⟨fun pins s σ H D I q => h.run pins s σ H D I (i D σ H q)⟩
section
variable {w : Wn} {W : WX} {σ : St} {c c' : Cn} {H H' : Hp} {n n' : Nat} {S : Sto} {env : Env}
variable {Γ : Cls'} {X : Cx} {a b e : Expr} {ma mb : EM} {pos : Pos} {Dn : Ends}
theorem PoS.mono {r : RS} (e : Ext c H n c' H' n') (h : PoS w W c H n r Dn) : PoS w W c' H' n' r Dn := by
  cases r with
  | next env S => exact fun c2 H2 s e2 r2 a => h c2 H2 s (e.trans e2) r2 a
  | brk env S => exact fun c2 H2 s e2 r2 a => h c2 H2 s (e.trans e2) r2 a
  | cnt env S => exact fun c2 H2 s e2 r2 a => h c2 H2 s (e.trans e2) r2 a
  | ret d S => exact fun c2 H2 v e2 r2 a => h c2 H2 v (e.trans e2) r2 a
  | ex x env S => exact fun c2 H2 s C dd e2 r2 a b => h c2 H2 s C dd (e.trans e2) r2 a b
  | bad => exact h.elim
theorem PoS.if {p : Prop} [Decidable p] {r : RS} (h : PoS w W c H n (.if p r) Dn) : p ∧ PoS w W c H n r Dn := by
  unfold RS.if at h
  by_cases hb : p
  · rw [_root_.if_pos hb] at h; exact ⟨hb, h⟩
  · rw [if_neg hb] at h; exact h.elim
theorem PoS.part {α β : Type} {rel : Cn → Hp → Nat → α → β → Prop} {r : R α} {f : α → Sto → RS} (ev : EnvR w c H n σ env) (h : PoS w W c H n (r.toS env f) Dn) :
    Po w W rel σ c H n r fun v H1 => ∃ c1 S1 d, Ext c H n c1 H1 S1.length ∧ Rep w c1 H1 S1 ∧ rel c1 H1 S1.length d v ∧ EnvR w c1 H1 S1.length σ env ∧ PoS w W c1 H1 S1.length (f d S1) Dn := by
  cases r with
  | ok d S => exact fun c2 H2 v e2 r2 a => ⟨c2, S, d, e2, r2, a, ev.mono e2, PoS.mono e2 h⟩
  | ex x S => exact fun c2 H2 C dd e2 r2 a => h c2 H2 σ C dd e2 r2 (ev.mono e2) a
  | bad => exact h.elim
theorem PoS.seq {r : RS} {f : SM} (h : PoS w W c H n (r.bind f) Dn) : PoS w W c H n r { Dn with nx := mS w W f Dn } := by
  cases r with
  | next env S => exact fun c2 H2 s e2 r2 a => ⟨c2, env, S, r2, a, PoS.mono e2 h⟩
  | brk env S => exact h
  | cnt env S => exact h
  | ret d S => exact h
  | ex x env S => exact h
  | bad => exact h.elim
def s_nil : SM := fun env S => .next env S
def s_seq (m f : SM) : SM := fun env S => (m env S).bind f
variable {st : Stmt} {sts : List Stmt} {m f : SM}
theorem c_nil : CSs Γ X W [] s_nil := PSs.weak pss_nil fun Dn σ H ⟨c, env, S, r, ev, h⟩ => h c H σ Ext.refl r ev
theorem c_seq (h1 : CS Γ X W st m) (h2 : CSs Γ X W sts f) : CSs Γ X W (st :: sts) (s_seq m f) := PSs.weak (pss_cons h1 h2) fun Dn σ H ⟨c, env, S, r, ev, h⟩ => ⟨c, env, S, r, ev, PoS.seq h⟩
theorem c_last (h1 : CS Γ X W st m) : CSs Γ X W [st] m := pss_one h1
def s_pass : SM := fun env S => .next env S
def s_brk : SM := fun env S => .brk env S
def s_cnt : SM := fun env S => .cnt env S
theorem c_pass : CS Γ X W (.Pass pos) s_pass := PS.weak ps_pass fun Dn σ H ⟨c, env, S, r, ev, h⟩ => h c H σ Ext.refl r ev
theorem c_brk : CS Γ X W (.Break pos) s_brk := PS.weak ps_break fun Dn σ H ⟨c, env, S, r, ev, h⟩ => h c H σ Ext.refl r ev
theorem c_cnt : CS Γ X W (.Continue pos) s_cnt := PS.weak ps_continue fun Dn σ H ⟨c, env, S, r, ev, h⟩ => h c H σ Ext.refl r ev
/-- code that is not reached -/
def s_bad : SM := fun _ _ => .bad
theorem c_bad : CS Γ X W st s_bad := PS.weak ps_never fun Dn σ H ⟨c, env, S, r, ev, h⟩ => h
theorem c_bads : CSs Γ X W sts s_bad := PSs.weak pss_never fun Dn σ H ⟨c, env, S, r, ev, h⟩ => h
def s_ex (m : EM) : SM := fun env S => (m env S).toS env fun _ S1 => .next env S1
def s_ret (m : EM) : SM := fun env S => (m env S).toS env fun d S1 => .ret d S1
def s_set (i : Nat) (m : EM) : SM := fun env S => (m env S).toS env fun d S1 => .next (env.set i (some d)) S1
def s_if (t : TM) (p q : SM) : SM := fun env S => (t env S).toS env fun k S1 => if k = true then p env S1 else q env S1
theorem c_expr (he : CE Γ X W e ma) (hs : swapsWith e none pos.line X.env = pure false := by rfl) : CS Γ X W (.Expr e pos) (s_ex ma) := by
  refine PS.weak (ps_expr he hs) fun Dn σ H ⟨c, env, S, r, ev, h⟩ => ?_
  exact ⟨c, env, S, r, ev, (PoS.part ev h).imp fun v H1 ⟨c1, S1, d1, e1, r1, a1, ev1, h1⟩ => h1 c1 H1 σ Ext.refl r1 ev1⟩
theorem c_ret (he : CE Γ X W e ma) : CS Γ X W (.Return (some e) pos) (s_ret ma) := by
  refine PS.weak (ps_ret he) fun Dn σ H ⟨c, env, S, r, ev, h⟩ => ?_
  exact ⟨c, env, S, r, ev, (PoS.part ev h).imp fun v H1 ⟨c1, S1, d1, e1, r1, a1, ev1, h1⟩ => h1 c1 H1 v Ext.refl r1 a1⟩
theorem c_retN : CS Γ X W (.Return none pos) (s_ret (e_k .non)) := PS.weak ps_retN fun Dn σ H ⟨c, env, S, r, ev, h⟩ => h c H .non Ext.refl r .o
theorem c_set {i : Nat} {x : Str} {pos' : Pos} (hN : X.N.Nodup) (hi : X.N[i]? = some x) (hx : Loc X.env.scope x) (he : CE Γ X W e ma) (hs : swapsWith e (some (.Name x pos')) pos.line X.env = pure false := by rfl) (hf : X.fn x = true ∨ X.env.scope.names.lookup x = some .local := by first | exact .inl rfl | exact .inr rfl | assumption) :
    CS Γ X W (.Assign [.Name x pos'] e pos) (s_set i ma) := by
  refine PS.weak (ps_set hN hi hx he hs hf) fun Dn σ H ⟨c, env, S, r, ev, h⟩ => ?_
  exact ⟨c, env, S, r, ev, (PoS.part ev h).imp fun v H1 ⟨c1, S1, d1, e1, r1, a1, ev1, h1⟩ => h1 c1 H1 _ Ext.refl r1 (ev1.set a1)⟩
theorem c_if {t : Expr} {pm : TM} {as bs : List Stmt} {p q : SM} (ht : CT Γ X W t pm) (ha : CSs Γ X W as p) (hb : CSs Γ X W bs q) : CS Γ X W (.If t as bs pos) (s_if pm p q) := by
  refine PS.weak (ps_if ht ha hb) fun Dn σ H ⟨c, env, S, r, ev, h⟩ => ?_
  refine ⟨c, env, S, r, ev, (PoS.part ev h).imp fun k H1 ⟨c1, S1, d1, e1, r1, a1, ev1, h1⟩ => ?_⟩
  cases (show k = d1 from a1)
  cases k with
  | true => exact ⟨c1, env, S1, r1, ev1, h1⟩
  | false => exact ⟨c1, env, S1, r1, ev1, h1⟩
/-! ## targets -/
abbrev GM := D → Env → Option Env
abbrev GMs := List D → Env → Option Env
def Bt (sl : List Nat) (σ σ' : List (Option V)) : Prop := σ'.length = σ.length ∧ ∀ j : Nat, j ∉ sl → σ'[j]? = σ[j]?
def mTg (w : Wn) (sl : List Nat) (g : GM) : TG := fun v σ H Q => ∃ c env S d env', Rep w c H S ∧ EnvR w c H S.length σ env ∧ At w c H S.length d v ∧ g d env = some env' ∧ ∀ σ', EnvR w c H S.length σ' env' → Bt sl σ σ' → Q σ' H
def mTgs (w : Wn) (sl : List Nat) (g : GMs) : TGs := fun vs σ H Q => ∃ c env S ds env', Rep w c H S ∧ EnvR w c H S.length σ env ∧ Ats w c H S.length ds vs ∧ g ds env = some env' ∧ ∀ σ', EnvR w c H S.length σ' env' → Bt sl σ σ' → Q σ' H
abbrev CG (Γ : Cls') (X : Cx) (tg : Expr) (sl : List Nat) (g : GM) : Prop := PG X tg (mTg ⟨X.K, Γ⟩ sl g)
abbrev CGs (Γ : Cls') (X : Cx) (tg : List Expr) (sl : List Nat) (g : GMs) : Prop := PGs X tg (mTgs ⟨X.K, Γ⟩ sl g)
def g_name (i : Nat) : GM := fun d env => some (env.set i (some d))
def g_nil : GMs := fun ds env => match ds with
  | [] => some env
  | _ => none
def g_cons (g : GM) (gs : GMs) : GMs := fun ds env => match ds with
  | d :: r => (g d env).bind fun env1 => gs r env1
  | [] => none
def g_tup (gs : GMs) : GM := fun d env => match d with
  | .tup ds => gs ds env
  | _ => none
theorem PG.weak {tg : Expr} {t t' : TG} (h : PG X tg t) (i : ∀ v σ H Q, t' v σ H Q → t v σ H Q) : PG X tg t' := ⟨fun pins s σ H v u Q I r q => h.run pins s σ H v u Q I r (i v σ H Q q)⟩
theorem PGs.weak {tg : List Expr} {t t' : TGs} (h : PGs X tg t) (i : ∀ v σ H Q, t' v σ H Q → t v σ H Q) : PGs X tg t' := ⟨fun pins s σ H v u Q I r q => h.run pins s σ H v u Q I r (i v σ H Q q)⟩
theorem c_gname {i : Nat} {x : Str} (hN : X.N.Nodup) (hi : X.N[i]? = some x) (hx : Loc X.env.scope x) (hf : X.fn x = true ∨ X.env.scope.names.lookup x = some .local := by first | exact .inl rfl | exact .inr rfl | assumption) : CG Γ X (.Name x pos) [i] (g_name i) :=
  PG.weak (pg_name hN hi hx hf) fun v σ H Q ⟨c, env, S, d, env', r, ev, a, g, q⟩ => by
    cases g
    exact q _ (ev.set a) ⟨List.length_set, fun j hj => List.getElem?_set_ne fun e => hj (by simp [e])⟩
theorem c_gnil : CGs Γ X [] [] g_nil := PGs.weak pgs_nil fun vs σ H Q ⟨c, env, S, ds, env', r, ev, a, g, q⟩ => by
  cases ds with
  | nil => cases g; exact ⟨a.unnil, q σ ev ⟨rfl, fun _ _ => rfl⟩⟩
  | cons d r => cases g
theorem c_gcons {tg : Expr} {tgs : List Expr} {g : GM} {gs : GMs} {sl sls : List Nat} (h1 : CG Γ X tg sl g) (h2 : CGs Γ X tgs sls gs) (hs : (assignEach (tg :: tgs) X.env).map (·.2) = assign tg X.env :: (assignEach tgs X.env).map (·.2) := by rfl) : CGs Γ X (tg :: tgs) (sl ++ sls) (g_cons g gs) :=
  PGs.weak (pgs_cons h1 h2 hs) fun vs σ H Q ⟨c, env, S, ds, env', r, ev, a, g', q⟩ => by
    cases ds with
    | nil => cases g'
    | cons d rs =>
      obtain ⟨v, vr, rfl, a1, a2⟩ := a.uncons
      change (g d env).bind (fun env1 => gs rs env1) = some env' at g'
      cases hg : g d env with
      | none => rw [hg] at g'; cases g'
      | some env1 =>
        rw [hg] at g'
        exact ⟨v, vr, rfl, c, env, S, d, env1, r, ev, a1, hg, fun σ1 ev1 b1 => ⟨c, env1, S, rs, env', r, ev1, a2, g', fun σ2 ev2 b2 => q σ2 ev2 ⟨b2.1.trans b1.1, fun j hj => (b2.2 j fun z => hj (List.mem_append_right _ z)).trans (b1.2 j fun z => hj (List.mem_append_left _ z))⟩⟩⟩
/-- gs takes k values -/
def Takes' (k : Nat) (gs : GMs) : Prop := ∀ ds env env', gs ds env = some env' → ds.length = k
theorem takes_nil : Takes' 0 g_nil := fun ds env env' h => by cases ds with
  | nil => rfl
  | cons d r => cases h
theorem takes_cons {k : Nat} {g : GM} {gs : GMs} (h : Takes' k gs) : Takes' (k + 1) (g_cons g gs) := fun ds env env' q => by
  cases ds with
  | nil => cases q
  | cons d r =>
    change (g d env).bind (fun env1 => gs r env1) = some env' at q
    cases hg : g d env with
    | none => rw [hg] at q; cases q
    | some env1 => rw [hg] at q; rw [List.length_cons, h r env1 env' q]
theorem c_gtup {es : List Expr} {k n : Nat} {gs : GMs} {sls : List Nat} (hc : X.calm = true) (h : CGs Γ X es sls gs) (ht : Takes' n gs) (hn : (assignEach es X.env).length = n := by rfl) (hst : (assignEach es X.env).findIdx? (·.1) = none := by rfl) : CG Γ X (.Tuple es k pos) sls (g_tup gs) :=
  PG.weak (pg_tup (n := n) hc h hn hst) fun v σ H Q ⟨c, env, S, d, env', r, ev, a, g, q⟩ => by
    cases d with
    | tup ds =>
      obtain ⟨p, vs, rfl, s, t⟩ := a.tup
      exact ⟨p, vs, rfl, s, by rw [t.len]; exact ht ds env env' g, c, env, S, ds, env', r, ev, t, g, q⟩
    | _ => cases g
def s_asg (m : EM) (g : GM) : SM := fun env S => (m env S).toS env fun d S1 => match g d env with
  | some env1 => .next env1 S1
  | none => .bad
theorem c_asg {tg : Expr} {g : GM} {sl : List Nat} (he : CE Γ X W e ma) (hg : CG Γ X tg sl g) (hs : swapsWithSole [tg] e pos.line X.env = pure false := by rfl) (hw : swappedStores [tg] e X.env = pure none := by rfl)
    (h1 : (assignEach [tg] X.env).map (·.2) = [assign tg X.env] := by rfl) : CS Γ X W (.Assign [tg] e pos) (s_asg ma g) := by
  refine PS.weak (ps_asg he hg hs hw h1) fun Dn σ H ⟨c, env, S, r, ev, h⟩ => ?_
  refine ⟨c, env, S, r, ev, (PoS.part ev h).imp fun v H1 ⟨c1, S1, d1, e1, r1, a1, ev1, h1⟩ => ?_⟩
  cases hg : g d1 env with
  | none => simp only [hg] at h1; exact h1.elim
  | some env1 =>
    simp only [hg] at h1
    exact ⟨c1, env, S1, d1, env1, r1, ev1, a1, hg, fun σ1 ev2 _ => h1 c1 H1 σ1 Ext.refl r1 ev2⟩
/-! ## o[i] = v -/
def setL (S : Sto) (x y z : D) : Option Sto := match x, y with
  | .loc k, .int i => match S[k]? with
    | some (.lst ds) => (ixN ds.length i).map fun j => S.set k (.lst (ds.set j z))
    | _ => none
  | _, _ => none
theorem setL_loc {S : Sto} {k : Nat} {ds : List D} {i : Int} {z : D} {j : Nat} (h : S[k]? = some (.lst ds)) (hj : ixN ds.length i = some j) : setL S (.loc k) (.int i) z = some (S.set k (.lst (ds.set j z))) := by
  unfold setL
  simp only [h, hj, Option.map_some]
def s_put (mv mo mi : EM) : SM := fun env S => (mv env S).toS env fun z S1 => (mo env S1).toS env fun x S2 => (mi env S2).toS env fun y S3 => match setL S3 x y z with
  | some S4 => .next env S4
  | none => .bad
theorem c_put {o i : Expr} {mo mi : EM} {p0 : Pos} (he : CE Γ X W e ma) (ho : CE Γ X W o mo) (hi : CE Γ X W i mi) (hs : swapsWithSole [.Subscript o i p0] e pos.line X.env = pure false := by rfl) (hw : swappedStores [.Subscript o i p0] e X.env = pure none := by rfl)
    (h1 : (assignEach [.Subscript o i p0] X.env).map (·.2) = [assign (.Subscript o i p0) X.env] := by rfl)
    (h2 : ∀ v, assign (.Subscript o i p0) X.env v = (do
      let ov ← holding [v] (eval o X.env)
      let iv ← holding [v, ov] (eval i X.env)
      standAt p0
      holding [v, ov, iv] (setItem ov iv v)
      release [v, ov, iv] []) := by intro _; rfl) : CS Γ X W (.Assign [.Subscript o i p0] e pos) (s_put ma mo mi) := by
  refine PS.weak (ps_asg he (pg_sub ho hi set_list h2) hs hw h1) fun Dn σ H ⟨c, env, S, r, ev, h⟩ => ?_
  refine ⟨c, env, S, r, ev, (PoS.part ev h).imp fun v H1 ⟨c1, S1, d1, e1, r1, a1, ev1, h1⟩ => ?_⟩
  refine ⟨c1, env, S1, r1, ev1, (PoS.part ev1 h1).imp fun v2 H2 ⟨c2, S2, d2, e2, r2, a2, ev2, h2⟩ => ?_⟩
  refine ⟨c2, env, S2, r2, ev2, (PoS.part ev2 h2).imp fun v3 H3 ⟨c3, S3, d3, e3, r3, a3, ev3, h3⟩ => ?_⟩
  cases hs : setL S3 d2 d3 d1 with
  | none => simp only [hs] at h3; exact h3.elim
  | some S4 =>
    simp only [hs] at h3
    cases d2 with
    | loc k =>
      cases d3 with
      | int i =>
        unfold setL at hs
        cases hk : S3[k]? with
        | none => simp only [hk] at hs; cases hs
        | some o =>
          cases o with
          | lst ds =>
            simp only [hk] at hs
            cases hj : ixN ds.length i with
            | none => rw [hj] at hs; cases hs
            | some j =>
              rw [hj] at hs
              cases hs
              have ak := a2.mono e3
              unfold At at ak
              obtain ⟨vs, g, t⟩ := r3.get hk
              have az := (a1.mono e2).mono e3
              refine ⟨c3.ρ k, vs, i, j, ak.2, a3.int, g, by rw [t.len]; exact hj, ?_⟩
              have ex := Ext.wr r3 (o := .lst (vs.set j v)) ak.1 ⟨_, g, trivial⟩
              have rr := Rep.wr r3 (o := .lst (vs.set j v)) (so := .lst (ds.set j d1)) ak.1 ⟨_, g, trivial⟩ ⟨_, upd_same, (t.set az j).mono ex⟩
              have hl : (S3.set k (.lst (ds.set j d1))).length = S3.length := List.length_set
              exact h3 c3 _ σ (by rw [hl]; exact ex) rr (by rw [hl]; exact ev3.mono ex)
          | _ => simp only [hk] at hs; cases hs
      | _ => cases hs
    | _ => cases hs
/-! ## o.m(e), o.m() of what is built in -/
def e_meth (ty : D → Sto → Bool) (g : D → List D → Sto → R D) (mo : EM) (m : AM) : EM := fun env S => (mo env S).bind fun x S1 => .if (ty x S1 = true) ((m env S1).bind fun ds S2 => g x ds S2)
def GTy (T : String) (ty : D → Sto → Bool) : Prop := ∀ (w : Wn) (c : Cn) (H : Hp) (S : Sto) (x : D) (v : V), Rep w c H S → At w c H S.length x v → ty x S = true → tyV w.K T v H
def GMt (Γ : Cls') (X : Cx) (g : D → List D → Sto → R D) (r : V → List V → Hp → VK → Prop) : Prop := ∀ (W : WX) (σ : St) (c : Cn) (H : Hp) (S : Sto) (x : D) (v : V) (ds : List D) (vs : List V) (Q : VK), Rep ⟨X.K, Γ⟩ c H S → At ⟨X.K, Γ⟩ c H S.length x v → Ats ⟨X.K, Γ⟩ c H S.length ds vs → PoE ⟨X.K, Γ⟩ W σ c H S.length (g x ds S) Q → r v vs H Q
theorem c_meth {T id : String} {name : Str} {o : Expr} {es : List Expr} {apos cpos : Pos} {r : V → List V → Hp → VK → Prop} {ty : D → Sto → Bool} {g : D → List D → Sto → R D} {mo : EM} {am : AM} (pa : PlainAttrs T) (slot : Slot T name id) (hty : typeOf (.builtin id) = pure (.type "method_descriptor")) (hm : MtR X id r) (ht : GTy T ty) (hg : GMt Γ X g r)
    (ho : CE Γ X W o mo) (ha : CA Γ X W (e :: es) am)
    (hbase : attributeBase o name X.env (eval o X.env) = eval o X.env := by rfl)
    (hfew : ((backTo cpos (starEach (e :: es) X.env)).all (fun x => !x.1) && (backToKw cpos (keywordEach [] X.env)).all (fun x => x.1.isSome)
      && decide ((e :: es).length + ([] : List Keyword).length + (if ([] : List Keyword).isEmpty then 0 else 1) < 30)) = true := by rfl)
    (hline : (apos.endLine == cpos.line) = true := by rfl) (hs : starEach (e :: es) X.env = (false, eval e X.env) :: starEach es X.env := by rfl) (hplain : (backTo cpos (starEach es X.env)).any (·.1) = false := by rfl) :
    CE Γ X W (.Call (.Attribute o name apos) (e :: es) [] cpos) (e_meth ty g mo am) := by
  refine PE.weak (pe_bm pa slot hty hm ho ha hbase hfew hline hs hplain) fun σ H Q ⟨c, env, S, r, ev, h⟩ => ?_
  refine ⟨c, env, S, r, ev, (Po.bind h).imp fun v H1 ⟨c1, S1, d1, e1, r1, a1, h1⟩ => ?_⟩
  obtain ⟨hty, h1⟩ := Po.if h1
  refine ⟨ht _ c1 H1 S1 d1 v r1 a1 hty, c1, env, S1, r1, ev.mono e1, (Po.bind h1).imp fun vs H2 ⟨c2, S2, ds, e2, r2, a2, h2⟩ => ?_⟩
  exact hg W σ c2 H2 S2 d1 v ds vs Q r2 (a1.mono e2) a2 h2
theorem c_meth0 {T id : String} {name : Str} {o : Expr} {apos cpos : Pos} {r : V → List V → Hp → VK → Prop} {ty : D → Sto → Bool} {g : D → List D → Sto → R D} {mo : EM} (pa : PlainAttrs T) (slot : Slot T name id) (hty : typeOf (.builtin id) = pure (.type "method_descriptor")) (hm : MtR X id r) (ht : GTy T ty) (hg : GMt Γ X g r)
    (ho : CE Γ X W o mo) (hbase : attributeBase o name X.env (eval o X.env) = eval o X.env := by rfl) (hline : (apos.endLine == cpos.line) = true := by rfl) : CE Γ X W (.Call (.Attribute o name apos) [] [] cpos) (e_meth ty g mo a_nil) := by
  refine PE.weak (pe_bm0 pa slot hty hm ho hbase hline) fun σ H Q ⟨c, env, S, r, ev, h⟩ => ?_
  refine ⟨c, env, S, r, ev, (Po.bind h).imp fun v H1 ⟨c1, S1, d1, e1, r1, a1, h1⟩ => ?_⟩
  obtain ⟨hty, h1⟩ := Po.if h1
  exact ⟨ht _ c1 H1 S1 d1 v r1 a1 hty, hg W σ c1 H1 S1 d1 v [] [] Q r1 a1 .nil h1⟩
def tyL (x : D) (S : Sto) : Bool := (lstOf S x).isSome
theorem gty_list : GTy "list" tyL := by
  intro w c H S x v r a h
  cases hx : lstOf S x with
  | none => unfold tyL at h; rw [hx] at h; cases h
  | some ds =>
    obtain ⟨p, vs, rfl, g, t⟩ := lstOf_at r a hx
    exact .inl ⟨rfl, vs, SqL.of g⟩
@[simp] theorem tyL_lst (ds : List D) (S : Sto) : tyL (.lst ds) S = true := rfl
theorem tyL_loc {k : Nat} {ds : List D} {S : Sto} (h : S[k]? = some (.lst ds)) : tyL (.loc k) S = true := by unfold tyL; rw [lstOf_loc h]; rfl
def appD (x : D) (ds : List D) (S : Sto) : R D := match x, ds with
  | .loc k, [y] => match S[k]? with
    | some (.lst es) => .if (es.length < sizeLine) (.ok .non (S.set k (.lst (es ++ [y]))))
    | _ => .bad
  | _, _ => .bad
theorem appD_loc {S : Sto} {k : Nat} {es : List D} {y : D} (h : S[k]? = some (.lst es)) : appD (.loc k) [y] S = .if (es.length < sizeLine) (.ok .non (S.set k (.lst (es ++ [y])))) := by
  unfold appD; simp only [h]
def extD (x : D) (ds : List D) (S : Sto) : R D := match x, ds with
  | .loc k, [y] => match S[k]?, lstOf S y with
    | some (.lst es), some fs => .if (es.length + fs.length ≤ sizeLine) (.ok .non (S.set k (.lst (es ++ fs))))
    | _, _ => .bad
  | _, _ => .bad
theorem extD_loc {S : Sto} {k : Nat} {es fs : List D} {y : D} (h : S[k]? = some (.lst es)) (hy : lstOf S y = some fs) : extD (.loc k) [y] S = .if (es.length + fs.length ≤ sizeLine) (.ok .non (S.set k (.lst (es ++ fs)))) := by
  unfold extD; simp only [h, hy]
theorem wr_end {k : Nat} {es : List D} {us : List V} {Q : VK} {d : D} {v : V} (hd : DV d = some v) (r : Rep w c H S) (hk : k < S.length) (hm : ∃ u, H (c.ρ k) = .some u ∧ Mut (.some u)) (t : Ats w c H S.length es us) (h : PoE w W σ c H S.length (.ok d (S.set k (.lst es))) Q) : Q v (upd H (c.ρ k) (.lst us)) := by
  have ex := Ext.wr r (o := .lst us) hk hm
  have rr := Rep.wr r (o := .lst us) (so := .lst es) hk hm ⟨_, upd_same, t.mono ex⟩
  have hl : (S.set k (.lst es)).length = S.length := List.length_set
  exact h c _ v (by rw [hl]; exact ex) rr (DV.at hd)
theorem gm_app : GMt Γ X appD rAppend := by
  intro W σ c H S x v ds vs Q r a t h
  cases x with
  | loc k =>
    cases ds with
    | nil => exact h.elim
    | cons y rs =>
      cases rs with
      | nil =>
        obtain ⟨u, rfl, ay⟩ := t.un1
        cases hk : S[k]? with
        | none => unfold appD at h; simp only [hk] at h; exact h.elim
        | some o =>
          cases o with
          | lst es =>
            rw [appD_loc hk] at h
            obtain ⟨hl, h⟩ := Po.if h
            unfold At at a
            obtain ⟨us, g, te⟩ := r.get hk
            exact ⟨c.ρ k, us, u, a.2, rfl, g, by rw [te.len]; exact hl, wr_end rfl r a.1 ⟨_, g, trivial⟩ (te.app (.one ay)) h⟩
          | _ => unfold appD at h; simp only [hk] at h; exact h.elim
      | cons z rs => exact h.elim
  | _ => exact h.elim
theorem gm_ext : GMt Γ X extD rExtend := by
  intro W σ c H S x v ds vs Q r a t h
  cases x with
  | loc k =>
    cases ds with
    | nil => exact h.elim
    | cons y rs =>
      cases rs with
      | nil =>
        obtain ⟨u, rfl, ay⟩ := t.un1
        cases hk : S[k]? with
        | none => unfold extD at h; simp only [hk] at h; exact h.elim
        | some o =>
          cases o with
          | lst es =>
            cases hy : lstOf S y with
            | none => unfold extD at h; simp only [hk, hy] at h; exact h.elim
            | some fs =>
              rw [extD_loc hk hy] at h
              obtain ⟨hl, h⟩ := Po.if h
              unfold At at a
              obtain ⟨us, g, te⟩ := r.get hk
              obtain ⟨q, ws, rfl, g2, tf⟩ := lstOf_at r ay hy
              exact ⟨c.ρ k, q, us, ws, a.2, rfl, g, g2, by rw [te.len, tf.len]; exact hl, wr_end rfl r a.1 ⟨_, g, trivial⟩ (te.app tf) h⟩
          | _ => unfold extD at h; simp only [hk] at h; exact h.elim
      | cons z rs => exact h.elim
  | _ => exact h.elim
end
end Mm
set_option maxRecDepth 100000
namespace Tk
open PySem L2
/-! ## heaps -/
/-- all but what stands at p is as it was -/
def Kp (p : Addr) (H H' : Hp) : Prop := ∀ b o, H b = some o → b ≠ p → H' b = some o
theorem Kp.refl (p : Addr) (H : Hp) : Kp p H H := fun _ _ e _ => e
theorem Kp.trans {p : Addr} {H H1 H2 : Hp} (a : Kp p H H1) (b : Kp p H1 H2) : Kp p H H2 := fun c o e n => b c o (a c o e n) n
theorem Kp.upd {p : Addr} {H : Hp} {o : HO} : Kp p H (L2.upd H p o) := fun c u e n => by rw [upd_ne n]; exact e
theorem Kp.new {p q : Addr} {H H' : Hp} {o : HO} (a : Kp p H H') (n : H' q = none) : Kp p H (L2.upd H' q o) := fun c u e m => by
  rw [upd_ne (ne_of_none (a c u e m) n)]; exact a c u e m
theorem Kp.of_same {p : Addr} {H H' : Hp} (a : Same H H') : Kp p H H' := fun c o e _ => a c o e
theorem same_new {H : Hp} {p : Addr} (h : H p = none) (o : HO) : Same H (L2.upd H p o) := fun b u q => by rw [upd_ne (ne_of_none q h)]; exact q
/-- the pool: three whole numbers -/
def PoolAt (H : Hp) (p : Addr) : Prop := ∃ a b c : Int, H p = some (.lst [.int a, .int b, .int c])
theorem Kp.tup {p q : Addr} {H H' : Hp} {xs : List V} {ys : List V} (k : Kp p H H') (hp : H p = some (.lst ys)) (h : H q = some (.tup xs)) : H' q = some (.tup xs) :=
  k q _ h (ne_of h hp (by intro z; cases z))
/-! ## numbers -/
theorem fmod_ok {a n : Int} (h : 0 < n) : 0 ≤ a.fmod n ∧ a.fmod n < n := ⟨Int.fmod_nonneg_of_pos a h, Int.fmod_lt_of_pos a h⟩
/-! ## texts -/
def Low (z : Str) : Prop := ∀ c ∈ z.cps.toList, 97 ≤ c ∧ c ≤ 122
def IsName (z : Str) : Prop := 1 ≤ z.length ∧ z.length ≤ 8 ∧ Low z
abbrev alpha : Str := "abcdefghijklmnopqrstuvwxyz"
theorem alpha_all : ∀ n : Fin 26, atI alpha.cps.toList ((n.val : Nat) : Int) = some (97 + n.val) := by decide +kernel
theorem alpha_at {i : Int} (h0 : 0 ≤ i) (h1 : i < 26) : ∃ c, atI alpha.cps.toList i = some c ∧ 97 ≤ c ∧ c ≤ 122 := by
  have e : i = ((i.toNat : Nat) : Int) := by omega
  have q := alpha_all ⟨i.toNat, by omega⟩
  rw [e]
  exact ⟨_, q, by simp, by simp; omega⟩
theorem low_nil : Low ("" : Str) := fun c h => by cases h
theorem low_app {x y : Str} (a : Low x) (b : Low y) : Low (x ++ y) := fun c h => by
  have h' : c ∈ (x.cps ++ y.cps).toList := h
  rw [Array.toList_append] at h'
  rcases List.mem_append.mp h' with q | q
  · exact a c q
  · exact b c q
theorem low_one {c : Nat} (h : 97 ≤ c ∧ c ≤ 122) : Low ⟨#[c]⟩ := fun d q => by
  have e : d = c := by simpa using q
  rw [e]; exact h
theorem low_cut {x : Str} (a : Low x) (lo hi : Option Int) : Low (cutS x lo hi) := fun c h => by
  have h' : c ∈ ((x.cps.toList.drop (HT.sIx x.length 0 lo)).take (HT.sIx x.length x.length hi - HT.sIx x.length 0 lo)) := by simpa [cutS] using h
  exact a c (List.mem_of_mem_drop (List.mem_of_mem_take h'))
theorem len_app (x y : Str) : (x ++ y).length = x.length + y.length := by
  show (x.cps ++ y.cps).size = _
  rw [Array.size_append]; rfl
theorem len_one (c : Nat) : (⟨#[c]⟩ : Str).length = 1 := rfl
theorem len_cut_lo (x : Str) (k : Nat) (h : k ≤ x.length) : (cutS x none (some (k : Int))).length = k := by
  have e : x.cps.toList.length = x.length := by simp [Str.length]
  show (((x.cps.toList.drop (HT.sIx x.length 0 none)).take (HT.sIx x.length x.length (some (k : Int)) - HT.sIx x.length 0 none)).toArray).size = k
  rw [HT.sIx_nat, HT.sIx_none, List.size_toArray, List.length_take, List.length_drop, e]
  omega
theorem len_cut_hi (x : Str) (k : Nat) (h : k ≤ x.length) : (cutS x (some (k : Int)) none).length = x.length - k := by
  have e : x.cps.toList.length = x.length := by simp [Str.length]
  show (((x.cps.toList.drop (HT.sIx x.length 0 (some (k : Int)))).take (HT.sIx x.length x.length none - HT.sIx x.length 0 (some (k : Int)))).toArray).size = _
  rw [HT.sIx_nat, HT.sIx_none, List.size_toArray, List.length_take, List.length_drop, e]
  omega
theorem isName_mk {b : Str} {c : Nat} {k : Int} (hb : Low b) (hl : b.length ≤ 7) (hc : 97 ≤ c ∧ c ≤ 122) (h0 : 0 ≤ k) (h1 : k ≤ b.length) :
    IsName (cutS b none (some k) ++ ⟨#[c]⟩ ++ cutS b (some k) none) := by
  obtain ⟨n, rfl⟩ : ∃ n : Nat, k = (n : Int) := ⟨k.toNat, by omega⟩
  have hn : n ≤ b.length := by omega
  refine ⟨?_, ?_, low_app (low_app (low_cut hb _ _) (low_one hc)) (low_cut hb _ _)⟩
  · rw [len_app, len_app, len_one]; omega
  · rw [len_app, len_app, len_one, len_cut_lo b n hn, len_cut_hi b n hn]; omega
/-- the list of the three names -/
def NamesAt (H : Hp) (q : Addr) : Prop := ∃ x y z : Str, H q = some (.lst [.str x, .str y, .str z]) ∧ IsName x ∧ IsName y ∧ IsName z
/-! ## statements -/
inductive Wd | take | commit | rollback | drop | leave
  deriving DecidableEq
def Wd.s : Wd → Str
  | .take => "take" | .commit => "commit" | .rollback => "rollback" | .drop => "drop" | .leave => "leave"
def Wd.held : Wd → Int → Int
  | .take, h => h + 1 | .commit, _ => 0 | .rollback, _ => 0 | .leave, _ => 0 | .drop, h => h
/-- lock (true), unlock -/
def lockS (b : Bool) : Str := if b then "lock" else "unlock"
inductive Stm
  | one (w : Wd)
  | nam (b : Bool) (n : Str)
  | ch (y n : List Stm)
mutual
def Stm.d : Stm → PyData
  | .one w => .tuple [.str w.s]
  | .nam b n => .tuple [.str (lockS b), .str n]
  | .ch y n => .tuple [.str "choose", .tuple (dAll y), .tuple (dAll n)]
def dAll : List Stm → List PyData
  | [] => []
  | s :: r => s.d :: dAll r
end
mutual
def Stm.cnt : Stm → Nat
  | .one _ => 1
  | .nam _ _ => 1
  | .ch y n => 1 + cntAll y + cntAll n
def cntAll : List Stm → Nat
  | [] => 0
  | s :: r => s.cnt + cntAll r
end
mutual
def Stm.held : Stm → Int → Int
  | .one w, h => w.held h
  | .nam _ _, h => h
  | .ch y n, h => max (heldAll y h) (heldAll n h)
def heldAll : List Stm → Int → Int
  | [], h => h
  | s :: r, h => heldAll r (s.held h)
end
mutual
/-- s is a good statement inside of d chooses, when h numbers are held -/
def Stm.ok : Nat → Stm → Int → Prop
  | _, .one w, h => w = .take → h ≠ 3
  | _, .nam _ n, _ => IsName n
  | d, .ch y n, h => d < 2 ∧ okAll (d + 1) y h ∧ okAll (d + 1) n h
def okAll : Nat → List Stm → Int → Prop
  | _, [], _ => True
  | d, s :: r, h => s.ok d h ∧ okAll d r (s.held h)
end
mutual
/-- the value v is the statement s -/
def Stm.at : Hp → V → Stm → Prop
  | H, v, .one w => ∃ a, v = .ref a ∧ H a = some (.tup [.str w.s])
  | H, v, .nam b n => ∃ a, v = .ref a ∧ H a = some (.tup [.str (lockS b), .str n])
  | H, v, .ch y n => ∃ a b c xs ys, v = .ref a ∧ H a = some (.tup [.str "choose", .ref b, .ref c]) ∧ H b = some (.tup xs) ∧ atAll H xs y ∧ H c = some (.tup ys) ∧ atAll H ys n
def atAll : Hp → List V → List Stm → Prop
  | _, xs, [] => xs = []
  | H, xs, s :: r => ∃ v vs, xs = v :: vs ∧ s.at H v ∧ atAll H vs r
end
/-- tuples stay -/
def TK (H H' : Hp) : Prop := ∀ a xs, H a = some (.tup xs) → H' a = some (.tup xs)
theorem TK.refl (H : Hp) : TK H H := fun _ _ h => h
theorem TK.trans {H H1 H2 : Hp} (a : TK H H1) (b : TK H1 H2) : TK H H2 := fun c o h => b c o (a c o h)
theorem TK.of_same {H H' : Hp} (s : Same H H') : TK H H' := fun a xs h => s a _ h
theorem Kp.tk {p : Addr} {H H' : Hp} {ys : List V} (k : Kp p H H') (hp : H p = some (.lst ys)) : TK H H' := fun a xs h => k.tup hp h
mutual
theorem Stm.at_keep {H H' : Hp} (k : TK H H') : ∀ (s : Stm) (v : V), s.at H v → s.at H' v
  | .one w, v, h => by
    unfold Stm.at at h ⊢
    obtain ⟨a, e, h⟩ := h
    exact ⟨a, e, k _ _ h⟩
  | .nam b n, v, h => by
    unfold Stm.at at h ⊢
    obtain ⟨a, e, h⟩ := h
    exact ⟨a, e, k _ _ h⟩
  | .ch y n, v, h => by
    unfold Stm.at at h ⊢
    obtain ⟨a, b, c, xs, ys, e, h1, h2, h3, h4, h5⟩ := h
    exact ⟨a, b, c, xs, ys, e, k _ _ h1, k _ _ h2, atAll_keep k y xs h3, k _ _ h4, atAll_keep k n ys h5⟩
theorem atAll_keep {H H' : Hp} (k : TK H H') : ∀ (B : List Stm) (xs : List V), atAll H xs B → atAll H' xs B
  | [], xs, h => h
  | s :: r, xs, h => by
    unfold atAll at h ⊢
    obtain ⟨v, vs, e, h1, h2⟩ := h
    exact ⟨v, vs, e, Stm.at_keep k s v h1, atAll_keep k r vs h2⟩
end
theorem atAll_len {H : Hp} : ∀ {B : List Stm} {xs : List V}, atAll H xs B → xs.length = B.length
  | [], xs, h => by unfold atAll at h; rw [h]; rfl
  | s :: r, xs, h => by
    unfold atAll at h
    obtain ⟨v, vs, e, h1, h2⟩ := h
    rw [e, List.length_cons, List.length_cons, atAll_len h2]
theorem atAll_get {H : Hp} : ∀ {B : List Stm} {xs : List V} {i : Nat} {s : Stm}, atAll H xs B → B[i]? = some s → ∃ v, xs[i]? = some v ∧ s.at H v
  | [], xs, i, s, h, e => by simp at e
  | t :: r, xs, 0, s, h, e => by
    unfold atAll at h
    obtain ⟨v, vs, e1, h1, h2⟩ := h
    have e2 : t = s := Option.some.inj e
    exact ⟨v, by rw [e1]; rfl, e2 ▸ h1⟩
  | t :: r, xs, i + 1, s, h, e => by
    unfold atAll at h
    obtain ⟨v, vs, e1, h1, h2⟩ := h
    obtain ⟨u, h3, h4⟩ := atAll_get (i := i) (s := s) h2 e
    exact ⟨u, by rw [e1]; exact h3, h4⟩
theorem atAll_app {H : Hp} : ∀ {B C : List Stm} {xs ys : List V}, atAll H xs B → atAll H ys C → atAll H (xs ++ ys) (B ++ C)
  | [], C, xs, ys, h, g => by unfold atAll at h; rw [h]; exact g
  | s :: r, C, xs, ys, h, g => by
    unfold atAll at h
    obtain ⟨v, vs, e, h1, h2⟩ := h
    rw [e]
    show atAll H (v :: (vs ++ ys)) (s :: (r ++ C))
    unfold atAll
    exact ⟨v, vs ++ ys, rfl, h1, atAll_app h2 g⟩
theorem atAll_one {H : Hp} {s : Stm} {v : V} (h : s.at H v) : atAll H [v] [s] := by
  unfold atAll
  exact ⟨v, [], rfl, h, by unfold atAll; rfl⟩
theorem atAll_drop {H : Hp} : ∀ {B : List Stm} {xs : List V} (n : Nat), atAll H xs B → atAll H (xs.drop n) (B.drop n)
  | B, xs, 0, h => h
  | [], xs, n + 1, h => by unfold atAll at h; rw [h]; rfl
  | s :: r, xs, n + 1, h => by
    unfold atAll at h
    obtain ⟨v, vs, e, h1, h2⟩ := h
    rw [e]
    exact atAll_drop n h2
theorem heldAll_app : ∀ (B C : List Stm) (h : Int), heldAll (B ++ C) h = heldAll C (heldAll B h)
  | [], C, h => rfl
  | s :: r, C, h => by
    show heldAll (s :: (r ++ C)) h = heldAll C (heldAll (s :: r) h)
    rw [heldAll, heldAll]
    exact heldAll_app r C _
theorem okAll_app : ∀ (d : Nat) (B C : List Stm) (h : Int), okAll d B h → okAll d C (heldAll B h) → okAll d (B ++ C) h
  | d, [], C, h, _, g => by rw [heldAll] at g; exact g
  | d, s :: r, C, h, f, g => by
    rw [okAll] at f
    rw [heldAll] at g
    show okAll d (s :: (r ++ C)) h
    rw [okAll]
    exact ⟨f.1, okAll_app d r C _ f.2 g⟩
theorem cntAll_app : ∀ (B C : List Stm), cntAll (B ++ C) = cntAll B + cntAll C
  | [], C => by rw [cntAll]; simp
  | s :: r, C => by
    show cntAll (s :: (r ++ C)) = _
    rw [cntAll, cntAll, cntAll_app r C]; omega
theorem cnt_pos (s : Stm) : 1 ≤ s.cnt := by
  cases s <;> rw [Stm.cnt] <;> omega
theorem len_le_cnt : ∀ (B : List Stm), B.length ≤ cntAll B
  | [] => Nat.zero_le _
  | s :: r => by
    have := cnt_pos s
    have := len_le_cnt r
    rw [cntAll, List.length_cons]; omega
/-! ## what the draws stand on: the pool p, the box b (what is left, what is held), the names q -/
def BoxAt (H : Hp) (b : Addr) (k h : Int) : Prop := H b = some (.lst [.int k, .int h, .int 3])
structure Dr (H : Hp) (p b q : Addr) (k h : Int) : Prop where
  pool : PoolAt H p
  box : BoxAt H b k h
  names : NamesAt H q
  npb : p ≠ b
  npq : p ≠ q
  nbq : b ≠ q
def K2 (p b : Addr) (H H' : Hp) : Prop := ∀ a o, H a = some o → a ≠ p → a ≠ b → H' a = some o
theorem K2.refl (p b : Addr) (H : Hp) : K2 p b H H := fun _ _ e _ _ => e
theorem K2.trans {p b : Addr} {H H1 H2 : Hp} (x : K2 p b H H1) (y : K2 p b H1 H2) : K2 p b H H2 := fun c o e n m => y c o (x c o e n m) n m
theorem Kp.k2 {p b : Addr} {H H' : Hp} (k : Kp p H H') : K2 p b H H' := fun a o e n _ => k a o e n
theorem K2.upd {p b : Addr} {H : Hp} {o : HO} : K2 p b H (L2.upd H b o) := fun a u e _ n => by rw [upd_ne n]; exact e
theorem K2.new {p b q : Addr} {H H' : Hp} {o : HO} (k : K2 p b H H') (n : H' q = none) : K2 p b H (L2.upd H' q o) := fun c u e m m' => by
  rw [upd_ne (ne_of_none (k c u e m m') n)]; exact k c u e m m'
theorem Dr.tk {H H' : Hp} {p b q : Addr} {k h : Int} (D : Dr H p b q k h) (x : K2 p b H H') : TK H H' := fun a xs e => by
  obtain ⟨_, _, _, hp⟩ := D.pool
  exact x a _ e (ne_of e hp (by intro z; cases z)) (ne_of e D.box (by intro z; cases z))
theorem Dr.draw {H H' : Hp} {p b q : Addr} {k h : Int} (D : Dr H p b q k h) (x : Kp p H H') (y : PoolAt H' p) : Dr H' p b q k h := by
  obtain ⟨a1, a2, a3, hq, n1, n2, n3⟩ := D.names
  exact ⟨y, x b _ D.box D.npb.symm, ⟨a1, a2, a3, x q _ hq D.npq.symm, n1, n2, n3⟩, D.npb, D.npq, D.nbq⟩
theorem Dr.put {H : Hp} {p b q : Addr} {k h k' h' : Int} (D : Dr H p b q k h) : Dr (L2.upd H b (.lst [.int k', .int h', .int 3])) p b q k' h' := by
  obtain ⟨a1, a2, a3, hq, n1, n2, n3⟩ := D.names
  obtain ⟨x, y, z, hp⟩ := D.pool
  exact ⟨⟨x, y, z, by rw [upd_ne D.npb]; exact hp⟩, upd_same, ⟨a1, a2, a3, by rw [upd_ne D.nbq.symm]; exact hq, n1, n2, n3⟩, D.npb, D.npq, D.nbq⟩
theorem Dr.new {H : Hp} {p b q a : Addr} {o : HO} {k h : Int} (D : Dr H p b q k h) (n : H a = none) : Dr (L2.upd H a o) p b q k h := by
  obtain ⟨a1, a2, a3, hq, n1, n2, n3⟩ := D.names
  obtain ⟨x, y, z, hp⟩ := D.pool
  exact ⟨⟨x, y, z, by rw [upd_ne (ne_of_none hp n)]; exact hp⟩, by unfold BoxAt; rw [upd_ne (ne_of_none D.box n)]; exact D.box, ⟨a1, a2, a3, by rw [upd_ne (ne_of_none hq n)]; exact hq, n1, n2, n3⟩, D.npb, D.npq, D.nbq⟩
theorem names_at {H : Hp} {q : Addr} (h : NamesAt H q) {r : Int} (r0 : 0 ≤ r) (r1 : r < 3) : ∃ xs n, H q = some (.lst xs) ∧ atI xs r = some (.str n) ∧ IsName n := by
  obtain ⟨a1, a2, a3, hq, n1, n2, n3⟩ := h
  have e : r = 0 ∨ r = 1 ∨ r = 2 := by omega
  rcases e with rfl | rfl | rfl
  · exact ⟨_, a1, hq, rfl, n1⟩
  · exact ⟨_, a2, hq, rfl, n2⟩
  · exact ⟨_, a3, hq, rfl, n3⟩
end Tk
set_option maxRecDepth 100000
/-! Own rules: enumerate over a tuple; .get of a written dict; o[i], x in o, len(o) by the text's own methods. -/
namespace PySem
section
variable {prog : Program} {w : World} {A : Around} {E : Value → Shared → Prop} {s : Shared}
abbrev tkE (j : Addr) : Obj := { cls := .type "enumerate", data := .fields #[.none, .bool false, .ref j, rawInt 0, .none, .none] }
theorem tk_new {v : Value} {o : Obj} {T : Heap → Prop} (B : Begins v o T) :
    Meets (Builtin.«enumerate.__new__» ⟨[.type "enumerate", v], []⟩) (fun _ R s => T s.heap ∧ R (.ok (.ret (.ref (s.heap.push o).objs.size))) { s with heap := (s.heap.push o).push (tkE s.heap.objs.size) }) :=
  .of_wp fun prog w A R s h => by
    obtain ⟨hp, g, d, tk, os⟩ := s
    obtain ⟨h1, h⟩ := h
    have hz := sub_enumerate
    have it1 : ∀ {A' : Around} {E' : Value → Shared → Prop} {Q' : Value → Shared → Prop}, Q' (.ref hp.objs.size) ⟨hp.push o, g, d, tk, os⟩ → wpAny (model prog w) A' (pyIter v) Q' E' ⟨hp, g, d, tk, os⟩ := fun z => B.iter prog w _ _ ⟨hp, g, d, tk, os⟩ _ h1 z
    wp_walk using it1
    refine wpAny_stack_any fun _ => wpAny_pure ?_
    split
    · rename_i c _ _ _ _ _
      cases (c == Value.type "enumerate") <;> (wp_walk using it1; exact ⟨_, rfl, h⟩)
    · wp_walk using it1
      exact ⟨_, rfl, h⟩
theorem tk_enum {v : Value} {o : Obj} {T : Heap → Prop} {Q : Value → Shared → Prop} (B : Begins v o T) (h1 : T s.heap)
    (h : ∀ h', IsEnum h' (s.heap.objs.size + 1) s.heap.objs.size 0 .none → h'.get? s.heap.objs.size = some o → (∀ b u, s.heap.get? b = some u → h'.get? b = some u) → Q (.ref (s.heap.objs.size + 1)) { s with heap := h' }) :
    wpAny (model prog w) A (call (.type "enumerate") [v]) Q E s := by
  have z1 : (s.heap.push o).objs.size = s.heap.objs.size + 1 := Heap.size_push ..
  refine callType_new F.called_enumerate (by decide) (F.typeCall_enumerate_1 _) (F.newCall_enumerate_1 _) (fun obj => F.args_object_init_2 obj _) F.entry_enumerate_new (tk_new B) (And.intro h1 ?_)
  show _ ∧ _
  rw [z1]
  have q : ((s.heap.push o).push (tkE s.heap.objs.size)).get? (s.heap.push o).objs.size = some (tkE s.heap.objs.size) := Heap.get?_push_size _ rfl
  rw [z1] at q
  exact And.intro ⟨_, q, rfl⟩ (h _ q (Heap.get?_push_of_some _ (Heap.get?_push_size _ B.free)) fun b u y => Heap.get?_push_of_some _ (Heap.get?_push_of_some _ y))
end
end PySem
namespace L2
open PySem PySem.Spec PyProof.Rows
/-- the tuple at a, each item in a new pair with its number -/
def IteT (K : PySem.W.Frag) (a : Addr) : It where
  go := fun i H => ∃ (xs : List V) (x : V), SqT K H a xs ∧ xs[i]? = some x
  yld := fun i H v H' => ∃ T x, v = .ref T ∧ H T = none ∧ H' = upd H T (.tup [.int (i : Nat), x]) ∧ ∀ xs, SqT K H a xs → xs[i]? = some x
  stop := fun i H => ∃ xs : List V, SqT K H a xs ∧ xs.length = i
theorem tk_turn {P : Program} {w : World} {K : PySem.W.Frag} {elts : List Expr} {kk : Nat} {tp : Pos} (a e j : Addr) (n1 : a ≠ j) (n2 : e ≠ a) (n3 : e ≠ j) :
    Turn P w K (.Tuple elts kk tp) (IteT K a) [e, j] e (fun i h => (∃ old, IsEnum h e j ((i : Nat) : Int) old) ∧ h.IsTupleIter j a i) := by
  have two : ∀ b, b ∈ [e, j] → b = e ∨ b = j := fun b hb => by simpa using hb
  refine { mem := by simp, obj := ?_, keep := ?_, item := ?_, done := ?_, self := fun A i s Q E st h => wpAny_pyIter_enum st.1.choose_spec h }
  · intro i h st b hb
    obtain ⟨⟨old, he⟩, ⟨o, ho, _, hd⟩⟩ := st
    rcases two b hb with rfl | rfl
    · exact ⟨_, he, fun v q => nomatch q⟩
    · exact ⟨o, ho, fun v q => by rw [hd] at q; cases q⟩
  · intro i h h' st k
    obtain ⟨⟨old, he⟩, hi⟩ := st
    exact ⟨⟨old, k e (by simp) _ he⟩, hi.at fun o q => k j (by simp) o q⟩
  · intro X hP hw hK hc i pins s σ H E I hf st hg
    subst hP hw hK
    obtain ⟨⟨old, he⟩, hj⟩ := st
    obtain ⟨xs, x, hq, hx⟩ := hg
    obtain ⟨its, rv, p, hz⟩ := I.tuple hq
    obtain ⟨u, hu, ru⟩ := rv.get hx
    have szE : e < s.heap.objs.size := Heap.lt_size he
    have szJ : j < s.heap.objs.size := by obtain ⟨_, q, _⟩ := hj; exact Heap.lt_size q
    have hu2 : its.toArray[i]? = some u := by simpa using hu
    have hlt : i < its.toArray.size := by
      rcases Nat.lt_or_ge i its.toArray.size with z | z
      · exact z
      · rw [Array.getElem?_eq_none z] at hu2; cases hu2
    refine wpAny_pyNext_enum_itemD (Draws.tuple (show X.A.in1.handled = none from I.ok.hd hc) j a n1 its.toArray) he ⟨hj, p⟩ hlt n3 (fun z => by
      rcases List.mem_cons.mp z with z | z
      · exact n3 z
      · exact n2 (by simpa using z)) (fun y h' tk py ho st' hT hsz hk => ?_)
    have ey : y = u := Option.some.inj (py.symm.trans hu2)
    subst ey
    refine ⟨_, rfl, wpAny_letOwnedTupleGo_enum (s := { s with heap := h', toks := tk + 1 }) ho fun h'' he' sb => ?_⟩
    have gT : h''.get? s.heap.objs.size = some { cls := .type "tuple", data := .seq #[.int i tk, y] } := (sb.2 _ (Nat.ne_of_gt szE)).trans hT
    have nw : ObjOk X.prog X.w (upd H s.heap.objs.size (.tup [.int (i : Nat), x])) h'' s.heap.objs.size (.tup [.int (i : Nat), x]) :=
      ⟨by show 2 ≤ sizeLine; decide, [.int i tk, y], .cons ⟨_, rfl⟩ (.cons ru .nil), _, gT, rfl, _, rfl⟩
    have I1 : Inv X pins σ (upd H s.heap.objs.size (.tup [.int (i : Nat), x])) { s with heap := h'', toks := tk + 1 } :=
      I.turnedNew (ch := [e, j]) (fun b ob hb q => (sb.2 b fun z => hb (by simp [z])).trans (hk b ob (fun z => hb (by simp [z])) (fun z => hb (by simp [z])) q)) hf (Nat.le_refl _) nw
    refine ⟨.ref s.heap.objs.size, _, I1, rfl, ⟨_, x, rfl, I.hok.fresh (Nat.le_refl _), rfl, fun ys hy => by rw [I.tuple_inj hy hq]; exact hx⟩, ⟨⟨y, ?_⟩, st'.1.at fun o q => (sb.2 j n3.symm).trans q⟩, fun b hb => ?_⟩
    · have e1 : (i : Int) + 1 = ((i + 1 : Nat) : Int) := by omega
      rw [← e1]
      exact he'
    · have lb : b < s.heap.objs.size := by
        rcases two b hb with rfl | rfl
        · exact szE
        · exact szJ
      rw [upd_ne (Nat.ne_of_lt lb)]
      exact (hf b hb).1
  · intro X hP hw hK hc i pins s σ H E I hf st hg
    subst hP hw hK
    obtain ⟨⟨old, he⟩, hj⟩ := st
    obtain ⟨xs, hq, hx⟩ := hg
    obtain ⟨its, rv, p, hz⟩ := I.tuple hq
    obtain ⟨f0, f1, f2, f3, f4, f5⟩ := hf j (by simp)
    have hl : i = its.toArray.size := by rw [List.size_toArray, ← rv.length]; exact hx.symm
    subst hl
    exact wpAny_pyNext_enum_endD (Draws.tuple (show X.A.in1.handled = none from I.ok.hd hc) j a n1 its.toArray) he ⟨hj, p⟩ fun h' eb => ⟨rfl, I.turned (t' := s.toks) (fun b o hb q => eb b o hb q) f0 f1 f3 f4 f5⟩
/-- for i, x in enumerate(t), t a tuple -/
def iEnumT (K : PySem.W.Frag) (ta : TA) : TI := fun σ H R => ta σ H fun vs H1 => ∃ a xs, vs = [.ref a] ∧ SqT K H1 a xs ∧ R (IteT K a) H1
theorem pi_enumT {X : Cx} {e : Expr} {ta : TA} {p pos tp : Pos} {elts : List Expr} {kk : Nat} (hg : Gl X "enumerate") (hm : X.mg "enumerate" = none) (ha : PA X [e] ta) (hs : starEach [e] X.env = [(false, eval e X.env)] := by rfl) :
    PI X (.Tuple elts kk tp) (.Call (.Name "enumerate" p) [e] [] pos) (iEnumT X.K ta) := by
  refine ⟨fun pins s σ H R I h => ?_⟩
  refine Call_ (ld_blt I hg hm boot_enumerate (PyProof.Rows.callWith_type1 (thn (ha.run pos pins s σ H _ I h) fun us s1 q0 => ?_) hs rfl))
  obtain ⟨vs, H1, I1, r1, a, xs, ex, hq, q⟩ := q0
  subst ex
  cases r1 with
  | cons r rr =>
    cases rr
    cases r
    obtain ⟨its, rv, p', hz⟩ := I1.tuple hq
    have la : a < s1.heap.objs.size := by obtain ⟨_, z, _⟩ := p'; exact Heap.lt_size z
    refine tk_enum (begins_tuple a its.toArray) p' fun h' he hit hk => wpAny_pyIter_enum he ?_
    have I2 : Inv X pins σ H1 { s1 with heap := h' } := I1.kept (t' := s1.toks) hk
    refine ⟨s1.heap.objs.size + 1, [s1.heap.objs.size + 1, s1.heap.objs.size], _, _, H1, rfl, I2, tk_turn a (s1.heap.objs.size + 1) s1.heap.objs.size (Nat.ne_of_lt la) (Nat.ne_of_gt (Nat.lt_succ_of_lt la)) (Nat.succ_ne_self _), ⟨⟨.none, he⟩, ⟨_, hit, rfl, rfl⟩⟩, fun b hb => ?_, q⟩
    have two : b = s1.heap.objs.size + 1 ∨ b = s1.heap.objs.size := by simpa using hb
    have le : s1.heap.objs.size ≤ b := two.elim (fun z => z ▸ Nat.le_succ _) (fun z => z ▸ Nat.le_refl _)
    exact I1.fpOk le (I1.hok.fresh le)
/-- the reading of such a loop -/
theorem for_enumT {K : PySem.W.Frag} {a : Addr} {xs : List V} {g : TG} {tb : TS} {D : Ends} {σ : St} {H : Hp} (Pv : Nat → St → Hp → Prop) (h0 : Pv 0 σ H) (hl : ∀ i σ H, i ≤ xs.length → Pv i σ H → SqT K H a xs)
    (hs : ∀ i x T σ H, xs[i]? = some x → Pv i σ H → H T = none → g (.ref T) σ (upd H T (.tup [.int (i : Nat), x])) fun σ2 H2 => tb { D with nx := Pv (i + 1), ct := Pv (i + 1), bk := D.nx } σ2 H2) (hd : ∀ σ H, Pv xs.length σ H → D.nx σ H) :
    ∃ W : Nat → Nat → St → Hp → Prop, (∃ m, W 0 m σ H) ∧ ∀ i m σ H, W i m σ H → ((IteT K a).stop i H ∧ D.nx σ H) ∨ ((IteT K a).go i H ∧ ∃ N : St → Hp → Prop, (∀ σ' H', N σ' H' → ∃ m', m' < m ∧ W (i + 1) m' σ' H') ∧
      ∀ x H', (IteT K a).yld i H x H' → g x σ H' fun σ2 H2 => tb { D with nx := N, ct := N, bk := D.nx } σ2 H2) := by
  refine ⟨fun i m σ H => m = xs.length - i ∧ i ≤ xs.length ∧ Pv i σ H, ⟨xs.length, by simp, Nat.zero_le _, h0⟩, ?_⟩
  rintro i m σ H ⟨rfl, hi, p⟩
  have q := hl i σ H hi p
  by_cases lt : i < xs.length
  · refine .inr ⟨⟨xs, xs[i], q, by simp [lt]⟩, Pv (i + 1), fun σ' H' p' => ⟨xs.length - (i + 1), by omega, rfl, lt, p'⟩, ?_⟩
    rintro x H' ⟨T, y, rfl, hT, rfl, hy⟩
    exact hs i y T σ H (hy xs q) p hT
  · have e : i = xs.length := by omega
    exact .inl ⟨⟨xs, q, e.symm⟩, hd σ H (e ▸ p)⟩
/-! ### the text's own methods by signs -/
section
variable {X : Cx} {CX : CXT} {k n : Nat} {C f : Addr} {fd : FuncData} {ps : List Str} {sp : Sp} {E : XK}
/-- a def called somewhere below the running body -/
theorem tk_run {A : Around} {pins : List (Addr × Obj)} {σ : St} {H : Hp} {s : Shared} {Q : VK} {us : List Value} {vs : List V} (sb : Sub X k A) (F : FnOk X.prog X.w X.K X.mg X.base CX k f fd ps sp) (hb : Binds X.K fd ps []) (hx : Passes CX X E)
    (I : Inv X pins σ H s) (r : Vals vs us) (h : sp vs H Q E) : wpAny (model X.prog X.w) A (call (.ref f) us) (EP X pins σ Q) X.xe s := by
  have e := I.env0
  have e0 : Env0 X.prog X.w X.K X.mg X.base A X.stack s H := ⟨by rw [sb.fr]; exact e.frames, e.mod, e.bs, e.bsz, e.funs, e.frf, e.hok, e.bare⟩
  have hl : us.length = ps.length := r.length.symm.trans (F.len _ _ _ _ h)
  have bd := hb s us I.kIn (by simpa using hl)
  refine wpAny_call (codeAny_mono (F.run A X.stack s H ⟨us, []⟩ us vs Q E sb.room e0 (by simpa using bd) r h) fun res s' hq => ?_)
  match res, hq with
  | .error e, hq => exact hx pins σ H s e s' I hq
  | .ok (.ret u), hq => exact I.after hq
/-- what stands in the class C as the method m -/
structure OwnM (K : PySem.W.Frag) (C : Addr) (m : Str) (f : Addr) : Prop where
  at_ : PySem.W.findIn K (.ref C) m = some (some (.ref f))
  fn : PySem.W.isFn K (.ref f) = true
theorem ownInst {pins : List (Addr × Obj)} {σ : St} {H : Hp} {s : Shared} {a dx : Addr} {fs : List (Str × V)} (I : Inv X pins σ H s) (ha : H a = some (.ins C dx fs)) : ∃ ox od, PySem.W.InstAt s.heap a ox C od := by
  obtain ⟨mA, J, _⟩ := ins_get I.hok ha
  obtain ⟨od, J, _⟩ := J.look
  exact ⟨_, _, J⟩
def rOwn2 (C : Addr) (sp : Sp) (E : XK) : R2 := fun x y H Q => ∃ a dx fs, x = .ref a ∧ H a = some (.ins C dx fs) ∧ sp [.ref a, y] H Q E
/-- o[i] by the class's own __getitem__ -/
theorem ix_own {value slice : Expr} (M : OwnM X.K C "__getitem__" f) (hf : PySem.W.fnIn X.K f = true) (F : FnOk X.prog X.w X.K X.mg X.base CX k f fd ps sp) (hr : Room (k + 1) X.A) (hb : Binds X.K fd ps []) (hx : Passes CX X E)
    {a b : Expr} {ta tb : TE} {pos : Pos} (ha : PE X a ta) (hb2 : PE X b tb) (hs : ∀ o i, subscripted b true o i = runValue (.builtin "lifetime.subscript" ⟨[o, i], []⟩)) : PE X (.Subscript a b pos) (tOp (rOwn2 C sp E) ta tb) := by
  refine ⟨fun pins s σ H Q I h => ?_⟩
  refine Subscript_ (binT ha hb2 I h fun v u s2 x y H2 I2 rx ry q => ?_)
  obtain ⟨p, dx, fs, rfl, hp, q⟩ := q
  obtain rfl : v = Value.ref p := rx
  obtain ⟨ox, od, J⟩ := ownInst I2 hp
  obtain ⟨m, hF⟩ := I2.fr
  refine PySem.W.sub_K hF I2.ok.mod.kin J M.at_ hf M.fn ?_ (hs _ _)
  exact tk_run ⟨hr.in1, rfl⟩ F hb hx I2 (.cons (show RelV (.ref p) (.ref p) from rfl) (.cons ry .nil)) q
def rOwnIn (C : Addr) (sp : Sp) (E : XK) (neg : Bool) : R2 := fun y x H Q => ∃ a dx fs, x = .ref a ∧ H a = some (.ins C dx fs) ∧ sp [.ref a, y] H (fun v H' => ∃ c, v = .bl c ∧ Q (.bl (if neg then !c else c)) H') E
/-- y in o by the class's own __contains__ -/
theorem op_inOwn (M : OwnM X.K C "__contains__" f) (F : FnOk X.prog X.w X.K X.mg X.base CX k f fd ps sp) (hr : Room k X.A) (hb : Binds X.K fd ps []) (hx : Passes CX X E) : OpR X (compareOp .In) (rOwnIn C sp E false) := by
  intro pins s σ H y x u v Q I ry rx h
  obtain ⟨p, dx, fs, rfl, hp, q⟩ := h
  obtain rfl : v = Value.ref p := rx
  obtain ⟨ox, od, J⟩ := ownInst I hp
  obtain ⟨m, hF⟩ := I.fr
  refine PySem.W.in_K hF I.ok.mod.kin J M.at_ M.fn (thn (tk_run ⟨hr, rfl⟩ F hb hx I (.cons (show RelV (.ref p) (.ref p) from rfl) (.cons ry .nil)) q) fun r s' hq => ?_)
  obtain ⟨z, H', I', rz, c, rfl, q'⟩ := hq
  cases rz
  exact wpAny_truthy_bool ⟨.bl c, H', I', rfl, q'⟩
theorem op_notInOwn (M : OwnM X.K C "__contains__" f) (F : FnOk X.prog X.w X.K X.mg X.base CX k f fd ps sp) (hr : Room k X.A) (hb : Binds X.K fd ps []) (hx : Passes CX X E) : OpR X (compareOp .NotIn) (rOwnIn C sp E true) := by
  intro pins s σ H y x u v Q I ry rx h
  obtain ⟨p, dx, fs, rfl, hp, q⟩ := h
  obtain rfl : v = Value.ref p := rx
  obtain ⟨ox, od, J⟩ := ownInst I hp
  obtain ⟨m, hF⟩ := I.fr
  refine PySem.W.notIn_K hF I.ok.mod.kin J M.at_ M.fn (thn (tk_run ⟨hr, rfl⟩ F hb hx I (.cons (show RelV (.ref p) (.ref p) from rfl) (.cons ry .nil)) q) fun r s' hq => ?_)
  obtain ⟨z, H', I', rz, c, rfl, q'⟩ := hq
  cases rz
  exact wpAny_truthy_bool ⟨.bl (!c), H', I', rfl, q'⟩
/-- len(o) by the class's own __len__ -/
theorem call_lenOwn (M : OwnM X.K C "__len__" f) (F : FnOk X.prog X.w X.K X.mg X.base CX k f fd ps sp) (hr : Room (k + 1) X.A) (hb : Binds X.K fd ps []) (hx : Passes CX X E) :
    CallR X (.builtin "len") (fun xs H Q => ∃ a dx fs, xs = [.ref a] ∧ H a = some (.ins C dx fs) ∧ sp [.ref a] H (fun v H' => ∃ i : Int, v = .int i ∧ 0 ≤ i ∧ i < 2 ^ 63 ∧ Q v H') E) := by
  intro pins s σ H xs us Q I r h
  obtain ⟨p, dx, fs, rfl, hp, q⟩ := h
  obtain ⟨u, rfl, rx⟩ := vals1 r
  obtain rfl : u = Value.ref p := rx
  obtain ⟨ox, od, J⟩ := ownInst I hp
  obtain ⟨m, hF⟩ := I.fr
  refine PySem.W.len_K hF I.ok.mod.kin J M.at_ M.fn (thn (tk_run ⟨hr.in1, rfl⟩ F hb hx I (.cons (show RelV (.ref p) (.ref p) from rfl) .nil) q) fun r s' hq => ?_)
  obtain ⟨z, H', I', rz, i, rfl, i0, i1, q'⟩ := hq
  obtain ⟨t, rfl⟩ := rz
  refine ⟨⟨i0, i1⟩, ⟨.int i, H', I'.tok _, ⟨_, rfl⟩, q'⟩⟩
end
/-! ### .get of a written dict -/
def KG (K : PySem.W.Frag) (w : World) (a : Addr) (x : Str) (v : V) : Prop := KDct K w a x v ∧ (a == sysModules) = false
def tKGet (K : PySem.W.Frag) (w : World) (td ty : TE) : TE := fun σ H Q => td σ H fun x H1 => ty σ H1 fun y H2 => ∃ a z v, x = .ref a ∧ y = .str z ∧ KG K w a z v ∧ Q v H2
theorem pe_kget {X : Cx} {o e : Expr} {td ty : TE} {apos cpos : Pos} (ho : PE X o td) (he : PE X e ty) (hd : ∀ σ H Q, td σ H Q → td σ H fun x H1 => (∃ a oc es n, x = V.ref a ∧ X.K.lookup a = some oc ∧ oc = ⟨.type "dict", none, .dict es n, #[]⟩) ∧ Q x H1) (m : M1 X o "get" apos e cpos) :
    PE X (.Call (.Attribute o "get" apos) [e] [] cpos) (tKGet X.K X.w td ty) := by
  refine ⟨fun pins s σ H Q I h => ?_⟩
  refine wpAny_Call_method m.base m.few m.line PySem.F.plainAttrs_dict PySem.F.slot_dict_get PySem.F.type_dict_get (thn (ho.run pins s σ H _ I (hd _ _ _ h)) fun u s1 q0 => ?_)
  obtain ⟨x, H1, I1, rx, ⟨a, oc, es, n, rfl, lk, rfl⟩, q1⟩ := q0
  obtain rfl : u = Value.ref a := rx
  have ga := I1.kIn _ _ lk
  refine ⟨⟨_, ga, rfl⟩, fun b q => by cases q; exact ⟨_, ga, rfl⟩, ?_⟩
  rw [m.trees]
  refine Calls.callWith_builtin rfl (Calls.evalArgs_plain (Calls.spliced_cons (thn (he.run pins s1 σ H1 _ I1 q1) fun iv s2 q2 => Calls.spliced_nil ?_)))
  obtain ⟨y, H2, I2, ry, a', z, v, ea, rfl, ⟨⟨es', n', u0, hl, hk, e1, ru⟩, hs⟩, q2⟩ := q2
  cases ea
  obtain ⟨t, rfl⟩ := ry
  have mo := PySem.W.mapOf_K (prog := X.prog) (w := X.w) I2.kIn hl hk
  refine call_meetsIn PySem.F.slot_dict_get mo.typeIs PySem.F.entry_dict_get (PySem.F.args_dict_get_2 _ _) (meets_dict_get (strKind X.prog X.w) a (strKind_is X.prog X.w z t) hs) ⟨_, mo, ?_⟩
  rw [PySem.W.find_K hl e1]
  exact ⟨v, H2, I2.tok _, ru, q2⟩
end L2
set_option maxRecDepth 100000
/-! What is walked; loops; comprehensions. -/
namespace L2
open PySem PySem.Spec PyProof.Rows
/-- a list or a tuple is walked -/
def iSeq (K : PySem.W.Frag) (tl : TE) : TI := fun σ H R => tl σ H fun x H1 => (∃ a, x = .ref a ∧ (∃ xs, SqL K H1 a xs) ∧ R (Itl K a) H1) ∨ ∃ a, x = .ref a ∧ (∃ xs, SqT K H1 a xs) ∧ R (Itt K a) H1
theorem pi_seq {X : Cx} {tg l : Expr} {tl : TE} (hl : PE X l tl) : PI X tg l (iSeq X.K tl) := by
  refine ⟨fun pins s σ H R I h => ?_⟩
  refine thn (hl.run pins s σ H _ I h) fun v s1 ⟨x, H1, I1, r1, q1⟩ => ?_
  rcases q1 with ⟨a, e, ⟨xs, hq⟩, q⟩ | ⟨a, e, ⟨xs, hq⟩, q⟩
  · subst e
    cases r1
    obtain ⟨its, rv, p, hz⟩ := I1.list hq
    refine wpAny_pyIter_list p.isList ?_
    refine ⟨s1.heap.objs.size, [s1.heap.objs.size], _, _, H1, rfl, I1.kept (t' := s1.toks) fun b o e => Heap.get?_push_of_some _ e, turn_list a _, ⟨_, Heap.get?_push_size _ rfl, rfl, rfl⟩, fun b hb => ?_, q⟩
    have e : b = s1.heap.objs.size := by simpa using hb
    subst e
    exact I1.fpOk (Nat.le_refl _) (I1.hok.fresh (Nat.le_refl _))
  · subst e
    cases r1
    obtain ⟨its, rv, p, hz⟩ := I1.tuple hq
    refine wpAny_pyIter_tuple (show s1.heap.IsTuple a its.toArray from p) ?_
    refine ⟨s1.heap.objs.size, [s1.heap.objs.size], _, _, H1, rfl, I1.kept (t' := s1.toks) fun b o e => Heap.get?_push_of_some _ e, turn_tuple a _, ⟨_, Heap.get?_push_size _ rfl, rfl, rfl⟩, fun b hb => ?_, q⟩
    have e : b = s1.heap.objs.size := by simpa using hb
    subst e
    exact I1.fpOk (Nat.le_refl _) (I1.hok.fresh (Nat.le_refl _))
def iEnumA (K : PySem.W.Frag) (ta : TA) : TI := fun σ H R => ta σ H fun vs H1 => ∃ a xs, vs = [.ref a] ∧ ((SqL K H1 a xs ∧ R (Ite K a) H1) ∨ (SqT K H1 a xs ∧ R (IteT K a) H1))
theorem pi_enumA {X : Cx} {e : Expr} {ta : TA} {p pos tpos : Pos} {elts : List Expr} {kk : Nat} (hg : Gl X "enumerate") (hm : X.mg "enumerate" = none) (ha : PA X [e] ta) (hs : starEach [e] X.env = [(false, eval e X.env)] := by rfl) :
    PI X (.Tuple elts kk tpos) (.Call (.Name "enumerate" p) [e] [] pos) (iEnumA X.K ta) := by
  refine ⟨fun pins s σ H R I h => ?_⟩
  refine Call_ (ld_blt I hg hm boot_enumerate (PyProof.Rows.callWith_type1 (thn (ha.run pos pins s σ H _ I h) fun us s1 ⟨vs, H1, I1, r1, q1⟩ => ?_) hs rfl))
  obtain ⟨a, xs, ex, q1⟩ := q1
  subst ex
  cases r1 with
  | cons r rr =>
    cases rr
    cases r
    rcases q1 with ⟨hq, q⟩ | ⟨hq, q⟩
    · obtain ⟨its, rv, p', hz⟩ := I1.list hq
      refine call_enumerate_list p'.isList fun h' he hit hsz hk => wpAny_pyIter_enum he ?_
      have I2 : Inv X pins σ H1 { s1 with heap := h' } := I1.kept (t' := s1.toks) hk
      refine ⟨s1.heap.objs.size + 1, [s1.heap.objs.size + 1, s1.heap.objs.size], _, _, H1, rfl, I2, turn_enum a (s1.heap.objs.size + 1) s1.heap.objs.size, ⟨⟨.none, he⟩, hit, Nat.succ_ne_self _⟩, fun b hb => ?_, q⟩
      have e' : b = s1.heap.objs.size + 1 ∨ b = s1.heap.objs.size := by simpa using hb
      have hle : s1.heap.objs.size ≤ b := by
        rcases e' with z | z
        · rw [z]; exact Nat.le_add_right _ _
        · rw [z]; exact Nat.le_refl _
      exact I1.fpOk hle (I1.hok.fresh hle)
    · obtain ⟨its, rv, p', hz⟩ := I1.tuple hq
      have la : a < s1.heap.objs.size := by obtain ⟨_, z, _⟩ := p'; exact Heap.lt_size z
      refine tk_enum (begins_tuple a its.toArray) p' fun h' he hit hk => wpAny_pyIter_enum he ?_
      have I2 : Inv X pins σ H1 { s1 with heap := h' } := I1.kept (t' := s1.toks) hk
      refine ⟨s1.heap.objs.size + 1, [s1.heap.objs.size + 1, s1.heap.objs.size], _, _, H1, rfl, I2, tk_turn a (s1.heap.objs.size + 1) s1.heap.objs.size (Nat.ne_of_lt la) (Nat.ne_of_gt (Nat.lt_succ_of_lt la)) (Nat.succ_ne_self _), ⟨⟨.none, he⟩, ⟨_, hit, rfl, rfl⟩⟩, fun b hb => ?_, q⟩
      have two : b = s1.heap.objs.size + 1 ∨ b = s1.heap.objs.size := by simpa using hb
      have le : s1.heap.objs.size ≤ b := two.elim (fun z => z ▸ Nat.le_succ _) (fun z => z ▸ Nat.le_refl _)
      exact I1.fpOk le (I1.hok.fresh le)
end L2
namespace Mm
open PySem L2
abbrev Its := List D × Option (Nat × List D)
abbrev IM := Env → Sto → R Its
/-- a list in the store that is walked is as it was -/
def Stay (S : Sto) (it : Its) : Prop := ∀ k es, it.2 = some (k, es) → S[k]? = some (.lst es)
@[simp] theorem stay_none (S : Sto) (ds : List D) : Stay S (ds, none) := fun k es h => by cases h
theorem stay_some {S : Sto} {ds es : List D} {k : Nat} (h : S[k]? = some (.lst es)) : Stay S (ds, some (k, es)) := fun j fs e => by cases e; exact h
section
variable (w : Wn)
def Wk (c : Cn) (H : Hp) (n : Nat) (it : Its) (J : It) : Prop := ∀ c1 H1 S, ExtA c H n c1 H1 S.length → Rep w c1 H1 S → Stay S it → ∀ i,
  (∀ d, it.1[i]? = some d → J.go i H1 ∧ ∀ x H2, J.yld i H1 x H2 → Ext c1 H1 S.length c1 H2 S.length ∧ Rep w c1 H2 S ∧ At w c1 H2 S.length d x) ∧ (i = it.1.length → J.stop i H1)
end
def mI (w : Wn) (W : WX) (m : IM) : TI := fun σ H R => mG w W (Wk w) m σ H R
abbrev CI (Γ : Cls') (X : Cx) (W : WX) (tg iter : Expr) (m : IM) : Prop := PI X tg iter (mI ⟨X.K, Γ⟩ W m)
theorem PI.weak {X : Cx} {tg e : Expr} {t t' : TI} (h : PI X tg e t) (i : ∀ σ H Q, t' σ H Q → t σ H Q) : PI X tg e t' := ⟨fun pins s σ H Q I q => h.run pins s σ H Q I (i σ H Q q)⟩
section
variable {w : Wn} {W : WX} {σ : St} {c c' : Cn} {H H' : Hp} {n n' : Nat} {S : Sto} {env : Env}
variable {Γ : Cls'} {X : Cx} {a b e tg : Expr} {ma mb : EM} {pos : Pos} {Dn : Ends}
/-- the items of a value, and where they stand if they stand in the store -/
def itsOf (S : Sto) (d : D) : Option Its := match d with
  | .tup ds => some (ds, none)
  | .lst ds => some (ds, none)
  | .fz ns => some (ns.map .int, none)
  | .loc k => match S[k]? with
    | some (.lst ds) => some (ds, some (k, ds))
    | _ => none
  | _ => none
@[simp] theorem itsOf_tup (S : Sto) (ds : List D) : itsOf S (.tup ds) = some (ds, none) := rfl
@[simp] theorem itsOf_lst (S : Sto) (ds : List D) : itsOf S (.lst ds) = some (ds, none) := rfl
theorem itsOf_loc {S : Sto} {k : Nat} {ds : List D} (h : S[k]? = some (.lst ds)) : itsOf S (.loc k) = some (ds, some (k, ds)) := by
  unfold itsOf; simp only [h]
theorem lst_inj {H : Hp} {K : PySem.W.Frag} {p : Addr} {vs us : List V} (h : H p = some (.lst vs)) (g : Rd H p (.lst us)) : us = vs := by
  rcases g with g | ⟨o, g⟩
  · rw [h] at g; cases g; rfl
  · rw [h] at g; cases g
/-- what a value's items are at any later time -/
def Later (w : Wn) (c : Cn) (H : Hp) (n : Nat) (it : Its) (P : Hp → List V → Prop) : Prop := ∀ c1 H1 S1, ExtA c H n c1 H1 S1.length → Rep w c1 H1 S1 → Stay S1 it → ∃ vs, P H1 vs ∧ Ats w c1 H1 S1.length it.1 vs
theorem its_at {d : D} {v : V} {it : Its} (r : Rep w c H S) (at_ : At w c H S.length d v) (h : itsOf S d = some it) :
    Stay S it ∧ ∃ p, v = .ref p ∧ (Later w c H S.length it (fun H vs => SqL w.K H p vs) ∨ Later w c H S.length it (fun H vs => SqT w.K H p vs)) := by
  cases d with
  | tup ds =>
    cases h
    obtain ⟨p, vs, rfl, g, t⟩ := at_.tup
    exact ⟨stay_none _ _, p, rfl, .inr fun c1 H1 S1 e _ _ => ⟨vs, e.sqT g, Ats.monoA e _ _ t⟩⟩
  | lst ds =>
    cases h
    unfold At at at_
    obtain ⟨p, vs, rfl, f, g, t⟩ := at_
    exact ⟨stay_none _ _, p, rfl, .inl fun c1 H1 S1 e _ _ => ⟨vs, SqL.of (e.keepF _ _ f g), Ats.monoA e _ _ t⟩⟩
  | fz ns =>
    cases h
    unfold At at at_
    obtain ⟨p, rfl, g⟩ := at_
    exact ⟨stay_none _ _, p, rfl, .inl fun c1 H1 S1 e _ _ => ⟨_, (e.fzL g).sq, ats_ints ns⟩⟩
  | loc k =>
    unfold itsOf at h
    cases hk : S[k]? with
    | none => simp only [hk] at h; cases h
    | some o =>
      cases o with
      | lst ds =>
        simp only [hk] at h
        cases h
        unfold At at at_
        refine ⟨stay_some hk, c.ρ k, at_.2, .inl fun c1 H1 S1 e r1 st => ?_⟩
        obtain ⟨vs1, g1, t1⟩ := r1.get (st k _ rfl)
        rw [e.rho k at_.1] at g1
        exact ⟨vs1, SqL.of g1, t1⟩
      | _ => simp only [hk] at h; cases h
  | _ => cases h
theorem later_lst {ds : List D} {v : V} (at_ : At w c H n (.lst ds) v) : ∃ p, v = .ref p ∧ Later w c H n (ds, none) (fun H vs => SqL w.K H p vs) := by
  unfold At at at_
  obtain ⟨p, vs, rfl, f, g, t⟩ := at_
  exact ⟨p, rfl, fun c1 H1 S1 e _ _ => ⟨vs, SqL.of (e.keepF _ _ f g), Ats.monoA e _ _ t⟩⟩
theorem later_tup {ds : List D} {v : V} (at_ : At w c H n (.tup ds) v) : ∃ p, v = .ref p ∧ Later w c H n (ds, none) (fun H vs => SqT w.K H p vs) := by
  obtain ⟨p, vs, rfl, g, t⟩ := at_.tup
  exact ⟨p, rfl, fun c1 H1 S1 e _ _ => ⟨vs, e.sqT g, Ats.monoA e _ _ t⟩⟩
theorem Later.wkL {it : Its} {p : Addr} (l : Later w c H n it (fun H vs => SqL w.K H p vs)) : Wk w c H n it (Itl w.K p) := by
  intro c1 H1 S e r st i
  obtain ⟨vs, g, t⟩ := l c1 H1 S e r st
  refine ⟨fun d hd => ?_, fun hi => ⟨vs, g, by rw [t.len, hi]; exact Nat.le_refl _⟩⟩
  obtain ⟨v, hv, a⟩ := t.get hd
  exact ⟨⟨vs, v, g, hv⟩, fun x H2 ⟨e2, q⟩ => by
    have := q vs g
    rw [hv] at this; cases this
    rw [e2]
    exact ⟨Ext.refl, r, a⟩⟩
theorem Later.wkT {it : Its} {p : Addr} (l : Later w c H n it (fun H vs => SqT w.K H p vs)) : Wk w c H n it (Itt w.K p) := by
  intro c1 H1 S e r st i
  obtain ⟨vs, g, t⟩ := l c1 H1 S e r st
  refine ⟨fun d hd => ?_, fun hi => ⟨vs, g, by rw [t.len, hi]; exact Nat.le_refl _⟩⟩
  obtain ⟨v, hv, a⟩ := t.get hd
  exact ⟨⟨vs, v, g, hv⟩, fun x H2 ⟨e2, q⟩ => by
    have := q vs g
    rw [hv] at this; cases this
    rw [e2]
    exact ⟨Ext.refl, r, a⟩⟩
/-- numbered -/
def numD (k : Nat) : List D → List D
  | [] => []
  | d :: r => .tup [.int k, d] :: numD (k + 1) r
theorem numD_len : ∀ (k : Nat) (ds : List D), (numD k ds).length = ds.length
  | k, [] => rfl
  | k, d :: r => by unfold numD; rw [List.length_cons, List.length_cons, numD_len]
theorem numD_get : ∀ (k : Nat) (ds : List D) (i : Nat), (numD k ds)[i]? = (ds[i]?).map fun d => .tup [.int ((k + i : Nat) : Int), d]
  | k, [], i => by simp [numD]
  | k, d :: r, 0 => by unfold numD; rfl
  | k, d :: r, i + 1 => by
    unfold numD
    rw [List.getElem?_cons_succ, List.getElem?_cons_succ, numD_get, Nat.add_assoc, Nat.add_comm 1 i]
theorem tup_new {p : Addr} {ds : List D} {vs : List V} (r : Rep w c H S) (hp : H p = none) (t : Ats w c H S.length ds vs) : Ext c H S.length c (upd H p (.tup vs)) S.length ∧ Rep w c (upd H p (.tup vs)) S ∧ At w c (upd H p (.tup vs)) S.length (.tup ds) (.ref p) := by
  refine ⟨Ext.grow hp, r.grow hp, ?_⟩
  unfold At
  exact ⟨p, vs, rfl, SqT.of upd_same, t.mono (Ext.grow hp)⟩
theorem Later.wkE {it : Its} {p : Addr} (l : Later w c H n it (fun H vs => SqL w.K H p vs)) : Wk w c H n (numD 0 it.1, it.2) (Ite w.K p) := by
  intro c1 H1 S e r st i
  obtain ⟨vs, g, t⟩ := l c1 H1 S e r st
  refine ⟨fun d hd => ?_, fun hi => ⟨vs, g, by rw [t.len]; rw [numD_len] at hi; rw [hi]; exact Nat.le_refl _⟩⟩
  change (numD 0 it.1)[i]? = some d at hd
  rw [numD_get] at hd
  cases hi : it.1[i]? with
  | none => rw [hi] at hd; cases hd
  | some d' =>
    rw [hi] at hd
    cases hd
    obtain ⟨v, hv, a⟩ := t.get hi
    refine ⟨⟨vs, v, g, hv⟩, ?_⟩
    rintro x H2 ⟨T, y, rfl, hT, rfl, q⟩
    have := q vs g
    rw [hv] at this; cases this
    rw [Nat.zero_add]
    exact tup_new r hT (.cons (.i _) (.one a))
theorem Later.wkET {it : Its} {p : Addr} (l : Later w c H n it (fun H vs => SqT w.K H p vs)) : Wk w c H n (numD 0 it.1, it.2) (IteT w.K p) := by
  intro c1 H1 S e r st i
  obtain ⟨vs, g, t⟩ := l c1 H1 S e r st
  refine ⟨fun d hd => ?_, fun hi => ⟨vs, g, by rw [t.len]; rw [numD_len] at hi; exact hi.symm⟩⟩
  change (numD 0 it.1)[i]? = some d at hd
  rw [numD_get] at hd
  cases hi : it.1[i]? with
  | none => rw [hi] at hd; cases hd
  | some d' =>
    rw [hi] at hd
    cases hd
    obtain ⟨v, hv, a⟩ := t.get hi
    refine ⟨⟨vs, v, g, hv⟩, ?_⟩
    rintro x H2 ⟨T, y, rfl, hT, rfl, q⟩
    have := q vs g
    rw [hv] at this; cases this
    rw [Nat.zero_add]
    exact tup_new r hT (.cons (.i _) (.one a))
/-- two lists side by side -/
def zipD : List D → List D → List D
  | x :: r, y :: s => .tup [x, y] :: zipD r s
  | _, _ => []
theorem zipD_get : ∀ (xs ys : List D) (i : Nat) (d : D), (zipD xs ys)[i]? = some d → ∃ x y, xs[i]? = some x ∧ ys[i]? = some y ∧ d = .tup [x, y]
  | x :: r, y :: s, 0, d, h => by unfold zipD at h; cases h; exact ⟨x, y, rfl, rfl, rfl⟩
  | x :: r, y :: s, i + 1, d, h => by
    unfold zipD at h
    rw [List.getElem?_cons_succ] at h
    obtain ⟨a, b, h1, h2, h3⟩ := zipD_get r s i d h
    exact ⟨a, b, by rw [List.getElem?_cons_succ]; exact h1, by rw [List.getElem?_cons_succ]; exact h2, h3⟩
  | [], ys, i, d, h => by unfold zipD at h; simp at h
  | x :: r, [], i, d, h => by unfold zipD at h; simp at h
theorem zipD_len : ∀ (xs ys : List D), (zipD xs ys).length = min xs.length ys.length
  | x :: r, y :: s => by
    unfold zipD
    rw [List.length_cons, List.length_cons, List.length_cons, zipD_len, Nat.succ_min_succ]
  | [], ys => by unfold zipD; simp
  | x :: r, [] => by unfold zipD; simp
theorem Later.wkZ {xs ys : List D} {p q : Addr} (l : Later w c H n (xs, none) (fun H vs => SqL w.K H p vs)) (m : Later w c H n (ys, none) (fun H vs => SqL w.K H q vs)) : Wk w c H n (zipD xs ys, none) (Itz w.K p q) := by
  intro c1 H1 S e r st i
  obtain ⟨vs, g, t⟩ := l c1 H1 S e r (stay_none _ _)
  obtain ⟨us, g2, t2⟩ := m c1 H1 S e r (stay_none _ _)
  refine ⟨fun d hd => ?_, fun hi => ⟨vs, us, g, g2, by
    rw [t.len, t2.len]
    change i = (zipD xs ys).length at hi
    rw [zipD_len] at hi
    show xs.length ≤ i ∨ ys.length ≤ i
    omega⟩⟩
  obtain ⟨x, y, hx, hy, rfl⟩ := zipD_get _ _ _ _ hd
  obtain ⟨v, hv, a⟩ := t.get hx
  obtain ⟨u, hu, b⟩ := t2.get hy
  refine ⟨⟨vs, us, v, u, g, g2, hv, hu⟩, ?_⟩
  rintro z H2 ⟨T, x1, y1, rfl, hT, rfl, q1, q2⟩
  have e1 := q1 vs g
  rw [hv] at e1; cases e1
  have e2 := q2 us g2
  rw [hu] at e2; cases e2
  exact tup_new r hT (.cons a (.one b))
theorem Later.wkZT {xs ys : List D} {p q : Addr} (l : Later w c H n (xs, none) (fun H vs => SqT w.K H p vs)) (m : Later w c H n (ys, none) (fun H vs => SqT w.K H q vs)) : Wk w c H n (zipD xs ys, none) (RZ.ItzT w.K p q) := by
  intro c1 H1 S e r st i
  obtain ⟨vs, g, t⟩ := l c1 H1 S e r (stay_none _ _)
  obtain ⟨us, g2, t2⟩ := m c1 H1 S e r (stay_none _ _)
  refine ⟨fun d hd => ?_, fun hi => ⟨vs, us, g, g2, by
    rw [t.len, t2.len]
    change i = (zipD xs ys).length at hi
    rw [zipD_len] at hi
    show xs.length ≤ i ∨ ys.length ≤ i
    omega⟩⟩
  obtain ⟨x, y, hx, hy, rfl⟩ := zipD_get _ _ _ _ hd
  obtain ⟨v, hv, a⟩ := t.get hx
  obtain ⟨u, hu, b⟩ := t2.get hy
  refine ⟨⟨vs, us, v, u, g, g2, hv, hu⟩, ?_⟩
  rintro z H2 ⟨T, x1, y1, rfl, hT, rfl, q1, q2⟩
  have e1 := q1 vs g
  rw [hv] at e1; cases e1
  have e2 := q2 us g2
  rw [hu] at e2; cases e2
  exact tup_new r hT (.cons a (.one b))
/-- lo, lo + 1, .. -/
def rngD (lo : Int) : Nat → List D
  | 0 => []
  | k + 1 => .int lo :: rngD (lo + 1) k
theorem rngD_len : ∀ (lo : Int) (k : Nat), (rngD lo k).length = k
  | lo, 0 => rfl
  | lo, k + 1 => by unfold rngD; rw [List.length_cons, rngD_len]
theorem rngD_get : ∀ (lo : Int) (k i : Nat) (d : D), (rngD lo k)[i]? = some d → i < k ∧ d = .int (lo + i)
  | lo, 0, i, d, h => by unfold rngD at h; simp at h
  | lo, k + 1, 0, d, h => by unfold rngD at h; cases h; exact ⟨Nat.succ_pos _, by simp⟩
  | lo, k + 1, i + 1, d, h => by
    unfold rngD at h
    rw [List.getElem?_cons_succ] at h
    obtain ⟨h1, h2⟩ := rngD_get _ _ _ _ h
    exact ⟨Nat.succ_lt_succ h1, by rw [h2]; congr 1; omega⟩
theorem wkR {lo : Int} {k : Nat} : Wk w c H n (rngD lo k, none) (Itr lo k) := by
  intro c1 H1 S e r st i
  refine ⟨fun d hd => ?_, fun hi => ?_⟩
  · obtain ⟨h1, rfl⟩ := rngD_get _ _ _ _ hd
    refine ⟨h1, ?_⟩
    rintro x H2 ⟨rfl, rfl⟩
    exact ⟨Ext.refl, r, .i _⟩
  · change i = (rngD lo k).length at hi
    rw [rngD_len] at hi
    exact Nat.le_of_eq hi.symm
/-! ## what is walked -/
def i_seq (m : EM) : IM := fun env S => (m env S).bind fun d S1 => .ofO (itsOf S1 d) S1
def i_rng1 (m : EM) : IM := fun env S => (m env S).bind fun d S1 => match d with
  | .int j => .if (-(2 ^ 62) ≤ j ∧ j < 2 ^ 62) (.ok (rngD 0 j.toNat, none) S1)
  | _ => .bad
def i_rng2 (m m2 : EM) : IM := fun env S => (m env S).bind fun d S1 => (m2 env S1).bind fun e S2 => match d, e with
  | .int i, .int j => .if (-(2 ^ 62) ≤ i ∧ i < 2 ^ 62 ∧ -(2 ^ 62) ≤ j ∧ j < 2 ^ 62) (.ok (rngD i (j - i).toNat, none) S2)
  | _, _ => .bad
def i_enum (m : EM) : IM := fun env S => (m env S).bind fun d S1 => (R.ofO (itsOf S1 d) S1).bind fun it S2 => .ok (numD 0 it.1, it.2) S2
def zipO : D → D → Option (List D × List D)
  | .lst xs, .lst ys => some (xs, ys)
  | .tup xs, .tup ys => some (xs, ys)
  | _, _ => none
def i_zip (m m2 : EM) : IM := fun env S => (m env S).bind fun d S1 => (m2 env S1).bind fun e S2 => (R.ofO (zipO d e) S2).bind fun p S3 => .ok (zipD p.1 p.2, none) S3
theorem ci_seq (he : CE Γ X W e ma) : CI Γ X W tg e (i_seq ma) := by
  refine PI.weak (pi_seq he) fun σ H R ⟨c, env, S, r, ev, h⟩ => ?_
  refine ⟨c, env, S, r, ev, (Po.bind h).imp fun v H1 ⟨c1, S1, d1, e1, r1, a1, h1⟩ => ?_⟩
  obtain ⟨it, hit, h1⟩ := Po.ofO h1
  obtain ⟨st, p, rfl, l | l⟩ := its_at r1 a1 hit
  · obtain ⟨vs, g, _⟩ := l c1 H1 S1 Ext.refl.A r1 st
    exact .inl ⟨p, rfl, ⟨vs, g⟩, h1 c1 H1 _ Ext.refl r1 l.wkL⟩
  · obtain ⟨vs, g, _⟩ := l c1 H1 S1 Ext.refl.A r1 st
    exact .inr ⟨p, rfl, ⟨vs, g⟩, h1 c1 H1 _ Ext.refl r1 l.wkT⟩
theorem ci_enum {p tpos : Pos} {elts : List Expr} {kk : Nat} (hg : Gl X "enumerate") (hm : X.mg "enumerate" = none) (he : CE Γ X W e ma) (hs : starEach [e] X.env = [(false, eval e X.env)] := by rfl) (hs2 : starEach [e] X.env = (false, eval e X.env) :: starEach [] X.env := by rfl) :
    CI Γ X W (.Tuple elts kk tpos) (.Call (.Name "enumerate" p) [e] [] pos) (i_enum ma) := by
  refine PI.weak (pi_enumA hg hm (pa_cons he pa_nil hs2) hs) fun σ H R ⟨c, env, S, r, ev, h⟩ => ?_
  refine ⟨c, env, S, r, ev, (Po.bind h).imp fun v H1 ⟨c1, S1, d1, e1, r1, a1, h1⟩ => ?_⟩
  show ∃ a xs, [v] = [V.ref a] ∧ _
  cases hit : itsOf S1 d1 with
  | none => rw [hit] at h1; exact h1.elim
  | some it =>
    rw [hit] at h1
    obtain ⟨st, p, rfl, l | l⟩ := its_at r1 a1 hit
    · obtain ⟨vs, g, _⟩ := l c1 H1 S1 Ext.refl.A r1 st
      exact ⟨p, vs, rfl, .inl ⟨g, h1 c1 H1 _ Ext.refl r1 l.wkE⟩⟩
    · obtain ⟨vs, g, _⟩ := l c1 H1 S1 Ext.refl.A r1 st
      exact ⟨p, vs, rfl, .inr ⟨g, h1 c1 H1 _ Ext.refl r1 l.wkET⟩⟩
theorem ci_rng1 {p : Pos} (hg : Gl X "range") (hm : X.mg "range" = none) (he : CE Γ X W e ma) (hs : starEach [e] X.env = [(false, eval e X.env)] := by rfl) (hs2 : starEach [e] X.env = (false, eval e X.env) :: starEach [] X.env := by rfl) : CI Γ X W tg (.Call (.Name "range" p) [e] [] pos) (i_rng1 ma) := by
  refine PI.weak (pi_range1 hg hm (pa_cons he pa_nil hs2) hs) fun σ H R ⟨c, env, S, r, ev, h⟩ => ?_
  refine ⟨c, env, S, r, ev, (Po.bind h).imp fun v H1 ⟨c1, S1, d1, e1, r1, a1, h1⟩ => ?_⟩
  show ∃ j : Int, [v] = [V.int j] ∧ _
  cases d1 with
  | int j =>
    obtain ⟨hb, h1⟩ := Po.if h1
    exact ⟨j, by rw [a1.int], hb.1, hb.2, h1 c1 H1 _ Ext.refl r1 wkR⟩
  | _ => exact h1.elim
theorem ci_rng2 {p : Pos} (hg : Gl X "range") (hm : X.mg "range" = none) (ha : CE Γ X W a ma) (hb : CE Γ X W b mb) (hs : starEach [a, b] X.env = [(false, eval a X.env), (false, eval b X.env)] := by rfl) (hs2 : starEach [b] X.env = [(false, eval b X.env)] := by rfl) (hs3 : starEach [a, b] X.env = (false, eval a X.env) :: starEach [b] X.env := by rfl) (hs4 : starEach [b] X.env = (false, eval b X.env) :: starEach [] X.env := by rfl) : CI Γ X W tg (.Call (.Name "range" p) [a, b] [] pos) (i_rng2 ma mb) := by
  refine PI.weak (pi_range2 hg hm (pa_cons ha (pa_cons hb pa_nil hs4) hs3) hs hs2) fun σ H R ⟨c, env, S, r, ev, h⟩ => ?_
  refine ⟨c, env, S, r, ev, (Po.bind h).imp fun v H1 ⟨c1, S1, d1, e1, r1, a1, h1⟩ => ?_⟩
  refine ⟨c1, env, S1, r1, ev.mono e1, (Po.bind h1).imp fun u H2 ⟨c2, S2, d2, e2, r2, a2, h2⟩ => ?_⟩
  show ∃ i j : Int, [v, u] = [V.int i, V.int j] ∧ _
  cases d1 with
  | int i =>
    cases d2 with
    | int j =>
      obtain ⟨hb, h2⟩ := Po.if h2
      exact ⟨i, j, by rw [a1.int, a2.int], hb, h2 c2 H2 _ Ext.refl r2 wkR⟩
    | _ => exact h2.elim
  | _ => cases d2 <;> exact h2.elim
theorem ci_zip {p tpos : Pos} {elts : List Expr} {kk : Nat} (hg : Gl X "zip") (hm : X.mg "zip" = none) (ha : CE Γ X W a ma) (hb : CE Γ X W b mb)
    (hs : starEach [a, b] X.env = (false, eval a X.env) :: starEach [b] X.env := by rfl) (hpl : (backTo pos (starEach [b] X.env)).any (·.1) = false := by rfl) (hs4 : starEach [b] X.env = (false, eval b X.env) :: starEach [] X.env := by rfl) :
    CI Γ X W (.Tuple elts kk tpos) (.Call (.Name "zip" p) [a, b] [] pos) (i_zip ma mb) := by
  refine PI.weak (RZ.pi_zipA hg hm (pa_cons ha (pa_cons hb pa_nil hs4) hs) hs hpl) fun σ H R ⟨c, env, S, r, ev, h⟩ => ?_
  refine ⟨c, env, S, r, ev, (Po.bind h).imp fun v H1 ⟨c1, S1, d1, e1, r1, a1, h1⟩ => ?_⟩
  refine ⟨c1, env, S1, r1, ev.mono e1, (Po.bind h1).imp fun u H2 ⟨c2, S2, d2, e2, r2, a2, h2⟩ => ?_⟩
  show ∃ a b xs ys, [v, u] = [V.ref a, V.ref b] ∧ _
  have a1 := a1.mono e2
  cases d1 with
  | lst xs =>
    cases d2 with
    | lst ys =>
      obtain ⟨p, rfl, l⟩ := later_lst a1
      obtain ⟨q, rfl, l2⟩ := later_lst a2
      obtain ⟨vs, g, _⟩ := l c2 H2 S2 Ext.refl.A r2 (stay_none _ _)
      obtain ⟨us, g2, _⟩ := l2 c2 H2 S2 Ext.refl.A r2 (stay_none _ _)
      exact ⟨p, q, vs, us, rfl, .inl ⟨g, g2, h2 c2 H2 _ Ext.refl r2 (l.wkZ l2)⟩⟩
    | _ => exact h2.elim
  | tup xs =>
    cases d2 with
    | tup ys =>
      obtain ⟨p, rfl, l⟩ := later_tup a1
      obtain ⟨q, rfl, l2⟩ := later_tup a2
      obtain ⟨vs, g, _⟩ := l c2 H2 S2 Ext.refl.A r2 (stay_none _ _)
      obtain ⟨us, g2, _⟩ := l2 c2 H2 S2 Ext.refl.A r2 (stay_none _ _)
      exact ⟨p, q, vs, us, rfl, .inr ⟨g, g2, h2 c2 H2 _ Ext.refl r2 (l.wkZT l2)⟩⟩
    | _ => exact h2.elim
  | _ => cases d2 <;> exact h2.elim
/-! ## loops -/
open Classical in
noncomputable def loopS (g : GM) (body : SM) (st : Option (Nat × List D)) : List D → SM
  | [], env, S => .if (Stay S ([], st)) (.next env S)
  | d :: r, env, S => .if (Stay S ([], st)) (match g d env with
    | none => .bad
    | some env1 => match body env1 S with
      | .next env2 S2 => loopS g body st r env2 S2
      | .cnt env2 S2 => loopS g body st r env2 S2
      | .brk env2 S2 => .next env2 S2
      | x => x)
noncomputable def s_for (im : IM) (g : GM) (body : SM) : SM := fun env S => (im env S).toS env fun it S1 => loopS g body it.2 it.1 env S1
theorem Stay.of {it : Its} {ds : List D} (h : Stay S it) : Stay S (ds, it.2) := fun k es e => h k es e
open Classical in
theorem c_for {iter : Expr} {body : List Stmt} {im : IM} {g : GM} {m : SM} {sl : List Nat} (hp : PassesOwn (model X.prog X.w) X.A X.env X.xe) (hc : X.calm = true) (hi : CI Γ X W tg iter im) (hg : CG Γ X tg sl g) (hb : CSs Γ X W body m)
    (hs : ∀ x, foldedSetIterable iter X.env x = pure x := by intro _; rfl) : CS Γ X W (.For tg iter body [] pos) (s_for im g m) := by
  refine PS.weak (ps_for hp hc hi hg hb hs) fun Dn σ H ⟨c, env, S, r, ev, h⟩ => ?_
  refine ⟨c, env, S, r, ev, (PoS.part ev h).imp fun J H1 ⟨c1, S1, it, e1, r1, wk, ev1, h1⟩ => ?_⟩
  refine ⟨fun i m' σ' H' => ∃ c2 env2 S2, Ext c1 H1 S1.length c2 H' S2.length ∧ Rep ⟨X.K, Γ⟩ c2 H' S2 ∧ EnvR ⟨X.K, Γ⟩ c2 H' S2.length σ' env2 ∧ m' = it.1.length - i ∧ i ≤ it.1.length ∧ PoS ⟨X.K, Γ⟩ W c2 H' S2.length (loopS g m it.2 (it.1.drop i) env2 S2) Dn,
    ⟨it.1.length, c1, env, S1, Ext.refl, r1, ev1, by simp, Nat.zero_le _, h1⟩, ?_⟩
  rintro i m' σ' H' ⟨c2, env2, S2, e2, r2, ev2, rfl, hi, h2⟩
  by_cases hlt : i < it.1.length
  · right
    have hd : it.1.drop i = it.1[i] :: it.1.drop (i + 1) := List.drop_eq_getElem_cons hlt
    rw [hd] at h2
    unfold loopS at h2
    obtain ⟨st, h2⟩ := PoS.if h2
    obtain ⟨w1, _⟩ := wk c2 H' S2 e2.A r2 (Stay.of (ds := it.1) st) i
    obtain ⟨go, yl⟩ := w1 it.1[i] (List.getElem?_eq_getElem hlt)
    refine ⟨go, fun σ3 H3 => ∃ c3 env3 S3, Ext c1 H1 S1.length c3 H3 S3.length ∧ Rep ⟨X.K, Γ⟩ c3 H3 S3 ∧ EnvR ⟨X.K, Γ⟩ c3 H3 S3.length σ3 env3 ∧ PoS ⟨X.K, Γ⟩ W c3 H3 S3.length (loopS g m it.2 (it.1.drop (i + 1)) env3 S3) Dn,
      fun σ3 H3 ⟨c3, env3, S3, e3, r3, ev3, h3⟩ => ⟨it.1.length - (i + 1), by omega, c3, env3, S3, e3, r3, ev3, rfl, hlt, h3⟩, fun x H3 y => ?_⟩
    obtain ⟨ey, ry, ay⟩ := yl x H3 y
    have h3 := PoS.mono ey h2
    cases hg : g it.1[i] env2 with
    | none => rw [hg] at h3; exact h3.elim
    | some env3 =>
      rw [hg] at h3
      refine ⟨c2, env2, S2, it.1[i], env3, ry, ev2.mono ey, ay, hg, fun σ3 ev3 _ => ⟨c2, env3, S2, ry, ev3, ?_⟩⟩
      change PoS ⟨X.K, Γ⟩ W c2 H3 S2.length (match m env3 S2 with
        | .next env2 S2 => loopS g m it.2 (it.1.drop (i + 1)) env2 S2
        | .cnt env2 S2 => loopS g m it.2 (it.1.drop (i + 1)) env2 S2
        | .brk env2 S2 => .next env2 S2
        | x => x) Dn at h3
      have e23 := e2.trans ey
      cases hm : m env3 S2 with
      | next env4 S4 =>
        rw [hm] at h3
        exact fun c4 H4 σ4 e4 r4 ev4 => ⟨c4, env4, S4, e23.trans e4, r4, ev4, PoS.mono e4 h3⟩
      | cnt env4 S4 =>
        rw [hm] at h3
        exact fun c4 H4 σ4 e4 r4 ev4 => ⟨c4, env4, S4, e23.trans e4, r4, ev4, PoS.mono e4 h3⟩
      | brk env4 S4 => rw [hm] at h3; exact h3
      | ret d S4 => rw [hm] at h3; exact h3
      | ex x env4 S4 => rw [hm] at h3; exact h3
      | bad => rw [hm] at h3; exact h3.elim
  · left
    have e : i = it.1.length := by omega
    subst e
    rw [List.drop_length] at h2
    unfold loopS at h2
    obtain ⟨st, h2⟩ := PoS.if h2
    obtain ⟨_, w2⟩ := wk c2 H' S2 e2.A r2 (Stay.of (ds := it.1) st) it.1.length
    exact ⟨w2 rfl, h2 c2 H' σ' Ext.refl r2 ev2⟩
end
end Mm
set_option maxRecDepth 100000
/-! Defs of the text as functions on plain data; a call's leavings; comprehensions. -/
namespace Mm
open PySem L2
abbrev FM := List D → Sto → R D
/-- what a def promises -/
def spM (K : PySem.W.Frag) (Γ : Cls') (m : FM) : Sp := fun vs H Q E => ∃ c S ds, Rep ⟨K, Γ⟩ c H S ∧ Ats ⟨K, Γ⟩ c H S.length ds vs ∧ PoE ⟨K, Γ⟩ (fun C dd _ H => E C dd H) [] c H S.length (m ds S) Q
def endF (r : RS) : R D := match r with
  | .ret d S => .ok d S
  | .next _ S => .ok .non S
  | .ex x _ S => .ex x S
  | _ => .bad
@[simp] theorem endF_ret (d : D) (S : Sto) : endF (.ret d S) = .ok d S := rfl
@[simp] theorem endF_next (env : Env) (S : Sto) : endF (.next env S) = .ok .non S := rfl
@[simp] theorem endF_ex (x : Exn) (env : Env) (S : Sto) : endF (.ex x env S) = .ex x S := rfl
@[simp] theorem endF_bad : endF .bad = .bad := rfl
/-- a def of np parameters and nl names -/
def runDef (np nl : Nat) (b : SM) : FM := fun ds S => if ds.length = np then endF (b (ds.map some ++ List.replicate (nl - np) none) S) else .bad
section
variable {w : Wn} {W : WX} {σ : St} {c c' : Cn} {H H' : Hp} {n n' : Nat} {S : Sto} {env : Env}
variable {Γ : Cls'} {X : Cx} {a b e tg : Expr} {es : List Expr} {ma mb : EM} {am : AM} {pos : Pos} {Dn : Ends}
theorem Po.wish {α β : Type} {rel : Cn → Hp → Nat → α → β → Prop} {W' : WX} {σ' : St} {r : R α} {Q : β → Hp → Prop} (h : Po w W rel σ c H n r Q) (i : ∀ C dd H, W C dd σ H → W' C dd σ' H) : Po w W' rel σ' c H n r Q := by
  cases r with
  | ok d S => exact h
  | ex x S => exact fun c2 H2 C dd e2 r2 a => i _ _ _ (h c2 H2 C dd e2 r2 a)
  | bad => exact h.elim
theorem envR_start {N : List Str} {ds : List D} {vs : List V} (t : Ats w c H n ds vs) : EnvR w c H n (L2.start N vs) (ds.map some ++ List.replicate (N.length - ds.length) none) := by
  unfold L2.start
  refine ⟨by rw [List.length_append, List.length_append, List.length_map, List.length_map, List.length_replicate, List.length_replicate, t.len], fun i d h => ?_⟩
  by_cases hi : i < ds.length
  · rw [List.getElem?_append_left (by rw [List.length_map]; exact hi), List.getElem?_map] at h
    cases hd : ds[i]? with
    | none => rw [hd] at h; cases h
    | some d' =>
      rw [hd] at h; cases h
      obtain ⟨v, hv, a⟩ := t.get hd
      exact ⟨v, by rw [List.getElem?_append_left (by rw [List.length_map, t.len]; exact hi), List.getElem?_map, hv]; rfl, a⟩
  · rw [List.getElem?_append_right (by rw [List.length_map]; omega)] at h
    have := List.mem_of_getElem? h
    rw [List.mem_replicate] at this
    cases this.2
/-- THE RULE of a def: its body's parts, put together -/
theorem def_ok {P : Program} {wd : World} {K : PySem.W.Frag} {mg : Str → Option Value} {base : Heap} {x qual : Str} {st : Stmt} {f : Addr} {fd : FuncData} {N ps : List Str} {k : Nat} {b : SM} (F : Fun K x qual st f fd) (Sc : FnScope N ps (defScope st))
    (hb : ∀ (cdv : Value) (A : Around) (outer : List PySem.Env) (s : Shared) (H : Hp) (E : XK), Room k (A.deeper (PyProof.Rows.envOfC qual (defScope st) s.heap.objs.size f cdv)) → CSs Γ (cxOf (L2.CX P wd) P wd K mg base N qual (defScope st) f cdv A outer s H E) (fun C dd _ H => E C dd H) (defBody st) b) :
    FnOk P wd K mg base (L2.CX P wd) (k + 1) f fd ps (spM K Γ (runDef ps.length N.length b)) := by
  refine F.okX Sc (fun vs H Q E ⟨c, S, ds, r, t, h⟩ => ?_) (fun cdv A outer s H vs Q E hr ⟨c, S, ds, r, t, h⟩ => ⟨_, hb cdv A outer s H E hr, ?_⟩)
  · unfold runDef at h
    by_cases hl : ds.length = ps.length
    · rw [t.len]; exact hl
    · rw [if_neg hl] at h; exact h.elim
  · unfold runDef at h
    by_cases hl : ds.length = ps.length
    · rw [if_pos hl, ← hl] at h
      refine ⟨c, _, S, r, envR_start t, ?_⟩
      cases hx : b (ds.map some ++ List.replicate (N.length - ds.length) none) S with
      | next env' S' => rw [hx] at h; exact fun c2 H2 s2 e2 r2 a2 => h c2 H2 .non e2 r2 .o
      | ret d S' => rw [hx] at h; exact fun c2 H2 v e2 r2 a2 => h c2 H2 v e2 r2 a2
      | ex x env' S' => rw [hx] at h; exact fun c2 H2 s2 C dd e2 r2 a2 xa => h c2 H2 C dd e2 r2 xa
      | brk env' S' => rw [hx] at h; exact h.elim
      | cnt env' S' => rw [hx] at h; exact h.elim
      | bad => rw [hx] at h; exact h.elim
    · rw [if_neg hl] at h; exact h.elim
/-- a def that stands under its name -/
structure Df (P : Program) (wd : World) (K : PySem.W.Frag) (mg : Str → Option Value) (base : Heap) (Γ : Cls') (x : Str) (k : Nat) (m : FM) : Prop where
  ex : ∃ (f : Addr) (fd : FuncData) (ps : List Str), FnOk P wd K mg base (L2.CX P wd) k f fd ps (spM K Γ m) ∧ Binds K fd ps [] ∧ PySem.W.keepIn K (.ref f) = true ∧ mg x = some (.ref f)
/-- what is raised goes where it is wished -/
def Goes (X : Cx) (W : WX) : Prop := ∀ σ, PassesAt (L2.CX X.prog X.w) X σ (WE W σ)
theorem goes_of (tk : Takes X W) : Goes X W := fun σ => passAt tk σ
theorem goes_not : Goes X (fun _ _ _ _ => False) := fun σ pins H s e s' I h => by
  obtain ⟨a, B, H', cls, d, _, _, _, _, _, _, _, z⟩ := h
  exact z.elim
/-! ## behind a call the store's new places are dropped -/
mutual
def D.lo (n : Nat) : D → Bool
  | .loc k => decide (k < n)
  | .tup ds => los n ds
  | .ttp ds => los n ds
  | .xn _ ds => los n ds
  | .lst ds => los n ds
  | .dic _ ds => los n ds
  | .obj _ ds => los n ds
  | _ => true
def los (n : Nat) : List D → Bool
  | [] => true
  | d :: r => d.lo n && los n r
end
def SO.lo (n : Nat) : SO → Bool
  | .lst ds => los n ds
  | .dic _ ds => los n ds
  | .ins _ ds => los n ds
mutual
def rsv (n : Nat) (S : Sto) : Nat → D → Option D
  | 0, _ => none
  | f + 1, .loc k => if k < n then some (.loc k) else match S[k]? with
    | some (.lst ds) => (rsvs n S f ds).map .lst
    | some (.dic ks ds) => (rsvs n S f ds).map (.dic ks)
    | some (.ins c ds) => (rsvs n S f ds).map (.obj c)
    | none => none
  | f + 1, .tup ds => (rsvs n S f ds).map .tup
  | f + 1, .ttp ds => (rsvs n S f ds).map .ttp
  | f + 1, .xn k ds => (rsvs n S f ds).map (.xn k)
  | f + 1, .lst ds => (rsvs n S f ds).map .lst
  | f + 1, .dic ks ds => (rsvs n S f ds).map (.dic ks)
  | f + 1, .obj c ds => (rsvs n S f ds).map (.obj c)
  | f + 1, d => some d
def rsvs (n : Nat) (S : Sto) : Nat → List D → Option (List D)
  | _, [] => some []
  | f, d :: r => (rsv n S f d).bind fun d' => (rsvs n S f r).map fun r' => d' :: r'
end
def rsvD (n : Nat) (S : Sto) (d : D) : Option D := if d.lo n = true then some d else rsv n S 12 d
def Tr (n : Nat) (S S' : Sto) : Prop := ∀ k, k < n → S'[k]? = S[k]? ∨ ∃ o, S'[k]? = some o ∧ o.lo n = true
open Classical in
noncomputable def trunc (S : Sto) (r : R D) : R D := match r with
  | .ok d S' => .if (Tr S.length S S') (.ofO (rsvD S.length S' d) (S'.take S.length))
  | .ex x S' => .if (Tr S.length S S' ∧ los S.length x.ds = true) (.ex x (S'.take S.length))
  | .bad => .bad
/-- the places from n on are not changed any more -/
def Cn.cut (c : Cn) (n n' : Nat) : Cn := { c with F := fun a => c.F a ∨ ∃ k, n ≤ k ∧ k < n' ∧ c.ρ k = a }
mutual
theorem At.fcut {m : Nat} : ∀ (d : D) (v : V), At w c H n' d v → d.lo m = true → At w (c.cut m n') H m d v
  | .non, v, h, _ => h
  | .bl b, v, h, _ => h
  | .int i, v, h, _ => h
  | .str x, v, h, _ => h
  | .tup ds, v, h, q => by
    unfold At at h ⊢; unfold D.lo at q
    obtain ⟨a, vs, r, s, t⟩ := h
    exact ⟨a, vs, r, s, Ats.fcut ds vs t q⟩
  | .ttp ds, v, h, q => by
    unfold At at h ⊢; unfold D.lo at q
    obtain ⟨a, vs, r, s, t⟩ := h
    exact ⟨a, vs, r, s, Ats.fcut ds vs t q⟩
  | .lst ds, v, h, q => by
    unfold At at h ⊢; unfold D.lo at q
    obtain ⟨a, vs, r, f, s, t⟩ := h
    exact ⟨a, vs, r, .inl f, s, Ats.fcut ds vs t q⟩
  | .dic ks ds, v, h, q => by
    unfold At at h ⊢; unfold D.lo at q
    obtain ⟨a, vs, r, f, s, t⟩ := h
    exact ⟨a, vs, r, .inl f, s, Ats.fcut ds vs t q⟩
  | .obj k ds, v, h, q => by
    unfold At at h ⊢; unfold D.lo at q
    obtain ⟨a, vs, C, dx, r, f, g, l, s, t⟩ := h
    exact ⟨a, vs, C, dx, r, .inl f, g, l, s, Ats.fcut ds vs t q⟩
  | .fz ns, v, h, q => by
    unfold At at h ⊢
    exact h
  | .loc k, v, h, q => by
    unfold At at h ⊢; unfold D.lo at q
    exact ⟨of_decide_eq_true q, h.2⟩
  | .oth u, v, h, _ => h
  | .xn k ds, v, h, q => by
    unfold At at h ⊢; unfold D.lo at q
    obtain ⟨a, dd, C, vs, r, x, g, l, s, t⟩ := h
    exact ⟨a, dd, C, vs, r, x, g, l, s, Ats.fcut ds vs t q⟩
theorem Ats.fcut {m : Nat} : ∀ (ds : List D) (vs : List V), Ats w c H n' ds vs → los m ds = true → Ats w (c.cut m n') H m ds vs
  | [], vs, h, q => h
  | d :: ds, vs, h, q => by
    unfold Ats at h ⊢; unfold los at q
    rw [Bool.and_eq_true] at q
    obtain ⟨v, r, e, a, b⟩ := h
    exact ⟨v, r, e, At.fcut d v a q.1, Ats.fcut ds r b q.2⟩
end
mutual
theorem At.lo : ∀ (d : D) (v : V), At w c H n d v → d.lo n = true
  | .non, v, h => rfl
  | .bl b, v, h => rfl
  | .int i, v, h => rfl
  | .str x, v, h => rfl
  | .tup ds, v, h => by
    unfold At at h; unfold D.lo
    obtain ⟨a, vs, r, s, t⟩ := h
    exact Ats.los ds vs t
  | .ttp ds, v, h => by
    unfold At at h; unfold D.lo
    obtain ⟨a, vs, r, s, t⟩ := h
    exact Ats.los ds vs t
  | .lst ds, v, h => by
    unfold At at h; unfold D.lo
    obtain ⟨a, vs, r, f, s, t⟩ := h
    exact Ats.los ds vs t
  | .dic ks ds, v, h => by
    unfold At at h; unfold D.lo
    obtain ⟨a, vs, r, f, s, t⟩ := h
    exact Ats.los ds vs t
  | .obj k ds, v, h => by
    unfold At at h; unfold D.lo
    obtain ⟨a, vs, C, dx, r, f, g, l, s, t⟩ := h
    exact Ats.los ds vs t
  | .fz ns, v, h => rfl
  | .loc k, v, h => by
    unfold At at h; unfold D.lo
    exact decide_eq_true h.1
  | .oth u, v, h => rfl
  | .xn k ds, v, h => by
    unfold At at h; unfold D.lo
    obtain ⟨a, dd, C, vs, r, x, g, l, s, t⟩ := h
    exact Ats.los ds vs t
theorem Ats.los : ∀ (ds : List D) (vs : List V), Ats w c H n ds vs → los n ds = true
  | [], vs, h => rfl
  | d :: ds, vs, h => by
    unfold Ats at h; unfold los
    obtain ⟨v, r, e, a, b⟩ := h
    rw [At.lo d v a, Ats.los ds r b]; rfl
end
theorem OAt.lo {a : Addr} : ∀ {o : SO}, OAt w c H n a o → o.lo n = true
  | .lst ds, ⟨vs, g, t⟩ => Ats.los ds vs t
  | .dic ks ds, ⟨vs, g, t⟩ => Ats.los ds vs t
  | .ins k ds, ⟨vs, C, dx, g, l, s, t⟩ => Ats.los ds vs t
mutual
theorem rsv_at {m : Nat} (r : Rep w c H S) : ∀ (f : Nat) (d d' : D) (v : V), At w c H S.length d v → rsv m S f d = some d' → At w (c.cut m S.length) H m d' v
  | 0, d, d', v, h, q => by unfold rsv at q; cases q
  | f + 1, .non, d', v, h, q => by unfold rsv at q; cases q; exact h
  | f + 1, .bl b, d', v, h, q => by unfold rsv at q; cases q; exact h
  | f + 1, .int i, d', v, h, q => by unfold rsv at q; cases q; exact h
  | f + 1, .str x, d', v, h, q => by unfold rsv at q; cases q; exact h
  | f + 1, .oth u, d', v, h, q => by unfold rsv at q; cases q; exact h
  | f + 1, .xn k ds, d', v, h, q => by
    unfold rsv at q; unfold At at h
    obtain ⟨a, dd, C, vs, e, x, g, l, s, t⟩ := h
    cases hd : rsvs m S f ds with
    | none => rw [hd] at q; cases q
    | some es =>
      rw [hd] at q; cases q
      unfold At
      exact ⟨a, dd, C, vs, e, x, g, l, s, rsvs_at r f ds es vs t hd⟩
  | f + 1, .fz ns, d', v, h, q => by
    unfold rsv at q; cases q
    unfold At at h ⊢
    exact h
  | f + 1, .tup ds, d', v, h, q => by
    unfold rsv at q; unfold At at h
    obtain ⟨a, vs, e, s, t⟩ := h
    cases hd : rsvs m S f ds with
    | none => rw [hd] at q; cases q
    | some es =>
      rw [hd] at q; cases q
      unfold At
      exact ⟨a, vs, e, s, rsvs_at r f ds es vs t hd⟩
  | f + 1, .ttp ds, d', v, h, q => by
    unfold rsv at q; unfold At at h
    obtain ⟨a, vs, e, s, t⟩ := h
    cases hd : rsvs m S f ds with
    | none => rw [hd] at q; cases q
    | some es =>
      rw [hd] at q; cases q
      unfold At
      exact ⟨a, vs, e, s, rsvs_at r f ds es vs t hd⟩
  | f + 1, .lst ds, d', v, h, q => by
    unfold rsv at q; unfold At at h
    obtain ⟨a, vs, e, g, s, t⟩ := h
    cases hd : rsvs m S f ds with
    | none => rw [hd] at q; cases q
    | some es =>
      rw [hd] at q; cases q
      unfold At
      exact ⟨a, vs, e, .inl g, s, rsvs_at r f ds es vs t hd⟩
  | f + 1, .dic ks ds, d', v, h, q => by
    unfold rsv at q; unfold At at h
    obtain ⟨a, vs, e, g, s, t⟩ := h
    cases hd : rsvs m S f ds with
    | none => rw [hd] at q; cases q
    | some es =>
      rw [hd] at q; cases q
      unfold At
      exact ⟨a, vs, e, .inl g, s, rsvs_at r f ds es vs t hd⟩
  | f + 1, .obj k ds, d', v, h, q => by
    unfold rsv at q; unfold At at h
    obtain ⟨a, vs, C, dx, e, g, g2, l, s, t⟩ := h
    cases hd : rsvs m S f ds with
    | none => rw [hd] at q; cases q
    | some es =>
      rw [hd] at q; cases q
      unfold At
      exact ⟨a, vs, C, dx, e, .inl g, g2, l, s, rsvs_at r f ds es vs t hd⟩
  | f + 1, .loc k, d', v, h, q => by
    unfold rsv at q; unfold At at h
    by_cases hk : k < m
    · rw [if_pos hk] at q; cases q
      unfold At
      exact ⟨hk, h.2⟩
    · rw [if_neg hk] at q
      have fz : (c.cut m S.length).F (c.ρ k) := .inr ⟨k, Nat.le_of_not_lt hk, h.1, rfl⟩
      cases ho : S[k]? with
      | none => rw [ho] at q; cases q
      | some o =>
        rw [ho] at q
        have oa := r.get ho
        cases o with
        | lst ds =>
          obtain ⟨vs, g, t⟩ := oa
          cases hd : rsvs m S f ds with
          | none => simp only [hd] at q; cases q
          | some es =>
            simp only [hd] at q; cases q
            unfold At
            exact ⟨_, vs, h.2, fz, g, rsvs_at r f ds es vs t hd⟩
        | dic ks ds =>
          obtain ⟨vs, g, t⟩ := oa
          cases hd : rsvs m S f ds with
          | none => simp only [hd] at q; cases q
          | some es =>
            simp only [hd] at q; cases q
            unfold At
            exact ⟨_, vs, h.2, fz, g, rsvs_at r f ds es vs t hd⟩
        | ins cn ds =>
          obtain ⟨vs, C, dx, g, l, s, t⟩ := oa
          cases hd : rsvs m S f ds with
          | none => simp only [hd] at q; cases q
          | some es =>
            simp only [hd] at q; cases q
            unfold At
            exact ⟨_, vs, C, dx, h.2, fz, g, l, s, rsvs_at r f ds es vs t hd⟩
theorem rsvs_at {m : Nat} (r : Rep w c H S) : ∀ (f : Nat) (ds es : List D) (vs : List V), Ats w c H S.length ds vs → rsvs m S f ds = some es → Ats w (c.cut m S.length) H m es vs
  | f, [], es, vs, h, q => by unfold rsvs at q; cases q; exact h
  | f, d :: ds, es, vs, h, q => by
    unfold rsvs at q; unfold Ats at h
    obtain ⟨v, vr, e, a, b⟩ := h
    cases h1 : rsv m S f d with
    | none => rw [h1] at q; cases q
    | some d' =>
      rw [h1] at q
      cases h2 : rsvs m S f ds with
      | none => rw [h2] at q; cases q
      | some r' =>
        rw [h2] at q; cases q
        rw [e]
        exact .cons (rsv_at r f d d' v a h1) (rsvs_at r f ds r' vr b h2)
end
theorem cut_ok {S' : Sto} (r : Rep w c H S) (e : Ext c H S.length c' H' S'.length) (r' : Rep w c' H' S') (tr : Tr S.length S S') :
    Ext c H S.length (c'.cut S.length S'.length) H' (S'.take S.length).length ∧ Rep w (c'.cut S.length S'.length) H' (S'.take S.length) := by
  have hl : (S'.take S.length).length = S.length := by rw [List.length_take]; exact Nat.min_eq_left e.le
  rw [hl]
  refine ⟨⟨Nat.le_refl _, e.rho, fun a f => .inl (e.fro a f), e.tup, e.frz, e.xd, e.keep, e.keepF, fun k a b => absurd b (Nat.not_lt.mpr a), e.there, fun a f => ?_⟩, fun k o h => ?_, fun i j hi hj q => ?_, fun k hk f => ?_, fun a f => ?_⟩
  · rcases f with f | ⟨k, k1, k2, rfl⟩
    · exact e.nF a f
    · exact .inr (e.new k k1 k2)
  · rw [hl]
    have hk : k < S.length := by rw [← hl]; exact Rep.lt h
    rw [List.getElem?_take_of_lt hk] at h
    have oa := r'.get h
    have ob : o.lo S.length = true := by
      rcases tr k hk with t | ⟨o', t, b⟩
      · rw [h] at t
        exact (r.get t.symm).lo
      · rw [h] at t; cases t; exact b
    show OAt w _ H' S.length (c'.ρ k) o
    cases o with
    | lst ds => obtain ⟨vs, g, t⟩ := oa; exact ⟨vs, g, t.fcut _ _ ob⟩
    | dic ks ds => obtain ⟨vs, g, t⟩ := oa; exact ⟨vs, g, t.fcut _ _ ob⟩
    | ins k ds => obtain ⟨vs, C, dx, g, l, s, t⟩ := oa; exact ⟨vs, C, dx, g, l, s, t.fcut _ _ ob⟩
  · rw [hl] at hi hj
    exact r'.inj i j (Nat.lt_of_lt_of_le hi e.le) (Nat.lt_of_lt_of_le hj e.le) q
  · rw [hl] at hk
    rcases f with f | ⟨j, j1, j2, q⟩
    · exact r'.live k (Nat.lt_of_lt_of_le hk e.le) f
    · have := r'.inj j k j2 (Nat.lt_of_lt_of_le hk e.le) q
      omega
  · rcases f with f | ⟨j, j1, j2, rfl⟩
    · exact r'.fro a f
    · obtain ⟨u, q, _⟩ := r'.some j2
      exact ⟨u, q⟩
open Classical in
theorem trunc_ok {r : R D} {Q : VK} (rp : Rep w c H S) (h : PoE w W σ c H S.length (trunc S r) Q) : PoE w W σ c H S.length r Q := by
  cases r with
  | ok d S' =>
    obtain ⟨tr, h⟩ := Po.if h
    obtain ⟨d', hd, h⟩ := Po.ofO h
    intro c' H' v e' r' a'
    obtain ⟨e2, r2⟩ := cut_ok rp e' r' tr
    have hl : (S'.take S.length).length = S.length := by rw [List.length_take]; exact Nat.min_eq_left e'.le
    refine h _ H' v e2 r2 ?_
    rw [hl]
    unfold rsvD at hd
    by_cases hb : d.lo S.length = true
    · rw [if_pos hb] at hd; cases hd
      exact a'.fcut _ _ hb
    · rw [if_neg hb] at hd
      exact rsv_at r' 12 d d' v a' hd
  | ex x S' =>
    obtain ⟨⟨tr, hb⟩, h⟩ := Po.if h
    intro c' H' C dd e' r' xa
    obtain ⟨e2, r2⟩ := cut_ok rp e' r' tr
    have hl : (S'.take S.length).length = S.length := by rw [List.length_take]; exact Nat.min_eq_left e'.le
    refine h _ H' C dd e2 r2 ?_
    rw [hl]
    obtain ⟨p, q, vs, h1, h2, h3, h4, h5, h6⟩ := xa
    exact ⟨p, q, vs, h1, h2, h3, h4, h5, h6.fcut _ _ hb⟩
  | bad => exact h.elim
/-- what is done behind a call -/
abbrev TrF := Sto → R D → R D
def tr0 : TrF := fun _ r => r
def TrOk (tr : TrF) : Prop := ∀ (w : Wn) (W : WX) (σ : St) (c : Cn) (H : Hp) (S : Sto) (r : R D) (Q : VK), Rep w c H S → PoE w W σ c H S.length (tr S r) Q → PoE w W σ c H S.length r Q
theorem tr0_ok : TrOk tr0 := fun _ _ _ _ _ _ _ _ _ h => h
theorem trT_ok : TrOk trunc := fun _ _ _ _ _ _ _ _ rp h => trunc_ok rp h
@[simp] theorem tr0_eq (S : Sto) (r : R D) : tr0 S r = r := rfl
def e_fn (tr : TrF) (m : FM) (am : AM) : EM := fun env S => (am env S).bind fun ds S1 => tr S1 (m ds S1)
theorem c_fn {x : Str} {k : Nat} {m : FM} {p : Pos} {tr : TrF} (ht : TrOk tr) (G : Df X.prog X.w X.K X.mg X.base Γ x k m) (go : Goes X W) (hr : Room k X.A) (hg : Gl X x) (ha : CA Γ X W (e :: es) am) (hdb : (x == ("__debug__" : Str)) = false := by decide) (he : starEach (e :: es) X.env = (false, eval e X.env) :: starEach es X.env := by rfl) (hpl : (backTo pos (starEach es X.env)).any (·.1) = false := by rfl) :
    CE Γ X W (.Call (.Name x p) (e :: es) [] pos) (e_fn tr m am) := by
  obtain ⟨f, fd, ps, F, hb, hk, hm⟩ := G.ex
  refine PE.weak (pe_callS (E := fun σ => WE W σ) F hr hg hm hk hb go ha hdb he hpl) fun σ H Q ⟨c, env, S, r, ev, h⟩ => ?_
  refine ⟨c, env, S, r, ev, (Po.bind h).imp fun vs H1 ⟨c1, S1, ds, e1, r1, a1, h1⟩ => ?_⟩
  exact ⟨c1, S1, ds, r1, a1, (ht _ _ _ _ _ _ _ _ r1 h1).wish fun _ _ _ z => z⟩
end
end Mm
set_option maxRecDepth 100000
/-! Comprehensions over the plain data. -/
namespace Mm
open PySem L2
section
variable {w : Wn} {W : WX} {σ : St} {c c' : Cn} {H H' : Hp} {n n' : Nat} {S : Sto} {env : Env}
variable {Γ : Cls'} {X : Cx} {a b e tg : Expr} {es : List Expr} {ma mb : EM} {am : AM} {pos : Pos} {Dn : Ends}
def wipeE (env : Env) : List Nat → Env
  | [] => env
  | v :: vs => (wipeE env vs).set v none
theorem wipe_get (σ : St) : ∀ (vs : List Nat) (j : Nat), (wipe σ vs)[j]? = if j ∈ vs ∧ j < σ.length then some none else σ[j]?
  | [], j => by simp [wipe]
  | v :: vs, j => by
    unfold wipe
    by_cases e : j = v
    · subst e
      by_cases hl : j < σ.length
      · rw [List.getElem?_set_self (by rw [wipe_length]; exact hl), if_pos ⟨List.mem_cons_self, hl⟩]
      · rw [if_neg fun z => hl z.2, List.getElem?_eq_none (by rw [List.length_set, wipe_length]; omega), List.getElem?_eq_none (by omega)]
    · rw [List.getElem?_set_ne (Ne.symm e), wipe_get σ vs j]
      by_cases h : j ∈ vs ∧ j < σ.length
      · rw [if_pos h, if_pos ⟨List.mem_cons_of_mem _ h.1, h.2⟩]
      · rw [if_neg h, if_neg fun z => h ⟨by
          rcases List.mem_cons.mp z.1 with q | q
          · exact absurd q e
          · exact q, z.2⟩]
theorem R.bind_assoc {α β γ : Type} (r : R α) (f : α → Sto → R β) (g : β → Sto → R γ) : (r.bind f).bind g = r.bind fun a S => (f a S).bind g := by cases r <;> rfl
theorem wipeE_len (env : Env) : ∀ vs : List Nat, (wipeE env vs).length = env.length
  | [] => rfl
  | v :: vs => by unfold wipeE; rw [List.length_set, wipeE_len]
theorem EnvR.none {i : Nat} (h : EnvR w c H n σ env) : EnvR w c H n (σ.set i none) (env.set i none) := by
  refine ⟨by rw [List.length_set, List.length_set]; exact h.1, fun j d' q => ?_⟩
  by_cases e : j = i
  · subst e
    by_cases hl : j < env.length
    · rw [List.getElem?_set_self hl] at q; cases q
    · rw [List.getElem?_eq_none (by rw [List.length_set]; omega)] at q; cases q
  · rw [List.getElem?_set_ne (Ne.symm e)] at q ⊢
    exact h.2 j d' q
theorem EnvR.wipe (h : EnvR w c H n σ env) : ∀ vs : List Nat, EnvR w c H n (L2.wipe σ vs) (wipeE env vs)
  | [] => h
  | v :: vs => (EnvR.wipe h vs).none
theorem wipe_bt {σ σ' : St} {sl vs : List Nat} (b : Bt sl (wipe σ vs) σ') (hs : ∀ j ∈ sl, j ∈ vs) : wipe σ' vs = wipe σ vs := by
  refine List.ext_getElem? fun j => ?_
  have hl := b.1
  rw [wipe_length] at hl
  rw [wipe_get]
  by_cases h : j ∈ vs ∧ j < σ.length
  · rw [if_pos ⟨h.1, by rw [hl]; exact h.2⟩, wipe_get, if_pos h]
  · rw [if_neg fun z => h ⟨z.1, by rw [← hl]; exact z.2⟩]
    by_cases hj : j ∈ vs
    · have : ¬ j < σ.length := fun z => h ⟨hj, z⟩
      rw [List.getElem?_eq_none (by omega), List.getElem?_eq_none (by rw [wipe_length]; omega)]
    · exact b.2 j fun z => hj (hs j z)
/-- no error comes out -/
abbrev W0 : WX := fun _ _ _ _ => False
def R.nox {α : Type} (r : R α) : R α := match r with
  | .ok a S => .ok a S
  | _ => .bad
@[simp] theorem R.nox_ok {α : Type} (a : α) (S : Sto) : (R.ok a S).nox = .ok a S := rfl
theorem Po.nox {α β γ δ : Type} {rel : Cn → Hp → Nat → α → β → Prop} {rel2 : Cn → Hp → Nat → γ → δ → Prop} {r : R α} {f : α → Sto → R γ} {Q : δ → Hp → Prop} {σ' : St} {c0 : Cn} {H0 : Hp} {n0 : Nat} (e0 : Ext c0 H0 n0 c H n) (h : Po w W rel2 σ c0 H0 n0 (r.nox.bind f) Q) :
    Po w W0 rel σ' c H n r fun v H1 => ∃ c1 S1 d, Ext c H n c1 H1 S1.length ∧ Ext c0 H0 n0 c1 H1 S1.length ∧ Rep w c1 H1 S1 ∧ rel c1 H1 S1.length d v ∧ Po w W rel2 σ c0 H0 n0 (f d S1) Q := by
  cases r with
  | ok d S => exact fun c2 H2 v e2 r2 a => ⟨c2, S, d, e2, e0.trans e2, r2, a, h⟩
  | ex x S => exact h.elim
  | bad => exact h.elim
open Classical in
noncomputable def lcM (g : GM) (t : TM) (m : EM) (env : Env) (st : Option (Nat × List D)) : List D → List D → Sto → R (List D)
  | [], acc, S => .if (Stay S ([], st)) (.ok acc S)
  | d :: r, acc, S => .if (Stay S ([], st)) (match g d env with
    | none => .bad
    | some env1 => (t env1 S).nox.bind fun k S1 => if k = true then (m env1 S1).nox.bind fun y S2 => .if (acc.length < sizeLine) (lcM g t m env st r (acc ++ [y]) S2) else lcM g t m env st r acc S1)
noncomputable def e_lcG (vs : List Nat) (im : IM) (g : GM) (t : TM) (m : EM) (fin : List D → Sto → R D) : EM := fun env S => (im env S).bind fun it S1 => (lcM g t m (wipeE env vs) it.2 it.1 [] S1).bind fin
def finL (ds : List D) (S : Sto) : R D := .ok (.lst ds) S
def finN (ds : List D) (S : Sto) : R D := .ok (.loc S.length) (S ++ [.lst ds])
@[simp] theorem finL_eq (ds : List D) (S : Sto) : finL ds S = .ok (.lst ds) S := rfl
@[simp] theorem finN_eq (ds : List D) (S : Sto) : finN ds S = .ok (.loc S.length) (S ++ [.lst ds]) := rfl
noncomputable def e_lc (vs : List Nat) (im : IM) (g : GM) (t : TM) (m : EM) : EM := e_lcG vs im g t m finL
noncomputable def e_lcN (vs : List Nat) (im : IM) (g : GM) (t : TM) (m : EM) : EM := e_lcG vs im g t m finN
def t_yes : TM := fun _ S => .ok true S
@[simp] theorem t_yes_eq (env : Env) (S : Sto) : t_yes env S = .ok true S := rfl
abbrev CTs (Γ : Cls') (X : Cx) (W : WX) (es : List Expr) (m : TM) : Prop := PTs X es (mT ⟨X.K, Γ⟩ W m)
theorem PTs.weak {es : List Expr} {t t' : TT} (h : PTs X es t) (i : ∀ σ H Q, t' σ H Q → t σ H Q) : PTs X es t' := ⟨fun pins s σ H Q I q => h.run pins s σ H Q I (i σ H Q q)⟩
theorem c_tsnil : CTs Γ X W [] t_yes := PTs.weak pts_nil fun σ H Q ⟨c, env, S, r, ev, h⟩ => h c H true Ext.refl r rfl
theorem c_tsone {pm : TM} (h : CT Γ X W e pm) : CTs Γ X W [e] pm := pts_one h
/-- what fin makes of the new list at p -/
def FinOk (fin : List D → Sto → R D) : Prop := ∀ (w : Wn) (W : WX) (σ : St) (c : Cn) (H : Hp) (S : Sto) (ds : List D) (us : List V) (p : Addr) (Q : VK), Rep w c H S → Ats w c H S.length ds us → H p = some (.lst us) → (∀ k, k < S.length → c.ρ k ≠ p) → ¬ c.F p →
  ∀ (c0 : Cn) (H0 : Hp) (n0 : Nat), Ext c0 H0 n0 c H S.length → H0 p = none → PoE w W σ c0 H0 n0 (fin ds S) Q → Q (.ref p) H
theorem finL_ok : FinOk finL := by
  intro w W σ c H S ds us p Q r t hp hn hf c0 H0 n0 e h0 h
  have eA : ExtA c H S.length (c.fr p) H S.length := ⟨Nat.le_refl _, fun _ _ => rfl, fun _ z => .inl z, fun _ _ z => z, fun _ _ _ z => z, fun _ _ z => z, fun _ _ _ z => z⟩
  refine h (c.fr p) H (.ref p) ⟨e.le, e.rho, fun a f => .inl (e.fro a f), e.tup, e.frz, e.xd, e.keep, e.keepF, e.new, e.there, fun a f => ?_⟩ ⟨fun k o q => (r.obj k o q).monoA eA fun _ z => z, r.inj, fun k hk f => ?_, fun a f => ?_⟩ ?_
  · rcases f with f | rfl
    · exact e.nF a f
    · exact .inr h0
  · rcases f with f | f
    · exact r.live k hk f
    · exact hn k hk f
  · rcases f with f | rfl
    · exact r.fro a f
    · exact ⟨_, hp⟩
  · unfold At
    exact ⟨p, us, rfl, .inr rfl, hp, Ats.monoA eA _ _ t⟩
theorem finN_ok : FinOk finN := by
  intro w W σ c H S ds us p Q r t hp hn hf c0 H0 n0 e h0 h
  have hl : (S ++ [SO.lst ds]).length = S.length + 1 := by rw [List.length_append]; rfl
  have eA : ExtA c H S.length (c.nw S.length p) H (S.length + 1) := ⟨Nat.le_succ _, fun k h => Cn.nw_ne (Nat.ne_of_lt h), fun _ z => z, fun _ _ z => z, fun _ _ _ z => z, fun _ _ z => z, fun _ _ _ z => z⟩
  refine h (c.nw S.length p) H (.ref p) ?_ ⟨fun k o q => ?_, fun i j hi hj q => ?_, fun k hk f => ?_, fun a f => r.fro a f⟩ ?_
  · rw [hl]
    refine ⟨Nat.le_succ_of_le e.le, fun k hk => ?_, e.fro, e.tup, e.frz, e.xd, e.keep, e.keepF, fun k h1 h2 => ?_, e.there, e.nF⟩
    · rw [Cn.nw_ne (by have := e.le; omega)]; exact e.rho k hk
    · by_cases hk : k = S.length
      · rw [hk, Cn.nw_at]; exact h0
      · rw [Cn.nw_ne hk]; exact e.new k h1 (by omega)
  · rw [hl]
    by_cases hk : k < S.length
    · rw [List.getElem?_append_left hk] at q
      rw [Cn.nw_ne (Nat.ne_of_lt hk)]
      exact (r.obj k o q).monoA eA fun _ z => z
    · have hlt := Rep.lt q
      rw [hl] at hlt
      have ek : k = S.length := by omega
      subst ek
      rw [List.getElem?_append_right (Nat.le_refl _)] at q
      simp at q
      subst q
      rw [Cn.nw_at]
      exact ⟨us, hp, Ats.monoA eA _ _ t⟩
  · rw [hl] at hi hj
    by_cases h1 : i = S.length
    · by_cases h2 : j = S.length
      · rw [h1, h2]
      · rw [h1, Cn.nw_at, Cn.nw_ne h2] at q
        exact absurd q.symm (hn j (by omega))
    · by_cases h2 : j = S.length
      · rw [h2, Cn.nw_at, Cn.nw_ne h1] at q
        exact absurd q (hn i (by omega))
      · rw [Cn.nw_ne h1, Cn.nw_ne h2] at q
        exact r.inj i j (by omega) (by omega) q
  · rw [hl] at hk
    by_cases h1 : k = S.length
    · rw [h1, Cn.nw_at] at f; exact hf f
    · rw [Cn.nw_ne h1] at f; exact r.live k (by omega) f
  · unfold At
    exact ⟨by rw [hl]; exact Nat.lt_succ_self _, by rw [Cn.nw_at]⟩
/-- the list p aside of the store -/
structure Side (c : Cn) (H : Hp) (n : Nat) (p : Addr) : Prop where
  out : ∀ k, k < n → c.ρ k ≠ p
  nF : ¬ c.F p
theorem Side.step {p : Addr} {u : HO} (s : Side c H n p) (hp : H p = some u) (e : Ext c H n c' H' n') : Side c' H' n' p ∧ H' p = some u := by
  refine ⟨⟨fun k hk q => ?_, fun f => ?_⟩, e.keep p u hp s.out⟩
  · by_cases h : k < n
    · rw [e.rho k h] at q; exact s.out k h q
    · have := e.new k (Nat.le_of_not_lt h) hk
      rw [q, hp] at this; cases this
  · rcases e.nF p f with f | f
    · exact s.nF f
    · rw [hp] at f; cases f
open Classical in
/-- the reading of a comprehension out of its parts -/
theorem lc_read {vs : List Nat} {im : IM} {g : GM} {t : TM} {m : EM} {fin : List D → Sto → R D} {sl : List Nat} {Q : VK} (hf : FinOk fin) (hsl : ∀ j ∈ sl, j ∈ vs) (h : mE w W (e_lcG vs im g t m fin) σ H Q) :
    tLc (mI w W im) (mTg w sl g) (mT w W0 t) (mE w W0 m) vs σ H Q := by
  obtain ⟨c, env, S, r, ev, h⟩ := h
  refine ⟨c, env, S, r, ev, (Po.bind h).imp fun J H1 ⟨c1, S1, it, e1, r1, wk, h1⟩ p hp => ?_⟩
  have ev1 := (ev.mono e1).wipe vs
  have ex0 : Ext c1 H1 S1.length c1 (upd H1 p (.lst [])) S1.length := Ext.grow hp
  refine ⟨fun i m' H' => ∃ c2 S2 acc us, Ext c1 H1 S1.length c2 H' S2.length ∧ Rep w c2 H' S2 ∧ EnvR w c2 H' S2.length (wipe σ vs) (wipeE env vs) ∧ Side c2 H' S2.length p ∧ H' p = some (.lst us) ∧ Ats w c2 H' S2.length acc us ∧ m' = it.1.length - i ∧ i ≤ it.1.length ∧
      PoE w W σ c1 H1 S1.length ((lcM g t m (wipeE env vs) it.2 (it.1.drop i) acc S2).bind fin) Q,
    ⟨it.1.length, c1, S1, [], [], ex0, r1.grow hp, ev1.mono ex0, ⟨fun k hk => r1.ne hp hk, r1.nF hp⟩, upd_same, .nil, by simp, Nat.zero_le _, h1⟩, ?_⟩
  rintro i m' H' ⟨c2, S2, acc, us, e2, r2, ev2, sd, hpl, ta, rfl, hi, h2⟩
  by_cases hlt : i < it.1.length
  · right
    have hd : it.1.drop i = it.1[i] :: it.1.drop (i + 1) := List.drop_eq_getElem_cons hlt
    rw [hd] at h2
    unfold lcM at h2
    by_cases st : Stay S2 ([], it.2)
    · rw [R.if_pos st] at h2
      obtain ⟨w1, _⟩ := wk c2 H' S2 e2.A r2 (Stay.of (ds := it.1) st) i
      obtain ⟨go, yl⟩ := w1 it.1[i] (List.getElem?_eq_getElem hlt)
      refine ⟨go, fun H3 => ∃ c3 S3 acc us, Ext c1 H1 S1.length c3 H3 S3.length ∧ Rep w c3 H3 S3 ∧ EnvR w c3 H3 S3.length (wipe σ vs) (wipeE env vs) ∧ Side c3 H3 S3.length p ∧ H3 p = some (.lst us) ∧ Ats w c3 H3 S3.length acc us ∧
          PoE w W σ c1 H1 S1.length ((lcM g t m (wipeE env vs) it.2 (it.1.drop (i + 1)) acc S3).bind fin) Q,
        fun H3 ⟨c3, S3, acc, us, q1, q2, q3, q4, q5, q6, q7⟩ => ⟨it.1.length - (i + 1), by omega, c3, S3, acc, us, q1, q2, q3, q4, q5, q6, rfl, hlt, q7⟩, fun x H3 y => ?_⟩
      obtain ⟨ey, ry, ay⟩ := yl x H3 y
      cases hg : g it.1[i] (wipeE env vs) with
      | none => rw [hg] at h2; exact h2.elim
      | some env3 =>
        rw [hg] at h2
        have ev3 := ev2.mono ey
        refine ⟨c2, wipeE env vs, S2, it.1[i], env3, ry, ev3, ay, hg, fun σ3 evx bt => ⟨wipe_bt bt hsl, ?_⟩⟩
        obtain ⟨sd3, hp3⟩ := sd.step hpl ey
        have e23 := e2.trans ey
        have ta3 := ta.mono ey
        rw [R.bind_assoc] at h2
        refine ⟨c2, env3, S2, ry, evx, (Po.nox e23 h2).imp fun b H4 ⟨c4, S4, b', e4, e14, r4, eb, h4⟩ => ?_⟩
        cases (show b = b' from eb)
        obtain ⟨sd4, hp4⟩ := sd3.step hp3 e4
        cases b with
        | false => exact ⟨c4, S4, acc, us, e14, r4, ev3.mono e4, sd4, hp4, ta3.mono e4, h4⟩
        | true =>
          rw [if_pos rfl]
          rw [if_pos rfl, R.bind_assoc] at h4
          refine ⟨c4, env3, S4, r4, evx.mono e4, (Po.nox e14 h4).imp fun v H5 ⟨c5, S5, d5, e5, e15, r5, a5, h5⟩ => ?_⟩
          obtain ⟨sd5, hp5⟩ := sd4.step hp4 e5
          by_cases hl : acc.length < sizeLine
          · rw [R.if_pos hl] at h5
            have ta5 := (ta3.mono e4).mono e5
            have sA := ExtA.side (n := S5.length) (ys := us ++ [v]) hp5 sd5.nF
            refine ⟨us, hp5, by rw [ta5.len]; exact hl, c5, S5, acc ++ [d5], us ++ [v], e15.side hp hp5, r5.side hp5 sd5.nF sd5.out, ?_, ⟨sd5.out, sd5.nF⟩, upd_same, Ats.monoA sA _ _ (ta5.app (.one a5)), h5⟩
            have ev5 := (ev3.mono e4).mono e5
            exact ⟨ev5.1, fun j d q => (ev5.2 j d q).imp fun v z => ⟨z.1, At.monoA sA _ _ z.2⟩⟩
          · unfold R.if at h5
            rw [if_neg hl] at h5
            exact h5.elim
    · unfold R.if at h2
      rw [if_neg st] at h2
      exact h2.elim
  · left
    have e : i = it.1.length := by omega
    subst e
    rw [List.drop_length] at h2
    unfold lcM at h2
    by_cases st : Stay S2 ([], it.2)
    · rw [R.if_pos st] at h2
      obtain ⟨_, w2⟩ := wk c2 H' S2 e2.A r2 (Stay.of (ds := it.1) st) it.1.length
      exact ⟨w2 rfl, hf w W σ c2 H' S2 acc us p Q r2 ta hpl sd.out sd.nF c1 H1 S1.length e2 hp h2⟩
    · unfold R.if at h2
      rw [if_neg st] at h2
      exact h2.elim
theorem c_lcG {elt tg iter : Expr} {ifs : List Expr} {scope : Scope} {own : List (Str × Nat)} {im : IM} {g : GM} {t : TM} {m : EM} {fin : List D → Sto → R D} {sl : List Nat} (hf : FinOk fin) (hsl : ∀ j ∈ sl, j ∈ own.map (·.2)) (hc : X.calm = true) (hN : X.N.Nodup) (hi : CI Γ X W tg iter im) (ok : BlkOk X.N X.env.scope scope own)
    (hg : ∀ (s : Shared) (H : Hp) (C : Addr) (cl : List (Str × Addr)) (fp : List Addr), CG Γ (X.blk s H scope (compEnvC scope cl C X.env) fp) tg sl g) (ht : ∀ (s : Shared) (H : Hp) (C : Addr) (cl : List (Str × Addr)) (fp : List Addr), CTs Γ (X.blk s H scope (compEnvC scope cl C X.env) fp) W0 ifs t)
    (he : ∀ (s : Shared) (H : Hp) (C : Addr) (cl : List (Str × Addr)) (fp : List Addr), CE Γ (X.blk s H scope (compEnvC scope cl C X.env) fp) W0 elt m) (hs : ∀ x, foldedSetIterable iter X.env x = pure x := by intro _; rfl) :
    CE Γ X W (.ListComp elt [⟨tg, iter, ifs, 0⟩] scope pos) (e_lcG (own.map (·.2)) im g t m fin) :=
  PE.weak (pe_lc hc hN hi ok hg ht he hs) fun σ H Q h => lc_read hf hsl h
theorem c_setlcG {i : Nat} {y : Str} {py spos : Pos} {elt tg iter : Expr} {ifs : List Expr} {scope : Scope} {own : List (Str × Nat)} {im : IM} {g : GM} {t : TM} {m : EM} {fin : List D → Sto → R D} {sl : List Nat} (hf : FinOk fin) (hsl : ∀ j ∈ sl, j ∈ own.map (·.2)) (hc : X.calm = true) (hN : X.N.Nodup) (hy : X.N[i]? = some y) (hyl : X.env.scope.names.lookup y = some .local)
    (hsw : swapsWith (.ListComp elt [⟨tg, iter, ifs, 0⟩] scope pos) (some (.Name y py)) spos.line X.env = pure true) (hi : CI Γ X W tg iter im) (ok : BlkOk X.N X.env.scope scope own)
    (hg : ∀ (s : Shared) (H : Hp) (C : Addr) (cl : List (Str × Addr)) (fp : List Addr), CG Γ (X.blk s H scope (compEnvC scope cl C X.env) fp) tg sl g) (ht : ∀ (s : Shared) (H : Hp) (C : Addr) (cl : List (Str × Addr)) (fp : List Addr), CTs Γ (X.blk s H scope (compEnvC scope cl C X.env) fp) W0 ifs t)
    (he : ∀ (s : Shared) (H : Hp) (C : Addr) (cl : List (Str × Addr)) (fp : List Addr), CE Γ (X.blk s H scope (compEnvC scope cl C X.env) fp) W0 elt m) (hs : ∀ x, foldedSetIterable iter X.env x = pure x := by intro _; rfl) :
    CS Γ X W (.Assign [.Name y py] (.ListComp elt [⟨tg, iter, ifs, 0⟩] scope pos) spos) (s_set i (e_lcG (own.map (·.2)) im g t m fin)) := by
  refine PS.weak (ps_setLc (g := mTg ⟨X.K, Γ⟩ sl g) (tt := mT ⟨X.K, Γ⟩ W0 t) (te := mE ⟨X.K, Γ⟩ W0 m) hc hN hy hyl hsw hi ok hg ht he hs) fun Dn σ H ⟨c, env, S, r, ev, h⟩ => ?_
  refine lc_read (W := W) hf hsl ⟨c, env, S, r, ev, (PoS.part ev h).imp fun v H1 ⟨c1, S1, d1, e1, r1, a1, ev1, h1⟩ => h1 c1 H1 _ Ext.refl r1 (ev1.set a1)⟩
end
end Mm
set_option maxRecDepth 100000
/-! from TkS -/
namespace PySem
open PySem.W
section
variable {prog : Program} {w : World} {A : Around} {E : Value → Shared → Prop} {s : Shared} {K : Frag} {x C f : Addr} {ox : Obj} {od : Option Obj} {b tb : Value}
theorem tk_neBody {Q : Fin → Shared → Prop} (hu : A.units < cLine) (X : K.In s.heap) (I : InstAt s.heap x ox C od) (he : findIn K (.ref C) "__eq__" = some (some (.ref f))) (hf : isFn K (.ref f) = true)
    (h : wpAny (model prog w) A (call (.ref f) [.ref x, b]) (fun v s' => ∃ c, v = .bool c ∧ Q (.done (.ret (.bool (!c)))) s') E s) : wpAny (model prog w) A (Builtin.«object.__ne__» ⟨[.ref x, b], []⟩) Q E s := by
  have ask : wpAny (model prog w) A (callSpecialIfBound? (.ref x) (Str.ofString "__eq__") [b]) (fun r s' => ∃ c, r = some (.bool c) ∧ Q (.done (.ret (.bool (!c)))) s') E s := by
    refine ifBound_K X I he hf (wpAny_mono h (fun v s' z => ?_) fun _ _ y => y)
    obtain ⟨c, rfl, q⟩ := z
    exact ⟨c, rfl, q⟩
  unfold Builtin.«object.__ne__»
  repeat (first
    | (with_reducible refine wpAny_cRoomFor hu ?_)
    | (refine wpAny_bind (m := callSpecialIfBound? (.ref x) (Str.ofString "__eq__") [b]) (wpAny_mono ask (fun r s' z => by
        obtain ⟨c, rfl, q⟩ := z
        repeat (first | exact q | exact wpAny_pure q | exact wpAny_truthy_bool q | (refine wpAny_bind (m := truthy (.bool _)) (wpAny_truthy_bool ?_)) | wp_step)) fun _ _ y => y))
    | wp_step)
theorem tk_neCall {Q : Value → Shared → Prop} (hu : A.in1.units < cLine) (X : K.In s.heap) (I : InstAt s.heap x ox C od) (hm : mroIn K C (.type "object") = some true) (he : findIn K (.ref C) "__eq__" = some (some (.ref f))) (hf : isFn K (.ref f) = true)
    (h : wpAny (model prog w) A.in1 (call (.ref f) [.ref x, b]) (fun v s' => ∃ c, v = .bool c ∧ Q (.bool (!c)) s') E s) : wpAny (model prog w) A (call (.builtin "object.__ne__") [.ref x, b]) Q E s := by
  refine wpAny_call (codeAny_call_builtin F.cmp_object.ne.plain F.cmpEntry_ne (check_slot F.cmpKind_ne F.cmpSplit_ne (I.type.andThen (looks_mroIn X hm)) (F.cmpArgs_ne _ _) ?_))
  exact tk_neBody hu X I he hf h
theorem tk_neBound {args : List Value} {Q : Option Value → Shared → Prop} (X : K.In s.heap) (I : InstAt s.heap x ox C od) (hn : findIn K (.ref C) "__ne__" = some (some (.builtin "object.__ne__")))
    (h : wpAny (model prog w) A (call (.builtin "object.__ne__") (.ref x :: args)) (fun v => Q (some v)) E s) : wpAny (model prog w) A (callSpecialIfBound? (.ref x) "__ne__" args) Q E s := by
  simp only [callSpecialIfBound?, bindSpecialIfBound?]
  have last : wpAny (model prog w) A (call (.builtin "object.__ne__") ([.ref x] ++ args) >>= fun v => pure (some v)) Q E s := wpAny_bind (wpAny_mono h (fun v s' z => wpAny_pure z) fun _ _ z => z)
  refine wpAny_holding (wpAny_bind (wpAny_bind (wpAny_bind (I.type.here ((looks_findIn X hn).here (wpAny_bind (wpAny_askSetting (wpAny_ite ?_))))))))
  split
  · exact wpAny_bind (wpAny_of_eq (F.cmp_object.ne.bind _) (wpAny_pure (by exact last)))
  · exact wpAny_tryCatch (wpAny_bind (wpAny_of_eq (F.cmp_object.ne.bind _) (wpAny_pure (by exact last))))
theorem tk_ne {Q : Value → Shared → Prop} (hu : A.in1.units < cLine) (hu0 : A.units < cLine) (X : K.In s.heap) (I : InstAt s.heap x ox C od) (hb : Looks (model prog w) s.heap (typeOf b) tb) (hn : notFirst K C tb = true)
    (hne : findIn K (.ref C) "__ne__" = some (some (.builtin "object.__ne__"))) (hm : mroIn K C (.type "object") = some true) (he : findIn K (.ref C) "__eq__" = some (some (.ref f))) (hf : isFn K (.ref f) = true)
    (h : wpAny (model prog w) A.in1 (call (.ref f) [.ref x, b]) (fun v s' => ∃ c, v = .bool c ∧ Q (.bool (!c)) s') E s) : wpAny (model prog w) A (richCompare .NotEq (.ref x) b) Q E s := by
  have one : wpAny (model prog w) A (tryCompare (.ref x) "__ne__" b) (fun r s' => ∃ c, r = some (.bool c) ∧ Q (.bool c) s') E s := by
    unfold tryCompare
    refine wpAny_bind (tk_neBound X I hne (tk_neCall hu X I hm he hf (wpAny_mono h (fun v s' z => ?_) fun _ _ y => y)))
    obtain ⟨c, rfl, q⟩ := z
    exact ⟨c, rfl, wpAny_pure ⟨_, rfl, q⟩⟩
  unfold richCompare
  simp only [oneThing_ref]
  rw [cmpInfo_NotEq]
  dsimp only
  refine wpAny_holding (wpAny_bind (wpAny_cRoomFor hu0 (wpAny_bind (I.type.here (wpAny_bind (hb.here ?_))))))
  have fin : ∀ (r : Option Value) (s' : Shared), (∃ c, r = some (.bool c) ∧ Q (.bool c) s') → ∃ c, r = some (.bool c) ∧ Q (.bool c) s' := fun _ _ z => z
  split
  · rename_i q
    have e : subIn K tb (.ref C) = some false := by
      rcases Bool.or_eq_true_iff.mp hn with e | e
      · exact absurd q (by rw [beq_iff_eq.mp e]; simp)
      · exact beq_iff_eq.mp e
    refine wpAny_bind ((looks_subIn X e).here ?_)
    simp only [Bool.false_eq_true, if_false]
    refine wpAny_bind (wpAny_mono one (fun r s' z => ?_) fun _ _ y => y)
    obtain ⟨c, rfl, q⟩ := z
    exact wpAny_pure q
  · refine wpAny_bind (wpAny_pure ?_)
    simp only [Bool.false_eq_true, if_false]
    refine wpAny_bind (wpAny_mono one (fun r s' z => ?_) fun _ _ y => y)
    obtain ⟨c, rfl, q⟩ := z
    exact wpAny_pure q
end
end PySem
namespace L2
open PySem PySem.Spec PyProof.Rows
/-- what must stand in the class C for == and != by its own __eq__ -/
structure OwnEq (K : PySem.W.Frag) (C f : Addr) : Prop where
  eq : PySem.W.findIn K (.ref C) "__eq__" = some (some (.ref f))
  fn : PySem.W.isFn K (.ref f) = true
  ne : PySem.W.findIn K (.ref C) "__ne__" = some (some (.builtin "object.__ne__"))
  ob : PySem.W.mroIn K C (.type "object") = some true
def rOwnCmp (C : Addr) (sp : Sp) (E : XK) (neg : Bool) : R2 := fun x y H Q => ∃ a b dx dy fs gs, x = .ref a ∧ y = .ref b ∧ H a = some (.ins C dx fs) ∧ H b = some (.ins C dy gs) ∧ sp [.ref a, .ref b] H (fun v H' => ∃ c, v = .bl c ∧ Q (.bl (if neg then !c else c)) H') E
section
variable {X : Cx} {CX : CXT} {k : Nat} {C f : Addr} {fd : FuncData} {ps : List Str} {sp : Sp} {E : XK}
theorem op_eqOwn (O : OwnEq X.K C f) (F : FnOk X.prog X.w X.K X.mg X.base CX k f fd ps sp) (hr : Room k X.A) (hb : Binds X.K fd ps []) (hx : Passes CX X E) : OpR X (compareOp .Eq) (rOwnCmp C sp E false) := by
  intro pins s σ H x y u v Q I rx ry h
  obtain ⟨a, b, dx, dy, fs, gs, rfl, rfl, ha, hb', q⟩ := h
  obtain rfl : u = Value.ref a := rx
  obtain rfl : v = Value.ref b := ry
  obtain ⟨ox, od, J⟩ := ownInst I ha
  obtain ⟨oy, oe, J'⟩ := ownInst I hb'
  obtain ⟨m, hF⟩ := I.fr
  have hu : X.A.units < cLine := Nat.lt_of_le_of_lt (Nat.le_add_right _ (16 * k + 200)) (by have := hr.un; rwa [Nat.add_assoc] at this)
  show wpAny _ _ (richCompare .Eq _ _) _ _ _
  refine PySem.W.cmp_K (op := .Eq) (tb := .ref C) hu hF I.ok.mod.kin J J'.type (by simp [PySem.W.notFirst]) O.eq O.fn (thn (tk_run ⟨hr, rfl⟩ F hb hx I (.cons (show RelV (.ref a) (.ref a) from rfl) (.cons (show RelV (.ref b) (.ref b) from rfl) .nil)) q) fun r s' hq => ?_)
  obtain ⟨z, H', I', rz, c, rfl, q'⟩ := hq
  cases rz
  exact ⟨.bl c, H', I', rfl, q'⟩
theorem op_neOwn (O : OwnEq X.K C f) (F : FnOk X.prog X.w X.K X.mg X.base CX k f fd ps sp) (hr : Room (k + 1) X.A) (hb : Binds X.K fd ps []) (hx : Passes CX X E) : OpR X (compareOp .NotEq) (rOwnCmp C sp E true) := by
  intro pins s σ H x y u v Q I rx ry h
  obtain ⟨a, b, dx, dy, fs, gs, rfl, rfl, ha, hb', q⟩ := h
  obtain rfl : u = Value.ref a := rx
  obtain rfl : v = Value.ref b := ry
  obtain ⟨ox, od, J⟩ := ownInst I ha
  obtain ⟨oy, oe, J'⟩ := ownInst I hb'
  have hu : X.A.units < cLine := Nat.lt_of_le_of_lt (Nat.le_add_right _ (16 * (k + 1) + 200)) (by have := hr.un; rwa [Nat.add_assoc] at this)
  have hu1 : X.A.in1.units < cLine := Nat.lt_of_le_of_lt (Nat.le_add_right _ (16 * k + 200)) (by have := hr.in1.un; rwa [Nat.add_assoc] at this)
  show wpAny _ _ (richCompare .NotEq _ _) _ _ _
  refine tk_ne (tb := .ref C) hu1 hu I.kIn J J'.type (by simp [PySem.W.notFirst]) O.ne O.ob O.eq O.fn (thn (tk_run ⟨hr.in1, rfl⟩ F hb hx I (.cons (show RelV (.ref a) (.ref a) from rfl) (.cons (show RelV (.ref b) (.ref b) from rfl) .nil)) q) fun r s' hq => ?_)
  obtain ⟨z, H', I', rz, c, rfl, q'⟩ := hq
  cases rz
  exact ⟨c, rfl, .bl (!c), H', I', rfl, q'⟩
end
end L2
/-! from k03/TkX -/
namespace L2
open PySem PySem.Spec PyProof.Rows
/-! ### a class's own methods, where an error may come out -/
section
variable {X : Cx} {CX : CXT} {k n : Nat} {C f : Addr} {fd : FuncData} {ps : List Str} {sp : Sp} {E : St → XK}
theorem tk_runS {A : Around} {pins : List (Addr × Obj)} {σ : St} {H : Hp} {s : Shared} {Q : VK} {us : List Value} {vs : List V} (sb : Sub X k A) (F : FnOk X.prog X.w X.K X.mg X.base CX k f fd ps sp) (hb : Binds X.K fd ps []) (hx : PassesAt CX X σ (E σ))
    (I : Inv X pins σ H s) (r : Vals vs us) (h : sp vs H Q (E σ)) : wpAny (model X.prog X.w) A (call (.ref f) us) (EP X pins σ Q) X.xe s := by
  have e := I.env0
  have e0 : Env0 X.prog X.w X.K X.mg X.base A X.stack s H := ⟨by rw [sb.fr]; exact e.frames, e.mod, e.bs, e.bsz, e.funs, e.frf, e.hok, e.bare⟩
  have hl : us.length = ps.length := r.length.symm.trans (F.len _ _ _ _ h)
  have bd := hb s us I.kIn (by simpa using hl)
  refine wpAny_call (codeAny_mono (F.run A X.stack s H ⟨us, []⟩ us vs Q (E σ) sb.room e0 (by simpa using bd) r h) fun res s' hq => ?_)
  match res, hq with
  | .error e, hq => exact hx pins H s e s' I hq
  | .ok (.ret u), hq => exact I.after hq
/-- o[i] by the class's own __getitem__, which may raise -/
def tIxS (C : Addr) (sp : Sp) (E : St → XK) (ta tb : TE) : TE := fun σ H Q => ta σ H fun x H1 => tb σ H1 fun y H2 => rOwn2 C sp (E σ) x y H2 Q
theorem ix_ownS {value slice : Expr} (M : OwnM X.K C "__getitem__" f) (hf : PySem.W.fnIn X.K f = true) (F : FnOk X.prog X.w X.K X.mg X.base CX k f fd ps sp) (hr : Room (k + 1) X.A) (hb : Binds X.K fd ps []) (hx : ∀ σ, PassesAt CX X σ (E σ))
    {a b : Expr} {ta tb : TE} {pos : Pos} (ha : PE X a ta) (hb2 : PE X b tb) (hs : ∀ o i, subscripted b true o i = runValue (.builtin "lifetime.subscript" ⟨[o, i], []⟩)) : PE X (.Subscript a b pos) (tIxS C sp E ta tb) := by
  refine ⟨fun pins s σ H Q I h => ?_⟩
  refine Subscript_ (binT ha hb2 I h fun v u s2 x y H2 I2 rx ry q => ?_)
  obtain ⟨p, dx, fs, rfl, hp, q⟩ := q
  obtain rfl : v = Value.ref p := rx
  obtain ⟨ox, od, J⟩ := ownInst I2 hp
  obtain ⟨m, hF⟩ := I2.fr
  refine PySem.W.sub_K hF I2.ok.mod.kin J M.at_ hf M.fn ?_ (hs _ _)
  exact tk_runS ⟨hr.in1, rfl⟩ F hb (hx σ) I2 (.cons (show RelV (.ref p) (.ref p) from rfl) (.cons ry .nil)) q
end
/-! ### an error class with one field -/
structure Ecl (K : PySem.W.Frag) (mg : Str → Option Value) (nm f : Str) (C fI : Addr) : Prop where
  gC : mg nm = some (.ref C)
  ox : OexC K C
  iC : PySem.W.findIn K (.ref C) "__init__" = some (some (.ref fI))
  tI : PySem.W.typeIn K (.ref fI) = some (.type "function")
  noF : PySem.W.findIn K (.ref C) f = some none
  xf : XfC K C
  cl : (PySem.W.clsIn K C).isSome = true
  ha : PySem.W.findIn K (.ref C) "__class__" = some (some (.builtin "object.__class__"))
  hn : PySem.W.specialIn K (.builtin "object.__class__") "__get__" = some (some (.builtin "getset_descriptor.__get__"))
  ht : PySem.W.takesIn K (.builtin "object.__class__") = some true
  hm : PySem.W.mroIn K C (.type "object") = some true
  te : PySem.W.exmOne K (.ref C) (.ref C) = some true
/-- what such an __init__ promises -/
def spEI (C : Addr) (f : Str) : Sp := fun vs H Q _ => ∃ (a : Addr) (v : V), vs = [.ref a, v] ∧ H a = some (exo a C none) ∧ ∀ dx, H dx = none → dx ≠ a → Q .non (upd (upd H dx (exd dx [(f, v)])) a (exo a C (some dx)))
/-- raise C(e) -/
theorem ps_raise1 {X : Cx} {W : WX} {nm f : Str} {C fI : Addr} {fd : FuncData} {ps : List Str} {e : Expr} {es : List Expr} {ta : TA} {p pos ppos : Pos} (hc : X.calm = true) (tk : Takes X W) (T : Ecl X.K X.mg nm f C fI) (F1 : FnOk X.prog X.w X.K X.mg X.base CX0 1 fI fd ps (spEI C f)) (hr : Room 2 X.A) (hb : Binds X.K fd ps [])
    (hg : Gl X nm) (ha : PA X (e :: es) ta) (hdb : (nm == ("__debug__" : Str)) = false := by decide) (he : starEach (e :: es) X.env = (false, eval e X.env) :: starEach es X.env := by rfl) (hpl : (backTo pos (starEach es X.env)).any (·.1) = false := by rfl) :
    PS X (.Raise (some (.Call (.Name nm p) (e :: es) [] pos)) none ppos) (fun _ σ H => tMkO C (spEI C f) [] ta σ H fun cls d H' => W cls d σ H') :=
  ps_raise (pos := ppos) hc tk (pmk_oex T.ox T.iC T.tI F1 hr hb .nil pass0 hg T.gC ha hdb he hpl)
theorem made1 {C : Addr} {f : Str} {v : V} {H1 : Hp} {Q : XK} (q : ∀ d, H1 d = none → Q (.ref C) (some d) (upd H1 d (.xd [(f, v)]))) : [v].length ≤ 1000 ∧ ∀ a, H1 a = none → spEI C f (.ref a :: ([v] ++ [])) (upd H1 a (exo a C none))
    (fun v H2 => v = .non ∧ ∃ (d : Addr) (fs : List (Str × V)), H2 a = some (exo a C (some d)) ∧ H2 d = some (exd d fs) ∧ H1 d = none ∧ Q (.ref C) (some d) (upd (del H2 a) d (.xd fs))) (fun _ _ _ => False) := by
  refine ⟨(by show 1 ≤ 1000; decide), fun a ha => ⟨a, v, rfl, upd_same, fun dx hd ne => ⟨rfl, dx, _, upd_same, by rw [upd_ne ne, upd_same], by rw [upd_ne ne] at hd; exact hd, ?_⟩⟩⟩
  have hd' : H1 dx = none := by rw [upd_ne ne] at hd; exact hd
  have e : upd (del (upd (upd (upd H1 a (exo a C none)) dx (exd dx [(f, v)])) a (exo a C (some dx))) a) dx (.xd [(f, v)]) = upd H1 dx (.xd [(f, v)]) := by
    funext b
    by_cases h1 : b = dx
    · rw [h1, upd_same, upd_same]
    · rw [upd_ne h1, upd_ne h1]
      by_cases h2 : b = a
      · rw [h2, del_same, ha]
      · rw [del_ne h2, upd_ne h2, upd_ne h1, upd_ne h2]
  rw [e]
  exact q dx hd'
/-- isinstance(e, c), e the caught error with its dict -/
def rIsX (K : PySem.W.Frag) (a : Addr) (cls : Value) (d : Option Addr) (D : Addr) : List V → Hp → VK → Prop := fun xs H Q => ∃ (c : V) (cv : Value) (b : Bool) (dd : Addr) (fs : List (Str × V)), cls = .ref D ∧ d = some dd ∧ H dd = some (.xd fs) ∧ xs = [.ref a, c] ∧ (∀ u, RelV c u → u = cv) ∧ PySem.W.kitOne K (.ref D) cv = some b ∧ Q (.bl b) H
theorem call_isX {X : Cx} {a D : Addr} {cls : Value} {d : Option Addr} {nm f : Str} {fI : Addr} {mg : Str → Option Value} {oe : Obj} {pn : List (Addr × Obj)} (T : Ecl X.K mg nm f D fI) (hz : Zc cls d oe) (hf : ∃ vs, oe.data = .fields vs) :
    CallR (X.suite a ((a, oe) :: pn)) (.builtin "isinstance") (rIsX X.K a cls d D) := by
  rintro pins s σ H xs us Q I r ⟨c, cv, b, dd, fs, rfl, rfl, ea, rfl, hcv, e, q⟩
  obtain ⟨u1, u2, rfl, r1, r2⟩ : ∃ u1 u2, us = [u1, u2] ∧ RelV (.ref a) u1 ∧ RelV c u2 := by
    cases r with
    | cons p1 t1 => cases t1 with
      | cons p2 t2 => cases t2; exact ⟨_, _, rfl, p1, p2⟩
  obtain rfl : u1 = Value.ref a := r1
  rw [hcv u2 r2]
  have own := (I.pin (a, oe) (List.mem_append_left _ List.mem_cons_self)).1
  obtain ⟨vs, isF⟩ := hf
  obtain ⟨mA, named, _⟩ := show ObjOk X.prog X.w H s.heap dd (.xd fs) from I.hok dd _ ea
  obtain ⟨od, at_, _⟩ := lookIn_ns named
  have J : PySem.W.InstAt s.heap a oe D (some od) := by
    refine ⟨own, hz.1, ?_, by rw [hz.2]; exact at_⟩
    unfold PySem.W.notCls
    rw [isF] <;> rfl
  have kit := PySem.W.kitx_exc (x := a) (ox := oe) (od := some od) T.cl T.xf.ga T.xf.gg T.xf.exC T.ha T.hn T.ht T.hm
  exact PySem.W.kia_one kit I.kIn J e (fun z => nomatch z) fun tk => ⟨.bl b, H, I.kept (t' := tk) fun _ _ z => z, rfl, q⟩
/-- x == x, for data and for empty dicts -/
def Slf (K : PySem.W.Frag) (H : Hp) (v : V) : Prop := (∃ d, Dp K H v d ∧ SeqAt.shaped d = true ∧ PyData.eqv d d = true) ∨ ∃ a, v = .ref a ∧ H a = some (.dK [])
def rSlf (K : PySem.W.Frag) : R2 := fun x y H Q => x = y ∧ Slf K H x ∧ Q (.bl true) H
theorem op_slf {X : Cx} (hu : X.A.units + 64 < cLine) : OpR X (compareOp .Eq) (rSlf X.K) := by
  intro pins s σ H x y v u Q I rx ry h
  obtain ⟨rfl, h, q⟩ := h
  rcases h with ⟨d, h1, h2, h3⟩ | ⟨a, rfl, h⟩
  · exact op_eqD hu pins s σ H x x v u Q I rx ry ⟨d, d, h1, h1, h2, h2, by rw [h3]; exact q⟩
  · exact op_eqV hu pins s σ H _ _ v u Q I rx ry ⟨1, by decide, .inr ⟨a, a, [], [], rfl, rfl, h, h, rfl, fun p hp => nomatch hp⟩, q⟩
end L2
/-! from k02/TkDe -/
namespace L2
open PySem PySem.Spec PyProof.Rows
/-- what an __init__(self, place, why) of an error class promises -/
def spEI2 (C : Addr) : Sp := fun vs H Q _ => ∃ (a : Addr) (v w : V), vs = [.ref a, v, w] ∧ H a = some (exo a C none) ∧ ∀ dx, H dx = none → dx ≠ a → Q .non (upd (upd (upd H dx (exd dx [("place", v)])) a (exo a C (some dx))) dx (exd dx [("why", w), ("place", v)]))
theorem ps_raise2 {X : Cx} {W : WX} {nm f : Str} {C fI : Addr} {fd : FuncData} {ps : List Str} {e : Expr} {es : List Expr} {ta : TA} {p pos ppos : Pos} (hc : X.calm = true) (tk : Takes X W) (T : Ecl X.K X.mg nm f C fI) (F1 : FnOk X.prog X.w X.K X.mg X.base CX0 1 fI fd ps (spEI2 C)) (hr : Room 2 X.A) (hb : Binds X.K fd ps [])
    (hg : Gl X nm) (ha : PA X (e :: es) ta) (hdb : (nm == ("__debug__" : Str)) = false := by decide) (he : starEach (e :: es) X.env = (false, eval e X.env) :: starEach es X.env := by rfl) (hpl : (backTo pos (starEach es X.env)).any (·.1) = false := by rfl) :
    PS X (.Raise (some (.Call (.Name nm p) (e :: es) [] pos)) none ppos) (fun _ σ H => tMkO C (spEI2 C) [] ta σ H fun cls d H' => W cls d σ H') :=
  ps_raise (pos := ppos) hc tk (pmk_oex T.ox T.iC T.tI F1 hr hb .nil pass0 hg T.gC ha hdb he hpl)
theorem made2 {C : Addr} {v w : V} {H1 : Hp} {Q : XK} (q : ∀ d, H1 d = none → Q (.ref C) (some d) (upd H1 d (.xd [("why", w), ("place", v)]))) : [v, w].length ≤ 1000 ∧ ∀ a, H1 a = none → spEI2 C (.ref a :: ([v, w] ++ [])) (upd H1 a (exo a C none))
    (fun v H2 => v = .non ∧ ∃ (d : Addr) (fs : List (Str × V)), H2 a = some (exo a C (some d)) ∧ H2 d = some (exd d fs) ∧ H1 d = none ∧ Q (.ref C) (some d) (upd (del H2 a) d (.xd fs))) (fun _ _ _ => False) := by
  refine ⟨(by show 2 ≤ 1000; decide), fun a ha => ⟨a, v, w, rfl, upd_same, fun dx hd ne => ⟨rfl, dx, _, (by rw [upd_ne ne.symm, upd_same]), upd_same, by rw [upd_ne ne] at hd; exact hd, ?_⟩⟩⟩
  have hd' : H1 dx = none := by rw [upd_ne ne] at hd; exact hd
  have e : upd (del (upd (upd (upd (upd H1 a (exo a C none)) dx (exd dx [("place", v)])) a (exo a C (some dx))) dx (exd dx [("why", w), ("place", v)])) a) dx (.xd [("why", w), ("place", v)]) = upd H1 dx (.xd [("why", w), ("place", v)]) := by
    funext b
    by_cases h1 : b = dx
    · rw [h1, upd_same, upd_same]
    · rw [upd_ne h1, upd_ne h1]
      by_cases h2 : b = a
      · rw [h2, del_same, ha]
      · rw [del_ne h2, upd_ne h1, upd_ne h2, upd_ne h1, upd_ne h2]
  rw [e]
  exact q dx hd'
end L2
/-! from k02/TkMX -/
namespace L2
open PySem PySem.Spec PyProof.Rows
section
variable {X : Cx} {CX : CXT} {k : Nat} {f C : Addr} {fd : FuncData} {ps : List Str} {sp : Sp} {E : St → XK} {m : Str} {pos apos : Pos} {e o : Expr} {es : List Expr} {ta : TE} {t : TA}
/-- o.m(e, ..), where an error may come out, as the wish at these slots says -/
def tMethXS (C : Addr) (m : Str) (sp : Sp) (E : St → XK) (ta : TE) (t : TA) : TE := fun σ H Q => ta σ H fun x H1 => ∃ a dx fs, x = .ref a ∧ H1 a = some (.ins C dx fs) ∧ fs.lookup m = none ∧ t σ H1 fun vs H2 => sp (x :: vs) H2 Q (E σ)
abbrev mcall (X : Cx) (o : Expr) (m : Str) (apos pos : Pos) (es : List Expr) (pl : Sem Bool) : Sem Value := (do let ov ← eval o X.env; standAt apos.atName; let (g, one) ← holding [ov] (getMethod ov m pl); callWith pos g one (backTo pos (starEach es X.env)) (backToKw pos (keywordEach [] X.env)))
theorem pe_methXS {pl : Sem Bool} (he : PE X o ta) (c : Cls X.K C) (hm : Meth X.K C m f) (F : FnOk X.prog X.w X.K X.mg X.base CX k f fd ps sp) (hr : Room k X.A) (hb : Binds X.K fd ps []) (hx : ∀ σ, PassesAt CX X σ (E σ)) (ha : PA X (e :: es) t)
    (ht : eval (.Call (.Attribute o m apos) (e :: es) [] pos) X.env = mcall X o m apos pos (e :: es) pl := by rfl) (h1 : starEach (e :: es) X.env = (false, eval e X.env) :: starEach es X.env := by rfl) (h2 : (backTo pos (starEach es X.env)).any (·.1) = false := by rfl) :
    PE X (.Call (.Attribute o m apos) (e :: es) [] pos) (tMethXS C m sp E ta t) := by
  constructor
  intro pins s σ H Q I h
  refine PySem.W.methodCall_KW (pl := pl) (thn (he.run pins s σ H _ I h) fun u s1 q => ?_) ht
  obtain ⟨_, H1, I1, ru, a, dx, fs, rfl, ea, l, q⟩ := q
  have eu : u = Value.ref a := ru
  subst eu
  refine getmeth_ok I1 ea c hm l (PySem.W.callWith_K (first := [.ref a]) (h₀ := X.base) I.ok.mod.kin hm.kp (thn (ha.run pos pins s1 σ H1 _ I1 q) fun us s2 q2 => ?_) h1 h2)
  obtain ⟨vs, H2, I2, r, q2⟩ := q2
  exact ⟨I2.kIn, run_fnS (us := .ref a :: us) (vs := .ref a :: vs) F hr hb (hx σ) I2 (.cons rfl r) q2⟩
end
end L2
/-! from k02/TkNS -/
namespace L2
open PySem PySem.Spec PyProof.Rows
/-- a != b, two tuples of the very same items -/
def rNeS (K : PySem.W.Frag) : R2 := fun x y H Q => ∃ (a b : Addr) (xs : List V), x = .ref a ∧ y = .ref b ∧ SqT K H a xs ∧ SqT K H b xs ∧ (∀ v ∈ xs, flatB v = true ∨ ∃ c, v = .ref c) ∧ Q (.bl false) H
theorem same_items {A : Around} {s : Shared} {xs : List V} : ∀ {us ws : List Value}, Vals xs us → Vals xs ws → (∀ v ∈ xs, flatB v = true ∨ ∃ c, v = .ref c) → ∀ j (h1 : j < us.length) (h2 : j < ws.length), SeqAt.EqAt A s us[j] ws[j] true := by
  induction xs with
  | nil => intro us ws r1 r2 hf j h1 h2; cases r1; exact absurd h1 (Nat.not_lt_zero j)
  | cons x r ih =>
    intro us ws r1 r2 hf j h1 h2
    cases r1 with
    | cons a1 b1 =>
      cases r2 with
      | cons a2 b2 =>
        cases j with
        | zero =>
          rcases hf x List.mem_cons_self with f | ⟨c, rfl⟩
          · exact eqAt_same a1 a2 f
          · cases (show _ = Value.ref c from a1)
            cases (show _ = Value.ref c from a2)
            exact SeqAt.EqAt.same _
        | succ j => exact ih b1 b2 (fun v m => hf v (List.mem_cons_of_mem _ m)) j (Nat.lt_of_succ_lt_succ h1) (Nat.lt_of_succ_lt_succ h2)
theorem op_neS {X : Cx} (hu : X.A.units < cLine) : OpR X (compareOp .NotEq) (rNeS X.K) := by
  intro pins s σ H x y v u Q I rx ry h
  obtain ⟨a, b, xs, rfl, rfl, ha, hb, hf, q⟩ := h
  obtain rfl : v = Value.ref a := rx
  obtain rfl : u = Value.ref b := ry
  obtain ⟨us, r1, p1, _⟩ := I.tuple ha
  obtain ⟨ws, r2, p2, _⟩ := I.tuple hb
  have hl : us.length = ws.length := by rw [← r1.length, ← r2.length]
  have z := SeqAt.RcNeAt.tuples (A := X.A) (s := s) (e := fun _ => true) (l := a) (b := b) (items := us.toArray) (items2 := ws.toArray) p1 p2 hu (fun j h1 h2 => by
    have k := same_items (A := X.A.in1) (s := s) r1 r2 hf j (by simpa using h1) (by simpa using h2)
    simpa using k)
  have e : (!((List.range (min us.toArray.size ws.toArray.size)).all (fun _ => true) && us.toArray.size == ws.toArray.size)) = false := by
    rw [show ((List.range (min us.toArray.size ws.toArray.size)).all fun _ => true) = true from List.all_eq_true.mpr fun _ _ => rfl]
    simp [hl]
  rw [e] at z
  exact z X.prog X.w _ _ ⟨.bl false, H, I, rfl, q⟩
/-! ### C(e, ..) where an error may come out of its __init__, as the wish at these slots says -/
def tMakeS (C : Addr) (sp : Sp) (E : St → XK) (t : TA) : TE := fun σ H Q => t σ H fun vs H1 => ∀ x dx, H1 x = none → H1 dx = none → dx ≠ x → sp (.ref x :: vs) (upd (upd H1 dx (.own x)) x (.ins C dx [])) (fun v H2 => v = .non ∧ Q (.ref x) H2) (E σ)
theorem pe_makeS {X : Cx} {CX : CXT} {k : Nat} {C f : Addr} {fd : FuncData} {ps : List Str} {sp : Sp} {E : St → XK} {x : Str} {p pos : Pos} {e : Expr} {es : List Expr} {t : TA} (M : Mk X.K C f) (F : FnOk X.prog X.w X.K X.mg X.base CX k f fd ps sp) (hr : Room (k + 1) X.A) (hg : Gl X x) (hm : X.mg x = some (.ref C)) (hb : Binds X.K fd ps []) (hx : ∀ σ, PassesAt CX X σ (E σ))
    (ha : PA X (e :: es) t) (hdb : (x == ("__debug__" : Str)) = false := by decide) (he : starEach (e :: es) X.env = (false, eval e X.env) :: starEach es X.env := by rfl) (hpl : (backTo pos (starEach es X.env)).any (·.1) = false := by rfl) :
    PE X (.Call (.Name x p) (e :: es) [] pos) (tMakeS C sp E t) := by
  constructor
  intro pins s σ H Q I h
  refine wpAny_Call_Name_kw (ld_glob I hg hm ?_ hdb)
  refine PySem.W.callWith_K (h₀ := X.base) I.ok.mod.kin M.kp (thn (ha.run pos pins s σ H _ I h) fun us s1 z => ?_) he hpl
  obtain ⟨vs, H1, J, r, q⟩ := z
  refine ⟨J.kIn, ?_⟩
  have q1 := q (s1.heap.objs.size + 1) s1.heap.objs.size (J.hok.fresh (Nat.le_succ _)) (J.hok.fresh (Nat.le_refl _)) (Nat.ne_of_lt (Nat.lt_succ_self _))
  have J2 := Inv.made (C := C) J
  have rr : Vals (V.ref (s1.heap.objs.size + 1) :: vs) (Value.ref (s1.heap.objs.size + 1) :: us) := .cons rfl r
  have hl : (Value.ref (s1.heap.objs.size + 1) :: us ++ []).length = ps.length := by
    rw [List.append_nil, ← rr.length]; exact F.len _ _ _ _ q1
  have bd := hb _ (Value.ref (s1.heap.objs.size + 1) :: us) J2.kIn hl
  rw [List.append_nil] at bd
  refine wpAny_call (make_map (f := f) J.kIn M.makes M.init (beq_iff_eq.mp M.fn) (codeAny_mono (F.run _ X.stack _ _ ⟨Value.ref (s1.heap.objs.size + 1) :: us, []⟩ _ _ _ (E σ) (hr.make C us []) (J2.env0.make C us []) bd rr q1) fun res s' hq => ?_))
  match res, hq with
  | .error err, hq => exact hx σ pins _ _ err s' J2 hq
  | .ok (.ret u), hq =>
    obtain ⟨v, H', J3, rv, ev, q3⟩ := J2.after hq
    subst ev
    exact ⟨rv, ⟨V.ref (s1.heap.objs.size + 1), H', J3, rfl, q3⟩⟩
end L2
/-! from k06/TkKS -/
namespace L2
open PySem PySem.Spec PyProof.Rows
/-- C(e, .., k = v, ..), where an error may come out of its __init__, as the wish at these slots says -/
def tMakeKS (C : Addr) (n m : Nat) (sp : Sp) (gV : List V → List V → List V) (E : St → XK) (t tk : TA) : TE := fun σ H Q => t σ H fun vs H1 => tk σ H1 fun zs H2 => vs.length = n ∧ zs.length = m ∧ ∀ x dx, H2 x = none → H2 dx = none → dx ≠ x →
  sp (gV (.ref x :: vs) zs) (upd (upd H2 dx (.own x)) x (.ins C dx [])) (fun v H3 => v = .non ∧ Q (.ref x) H3) (E σ)
section
variable {X : Cx} {CX : CXT} {k n : Nat} {f C : Addr} {fd : FuncData} {ps ks : List Str} {sp : Sp} {E : St → XK} {x : Str} {p pos : Pos} {e : Expr} {es : List Expr} {kws : List Keyword} {t tk : TA} {g : List Value → List Value → List Value} {gV : List V → List V → List V}
theorem run_makeKS {pins : List (Addr × Obj)} {σ : St} {H : Hp} {s : Shared} {Q : VK} {us ws : List Value} {vs zs : List V} {E : XK} (M : Mk X.K C f) (F : FnOk X.prog X.w X.K X.mg X.base CX k f fd ps sp) (hr : Room (k + 1) X.A) (hb : KBn X.K fd ps (n + 1) ks g gV) (hx : PassesAt CX X σ E)
    (I : Inv X pins σ H s) (r : Vals vs us) (rz : Vals zs ws) (l1 : vs.length = n) (l2 : zs.length = ks.length)
    (h : ∀ x dx, H x = none → H dx = none → dx ≠ x → sp (gV (.ref x :: vs) zs) (upd (upd H dx (.own x)) x (.ins C dx [])) (fun v H2 => v = .non ∧ Q (.ref x) H2) E) :
    wpAny (model X.prog X.w) X.A (call (.ref C) us (ks.zip ws)) (EP X pins σ Q) X.xe s := by
  have hq := h (s.heap.objs.size + 1) s.heap.objs.size (I.hok.fresh (Nat.le_succ _)) (I.hok.fresh (Nat.le_refl _)) (Nat.ne_of_lt (Nat.lt_succ_self _))
  have I2 := Inv.made (C := C) I
  have r1 : Vals (V.ref (s.heap.objs.size + 1) :: vs) (Value.ref (s.heap.objs.size + 1) :: us) := .cons rfl r
  have r2 := hb.rel r1 rz
  have n1 : (Value.ref (s.heap.objs.size + 1) :: us).length = n + 1 := by
    rw [List.length_cons, ← r.length, l1]
  refine wpAny_call (make_map (f := f) I.kIn M.makes M.init (beq_iff_eq.mp M.fn) (codeAny_mono (F.run _ X.stack _ _ ⟨Value.ref (s.heap.objs.size + 1) :: us, ks.zip ws⟩ (g (Value.ref (s.heap.objs.size + 1) :: us) ws) _ _ E (hr.make C us (ks.zip ws))
    (I2.env0.make C us (ks.zip ws)) (hb.to _ (Value.ref (s.heap.objs.size + 1) :: us) ws I2.kIn n1 (rz.length.symm.trans l2)) r2 hq) fun r s' hq' => ?_))
  cases r with
  | error e => exact hx pins _ _ e s' I2 hq'
  | ok fl =>
    cases fl with
    | ret u =>
      obtain ⟨v, H', I3, rv, ev, q3⟩ := I2.after hq'
      subst ev
      exact ⟨rv, ⟨V.ref (s.heap.objs.size + 1), H', I3, rfl, q3⟩⟩
    | next => exact False.elim hq'
    | brk => exact False.elim hq'
    | cont => exact False.elim hq'
theorem pe_makeKS (M : Mk X.K C f) (F : FnOk X.prog X.w X.K X.mg X.base CX k f fd ps sp) (hr : Room (k + 1) X.A) (hg : Gl X x) (hm : X.mg x = some (.ref C)) (hb : KBn X.K fd ps (n + 1) ks g gV) (hx : ∀ σ, PassesAt CX X σ (E σ)) (ha : PA X (e :: es) t) (hkw : PK X kws tk)
    (hall : (backToKw pos (keywordEach kws X.env)).all (·.1.isSome) = true := by rfl) (hks : (backToKw pos (keywordEach kws X.env)).filterMap (·.1) = ks := by rfl) (hdb : (x == ("__debug__" : Str)) = false := by decide)
    (he : starEach (e :: es) X.env = (false, eval e X.env) :: starEach es X.env := by rfl) (hpl : ((backTo pos (starEach (e :: es) X.env)).any (·.1) || (backToKw pos (keywordEach kws X.env)).any (·.1.isNone)) = false := by rfl) :
    PE X (.Call (.Name x p) (e :: es) kws pos) (tMakeKS C n ks.length sp gV E t tk) := by
  refine ⟨fun pins s σ H Q I h => ?_⟩
  refine wpAny_Call_Name_kw (ld_glob I hg hm ?_ hdb)
  refine PySem.W.callWith_KW (h₀ := X.base) I.ok.mod.kin M.kp hall (thn (ha.run pos pins s σ H _ I h) fun us s1 ⟨vs, H1, I1, r, q⟩ => ?_) hpl he
  refine thn (hkw.run pos pins s1 σ H1 _ I1 q) fun ws s2 ⟨zs, H2, I2, rz, l1, l2, q2⟩ => ⟨I2.kIn, ?_⟩
  rw [hks]
  exact run_makeKS M F hr hb (hx σ) I2 r rz l1 l2 q2
end
end L2
/-! from k07/TkSK -/
namespace StK
open PySem PySem.Spec PyProof.Rows L2 StX
/-- what the reading of defaults leaves to do -/
def KwTail {α : Type} (D : Addr) : List (Str × Value) → Sem α → Sem α → Prop
  | [], t, r => t = r
  | q :: l, t, r => ∃ (β γ : Type) (k1 : Option Value → Sem β) (k2 : β → Sem γ) (k3 : γ → Sem α) (a : β), t = ((nsGet D q.1 >>= k1) >>= k2) >>= k3 ∧ k1 (some q.2) = pure a ∧ KwTail D l (k2 a >>= k3) r
theorem KwTail.wp {α : Type} {K : PySem.W.Frag} {M : Model} {A : Around} {s : Shared} {D : Addr} {Q : α → Shared → Prop} {E : Value → Shared → Prop} (X : K.In s.heap) : ∀ {l : List (Str × Value)} {t r : Sem α}, (∀ q ∈ l, PySem.W.nsIn K D q.1 = some (some q.2)) → KwTail D l t r → wpAny M A r Q E s → wpAny M A t Q E s
  | [], t, r, _, e, h => by
    rw [show t = r from e]; exact h
  | q :: l, t, r, hl, e, h => by
    obtain ⟨β, γ, k1, k2, k3, a, e1, e2, e3⟩ := e
    have l1 : PySem.W.Looks M s.heap (nsGet D q.1 >>= k1) a := (PySem.W.looks_nsIn X (hl q (List.mem_cons_self ..))).andThen (PySem.W.Looks.of_pure e2)
    rw [e1, bind_assoc]
    exact wpAny_bind (l1.here (KwTail.wp X (fun p hp => hl p (List.mem_cons_of_mem _ hp)) e3 h))
/-- a def that is called with the keywords ks -/
def FnRK (P : Program) (w : World) (K : PySem.W.Frag) (mg : Str → Option Value) (base : Heap) (CX : CXT) (k : Nat) (f : Addr) (ks : List Str) (sp : List V → Sp) : Prop :=
  ∀ (A : Around) (outer : List Env) (s : Shared) (H : Hp) (us ws : List Value) (vs zs : List V) (Q : VK) (E : XK), Room k A → Env0 P w K mg base A outer s H → Vals vs us → Vals zs ws → zs.length = ks.length → sp zs vs H Q E →
    codeAny (model P w) A (.call (.ref f) ⟨us, ks.zip ws⟩) (CR CX outer P w H s Q E) s
section
variable {CX : CXT} {P : Program} {w : World} {K : PySem.W.Frag} {mg : Str → Option Value} {base : Heap} {k n : Nat} {f D : Addr} {name qual : Str} {params : Arguments} {body : List Stmt} {scope : Scope} {doc pm cdv ct oc : Value} {an od : Option Addr}
  {osl : Array (Option Value)} {N ps ks : List Str} {ms : List (Str × V)} {sp : Sp} {pv : Str}
theorem fn_starK (lk : K.lookup f = some ⟨oc, od, .func (PySem.W.fnOf name qual params body scope .none (.ref D) doc pm an cdv ct), osl⟩) (hcd : PySem.W.codeIn K cdv qual = true) (S : FnScope N (ps ++ [pv]) scope) (hCX : CXUp CX)
    (hms : ∀ q ∈ ms, ∃ u, PySem.W.nsIn K D q.1 = some (some u) ∧ RelV q.2 u) (g : {α : Type} → List α → List α → List α → List α)
    (hrel : ∀ {vs mz zs : List V} {us mv ws : List Value}, Vals vs us → Vals mz mv → Vals zs ws → Vals (g vs mz zs) (g us mv ws))
    (hlen : ∀ {α : Type} (us mv ws : List α), us.length = n → mv.length = ms.length → ws.length = ks.length → (g us mv ws).length = ps.length)
    (hb : ∀ us rest mv ws : List Value, us.length = n → mv.length = ms.length → ws.length = ks.length → KwTail D ((ms.map (·.1)).zip mv) (bindArgs (PySem.W.fnOf name qual params body scope .none (.ref D) doc pm an cdv ct) ⟨us ++ rest, ks.zip ws⟩) (newTuple rest >>= fun t => pure (ps.zip (g us mv ws) ++ [(pv, t)])))
    (hbody : ∀ (A : Around) (outer : List Env) (s : Shared) (H : Hp) (vs : List V) (Q : VK) (E : XK), Room k (A.deeper (envOfC qual scope s.heap.objs.size f cdv)) → sp vs H Q E →
      ∃ t, PSs (cxOf CX P w K mg base N qual scope f cdv A outer s H E) body t ∧ t { nx := fun _ H' => Q .non H', rt := Q } (start N vs) H) :
    FnRK P w K mg base CX (k + 1) f ks (fun zs vs H Q E => ∃ ws rest, vs = ws ++ rest ∧ ws.length = n ∧ rest.length ≤ sizeLine ∧ ∀ p, H p = Option.none → sp (g ws (ms.map (·.2)) zs ++ [V.ref p]) (upd H p (.tup rest)) Q E) := by
  intro A outer s H us wz vs zs Q E hr e0 r rz hz hsp
  obtain ⟨ws, rest, ev, hl, hs, hq⟩ := hsp
  subst ev
  obtain ⟨u1, u2, eu, r1, r2⟩ := vals_split r
  subst eu
  obtain ⟨mv, ml, rm, hks⟩ := kwd_vals hms
  have KX : K.In s.heap := e0.mod.kin.keeps fun b o e => (e0.bs b o e).1
  have hn : H s.heap.objs.size = Option.none := e0.hok.fresh (Nat.le_refl _)
  have hl1 : u1.length = n := by rw [← r1.length]; exact hl
  have hl2 : u2.length ≤ sizeLine := by rw [← r2.length]; exact hs
  have hlz : wz.length = ks.length := by rw [← rz.length]; exact hz
  have rg := hrel r1 rm rz
  have lg : (g u1 mv wz).length = ps.length := hlen _ _ _ hl1 ml hlz
  have lg' : (g ws (ms.map (·.2)) zs).length = ps.length := by rw [rg.length]; exact lg
  refine run_bnd lk hcd S hr e0 (G := fun xs H2 => ∃ p, H p = Option.none ∧ xs = g ws (ms.map (·.2)) zs ++ [V.ref p] ∧ H2 = upd H p (.tup rest)) (fun A' Ex Q' h => ?_) fun s2 H2 xs ⟨p, hp, ex, eH⟩ hr' => ?_
  · refine KwTail.wp KX hks (hb u1 u2 mv wz hl1 ml hlz) ?_
    refine wpAny_bind (wpAny_newTuple (wpAny_pure ?_) hl2)
    have new : ObjOk P w (upd H s.heap.objs.size (.tup rest)) (s.heap.push ({ cls := .type "tuple", data := .seq u2.toArray } : Obj)) s.heap.objs.size (.tup rest) := ⟨hs, u2, r2, ⟨_, Heap.get?_push_size _ rfl, rfl, _, rfl⟩⟩
    have un := un_laid (fs := frs outer) (s := s) (o := ({ cls := .type "tuple", data := .seq u2.toArray } : Obj)) (u := .tup rest) hn
    have z := h _ _ (g ws (ms.map (·.2)) zs ++ [V.ref s.heap.objs.size]) (g u1 mv wz ++ [Value.ref s.heap.objs.size]) (env0_laid e0 new) un rfl (fun e s' => hCX outer s H _ _ E e s' un (fun b o q => Heap.get?_push_of_some _ q) rfl) (rg.append (.cons rfl .nil))
      (by rw [List.length_append, List.length_append, lg'] <;> rfl) ⟨_, hn, rfl, rfl⟩
    rw [List.zip_append lg.symm] at z
    exact z
  · subst ex eH
    exact hbody A outer s2 _ _ Q E hr' (hq p hp)
end
/-! ### C(e, .., k = v, ..) of such an __init__, where an error may come out -/
def tMakeRK (C : Addr) (m : Nat) (sp : List V → Sp) (E : L2.St → XK) (t tk : TA) : TE := fun σ H Q => t σ H fun vs H1 => tk σ H1 fun zs H2 => zs.length = m ∧ ∀ x dx, H2 x = none → H2 dx = none → dx ≠ x →
  sp zs (V.ref x :: vs) (upd (upd H2 dx (.own x)) x (.ins C dx [])) (fun v H3 => v = .non ∧ Q (.ref x) H3) (E σ)
section
variable {X : Cx} {CX : CXT} {k : Nat} {f C : Addr} {ks : List Str} {sp : List V → Sp} {E : L2.St → XK} {x : Str} {p pos : Pos} {e : Expr} {es : List Expr} {kws : List Keyword} {t tk : TA}
theorem run_makeRK {pins : List (Addr × Obj)} {σ : L2.St} {H : Hp} {s : Shared} {Q : VK} {us ws : List Value} {vs zs : List V} {E : XK} (M : Mk X.K C f) (F : FnRK X.prog X.w X.K X.mg X.base CX k f ks sp) (hr : Room (k + 1) X.A) (hx : PassesAt CX X σ E)
    (I : Inv X pins σ H s) (r : Vals vs us) (rz : Vals zs ws) (l2 : zs.length = ks.length)
    (h : ∀ x dx, H x = none → H dx = none → dx ≠ x → sp zs (V.ref x :: vs) (upd (upd H dx (.own x)) x (.ins C dx [])) (fun v H2 => v = .non ∧ Q (.ref x) H2) E) :
    wpAny (model X.prog X.w) X.A (call (.ref C) us (ks.zip ws)) (EP X pins σ Q) X.xe s := by
  have hq := h (s.heap.objs.size + 1) s.heap.objs.size (I.hok.fresh (Nat.le_succ _)) (I.hok.fresh (Nat.le_refl _)) (Nat.ne_of_lt (Nat.lt_succ_self _))
  have I2 := Inv.made (C := C) I
  have r1 : Vals (V.ref (s.heap.objs.size + 1) :: vs) (Value.ref (s.heap.objs.size + 1) :: us) := .cons rfl r
  refine wpAny_call (make_map (f := f) I.kIn M.makes M.init (beq_iff_eq.mp M.fn) (codeAny_mono (F _ X.stack _ _ (Value.ref (s.heap.objs.size + 1) :: us) ws _ _ _ E (hr.make C us (ks.zip ws)) (I2.env0.make C us (ks.zip ws)) r1 rz l2 hq) fun r s' hq' => ?_))
  cases r with
  | error e => exact hx pins _ _ e s' I2 hq'
  | ok fl =>
    cases fl with
    | ret u =>
      obtain ⟨v, H', I3, rv, ev, q3⟩ := I2.after hq'
      subst ev
      exact ⟨rv, ⟨V.ref (s.heap.objs.size + 1), H', I3, rfl, q3⟩⟩
    | next => exact False.elim hq'
    | brk => exact False.elim hq'
    | cont => exact False.elim hq'
theorem pe_makeRK0 (M : Mk X.K C f) (F : FnRK X.prog X.w X.K X.mg X.base CX k f ks sp) (hr : Room (k + 1) X.A) (hg : Gl X x) (hm : X.mg x = some (.ref C)) (hx : ∀ σ, PassesAt CX X σ (E σ)) (hkw : PK X kws tk)
    (hall : (backToKw pos (keywordEach kws X.env)).all (·.1.isSome) = true := by rfl) (hks : (backToKw pos (keywordEach kws X.env)).filterMap (·.1) = ks := by rfl) (hdb : (x == ("__debug__" : Str)) = false := by decide)
    (hpl : ((backTo pos (starEach [] X.env)).any (·.1) || (backToKw pos (keywordEach kws X.env)).any (·.1.isNone)) = false := by rfl) :
    PE X (.Call (.Name x p) [] kws pos) (tMakeRK C ks.length sp E tNil tk) := by
  refine ⟨fun pins s σ H Q I h => ?_⟩
  refine wpAny_Call_Name_kw (ld_glob I hg hm ?_ hdb)
  refine PySem.W.callWith_KW0 (h₀ := X.base) I.ok.mod.kin M.kp hall ?_ hpl
  refine thn (hkw.run pos pins s σ H _ I h) fun ws s2 ⟨zs, H2, I2, rz, l2, q2⟩ => ⟨I2.kIn, ?_⟩
  rw [hks]
  exact run_makeRK (us := []) (vs := []) M F hr (hx σ) I2 .nil rz l2 q2
theorem pe_makeRK (M : Mk X.K C f) (F : FnRK X.prog X.w X.K X.mg X.base CX k f ks sp) (hr : Room (k + 1) X.A) (hg : Gl X x) (hm : X.mg x = some (.ref C)) (hx : ∀ σ, PassesAt CX X σ (E σ)) (ha : PA X (e :: es) t) (hkw : PK X kws tk)
    (hall : (backToKw pos (keywordEach kws X.env)).all (·.1.isSome) = true := by rfl) (hks : (backToKw pos (keywordEach kws X.env)).filterMap (·.1) = ks := by rfl) (hdb : (x == ("__debug__" : Str)) = false := by decide)
    (he : starEach (e :: es) X.env = (false, eval e X.env) :: starEach es X.env := by rfl) (hpl : ((backTo pos (starEach (e :: es) X.env)).any (·.1) || (backToKw pos (keywordEach kws X.env)).any (·.1.isNone)) = false := by rfl) :
    PE X (.Call (.Name x p) (e :: es) kws pos) (tMakeRK C ks.length sp E t tk) := by
  refine ⟨fun pins s σ H Q I h => ?_⟩
  refine wpAny_Call_Name_kw (ld_glob I hg hm ?_ hdb)
  refine PySem.W.callWith_KW (h₀ := X.base) I.ok.mod.kin M.kp hall (thn (ha.run pos pins s σ H _ I h) fun us s1 ⟨vs, H1, I1, r, q⟩ => ?_) hpl he
  refine thn (hkw.run pos pins s1 σ H1 _ I1 q) fun ws s2 ⟨zs, H2, I2, rz, l2, q2⟩ => ⟨I2.kIn, ?_⟩
  rw [hks]
  exact run_makeRK M F hr (hx σ) I2 r rz l2 q2
end
end StK
/-! from k09/TkRS -/
namespace PySem.W
open PySem
section
variable {M : Model} {A : Around} {E : Value → Shared → Prop} {s : Shared}
theorem ks_lone_kw {f : Value} {x : Sem Value} {pos : Pos} {kws : List (Option Str × Sem Value)} {Q : Args → Shared → Prop} (hall : kws.all (·.1.isSome) = true)
    (h : wpAny M A x (fun v s₁ => wpAny M A (evalAll (kws.map (·.2))) (fun ks s₂ => StarOf M A E v (fun vs s₃ => Q ⟨vs, (kws.filterMap (·.1)).zip ks⟩ s₃) s₂) E s₁) E s) :
    wpAny M A (evalArgs f true [(true, (do let v ← x; standAt pos; pure v))] kws) Q E s := by
  unfold evalArgs
  first
    | refine wpAny_bind (wpAny_bind (wpAny_mono h (fun v s₁ h₁ => wpAny_bind (wpAny_standAt (wpAny_pure ?_))) fun _ _ x => x))
    | refine wpAny_bind (wpAny_bind (wpAny_bind (wpAny_mono h (fun v s₁ h₁ => wpAny_bind (wpAny_standAt (wpAny_pure (wpAny_pure ?_)))) fun _ _ x => x)))
  refine wpAny_holding ?_
  dsimp only
  rw [if_pos hall]
  refine wpAny_bind (wpAny_mono h₁ (fun ks s₂ h₂ => ?_) fun _ _ x => x)
  unfold StarOf at h₂
  refine wpAny_bind (wpAny_bind (wpAny_mono h₂ (fun b s₃ h₃ => ?_) fun _ _ x => x))
  obtain ⟨rfl, h₃⟩ := h₃
  have z : ∀ keep, wpAny M A (holding keep (collect v)) (fun vs s₄ => wpAny M A (pure (⟨vs, (kws.filterMap (·.1)).zip ks⟩ : Args)) Q E s₄) E s₃ := fun keep => wpAny_holding (vs := keep) (wpAny_mono h₃ (fun vs s₄ h₄ => wpAny_pure h₄) fun _ _ x => x)
  try simp only [Bool.false_eq_true, if_false]
  first
    | exact z _
    | exact wpAny_bind (wpAny_pure (z _))
theorem ks_call_kw {f : Value} {first : List Value} {pos : Pos} {Q : Value → Shared → Prop} {P : Heap → Prop} {args : List (Bool × Sem Value)} {kws : List (Option Str × Sem Value)} (hst : args.any (·.1) = true)
    (hk : ∀ h, P h → ∃ k, (k = Keeper.frame ∨ k = Keeper.machine ∨ k = Keeper.boundFrame) ∧ Looks M h (keeperOf f) k)
    (h : wpAny M A (evalArgs f true args kws) (fun a s₁ => P s₁.heap ∧ wpAny M A (call f (first ++ a.pos) a.kw) Q E s₁) E s) : wpAny M A (callWith pos f first args kws) Q E s := by
  unfold callWith
  refine wpAny_bind (wpAny_holding (wpAny_mono h (fun a s₁ h₁ => wpAny_bind (wpAny_standAt ?_)) fun _ _ x => x))
  obtain ⟨k, hk', L⟩ := hk _ h₁.1
  simp only [hst, Bool.true_or]
  refine wpAny_bind (L.here ?_)
  have tail : ∀ {t : Sem Value}, wpAny M A t Q E s₁ → wpAny M A (t >>= fun r => holding [r] point >>= fun _ => pure r) Q E s₁ :=
    fun ht => wpAny_bind (wpAny_mono ht (fun r s₂ hr => wpAny_bind (wpAny_holding (wpAny_point (wpAny_pure hr)))) fun _ _ x => x)
  have marked (mk : Value) : wpAny M A (callMarked mk f (first ++ a.pos) a.kw) Q E s₁ := by unfold callMarked; exact Calls.wpAny_keep h₁.2
  rcases hk' with rfl | rfl | rfl <;> dsimp only <;> first | exact tail (marked _) | exact tail (wpAny_operating h₁.2)
end
end PySem.W
namespace StK
open PySem PySem.Spec PyProof.Rows L2 StX
def tMakeRS (K : PySem.W.Frag) (C : Addr) (m : Nat) (sp : List V → Sp) (E : L2.St → XK) (te : TE) (tk : TA) : TE := fun σ H Q => te σ H fun y H1 => tk σ H1 fun zs H2 => zs.length = m ∧ ∃ a xs, y = V.ref a ∧ (SqT K H2 a xs ∨ SqL K H2 a xs) ∧ ∀ x dx, H2 x = none → H2 dx = none → dx ≠ x →
  sp zs (V.ref x :: xs) (upd (upd H2 dx (.own x)) x (.ins C dx [])) (fun v H3 => v = .non ∧ Q (.ref x) H3) (E σ)
section
variable {X : Cx} {CX : CXT} {k : Nat} {f C : Addr} {ks : List Str} {sp : List V → Sp} {E : L2.St → XK} {x : Str} {p sp_ pos : Pos} {e : Expr} {kws : List Keyword} {te : TE} {tk : TA}
theorem pe_makeRS (M : Mk X.K C f) (F : FnRK X.prog X.w X.K X.mg X.base CX k f ks sp) (hr : Room (k + 1) X.A) (hg : Gl X x) (hm : X.mg x = some (.ref C)) (hx : ∀ σ, PassesAt CX X σ (E σ)) (he : PE X e te) (hkw : PK X kws tk)
    (hall : (backToKw pos (keywordEach kws X.env)).all (·.1.isSome) = true := by rfl) (hks : (backToKw pos (keywordEach kws X.env)).filterMap (·.1) = ks := by rfl) (hdb : (x == ("__debug__" : Str)) = false := by decide)
    (hst : starEach [.Starred e sp_] X.env = [(true, eval e X.env)] := by rfl) :
    PE X (.Call (.Name x p) [.Starred e sp_] kws pos) (tMakeRS X.K C ks.length sp E te tk) := by
  refine ⟨fun pins s σ H Q I h => ?_⟩
  refine wpAny_Call_Name_kw (ld_glob I hg hm ?_ hdb)
  rw [hst]
  refine PySem.W.ks_call_kw rfl (PySem.W.keeps_K M.kp) (PySem.W.ks_lone_kw hall (thn (he.run pins s σ H _ I h) fun v s1 ⟨y, H1, I1, ry, q⟩ => ?_))
  refine thn (hkw.run pos pins s1 σ H1 _ I1 q) fun ws s2 ⟨zs, H2, I2, rz, l2, a, xs, ey, hxs, q2⟩ => ?_
  subst ey
  obtain rfl : v = Value.ref a := ry
  refine star_any I2 hxs fun us s3 I3 rv => ⟨I3.kIn, ?_⟩
  rw [hks]
  exact run_makeRK (us := us) (vs := xs) M F hr (hx σ) I3 rv rz l2 q2
end
end StK
/-! from k09/TkMN -/
namespace L2
open PySem PySem.Spec PyProof.Rows
def tMethN (C : Addr) (m : Str) (nk : Nat) (sp : Sp) (gV : List V → List V → List V) (E : St → XK) (ta : TE) (tk : TA) : TE := fun σ H Q => ta σ H fun x H1 => ∃ a dx fs, x = .ref a ∧ H1 a = some (.ins C dx fs) ∧ fs.lookup m = none ∧
  tk σ H1 fun zs H2 => zs.length = nk ∧ sp (gV [.ref a] zs) H2 Q (E σ)
section
variable {X : Cx} {CX : CXT} {k n : Nat} {f C : Addr} {fd : FuncData} {ps ks : List Str} {sp : Sp} {E : St → XK} {x m : Str} {p pos apos : Pos} {o : Expr} {kws : List Keyword} {ta : TE} {tk : TA} {g : List Value → List Value → List Value} {gV : List V → List V → List V}
theorem run_fnNS {pins : List (Addr × Obj)} {σ : St} {H : Hp} {s : Shared} {Q : VK} {us ws : List Value} {vs zs : List V} {E : XK} (F : FnOk X.prog X.w X.K X.mg X.base CX k f fd ps sp) (hr : Room k X.A) (hb : KBn X.K fd ps n ks g gV) (hx : PassesAt CX X σ E)
    (I : Inv X pins σ H s) (r : Vals vs us) (rz : Vals zs ws) (l1 : vs.length = n) (l2 : zs.length = ks.length) (h : sp (gV vs zs) H Q E) : wpAny (model X.prog X.w) X.A (call (.ref f) us (ks.zip ws)) (EP X pins σ Q) X.xe s := by
  have bd := hb.to s us ws I.kIn (by rw [← r.length]; exact l1) (by rw [← rz.length]; exact l2)
  refine wpAny_call (codeAny_mono (F.run X.A X.stack s H ⟨us, ks.zip ws⟩ (g us ws) (gV vs zs) Q E hr I.env0 bd (hb.rel r rz) h) fun res s' hq => ?_)
  match res, hq with
  | .error e, hq => exact hx pins H s e s' I hq
  | .ok (.ret u), hq => exact I.after hq
theorem pe_methN {pl : Sem Bool} (he : PE X o ta) (c : Cls X.K C) (hm : Meth X.K C m f) (F : FnOk X.prog X.w X.K X.mg X.base CX k f fd ps sp) (hr : Room k X.A) (hb : KBn X.K fd ps 1 ks g gV) (hx : ∀ σ, PassesAt CX X σ (E σ)) (hkw : PK X kws tk)
    (hall : (backToKw pos (keywordEach kws X.env)).all (·.1.isSome) = true := by rfl) (hks : (backToKw pos (keywordEach kws X.env)).filterMap (·.1) = ks := by rfl)
    (ht : eval (.Call (.Attribute o m apos) [] kws pos) X.env = (do
      let ov ← eval o X.env
      standAt apos.atName
      let (f, first) ← holding [ov] (getMethod ov m pl)
      callWith pos f first (backTo pos (starEach [] X.env)) (backToKw pos (keywordEach kws X.env))) := by rfl)
    (hpl : ((backTo pos (starEach [] X.env)).any (·.1) || (backToKw pos (keywordEach kws X.env)).any (·.1.isNone)) = false := by rfl) :
    PE X (.Call (.Attribute o m apos) [] kws pos) (tMethN C m ks.length sp gV E ta tk) := by
  constructor
  intro pins s σ H Q I h
  refine PySem.W.methodCall_KW (pl := pl) (thn (he.run pins s σ H _ I h) fun u s1 q => ?_) ht
  obtain ⟨_, H1, I1, ru, a, dx, fs, rfl, ea, l, q⟩ := q
  have eu : u = Value.ref a := ru
  subst eu
  refine getmeth_ok I1 ea c hm l (PySem.W.callWith_KW0 (first := [.ref a]) (h₀ := X.base) I.ok.mod.kin hm.kp hall ?_ hpl)
  refine thn (hkw.run pos pins s1 σ H1 _ I1 q) fun ws s2 ⟨zs, H2, I2, rz, l2, q2⟩ => ⟨I2.kIn, ?_⟩
  rw [hks]
  exact run_fnNS (us := [.ref a]) (vs := [.ref a]) F hr hb (hx σ) I2 (.cons rfl .nil) rz rfl l2 q2
end
end L2
/-! from k08/TkTE -/
namespace TE8
open PySem PySem.SeqAt
open AutoSeq1 (wpAny_loadPart')
open MeetsSeq MeetsSeq2 MeetsSeq3 SeqRoads2
section
variable {prog : Program} {w : World} {A : Around} {R : Result → Shared → Prop}
theorem tuple_eqB (l b : Addr) (items items2 : Array Value) (n n2 : Nat) (dd dd2 : Option Addr) (sl sl2 : Array (Option Value)) (hsz : items.size = items2.size) (I : Nat → Shared → Prop)
    (turn : ∀ i (h1 : i < items.size) (h2 : i < items2.size) s, I i s → wpAny (model prog w) A.in1 (eqBool items[i] items2[i]) (fun r s' => (r = true ∧ I (i + 1) s') ∨ (r = false ∧ R (.ok (.ret (.bool false))) s')) (fun e s' => R (.error e) s') s)
    (fin : ∀ s, I items.size s → R (.ok (.ret (.bool true))) s) {s : Shared} (hl1 : s.heap.get? l = some { cls := .type "tuple", dict := dd, data := .seq items n, slots := sl }) (hb1 : s.heap.get? b = some { cls := .type "tuple", dict := dd2, data := .seq items2 n2, slots := sl2 }) (h : I 0 s) :
    wpAny (model prog w) A.in1 (Builtin.«tuple.__eq__» ⟨[.ref l, .ref b], []⟩) (GQ.FinOf prog w A R) (fun e s' => R (.error e) s') s := by
  have f2 := AutoSeq1.sub_tuple_tuple
  have hZ : (items.toList.zip items2.toList).length = items.size := by simp [hsz]
  have h0 := h
  obtain ⟨hp, g, d, tk, os⟩ := s
  wp_walk using wpAny_loadPart' hl1, wpAny_loadPart' hb1, wpAny_forIn_list _ (fun rest b s' => b.1 = none ∧ ∃ i, rest = (items.toList.zip items2.toList).drop i ∧ i ≤ items.size ∧ I i s') _
  case turn =>
    rintro ⟨y, x⟩ rest b s' ⟨hb', i, hz, hi, hI⟩
    have hlt : i < (items.toList.zip items2.toList).length := by
      rcases Nat.lt_or_ge i (items.toList.zip items2.toList).length with h' | h'
      · exact h'
      · rw [List.drop_of_length_le h'] at hz; cases hz
    have h1 : i < items.size := hZ ▸ hlt
    have h2 : i < items2.size := hsz ▸ h1
    rw [List.drop_eq_getElem_cons hlt] at hz
    injection hz with hyx hrest
    have hy : y = items[i] := by have := congrArg Prod.fst hyx; simpa using this
    have hx : x = items2[i] := by have := congrArg Prod.snd hyx; simpa using this
    subst hy hx
    refine wpAny_bind (wpAny_mono (turn i h1 h2 s' hI) (fun r s2 q2 => ?_) fun _ _ x => x)
    rcases q2 with ⟨hr, q2⟩ | ⟨hr, q2⟩
    · subst hr
      wp_walk
      exact ⟨rfl, i + 1, hrest, h1, q2⟩
    · subst hr
      wp_walk
      exact q2
  case fin =>
    rintro ⟨b1, b2⟩ s' ⟨hb', i, hz, hi, hI⟩
    simp only at hb'
    subst hb'
    have hge : items.size ≤ i := by
      rcases Nat.lt_or_ge i (items.toList.zip items2.toList).length with h' | h'
      · rw [List.drop_eq_getElem_cons h'] at hz; cases hz
      · exact hZ ▸ h'
    have hi' : i = items.size := by omega
    have hR : R (.ok (.ret (.bool true))) s' := fin s' (hi' ▸ hI)
    wp_walk
    simpa [Builtin.Tuple.tupleCompareSizes, hsz] using hR
  case h =>
    exact ⟨rfl, 0, rfl, Nat.zero_le _, h0⟩
end
section
variable {prog : Program} {w : World} {A : Around} {E : Value → Shared → Prop} {s : Shared}
theorem rc_tupB {l b : Addr} {items items2 : Array Value} {Q : Value → Shared → Prop} (hsz : items.size = items2.size) (hu : A.units < cLine) (I : Nat → Shared → Prop)
    (hl : s.heap.IsTuple l items) (hb : s.heap.IsTuple b items2)
    (turn : ∀ i (h1 : i < items.size) (h2 : i < items2.size) s, I i s → wpAny (model prog w) A.in1 (eqBool items[i] items2[i]) (fun r s' => (r = true ∧ I (i + 1) s') ∨ (r = false ∧ Q (.bool false) s')) E s)
    (fin : ∀ s, I items.size s → Q (.bool true) s) (h : I 0 s) : wpAny (model prog w) A (richCompare .Eq (.ref l) (.ref b)) Q E s := by
  obtain ⟨⟨cls, dd, data, sl⟩, ho, hc, n, hd⟩ := id hl
  obtain ⟨⟨cls2, dd2, data2, sl2⟩, ho2, hc2, n2, hd2⟩ := id hb
  simp only at hc hd hc2 hd2
  subst hc hd hc2 hd2
  refine wpAny_richCompare_same_room (op := .Eq) ⟨_, ho, rfl⟩ ⟨_, ho2, rfl⟩ F.slot_tuple_eq (GQ.call_here F.slot_tuple_eq ⟨_, ho, rfl⟩ F.entry_tuple_eq (F.args_tuple_eq_2 _ _) ?_) hu
  refine tuple_eqB (R := wants (fun v s' => v ≠ .notImplemented ∧ Q v s') E) l b items items2 n n2 dd dd2 sl sl2 hsz I (fun i h1 h2 s' hi => wpAny_mono (turn i h1 h2 s' hi) (fun r s2 q => ?_) fun _ _ x => x) (fun s' q => ⟨(fun x => nomatch x), fin s' q⟩) ho ho2 h
  rcases q with q | ⟨e, q⟩
  · exact .inl q
  · exact .inr ⟨e, (fun x => nomatch x), q⟩
end
end TE8
namespace L2
open PySem PySem.Spec PyProof.Rows
/-- two instances of C, which c says to be equal or not -/
def DEqB (C : Addr) (sp : Sp) (E : XK) (c : Bool) (x y : V) (H : Hp) : Prop := ∃ a b dx dy fs gs, x = .ref a ∧ y = .ref b ∧ H a = some (.ins C dx fs) ∧ H b = some (.ins C dy gs) ∧ (a = b → c = true) ∧ sp [.ref a, .ref b] H (fun v H' => v = .bl c ∧ Ext H H') E
/-- item by item, in every later heap -/
inductive PrsB (D : Bool → V → V → Hp → Prop) (H : Hp) : List Bool → List V → List V → Prop
  | nil : PrsB D H [] [] []
  | cons {c : Bool} {x y : V} {cs : List Bool} {xs ys : List V} (h : ∀ H', Ext H H' → D c x y H') (t : PrsB D H cs xs ys) : PrsB D H (c :: cs) (x :: xs) (y :: ys)
section
variable {D : Bool → V → V → Hp → Prop} {H : Hp} {cs : List Bool} {xs ys : List V}
theorem PrsB.len (p : PrsB D H cs xs ys) : xs.length = ys.length ∧ cs.length = xs.length := by
  induction p with
  | nil => exact ⟨rfl, rfl⟩
  | cons _ _ ih => exact ⟨by rw [List.length_cons, List.length_cons, ih.1], by rw [List.length_cons, List.length_cons, ih.2]⟩
theorem PrsB.at : ∀ {cs : List Bool} {xs ys : List V} {i : Nat}, PrsB D H cs xs ys → i < xs.length → ∃ c x y, cs[i]? = some c ∧ xs[i]? = some x ∧ ys[i]? = some y ∧ ∀ H', Ext H H' → D c x y H'
  | _, _, _, 0, .cons h _, _ => ⟨_, _, _, rfl, rfl, rfl, h⟩
  | _, _, _, i + 1, .cons _ t, l => PrsB.at (i := i) t (Nat.lt_of_succ_lt_succ l)
end
def rTupB (K : PySem.W.Frag) (C : Addr) (sp : Sp) (E : XK) : R2 := fun x y H Q => ∃ a b xs ys cs, x = .ref a ∧ y = .ref b ∧ SqT K H a xs ∧ SqT K H b ys ∧ PrsB (DEqB C sp E) H cs xs ys ∧ ∀ H', Ext H H' → Q (.bl (cs.all id)) H'
section
variable {X : Cx} {CX : CXT} {k : Nat} {C f : Addr} {fd : FuncData} {ps : List Str} {sp : Sp} {E : XK}
theorem eq_insB (hs : PySem.W.findIn X.K (.ref C) "__eq__" = some (some (.ref f))) (hf : PySem.W.isFn X.K (.ref f) = true) (F : FnOk X.prog X.w X.K X.mg X.base CX k f fd ps sp) (hb : Binds X.K fd ps []) (hx : Passes CX X E)
    {A : Around} {pins : List (Addr × Obj)} {s : Shared} {σ : St} {H : Hp} {x y : V} {u v : Value} {c : Bool} (sb : Sub X k A) (I : Inv X pins σ H s) (rx : RelV x u) (ry : RelV y v) (d : DEqB C sp E c x y H) :
    wpAny (model X.prog X.w) A (eqBool u v) (fun r s' => r = c ∧ ∃ H', Inv X pins σ H' s' ∧ Ext H H') X.xe s := by
  obtain ⟨a, b, dx, dy, fs, gs, rfl, rfl, ha, hb', hc, hr⟩ := d
  cases rx
  cases ry
  by_cases hab : a = b
  · subst hab
    rw [hc rfl]
    exact SeqAt.EqAt.same (A := A) (s := s) (.ref a) X.prog X.w X.xe _ ⟨rfl, H, I, Ext.rfl'⟩
  · refine GQ.eqBool_refG hab ?_
    obtain ⟨mA, J, _⟩ := ins_get I.hok ha
    obtain ⟨mB, J', _⟩ := ins_get I.hok hb'
    obtain ⟨od, J, _⟩ := J.look
    obtain ⟨od', J', _⟩ := J'.look
    obtain ⟨m, hF⟩ := I.fr
    refine PySem.W.cmp_K (op := .Eq) (tb := .ref C) sb.room.units0 hF I.ok.mod.kin J J'.type (by simp [PySem.W.notFirst]) hs hf ?_
    have e0 : Env0 X.prog X.w X.K X.mg X.base A X.stack s H := by
      have e := I.env0
      exact ⟨by rw [sb.fr]; exact e.frames, e.mod, e.bs, e.bsz, e.funs, e.frf, e.hok, e.bare⟩
    have hl := F.len _ _ _ _ hr
    have r2 : Vals [V.ref a, V.ref b] [Value.ref a, Value.ref b] := .cons rfl (.cons rfl .nil)
    refine wpAny_call (codeAny_mono (F.run A X.stack s H ⟨[.ref a, .ref b], []⟩ [.ref a, .ref b] [.ref a, .ref b] _ E sb.room e0 (by
      have := hb s [.ref a, .ref b] I.kIn (by simpa using hl)
      simpa using this) r2 hr) fun r s' hq => ?_)
    cases r with
    | error e => exact hx pins σ H s e s' I hq
    | ok fl =>
      cases fl with
      | ret w =>
        obtain ⟨z, H', I', rz, ez, ex⟩ := I.after hq
        subst ez
        cases rz
        exact ⟨c, rfl, rfl, H', I', ex⟩
      | next => exact False.elim hq
      | brk => exact False.elim hq
      | cont => exact False.elim hq
theorem op_eqTupB (hs : PySem.W.findIn X.K (.ref C) "__eq__" = some (some (.ref f))) (hf : PySem.W.isFn X.K (.ref f) = true) (F : FnOk X.prog X.w X.K X.mg X.base CX k f fd ps sp) (hr : Room (k + 1) X.A) (hb : Binds X.K fd ps []) (hx : Passes CX X E) :
    OpR X (compareOp .Eq) (rTupB X.K C sp E) := by
  intro pins s σ H x y v u Q I rx ry h
  obtain ⟨a, b, xs, ys, cs, rfl, rfl, ha, hb', p, q⟩ := h
  cases rx
  cases ry
  obtain ⟨its, r, e, z⟩ := I.tuple ha
  obtain ⟨its2, r2, e2, z2⟩ := I.tuple hb'
  obtain ⟨l1, l2⟩ := p.len
  have hsz : its.toArray.size = its2.toArray.size := by rw [List.size_toArray, List.size_toArray, ← r.length, ← r2.length]; exact l1
  show wpAny (model X.prog X.w) X.A (richCompare .Eq _ _) (EP X pins σ Q) X.xe s
  refine TE8.rc_tupB hsz hr.units0 (fun i s' => (∃ H', Inv X pins σ H' s' ∧ Ext H H') ∧ (cs.take i).all id = true) e e2 (fun i h1 h2 s' q' => ?_) (fun s' q' => ?_) ⟨⟨H, I, Ext.rfl'⟩, rfl⟩
  · obtain ⟨⟨H1, I1, e1⟩, ca⟩ := q'
    have g1 : its[i]? = some its.toArray[i] := by
      have h1' : i < its.length := by simpa using h1
      rw [List.getElem?_eq_getElem h1'] <;> simp
    have g2 : its2[i]? = some its2.toArray[i] := by
      have h2' : i < its2.length := by simpa using h2
      rw [List.getElem?_eq_getElem h2'] <;> simp
    have k1 : i < xs.length := by rw [r.length]; simpa using h1
    obtain ⟨c, x, y, hc, hx', hy', d⟩ := p.at k1
    obtain ⟨u, hu, ru⟩ := r.get hx'
    obtain ⟨v, hv, rv⟩ := r2.get hy'
    rw [g1] at hu
    rw [g2] at hv
    rw [Option.some.inj hu, Option.some.inj hv]
    refine wpAny_mono (eq_insB hs hf F hb hx (A := X.A.in1) ⟨hr.in1, rfl⟩ I1 ru rv (d H1 e1)) (fun r s2 z => ?_) fun _ _ x => x
    obtain ⟨hr', H2, I2, e2'⟩ := z
    cases c with
    | true =>
      refine .inl ⟨hr', ⟨H2, I2, e1.trans e2'⟩, ?_⟩
      rw [List.take_add_one, hc, List.all_append, ca]
      rfl
    | false =>
      refine .inr ⟨hr', .bl false, H2, I2, rfl, ?_⟩
      have ef : cs.all id = false := by
        rw [List.all_eq_false]
        exact ⟨false, List.mem_of_getElem? hc, by decide⟩
      rw [← ef]
      exact q H2 (e1.trans e2')
  · obtain ⟨⟨H1, I1, e1⟩, ca⟩ := q'
    have el : cs.take its.toArray.size = cs := by
      rw [List.take_of_length_le]
      rw [l2, r.length, List.size_toArray]
      exact Nat.le_refl _
    rw [el] at ca
    refine ⟨.bl true, H1, I1, rfl, ?_⟩
    rw [← ca]
    exact q H1 e1
end
end L2
/-! from k07/TkLS -/
namespace LenS
open PySem PySem.Spec PyProof.Rows
/-- how many unlike ones stand in front -/
def many (xs : List Str) : Nat → Nat
  | 0 => 0
  | i + 1 => if (xs.take i).any (· == xs.getD i Str.empty) then many xs i else many xs i + 1
theorem many_le (xs : List Str) : ∀ i, many xs i ≤ i
  | 0 => Nat.le_refl _
  | i + 1 => by
    have := many_le xs i
    unfold many
    split <;> omega
theorem took {xs : List Str} {i : Nat} (h : i < xs.length) (z : Str) : ((xs.take i).any (· == z) || decide (z = xs.getD i Str.empty)) = (xs.take (i + 1)).any (· == z) := by
  have e : xs.getD i Str.empty = xs[i] := by rw [List.getD_eq_getElem?_getD, List.getElem?_eq_getElem h]; rfl
  rw [List.take_add_one, List.getElem?_eq_getElem h, List.any_append, e]
  congr 1
  show decide (z = xs[i]) = ([xs[i]].any (· == z))
  by_cases c : z = xs[i]
  · rw [decide_eq_true c, ← c]; simp
  · rw [decide_eq_false c]
    have : (xs[i] == z) = false := beq_eq_false_iff_ne.mpr fun q => c q.symm
    simp [this]
def upto (xs : List Str) (i : Nat) : Str → Bool := fun z => (xs.take i).any (· == z)
section
variable {prog : Program} {w : World} {A : Around} {I S : Addr} {fp wr : List Addr} {G : Array GenState → Array GenState → Prop} {P : Nat → Value → Prop} {St : Nat → Shared → Prop} {xs : List Str} {R : Result → Shared → Prop}
theorem fill {n : Nat} (hn : n = xs.length) (W : WalksS prog w A.in1 I fp wr G n P St) (out : S ∉ fp) (few : xs.length + 1 < scanBound) (val : ∀ i v, P i v → ∃ t, v = .str (xs.getD i Str.empty) t) (m : Nat) :
    ∀ (i : Nat) (s : Shared), xs.length - i = m → i ≤ xs.length → St i s → s.heap.SetOf (strKind prog w) S (upto xs i) (many xs i) →
      (∀ s', Moved (S :: wr) G s s' → s'.heap.SetOf (strKind prog w) S (upto xs xs.length) (many xs xs.length) → R (.ok (.ret .none)) s') → codeAny (model prog w) A (.builtin "set.update.loop" ⟨[.ref S, .ref I], []⟩) R s := by
  subst hn
  have notw : S ∉ wr := fun h => out (W.sub _ h)
  have wider : ∀ b ∈ wr, b ∈ S :: wr := fun b => List.mem_cons_of_mem _
  have carry : ∀ {s s' : Shared} {f : Str → Bool} {k : Nat}, Moved wr G s s' → s.heap.SetOf (strKind prog w) S f k → s'.heap.SetOf (strKind prog w) S f k := fun mv h => by
    obtain ⟨o, a, b, c, there, more⟩ := h
    exact ⟨o, a, b, c, mv.heap S _ notw there, more⟩
  induction m with
  | zero =>
    intro i s hm hi now have_ last
    obtain rfl : i = xs.length := by omega
    refine codeAny_builtin F.entry_set_update_loop ?_
    rw [Around.under_plainId F.plain_set_update_loop _]
    exact wpAny_bind (W.done s _ _ now fun s' mv => wpAny_pure (last s' (mv.mono wider) (carry mv have_)))
  | succ m ih =>
    intro i s hm hi now have_ last
    have lt : i < xs.length := by omega
    refine codeAny_builtin F.entry_set_update_loop ?_
    rw [Around.under_plainId F.plain_set_update_loop _]
    refine wpAny_bind (W.item i s _ _ lt now fun v s' pv now' mv => ?_)
    obtain ⟨t, rfl⟩ := val i v pv
    refine wpAny_bind (wpAny_holding ?_)
    unfold setAdd
    refine wpAny_holding (wpAny_bind ((strKind prog w).pyHash (k := xs.getD i Str.empty) (strKind_is _ _ _ _) ?_))
    refine wpAny_setAddHashed_of (knd := strKind prog w) (s := { s' with toks := s'.toks + 1 }) (strKind_is _ _ _ _) rfl (carry (s' := s') mv have_) (by have := many_le xs i; omega) fun h2 same put => ?_
    have put2 : h2.SetOf (strKind prog w) S (upto xs (i + 1)) (many xs (i + 1)) := SetOf_congr put (fun z => took lt z) rfl
    refine wpAny_pure ⟨plainId_quiet F.plain_set_update_loop _, ih (i + 1) _ (by omega) lt (W.frame _ s' _ _ now' (Nat.le_succ _) fun b hb o e => ?_) put2 fun s3 mv3 end_ => ?_⟩
    · rw [same.2 b fun z => out (z ▸ hb)]; exact e
    · refine last s3 (Moved.trans W.gtrans ((mv.mono wider).then_heap (Nat.le_succ _) fun b o nb e => ?_) mv3) end_
      rw [same.2 b fun z => nb (z ▸ List.mem_cons_self)]; exact e
variable {E : Value → Shared → Prop} {s : Shared}
set_option maxHeartbeats 3200000 in
theorem make {l : Addr} {items : Array Value} {Q : Value → Shared → Prop} (calm : A.handled = none) (at_ : s.heap.IsList l items) (are : StrsAre items.toList xs) (few : xs.length + 1 < scanBound)
    (h : ∀ (h' : Heap) (tk : Nat), h'.SetOf (strKind prog w) s.heap.objs.size (upto xs xs.length) (many xs xs.length) → (∀ b o, b < s.heap.objs.size → s.heap.get? b = some o → h'.get? b = some o) → Q (.ref s.heap.objs.size) { s with heap := h', toks := tk }) :
    wpAny (model prog w) A (call (.type "set") [.ref l]) Q E s := by
  obtain ⟨c, tl, hmro⟩ := PySem.F.called_set.mro
  obtain ⟨made, sub, notT, canC⟩ := And.intro PySem.F.called_set.made (And.intro PySem.F.called_set.sub (And.intro PySem.F.called_set.notType PySem.F.called_set.canCreate))
  have one := PySem.F.typeCall_set_1 (.ref l)
  refine wpAny_call (codeAny_of_tree (wpAny_pure (a := _) ⟨Code.quiet_builtin _ (by decide +kernel), codeAny_builtin PySem.F.entry_type_call ?_⟩))
  rw [Around.under_plain (weight_type_call_type "set" [.ref l] []) rfl]
  repeat (any_goals (first | assumption | wp_step))
  let new : Obj := { cls := .type "set", dict := none, data := .set #[] 0 (.fresh 0 0 true) }
  let Made : Value → Shared → Prop := fun v s1 => ∃ led : Bool, v = .ref s.heap.objs.size ∧ s1 = { s with heap := s.heap.push { cls := .type "set", dict := none, data := .set #[] 0 (.fresh 0 0 led) } }
  let Full : Value → Shared → Prop := fun v s2 => v = .none ∧ ∃ h' tk, s2 = { s with heap := h', toks := tk } ∧ h'.SetOf (strKind prog w) s.heap.objs.size (upto xs xs.length) (many xs xs.length) ∧ ∀ b o, b < s.heap.objs.size → s.heap.get? b = some o → h'.get? b = some o
  refine codeAny_mono (code_set_new_1 (.ref l) (E := E) (Q₁ := Made) fun led => ⟨led, rfl, rfl⟩) fun r s1 hr => ?_
  match r, hr with
  | .error _, hr => exact hr
  | .ok .next, hr => exact hr.elim
  | .ok .brk, hr => exact hr.elim
  | .ok .cont, hr => exact hr.elim
  | .ok (.ret obj), hr =>
    obtain ⟨led, rfl, rfl⟩ := hr
    have there : (s.heap.push { cls := .type "set", dict := none, data := .set #[] 0 (.fresh 0 0 led) }).get? s.heap.objs.size = some { cls := .type "set", dict := none, data := .set #[] 0 (.fresh 0 0 led) } := Heap.get?_push_size _ rfl
    have typed : Shared.TypeIs { s with heap := s.heap.push { cls := .type "set", dict := none, data := .set #[] 0 (.fresh 0 0 led) } } (.ref s.heap.objs.size) "set" := ⟨_, there, rfl⟩
    have look := PySem.F.called_set.init.lookup
    have bind_ := PySem.F.called_set.init.bind (.ref s.heap.objs.size)
    repeat (any_goals (first | assumption | wp_step))
    refine codeAny_mono (codeAny_call_builtin (R := wants Full E) PySem.F.called_set.init.plain PySem.F.entry_set_init (check_set_init_1 typed ?_)) fun r2 s2 hr2 => ?_
    · obtain ⟨⟨oc, od, odata, osl⟩, lo, lc, ln, ld⟩ := at_
      simp only at lc ld
      subst lc ld
      have lo2 : (s.heap.push { cls := .type "set", dict := none, data := .set #[] 0 (.fresh 0 0 led) }).get? l = some { cls := .type "list", dict := od, data := .seq items ln, slots := osl } := Heap.get?_push_of_some _ lo
      have at2 : (s.heap.push { cls := .type "set", dict := none, data := .set #[] 0 (.fresh 0 0 led) }).IsList l items := ⟨_, lo2, rfl, ln, rfl⟩
      have n1 := PySem.F.sub_list_set
      have n2 := PySem.F.sub_list_frozenset
      have n3 : (Value.type "list" == Value.type "dict") = false := by decide
      unfold Builtin.«set.__init__» noKeywords Builtin.Frozenset.updateFrom
      generalize walk : pyIter = PI
      wp_walk
      subst walk
      refine wpAny_pyIter_list at2 (wpAny_bind (wpAny_runValue ?_))
      have below : l < s.heap.objs.size := Heap.lt_size lo
      have hh3 : A.in1.in1.in1.handled = none := by simp [calm]
      have sz : (s.heap.push { cls := .type "set", dict := none, data := .set #[] 0 (.fresh 0 0 led) }).objs.size = s.heap.objs.size + 1 := Heap.size_push ..
      have len : items.size = xs.length := by rw [← StrsAre.len_eq are, Array.length_toList]
      have far : l ≠ (s.heap.push { cls := .type "set", dict := none, data := .set #[] 0 (.fresh 0 0 led) }).objs.size := by
        rw [sz]
        exact Nat.ne_of_lt (Nat.lt_succ_of_lt below)
      have out : s.heap.objs.size ∉ [(s.heap.push { cls := .type "set", dict := none, data := .set #[] 0 (.fresh 0 0 led) }).objs.size, l] := by
        rw [sz]
        intro z
        simp only [List.mem_cons, List.not_mem_nil, or_false] at z
        exact z.elim (fun e => absurd e (Nat.ne_of_lt (Nat.lt_succ_self _))) fun e => absurd e (Nat.ne_of_gt below)
      refine fill len ((Walks.list hh3 _ l far items).toS) out few (fun i v hv => SS.strs_at are i v (by rw [Array.getElem?_toList]; exact hv)) _ 0 _ rfl (Nat.zero_le _) ⟨⟨_, Heap.get?_push_size _ rfl, rfl, rfl⟩, at2.push _⟩ ?_ ?_
      · have get_ := Heap.get?_push_of_some { cls := .type "list_iterator", data := .fields #[.ref l, .int 0 0] } there
        exact SetOf_congr ((setObjOf_fresh (knd := strKind prog w) led).setOf get_ (by unfold scanBound; omega)) (fun _ => rfl) rfl
      · rintro ⟨h', g', d', tk', os'⟩ mv done_
        obtain rfl : g' = s.gens := mv.gens
        obtain rfl : d' = s.drawn := mv.drawn
        obtain rfl : os' = s.os := mv.os
        refine wpAny_pure (wpAny_pure ⟨rfl, h', tk', rfl, done_, fun b o hb e => ?_⟩)
        refine mv.heap b o (fun z => ?_) (Heap.get?_push_of_some _ (Heap.get?_push_of_some _ e))
        simp only [List.mem_cons, List.not_mem_nil, or_false] at z
        rw [sz] at z
        exact z.elim (fun e => absurd e (Nat.ne_of_lt hb)) fun e => absurd e (Nat.ne_of_lt (Nat.lt_succ_of_lt hb))
    · match r2, hr2 with
      | .error _, hr2 => exact hr2
      | .ok .next, hr2 => exact hr2.elim
      | .ok .brk, hr2 => exact hr2.elim
      | .ok .cont, hr2 => exact hr2.elim
      | .ok (.ret v), hr2 =>
        obtain ⟨rfl, h', tk, rfl, full, keep⟩ := hr2
        repeat (any_goals (first | assumption | wp_step))
        exact h _ _ full keep
end
end LenS
namespace L2
open PySem PySem.Spec PyProof.Rows
theorem strs_vals : ∀ {ys : List Str} {us : List Value}, Vals (ys.map V.str) us → StrsAre us ys
  | [], _, .nil => .nil
  | y :: ys, _, .cons r t => by
    obtain ⟨k, rfl⟩ := r
    exact .cons y k (strs_vals t)
/-- len(set(xs)), xs a list of texts -/
def tLenS (K : PySem.W.Frag) (ta : TE) : TE := fun σ H Q => ta σ H fun x H1 => ∃ l, ∃ xs : List Str, x = .ref l ∧ SqL K H1 l (xs.map V.str) ∧ xs.length ≤ 100 ∧ Q (.int (LenS.many xs xs.length : Nat)) H1
theorem pe_lenS {X : Cx} {a : Expr} {ta : TE} {p p2 q pos : Pos} (hg : Gl X "len") (hm : X.mg "len" = none) (hg2 : Gl X "set") (hm2 : X.mg "set" = none) (ha : PE X a ta) (hc : X.calm = true := by rfl)
    (na : starEach [a] X.env = (false, eval a X.env) :: starEach [] X.env := by rfl) : PE X (.Call (.Name "len" p) [.Call (.Name "set" p2) [a] [] q] [] pos) (tLenS X.K ta) := by
  refine ⟨fun pins s σ H Q I h => ?_⟩
  refine Call_ (ld_blt I hg hm boot_len (callWith_builtin1 (args_cons ?_ rfl) rfl rfl))
  refine Call_ (ld_blt I hg2 hm2 boot_set (callWith_type1 (args_cons (thn (ha.run pins s σ H _ I h) fun v s1 ⟨x, H1, I1, r1, q1⟩ => args_nil ?_) na) na rfl))
  obtain ⟨l, xs, rfl, hq, few, q1⟩ := q1
  cases r1
  obtain ⟨its, r, pl, _⟩ := I1.list hq
  refine LenS.make (I1.ok.hd hc) pl.isList (by simpa using strs_vals r) (by unfold scanBound; omega) fun h' tk full keep => args_nil ?_
  obtain ⟨o, es, ep, t, ho, hex, hd, _, _, _, hf, hn⟩ := full
  have I2 : Inv X pins σ H1 { s1 with heap := h', toks := tk } := I1.kept fun b o e => keep b o (Heap.lt_size e) e
  have le := LenS.many_le xs xs.length
  exact call_len_set ho hex hd hf (by rw [hn]; omega) ⟨.int (LenS.many xs xs.length : Nat), H1, I2.tok _, ⟨_, by rw [hn]⟩, q1⟩
end L2
/-! from k03/TkV -/
namespace L2
open PySem PySem.Spec PyProof.Rows
/-! ### try with several clauses that name their error; one of them takes it -/
abbrev Cl := Value × Nat × (Addr → Value → Option Addr → TS)
/-- behind a clause its name is gone -/
def Ends.gone (D : Ends) (i : Nat) : Ends := { nx := fun σ H => D.nx (σ.set i none) H, rt := D.rt, bk := fun σ H => D.bk (σ.set i none) H, ct := fun σ H => D.ct (σ.set i none) H }
def wCl (K : PySem.W.Frag) (D : Ends) : List Cl → WX
  | [] => fun _ _ _ _ => False
  | k :: r => fun cls d σ H => (PySem.W.exmOne K cls k.1 = some true ∧ ∀ a, H a = none → k.2.2 a cls d (D.gone k.2.1) (σ.set k.2.1 (some (.ref a))) H) ∨ (PySem.W.exmOne K cls k.1 = some false ∧ wCl K D r cls d σ H)
inductive ClOk (X : Cx) : List ExceptHandler → List Cl → Prop
  | nil : ClOk X [] []
  | cons {x n : Str} {c : Value} {i : Nat} {ts : Addr → Value → Option Addr → TS} {b : Stmt} {bs : List Stmt} {p p' : Pos} {hs : List ExceptHandler} {l : List Cl} (hc : Names X x c) (hi : X.N[i]? = some n) (hl : X.env.kindOf n = some .local)
      (su : ∀ (a : Addr) (oe : Obj) (cls : Value) (d : Option Addr) (pn : List (Addr × Obj)), Zc cls d oe → (∃ vs, oe.data = .fields vs) → PSs (X.suite a ((a, oe) :: pn)) (b :: bs) (ts a cls d)) (r : ClOk X hs l) :
      ClOk X (.ExceptHandler (some (.Name x p)) (some n) (b :: bs) p' :: hs) ((c, i, ts) :: l)
section
variable {X : Cx}
/-- a caught error, while the clauses are asked -/
structure Caught (X : Cx) (pins : List (Addr × Obj)) (a : Addr) (G : Heap) (s0 s3 : Shared) (σ : St) (H : Hp) (cls : Value) (d : Option Addr) : Prop where
  inv : Inv X pins σ H s0
  nb : ∀ b o, s0.heap.get? b = some o → b ∉ frs X.stack → G.get? b = some o
  up : s0.heap.UpToSlots s3.heap
  fl : HandSPX.FlyingZ G (X.env :: X.outer) a (Zc cls d) s3.heap
  na : H a = none
  os : s3.os = s0.os
  ag : AllBare s3.gens
variable {pins : List (Addr × Obj)} {a : Addr} {G : Heap} {s0 s3 : Shared} {σ : St} {H : Hp} {cls : Value} {d : Option Addr}
theorem Caught.stand (C : Caught X pins a G s0 s3 σ H cls d) (hf : X.env.frame = some X.env.locals) : ∃ oe, Zc cls d oe ∧ (∃ vs, oe.data = .fields vs) ∧ s3.heap.get? a = some oe ∧ Inv X pins σ H s3 ∧ Inv (X.suite a ((a, oe) :: (X.pn ++ pins))) [] σ H s3 := by
  obtain ⟨oe, vs, e1, e2, e3⟩ := C.fl.there
  have nf : a ∉ frs (X.env :: X.outer) := fun m => by
    obtain ⟨_, o2, e4, q⟩ := C.fl.2.2.1.mem m
    have e5 := e1.symm.trans e4
    injection e5 with e5
    exact q _ (e5 ▸ e3)
  have J := C.inv.landed C.nb C.fl.1 C.up C.os C.ag
  refine ⟨oe, e2, ⟨vs, e3⟩, e1, J, J.suite e1 e3 C.na (fun z => nf ?_) (fun m => nf ?_)⟩
  · exact List.mem_filterMap.mpr ⟨X.env, List.mem_cons_self, by rw [hf, z]⟩
  · obtain ⟨v, hv, q⟩ := List.mem_filterMap.mp m
    exact List.mem_filterMap.mpr ⟨v, List.mem_cons_of_mem _ hv, q⟩
theorem Caught.on (C : Caught X pins a G s0 s3 σ H cls d) {h4 : Heap} (f : HandSPX.FlyingZ G (X.env :: X.outer) a (Zc cls d) h4) (u : s3.heap.UpToSlots h4) : Caught X pins a G s0 { s3 with heap := h4 } σ H cls d :=
  ⟨C.inv, C.nb, C.up.trans u, f, C.na, C.os, C.ag⟩
theorem handle_cl {D : Ends} (hf : X.env.frame = some X.env.locals) (nd : X.N.Nodup) : ∀ {hs : List ExceptHandler} {l : List Cl}, ClOk X hs l → ∀ {s3 : Shared}, Caught X pins a G s0 s3 σ H cls d → wCl X.K D l cls d σ H →
    wpAny (model X.prog X.w) X.A (handleBy (.ref a) X.env hs) (SP X pins D) X.xe s3 := by
  intro hs l ok
  induction ok with
  | nil => intro s3 _ w; exact w.elim
  | @cons x n c i ts b bs p p' hs l hc hi hl su r ih =>
    intro s3 C w
    obtain ⟨oe, z, hv, e1, J, S⟩ := C.stand hf
    refine wpAny_handleBy_cons (codeAny_handlers_test ?_) (fun q => nomatch q)
    have ty : PySem.W.Looks (model X.prog X.w) s3.heap (typeOf (.ref a)) cls := fun A Q E s k q => wpAny_typeOf_ref (k _ _ e1) (by rw [z.1]; exact q)
    have ask : ∀ {Q : Value → Shared → Prop} {E : Value → Shared → Prop}, Q c s3 → wpAny (model X.prog X.w) (X.A.mark (some (.ref a))) (eval (.Name x p) X.env) Q E s3 := fun {Q E} q => by
      obtain ⟨g1, g2, g3 | ⟨g3, g4, g5⟩⟩ := hc
      · exact ld_glob (X := X.suite a ((a, oe) :: (X.pn ++ pins))) S g1 g3 q g2
      · exact ld_blt (X := X.suite a ((a, oe) :: (X.pn ++ pins))) S g1 g3 g4 q g5 g2
    rcases w with ⟨yes, go⟩ | ⟨no, w⟩
    · refine ask ((PySem.W.exm_one (M := model X.prog X.w) J.kIn ty yes).here (codeAny_handlers_suite_as (HandSPX.lands_againZ C.fl fun h4 f u => ?_)))
      obtain ⟨oe4, z4, hv4, e4, J4, S4⟩ := (C.on f u).stand hf
      refine store_ok (X := X.suite a ((a, oe4) :: (X.pn ++ pins))) (v := .ref a) S4 nd hi (.inl hl) rfl (fun s5 S5 => ?_) (.inr hl)
      have last : ∀ {σ6 : St} {H6 : Hp} {s6 : Shared} {Q : Shared → Prop}, Inv (X.suite a ((a, oe4) :: (X.pn ++ pins))) [] σ6 H6 s6 → (∀ s7, Inv X pins (σ6.set i none) H6 s7 → Q s7) →
          wpAny (model X.prog X.w) X.A (do bindName X.env n .none; unbindBehindTheSuite X.env n p') (fun _ s7 => Q s7) X.xe s6 := fun {σ6 H6 s6 Q} T q => gone_ok (T.unsuite J.ok) nd hi hl q
      refine wpAny_mono ((su a oe4 cls d (X.pn ++ pins) z4 hv4).run [] s5 _ H (D.gone i) S5 (go a C.na)) (fun f6 s6 q6 => ?_) (fun _ _ y => False.elim y)
      match f6, q6 with
      | .next, ⟨_, _, T, y⟩ => exact last T fun _ I7 => ⟨_, _, I7, y⟩
      | .brk, ⟨_, _, T, y⟩ => exact last T fun _ I7 => ⟨_, _, I7, y⟩
      | .cont, ⟨_, _, T, y⟩ => exact last T fun _ I7 => ⟨_, _, I7, y⟩
      | .ret _, ⟨_, _, _, T, rv, y⟩ => exact last T fun _ I7 => ⟨_, _, _, I7, rv, y⟩
    · exact ask ((PySem.W.exm_one (M := model X.prog X.w) J.kIn ty no).here (ih C w))
theorem ps_try_cl {body : List Stmt} {h : ExceptHandler} {hs : List ExceptHandler} {l : List Cl} {pos : Pos} {tb : WX → TS} (st : X.stack = X.env :: X.outer) (hf : X.env.frame = some X.env.locals) (nd : X.N.Nodup)
    (hb : ∀ (W : WX) (pn : List (Addr × Obj)) (xe : Value → Shared → Prop), Takes (X.tr pn xe) W → PassesOwn (model X.prog X.w) X.A X.env xe → PSs (X.tr pn xe) body (tb W)) (ok : ClOk X (h :: hs) l) :
    PS X (.Try body (h :: hs) [] [] pos) (fun D σ H => tb (wCl X.K D l) D σ H) := by
  refine ⟨fun pins s σ H D I r => wpAny_Try_except ?_⟩
  refine wpAny_mono ((hb (wCl X.K D l) (X.pn ++ pins) _ (fun u s1 xx => ?_) PassesOwn.looking).run [] s σ H D (I.toTry _) r) (fun f s1 q => ?_) (fun _ _ y => y)
  · obtain ⟨a, G, s0, pins1, σ1, H1, cls, d, rfl, I1, nb, up, sky, na, os, ag, w⟩ := xx
    have fr : X.A.frames = some (X.env :: X.outer) := by rw [I.ok.frames, st]
    have sky1 : Sky G (X.env :: X.outer) a (Zc cls d) X.env.locals s1.heap := by rw [← st]; exact sky
    exact Sky.land Zc.steady fr hf sky1 fun h3 f3 u3 => handle_cl hf nd ok ⟨I1.ofTry I.ok, nb, up.trans u3, f3, na, os, ag⟩ w
  · match f, q with
    | .next, ⟨_, _, I1, y⟩ => exact wpAny_execs_nil ⟨_, _, I1.ofTry I.ok, y⟩
    | .brk, ⟨_, _, I1, y⟩ => exact ⟨_, _, I1.ofTry I.ok, y⟩
    | .cont, ⟨_, _, I1, y⟩ => exact ⟨_, _, I1.ofTry I.ok, y⟩
    | .ret _, ⟨_, _, _, I1, rv, y⟩ => exact ⟨_, _, _, I1.ofTry I.ok, rv, y⟩
end
end L2
set_option maxRecDepth 100000
/-! Objects over the plain data: fields, methods, a new object. -/
namespace Mm
open PySem L2
/-! ## fields -/
theorem lookup_zip {α : Type} : ∀ {fs : List Str} {xs : List α} {i : Nat} {f : Str} {x : α}, fs.Nodup → fs[i]? = some f → xs[i]? = some x → (fs.zip xs).lookup f = some x
  | [], xs, i, f, x, nd, h1, h2 => by simp at h1
  | g :: fs, [], i, f, x, nd, h1, h2 => by simp at h2
  | g :: fs, y :: xs, 0, f, x, nd, h1, h2 => by
    have e1 : g = f := Option.some.inj h1
    have e2 : y = x := Option.some.inj h2
    subst e1; subst e2
    rw [List.zip_cons_cons, List.lookup_cons_self]
  | g :: fs, y :: xs, i + 1, f, x, nd, h1, h2 => by
    rw [List.zip_cons_cons]
    have nd' := List.nodup_cons.mp nd
    have hm : f ∈ fs := List.mem_of_getElem? (i := i) h1
    have ne : (f == g) = false := beq_eq_false_iff_ne.mpr fun e => nd'.1 (e ▸ hm)
    rw [List.lookup_cons, ne]
    exact lookup_zip (i := i) nd'.2 h1 h2
theorem lookup_not {α : Type} : ∀ {fs : List Str} {xs : List α} {f : Str}, f ∉ fs → (fs.zip xs).lookup f = none
  | [], xs, f, h => rfl
  | g :: fs, [], f, h => rfl
  | g :: fs, y :: xs, f, h => by
    have ne : (f == g) = false := beq_eq_false_iff_ne.mpr fun e => h (by rw [e]; exact List.mem_cons_self)
    rw [List.zip_cons_cons, List.lookup_cons, ne]
    exact lookup_not fun z => h (List.mem_cons_of_mem _ z)
theorem putF_zip {v : V} : ∀ {fs : List Str} {xs : List V} {i : Nat} {f : Str}, fs.Nodup → fs[i]? = some f → i ≤ xs.length → putF f v (fs.zip xs) = fs.zip (if i < xs.length then xs.set i v else xs ++ [v])
  | [], xs, i, f, nd, h1, h2 => by simp at h1
  | g :: fs, [], 0, f, nd, h1, h2 => by
    have e1 : g = f := Option.some.inj h1
    subst e1
    cases fs <;> rfl
  | g :: fs, [], i + 1, f, nd, h1, h2 => by simp at h2
  | g :: fs, y :: xs, 0, f, nd, h1, h2 => by
    have e1 : g = f := Option.some.inj h1
    subst e1
    rw [List.zip_cons_cons, if_pos (by simp), List.set_cons_zero, List.zip_cons_cons]
    show (if g = g then (g, v) :: fs.zip xs else (g, y) :: putF g v (fs.zip xs)) = _
    rw [if_pos rfl]
  | g :: fs, y :: xs, i + 1, f, nd, h1, h2 => by
    have nd' := List.nodup_cons.mp nd
    have hm : f ∈ fs := List.mem_of_getElem? (i := i) h1
    have ne : g ≠ f := fun e => nd'.1 (by rw [e]; exact hm)
    rw [List.zip_cons_cons]
    show (if g = f then (g, v) :: fs.zip xs else (g, y) :: putF f v (fs.zip xs)) = _
    rw [if_neg ne, putF_zip (i := i) nd'.2 h1 (by simpa using h2)]
    by_cases hi : i < xs.length
    · rw [if_pos hi, if_pos (by simpa using hi), List.set_cons_succ, List.zip_cons_cons]
    · rw [if_neg hi, if_neg (by simpa using hi), List.cons_append, List.zip_cons_cons]
/-- the field f stands at place i of the class k -/
structure HasF (K : PySem.W.Frag) (Γ : Cls') (k i : Nat) (f : Str) : Prop where
  ok : ∀ C, Γ.at_ k = some C → Cls K C ∧ NoAttr K C f
  at_ : (Γ.fs k)[i]? = some f
  nd : (Γ.fs k).Nodup
  few : (Γ.fs k).length < 1000
section
variable {w : Wn} {W : WX} {σ : St} {c c' : Cn} {H H' : Hp} {n n' : Nat} {S : Sto} {env : Env}
variable {Γ : Cls'} {X : Cx} {a b e o tg : Expr} {es : List Expr} {ma mb mo : EM} {am : AM} {pos : Pos} {Dn : Ends}
/-- an instance: unchangeable, or in the store -/
def insOf (S : Sto) (d : D) : Option (Nat × List D) := match d with
  | .obj k ds => some (k, ds)
  | .loc j => match S[j]? with
    | some (.ins k ds) => some (k, ds)
    | _ => none
  | _ => none
@[simp] theorem insOf_obj (S : Sto) (k : Nat) (ds : List D) : insOf S (.obj k ds) = some (k, ds) := rfl
theorem insOf_loc {S : Sto} {j k : Nat} {ds : List D} (h : S[j]? = some (.ins k ds)) : insOf S (.loc j) = some (k, ds) := by
  unfold insOf; simp only [h]
theorem insOf_at {d : D} {v : V} {k : Nat} {ds : List D} (r : Rep w c H S) (at_ : At w c H S.length d v) (h : insOf S d = some (k, ds)) :
    ∃ p vs C dx, v = .ref p ∧ w.Γ.at_ k = some C ∧ vs.length ≤ (w.Γ.fs k).length ∧ H p = some (.ins C dx ((w.Γ.fs k).zip vs)) ∧ Ats w c H S.length ds vs := by
  cases d with
  | obj k' es =>
    cases h
    unfold At at at_
    obtain ⟨p, vs, C, dx, e, f, g, l, s, t⟩ := at_
    exact ⟨p, vs, C, dx, e, g, l, s, t⟩
  | loc j =>
    unfold insOf at h
    cases hj : S[j]? with
    | none => simp only [hj] at h; cases h
    | some o =>
      cases o with
      | ins k' es =>
        simp only [hj] at h
        cases h
        unfold At at at_
        obtain ⟨vs, C, dx, g, l, s, t⟩ := r.get hj
        exact ⟨_, vs, C, dx, at_.2, g, l, s, t⟩
      | _ => simp only [hj] at h; cases h
  | _ => cases h
/-- cs: the classes that may stand there, and the field's place in each -/
def fldD (cs : List (Nat × Nat)) (d : D) (S : Sto) : Option D := (insOf S d).bind fun p => (cs.lookup p.1).bind fun i => p.2[i]?
def e_fld (cs : List (Nat × Nat)) (m : EM) : EM := fun env S => (m env S).bind fun d S1 => .ofO (fldD cs d S1) S1
theorem mem_of_lookup {α β : Type} [BEq α] [LawfulBEq α] {k : α} {v : β} : ∀ {l : List (α × β)}, l.lookup k = some v → (k, v) ∈ l
  | [], h => by cases h
  | (j, u) :: r, h => by
    rw [List.lookup_cons] at h
    cases e : (k == j) with
    | true =>
      rw [e] at h; cases h
      rw [eq_of_beq e]; exact List.mem_cons_self
    | false => rw [e] at h; exact List.mem_cons_of_mem _ (mem_of_lookup h)
theorem c_fld {cs : List (Nat × Nat)} {f : Str} (hF : ∀ p ∈ cs, HasF X.K Γ p.1 p.2 f) (he : CE Γ X W e ma) (hb : attributeBase e f X.env (eval e X.env) = eval e X.env := by rfl) : CE Γ X W (.Attribute e f pos) (e_fld cs ma) := by
  refine PE.weak (pe_fld he hb) fun σ H Q ⟨c, env, S, r, ev, h⟩ => ?_
  refine ⟨c, env, S, r, ev, (Po.bind h).imp fun v H1 ⟨c1, S1, d1, e1, r1, a1, h1⟩ => ?_⟩
  obtain ⟨y, hy, h1⟩ := Po.ofO h1
  unfold fldD at hy
  cases hi : insOf S1 d1 with
  | none => rw [hi] at hy; cases hy
  | some p =>
    obtain ⟨k, ds⟩ := p
    rw [hi] at hy
    cases hl : cs.lookup k with
    | none => simp only [Option.bind_some, hl] at hy; cases hy
    | some i =>
      simp only [Option.bind_some, hl] at hy
      obtain ⟨q, vs, C, dx, rfl, g, l, s, t⟩ := insOf_at r1 a1 hi
      have F := hF (k, i) (mem_of_lookup hl)
      obtain ⟨u, hu, au⟩ := t.get hy
      exact ⟨q, C, dx, _, u, rfl, s, (F.ok C g).1, (F.ok C g).2, lookup_zip F.nd F.at_ hu, fin_ok h1 r1 au⟩
/-- o.f = e -/
def setF (cs : List (Nat × Nat)) (d z : D) (S : Sto) : Option Sto := match d with
  | .loc j => match S[j]? with
    | some (.ins k ds) => (cs.lookup k).bind fun i => if i < ds.length then some (S.set j (.ins k (ds.set i z))) else if i = ds.length then some (S.set j (.ins k (ds ++ [z]))) else none
    | _ => none
  | _ => none
theorem setF_loc {cs : List (Nat × Nat)} {S : Sto} {j k i : Nat} {ds : List D} {z : D} (h : S[j]? = some (.ins k ds)) (hc : cs.lookup k = some i) (hi : i ≤ ds.length) :
    setF cs (.loc j) z S = some (S.set j (.ins k (if i < ds.length then ds.set i z else ds ++ [z]))) := by
  unfold setF
  simp only [h, hc, Option.bind_some]
  by_cases hl : i < ds.length
  · rw [if_pos hl, if_pos hl]
  · rw [if_neg hl, if_neg hl, if_pos (by omega)]
theorem setF_at {cs : List (Nat × Nat)} {f : Str} {d z : D} {v u : V} {S' : Sto} (hF : ∀ p ∈ cs, HasF w.K w.Γ p.1 p.2 f) (r : Rep w c H S) (a1 : At w c H S.length d v) (a2 : At w c H S.length z u) (h : setF cs d z S = some S') :
    ∃ p C dx fs k, v = .ref p ∧ (∃ i, (k, i) ∈ cs) ∧ w.Γ.at_ k = some C ∧ H p = some (.ins C dx fs) ∧ Cls w.K C ∧ NoAttr w.K C f ∧ fs.length < 1000 ∧ S'.length = S.length ∧ Ext c H S.length c (upd H p (.ins C dx (putF f u fs))) S.length ∧ Rep w c (upd H p (.ins C dx (putF f u fs))) S' := by
  cases d with
  | loc j =>
    unfold setF at h
    cases hj : S[j]? with
    | none => simp only [hj] at h; cases h
    | some ob =>
      cases ob with
      | ins k ds =>
        simp only [hj] at h
        cases hl : cs.lookup k with
        | none => rw [hl] at h; cases h
        | some i =>
          rw [hl, Option.bind_some] at h
          unfold At at a1
          obtain ⟨vs, C, dx, g, l, s, t⟩ := r.get hj
          have F := hF (k, i) (mem_of_lookup hl)
          have few : ((w.Γ.fs k).zip vs).length < 1000 := by rw [List.length_zip]; exact Nat.lt_of_le_of_lt (Nat.min_le_left _ _) F.few
          refine ⟨c.ρ j, C, dx, _, k, a1.2, ⟨i, mem_of_lookup hl⟩, g, s, (F.ok C g).1, (F.ok C g).2, few, ?_⟩
          have fin : ∀ ds', (ds' = if i < ds.length then ds.set i z else ds ++ [z]) → i ≤ ds.length → S' = S.set j (.ins k ds') →
              S'.length = S.length ∧ Ext c H S.length c (upd H (c.ρ j) (.ins C dx (putF f u ((w.Γ.fs k).zip vs)))) S.length ∧ Rep w c (upd H (c.ρ j) (.ins C dx (putF f u ((w.Γ.fs k).zip vs)))) S' := fun ds' e hi es => by
            have il : i < (w.Γ.fs k).length := (List.getElem?_eq_some_iff.mp F.at_).1
            have ex := Ext.wr r (o := .ins C dx (putF f u ((w.Γ.fs k).zip vs))) a1.1 ⟨_, s, trivial⟩
            subst es
            refine ⟨List.length_set, ex, Rep.wr r a1.1 ⟨_, s, trivial⟩ ⟨if i < vs.length then vs.set i u else vs ++ [u], C, dx, g, ?_, ?_, ?_⟩⟩
            · split
              · rw [List.length_set]; exact l
              · rename_i hn
                rw [List.length_append, List.length_singleton]
                have := t.len; omega
            · rw [upd_same, putF_zip F.nd F.at_ (by rw [t.len]; exact hi)]
            · rw [e, t.len]
              split
              · exact (t.set a2 i).mono ex
              · exact (t.app (.one a2)).mono ex
          by_cases h1 : i < ds.length
          · rw [if_pos h1] at h
            exact fin _ (by rw [if_pos h1]) (Nat.le_of_lt h1) (Option.some.inj h).symm
          · rw [if_neg h1] at h
            by_cases h2 : i = ds.length
            · rw [if_pos h2] at h
              exact fin _ (by rw [if_neg h1]) (Nat.le_of_eq h2) (Option.some.inj h).symm
            · rw [if_neg h2] at h; cases h
      | _ => simp only [hj] at h; cases h
  | _ => cases h
def s_fld (cs : List (Nat × Nat)) (mo mv : EM) : SM := fun env S => (mv env S).toS env fun z S1 => (mo env S1).toS env fun d S2 => match setF cs d z S2 with
  | some S3 => .next env S3
  | none => .bad
theorem c_sfld {cs : List (Nat × Nat)} {f : Str} {p' : Pos} (hF : ∀ p ∈ cs, HasF X.K Γ p.1 p.2 f) (ho : CE Γ X W o mo) (hv : CE Γ X W e ma) (hs : swapsWith e (some (.Attribute o f p')) pos.line X.env = pure false := by rfl) : CS Γ X W (.Assign [.Attribute o f p'] e pos) (s_fld cs mo ma) := by
  refine PS.weak (ps_fld ho hv hs) fun Dn σ H ⟨c, env, S, r, ev, h⟩ => ?_
  refine ⟨c, env, S, r, ev, (PoS.part ev h).imp fun v H1 ⟨c1, S1, d1, e1, r1, a1, ev1, h1⟩ => ?_⟩
  refine ⟨c1, env, S1, r1, ev1, (PoS.part ev1 h1).imp fun v2 H2 ⟨c2, S2, d2, e2, r2, a2, ev2, h2⟩ => ?_⟩
  cases hs : setF cs d2 d1 S2 with
  | none => simp only [hs] at h2; exact h2.elim
  | some S3 =>
    simp only [hs] at h2
    obtain ⟨p, C, dx, fs, _, rfl, _, _, s, cl, na, few, hl, ex, rr⟩ := setF_at hF r2 a2 (a1.mono e2) hs
    exact ⟨p, C, dx, fs, rfl, s, cl, na, few, h2 c2 _ σ (by rw [hl]; exact ex) rr (by rw [hl]; exact ev2.mono ex)⟩
/-- o.f op= e, two ints, o of the class k -/
def s_fldaug (k i : Nat) (g : Int → Int → Int) (mo mv : EM) : SM := fun env S => (mo env S).toS env fun d S1 => (R.ofO (fldD [(k, i)] d S1) S1).toS env fun x S2 => (mv env S2).toS env fun y S3 => match x, y with
  | .int i1, .int j1 => match setF [(k, i)] d (.int (g i1 j1)) S3 with
    | some S4 => .next env S4
    | none => .bad
  | _, _ => .bad
theorem c_fldaug {k i : Nat} {f : Str} {op : Operator} {g : Int → Int → Int} {tp : Pos} (hop : InOp X op fun x y H Q => ∃ i j, x = .int i ∧ y = .int j ∧ Q (.int (g i j)) H) (F : HasF X.K Γ k i f) (ho : CE Γ X W o mo) (hv : CE Γ X W e ma) : CS Γ X W (.AugAssign (.Attribute o f tp) op e pos) (s_fldaug k i g mo ma) := by
  have hF : ∀ p ∈ [(k, i)], HasF X.K Γ p.1 p.2 f := fun p hp => by rw [List.mem_singleton.mp hp]; exact F
  refine PS.weak (ps_fldaug ho hv hop) fun Dn σ H ⟨c, env, S, r, ev, h⟩ => ?_
  refine ⟨c, env, S, r, ev, (PoS.part ev h).imp fun v H1 ⟨c1, S1, d1, e1, r1, a1, ev1, h1⟩ => ?_⟩
  cases hy : fldD [(k, i)] d1 S1 with
  | none => rw [hy] at h1; exact h1.elim
  | some x =>
    rw [hy, R.ofO_some, R.toS_ok] at h1
    unfold fldD at hy
    cases hi : insOf S1 d1 with
    | none => rw [hi] at hy; cases hy
    | some p =>
      obtain ⟨k', ds⟩ := p
      rw [hi, Option.bind_some] at hy
      by_cases ek : k' = k
      · subst ek
        rw [List.lookup_cons_self, Option.bind_some] at hy
        obtain ⟨q, vs, C, dx, rfl, gk, l, s, t⟩ := insOf_at r1 a1 hi
        obtain ⟨u, hu, au⟩ := t.get hy
        refine ⟨q, C, dx, _, u, rfl, s, (F.ok C gk).1, (F.ok C gk).2, lookup_zip F.nd F.at_ hu, c1, env, S1, r1, ev1, (PoS.part ev1 h1).imp fun v2 H2 ⟨c2, S2, d2, e2, r2, a2, ev2, h2⟩ => ?_⟩
        cases x with
        | int i1 =>
          cases d2 with
          | int j1 =>
            dsimp only at h2
            cases hs : setF [(k', i)] d1 (.int (g i1 j1)) S2 with
            | none => rw [hs] at h2; exact h2.elim
            | some S3 =>
              rw [hs] at h2
              obtain ⟨p, C', dx', fs', k2, ep, ⟨i2, hm⟩, g2, s', cl, na, few, hl', ex, rr⟩ := setF_at (w := ⟨X.K, Γ⟩) hF r2 (a1.mono e2) (.i (g i1 j1)) hs
              cases ep
              cases List.mem_singleton.mp hm
              rw [gk] at g2
              cases g2
              refine ⟨i1, j1, au.int, a2.int, dx', fs', s', few, ?_⟩
              exact h2 c2 _ σ (by rw [hl']; exact ex) rr (by rw [hl']; exact ev2.mono ex)
          | _ => exact h2.elim
        | _ => cases d2 <;> exact h2.elim
      · have : (k' == k) = false := beq_eq_false_iff_ne.mpr ek
        rw [List.lookup_cons, this] at hy
        cases hy
/-! ## methods -/
/-- the class k has the method x, which is m -/
structure Dm (P : Program) (wd : World) (K : PySem.W.Frag) (mg : Str → Option Value) (base : Heap) (Γ : Cls') (k : Nat) (x : Str) (lv : Nat) (m : FM) : Prop where
  ex : ∃ (C f : Addr) (fd : FuncData) (ps : List Str), Γ.at_ k = some C ∧ Cls K C ∧ Meth K C x f ∧ FnOk P wd K mg base (L2.CX P wd) lv f fd ps (spM K Γ m) ∧ Binds K fd ps []
  nf : x ∉ Γ.fs k
def isI (k : Nat) (d : D) (S : Sto) : Prop := ∃ ds, insOf S d = some (k, ds)
theorem isI_obj (k : Nat) (ds : List D) (S : Sto) : isI k (.obj k ds) S := ⟨ds, rfl⟩
theorem isI_loc {k j : Nat} {ds : List D} {S : Sto} (h : S[j]? = some (.ins k ds)) : isI k (.loc j) S := ⟨ds, insOf_loc h⟩
open Classical in
noncomputable def e_mth (tr : TrF) (k : Nat) (m : FM) (mo : EM) (am : AM) : EM := fun env S => (mo env S).bind fun d S1 => .if (isI k d S1) ((am env S1).bind fun ds S2 => tr S2 (m (d :: ds) S2))
open Classical in
theorem mth_read {k : Nat} {x : Str} {m : FM} {C : Addr} {tr : TrF} {σ : St} {H : Hp} {Q : VK} (ht : TrOk tr) (gC : Γ.at_ k = some C) (nf : x ∉ Γ.fs k) (h : mE ⟨X.K, Γ⟩ W (e_mth tr k m mo am) σ H Q) : tMethXS C x (spM X.K Γ m) (fun σ => WE W σ) (mE ⟨X.K, Γ⟩ W mo) (mA ⟨X.K, Γ⟩ W am) σ H Q := by
  obtain ⟨c, env, S, r, ev, h⟩ := h
  refine ⟨c, env, S, r, ev, (Po.bind h).imp fun v H1 ⟨c1, S1, d1, e1, r1, a1, h1⟩ => ?_⟩
  obtain ⟨⟨ds, hi⟩, h1⟩ := Po.if h1
  obtain ⟨p, vs, C', dx, rfl, g, l, s, t⟩ := insOf_at r1 a1 hi
  rw [gC] at g; cases g
  refine ⟨p, dx, _, rfl, s, lookup_not nf, c1, env, S1, r1, ev.mono e1, (Po.bind h1).imp fun us H2 ⟨c2, S2, es, e2, r2, a2, h2⟩ => ?_⟩
  exact ⟨c2, S2, d1 :: es, r2, .cons (a1.mono e2) a2, (ht _ _ _ _ _ _ _ _ r2 h2).wish fun _ _ _ z => z⟩
theorem c_mth {k lv : Nat} {x : Str} {m : FM} {apos : Pos} {pl : Sem Bool} {tr : TrF} (tok : TrOk tr) (G : Dm X.prog X.w X.K X.mg X.base Γ k x lv m) (go : Goes X W) (hr : Room lv X.A) (ho : CE Γ X W o mo) (ha : CA Γ X W (e :: es) am)
    (ht : eval (.Call (.Attribute o x apos) (e :: es) [] pos) X.env = mcall X o x apos pos (e :: es) pl := by rfl) (h1 : starEach (e :: es) X.env = (false, eval e X.env) :: starEach es X.env := by rfl) (h2 : (backTo pos (starEach es X.env)).any (·.1) = false := by rfl) :
    CE Γ X W (.Call (.Attribute o x apos) (e :: es) [] pos) (e_mth tr k m mo am) := by
  obtain ⟨C, f, fd, ps, gC, cl, me, F, hb⟩ := G.ex
  exact PE.weak (pe_methXS (E := fun σ => WE W σ) ho cl me F hr hb go ha ht h1 h2) fun σ H Q h => mth_read tok gC G.nf h
end
end Mm
namespace L2
open PySem PySem.Spec PyProof.Rows
section
variable {X : Cx} {CX : CXT} {k : Nat} {f C : Addr} {fd : FuncData} {ps : List Str} {sp : Sp} {E : St → XK} {m x : Str} {pos apos p : Pos} {o : Expr} {ta : TE}
/-- o.m(), where an error may come out -/
theorem pe_methXS0 {pl : Sem Bool} (he : PE X o ta) (c : Cls X.K C) (hm : Meth X.K C m f) (F : FnOk X.prog X.w X.K X.mg X.base CX k f fd ps sp) (hr : Room k X.A) (hb : Binds X.K fd ps []) (hx : ∀ σ, PassesAt CX X σ (E σ))
    (ht : eval (.Call (.Attribute o m apos) [] [] pos) X.env = mcall X o m apos pos [] pl := by rfl) : PE X (.Call (.Attribute o m apos) [] [] pos) (tMethXS C m sp E ta tNil) := by
  constructor
  intro pins s σ H Q I h
  refine PySem.W.methodCall_KW (pl := pl) (thn (he.run pins s σ H _ I h) fun u s1 q => ?_) ht
  obtain ⟨_, H1, I1, ru, a, dx, fs, rfl, ea, l, q⟩ := q
  have eu : u = Value.ref a := ru
  subst eu
  refine getmeth_ok I1 ea c hm l ?_
  exact PySem.W.callWith_K0 (first := [.ref a]) I1.kIn hm.kp (run_fnS (us := [.ref a]) (vs := [.ref a]) F hr hb (hx σ) I1 (.cons rfl .nil) q)
/-- C(), where an error may come out of its __init__ -/
theorem pe_makeS0 (M : Mk X.K C f) (F : FnOk X.prog X.w X.K X.mg X.base CX k f fd ps sp) (hr : Room (k + 1) X.A) (hg : Gl X x) (hm : X.mg x = some (.ref C)) (hb : Binds X.K fd ps []) (hx : ∀ σ, PassesAt CX X σ (E σ))
    (hdb : (x == ("__debug__" : Str)) = false := by decide) : PE X (.Call (.Name x p) [] [] pos) (tMakeS C sp E tNil) := by
  constructor
  intro pins s σ H Q I q
  refine wpAny_Call_Name_kw (ld_glob I hg hm ?_ hdb)
  refine PySem.W.callWith_K0 I.kIn M.kp ?_
  have q1 := q (s.heap.objs.size + 1) s.heap.objs.size (I.hok.fresh (Nat.le_succ _)) (I.hok.fresh (Nat.le_refl _)) (Nat.ne_of_lt (Nat.lt_succ_self _))
  have J2 := Inv.made (C := C) I
  have rr : Vals (V.ref (s.heap.objs.size + 1) :: []) (Value.ref (s.heap.objs.size + 1) :: []) := .cons rfl .nil
  have hl : (Value.ref (s.heap.objs.size + 1) :: [] ++ []).length = ps.length := by
    rw [List.append_nil, ← rr.length]; exact F.len _ _ _ _ q1
  have bd := hb _ (Value.ref (s.heap.objs.size + 1) :: []) J2.kIn hl
  rw [List.append_nil] at bd
  refine wpAny_call (make_map (f := f) I.kIn M.makes M.init (beq_iff_eq.mp M.fn) (codeAny_mono (F.run _ X.stack _ _ ⟨Value.ref (s.heap.objs.size + 1) :: [], []⟩ _ _ _ (E σ) (hr.make C [] []) (J2.env0.make C [] []) bd rr q1) fun res s' hq => ?_))
  match res, hq with
  | .error err, hq => exact hx σ pins _ _ err s' J2 hq
  | .ok (.ret u), hq =>
    obtain ⟨v, H', J3, rv, ev, q3⟩ := J2.after hq
    subst ev
    exact ⟨rv, ⟨V.ref (s.heap.objs.size + 1), H', J3, rfl, q3⟩⟩
end
end L2
namespace Mm
open PySem L2
section
variable {w : Wn} {W : WX} {σ : St} {c c' : Cn} {H H' : Hp} {n n' : Nat} {S : Sto} {env : Env}
variable {Γ : Cls'} {X : Cx} {a b e o tg : Expr} {es : List Expr} {ma mb mo : EM} {am : AM} {pos : Pos} {Dn : Ends}
theorem ca_nil_read {Q : List V → Hp → Prop} (h : mA w W a_nil σ H Q) : tNil σ H Q := by
  obtain ⟨c, env, S, r, ev, h⟩ := h
  exact h c H [] Ext.refl r .nil
theorem tMethXS_nil {C : Addr} {x : Str} {sp : Sp} {E : St → XK} {m : EM} {Q : VK} (h : tMethXS C x sp E (mE w W m) (mA w W a_nil) σ H Q) : tMethXS C x sp E (mE w W m) tNil σ H Q := by
  obtain ⟨c, env, S, r, ev, h⟩ := h
  exact ⟨c, env, S, r, ev, h.imp fun v H ⟨a, dx, fs, h1, h2, h3, h4⟩ => ⟨a, dx, fs, h1, h2, h3, ca_nil_read h4⟩⟩
theorem mE.imp {m : EM} {Q Q' : VK} (i : ∀ v H, Q v H → Q' v H) (h : mE w W m σ H Q) : mE w W m σ H Q' := by
  obtain ⟨c, env, S, r, ev, h⟩ := h
  exact ⟨c, env, S, r, ev, h.imp i⟩
theorem c_mth0 {k lv : Nat} {x : Str} {m : FM} {apos : Pos} {pl : Sem Bool} {tr : TrF} (tok : TrOk tr) (G : Dm X.prog X.w X.K X.mg X.base Γ k x lv m) (go : Goes X W) (hr : Room lv X.A) (ho : CE Γ X W o mo)
    (ht : eval (.Call (.Attribute o x apos) [] [] pos) X.env = mcall X o x apos pos [] pl := by rfl) : CE Γ X W (.Call (.Attribute o x apos) [] [] pos) (e_mth tr k m mo a_nil) := by
  obtain ⟨C, f, fd, ps, gC, cl, me, F, hb⟩ := G.ex
  exact PE.weak (pe_methXS0 (E := fun σ => WE W σ) ho cl me F hr hb go ht) fun σ H Q h => tMethXS_nil (mth_read tok gC G.nf h)
/-! ## a new object -/
/-- the class k stands under its name; its __init__ is m -/
structure Dk (P : Program) (wd : World) (K : PySem.W.Frag) (mg : Str → Option Value) (base : Heap) (Γ : Cls') (k : Nat) (x : Str) (lv : Nat) (m : FM) : Prop where
  ex : ∃ (C f : Addr) (fd : FuncData) (ps : List Str), Γ.at_ k = some C ∧ mg x = some (.ref C) ∧ Mk K C f ∧ FnOk P wd K mg base (L2.CX P wd) lv f fd ps (spM K Γ m) ∧ Binds K fd ps []
def mkD (k : Nat) (m : FM) (ds : List D) (S : Sto) : R D := (m (.loc S.length :: ds) (S ++ [.ins k []])).bind fun d S2 => match d with
  | .non => .ok (.loc S.length) S2
  | _ => .bad
def e_mk (tr : TrF) (k : Nat) (m : FM) (am : AM) : EM := fun env S => (am env S).bind fun ds S1 => tr S1 (mkD k m ds S1)
/-- a new instance without fields -/
theorem mk_start {k : Nat} {C x dx : Addr} {ds : List D} {vs : List V} (r : Rep w c H S) (gC : w.Γ.at_ k = some C) (t : Ats w c H S.length ds vs) (hx : H x = none) (hd : H dx = none) (ne : dx ≠ x) :
    Ext c H S.length (c.nw S.length x) (upd (upd H dx (.own x)) x (.ins C dx [])) (S ++ [SO.ins k []]).length ∧ Rep w (c.nw S.length x) (upd (upd H dx (.own x)) x (.ins C dx [])) (S ++ [.ins k []]) ∧
      Ats w (c.nw S.length x) (upd (upd H dx (.own x)) x (.ins C dx [])) (S ++ [SO.ins k []]).length (.loc S.length :: ds) (.ref x :: vs) := by
  have hl : (S ++ [SO.ins k []]).length = S.length + 1 := by rw [List.length_append]; rfl
  have e1 : Ext c H S.length c (upd H dx (.own x)) S.length := Ext.grow hd
  have r1 : Rep w c (upd H dx (.own x)) S := r.grow hd
  have hx1 : (upd H dx (.own x)) x = none := by rw [upd_ne (Ne.symm ne)]; exact hx
  have e2 : Ext c (upd H dx (.own x)) S.length (c.nw S.length x) (upd (upd H dx (.own x)) x (.ins C dx [])) (S.length + 1) := Ext.nw hx1
  rw [hl]
  refine ⟨e1.trans e2, r1.nw hx1 ⟨[], C, dx, gC, Nat.zero_le _, by rw [upd_same, List.zip_nil_right], .nil⟩, .cons ?_ (t.mono (e1.trans e2))⟩
  unfold At
  exact ⟨Nat.lt_succ_self _, by rw [Cn.nw_at]⟩
theorem mk_read {k : Nat} {m : FM} {C : Addr} {tr : TrF} {σ : St} {H : Hp} {Q : VK} (ht : TrOk tr) (gC : Γ.at_ k = some C) (h : mE ⟨X.K, Γ⟩ W (e_mk tr k m am) σ H Q) : tMakeS C (spM X.K Γ m) (fun σ => WE W σ) (mA ⟨X.K, Γ⟩ W am) σ H Q := by
  obtain ⟨c, env, S, r, ev, h⟩ := h
  refine ⟨c, env, S, r, ev, (Po.bind h).imp fun vs H1 ⟨c1, S1, ds, e1, r1, a1, h1⟩ x dx hx hd ne => ?_⟩
  obtain ⟨e2, r2, t2⟩ := mk_start (w := ⟨X.K, Γ⟩) r1 gC a1 hx hd ne
  have h2 := Po.mono e2 (ht _ _ _ _ _ _ _ _ r1 h1)
  refine ⟨_, _, _, r2, t2, ?_⟩
  refine Po.wish ((Po.bind h2).imp fun v H3 ⟨c3, S3, d3, e3, r3, a3, h3⟩ => ?_) fun _ _ _ z => z
  cases d3 with
  | non =>
    refine ⟨a3.non, h3 c3 H3 _ Ext.refl r3 ?_⟩
    have hl : (S1 ++ [SO.ins k []]).length = S1.length + 1 := by rw [List.length_append]; rfl
    unfold At
    have hlt : S1.length < (S1 ++ [SO.ins k []]).length := by rw [hl]; exact Nat.lt_succ_self _
    exact ⟨Nat.lt_of_lt_of_le hlt e3.le, by rw [e3.rho _ hlt, Cn.nw_at]⟩
  | _ => exact h3.elim
theorem c_mk {k lv : Nat} {x : Str} {m : FM} {p : Pos} {tr : TrF} (tok : TrOk tr) (G : Dk X.prog X.w X.K X.mg X.base Γ k x lv m) (go : Goes X W) (hr : Room (lv + 1) X.A) (hg : Gl X x) (ha : CA Γ X W (e :: es) am)
    (hdb : (x == ("__debug__" : Str)) = false := by decide) (he : starEach (e :: es) X.env = (false, eval e X.env) :: starEach es X.env := by rfl) (hpl : (backTo pos (starEach es X.env)).any (·.1) = false := by rfl) : CE Γ X W (.Call (.Name x p) (e :: es) [] pos) (e_mk tr k m am) := by
  obtain ⟨C, f, fd, ps, gC, hm, M, F, hb⟩ := G.ex
  exact PE.weak (pe_makeS (E := fun σ => WE W σ) M F hr hg hm hb go ha hdb he hpl) fun σ H Q h => mk_read tok gC h
theorem tMakeS_nil {C : Addr} {sp : Sp} {E : St → XK} {Q : VK} (h : tMakeS C sp E (mA w W a_nil) σ H Q) : tMakeS C sp E tNil σ H Q := ca_nil_read h
theorem c_mk0 {k lv : Nat} {x : Str} {m : FM} {p : Pos} {tr : TrF} (tok : TrOk tr) (G : Dk X.prog X.w X.K X.mg X.base Γ k x lv m) (go : Goes X W) (hr : Room (lv + 1) X.A) (hg : Gl X x) (hdb : (x == ("__debug__" : Str)) = false := by decide) : CE Γ X W (.Call (.Name x p) [] [] pos) (e_mk tr k m a_nil) := by
  obtain ⟨C, f, fd, ps, gC, hm, M, F, hb⟩ := G.ex
  exact PE.weak (pe_makeS0 (E := fun σ => WE W σ) M F hr hg hm hb go hdb) fun σ H Q h => tMakeS_nil (mk_read tok gC h)
/-! ## a class's own operators -/
/-- the class k has its own operator x, which is m -/
structure Dn' (P : Program) (wd : World) (K : PySem.W.Frag) (mg : Str → Option Value) (base : Heap) (Γ : Cls') (k : Nat) (x : Str) (lv : Nat) (m : FM) : Prop where
  ex : ∃ (C f : Addr) (fd : FuncData) (ps : List Str), Γ.at_ k = some C ∧ OwnM K C x f ∧ PySem.W.fnIn K f = true ∧ FnOk P wd K mg base (L2.CX P wd) lv f fd ps (spM K Γ m) ∧ Binds K fd ps []
open Classical in
noncomputable def e_own2 (tr : TrF) (k : Nat) (m : FM) (ma mb : EM) : EM := fun env S => (ma env S).bind fun x S1 => (mb env S1).bind fun y S2 => .if (isI k x S2) (tr S2 (m [x, y] S2))
open Classical in
theorem c_ixOwn {k lv : Nat} {m : FM} {tr : TrF} (tok : TrOk tr) (G : Dn' X.prog X.w X.K X.mg X.base Γ k "__getitem__" lv m) (go : Goes X W) (hr : Room (lv + 1) X.A) (ha : CE Γ X W a ma) (hb : CE Γ X W b mb) (hs : ∀ o i, subscripted b true o i = runValue (.builtin "lifetime.subscript" ⟨[o, i], []⟩) := by exact fun _ _ => rfl) :
    CE Γ X W (.Subscript a b pos) (e_own2 tr k m ma mb) := by
  obtain ⟨C, f, fd, ps, gC, M, hf, F, hbi⟩ := G.ex
  refine PE.weak (ix_ownS (value := a) (slice := b) (E := fun σ => WE W σ) M hf F hr hbi go ha hb hs) fun σ H Q ⟨c, env, S, r, ev, h⟩ => ?_
  refine ⟨c, env, S, r, ev, (Po.bind h).imp fun v H1 ⟨c1, S1, d1, e1, r1, a1, h1⟩ => ?_⟩
  refine ⟨c1, env, S1, r1, ev.mono e1, (Po.bind h1).imp fun u H2 ⟨c2, S2, d2, e2, r2, a2, h2⟩ => ?_⟩
  obtain ⟨⟨ds, hi⟩, h2⟩ := Po.if h2
  obtain ⟨p, vs, C', dx, rfl, g, l, s, t⟩ := insOf_at r2 (a1.mono e2) hi
  rw [gC] at g; cases g
  exact ⟨p, dx, _, rfl, s, c2, S2, [d1, d2], r2, .cons (a1.mono e2) (.one a2), (tok _ _ _ _ _ _ _ _ r2 h2).wish fun _ _ _ z => z⟩
open Classical in
/-- y in x by x's own __contains__; neg: not in. No error comes out -/
noncomputable def e_ownIn (tr : TrF) (neg : Bool) (k : Nat) (m : FM) (ma mb : EM) : EM := fun env S => (ma env S).bind fun y S1 => (mb env S1).bind fun x S2 => .if (isI k x S2) ((tr S2 (m [x, y] S2)).nox.bind fun d S3 => match d with
  | .bl b => .ok (.bl (neg ^^ b)) S3
  | _ => .bad)
theorem passes_not {X : Cx} : Passes (L2.CX X.prog X.w) X (fun _ _ _ => False) := fun pins σ H s e s' I h => by
  obtain ⟨a, B, H', cls, d, _, _, _, _, _, _, _, z⟩ := h
  exact z.elim
theorem nox_bl {r : R D} {neg : Bool} {Q : VK} (h : PoE w W σ c H n (r.nox.bind fun d S3 => match d with
  | .bl b => .ok (.bl (neg ^^ b)) S3
  | _ => .bad) Q) : PoE w (fun _ _ _ _ => False) [] c H n r fun v H' => ∃ k, v = .bl k ∧ Q (.bl (if neg then !k else k)) H' := by
  cases r with
  | ok d S =>
    intro c1 H1 v e1 r1 a1
    cases d with
    | bl b =>
      refine ⟨b, a1.bl, ?_⟩
      have := h c1 H1 (.bl (neg ^^ b)) e1 r1 (.b _)
      cases neg <;> simpa using this
    | _ => exact h.elim
  | ex x S => exact h.elim
  | bad => exact h.elim
/-- trunc and nox: what tr does to an outcome without errors -/
theorem tr_nox {tr : TrF} (tok : TrOk tr) {r : R D} {Q : VK} (rp : Rep w c H S) (h : PoE w (fun _ _ _ _ => False) [] c H S.length (tr S r) Q) : PoE w (fun _ _ _ _ => False) [] c H S.length r Q := tok _ _ _ _ _ _ _ _ rp h
theorem g_ownIn {k lv : Nat} {m : FM} {tr : TrF} {neg : Bool} {C : Addr} (tok : TrOk tr) (gC : Γ.at_ k = some C) : ∀ (W : WX) (σ : St) (c : Cn) (H : Hp) (S : Sto) (y x : D) (u v : V) (Q : VK), Rep ⟨X.K, Γ⟩ c H S → At ⟨X.K, Γ⟩ c H S.length y u → At ⟨X.K, Γ⟩ c H S.length x v → ∀ ds, insOf S x = some (k, ds) → PoE ⟨X.K, Γ⟩ W σ c H S.length ((tr S (m [x, y] S)).nox.bind fun d S3 => match d with
  | .bl b => .ok (.bl (neg ^^ b)) S3
  | _ => .bad) Q → rOwnIn C (spM X.K Γ m) (fun _ _ _ => False) neg u v H Q := by
  intro W σ c H S y x u v Q r ay ax ds hi h
  obtain ⟨p, vs, C', dx, rfl, g, l, s, t⟩ := insOf_at r ax hi
  rw [gC] at g; cases g
  exact ⟨p, dx, _, rfl, s, c, S, [x, y], r, .cons ax (.one ay), tr_nox tok r (nox_bl h)⟩
open Classical in
theorem c_inOwn {k lv : Nat} {m : FM} {tr : TrF} (tok : TrOk tr) (G : Dn' X.prog X.w X.K X.mg X.base Γ k "__contains__" lv m) (hr : Room lv X.A) (ha : CE Γ X W a ma) (hb : CE Γ X W b mb) (hm : behindInMarks .In b = false) : CE Γ X W (.Compare a [.In] [b] pos) (e_ownIn tr false k m ma mb) := by
  obtain ⟨C, f, fd, ps, gC, M, hf, F, hbi⟩ := G.ex
  refine PE.weak (pe_cmpR (op_inOwn M F hr hbi passes_not) ha hb hm) fun σ H Q ⟨c, env, S, r, ev, h⟩ => ?_
  refine ⟨c, env, S, r, ev, (Po.bind h).imp fun v H1 ⟨c1, S1, d1, e1, r1, a1, h1⟩ => ?_⟩
  refine ⟨c1, env, S1, r1, ev.mono e1, (Po.bind h1).imp fun u H2 ⟨c2, S2, d2, e2, r2, a2, h2⟩ => ?_⟩
  obtain ⟨⟨ds, hi⟩, h2⟩ := Po.if h2
  exact g_ownIn (lv := lv) tok gC W σ c2 H2 S2 d1 d2 v u Q r2 (a1.mono e2) a2 ds hi h2
open Classical in
theorem c_tinOwn {k lv : Nat} {m : FM} {tr : TrF} {neg : Bool} {op : CmpOp} (tok : TrOk tr) (G : Dn' X.prog X.w X.K X.mg X.base Γ k "__contains__" lv m) (hr : Room lv X.A) (ha : CE Γ X W a ma) (hb : CE Γ X W b mb) (hop : (op = .In ∧ neg = false) ∨ (op = .NotIn ∧ neg = true)) (hm : behindInMarks op b = false) : CT Γ X W (.Compare a [op] [b] pos) (t_b (e_ownIn tr neg k m ma mb)) := by
  obtain ⟨C, f, fd, ps, gC, M, hf, F, hbi⟩ := G.ex
  have oo : OpR X (compareOp op) (rOwnIn C (spM X.K Γ m) (fun _ _ _ => False) neg) := by
    rcases hop with ⟨rfl, rfl⟩ | ⟨rfl, rfl⟩
    · exact op_inOwn M F hr hbi passes_not
    · exact op_notInOwn M F hr hbi passes_not
  refine PT.weak (pt_cmpR oo ha hb hm) fun σ H Q h => ?_
  obtain ⟨c, env, S, r, ev, h⟩ := tB_ok h
  refine ⟨c, env, S, r, ev, (Po.bind h).imp fun v H1 ⟨c1, S1, d1, e1, r1, a1, h1⟩ => ?_⟩
  refine ⟨c1, env, S1, r1, ev.mono e1, (Po.bind h1).imp fun u H2 ⟨c2, S2, d2, e2, r2, a2, h2⟩ => ?_⟩
  obtain ⟨⟨ds, hi⟩, h2⟩ := Po.if h2
  exact g_ownIn (lv := lv) tok gC W σ c2 H2 S2 d1 d2 v u _ r2 (a1.mono e2) a2 ds hi h2
end
end Mm
set_option maxRecDepth 100000
/-! Short words for what a program says. -/
namespace Mm
open PySem L2
section
variable {w : Wn} {W : WX} {σ : St} {c c' : Cn} {H H' : Hp} {n n' : Nat} {S : Sto} {env : Env}
variable {Γ : Cls'} {X : Cx} {a b e o tg : Expr} {es : List Expr} {ma mb mo : EM} {am : AM} {pos : Pos} {Dn : Ends}
abbrev subD := intD0 fun i j => .int (i - j)
abbrev modD := intD (fun _ j => 0 < j) fun i j => .int (i % j)
abbrev divD := intD CDiv fun i j => .int (i / j)
abbrev powD := intD CPow fun i j => .int (i ^ j.toNat)
abbrev ltD := intD0 fun i j => .bl (decide (i < j))
abbrev leD := intD0 fun i j => .bl (decide (i ≤ j))
abbrev gtD := intD0 fun i j => .bl (decide (j < i))
abbrev geD := intD0 fun i j => .bl (decide (j ≤ i))
abbrev max2D := intD0 fun i j => .int (if j > i then j else i)
abbrev min2D := intD0 fun i j => .int (if j < i then j else i)
theorem g_sub : GOp Γ X subD (rI0 fun i j => .int (i - j)) := g_int0 fun _ _ => rfl
theorem g_mod : GOp Γ X modD (rI (fun _ j => 0 < j) fun i j => .int (i % j)) := g_int fun _ _ => rfl
theorem g_div : GOp Γ X divD (rI CDiv fun i j => .int (i / j)) := g_int fun _ _ => rfl
theorem g_pow : GOp Γ X powD (rI CPow fun i j => .int (i ^ j.toNat)) := g_int fun _ _ => rfl
theorem g_lt : GOp Γ X ltD (rI0 fun i j => .bl (decide (i < j))) := g_int0 fun _ _ => rfl
theorem g_le : GOp Γ X leD (rI0 fun i j => .bl (decide (i ≤ j))) := g_int0 fun _ _ => rfl
theorem g_gt : GOp Γ X gtD (rI0 fun i j => .bl (decide (j < i))) := g_int0 fun _ _ => rfl
theorem g_ge : GOp Γ X geD (rI0 fun i j => .bl (decide (j ≤ i))) := g_int0 fun _ _ => rfl
theorem g_max2 : GCall Γ X (f2 max2D) (fun xs H Q => ∃ i j, xs = [.int i, .int j] ∧ Q (.int (if j > i then j else i)) H) := g_int2
theorem g_min2 : GCall Γ X (f2 min2D) (fun xs H Q => ∃ i j, xs = [.int i, .int j] ∧ Q (.int (if j < i then j else i)) H) := g_int2
theorem g_isN : GOp Γ X (isD false) (fun x y H Q => y = .non ∧ Q (.bl (decide (x = .non))) H) := by
  intro W σ c H S x y v u Q r a b h
  cases y with
  | non => exact ⟨b.non, by rw [isNon_at a]; simpa using fin_ok h r (.b _)⟩
  | _ => exact h.elim
theorem g_notN : GOp Γ X (isD true) (fun x y H Q => y = .non ∧ Q (.bl (!decide (x = .non))) H) := by
  intro W σ c H S x y v u Q r a b h
  cases y with
  | non => exact ⟨b.non, by rw [isNon_at a]; simpa using fin_ok h r (.b _)⟩
  | _ => exact h.elim
def negD (x : D) (S : Sto) : R D := match x with
  | .int i => .ok (.int (-i)) S
  | _ => .bad
@[simp] theorem negD_int (i : Int) (S : Sto) : negD (.int i) S = .ok (.int (-i)) S := rfl
def e_neg (m : EM) : EM := fun env S => (m env S).bind negD
theorem c_neg (ha : CE Γ X W a ma) : CE Γ X W (.UnaryOp .USub a pos) (e_neg ma) := by
  refine PE.weak (pe_un un_neg ha) fun σ H Q ⟨c, env, S, r, ev, h⟩ => ?_
  refine ⟨c, env, S, r, ev, (Po.bind h).imp fun v H1 ⟨c1, S1, d1, e1, r1, a1, h1⟩ => ?_⟩
  cases d1 with
  | int i => exact ⟨i, a1.int, fin_ok h1 r1 (.i _)⟩
  | _ => exact h1.elim
/-! ## x in xs, the items as data -/
def inD (neg : Bool) (x y : D) (S : Sto) : R D := match pyOf S x, (seqOf S y).bind pyDs with
  | some p, some ps => .if (SeqAt.shaped p = true ∧ SeqAt.shaped (.list ps) = true) (.ok (.bl (neg ^^ ps.any fun z => PyData.eqv z p)) S)
  | _, _ => .bad
/-! ## names -/
theorem cv (i : Nat) {x : Str} {pos : Pos} (hN : X.N[i]? = some x := by rfl) (hv : Vis X.env.scope x := by first | exact Or.inl rfl | exact Or.inr (Or.inl rfl) | exact Or.inr (Or.inr rfl)) (hd : (x == ("__debug__" : Str)) = false := by decide)
    (hcd : (x == ("__classdict__" : Str)) = false := by decide) : CE Γ X W (.Name x pos) (e_v i) := c_var hN hv hd hcd
theorem cgn (i : Nat) {x : Str} {pos : Pos} (hN : X.N.Nodup) (hi : X.N[i]? = some x := by rfl) (hx : Loc X.env.scope x := by first | exact Or.inl rfl | exact Or.inr rfl) (hf : X.fn x = true ∨ X.env.scope.names.lookup x = some .local := by first | exact .inl rfl | exact .inr rfl) : CG Γ X (.Name x pos) [i] (g_name i) := c_gname hN hi hx hf
theorem cset (i : Nat) {x : Str} {pos pos' : Pos} (hN : X.N.Nodup) (he : CE Γ X W e ma) (hi : X.N[i]? = some x := by rfl) (hx : Loc X.env.scope x := by first | exact Or.inl rfl | exact Or.inr rfl) (hs : swapsWith e (some (.Name x pos')) pos.line X.env = pure false := by rfl) (hf : X.fn x = true ∨ X.env.scope.names.lookup x = some .local := by first | exact .inl rfl | exact .inr rfl) :
    CS Γ X W (.Assign [.Name x pos'] e pos) (s_set i ma) := c_set hN hi hx he hs hf
theorem hF1 {K : PySem.W.Frag} {p : Nat × Nat} {f : Str} (h : HasF K Γ p.1 p.2 f) : ∀ q ∈ [p], HasF K Γ q.1 q.2 f := fun q hq => by rw [List.mem_singleton.mp hq]; exact h
theorem hF2 {K : PySem.W.Frag} {p p2 : Nat × Nat} {f : Str} (h : HasF K Γ p.1 p.2 f) (h2 : HasF K Γ p2.1 p2.2 f) : ∀ q ∈ [p, p2], HasF K Γ q.1 q.2 f := fun q hq => by
  rcases List.mem_cons.mp hq with rfl | hq
  · exact h
  · rw [List.mem_singleton.mp hq]; exact h2
theorem hF3 {K : PySem.W.Frag} {p p2 p3 : Nat × Nat} {f : Str} (h : HasF K Γ p.1 p.2 f) (h2 : HasF K Γ p2.1 p2.2 f) (h3 : HasF K Γ p3.1 p3.2 f) : ∀ q ∈ [p, p2, p3], HasF K Γ q.1 q.2 f := fun q hq => by
  rcases List.mem_cons.mp hq with rfl | hq
  · exact h
  · exact hF2 h2 h3 q hq
theorem hu64 {k : Nat} {A : Around} (hr : Room k A) : A.units + 64 < cLine := by have := hr.un; omega
theorem go_def {P : Program} {wd : World} {K : PySem.W.Frag} {mg : Str → Option Value} {base : Heap} {N : List Str} {qual : Str} {sc : Scope} {f : Addr} {cd : Value} {A : Around} {outer : List PySem.Env} {s : Shared} {H : Hp} {E : XK} :
    Goes (cxOf (L2.CX P wd) P wd K mg base N qual sc f cd A outer s H E) (fun C dd _ H => E C dd H) := goes_of (takes_of rfl rfl rfl rfl)
end
/-! ## what a term means: the parts' own equations -/
@[simp] theorem e_op_eq (g : D → D → Sto → R D) (ma mb : EM) (env : Env) (S : Sto) : e_op g ma mb env S = (ma env S).bind fun x S1 => (mb env S1).bind fun y S2 => g x y S2 := rfl
@[simp] theorem e_v_eq (i : Nat) (env : Env) (S : Sto) : e_v i env S = match env[i]? with
  | some (some d) => .ok d S
  | _ => .bad := rfl
@[simp] theorem a_nil_eq (env : Env) (S : Sto) : a_nil env S = .ok [] S := rfl
@[simp] theorem a_cons_eq (m : EM) (r : AM) (env : Env) (S : Sto) : a_cons m r env S = (m env S).bind fun d S1 => (r env S1).bind fun ds S2 => .ok (d :: ds) S2 := rfl
@[simp] theorem e_tup_eq (m : AM) (env : Env) (S : Sto) : e_tup m env S = (m env S).bind fun ds S1 => .if (ds.length ≤ 1000) (.ok (.tup ds) S1) := rfl
@[simp] theorem e_lst_eq (m : AM) (env : Env) (S : Sto) : e_lst m env S = (m env S).bind fun ds S1 => .if (ds.length ≤ 1000) (.ok (.lst ds) S1) := rfl
@[simp] theorem e_new_eq (m : AM) (env : Env) (S : Sto) : e_new m env S = (m env S).bind fun ds S1 => .if (ds.length ≤ 1000) (.ok (.loc S1.length) (S1 ++ [.lst ds])) := rfl
@[simp] theorem e_call_eq (g : List D → Sto → R D) (m : AM) (env : Env) (S : Sto) : e_call g m env S = (m env S).bind fun ds S1 => g ds S1 := rfl
@[simp] theorem e_fn_eq (tr : TrF) (m : FM) (am : AM) (env : Env) (S : Sto) : e_fn tr m am env S = (am env S).bind fun ds S1 => tr S1 (m ds S1) := rfl
@[simp] theorem e_sl_eq (m : EM) (l h : OM) (env : Env) (S : Sto) : e_sl m l h env S = (m env S).bind fun d S1 => (l env S1).bind fun lo S2 => (h env S2).bind fun hi S3 => slD d lo hi S3 := rfl
@[simp] theorem o_none_eq (env : Env) (S : Sto) : o_none env S = .ok none S := rfl
@[simp] theorem o_some_eq (m : EM) (env : Env) (S : Sto) : o_some m env S = (m env S).bind fun d S1 => match d with
  | .int i => .ok (some i) S1
  | _ => .bad := rfl
@[simp] theorem s_seq_eq (m f : SM) (env : Env) (S : Sto) : s_seq m f env S = (m env S).bind f := rfl
@[simp] theorem s_nil_eq (env : Env) (S : Sto) : s_nil env S = .next env S := rfl
@[simp] theorem s_set_eq (i : Nat) (m : EM) (env : Env) (S : Sto) : s_set i m env S = (m env S).toS env fun d S1 => .next (env.set i (some d)) S1 := rfl
@[simp] theorem s_ret_eq (m : EM) (env : Env) (S : Sto) : s_ret m env S = (m env S).toS env fun d S1 => .ret d S1 := rfl
@[simp] theorem s_ex_eq (m : EM) (env : Env) (S : Sto) : s_ex m env S = (m env S).toS env fun _ S1 => .next env S1 := rfl
@[simp] theorem s_if_eq (t : TM) (p q : SM) (env : Env) (S : Sto) : s_if t p q env S = (t env S).toS env fun k S1 => if k = true then p env S1 else q env S1 := rfl
@[simp] theorem s_asg_eq (m : EM) (g : GM) (env : Env) (S : Sto) : s_asg m g env S = (m env S).toS env fun d S1 => match g d env with
  | some env1 => .next env1 S1
  | none => .bad := rfl
@[simp] theorem s_put_eq (mv mo mi : EM) (env : Env) (S : Sto) : s_put mv mo mi env S = (mv env S).toS env fun z S1 => (mo env S1).toS env fun x S2 => (mi env S2).toS env fun y S3 => match setL S3 x y z with
  | some S4 => .next env S4
  | none => .bad := rfl
@[simp] theorem s_for_eq (im : IM) (g : GM) (body : SM) (env : Env) (S : Sto) : s_for im g body env S = (im env S).toS env fun it S1 => loopS g body it.2 it.1 env S1 := rfl
@[simp] theorem t_v_eq (m : EM) (env : Env) (S : Sto) : t_v m env S = (m env S).bind fun d S1 => .ofO (truD S1 d) S1 := rfl
@[simp] theorem t_b_eq (m : EM) (env : Env) (S : Sto) : t_b m env S = (m env S).bind fun d S1 => .ofO (blD d) S1 := rfl
@[simp] theorem t_and_eq (p q : TM) (env : Env) (S : Sto) : t_and p q env S = (p env S).bind fun k S1 => if k = true then q env S1 else .ok false S1 := rfl
@[simp] theorem t_or_eq (p q : TM) (env : Env) (S : Sto) : t_or p q env S = (p env S).bind fun k S1 => if k = true then .ok true S1 else q env S1 := rfl
@[simp] theorem t_not_eq (p : TM) (env : Env) (S : Sto) : t_not p env S = (p env S).bind fun k S1 => .ok (!k) S1 := rfl
@[simp] theorem e_if_eq (t : TM) (p q : EM) (env : Env) (S : Sto) : e_if t p q env S = (t env S).bind fun k S1 => if k = true then p env S1 else q env S1 := rfl
@[simp] theorem i_seq_eq (m : EM) (env : Env) (S : Sto) : i_seq m env S = (m env S).bind fun d S1 => .ofO (itsOf S1 d) S1 := rfl
@[simp] theorem e_meth_eq (ty : D → Sto → Bool) (g : D → List D → Sto → R D) (mo : EM) (m : AM) (env : Env) (S : Sto) : e_meth ty g mo m env S = (mo env S).bind fun x S1 => .if (ty x S1 = true) ((m env S1).bind fun ds S2 => g x ds S2) := rfl
@[simp] theorem e_fld_eq (cs : List (Nat × Nat)) (m : EM) (env : Env) (S : Sto) : e_fld cs m env S = (m env S).bind fun d S1 => .ofO (fldD cs d S1) S1 := rfl
@[simp] theorem s_fld_eq (cs : List (Nat × Nat)) (mo mv : EM) (env : Env) (S : Sto) : s_fld cs mo mv env S = (mv env S).toS env fun z S1 => (mo env S1).toS env fun d S2 => match setF cs d z S2 with
  | some S3 => .next env S3
  | none => .bad := rfl
@[simp] theorem g_name_eq (i : Nat) (d : D) (env : Env) : g_name i d env = some (env.set i (some d)) := rfl
@[simp] theorem e_lcG_eq (vs : List Nat) (im : IM) (g : GM) (t : TM) (m : EM) (fin : List D → Sto → R D) (env : Env) (S : Sto) : e_lcG vs im g t m fin env S = (im env S).bind fun it S1 => (lcM g t m (wipeE env vs) it.2 it.1 [] S1).bind fin := rfl
@[simp] theorem e_not_eq (p : EM) (env : Env) (S : Sto) : e_not p env S = (p env S).bind fun d S1 => match d with
  | .bl k => .ok (.bl (!k)) S1
  | _ => .bad := rfl
@[simp] theorem e_and_eq (p q : EM) (env : Env) (S : Sto) : e_and p q env S = (p env S).bind fun d S1 => match d with
  | .bl true => q env S1
  | .bl false => .ok (.bl false) S1
  | _ => .bad := rfl
@[simp] theorem e_or_eq (p q : EM) (env : Env) (S : Sto) : e_or p q env S = (p env S).bind fun d S1 => match d with
  | .bl true => .ok (.bl true) S1
  | .bl false => q env S1
  | _ => .bad := rfl
theorem runDef_eq {np nl : Nat} {b : SM} {ds : List D} {S : Sto} (h : ds.length = np) : runDef np nl b ds S = endF (b (ds.map some ++ List.replicate (nl - np) none) S) := if_pos h
/-! ## places of the store, read and written -/
@[simp] theorem lstOf_loc' (S : Sto) (k : Nat) : lstOf S (.loc k) = match S[k]? with
  | some (.lst ds) => some ds
  | _ => none := rfl
@[simp] theorem seqOf_loc' (S : Sto) (k : Nat) : seqOf S (.loc k) = match S[k]? with
  | some (.lst ds) => some ds
  | _ => none := rfl
theorem bind_lst {α : Type} (o : Option SO) (f : List D → Option α) : (match o with
  | some (.lst ds) => some ds
  | _ => none : Option (List D)).bind f = match o with
  | some (.lst ds) => f ds
  | _ => none := by
  cases o with
  | none => rfl
  | some o => cases o <;> rfl
@[simp] theorem ixD_loc' (S : Sto) (k : Nat) (i : Int) : ixD (.loc k) (.int i) S = .ofO ((seqOf S (.loc k)).bind fun ds => atI ds i) S := rfl
@[simp] theorem lenD_loc' (S : Sto) (k : Nat) : lenD (.loc k) S = .ofO ((seqOf S (.loc k)).map fun ds => D.int ds.length) S := rfl
@[simp] theorem truD_loc' (S : Sto) (k : Nat) : truD S (.loc k) = (seqOf S (.loc k)).map fun ds => !ds.isEmpty := rfl
@[simp] theorem tyL_loc' (S : Sto) (k : Nat) : tyL (.loc k) S = (seqOf S (.loc k)).isSome := rfl
@[simp] theorem appD_loc' (S : Sto) (k : Nat) (y : D) : appD (.loc k) [y] S = match S[k]? with
  | some (.lst es) => .if (es.length < sizeLine) (.ok .non (S.set k (.lst (es ++ [y]))))
  | _ => .bad := rfl
@[simp] theorem extD_loc' (S : Sto) (k : Nat) (y : D) : extD (.loc k) [y] S = match S[k]?, lstOf S y with
  | some (.lst es), some fs => .if (es.length + fs.length ≤ sizeLine) (.ok .non (S.set k (.lst (es ++ fs))))
  | _, _ => .bad := rfl
@[simp] theorem setL_loc' (S : Sto) (k : Nat) (i : Int) (z : D) : setL S (.loc k) (.int i) z = match S[k]? with
  | some (.lst ds) => (ixN ds.length i).map fun j => S.set k (.lst (ds.set j z))
  | _ => none := rfl
@[simp] theorem itsOf_loc' (S : Sto) (k : Nat) : itsOf S (.loc k) = match S[k]? with
  | some (.lst ds) => some (ds, some (k, ds))
  | _ => none := rfl
@[simp] theorem insOf_loc' (S : Sto) (k : Nat) : insOf S (.loc k) = match S[k]? with
  | some (.ins c ds) => some (c, ds)
  | _ => none := rfl
@[simp] theorem tupleD_loc' (S : Sto) (k : Nat) : tupleD (.loc k) S = .ofO ((seqOf S (.loc k)).map D.tup) S := rfl
@[simp] theorem listD_loc' (S : Sto) (k : Nat) : listD (.loc k) S = .ofO ((seqOf S (.loc k)).map D.lst) S := rfl
@[simp] theorem listN_loc' (S : Sto) (k : Nat) : listN (.loc k) S = match S[k]? with
  | some (.lst ds) => .ok (.loc S.length) (S ++ [.lst ds])
  | _ => .bad := by
  unfold listN
  rw [seqOf_loc']
  cases S[k]? with
  | none => rfl
  | some o => cases o <;> rfl
@[simp] theorem addD_locl (S : Sto) (k : Nat) (y : D) : addD (.loc k) y S = match lstOf S (.loc k), lstOf S y with
  | some a, some b => .if (a.length + b.length ≤ sizeLine) (.ok (.lst (a ++ b)) S)
  | _, _ => .bad := by cases y <;> rfl
@[simp] theorem addD_lstl (S : Sto) (a : List D) (k : Nat) : addD (.lst a) (.loc k) S = match lstOf S (.loc k) with
  | some b => .if (a.length + b.length ≤ sizeLine) (.ok (.lst (a ++ b)) S)
  | _ => .bad := by
  show addL S (.lst a) (.loc k) = _
  unfold addL
  rw [lstOf_lst]
  cases lstOf S (.loc k) <;> rfl
@[simp] theorem endF_ite (c : Prop) [Decidable c] (x y : RS) : endF (if c then x else y) = if c then endF x else endF y := by split <;> rfl
@[simp] theorem R.ofO_none {α : Type} (S : Sto) : R.ofO (none : Option α) S = .bad := rfl
@[simp] theorem atI_lit0 {α : Type} (x : α) (xs : List α) : atI (x :: xs) 0 = some x := by
  unfold atI ixN; simp
theorem atI_k {α : Type} (k : Nat) (xs : List α) : atI xs ((k : Nat) : Int) = xs[k]? := by
  cases h : xs[k]? with
  | some v => exact atI_nat h
  | none =>
    have := List.getElem?_eq_none_iff.mp h
    unfold atI ixN
    rw [if_pos (by omega), if_neg (by omega)]; rfl
@[simp] theorem atI_lit1 {α : Type} (xs : List α) : atI xs 1 = xs[1]? := atI_k 1 xs
@[simp] theorem atI_lit2 {α : Type} (xs : List α) : atI xs 2 = xs[2]? := atI_k 2 xs
@[simp] theorem atI_lit3 {α : Type} (xs : List α) : atI xs 3 = xs[3]? := atI_k 3 xs
@[simp] theorem atI_lit4 {α : Type} (xs : List α) : atI xs 4 = xs[4]? := atI_k 4 xs
@[simp] theorem atI_lit5 {α : Type} (xs : List α) : atI xs 5 = xs[5]? := atI_k 5 xs
@[simp] theorem atI_lit6 {α : Type} (xs : List α) : atI xs 6 = xs[6]? := atI_k 6 xs
@[simp] theorem atI_lit7 {α : Type} (xs : List α) : atI xs 7 = xs[7]? := atI_k 7 xs
@[simp] theorem atI_lit8 {α : Type} (xs : List α) : atI xs 8 = xs[8]? := atI_k 8 xs
@[simp] theorem atI_lit9 {α : Type} (xs : List α) : atI xs 9 = xs[9]? := atI_k 9 xs
theorem ixN_k {n k : Nat} (h : k < n) : ixN n ((k : Nat) : Int) = some k := by
  unfold ixN
  rw [if_pos (by omega), if_pos (by omega)]; simp
theorem set_get {S : Sto} {p : Nat} {a : SO} (h : S[p]? = some a) (o : SO) : (S.set p o)[p]? = some o := List.getElem?_set_self (Rep.lt h)
theorem set_set (S : Sto) (p : Nat) (a b : SO) : (S.set p a).set p b = S.set p b := List.set_set ..
end Mm
set_option maxRecDepth 100000
/-! max(xs, default=None) of a list of ints: the library's walk with a keyword. -/
namespace PySem
open Sem (wp)
namespace MaxD
abbrev kw : List (Str × Value) := [("default", .none)]
theorem args_d (a : Value) : argsOk "max" ⟨[a], kw⟩ := by unfold argsOk; kernel_rfl
section
variable {prog : Program} {w : World} {A : Around} {R : Result → Shared → Prop} {I : Addr} {fp wr : List Addr} {n : Nat} {P : Nat → Value → Prop} {St : Nat → Heap → Prop}
/-- the best so far against the rest -/
theorem turn (W : Walks prog w A.in1 I fp wr n P St) (bt : Nat → Nat → Bool) (hcmp : CmpOf prog w A.in1 .Gt P bt) (S : Addr) (out : S ∉ fp) :
    ∀ (m j : Nat) (s : Shared) (best : Value) (c : Nat), n - (j + 1) = m → j + 1 ≤ n → St (j + 1) s.heap → P (argBest bt j) best → s.heap.get? S = some { cls := .type "list", dict := none, data := .seq #[best, best] c, slots := #[] } →
      (∀ v g t, P (argBest bt (n - 1)) v → (∀ b o, b ∉ wr → b ≠ S → s.heap.get? b = some o → g.get? b = some o) → R (.ok (.ret v)) { s with heap := g, toks := t }) → codeAny (model prog w) A (.builtin "max.loop" ⟨[.ref I, .none, .ref S], kw⟩) R s := by
  have aside : S ∉ wr := fun z => out (W.sub _ z)
  have nm : (toString "max" ++ toString ".loop" : String) = "max.loop" := by decide
  intro m
  induction m with
  | zero =>
    intro j s best c em le st pb at_ fin
    have ej : j + 1 = n := by omega
    refine codeAny_builtin F.entry_max_loop ?_
    rw [Around.under_plainId F.plain_max_loop _]
    show wpAny _ A.in1 (seqItems? (.ref S) >>= _) _ _ s
    refine wpAny_bind (wpAny_seqItems at_ rfl ?_)
    show wpAny _ A.in1 (tryCatch (pyNext (.ref I)) _ >>= _) _ _ s
    refine wpAny_bind (wpAny_tryCatch (W.done s _ _ (ej ▸ st) fun g t kg => ?_))
    have at2 := kg S _ aside at_
    show wpAny _ A.in1 (updateSeq S (fun _ => #[]) >>= _) _ _ _
    refine wpAny_bind (wpAny_updateSeq at2 rfl (wpAny_bind (wpAny_letGo (wpAny_pure ?_))))
    exact fin best _ t (by rw [← ej]; exact pb) fun b o b1 b2 e => (Heap.get?_update_other _ _ (Ne.symm b2)).trans (kg b o b1 e)
  | succ m ih =>
    intro j s best c em le st pb at_ fin
    have lt : j + 1 < n := by omega
    refine codeAny_builtin F.entry_max_loop ?_
    rw [Around.under_plainId F.plain_max_loop _]
    show wpAny _ A.in1 (seqItems? (.ref S) >>= _) _ _ s
    refine wpAny_bind (wpAny_seqItems at_ rfl ?_)
    show wpAny _ A.in1 (tryCatch (pyNext (.ref I)) _ >>= _) _ _ s
    refine wpAny_bind (wpAny_tryCatch (W.item (j + 1) s _ _ lt st fun v g t pv st2 kg => ?_))
    have at2 := kg S _ aside at_
    show wpAny _ A.in1 (tryCatch (holding [v, v] (richCompare .Gt v best >>= _)) _ >>= _) _ _ _
    refine wpAny_bind (wpAny_tryCatch (wpAny_holding (wpAny_bind (hcmp (j + 1) (argBest bt j) v best _ _ _ pv pb ?_))))
    refine wpAny_bind (wpAny_holding (wpAny_truthy_bool ?_))
    refine wpAny_bind (wpAny_letGo (wpAny_pure ?_))
    cases more : bt (j + 1) (argBest bt j) with
    | true =>
      simp only [if_true]
      refine wpAny_bind (wpAny_updateSeq at2 rfl (wpAny_bind (wpAny_letGo ?_)))
      rw [nm]
      refine wpAny_pure ⟨plainId_quiet F.plain_max_loop _, ih (j + 1) _ v _ (by omega) lt (W.frame _ _ _ st2 fun b hb o e => (Heap.get?_update_other _ _ (fun z : S = b => out (by rw [z]; exact hb))).trans e) (by simp only [argBest, more, if_true]; exact pv) (Heap.get?_update_self _ at2 rfl) fun v2 g2 t2 p2 k2 => ?_⟩
      exact fin v2 g2 t2 p2 fun b o b1 b2 e => k2 b o b1 b2 ((Heap.get?_update_other _ _ (Ne.symm b2)).trans (kg b o b1 e))
    | false =>
      simp only [Bool.false_eq_true, if_false]
      refine wpAny_bind (wpAny_letGo ?_)
      rw [nm]
      refine wpAny_pure ⟨plainId_quiet F.plain_max_loop _, ih (j + 1) _ best c (by omega) lt st2 (by simp only [argBest, more, Bool.false_eq_true, if_false]; exact pb) at2 fun v2 g2 t2 p2 k2 => ?_⟩
      exact fin v2 g2 t2 p2 fun b o b1 b2 e => k2 b o b1 b2 (kg b o b1 e)
/-- from the start: nothing there, or a first -/
theorem first (W : Walks prog w A.in1 I fp wr n P St) (bt : Nat → Nat → Bool) (hcmp : CmpOf prog w A.in1 .Gt P bt) (S : Addr) (out : S ∉ fp) {s : Shared} {c : Nat} (st : St 0 s.heap) (at_ : s.heap.get? S = some { cls := .type "list", dict := none, data := .seq #[] c, slots := #[] })
    (fin : ∀ v g t, (n = 0 ∧ v = Value.none ∨ 0 < n ∧ P (argBest bt (n - 1)) v) → (∀ b o, b ∉ wr → b ≠ S → s.heap.get? b = some o → g.get? b = some o) → R (.ok (.ret v)) { s with heap := g, toks := t }) : codeAny (model prog w) A (.builtin "max.loop" ⟨[.ref I, .none, .ref S], kw⟩) R s := by
  have aside : S ∉ wr := fun z => out (W.sub _ z)
  have nm : (toString "max" ++ toString ".loop" : String) = "max.loop" := by decide
  refine codeAny_builtin F.entry_max_loop ?_
  rw [Around.under_plainId F.plain_max_loop _]
  show wpAny _ A.in1 (seqItems? (.ref S) >>= _) _ _ s
  refine wpAny_bind (wpAny_seqItems at_ rfl ?_)
  show wpAny _ A.in1 (tryCatch (pyNext (.ref I)) _ >>= _) _ _ s
  by_cases n0 : n = 0
  · refine wpAny_bind (wpAny_tryCatch (W.done s _ _ (by rw [n0]; exact st) fun g t kg => ?_))
    show wpAny _ A.in1 (rule _ >>= _) _ _ _
    refine wpAny_bind (wpAny_rule (wpAny_pure ?_))
    exact fin _ _ t (.inl ⟨n0, rfl⟩) fun b o b1 _ e => kg b o b1 e
  · have np : 0 < n := Nat.pos_of_ne_zero n0
    refine wpAny_bind (wpAny_tryCatch (W.item 0 s _ _ np st fun v g t pv st2 kg => ?_))
    have at2 := kg S _ aside at_
    show wpAny _ A.in1 (updateSeq S (fun _ => #[v, v]) >>= _) _ _ _
    refine wpAny_bind (wpAny_updateSeq at2 rfl ?_)
    rw [nm]
    refine wpAny_pure ⟨plainId_quiet F.plain_max_loop _, turn W bt hcmp S out _ 0 _ v _ rfl np (W.frame _ _ _ st2 fun b hb o e => (Heap.get?_update_other _ _ (fun z : S = b => out (by rw [z]; exact hb))).trans e) pv (Heap.get?_update_self _ at2 rfl) fun v2 g2 t2 p2 k2 => ?_⟩
    exact fin v2 g2 t2 (.inr ⟨np, p2⟩) fun b o b1 b2 e => k2 b o b1 b2 ((Heap.get?_update_other _ _ (Ne.symm b2)).trans (kg b o b1 e))
end
section
variable {prog : Program} {w : World} {A : Around} {E : Value → Shared → Prop} {s : Shared}
theorem walk {x : Value} {Q : Value → Shared → Prop}
    (h : wpAny (model prog w) A.in1 (pyIter x) (fun it s2 => ∃ I fp wr n P St bt, it = .ref I ∧ Walks prog w A.in1 I fp wr n P St ∧ St 0 s2.heap ∧ (∀ b ∈ fp, b < s2.heap.objs.size) ∧ CmpOf prog w A.in1 .Gt P bt ∧
      ∀ v g t, (n = 0 ∧ v = Value.none ∨ 0 < n ∧ P (argBest bt (n - 1)) v) → (∀ b o, b ∉ wr → s2.heap.get? b = some o → g.get? b = some o) → Q v { s2 with heap := g, toks := t }) E s) : wpAny (model prog w) A (call (.builtin "max") [x] kw) Q E s := by
  have nm : (toString "max" ++ toString ".loop" : String) = "max.loop" := by decide
  refine PyProof.Rows.kmk_tree F.kind_max F.plain_max F.entry_max (args_d _) ?_
  show wpAny _ A.in1 (Builtin.Builtins.bindParams "max" ["key", "default"] 0 ⟨[], kw⟩ >>= _) _ _ s
  refine wpAny_bind (wpAny_of_eq (show Builtin.Builtins.bindParams "max" ["key", "default"] 0 ⟨[], kw⟩ = pure [none, some .none] from rfl) ?_)
  refine wpAny_bind (wpAny_pure ?_)
  refine wpAny_bind (wpAny_mono h (fun it s2 h2 => ?_) fun _ _ e => e)
  obtain ⟨I, fp, wr, n, P, St, bt, rfl, W, st, young, hcmp, fin⟩ := h2
  refine wpAny_bind (wpAny_newObj_type ?_)
  have out : s2.heap.objs.size ∉ fp := fun z => Nat.lt_irrefl _ (young _ z)
  rw [nm]
  refine wpAny_pure ⟨plainId_quiet F.plain_max_loop _, first W bt hcmp s2.heap.objs.size out (W.frame _ _ _ st fun b _ o e => Heap.get?_push_of_some _ e) (Heap.get?_push_size _ rfl) fun v g t pv kg => ?_⟩
  exact fin v g t pv fun b o b1 e => kg b o b1 (Nat.ne_of_lt (Heap.lt_size e)) (Heap.get?_push_of_some _ e)
end
end MaxD
end PySem
namespace L2
open PySem PySem.Spec PyProof.Rows
/-- max(xs, default=None) of a list of ints -/
def rMaxDef (K : PySem.W.Frag) : List V → List V → Hp → VK → Prop := fun vs zs H Q => ∃ (a : Addr) (ns : List Int), vs = [V.ref a] ∧ zs = [.non] ∧ SqL K H a (ns.map V.int) ∧ (ns = [] → Q .non H) ∧ ∀ m, m ∈ ns → (∀ y, y ∈ ns → y ≤ m) → Q (.int m) H
section
variable {prog : Program} {w : World} {A : Around} {E : Value → Shared → Prop} {s : Shared} {its : List Value} {ns : List Int} {l : Addr}
theorem maxdef_raw {Q : Value → Shared → Prop} (hh : A.handled = none) (hl : s.heap.IsList l its.toArray) (hi : IntsAre its ns)
    (h0 : ∀ h' tk, ns = [] → (∀ b o, s.heap.get? b = some o → h'.get? b = some o) → Q .none { s with heap := h', toks := tk })
    (h : ∀ h' tk M t', (∀ b o, s.heap.get? b = some o → h'.get? b = some o) → M ∈ ns → (∀ a, a ∈ ns → a ≤ M) → Q (.int M t') { s with heap := h', toks := tk }) : wpAny (model prog w) A (call (.builtin "max") [.ref l] PySem.MaxD.kw) Q E s := by
  obtain ⟨xs, e⟩ := hi.allInts.items
  have hn : numsOf (intItems xs).toList = ns := by rw [← e]; exact hi.numsOf
  rw [nums_intItems] at hn
  subst hn
  rw [e] at hl
  refine PySem.MaxD.walk (iter_intList hl fun s₂ e st hfp hlI => ?_)
  subst e
  refine ⟨_, _, _, _, _, _, _, rfl, Walks.list (A := A.in1) hh _ l hlI (intItems xs), st, hfp, CmpOf.ints_gt (numAt xs) (fun _ _ => intItems_at), fun v h' tk hP hk => ?_⟩
  have kp := old_kept hk
  rcases hP with ⟨n0, rfl⟩ | ⟨np, hv⟩
  · refine h0 h' tk ?_ kp
    have : xs.size = 0 := by simpa [intItems] using n0
    have : xs = #[] := Array.eq_empty_of_size_eq_zero this
    subst this
    rfl
  · have hsz : 0 < xs.size := by simpa [intItems] using np
    have hv' : (intItems xs)[argBest (fun i j => decide (numAt xs i > numAt xs j)) (xs.size - 1)]? = some v := by simpa [intItems] using hv
    obtain ⟨t, rfl⟩ := intItems_at hv'
    obtain ⟨h1, h2⟩ := argBest_gt (numAt xs) (xs.size - 1)
    refine h h' tk _ t kp ?_ fun a ha => ?_
    · rw [numAt_eq]; exact PySem.getD_mem (by rw [List.length_map, Array.length_toList]; omega)
    · obtain ⟨j, hj, rfl⟩ := mem_getD ha
      rw [List.length_map, Array.length_toList] at hj
      rw [← numAt_eq]; exact h2 j (by omega)
end
theorem cr_maxDef {X : Cx} (hc : X.calm = true) : CallRK X (.builtin "max") [Str.ofString "default"] (rMaxDef X.K) := by
  intro pins s σ H vs zs us ws Q I r rz h
  obtain ⟨a, ns, rfl, rfl, hs, h0, q⟩ := h
  obtain rfl := Vals.ref1 r
  obtain ⟨w1, rfl, e1⟩ := vals1 rz
  obtain rfl : w1 = Value.none := e1
  obtain ⟨its, rv, hl, _⟩ := I.list hs
  exact maxdef_raw (I.ok.hd hc) hl.isList rv.ints (fun h' tk e hk => ⟨.non, H, I.kept hk, rfl, h0 e⟩) fun h' tk m t' hk h1 h2 => ⟨.int _, H, I.kept hk, ⟨_, rfl⟩, q m h1 h2⟩
end L2
set_option maxRecDepth 100000
/-! Constants of the module, isinstance, chains, all / any / sum / max / sorted, loops by test, range as a value. -/
namespace Mm
open PySem L2
section
variable {w : Wn} {W : WX} {σ : St} {c c' : Cn} {H H' : Hp} {n n' : Nat} {S : Sto} {env : Env}
variable {Γ : Cls'} {X : Cx} {a b e o tg : Expr} {es : List Expr} {ma mb mo : EM} {am : AM} {pos : Pos} {Dn : Ends}
/-- the module's name x holds d -/
structure GlD (K : PySem.W.Frag) (Γ : Cls') (mg : Str → Option Value) (x : Str) (d : D) : Prop where
  ex : ∃ u v, mg x = some u ∧ RelV v u ∧ ∀ c H n, At ⟨K, Γ⟩ c H n d v
theorem c_gl {x : Str} {d : D} (G : GlD X.K Γ X.mg x d) (hg : Gl X x := by rfl) (hd : (x == ("__debug__" : Str)) = false := by decide) : CE Γ X W (.Name x pos) (e_k d) := by
  obtain ⟨u, v, hm, rv, a⟩ := G.ex
  exact PE.weak (pe_glob hg hm rv hd) fun σ H Q ⟨c, env, S, r, ev, h⟩ => fin_ok h r (a c H S.length)
/-- a part that is not reached -/
def e_bad : EM := fun _ _ => .bad
@[simp] theorem e_bad_eq (env : Env) (S : Sto) : e_bad env S = .bad := rfl
theorem c_bade : CE Γ X W e e_bad := ⟨fun pins s σ H Q I ⟨c, env, S, r, ev, h⟩ => h.elim⟩
def t_bad : TM := fun _ _ => .bad
@[simp] theorem t_bad_eq (env : Env) (S : Sto) : t_bad env S = .bad := rfl
theorem c_badt : CT Γ X W e t_bad := ⟨fun pins s σ H Q I ⟨c, env, S, r, ev, h⟩ => h.elim⟩
@[simp] theorem s_bad_eq (env : Env) (S : Sto) : s_bad env S = .bad := rfl
/-! ## isinstance -/
abbrev Ty := String ⊕ Nat
def tyOf (S : Sto) (d : D) : Option Ty := match d with
  | .non => some (.inl "NoneType")
  | .bl _ => some (.inl "bool")
  | .int _ => some (.inl "int")
  | .str _ => some (.inl "str")
  | .tup _ => some (.inl "tuple")
  | .ttp _ => some (.inl "tuple")
  | .lst _ => some (.inl "list")
  | .fz _ => some (.inl "list")
  | .dic _ _ => some (.inl "dict")
  | .obj k _ => some (.inr k)
  | .loc j => match S[j]? with
    | some (.lst _) => some (.inl "list")
    | some (.dic _ _) => some (.inl "dict")
    | some (.ins k _) => some (.inr k)
    | none => none
  | .oth _ => none
  | .xn _ _ => none
@[simp] theorem tyOf_non (S : Sto) : tyOf S .non = some (.inl "NoneType") := rfl
@[simp] theorem tyOf_bl (S : Sto) (b : Bool) : tyOf S (.bl b) = some (.inl "bool") := rfl
@[simp] theorem tyOf_int (S : Sto) (i : Int) : tyOf S (.int i) = some (.inl "int") := rfl
@[simp] theorem tyOf_str (S : Sto) (x : Str) : tyOf S (.str x) = some (.inl "str") := rfl
@[simp] theorem tyOf_tup (S : Sto) (ds : List D) : tyOf S (.tup ds) = some (.inl "tuple") := rfl
@[simp] theorem tyOf_lst (S : Sto) (ds : List D) : tyOf S (.lst ds) = some (.inl "list") := rfl
@[simp] theorem tyOf_obj (S : Sto) (k : Nat) (ds : List D) : tyOf S (.obj k ds) = some (.inr k) := rfl
@[simp] theorem tyOf_loc (S : Sto) (j : Nat) : tyOf S (.loc j) = match S[j]? with
    | some (.lst _) => some (.inl "list")
    | some (.dic _ _) => some (.inl "dict")
    | some (.ins k _) => some (.inr k)
    | none => none := rfl
/-- what isinstance must know of a class of the text -/
structure InsC (K : PySem.W.Frag) (C : Addr) : Prop where
  cl : Cls K C
  ha : PySem.W.findIn K (.ref C) "__class__" = some (some (.builtin "object.__class__"))
  hn : PySem.W.specialIn K (.builtin "object.__class__") "__get__" = some (some (.builtin "getset_descriptor.__get__"))
  ht : PySem.W.takesIn K (.builtin "object.__class__") = some true
  hm : PySem.W.mroIn K C (.type "object") = some true
structure KitOk (K : PySem.W.Frag) (Γ : Cls') (u : Value) (kt : Ty → Option Bool) : Prop where
  b : ∀ a r, kt (.inl a) = some r → PySem.W.kitOne K (.type a) u = some r
  o : ∀ k r C, kt (.inr k) = some r → Γ.at_ k = some C → InsC K C ∧ PySem.W.kitOne K (.ref C) u = some r
def ktB (T : String) : Ty → Option Bool := fun t => match t with
  | .inl a => kitB a T
  | .inr _ => none
theorem ktB_ok {K : PySem.W.Frag} {T : String} : KitOk K Γ (.type T) (ktB T) := ⟨fun a r h => kit_ty h, fun k r C h => by cases h⟩
theorem sqT_ty {K : PySem.W.Frag} {p : Addr} {xs : List V} (h : SqT K H p xs) : TyX K H (.ref p) (.type "tuple") := by
  rcases h with (h | ⟨o, h⟩) | ⟨o, its, n, h, hc, _⟩
  · exact .base (.tup h)
  · exact .fTuple h
  · exact .kTuple h hc
theorem sqL_ty {K : PySem.W.Frag} {p : Addr} {xs : List V} (h : SqL K H p xs) : TyX K H (.ref p) (.type "list") := by
  rcases h with (h | ⟨o, h⟩) | ⟨o, its, n, h, hc, _⟩
  · exact .base (.lst h)
  · exact .base (.frz h)
  · exact .kList h hc
theorem dic_ty {K : PySem.W.Frag} {p : Addr} {vs : List V} {P Q : List Key → Prop} {P' Q' : List (List Key) → Prop} (h : (∃ kk : List Key, H p = some (.dK (kk.zip vs)) ∧ P kk ∧ Q kk) ∨ (∃ kk : List (List Key), H p = some (.dT (kk.zip vs)) ∧ P' kk ∧ Q' kk)) : TyX K H (.ref p) (.type "dict") := by
  rcases h with ⟨kk, h, _⟩ | ⟨kk, h, _⟩
  · exact .base (.dK h)
  · exact .base (.dT h)
theorem dkA_ex {w : Wn} {p : Addr} {vs : List V} {P Q : List Key → Prop} {P' Q' : List (List Key) → Prop} (hl : w.Γ.lk = none) (h : (∃ kk : List Key, DkA w H p (.dK (kk.zip vs)) ∧ P kk ∧ Q kk) ∨ (∃ kk : List (List Key), DkA w H p (.dT (kk.zip vs)) ∧ P' kk ∧ Q' kk)) : (∃ kk : List Key, H p = some (.dK (kk.zip vs)) ∧ P kk ∧ Q kk) ∨ (∃ kk : List (List Key), H p = some (.dT (kk.zip vs)) ∧ P' kk ∧ Q' kk) := by
  rcases h with ⟨kk, h, q⟩ | ⟨kk, h, q⟩
  · exact .inl ⟨kk, h.ex hl, q⟩
  · exact .inr ⟨kk, h.ex hl, q⟩
theorem tyOf_at {d : D} {v : V} {t : Ty} (hl : w.Γ.lk = none) (r : Rep w c H S) (at_ : At w c H S.length d v) (h : tyOf S d = some t) :
    (∃ s, t = .inl s ∧ TyX w.K H v (.type s)) ∨ ∃ k C dx fs p, t = .inr k ∧ v = .ref p ∧ w.Γ.at_ k = some C ∧ H p = some (.ins C dx fs) := by
  cases d with
  | non => cases h; rw [at_.non]; exact .inl ⟨_, rfl, .base .non⟩
  | bl b => cases h; rw [at_.bl]; exact .inl ⟨_, rfl, .base (.bl _)⟩
  | int b => cases h; rw [at_.int]; exact .inl ⟨_, rfl, .base (.int _)⟩
  | str b => cases h; rw [at_.str]; exact .inl ⟨_, rfl, .base (.str _)⟩
  | tup ds =>
    cases h
    obtain ⟨p, vs, rfl, g, _⟩ := at_.tup
    exact .inl ⟨_, rfl, sqT_ty g⟩
  | ttp ds =>
    cases h
    unfold At at at_
    obtain ⟨p, vs, rfl, g, _⟩ := at_
    exact .inl ⟨_, rfl, .base (.tup g)⟩
  | lst ds =>
    cases h
    unfold At at at_
    obtain ⟨p, vs, rfl, f, g, _⟩ := at_
    exact .inl ⟨_, rfl, .base (.lst g)⟩
  | fz ns =>
    cases h
    unfold At at at_
    obtain ⟨p, rfl, g⟩ := at_
    exact .inl ⟨_, rfl, sqL_ty g.sq⟩
  | dic ks ds =>
    cases h
    unfold At at at_
    obtain ⟨p, vs, rfl, f, g, _⟩ := at_
    exact .inl ⟨_, rfl, dic_ty (dkA_ex hl g)⟩
  | obj k ds =>
    cases h
    unfold At at at_
    obtain ⟨p, vs, C, dx, rfl, f, g, l, s, _⟩ := at_
    exact .inr ⟨k, C, dx, _, p, rfl, rfl, g, s⟩
  | loc j =>
    rw [tyOf_loc] at h
    unfold At at at_
    obtain ⟨hj, rfl⟩ := at_
    cases ho : S[j]? with
    | none => rw [ho] at h; cases h
    | some o =>
      rw [ho] at h
      have oa := r.get ho
      cases o with
      | lst ds => cases h; obtain ⟨vs, g, _⟩ := oa; exact .inl ⟨_, rfl, .base (.lst g)⟩
      | dic ks ds => cases h; obtain ⟨vs, g, _⟩ := oa; exact .inl ⟨_, rfl, dic_ty (dkA_ex hl g)⟩
      | ins k ds => cases h; obtain ⟨vs, C, dx, g, l, s, _⟩ := oa; exact .inr ⟨k, C, dx, _, _, rfl, rfl, g, s⟩
  | oth u => cases h
  | xn k ds => cases h
def isiD (kt : Ty → Option Bool) (d : D) (S : Sto) : R D := .ofO (((tyOf S d).bind kt).map D.bl) S
def e_isi (kt : Ty → Option Bool) (m : EM) : EM := fun env S => (m env S).bind (isiD kt)
@[simp] theorem e_isi_eq (kt : Ty → Option Bool) (m : EM) (env : Env) (S : Sto) : e_isi kt m env S = (m env S).bind (isiD kt) := rfl
theorem isi_read {kt : Ty → Option Bool} {u : Value} {cv : V} {Q : VK} (hl : w.Γ.lk = none) (kk : KitOk w.K w.Γ u kt) (hc : ClsV cv u) (h : mE w W (e_isi kt ma) σ H Q) : tCB (rIsi w.K) (tCons (mE w W ma) (tCons (tC cv) tNil)) σ H Q := by
  obtain ⟨c, env, S, r, ev, h⟩ := h
  refine ⟨c, env, S, r, ev, (Po.bind h).imp fun v H1 ⟨c1, S1, d1, e1, r1, a1, h1⟩ => ?_⟩
  obtain ⟨y, hy, h1⟩ := Po.ofO h1
  cases ht : tyOf S1 d1 with
  | none => rw [ht] at hy; cases hy
  | some t =>
    rw [ht, Option.bind_some] at hy
    cases hk : kt t with
    | none => rw [hk] at hy; cases hy
    | some bb =>
      rw [hk] at hy; cases hy
      have q := fin_ok h1 r1 (.b bb)
      rcases tyOf_at hl r1 a1 ht with ⟨s, rfl, tx⟩ | ⟨k, C, dx, fs, p, rfl, rfl, g, hs⟩
      · exact ⟨v, cv, _, u, bb, rfl, hc, tx, kk.b _ _ hk, q⟩
      · obtain ⟨ic, ko⟩ := kk.o _ _ _ hk g
        exact ⟨_, cv, _, u, bb, rfl, hc, .base (.ins hs ic.cl ic.ha ic.hn ic.ht ic.hm), ko, q⟩
theorem c_isiT {T : String} {x : Str} {p q : Pos} (hl : Γ.lk = none) (hm : X.mg "isinstance" = none) (hT : X.mg x = none) (hb : bootBuiltins x = some (.type T)) (he : CE Γ X W e ma) (hg : Gl X "isinstance" := by rfl) (hgT : Gl X x := by rfl) (hn : x ≠ "__name__" := by decide) (hdb : (x == ("__debug__" : Str)) = false := by decide)
    (h1 : starEach [e, .Name x q] X.env = (false, eval e X.env) :: starEach [.Name x q] X.env := by rfl) (h2 : starEach [.Name x q] X.env = (false, eval (.Name x q) X.env) :: starEach [] X.env := by rfl) (hpl : (backTo pos (starEach [.Name x q] X.env)).any (·.1) = false := by rfl) :
    CE Γ X W (.Call (.Name "isinstance" p) [e, .Name x q] [] pos) (e_isi (ktB T) ma) :=
  PE.weak (pe_callB call_isi hg hm (by decide +kernel) (pa_cons he (pa_cons (pe_bltn (v := .ty T) hgT hT hb rfl hn hdb) pa_nil h2) h1) (by decide) (by decide) h1 hpl) fun σ H Q h => isi_read hl ktB_ok (.ty T) h
/-- the class's name -/
theorem c_isiC {C : Addr} {x : Str} {kt : Ty → Option Bool} {p q : Pos} (hl : Γ.lk = none) (hm : X.mg "isinstance" = none) (hC : X.mg x = some (.ref C)) (kk : KitOk X.K Γ (.ref C) kt) (he : CE Γ X W e ma) (hg : Gl X "isinstance" := by rfl) (hgT : Gl X x := by rfl) (hdb : (x == ("__debug__" : Str)) = false := by decide)
    (h1 : starEach [e, .Name x q] X.env = (false, eval e X.env) :: starEach [.Name x q] X.env := by rfl) (h2 : starEach [.Name x q] X.env = (false, eval (.Name x q) X.env) :: starEach [] X.env := by rfl) (hpl : (backTo pos (starEach [.Name x q] X.env)).any (·.1) = false := by rfl) :
    CE Γ X W (.Call (.Name "isinstance" p) [e, .Name x q] [] pos) (e_isi kt ma) :=
  PE.weak (pe_callB call_isi hg hm (by decide +kernel) (pa_cons he (pa_cons (pe_glob (v := .ref C) hgT hC rfl hdb) pa_nil h2) h1) (by decide) (by decide) h1 hpl) fun σ H Q h => isi_read hl kk (.own C) h
/-! ## a <= b <= c -/
def e_chain (g g' : D → D → Sto → R D) (ma mb mc : EM) : EM := fun env S => (ma env S).bind fun x S1 => (mb env S1).bind fun y S2 => (g x y S2).bind fun z S3 => match z with
  | .bl true => (mc env S3).bind fun u S4 => g' y u S4
  | .bl false => .ok (.bl false) S3
  | _ => .bad
@[simp] theorem e_chain_eq (g g' : D → D → Sto → R D) (ma mb mc : EM) (env : Env) (S : Sto) : e_chain g g' ma mb mc env S = (ma env S).bind fun x S1 => (mb env S1).bind fun y S2 => (g x y S2).bind fun z S3 => match z with
  | .bl true => (mc env S3).bind fun u S4 => g' y u S4
  | .bl false => .ok (.bl false) S3
  | _ => .bad := rfl
variable {op op' : CmpOp} {r r' : R2} {g g' : D → D → Sto → R D} {cc : Expr} {mc : EM}
theorem chain_read {Q : VK} (hg : GOp Γ X g r) (hg' : GOp Γ X g' r') (h : mE ⟨X.K, Γ⟩ W (e_chain g g' ma mb mc) σ H Q) : tChain r r' (mE ⟨X.K, Γ⟩ W ma) (mE ⟨X.K, Γ⟩ W mb) (mE ⟨X.K, Γ⟩ W mc) σ H Q := by
  obtain ⟨c, env, S, rp, ev, h⟩ := h
  refine ⟨c, env, S, rp, ev, (Po.bind h).imp fun v H1 ⟨c1, S1, d1, e1, r1, a1, h1⟩ => ?_⟩
  refine ⟨c1, env, S1, r1, ev.mono e1, (Po.bind h1).imp fun u H2 ⟨c2, S2, d2, e2, r2, a2, h2⟩ => ?_⟩
  refine hg W σ c2 H2 S2 d1 d2 v u _ r2 (a1.mono e2) a2 ((Po.bind h2).imp fun z H3 ⟨c3, S3, d3, e3, r3, a3, h3⟩ => ?_)
  cases d3 with
  | bl k =>
    refine ⟨k, a3.bl, ?_⟩
    cases k with
    | true => exact ⟨c3, env, S3, r3, ((ev.mono e1).mono e2).mono e3, (Po.bind h3).imp fun u4 H4 ⟨c4, S4, d4, e4, r4, a4, h4⟩ => hg' W σ c4 H4 S4 d2 d4 u u4 Q r4 ((a2.mono e3).mono e4) a4 h4⟩
    | false => exact fin_ok h3 r3 (.b _)
  | _ => exact h3.elim
theorem c_chain (ho : OpR X (compareOp op) r) (hg : GOp Γ X g r) (ho' : OpR X (compareOp op') r') (hg' : GOp Γ X g' r') (ha : CE Γ X W a ma) (hb : CE Γ X W b mb) (hc : CE Γ X W cc mc) (hl : lastMarks [op, op'] [b, cc] = false := by rfl) : CE Γ X W (.Compare a [op, op'] [b, cc] pos) (e_chain g g' ma mb mc) :=
  PE.weak (pe_chain ho ho' ha hb hc hl) fun σ H Q h => chain_read hg hg' h
theorem c_tchain (ho : OpR X (compareOp op) r) (hg : GOp Γ X g r) (ho' : OpR X (compareOp op') r') (hg' : GOp Γ X g' r') (ha : CE Γ X W a ma) (hb : CE Γ X W b mb) (hc : CE Γ X W cc mc) (hl : lastMarks [op, op'] [b, cc] = false := by rfl) : CT Γ X W (.Compare a [op, op'] [b, cc] pos) (t_b (e_chain g g' ma mb mc)) :=
  PT.weak (pt_chain ho ho' ha hb hc hl) fun σ H Q h => chain_read hg hg' (tB_ok h)
/-! ## lists of one kind -/
def blO : D → Option Bool
  | .bl b => some b
  | _ => none
def inO : D → Option Int
  | .int i => some i
  | _ => none
def stO : D → Option Str
  | .str x => some x
  | _ => none
def allO {α : Type} (f : D → Option α) : List D → Option (List α)
  | [] => some []
  | d :: r => (f d).bind fun x => (allO f r).map fun y => x :: y
@[simp] theorem allO_nil {α : Type} (f : D → Option α) : allO f [] = some [] := rfl
@[simp] theorem allO_cons {α : Type} (f : D → Option α) (d : D) (r : List D) : allO f (d :: r) = (f d).bind fun x => (allO f r).map fun y => x :: y := rfl
@[simp] theorem inO_int (i : Int) : inO (.int i) = some i := rfl
@[simp] theorem stO_str (i : Str) : stO (.str i) = some i := rfl
@[simp] theorem blO_bl (i : Bool) : blO (.bl i) = some i := rfl
theorem allO_map {α : Type} {f : D → Option α} {g : α → D} (h : ∀ x, f (g x) = some x) : ∀ xs : List α, allO f (xs.map g) = some xs
  | [] => rfl
  | x :: r => by rw [List.map_cons, allO_cons, h, Option.bind_some, allO_map h r]; rfl
theorem allO_app {α : Type} {f : D → Option α} : ∀ {xs ys : List D} {as bs : List α}, allO f xs = some as → allO f ys = some bs → allO f (xs ++ ys) = some (as ++ bs)
  | [], ys, as, bs, h1, h2 => by cases h1; exact h2
  | x :: r, ys, as, bs, h1, h2 => by
    rw [allO_cons] at h1
    cases hx : f x with
    | none => rw [hx] at h1; cases h1
    | some y =>
      rw [hx, Option.bind_some] at h1
      cases hr : allO f r with
      | none => rw [hr] at h1; cases h1
      | some rs =>
        rw [hr] at h1; cases h1
        rw [List.cons_append, allO_cons, hx, Option.bind_some, allO_app hr h2]; rfl
theorem allO_at {α : Type} {f : D → Option α} {fv : α → V} (hf : ∀ d x v, f d = some x → At w c H n d v → v = fv x) : ∀ {ds : List D} {xs : List α} {vs : List V}, allO f ds = some xs → Ats w c H n ds vs → vs = xs.map fv
  | [], xs, vs, h, a => by cases h; exact a.unnil
  | d :: r, xs, vs, h, a => by
    rw [allO_cons] at h
    obtain ⟨v, vr, rfl, a1, a2⟩ := a.uncons
    cases hx : f d with
    | none => rw [hx] at h; cases h
    | some x =>
      rw [hx, Option.bind_some] at h
      cases hr : allO f r with
      | none => rw [hr] at h; cases h
      | some rs => rw [hr] at h; cases h; rw [List.map_cons, hf d x v hx a1, allO_at hf hr a2]
theorem inO_at {d : D} {i : Int} {v : V} (h : inO d = some i) (a : At w c H n d v) : v = .int i := by
  cases d with
  | int j => cases h; exact a.int
  | _ => cases h
theorem stO_at {d : D} {i : Str} {v : V} (h : stO d = some i) (a : At w c H n d v) : v = .str i := by
  cases d with
  | str j => cases h; exact a.str
  | _ => cases h
theorem blO_at {d : D} {i : Bool} {v : V} (h : blO d = some i) (a : At w c H n d v) : v = .bl i := by
  cases d with
  | bl j => cases h; exact a.bl
  | _ => cases h
theorem lstO {α : Type} {f : D → Option α} {fv : α → V} (hf : ∀ {c : Cn} {H : Hp} {n : Nat} d x v, f d = some x → At w c H n d v → v = fv x) {d : D} {v : V} {xs : List α} (r : Rep w c H S) (a : At w c H S.length d v) (h : (lstOf S d).bind (allO f) = some xs) : ∃ p, v = .ref p ∧ SqL w.K H p (xs.map fv) := by
  cases hl : lstOf S d with
  | none => rw [hl] at h; cases h
  | some ds =>
    rw [hl, Option.bind_some] at h
    obtain ⟨p, vs, rfl, g, t⟩ := lstOf_at r a hl
    rw [allO_at (f := f) (fv := fv) (fun d x v => hf d x v) h t] at g
    exact ⟨p, rfl, SqL.of g⟩
def allD (x : D) (S : Sto) : R D := .ofO (((lstOf S x).bind (allO blO)).map fun bs => D.bl (bs.all id)) S
def anyD (x : D) (S : Sto) : R D := .ofO (((lstOf S x).bind (allO blO)).map fun bs => D.bl (bs.any id)) S
def sumD (x : D) (S : Sto) : R D := .ofO (((lstOf S x).bind (allO inO)).map fun bs => D.int bs.sum) S
theorem Po.ofM {α β : Type} {o : Option α} {f : α → β} {rel : Cn → Hp → Nat → β → V → Prop} {Q : V → Hp → Prop} (h : Po w W rel σ c H n (R.ofO (o.map f) S) Q) : ∃ x, o = some x ∧ Po w W rel σ c H n (.ok (f x) S) Q := by
  obtain ⟨y, hy, h⟩ := Po.ofO h
  cases o with
  | none => cases hy
  | some x => cases hy; exact ⟨x, rfl, h⟩
theorem g_all : GCall Γ X (f1 allD) (rAll X.K) := by
  refine .one fun W σ c H S x v Q r a h => ?_
  obtain ⟨bs, hb, h⟩ := Po.ofM h
  obtain ⟨p, rfl, g⟩ := lstO (fv := V.bl) (fun d x v h a => blO_at h a) r a hb
  exact ⟨p, bs, rfl, g, fin_ok h r (.b _)⟩
theorem g_any : GCall Γ X (f1 anyD) (rAny X.K) := by
  refine .one fun W σ c H S x v Q r a h => ?_
  obtain ⟨bs, hb, h⟩ := Po.ofM h
  obtain ⟨p, rfl, g⟩ := lstO (fv := V.bl) (fun d x v h a => blO_at h a) r a hb
  exact ⟨p, bs, rfl, g, fin_ok h r (.b _)⟩
theorem g_sum : GCall Γ X (f1 sumD) (rSum X.K) := by
  refine .one fun W σ c H S x v Q r a h => ?_
  obtain ⟨bs, hb, h⟩ := Po.ofM h
  obtain ⟨p, rfl, g⟩ := lstO (fv := V.int) (fun d x v h a => inO_at h a) r a hb
  exact ⟨p, bs, rfl, g, fin_ok h r (.i _)⟩
/-- the greatest -/
def maxL : List Int → Int
  | [] => 0
  | [x] => x
  | x :: y :: r => max x (maxL (y :: r))
theorem maxL_mem : ∀ {ns : List Int}, ns ≠ [] → maxL ns ∈ ns
  | [], h => absurd rfl h
  | [x], _ => by simp [maxL]
  | x :: y :: r, _ => by
    have ih := maxL_mem (ns := y :: r) (by simp)
    unfold maxL
    by_cases hx : x ≤ maxL (y :: r)
    · rw [Int.max_eq_right hx]; exact List.mem_cons_of_mem _ ih
    · rw [Int.max_eq_left (by omega)]; exact List.mem_cons_self
theorem maxL_le : ∀ {ns : List Int} {y : Int}, y ∈ ns → y ≤ maxL ns
  | [], y, h => by cases h
  | [x], y, h => by simp at h; simp [maxL, h]
  | x :: z :: r, y, h => by
    unfold maxL
    rcases List.mem_cons.mp h with rfl | h
    · exact Int.le_max_left _ _
    · exact Int.le_trans (maxL_le h) (Int.le_max_right _ _)
theorem maxL_uniq {ns : List Int} {m : Int} (h : m ∈ ns) (g : ∀ y ∈ ns, y ≤ m) : m = maxL ns := Int.le_antisymm (maxL_le h) (g _ (maxL_mem fun e => by rw [e] at h; cases h))
def maxD (x : D) (S : Sto) : R D := .ofO (((lstOf S x).bind (allO inO)).bind fun ns => if 0 < ns.length then some (D.int (maxL ns)) else none) S
theorem g_max : GCall Γ X (f1 maxD) (rMax X.K) := by
  refine .one fun W σ c H S x v Q r a h => ?_
  obtain ⟨y, hy, h⟩ := Po.ofO h
  cases hb : (lstOf S x).bind (allO inO) with
  | none => rw [hb] at hy; cases hy
  | some ns =>
    rw [hb, Option.bind_some] at hy
    by_cases hn : 0 < ns.length
    · rw [if_pos hn] at hy; cases hy
      obtain ⟨p, rfl, g⟩ := lstO (fv := V.int) (fun d x v h a => inO_at h a) r a hb
      exact ⟨p, ns, rfl, g, hn, fun m hm hg => by rw [maxL_uniq hm hg]; exact fin_ok h r (.i _)⟩
    · rw [if_neg hn] at hy; cases hy
/-- max(.., default=None) -/
def maxdD (x : D) (S : Sto) : R D := .ofO (((lstOf S x).bind (allO inO)).map fun ns => if ns = [] then D.non else D.int (maxL ns)) S
/-- sorted ints -/
def sortI (ns : List Int) : List Int := ns.mergeSort fun x y => decide (x ≤ y)
theorem sortI_uniq {ns ms : List Int} (p : ms.Perm ns) (s : ms.Pairwise (· ≤ ·)) : ms = sortI ns := by
  refine List.Perm.eq_of_pairwise (le := (· ≤ ·)) (fun a b _ _ h1 h2 => Int.le_antisymm h1 h2) s ?_ (p.trans (List.mergeSort_perm _ _).symm)
  have := List.pairwise_mergeSort (le := fun x y : Int => decide (x ≤ y)) (fun a b c h1 h2 => decide_eq_true (Int.le_trans (of_decide_eq_true h1) (of_decide_eq_true h2))) (fun a b => by
    rcases Int.le_total a b with h | h
    · simp [h]
    · simp [h]) ns
  exact this.imp fun h => of_decide_eq_true h
def sortD (x : D) (S : Sto) : R D := .ofO (((lstOf S x).bind (allO inO)).map fun ns => D.lst ((sortI ns).map D.int)) S
theorem ats_int : ∀ ns : List Int, Ats w c H n (ns.map .int) (ns.map V.int)
  | [] => .nil
  | i :: r => .cons (.i _) (ats_int r)
theorem g_sort : GCall Γ X (f1 sortD) (rSortedI X.K) := by
  refine .one fun W σ c H S x v Q r a h => ?_
  obtain ⟨ns, hb, h⟩ := Po.ofM h
  obtain ⟨p, rfl, g⟩ := lstO (fv := V.int) (fun d x v h a => inO_at h a) r a hb
  exact ⟨p, ns, rfl, g, fun ms q pm ps hq => by rw [sortI_uniq pm ps]; exact fin_lst h r (ats_int _) hq⟩
/-! ## max(.., default=None) -/
theorem c_maxdef {p kpos : Pos} {j} {cp : Pos} (hc : X.calm = true) (hm : X.mg "max" = none) (he : CE Γ X W e ma) (hg : Gl X "max" := by rfl)
    (h1 : backTo pos (starEach [e] X.env) = (false, eval e X.env) :: backTo pos (starEach [] X.env) := by rfl) (h2 : (backTo pos (starEach [e] X.env)).any (·.1) = false := by rfl)
    (h3 : starEach [e] X.env = (false, eval e X.env) :: starEach [] X.env := by rfl)
    (k1 : (backToKw pos (keywordEach [⟨some "default", .Constant .none j cp, kpos⟩] X.env)).all (·.1.isSome) = true := by rfl) (k2 : (backToKw pos (keywordEach [⟨some "default", .Constant .none j cp, kpos⟩] X.env)).any (·.1.isNone) = false := by rfl)
    (k3 : (backToKw pos (keywordEach [⟨some "default", .Constant .none j cp, kpos⟩] X.env)).filterMap (·.1) = [Str.ofString "default"] := by rfl) :
    CE Γ X W (.Call (.Name "max" p) [e] [⟨some "default", .Constant .none j cp, kpos⟩] pos) (e_call (f1 maxdD) (a_cons ma a_nil)) := by
  refine PE.weak (pe_callBK (cr_maxDef hc) hg hm (by decide +kernel) (pa_cons he pa_nil h3) (pk_cons pe_non pk_nil) (by decide) (by decide) h1 h2 k1 k2 k3) fun σ H Q ⟨c, env, S, r, ev, h⟩ => ?_
  have h' : PoE ⟨X.K, Γ⟩ W σ c H S.length ((ma env S).bind fun d S1 => maxdD d S1) Q := by
    have e : ((ma env S).bind fun d S1 => maxdD d S1) = e_call (f1 maxdD) (a_cons ma a_nil) env S := by
      show _ = ((ma env S).bind fun d S1 => ((a_nil env S1).bind fun ds S2 => .ok (d :: ds) S2)).bind fun ds S1 => f1 maxdD ds S1
      cases ma env S <;> rfl
    rw [e]; exact h
  refine ⟨c, env, S, r, ev, (Po.bind h').imp fun v H1 ⟨c1, S1, d1, e1, r1, a1, h1⟩ => ?_⟩
  obtain ⟨ns, hb, h1⟩ := Po.ofM h1
  obtain ⟨q, rfl, g⟩ := lstO (fv := V.int) (fun d x v h a => inO_at h a) r1 a1 hb
  refine ⟨q, ns, rfl, rfl, g, fun e0 => ?_, fun m hm' hg' => ?_⟩
  · rw [if_pos e0] at h1; exact fin_ok h1 r1 .o
  · have hn : ns ≠ [] := fun e => by rw [e] at hm'; cases hm'
    rw [if_neg hn] at h1
    rw [maxL_uniq hm' hg']
    exact fin_ok h1 r1 (.i _)
/-! ## a range as a tuple, as a list -/
theorem rgV_eq (x y : Int) : rgV x y = ((rngD x (y - x).toNat).map fun d => match d with
  | .int i => V.int i
  | _ => V.non) := by
  unfold rgV
  have : ∀ (k : Nat) (lo : Int), (List.range k).map (fun i : Nat => V.int (lo + i)) = (rngD lo k).map fun d => match d with
    | .int i => V.int i
    | _ => V.non := by
    intro k
    induction k with
    | zero => intro lo; rfl
    | succ k ih =>
      intro lo
      rw [List.range_succ_eq_map, List.map_cons, List.map_map]
      unfold rngD
      rw [List.map_cons, ← ih (lo + 1)]
      congr 1
      · simp
      · refine List.map_congr_left fun i _ => ?_
        show V.int (lo + ((i + 1 : Nat) : Int)) = V.int (lo + 1 + (i : Int))
        congr 1; omega
  exact this _ _
theorem ats_rng : ∀ (lo : Int) (k : Nat), Ats w c H n (rngD lo k) ((rngD lo k).map fun d => match d with
  | .int i => V.int i
  | _ => V.non)
  | lo, 0 => .nil
  | lo, k + 1 => by
    unfold rngD
    exact .cons (.i _) (ats_rng (lo + 1) k)
def rgD (f : List D → D) (x y : D) (S : Sto) : R D := match x, y with
  | .int i, .int j => .if (-(2 ^ 62) ≤ i ∧ i < 2 ^ 62 ∧ -(2 ^ 62) ≤ j ∧ j < 2 ^ 62 ∧ (j - i).toNat ≤ 2 ^ 24) (.ok (f (rngD i (j - i).toNat)) S)
  | _, _ => .bad
@[simp] theorem rgD_int (f : List D → D) (i j : Int) (S : Sto) : rgD f (.int i) (.int j) S = .if (-(2 ^ 62) ≤ i ∧ i < 2 ^ 62 ∧ -(2 ^ 62) ≤ j ∧ j < 2 ^ 62 ∧ (j - i).toNat ≤ 2 ^ 24) (.ok (f (rngD i (j - i).toNat)) S) := rfl
theorem c_tupRg {p q pos' : Pos} (hc : X.calm = true) (hm : X.mg "tuple" = none) (hr : X.mg "range" = none) (ha : CE Γ X W a ma) (hb : CE Γ X W b mb) (hg : Gl X "tuple" := by rfl) (hgr : Gl X "range" := by rfl)
    (h1 : starEach [a, b] X.env = (false, eval a X.env) :: starEach [b] X.env := by rfl) (h2 : starEach [b] X.env = (false, eval b X.env) :: starEach [] X.env := by rfl) (h3 : (backTo pos' (starEach [b] X.env)).any (·.1) = false := by rfl)
    (h4 : starEach [.Call (.Name "range" q) [a, b] [] pos'] X.env = (false, eval (.Call (.Name "range" q) [a, b] [] pos') X.env) :: starEach [] X.env := by rfl) :
    CE Γ X W (.Call (.Name "tuple" p) [.Call (.Name "range" q) [a, b] [] pos'] [] pos) (e_op (rgD .tup) ma mb) := by
  refine PE.weak (pe_tupRg hc hg hm (prg_2 hgr hr ha hb h1 h2 h3) h4) fun σ H Q ⟨c, env, S, r, ev, h⟩ => ?_
  refine ⟨c, env, S, r, ev, (Po.bind h).imp fun v H1 ⟨c1, S1, d1, e1, r1, a1, h1⟩ => ?_⟩
  refine ⟨c1, env, S1, r1, ev.mono e1, (Po.bind h1).imp fun u H2 ⟨c2, S2, d2, e2, r2, a2, h2⟩ => ?_⟩
  cases d1 with
  | int i =>
    cases d2 with
    | int j =>
      obtain ⟨hk, h2⟩ := Po.if h2
      exact ⟨i, j, a1.int, a2.int, hk, fun z hz => by rw [rgV_eq]; exact fin_tup h2 r2 (ats_rng _ _) hz⟩
    | _ => exact h2.elim
  | _ => cases d2 <;> exact h2.elim
theorem c_lstRg {p q pos' : Pos} (hc : X.calm = true) (hm : X.mg "list" = none) (hr : X.mg "range" = none) (ha : CE Γ X W a ma) (hb : CE Γ X W b mb) (hg : Gl X "list" := by rfl) (hgr : Gl X "range" := by rfl)
    (h1 : starEach [a, b] X.env = (false, eval a X.env) :: starEach [b] X.env := by rfl) (h2 : starEach [b] X.env = (false, eval b X.env) :: starEach [] X.env := by rfl) (h3 : (backTo pos' (starEach [b] X.env)).any (·.1) = false := by rfl)
    (h4 : starEach [.Call (.Name "range" q) [a, b] [] pos'] X.env = (false, eval (.Call (.Name "range" q) [a, b] [] pos') X.env) :: starEach [] X.env := by rfl) :
    CE Γ X W (.Call (.Name "list" p) [.Call (.Name "range" q) [a, b] [] pos'] [] pos) (e_op (rgD .lst) ma mb) := by
  refine PE.weak (pe_listRg hc hg hm (prg_2 hgr hr ha hb h1 h2 h3) h4) fun σ H Q ⟨c, env, S, r, ev, h⟩ => ?_
  refine ⟨c, env, S, r, ev, (Po.bind h).imp fun v H1 ⟨c1, S1, d1, e1, r1, a1, h1⟩ => ?_⟩
  refine ⟨c1, env, S1, r1, ev.mono e1, (Po.bind h1).imp fun u H2 ⟨c2, S2, d2, e2, r2, a2, h2⟩ => ?_⟩
  cases d1 with
  | int i =>
    cases d2 with
    | int j =>
      obtain ⟨hk, h2⟩ := Po.if h2
      exact ⟨i, j, a1.int, a2.int, hk, fun z hz => by rw [rgV_eq]; exact fin_lst h2 r2 (ats_rng _ _) hz⟩
    | _ => exact h2.elim
  | _ => cases d2 <;> exact h2.elim
/-! ## t1 = t2 = e -/
def s_asg2 (m : EM) (g1 g2 : GM) : SM := fun env S => (m env S).toS env fun d S1 => match (g1 d env).bind (g2 d) with
  | some env1 => .next env1 S1
  | none => .bad
@[simp] theorem s_asg2_eq (m : EM) (g1 g2 : GM) (env : Env) (S : Sto) : s_asg2 m g1 g2 env S = (m env S).toS env fun d S1 => match (g1 d env).bind (g2 d) with
  | some env1 => .next env1 S1
  | none => .bad := rfl
theorem c_asg2 {t1 t2 : Expr} {g1 g2 : GM} {sl1 sl2 : List Nat} (he : CE Γ X W e ma) (h1 : CG Γ X t1 sl1 g1) (h2 : CG Γ X t2 sl2 g2) (hs : (assignEach [t1, t2] X.env).map (·.2) = [assign t1 X.env, assign t2 X.env] := by rfl) (hw : swappedStores [t1, t2] e X.env = pure none := by rfl) : CS Γ X W (.Assign [t1, t2] e pos) (s_asg2 ma g1 g2) := by
  refine PS.weak (ps_asg2 he h1 h2 hs hw) fun Dn σ H ⟨c, env, S, r, ev, h⟩ => ?_
  refine ⟨c, env, S, r, ev, (PoS.part ev h).imp fun v H1 ⟨c1, S1, d1, e1, r1, a1, ev1, h1⟩ => ?_⟩
  cases hg : g1 d1 env with
  | none => simp only [hg, Option.bind_none] at h1; exact h1.elim
  | some env1 =>
    simp only [hg, Option.bind_some] at h1
    cases hg2 : g2 d1 env1 with
    | none => simp only [hg2] at h1; exact h1.elim
    | some env2 =>
      simp only [hg2] at h1
      exact ⟨c1, env, S1, d1, env1, r1, ev1, a1, hg, fun σ1 ev2 _ => ⟨c1, env1, S1, d1, env2, r1, ev2, a1, hg2, fun σ2 ev3 _ => h1 c1 H1 σ2 Ext.refl r1 ev3⟩⟩
/-- x, y = a, b -/
def s_par (i j : Nat) (m : AM) : SM := fun env S => (m env S).toS env fun ds S1 => match ds with
  | [x, y] => .next ((env.set i (some x)).set j (some y)) S1
  | _ => .bad
@[simp] theorem s_par_eq (i j : Nat) (m : AM) (env : Env) (S : Sto) : s_par i j m env S = (m env S).toS env fun ds S1 => match ds with
  | [x, y] => .next ((env.set i (some x)).set j (some y)) S1
  | _ => .bad := rfl
theorem c_par {i j : Nat} {x y : Str} {px py pt pt2 : Pos} {kt k2 : Nat} (hc : X.calm = true) (hN : X.N.Nodup) (hij : i ≠ j) (ha : CA Γ X W [a, b] am) (hi : X.N[i]? = some x := by rfl) (hj : X.N[j]? = some y := by rfl) (hx : X.env.scope.names.lookup x = some .local := by rfl) (hy : X.env.scope.names.lookup y = some .local := by rfl)
    (hw : swappedStores [.Tuple [.Name x px, .Name y py] kt pt] (.Tuple [a, b] k2 pt2) X.env = pure (some [x, y]))
    (hs : swapsWithSole [.Tuple [.Name x px, .Name y py] kt pt] (.Tuple [a, b] k2 pt2) pos.line X.env = pure false := by rfl) : CS Γ X W (.Assign [.Tuple [.Name x px, .Name y py] kt pt] (.Tuple [a, b] k2 pt2) pos) (s_par i j am) := by
  refine PS.weak (ps_par hc hN hi hj hij hx hy ha hw hs) fun Dn σ H ⟨c, env, S, r, ev, h⟩ => ?_
  refine ⟨c, env, S, r, ev, (PoS.part ev h).imp fun vs H1 ⟨c1, S1, ds, e1, r1, a1, ev1, h1⟩ => ?_⟩
  cases ds with
  | nil => exact h1.elim
  | cons x rs =>
    cases rs with
    | nil => exact h1.elim
    | cons y rs =>
      cases rs with
      | nil =>
        obtain ⟨v, u, rfl, ax, ay⟩ := a1.un2
        exact ⟨v, u, rfl, h1 c1 H1 _ Ext.refl r1 ((ev1.set ax).set ay)⟩
      | cons z rs => exact h1.elim
/-! ## while -/
def whileS (t : TM) (body : SM) : Nat → SM
  | 0 => fun _ _ => .bad
  | f + 1 => fun env S => (t env S).toS env fun k S1 => if k = true then (match body env S1 with
      | .next env2 S2 => whileS t body f env2 S2
      | .cnt env2 S2 => whileS t body f env2 S2
      | .brk env2 S2 => .next env2 S2
      | x => x) else .next env S1
theorem c_while {fuel : Nat} {body : List Stmt} {pm : TM} {m : SM} (hp : PassesOwn (model X.prog X.w) X.A X.env X.xe) (ht : CT Γ X W a pm) (hb : CSs Γ X W body m) : CS Γ X W (.While a body [] pos) (whileS pm m fuel) := by
  refine PS.weak (ps_while hp ht hb) fun Dn σ H ⟨c, env, S, r, ev, h⟩ => ?_
  refine ⟨fun f σ' H' => ∃ c2 env2 S2, Rep ⟨X.K, Γ⟩ c2 H' S2 ∧ EnvR ⟨X.K, Γ⟩ c2 H' S2.length σ' env2 ∧ PoS ⟨X.K, Γ⟩ W c2 H' S2.length (whileS pm m f env2 S2) Dn, ⟨fuel, c, env, S, r, ev, h⟩, ?_⟩
  rintro f σ' H' ⟨c2, env2, S2, r2, ev2, h2⟩
  cases f with
  | zero => exact h2.elim
  | succ f =>
    refine ⟨c2, env2, S2, r2, ev2, (PoS.part ev2 h2).imp fun k H1 ⟨c1, S1, d1, e1, r1, a1, ev1, h1⟩ => ?_⟩
    cases (show k = d1 from a1)
    cases k with
    | false => exact h1 c1 H1 σ' Ext.refl r1 ev1
    | true =>
      refine ⟨fun σ3 H3 => ∃ c3 env3 S3, Rep ⟨X.K, Γ⟩ c3 H3 S3 ∧ EnvR ⟨X.K, Γ⟩ c3 H3 S3.length σ3 env3 ∧ PoS ⟨X.K, Γ⟩ W c3 H3 S3.length (whileS pm m f env3 S3) Dn, fun σ3 H3 q => ⟨f, Nat.lt_succ_self _, q⟩, c1, env2, S1, r1, ev1, ?_⟩
      rw [if_pos rfl] at h1
      cases hm : m env2 S1 with
      | next env4 S4 => rw [hm] at h1; exact fun c4 H4 σ4 e4 r4 ev4 => ⟨c4, env4, S4, r4, ev4, PoS.mono e4 h1⟩
      | cnt env4 S4 => rw [hm] at h1; exact fun c4 H4 σ4 e4 r4 ev4 => ⟨c4, env4, S4, r4, ev4, PoS.mono e4 h1⟩
      | brk env4 S4 => rw [hm] at h1; exact h1
      | ret d S4 => rw [hm] at h1; exact h1
      | ex x env4 S4 => rw [hm] at h1; exact h1
      | bad => rw [hm] at h1; exact h1.elim
/-! ## texts walked, compared -/
def i_str (m : EM) : IM := fun env S => (m env S).bind fun d S1 => match d with
  | .str x => .ok (x.cps.toList.map fun k => .str ⟨#[k]⟩, none) S1
  | _ => .bad
def strLeD (x y : D) (S : Sto) : R D := match x, y with
  | .str i, .str j => .ok (.bl (!decide (j.cps.toList < i.cps.toList))) S
  | _, _ => .bad
@[simp] theorem strLeD_eq (i j : Str) (S : Sto) : strLeD (.str i) (.str j) S = .ok (.bl (!decide (j.cps.toList < i.cps.toList))) S := rfl
theorem g_strLe : GOp Γ X strLeD (fun x y H Q => ∃ i j, x = .str i ∧ y = .str j ∧ Q (.bl (!decide (j.cps.toList < i.cps.toList))) H) := by
  intro W σ c H S x y v u Q r a b h
  cases x with
  | str i =>
    cases y with
    | str j => exact ⟨i, j, a.str, b.str, fin_ok h r (.b _)⟩
    | _ => exact h.elim
  | _ => exact h.elim
/-! ## x in xs -/
def rIn3 (K : PySem.W.Frag) : R2 := fun x y H Q => rIn K false x y H Q ∨ rInD K x y H Q
def rNi3 (K : PySem.W.Frag) : R2 := fun x y H Q => rIn K true x y H Q ∨ rNotInD K x y H Q
theorem op_in3 (hu : X.A.units + 65 < cLine) : OpR X (compareOp .In) (rIn3 X.K) := op_in_seq.or (op_inD hu)
theorem op_ni3 (hu : X.A.units + 65 < cLine) : OpR X (compareOp .NotIn) (rNi3 X.K) := op_notIn_seq.or (op_notInD hu)
/-- plain values -/
def flD : D → Option V := DV
def inF (neg : Bool) (x y : D) (S : Sto) : R D := match DV x, (seqOf S y).bind (allO DV) with
  | some p, some ps => .ok (.bl (neg ^^ inV p ps)) S
  | _, _ => .bad
theorem DV_at {d : D} {u v : V} (h : DV d = some u) (a : At w c H n d v) : v = u ∧ flatV u = true := by
  cases d with
  | int i => cases h; exact ⟨a.int, rfl⟩
  | bl i => cases h; exact ⟨a.bl, rfl⟩
  | str i => cases h; exact ⟨a.str, rfl⟩
  | non => cases h; exact ⟨a.non, rfl⟩
  | _ => cases h
theorem DV_all : ∀ {ds : List D} {ps vs : List V}, allO DV ds = some ps → Ats w c H n ds vs → vs = ps ∧ ps.all flatV = true
  | [], ps, vs, h, a => by cases h; exact ⟨a.unnil, rfl⟩
  | d :: r, ps, vs, h, a => by
    rw [allO_cons] at h
    obtain ⟨v, vr, rfl, a1, a2⟩ := a.uncons
    cases hx : DV d with
    | none => rw [hx] at h; cases h
    | some x =>
      rw [hx, Option.bind_some] at h
      cases hr : allO DV r with
      | none => rw [hr] at h; cases h
      | some rs =>
        rw [hr] at h; cases h
        obtain ⟨e1, f1⟩ := DV_at hx a1
        obtain ⟨e2, f2⟩ := DV_all hr a2
        exact ⟨by rw [e1, e2], by rw [List.all_cons, f1, f2]; rfl⟩
theorem inF_at {neg : Bool} {x y : D} {v u : V} {Q : VK} (r : Rep w c H S) (a : At w c H S.length x v) (b : At w c H S.length y u) (h : PoE w W σ c H S.length (inF neg x y S) Q) : rIn w.K neg v u H Q := by
  unfold inF at h
  cases hx : DV x with
  | none => rw [hx] at h; exact h.elim
  | some p =>
    cases hs : seqOf S y with
    | none => rw [hx, hs] at h; exact h.elim
    | some ds =>
      cases ha : allO DV ds with
      | none => rw [hx, hs, Option.bind_some, ha] at h; exact h.elim
      | some ps =>
        rw [hx, hs, Option.bind_some, ha] at h
        obtain ⟨q, vs, rfl, g, t⟩ := seqOf_at r b hs
        obtain ⟨e1, f1⟩ := DV_at hx a
        obtain ⟨e2, f2⟩ := DV_all ha t
        subst e1; subst e2
        refine ⟨q, vs, rfl, g, f1, f2, ?_⟩
        have := fin_ok h r (.b _)
        cases neg <;> simpa using this
theorem g_inF : GOp Γ X (inF false) (rIn X.K false) := fun W σ c H S x y v u Q r a b h => inF_at (w := ⟨X.K, Γ⟩) r a b h
theorem g_niF : GOp Γ X (inF true) (rIn X.K true) := fun W σ c H S x y v u Q r a b h => inF_at (w := ⟨X.K, Γ⟩) r a b h
end
end Mm
set_option maxRecDepth 100000
/-! A list extended by a tuple; dicts. -/
namespace L2
open PySem PySem.Spec PyProof.Rows
set_option maxRecDepth 100000 in
theorem ext_tup (l : Addr) (items : Array Value) (n : Nat) (b : Addr) (items2 : Array Value) (n2 : Nat) (dd : Option Addr) (sl : Array (Option Value)) (hs0 : ¬(!items.isEmpty && Builtin.List.listTooLong (items.size + items2.size)) = true) (hs1 : items.size ≤ sizeLine) (hs2 : items.size + items2.size ≤ sizeLine + 1) :
    Meets (Builtin.«list.extend» ⟨[.ref l, .ref b], []⟩) (fun _ R s => s.heap.get? l = some { cls := .type "list", dict := none, data := .seq items n, slots := #[] } ∧ s.heap.get? b = some { cls := .type "tuple", dict := dd, data := .seq items2 n2, slots := sl } ∧ R (.ok (.ret Value.none)) { s with heap := s.heap.update l (Obj.mapSeq fun x => x ++ items2), toks := s.toks }) :=
  .of_wp fun prog w A R s h => by
    obtain ⟨hp, g, d, tk, os⟩ := s
    obtain ⟨hl, hb, h⟩ := h
    have f1 := AutoSeq1.idx_int
    have f2 := AutoSeq1.sub_tuple_tuple
    have f3 := AutoSeq1.sub_list_list
    have f4 := AutoSeq1.sub_tuple_list
    have f5 := AutoSeq1.sub_list_tuple
    have hz' : (items ++ items2).size ≤ sizeLine + 1 := by rw [Array.size_append]; exact hs2
    wp_walk using (wpAny_updateSeq hl rfl (hz := hs1) (_hz' := hz')), wpAny_loadPart' hl, wpAny_loadPart' hb
    exact ⟨_, rfl, h⟩
/-- xs.extend(ys), ys a list or a tuple -/
def rExtT (K : PySem.W.Frag) : V → List V → Hp → VK → Prop := fun x vs H Q => rExtend x vs H Q ∨ ∃ l b xs zs, x = V.ref l ∧ vs = [V.ref b] ∧ H l = some (HO.lst xs) ∧ SqT K H b zs ∧ xs.length + zs.length ≤ sizeLine ∧ Q V.non (upd H l (HO.lst (xs ++ zs)))
theorem mt_ext2 {X : Cx} : MtM X "list.extend" (rExtT X.K) := by
  intro pins s σ H x vs v us Q I rx rv h
  rcases h with h | h
  · exact mt_extend pins s σ H x vs v us Q I rx rv h
  obtain ⟨l, b, xs, zs, rfl, rfl, hH, hB, hz, q⟩ := h
  cases rx
  obtain ⟨u, rfl, ru⟩ := rv.one
  cases ru
  obtain ⟨z, its, n, r, hl, e⟩ := I.lstM hH
  obtain ⟨its2, r2, ⟨o2, e2, c2, n2, d2⟩, z2⟩ := I.tuple hB
  obtain ⟨oc, od, odt, os⟩ := o2
  dsimp only at c2 d2
  subst c2; subst d2
  have hl2 : its2.length = zs.length := r2.length.symm
  have hsz : its.toArray.size + its2.toArray.size ≤ sizeLine := by rw [List.size_toArray, List.size_toArray]; omega
  have hlong : ¬ (!its.toArray.isEmpty && Builtin.List.listTooLong (its.toArray.size + its2.toArray.size)) = true := by
    rw [notLongL hsz, Bool.and_false]
    exact Bool.false_ne_true
  refine call_meets F.slot_list_extend ⟨_, e, rfl⟩ F.entry_list_extend (F.args_list_extend_2 _ _)
    (ext_tup l its.toArray n b its2.toArray n2 _ _ hlong (by rw [List.size_toArray]; omega) (by omega)) ⟨e, e2, ?_⟩
  refine ⟨.non, _, I.lset (its' := its ++ its2) hH e (by simp) (r.append r2) ?_, rfl, q⟩
  rw [List.length_append]
  omega
/-! ## keys that are any tuple -/
/-- what the dict at a holds at the key y; the key may be a written tuple -/
def DGetK (K : PySem.W.Frag) (H : Hp) (a : Addr) (y : V) (r : Option V) : Prop :=
  (∃ kvs k, Rd H a (.dK kvs) ∧ y = kV k ∧ r = valV kvs k) ∨ ∃ kvs k b, Rd H a (.dT kvs) ∧ y = .ref b ∧ SqT K H b (k.map kV) ∧ r = valV kvs k
section
variable {X : Cx} {pins : List (Addr × Obj)} {σ : St} {H : Hp} {s : Shared} {a : Addr} {y v : V} {u r : Value} {o : Option V}
theorem key_sq {b : Addr} {k : List Key} (I : Inv X pins σ H s) (h : SqT X.K H b (k.map kV)) : (tupleKind (mixKind X.prog X.w)).is s.heap k b := by
  obtain ⟨its, r, ⟨o, h1, h2, n, h3⟩, _⟩ := I.tuple h
  exact ⟨o, its.toArray, n, h1, h2, h3, by simpa using items_are r⟩
theorem dk_type (I : Inv X pins σ H s) (g : DGetK X.K H a y o) : s.TypeIs (.ref a) "dict" := by
  rcases g with ⟨kvs, k, e, _, _⟩ | ⟨kvs, k, b, e, _, _, _⟩
  · exact dict_typeIs I (.inl ⟨kvs, k, e, rfl, rfl⟩)
  · obtain ⟨_, _, xs, _, dd⟩ := dt_rd I.hok e
    exact dd.typeIs
theorem dk_getItem {A : Around} {E : Value → Shared → Prop} {Q : Value → Shared → Prop} (hu : A.units + 1 < cLine) (I : Inv X pins σ H s) (g : DGetK X.K H a y (some v)) (ry : RelV y u) (h : ∀ w' s', Inv X pins σ H s' → RelV v w' → Q w' s') :
    wpAny (model X.prog X.w) A (getItem (.ref a) u) Q E s := by
  rcases g with ⟨kvs, k, e, ey, l⟩ | ⟨kvs, k, b, e, ey, eb, l⟩
  · exact d_getItem hu I (.inl ⟨kvs, k, e, ey, l⟩) ry h
  · subst ey
    cases (show u = Value.ref b from ry)
    obtain ⟨z, hd, xs, rel, dd⟩ := dt_rd I.hok e
    obtain ⟨w', hw, rw'⟩ := RelO.some_of (v := v) (o := (atKey xs k).map (·.2)) (by rw [l]; exact rel.val k)
    obtain ⟨p, hp, hp2⟩ := Option.map_eq_some_iff.mp hw
    refine wpAny_getItem_heap (tupleKind_room_in1 hu) (key_sq I eb) dd hp ?_
    rw [hp2]
    exact h w' _ (I.tok _) rw'
theorem dk_in {A : Around} {E : Value → Shared → Prop} {Q : Value → Shared → Prop} (hu : A.units + 1 < cLine) (I : Inv X pins σ H s) (g : DGetK X.K H a y o) (ry : RelV y u) (h : ∀ s', Inv X pins σ H s' → Q (.bool o.isSome) s') :
    wpAny (model X.prog X.w) A (compareOp .In u (.ref a)) Q E s := by
  rcases g with ⟨kvs, k, e, ey, l⟩ | ⟨kvs, k, b, e, ey, eb, l⟩
  · exact d_in hu I (.inl ⟨kvs, k, e, ey, l⟩) ry h
  · subst ey
    cases (show u = Value.ref b from ry)
    obtain ⟨z, hd, xs, rel, dd⟩ := dt_rd I.hok e
    refine wpAny_in_heap (tupleKind_room_in1 hu) (key_sq I eb) hd dd ?_
    have q := (rel.val k).isSome_eq
    rw [Option.isSome_map] at q
    rw [← q, ← l]
    exact h _ (I.tok _)
/-- y in d -/
def rDIn (K : PySem.W.Frag) : R2 := fun y x H Q => ∃ a o, x = .ref a ∧ DGetK K H a y o ∧ Q (.bl o.isSome) H
theorem op_dIn (hu : X.A.units + 1 < cLine) : OpR X (compareOp .In) (rDIn X.K) := by
  intro pins s σ H y x u v Q I ry rx h
  obtain ⟨a, o, rfl, g, q⟩ := h
  obtain rfl : v = Value.ref a := rx
  exact dk_in hu I g ry fun s' I' => ⟨.bl o.isSome, H, I', rfl, q⟩
/-- d[y] -/
def tDGetK (K : PySem.W.Frag) (td ty : TE) : TE := fun σ H Q => td σ H fun x H1 => ty σ H1 fun y H2 => ∃ a v, x = .ref a ∧ DGetK K H2 a y (some v) ∧ Q v H2
theorem pe_dgetK {o i : Expr} {pos : Pos} {td ty : TE} (hu : X.A.units + 1 < cLine) (ho : PE X o td) (hi : PE X i ty) (hs : NoSl i) : PE X (.Subscript o i pos) (tDGetK X.K td ty) := by
  refine ⟨fun pins s σ H Q I h => ?_⟩
  refine subD_of PySem.F.slot_dict_getitem.lookup hs (thn (ho.run pins s σ H _ I h) fun u s1 ⟨x, H1, I1, rx, q1⟩ => thn (hi.run pins s1 σ H1 _ I1 q1) fun iv s2 ⟨y, H2, I2, ry, a, v, ex, g, q2⟩ => ?_)
  subst ex
  obtain rfl : u = Value.ref a := rx
  exact ⟨dk_type I2 g, dk_getItem hu I2 g ry fun w' s3 I3 rw' => ⟨v, H2, I3, rw', q2⟩⟩
end
end L2
namespace Mm
open PySem L2
section
variable {w : Wn} {W : WX} {σ : St} {c c' : Cn} {H H' : Hp} {n n' : Nat} {S : Sto} {env : Env}
variable {Γ : Cls'} {X : Cx} {a b e o tg : Expr} {es : List Expr} {ma mb mo : EM} {am : AM} {pos : Pos} {Dn : Ends}
/-! ## xs.extend(ys) -/
def ext2D (x : D) (ds : List D) (S : Sto) : R D := match x, ds with
  | .loc k, [.tup fs] => match S[k]? with
    | some (.lst es) => .if (es.length + fs.length ≤ sizeLine) (.ok .non (S.set k (.lst (es ++ fs))))
    | _ => .bad
  | x, ds => extD x ds S
@[simp] theorem ext2D_tup (S : Sto) (k : Nat) (fs : List D) : ext2D (.loc k) [.tup fs] S = match S[k]? with
    | some (.lst es) => .if (es.length + fs.length ≤ sizeLine) (.ok .non (S.set k (.lst (es ++ fs))))
    | _ => .bad := rfl
@[simp] theorem ext2D_lst (S : Sto) (k : Nat) (fs : List D) : ext2D (.loc k) [.lst fs] S = extD (.loc k) [.lst fs] S := rfl
@[simp] theorem ext2D_loc (S : Sto) (k j : Nat) : ext2D (.loc k) [.loc j] S = extD (.loc k) [.loc j] S := rfl
theorem gm_ext2 : GMt Γ X ext2D (rExtT X.K) := by
  intro W σ c H S x v ds vs Q r a t h
  have go : ext2D x ds S = extD x ds S → rExtT X.K v vs H Q := fun e => by
    rw [e] at h
    exact .inl (gm_ext W σ c H S x v ds vs Q r a t h)
  cases x with
  | loc k =>
    cases ds with
    | nil => exact go rfl
    | cons y rs =>
      cases rs with
      | cons z rs => cases y <;> exact go rfl
      | nil =>
        cases y with
        | tup fs =>
          rw [ext2D_tup] at h
          cases hk : S[k]? with
          | none => rw [hk] at h; exact h.elim
          | some o =>
            cases o with
            | lst es =>
              rw [hk] at h
              obtain ⟨u, rfl, ay⟩ := t.un1
              obtain ⟨hl, h⟩ := Po.if h
              unfold At at a
              obtain ⟨us, g, te⟩ := r.get hk
              obtain ⟨q, ws, rfl, g2, tf⟩ := ay.tup
              exact .inr ⟨c.ρ k, q, us, ws, a.2, rfl, g, g2, by rw [te.len, tf.len]; exact hl, wr_end rfl r a.1 ⟨_, g, trivial⟩ (te.app tf) h⟩
            | _ => rw [hk] at h; exact h.elim
        | _ => exact go rfl
  | _ => exact go rfl
/-! ## dicts -/
def unK : D → Option Key
  | .int i => some (.inl i)
  | .str x => some (.inr x)
  | _ => none
def unT : D → Option (List Key)
  | .tup ds => allO unK ds
  | _ => none
/-- a tracked tuple's keys -/
def unR : D → Option (List Key)
  | .ttp ds => allO unK ds
  | _ => none
def kkO (ks : List D) : Option (List Key) := allO unK ks
def ktO : List D → Option (List (List Key))
  | .non :: r => allO unT r
  | _ => none
abbrev tupD (k : List Key) : D := .tup (k.map keyD)
theorem unK_key (k : Key) : unK (keyD k) = some k := by cases k <;> rfl
theorem unT_key (k : List Key) : unT (tupD k) = some k := allO_map unK_key k
theorem kkO_map (kk : List Key) : kkO (kk.map keyD) = some kk := allO_map unK_key kk
theorem ktO_map (kk : List (List Key)) : ktO (.non :: kk.map tupD) = some kk := allO_map (g := tupD) unT_key kk
theorem kkO_non (ks : List D) : kkO (.non :: ks) = none := rfl
theorem ktO_map' (kk : List Key) : ktO (kk.map keyD) = none := by
  cases kk with
  | nil => rfl
  | cons k r => cases k <;> rfl
theorem unK_inv {d : D} {k : Key} (h : unK d = some k) : d = keyD k := by
  cases d with
  | int i => cases h; rfl
  | str i => cases h; rfl
  | _ => cases h
theorem allK_inv : ∀ {ds : List D} {k : List Key}, allO unK ds = some k → ds = k.map keyD
  | [], k, h => by cases h; rfl
  | d :: r, k, h => by
    rw [allO_cons] at h
    cases hx : unK d with
    | none => rw [hx] at h; cases h
    | some x =>
      rw [hx, Option.bind_some] at h
      cases hr : allO unK r with
      | none => rw [hr] at h; cases h
      | some rs => rw [hr] at h; cases h; rw [List.map_cons, unK_inv hx, allK_inv hr]
theorem unT_inv {d : D} {k : List Key} (h : unT d = some k) : d = tupD k := by
  cases d with
  | tup ds => exact congrArg D.tup (allK_inv h)
  | _ => cases h
theorem unR_inv {d : D} {k : List Key} (h : unR d = some k) : d = .ttp (k.map keyD) := by
  cases d with
  | ttp ds => exact congrArg D.ttp (allK_inv h)
  | _ => cases h
theorem unR_key (k : List Key) : unR (.ttp (k.map keyD)) = some k := allO_map unK_key k
theorem keyD_at {k : Key} {v : V} (a : At w c H n (keyD k) v) : v = kV k := by
  cases k with
  | inl i => exact a.int
  | inr i => exact a.str
theorem keysD_at : ∀ {k : List Key} {vs : List V}, Ats w c H n (k.map keyD) vs → vs = k.map kV
  | [], vs, a => a.unnil
  | k :: r, vs, a => by
    obtain ⟨v, vr, rfl, a1, a2⟩ := a.uncons
    rw [keyD_at a1, keysD_at a2]; rfl
def dicOf (S : Sto) (d : D) : Option (List D × List D) := match d with
  | .dic ks ds => some (ks, ds)
  | .loc j => match S[j]? with
    | some (.dic ks ds) => some (ks, ds)
    | _ => none
  | _ => none
@[simp] theorem dicOf_dic (S : Sto) (ks ds : List D) : dicOf S (.dic ks ds) = some (ks, ds) := rfl
@[simp] theorem dicOf_loc (S : Sto) (j : Nat) : dicOf S (.loc j) = match S[j]? with
    | some (.dic ks ds) => some (ks, ds)
    | _ => none := rfl
theorem dicOf_at {d : D} {v : V} {ks ds : List D} (r : Rep w c H S) (at_ : At w c H S.length d v) (h : dicOf S d = some (ks, ds)) :
    ∃ p vs, v = .ref p ∧ Ats w c H S.length ds vs ∧ ((∃ kk : List Key, DkA w H p (.dK (kk.zip vs)) ∧ kk.length = vs.length ∧ ks = kk.map keyD) ∨ (∃ kk : List (List Key), DkA w H p (.dT (kk.zip vs)) ∧ kk.length = vs.length ∧ ks = .non :: kk.map tupD)) := by
  cases d with
  | dic ks' ds' =>
    cases h
    unfold At at at_
    obtain ⟨p, vs, rfl, f, g, t⟩ := at_
    exact ⟨p, vs, rfl, t, g⟩
  | loc j =>
    rw [dicOf_loc] at h
    cases hj : S[j]? with
    | none => rw [hj] at h; cases h
    | some ob =>
      cases ob with
      | dic ks' ds' =>
        rw [hj] at h
        cases h
        unfold At at at_
        obtain ⟨vs, g, t⟩ := r.get hj
        refine ⟨_, vs, at_.2, t, ?_⟩
        rcases g with ⟨kk, g⟩ | ⟨kk, g⟩
        · exact .inl ⟨kk, g.1, g.2⟩
        · exact .inr ⟨kk, g.1, g.2⟩
      | _ => rw [hj] at h; cases h
  | _ => cases h
/-- what stands at the key k -/
def getDs {κ : Type} [DecidableEq κ] (kk : List κ) (ds : List D) (k : κ) : Option D := ((kk.zip ds).find? fun p => decide (p.1 = k)).map (·.2)
theorem getDs_at {κ : Type} [DecidableEq κ] {k : κ} : ∀ {kk : List κ} {ds : List D} {vs : List V}, Ats w c H n ds vs →
    (∃ d v, getDs kk ds k = some d ∧ valV (kk.zip vs) k = some v ∧ At w c H n d v) ∨ (getDs kk ds k = none ∧ valV (kk.zip vs) k = none)
  | [], ds, vs, t => .inr ⟨rfl, rfl⟩
  | k' :: r, [], vs, t => by rw [t.unnil]; exact .inr ⟨rfl, rfl⟩
  | k' :: r, d :: ds, vs, t => by
    obtain ⟨v, vr, rfl, a1, a2⟩ := t.uncons
    unfold getDs valV
    rw [List.zip_cons_cons, List.zip_cons_cons, List.find?_cons, List.find?_cons]
    by_cases e : k' = k
    · subst e
      simp only [decide_true, Option.map_some]
      exact .inl ⟨d, v, rfl, rfl, a1⟩
    · simp only [e, decide_false]
      exact getDs_at a2
/-- d[y] as it is looked up: none where it is not a key, or not there -/
def dgetO (p : List D × List D) (y : D) : Option (Option D) := match kkO p.1 with
  | some kk => (unK y).map fun k => getDs kk p.2 k
  | none => match ktO p.1 with
    | some kk => (unT y).map fun k => getDs kk p.2 k
    | none => none
theorem dget_at {x y : D} {v u : V} {p : List D × List D} {r : Option D} (rp : Rep w c H S) (a : At w c H S.length x v) (b : At w c H S.length y u) (h1 : dicOf S x = some p) (h2 : dgetO p y = some r) :
    ∃ q, v = .ref q ∧ ∃ ov, DGetK w.K H q u ov ∧ ((∃ d z, r = some d ∧ ov = some z ∧ At w c H S.length d z) ∨ (r = none ∧ ov = none)) := by
  obtain ⟨q, vs, rfl, t, g⟩ := dicOf_at (ks := p.1) (ds := p.2) rp a h1
  refine ⟨q, rfl, ?_⟩
  unfold dgetO at h2
  rcases g with ⟨kk, hq, hl, hk⟩ | ⟨kk, hq, hl, hk⟩
  · rw [hk, kkO_map] at h2
    obtain ⟨k, hy, rfl⟩ := Option.map_eq_some_iff.mp h2
    have ey := unK_inv hy
    subst ey
    refine ⟨valV (kk.zip vs) k, .inl ⟨_, k, hq.rd, keyD_at b, rfl⟩, ?_⟩
    rcases getDs_at (k := k) (kk := kk) t with ⟨d, z, h1, h2, h3⟩ | ⟨h1, h2⟩
    · exact .inl ⟨d, z, h1, h2, h3⟩
    · exact .inr ⟨h1, h2⟩
  · rw [hk, kkO_non] at h2
    dsimp only at h2
    rw [ktO_map] at h2
    obtain ⟨k, hy, rfl⟩ := Option.map_eq_some_iff.mp h2
    have ey := unT_inv hy
    subst ey
    obtain ⟨p2, us, rfl, sq, tk⟩ := b.tup
    rw [keysD_at tk] at sq
    refine ⟨valV (kk.zip vs) k, .inr ⟨_, k, p2, hq.rd, rfl, sq, rfl⟩, ?_⟩
    rcases getDs_at (k := k) (kk := kk) t with ⟨d, z, h1, h2, h3⟩ | ⟨h1, h2⟩
    · exact .inl ⟨d, z, h1, h2, h3⟩
    · exact .inr ⟨h1, h2⟩
def dgetD (x y : D) (S : Sto) : R D := .ofO (((dicOf S x).bind fun p => dgetO p y).bind id) S
def dinD (neg : Bool) (y x : D) (S : Sto) : R D := .ofO (((dicOf S x).bind fun p => dgetO p y).map fun r => D.bl (neg ^^ r.isSome)) S
theorem c_dget (hu : X.A.units + 1 < cLine) (ha : CE Γ X W a ma) (hb : CE Γ X W b mb) (hs : NoSl b := by exact fun _ _ => rfl) : CE Γ X W (.Subscript a b pos) (e_op dgetD ma mb) := by
  refine PE.weak (pe_dgetK hu ha hb hs) fun σ H Q ⟨c, env, S, r, ev, h⟩ => ?_
  refine ⟨c, env, S, r, ev, (Po.bind h).imp fun v H1 ⟨c1, S1, d1, e1, r1, a1, h1⟩ => ?_⟩
  refine ⟨c1, env, S1, r1, ev.mono e1, (Po.bind h1).imp fun u H2 ⟨c2, S2, d2, e2, r2, a2, h2⟩ => ?_⟩
  obtain ⟨d, hd, h2⟩ := Po.ofO h2
  cases hp : dicOf S2 d1 with
  | none => rw [hp] at hd; cases hd
  | some p =>
    rw [hp, Option.bind_some] at hd
    cases hg : dgetO p d2 with
    | none => rw [hg] at hd; cases hd
    | some rr =>
      rw [hg] at hd
      have hd : rr = some d := hd
      obtain ⟨q, rfl, ov, g, z⟩ := dget_at r2 (a1.mono e2) a2 hp hg
      rcases z with ⟨d', v', e1', e2', a'⟩ | ⟨e1', _⟩
      · rw [hd] at e1'; cases e1'
        rw [e2'] at g
        exact ⟨q, v', rfl, g, fin_ok h2 r2 a'⟩
      · rw [hd] at e1'; cases e1'
theorem g_din : GOp Γ X (dinD false) (rDIn X.K) := by
  intro W σ c H S y x u v Q r b a h
  obtain ⟨rr, hd, h⟩ := Po.ofM h
  cases hp : dicOf S x with
  | none => rw [hp] at hd; cases hd
  | some p =>
    rw [hp, Option.bind_some] at hd
    obtain ⟨q, rfl, ov, g, z⟩ := dget_at (w := ⟨X.K, Γ⟩) r a b hp hd
    refine ⟨q, ov, rfl, g, ?_⟩
    rcases z with ⟨d', v', rfl, rfl, _⟩ | ⟨rfl, rfl⟩
    · exact fin_ok h r (.b _)
    · exact fin_ok h r (.b _)
/-! ## {} -/
def e_dnew (ks : List D) : EM := fun _ S => .ok (.loc S.length) (S ++ [.dic ks []])
@[simp] theorem e_dnew_eq (ks : List D) (env : Env) (S : Sto) : e_dnew ks env S = .ok (.loc S.length) (S ++ [.dic ks []]) := rfl
theorem fin_dnew {ks : List D} {o : HO} {Q : VK} (h : PoE w W σ c H S.length (.ok (.loc S.length) (S ++ [.dic ks []])) Q) (r : Rep w c H S) {p : Addr} (hp : H p = none) (hq : ∀ c n, OAt w c (upd H p o) n p (.dic ks [])) : Q (.ref p) (upd H p o) := by
  have hl : (S ++ [SO.dic ks []]).length = S.length + 1 := by rw [List.length_append]; rfl
  refine h (c.nw S.length p) _ (.ref p) (by rw [hl]; exact Ext.nw hp) (r.nw hp (hq _ _)) ?_
  unfold At
  exact ⟨by rw [hl]; exact Nat.lt_succ_self _, by rw [Cn.nw_at]⟩
theorem c_dnewK : CE Γ X W (.Dict [] [] pos) (e_dnew []) := PE.weak pe_dnewK fun σ H Q ⟨c, env, S, r, ev, h⟩ p hp => fin_dnew h r hp fun c n => ⟨[], .inl ⟨[], .inl upd_same, rfl, rfl⟩, .nil⟩
theorem c_dnewT : CE Γ X W (.Dict [] [] pos) (e_dnew [.non]) := PE.weak pe_dnewT fun σ H Q ⟨c, env, S, r, ev, h⟩ p hp => fin_dnew h r hp fun c n => ⟨[], .inr ⟨[], .inl upd_same, rfl, rfl⟩, .nil⟩
/-! ## d[y] = v -/
def putDs {κ : Type} [DecidableEq κ] (kk : List κ) (ds : List D) (k : κ) (z : D) : List κ × List D :=
  if (kk.any fun x => decide (x = k)) = true then (kk, List.zipWith (fun k' d => if k' = k then z else d) kk ds) else (kk ++ [k], ds ++ [z])
theorem any_zip {κ : Type} (p : κ → Bool) : ∀ {kk : List κ} {vs : List V}, kk.length = vs.length → ((kk.zip vs).any fun kv => p kv.1) = kk.any p
  | [], vs, h => rfl
  | k :: r, [], h => by simp at h
  | k :: r, v :: vs, h => by rw [List.zip_cons_cons, List.any_cons, List.any_cons, any_zip p (by simpa using h)]
theorem map_zip {κ : Type} [DecidableEq κ] (k : κ) (z : V) : ∀ {kk : List κ} {vs : List V}, kk.length = vs.length → ((kk.zip vs).map fun kv => if kv.1 = k then (kv.1, z) else kv) = kk.zip (List.zipWith (fun k' d => if k' = k then z else d) kk vs)
  | [], vs, h => rfl
  | k' :: r, [], h => by simp at h
  | k' :: r, v :: vs, h => by
    rw [List.zip_cons_cons, List.map_cons, map_zip k z (by simpa using h), List.zipWith_cons_cons, List.zip_cons_cons]
    by_cases e : k' = k
    · simp [e]
    · simp [e]
theorem zip_snoc {κ : Type} (k : κ) (z : V) : ∀ {kk : List κ} {vs : List V}, kk.length = vs.length → kk.zip vs ++ [(k, z)] = (kk ++ [k]).zip (vs ++ [z])
  | [], [], h => rfl
  | [], v :: vs, h => by simp at h
  | k :: r, [], h => by simp at h
  | k :: r, v :: vs, h => by
    rw [List.zip_cons_cons, List.cons_append, zip_snoc _ z (by simpa using h)]; rfl
theorem ats_zipW {κ : Type} [DecidableEq κ] {k : κ} {z : D} {u : V} (az : At w c H n z u) : ∀ {kk : List κ} {ds : List D} {vs : List V}, Ats w c H n ds vs → Ats w c H n (List.zipWith (fun k' d => if k' = k then z else d) kk ds) (List.zipWith (fun k' d => if k' = k then u else d) kk vs)
  | [], ds, vs, t => .nil
  | k' :: r, [], vs, t => by rw [t.unnil]; exact .nil
  | k' :: r, d :: ds, vs, t => by
    obtain ⟨v, vr, rfl, a1, a2⟩ := t.uncons
    rw [List.zipWith_cons_cons, List.zipWith_cons_cons]
    refine .cons ?_ (ats_zipW az a2)
    by_cases e : k' = k
    · rw [if_pos e, if_pos e]; exact az
    · rw [if_neg e, if_neg e]; exact a1
/-- the store's dict behind it -/
theorem put_zip {κ : Type} [DecidableEq κ] {k : κ} {z : D} {u : V} {kk : List κ} {ds : List D} {vs : List V} (az : At w c H n z u) (t : Ats w c H n ds vs) (hl : kk.length = vs.length) :
    ∃ us, putK (kk.zip vs) k u = (putDs kk ds k z).1.zip us ∧ (putDs kk ds k z).1.length = us.length ∧ Ats w c H n (putDs kk ds k z).2 us := by
  unfold putK putDs
  rw [any_zip (fun x => decide (x = k)) hl]
  by_cases e : (kk.any fun x => decide (x = k)) = true
  · rw [if_pos e, if_pos e]
    exact ⟨_, map_zip k u hl, by rw [List.length_zipWith, hl]; simp, ats_zipW az t⟩
  · rw [if_neg e, if_neg e]
    exact ⟨vs ++ [u], zip_snoc k u hl, by simp [hl], t.app (.one az)⟩
def dputO (ks ds : List D) (y z : D) : Option (List D × List D) := match kkO ks with
  | some kk => (unK y).bind fun k => if kk.length < sizeLine then some ((putDs kk ds k z).1.map keyD, (putDs kk ds k z).2) else none
  | none => match ktO ks with
    | some kk => (unR y).bind fun k => if kk.length < sizeLine then some (.non :: (putDs kk ds k z).1.map tupD, (putDs kk ds k z).2) else none
    | none => none
def dput (S : Sto) (x y z : D) : Option Sto := match x with
  | .loc j => match S[j]? with
    | some (.dic ks ds) => (dputO ks ds y z).map fun p => S.set j (.dic p.1 p.2)
    | _ => none
  | _ => none
@[simp] theorem dput_loc (S : Sto) (j : Nat) (y z : D) : dput S (.loc j) y z = match S[j]? with
    | some (.dic ks ds) => (dputO ks ds y z).map fun p => S.set j (.dic p.1 p.2)
    | _ => none := rfl
def s_dput (mv mo mi : EM) : SM := fun env S => (mv env S).toS env fun z S1 => (mo env S1).toS env fun x S2 => (mi env S2).toS env fun y S3 => match dput S3 x y z with
  | some S4 => .next env S4
  | none => .bad
@[simp] theorem s_dput_eq (mv mo mi : EM) (env : Env) (S : Sto) : s_dput mv mo mi env S = (mv env S).toS env fun z S1 => (mo env S1).toS env fun x S2 => (mi env S2).toS env fun y S3 => match dput S3 x y z with
  | some S4 => .next env S4
  | none => .bad := rfl
theorem dput_at {S' : Sto} {x y z : D} {v u t : V} (lk : w.Γ.lk = none) (r : Rep w c H S) (ax : At w c H S.length x v) (ay : At w c H S.length y u) (az : At w c H S.length z t) (h : dput S x y z = some S') :
    ∃ p H', v = .ref p ∧ DPut H p u t H' ∧ S'.length = S.length ∧ Ext c H S.length c H' S.length ∧ Rep w c H' S' := by
  cases x with
  | loc j =>
    rw [dput_loc] at h
    cases hj : S[j]? with
    | none => rw [hj] at h; cases h
    | some ob =>
      cases ob with
      | dic ks ds =>
        rw [hj] at h
        obtain ⟨p, hp, rfl⟩ := Option.map_eq_some_iff.mp h
        unfold At at ax
        obtain ⟨vs, g, ta⟩ := r.get hj
        unfold dputO at hp
        rcases g with ⟨kk, hq, hl, hk⟩ | ⟨kk, hq, hl, hk⟩
        · have hq := hq.ex lk
          rw [hk, kkO_map] at hp
          dsimp only at hp
          cases hy : unK y with
          | none => rw [hy] at hp; cases hp
          | some k =>
            rw [hy, Option.bind_some] at hp
            by_cases hz : kk.length < sizeLine
            · rw [if_pos hz] at hp; cases hp
              have ey := unK_inv hy
              subst ey
              obtain ⟨us, e1, e2, e3⟩ := put_zip (k := k) (kk := kk) az ta hl
              have ex := Ext.wr r (o := .dK (putK (kk.zip vs) k t)) ax.1 ⟨_, hq, trivial⟩
              refine ⟨c.ρ j, _, ax.2, .inl ⟨_, k, hq, keyD_at ay, by rw [List.length_zip]; omega, rfl⟩, List.length_set, ex, Rep.wr r ax.1 ⟨_, hq, trivial⟩ ⟨us, .inl ⟨_, .inl (by rw [upd_same, e1]), e2, rfl⟩, e3.mono ex⟩⟩
            · rw [if_neg hz] at hp; cases hp
        · have hq := hq.ex lk
          rw [hk, kkO_non] at hp
          dsimp only at hp
          rw [ktO_map] at hp
          dsimp only at hp
          cases hy : unR y with
          | none => rw [hy] at hp; cases hp
          | some k =>
            rw [hy, Option.bind_some] at hp
            by_cases hz : kk.length < sizeLine
            · rw [if_pos hz] at hp; cases hp
              have ey := unR_inv hy
              subst ey
              obtain ⟨us, e1, e2, e3⟩ := put_zip (k := k) (kk := kk) az ta hl
              have ex := Ext.wr r (o := .dT (putK (kk.zip vs) k t)) ax.1 ⟨_, hq, trivial⟩
              unfold At at ay
              obtain ⟨b, xs, rfl, hb, tk⟩ := ay
              rw [keysD_at tk] at hb
              refine ⟨c.ρ j, _, ax.2, .inr ⟨_, k, b, hq, rfl, hb, by rw [List.length_zip]; omega, rfl⟩, List.length_set, ex, Rep.wr r ax.1 ⟨_, hq, trivial⟩ ⟨us, .inr ⟨_, .inl (by rw [upd_same, e1]), e2, rfl⟩, e3.mono ex⟩⟩
            · rw [if_neg hz] at hp; cases hp
      | _ => rw [hj] at h; cases h
  | _ => cases h
theorem c_dput {o i : Expr} {mo mi : EM} {p0 : Pos} (lk : Γ.lk = none) (hu : X.A.units + 1 < cLine) (he : CE Γ X W e ma) (ho : CE Γ X W o mo) (hi : CE Γ X W i mi) (hs : swapsWith e (some (.Subscript o i p0)) pos.line X.env = pure false := by rfl) : CS Γ X W (.Assign [.Subscript o i p0] e pos) (s_dput ma mo mi) := by
  refine PS.weak (ps_dput hu ho hi he hs) fun Dn σ H ⟨c, env, S, r, ev, h⟩ => ?_
  refine ⟨c, env, S, r, ev, (PoS.part ev h).imp fun v H1 ⟨c1, S1, d1, e1, r1, a1, ev1, h1⟩ => ?_⟩
  refine ⟨c1, env, S1, r1, ev1, (PoS.part ev1 h1).imp fun v2 H2 ⟨c2, S2, d2, e2, r2, a2, ev2, h2⟩ => ?_⟩
  refine ⟨c2, env, S2, r2, ev2, (PoS.part ev2 h2).imp fun v3 H3 ⟨c3, S3, d3, e3, r3, a3, ev3, h3⟩ => ?_⟩
  cases hs : dput S3 d2 d3 d1 with
  | none => simp only [hs] at h3; exact h3.elim
  | some S4 =>
    simp only [hs] at h3
    obtain ⟨p, H', rfl, g, hl, ex, rr⟩ := dput_at (w := ⟨X.K, Γ⟩) lk r3 (a2.mono e3) a3 ((a1.mono e2).mono e3) hs
    exact ⟨p, H', rfl, g, h3 c3 H' σ (by rw [hl]; exact ex) rr (by rw [hl]; exact ev3.mono ex)⟩
/-! ## tracked tuples -/
def e_ttp (m : AM) : EM := fun env S => (m env S).bind fun ds S1 => .if (ds.length ≤ 1000) (.ok (.ttp ds) S1)
@[simp] theorem e_ttp_eq (m : AM) (env : Env) (S : Sto) : e_ttp m env S = (m env S).bind fun ds S1 => .if (ds.length ≤ 1000) (.ok (.ttp ds) S1) := rfl
theorem fin_ttp {ds : List D} {vs : List V} {Q : VK} (h : PoE w W σ c H S.length (.ok (.ttp ds) S) Q) (r : Rep w c H S) (a : Ats w c H S.length ds vs) {p : Addr} (hp : H p = none) : Q (.ref p) (upd H p (.tup vs)) := by
  refine h c _ (.ref p) (Ext.grow hp) (r.grow hp) ?_
  unfold At
  exact ⟨p, vs, rfl, upd_same, a.mono (Ext.grow hp)⟩
theorem c_ttp {k : Nat} (ha : CA Γ X W es am) : CE Γ X W (.Tuple es k pos) (e_ttp am) := by
  refine PE.weak (pe_tup ha) fun σ H Q ⟨c, env, S, r, ev, h⟩ => ?_
  refine ⟨c, env, S, r, ev, (Po.bind h).imp fun vs H1 ⟨c1, S1, ds, e1, r1, a1, h1⟩ => ?_⟩
  obtain ⟨hl, h1⟩ := Po.if h1
  exact ⟨by rw [a1.len]; exact Nat.le_trans hl (by decide), fun p hp => fin_ttp h1 r1 a1 hp⟩
def addT (x y : D) (S : Sto) : R D := match x, y with
  | .ttp a, .ttp b => .if (a.length + b.length ≤ sizeLine) (.ok (.ttp (a ++ b)) S)
  | _, _ => .bad
@[simp] theorem addT_eq (i j : List D) (S : Sto) : addT (.ttp i) (.ttp j) S = .if (i.length + j.length ≤ sizeLine) (.ok (.ttp (i ++ j)) S) := rfl
theorem g_addT : GOp Γ X addT (rAdd4 X.K) := by
  intro W σ c H S x y v u Q r a b h
  cases x with
  | ttp i =>
    cases y with
    | ttp j =>
      obtain ⟨hl, h⟩ := Po.if h
      have a' := a
      have b' := b
      unfold At at a b
      obtain ⟨p, vs, rfl, g, t⟩ := a
      obtain ⟨q, us, rfl, g', t'⟩ := b
      refine .inl (.inr ⟨p, q, vs, us, rfl, rfl, SqT.of g, SqT.of g', by rw [t.len, t'.len]; exact hl, fun e => ?_, fun _ e => ?_, fun _ _ z hz => fin_ttp h r (t.app t') hz⟩)
      · have : i = [] := by
          have := t.len; rw [e] at this; exact List.length_eq_zero_iff.mp this.symm
        subst this
        exact fin_ok h r b'
      · have : j = [] := by
          have := t'.len; rw [e] at this; exact List.length_eq_zero_iff.mp this.symm
        subst this
        exact fin_ok h r (by rw [List.append_nil]; exact a')
    | _ => exact h.elim
  | _ => exact h.elim
/-- a tracked tuple as any other -/
def looseD (d : D) : D := match d with
  | .ttp ds => .tup ds
  | d => d
/-! ## len(d), list(d) -/
def rLen2 : List V → Hp → VK → Prop := fun xs H Q => (∃ a kvs, xs = [.ref a] ∧ H a = some (.dK kvs) ∧ Q (.int kvs.length) H) ∨ rLenT xs H Q
theorem call_lenD2 : CallR X (.builtin "len") rLen2 := by
  intro pins s σ H xs us Q I rx h
  rcases h with h | h
  · exact call_lenD pins s σ H xs us Q I rx h
  · exact call_len_dT pins s σ H xs us Q I rx h
def dlenD (x : D) (S : Sto) : R D := .ofO ((dicOf S x).map fun p => D.int p.2.length) S
theorem g_dlen (lk : Γ.lk = none) : GCall Γ X (f1 dlenD) rLen2 := by
  refine .one fun W σ c H S x v Q r a h => ?_
  obtain ⟨p, hp, h⟩ := Po.ofM h
  obtain ⟨q, vs, rfl, t, g⟩ := dicOf_at (ks := p.1) (ds := p.2) r a hp
  have q1 := fin_ok h r (.i _)
  rcases g with ⟨kk, hq, hl, hk⟩ | ⟨kk, hq, hl, hk⟩
  · exact .inl ⟨q, _, rfl, hq.ex lk, by rw [List.length_zip, hl, Nat.min_self, t.len]; exact q1⟩
  · exact .inr ⟨q, _, rfl, hq.ex lk, by rw [List.length_zip, hl, Nat.min_self, t.len]; exact q1⟩
def rListD2 : List V → Hp → VK → Prop := fun xs H Q => rListD xs H Q ∨ ∃ d kvs, xs = [.ref d] ∧ Rd H d (.dT kvs) ∧ ∀ (p : Addr) (bs : List Addr), H p = none → IsKeys H kvs bs → Q (.ref p) (upd H p (.lst (bs.map V.ref)))
theorem call_listD2 (hc : X.calm = true) : CallR X (.type "list") rListD2 := by
  intro pins s σ H xs us Q I rx h
  rcases h with h | h
  · exact call_list_dK hc pins s σ H xs us Q I rx h
  · exact call_list_dT hc pins s σ H xs us Q I rx h
def keysO (ks : List D) : Option (List D) := match kkO ks with
  | some kk => some (kk.map keyD)
  | none => (ktO ks).map fun kk => kk.map tupD
def dlistD (x : D) (S : Sto) : R D := .ofO (((dicOf S x).bind fun p => keysO p.1).map D.lst) S
theorem ats_keys : ∀ kk : List Key, Ats w c H n (kk.map keyD) (kk.map kV)
  | [] => .nil
  | .inl i :: r => .cons (.i _) (ats_keys r)
  | .inr i :: r => .cons (.s _) (ats_keys r)
theorem ats_tkeys : ∀ {kk : List (List Key)} {vs : List V} {bs : List Addr}, kk.length = vs.length → IsKeys H (kk.zip vs) bs → Ats w c H n (kk.map tupD) (bs.map V.ref)
  | [], vs, bs, h, k => by cases k; exact .nil
  | k :: r, [], bs, h, q => by simp at h
  | k :: r, v :: vs, bs, h, q => by
    rw [List.zip_cons_cons] at q
    cases q with
    | cons a b =>
      refine .cons ?_ (ats_tkeys (by simpa using h) b)
      unfold At
      exact ⟨_, _, rfl, SqT.of a, ats_keys _⟩
theorem zip_fst {α β : Type} : ∀ {xs : List α} {ys : List β}, xs.length = ys.length → (xs.zip ys).map (·.1) = xs
  | [], ys, h => rfl
  | x :: r, [], h => by simp at h
  | x :: r, y :: s, h => by rw [List.zip_cons_cons, List.map_cons, zip_fst (by simpa using h)]
theorem g_dlist (lk : Γ.lk = none) : GCall Γ X (f1 dlistD) rListD2 := by
  refine .one fun W σ c H S x v Q r a h => ?_
  obtain ⟨ds, hd, h⟩ := Po.ofM h
  cases hp : dicOf S x with
  | none => rw [hp] at hd; cases hd
  | some p =>
    rw [hp, Option.bind_some] at hd
    obtain ⟨q, vs, rfl, t, g⟩ := dicOf_at (ks := p.1) (ds := p.2) r a hp
    unfold keysO at hd
    rcases g with ⟨kk, hq, hl, hk⟩ | ⟨kk, hq, hl, hk⟩
    · rw [hk, kkO_map] at hd
      cases hd
      refine .inl ⟨q, _, rfl, hq.ex lk, fun z hz => ?_⟩
      rw [show (kk.zip vs).map (fun kv => kV kv.1) = kk.map kV from by rw [show (kk.zip vs).map (fun kv => kV kv.1) = ((kk.zip vs).map (·.1)).map kV from by rw [List.map_map]; rfl, zip_fst hl]]
      exact fin_lst h r (ats_keys kk) hz
    · rw [hk, kkO_non] at hd
      dsimp only at hd
      rw [ktO_map] at hd
      cases hd
      exact .inr ⟨q, _, rfl, hq.rd, fun z bs hz hb => fin_lst h r (ats_tkeys hl hb) hz⟩
end
end Mm
set_option maxRecDepth 100000
/-! A dict comprehension of two clauses; comprehensions of two clauses over plain data. -/
namespace L2
open PySem PySem.Spec PyProof.Rows
section
variable {kx vx t0 i0 t1 i1 : Expr} {f0 f1 : List Expr} {sc : Scope} {pos : Pos}
abbrev dcE (kx vx t0 i0 t1 i1 : Expr) (f0 f1 : List Expr) (sc : Scope) (pos : Pos) : Expr := .DictComp kx vx [⟨t0, i0, f0, 0⟩, ⟨t1, i1, f1, 0⟩] sc pos
abbrev tests (fs : List Expr) (env : Env) : Sem Bool := forIn fs true fun c r => if r = true then do let ok ← isTrue c env (eval c env); pure (ForInStep.yield ok) else pure (ForInStep.yield r)
/-- one turn of the first clause, of the second -/
theorem turn_out (it : Value) (D : Addr) (env : Env) : compTurn (dcE kx vx t0 i0 t1 i1 f0 f1 sc pos) 0 it (.ref D) env = (standAt i0.pos >>= fun _ => pyNext it >>= fun o => match o with
    | none => pure (.done .next)
    | some v => letOwnedTupleGo t0 it v >>= fun _ => assign t0 env v >>= fun _ => tests f0 env >>= fun ok => if ok = true then (eval i1 env >>= fun x => standAt i1.pos >>= fun _ => foldedSetIterable i1 env x >>= fun x => holding [x] (pyIter x) >>= fun j =>
        runOwn (.compStart (dcE kx vx t0 i0 t1 i1 f0 f1 sc pos) 1 j (.ref D) env) env >>= fun _ => again (.compLoop (dcE kx vx t0 i0 t1 i1 f0 f1 sc pos) 0 it (.ref D) env)) else again (.compLoop (dcE kx vx t0 i0 t1 i1 f0 f1 sc pos) 0 it (.ref D) env)) := by rfl
theorem turn_in (it : Value) (D : Addr) (env : Env) : compTurn (dcE kx vx t0 i0 t1 i1 f0 f1 sc pos) 1 it (.ref D) env = (standAt i1.pos >>= fun _ => pyNext it >>= fun o => match o with
    | none => pure (.done .next)
    | some v => letOwnedTupleGo t1 it v >>= fun _ => assign t1 env v >>= fun _ => tests f1 env >>= fun ok => if ok = true then ((eval kx env >>= fun kv => holding [kv] (eval vx env) >>= fun vv => standAt { kx.pos with endLine := vx.pos.endLine, endCol := vx.pos.endCol } >>= fun _ => holding [kv, vv] (dictSet D kv vv)) >>= fun _ => again (.compLoop (dcE kx vx t0 i0 t1 i1 f0 f1 sc pos) 1 it (.ref D) env)) else again (.compLoop (dcE kx vx t0 i0 t1 i1 f0 f1 sc pos) 1 it (.ref D) env)) := by rfl
variable {prog : Program} {w : World} {A : Around} {R : Result → Shared → Prop} {s : Shared} {it : Value} {D : Addr} {env : Env}
abbrev er (prog : Program) (w : World) (A : Around) (env : Env) (R : Result → Shared → Prop) : Value → Shared → Prop := notedBy (model prog w) A env fun e s' => R (.error e) s'
/-- the first clause's loop -/
theorem dcl_out (hs : ∀ x, foldedSetIterable i1 env x = pure x) (I : Nat → Shared → Prop)
    (turn : ∀ n s, I n s → wpAny (model prog w) A (pyNext it) (fun r s1 => match r with
      | none => R (.ok .next) s1
      | some v => wpAny (model prog w) A (letOwnedTupleGo t0 it v) (fun _ s2 => wpAny (model prog w) A (assign t0 env v) (fun _ s3 => wpAny (model prog w) A (tests f0 env) (fun ok s4 =>
          if ok = true then wpAny (model prog w) A (eval i1 env) (fun x s5 => wpAny (model prog w) A (pyIter x) (fun j s6 =>
            codeAny (model prog w) A (.compStart (dcE kx vx t0 i0 t1 i1 f0 f1 sc pos) 1 j (.ref D) env) (fun r s' => match r with
              | .ok _ => ∃ m, m < n ∧ I m s'
              | .error _ => False) s6) (er prog w A env R) s5) (er prog w A env R) s4
          else ∃ m, m < n ∧ I m s4) (er prog w A env R) s3) (er prog w A env R) s2) (er prog w A env R) s1) (er prog w A env R) s)
    (n : Nat) (h : I n s) : codeAny (model prog w) A (.compLoop (dcE kx vx t0 i0 t1 i1 f0 f1 sc pos) 0 it (.ref D) env) R s := by
  refine codeAny_loop rfl I (fun n s hI => ?_) n h
  show wpAny _ A ((compTurn (dcE kx vx t0 i0 t1 i1 f0 f1 sc pos) 0 it (.ref D) env).onRaise (fun x => do noteFrame x env; theTreesLotGoes x)) _ _ s
  refine wpAny_noted ?_
  rw [turn_out]
  refine wpAny_bind (wpAny_standAt (wpAny_bind (wpAny_mono (turn n s hI) (fun r s1 h1 => ?_) fun _ _ z => z)))
  cases r with
  | none => exact wpAny_pure h1
  | some v =>
    refine wpAny_bind (wpAny_mono h1 (fun _ s2 h2 => wpAny_bind (wpAny_mono h2 (fun _ s3 h3 => wpAny_bind (wpAny_mono h3 (fun ok s4 h4 => ?_) fun _ _ z => z)) fun _ _ z => z)) fun _ _ z => z)
    cases ok with
    | false => exact wpAny_pure ⟨rfl, h4⟩
    | true =>
      refine wpAny_bind (wpAny_mono h4 (fun x s5 h5 => wpAny_bind (wpAny_standAt (wpAny_bind (wpAny_of_eq (hs x) (wpAny_bind (wpAny_holding (wpAny_mono h5 (fun j s6 h6 => ?_) fun _ _ z => z))))))) fun _ _ z => z)
      refine wpAny_bind (wpAny_runOwn ?_)
      rw [Around.mark_none]
      refine codeAny_mono h6 fun r s' hr => ?_
      cases r with
      | ok f => exact wpAny_pure ⟨rfl, hr⟩
      | error e => exact hr.elim
/-- the second's -/
theorem dcl_in (I : Nat → Shared → Prop)
    (turn : ∀ n s, I n s → wpAny (model prog w) A (pyNext it) (fun r s1 => match r with
      | none => R (.ok .next) s1
      | some v => wpAny (model prog w) A (letOwnedTupleGo t1 it v) (fun _ s2 => wpAny (model prog w) A (assign t1 env v) (fun _ s3 => wpAny (model prog w) A (tests f1 env) (fun ok s4 =>
          if ok = true then wpAny (model prog w) A (eval kx env) (fun kv s5 => wpAny (model prog w) A (eval vx env) (fun vv s6 => wpAny (model prog w) A (dictSet D kv vv) (fun _ s7 => ∃ m, m < n ∧ I m s7) (er prog w A env R) s6) (er prog w A env R) s5) (er prog w A env R) s4
          else ∃ m, m < n ∧ I m s4) (er prog w A env R) s3) (er prog w A env R) s2) (er prog w A env R) s1) (er prog w A env R) s)
    (n : Nat) (h : I n s) : codeAny (model prog w) A (.compLoop (dcE kx vx t0 i0 t1 i1 f0 f1 sc pos) 1 it (.ref D) env) R s := by
  refine codeAny_loop rfl I (fun n s hI => ?_) n h
  show wpAny _ A ((compTurn (dcE kx vx t0 i0 t1 i1 f0 f1 sc pos) 1 it (.ref D) env).onRaise (fun x => do noteFrame x env; theTreesLotGoes x)) _ _ s
  refine wpAny_noted ?_
  rw [turn_in]
  refine wpAny_bind (wpAny_standAt (wpAny_bind (wpAny_mono (turn n s hI) (fun r s1 h1 => ?_) fun _ _ z => z)))
  cases r with
  | none => exact wpAny_pure h1
  | some v =>
    refine wpAny_bind (wpAny_mono h1 (fun _ s2 h2 => wpAny_bind (wpAny_mono h2 (fun _ s3 h3 => wpAny_bind (wpAny_mono h3 (fun ok s4 h4 => ?_) fun _ _ z => z)) fun _ _ z => z)) fun _ _ z => z)
    cases ok with
    | false => exact wpAny_pure ⟨rfl, h4⟩
    | true => exact wpAny_bind (wpAny_bind (wpAny_mono h4 (fun kv s5 h5 => wpAny_bind (wpAny_holding (wpAny_mono h5 (fun vv s6 h6 => wpAny_bind (wpAny_standAt (wpAny_holding (wpAny_mono h6 (fun _ s7 h7 => wpAny_pure ⟨rfl, h7⟩) fun _ _ z => z)))) fun _ _ z => z))) fun _ _ z => z))
theorem dcl_start {it : Value} (h0 : codeAny (model prog w) A (.compLoop (dcE kx vx t0 i0 t1 i1 f0 f1 sc pos) 1 it (.ref D) env) R s)
    (h : wpAny (model prog w) A (pyIter it) (fun j s' => codeAny (model prog w) A (.compLoop (dcE kx vx t0 i0 t1 i1 f0 f1 sc pos) 1 j (.ref D) env) R s') (er prog w A env R) s) :
    codeAny (model prog w) A (.compStart (dcE kx vx t0 i0 t1 i1 f0 f1 sc pos) 1 it (.ref D) env) R s := by
  refine codeAny_of_tree ?_
  show wpAny _ _ ((compStart (dcE kx vx t0 i0 t1 i1 f0 f1 sc pos) 1 it (.ref D) env).onRaise (fun x => do noteFrame x env; standAt theWindowsPlace)) _ _ s
  refine wpAny_notedAt ?_
  unfold compStart
  show wpAny _ _ (ask >>= _) _ _ s
  refine wpAny_bind (wpAny_askSetting (wpAny_ite ?_))
  split
  · first
      | exact wpAny_bind (wpAny_pure (wpAny_pure (And.intro rfl h0)))
      | exact wpAny_pure (And.intro rfl h0)
  · first
      | exact wpAny_bind (wpAny_rule (wpAny_bind (wpAny_standAt (wpAny_bind (wpAny_mono h (fun j s' q => wpAny_pure (And.intro rfl q)) fun _ _ z => z)))))
      | (refine wpAny_bind (wpAny_rule ?_); show wpAny _ _ (standAt i1.pos >>= _) _ _ s; exact wpAny_bind (wpAny_standAt (wpAny_bind (wpAny_mono h (fun j s' q => wpAny_pure (And.intro rfl q)) fun _ _ z => z))))
end
end L2
namespace L2
open PySem PySem.Spec PyProof.Rows
/-- two clauses; st: what a turn of the second does to the new object at D, o0: what is new. vs: the block's names, vs1: the second target's -/
def tC2 (o0 : HO) (wi : TI) (g : TG) (tt : TT) (wi1 : TI) (g1 : TG) (tt1 : TT) (st : Addr → St → Hp → (Hp → Prop) → Prop) (vs vs1 : List Nat) : TE := fun σ H Q => wi σ H fun J H1 => ∀ D, H1 D = none → ∃ W : Nat → Nat → Hp → Prop, (∃ m, W 0 m (upd H1 D o0)) ∧ ∀ i m H, W i m H →
  (J.stop i H ∧ Q (.ref D) H) ∨ (J.go i H ∧ ∃ Nx : Hp → Prop, (∀ H', Nx H' → ∃ m', m' < m ∧ W (i + 1) m' H') ∧ ∀ x H', J.yld i H x H' → g x (wipe σ vs) H' fun σ2 H2 => wipe σ2 vs = wipe σ vs ∧ tt σ2 H2 fun b H3 =>
    if b = true then wi1 σ2 H3 fun J1 H4 => ∃ W1 : Nat → Nat → Hp → Prop, (∃ m, W1 0 m H4) ∧ ∀ j k H, W1 j k H →
      (J1.stop j H ∧ Nx H) ∨ (J1.go j H ∧ ∃ Nx1 : Hp → Prop, (∀ H', Nx1 H' → ∃ k', k' < k ∧ W1 (j + 1) k' H') ∧ ∀ x H', J1.yld j H x H' → g1 x (wipe σ2 vs1) H' fun σ3 H5 => wipe σ3 vs1 = wipe σ2 vs1 ∧ tt1 σ3 H5 fun b H6 =>
        if b = true then st D σ3 H6 Nx1 else Nx1 H6)
    else Nx H3)
def stL (te : TE) : Addr → St → Hp → (Hp → Prop) → Prop := fun D σ H N => te σ H fun y H7 => ∃ acc, H7 D = some (.lst acc) ∧ acc.length < sizeLine ∧ N (upd H7 D (.lst (acc ++ [y])))
def stD (tk tv : TE) : Addr → St → Hp → (Hp → Prop) → Prop := fun D σ H N => tk σ H fun y H1 => tv σ H1 fun z H2 => ∃ kvs k, y = kV k ∧ H2 D = some (.dK kvs) ∧ kvs.length < sizeLine ∧ N (upd H2 D (.dK (putK kvs k z)))
section
variable {X : Cx} {pins : List (Addr × Obj)} {s : Shared} {σ : St} {H : Hp} {Q : VK} {kx vx tg iter tg1 iter1 : Expr} {ifs ifs1 : List Expr} {scope : Scope} {own : List (Str × Nat)} {vs1 : List Nat} {pos pos' : Pos} {wi wi1 : TI} {g g1 : TG} {tt tt1 : TT} {tk tv : TE}
/-- all blocks of the comprehension -/
abbrev Blk (X : Cx) (scope : Scope) (P : Cx → Prop) : Prop := ∀ (s : Shared) (H : Hp) (C : Addr) (cl : List (Str × Addr)) (fp : List Addr), P (X.blk s H scope (compEnvC scope cl C X.env) fp)
theorem dc2_core {use : Option (Value → Sem Unit)} {Qf : Value → Shared → Prop} (hc : X.calm = true) (hN : X.N.Nodup) (I : Inv X pins σ H s) (hi : PI X tg iter wi) (ok : BlkOk X.N X.env.scope scope own) (hv : ∀ i ∈ vs1, i ∈ own.map (·.2))
    (hg : Blk X scope fun Y => PG Y tg g) (ht : Blk X scope fun Y => PTs Y ifs tt) (hk : Blk X scope fun Y => PE Y kx tk) (he : Blk X scope fun Y => PE Y vx tv) (hi1 : Blk X scope fun Y => PI Y tg1 iter1 wi1) (hg1 : Blk X scope fun Y => PG Y tg1 g1) (ht1 : Blk X scope fun Y => PTs Y ifs1 tt1)
    (hs : ∀ x, foldedSetIterable iter X.env x = pure x) (hs1 : ∀ env x, foldedSetIterable iter1 env x = pure x) (h : tC2 (.dK []) wi g tt wi1 g1 tt1 (stD tk tv) (own.map (·.2)) vs1 σ H Q)
    (fin : ∀ D C s' m H', Inv X pins σ H' s' → Q (.ref D) H' → s'.heap.Ns C m → FpOk X pins H' C → compPost (model X.prog X.w) X.A X.xe use Qf (.ref D) C (.ok .next) s') :
    wpAny (model X.prog X.w) X.A (comprehension (dcE kx vx tg iter tg1 iter1 ifs ifs1 scope pos) scope X.env pos' newDict false (eval iter X.env) use) Qf X.xe s := by
  have free : ∀ y ∈ scope.names, y.2 = .free → ∃ c, X.env.cells.lookup y.1 = some c := fun y hy e => (ok.free y hy e).elim (fun k => I.ok.has _ (.inl k)) fun k => I.ok.has _ (.inr k)
  refine wpAny_comprehension_free (use := use) rfl hs (closure_ok free) ok.kind (fun y hy e => by rw [ok.uniq y hy, e]) (thn (hi.run pins s σ H _ I h) fun xv s1 hx => thn hx fun itv s2 h2 => ?_)
  obtain ⟨it, fp, tn, J, H2, e, I2, T, st2, f2, q⟩ := h2
  subst e
  refine wpAny_newObj_type (newEnv_comp ?_)
  generalize hD : s2.heap.objs.size = D
  have hDn : H2 D = none := I2.hok.fresh (Nat.le_of_eq hD)
  obtain ⟨W, ⟨m0, w0⟩, turn⟩ := q D hDn
  generalize hs3 : ({ s2 with heap := s2.heap.push { cls := .type "dict", data := .dict #[] } } : Shared) = s3
  have h3 : s3.heap = s2.heap.push { cls := .type "dict", data := .dict #[] } := by rw [← hs3]
  have I3 : Inv X pins σ (upd H2 D (.dK [])) s3 := by
    rw [← hs3]
    refine I2.laid (t' := s2.toks) (fun b o e => Heap.get?_push_of_some _ e) (Nat.le_of_eq hD) ?_
    rw [← hD]
    exact dk_empty s2.heap I2.big
  have f3 : ∀ b ∈ fp, FpOk X pins (upd H2 D (.dK [])) b ∧ b < s3.heap.objs.size := fun b hb => by
    have lt : b < s2.heap.objs.size := by
      obtain ⟨o, e, _⟩ := T.obj _ _ st2 b hb
      exact Heap.lt_size e
    exact ⟨⟨by rw [upd_ne (by rw [← hD]; exact Nat.ne_of_lt lt)]; exact (f2 b hb).1, (f2 b hb).2⟩, by rw [h3, Heap.size_push]; exact Nat.lt_succ_of_lt lt⟩
  have I4 := block_start I3 ok hN f3
  generalize hcl : cellsFrom (s3.heap.objs.size + 1) scope.names (cloFrom X.env.cells scope.names []) = cl at I4
  generalize hC : s3.heap.objs.size = C at I4
  have pg := hg s3 (upd H2 D (.dK [])) C cl fp
  have pt := ht s3 (upd H2 D (.dK [])) C cl fp
  have pk := hk s3 (upd H2 D (.dK [])) C cl fp
  have pe := he s3 (upd H2 D (.dK [])) C cl fp
  have pi1 := hi1 s3 (upd H2 D (.dK [])) C cl fp
  have pg1 := hg1 s3 (upd H2 D (.dK [])) C cl fp
  have pt1 := ht1 s3 (upd H2 D (.dK [])) C cl fp
  rw [hC] at hcl
  have goal : codeAny (model X.prog X.w) X.A (.compStart (dcE kx vx tg iter tg1 iter1 ifs ifs1 scope pos) 0 (.ref it) (.ref D) (compEnvC scope cl C X.env)) (compPost (model X.prog X.w) X.A X.xe use Qf (.ref D) C) { s3 with heap := pushCells (s3.heap.push { cls := .type "dict", data := .dict #[] }) scope.names } := by
    have cL : (compEnvC scope cl C X.env).locals = C := rfl
    generalize compEnvC scope cl C X.env = ce at I4 pg pt pk pe pi1 pg1 pt1 cL ⊢
    have n0 : ∀ b ∈ fp, (upd H2 D (.dK [])) b = none := fun b hb => (f3 b hb).1.1
    have st3 : tn 0 s3.heap := T.keep _ _ _ st2 fun b _ o e => by rw [h3]; exact Heap.get?_push_of_some _ e
    generalize upd H2 D (.dK []) = H3 at I3 I4 pg pt pk pe pi1 pg1 pt1 w0 n0 f3
    generalize hs4 : ({ s3 with heap := pushCells (s3.heap.push { cls := .type "dict", data := .dict #[] }) scope.names } : Shared) = s4 at I4 ⊢
    have st4 : tn 0 s4.heap := T.keep _ _ _ st3 fun b _ o e => by rw [← hs4]; exact pushCells_keeps _ _ _ _ (Heap.get?_push_of_some _ e)
    have stat : ∀ {σ' : St} {H' : Hp} {s' : Shared}, Inv (X.blk s3 H3 scope ce fp) [] σ' H' s' → (∀ b ∈ fp, H' b = none) → ∀ b ∈ fp, FpOk (X.blk s3 H3 scope ce fp) [] H' b := fun {σ' H' s'} I' hn b hb =>
      ⟨hn b hb, (I'.ok.exf b hb).1, I'.ok.exfs b hb, .inl hb, fun x c e => (I'.ok.exf b hb).2 x c e, fun p hp => absurd (show p ∈ ([] : List (Addr × Obj)) ++ [] from hp) (by simp)⟩
    have loop : codeAny (model X.prog X.w) X.A (.compLoop (dcE kx vx tg iter tg1 iter1 ifs ifs1 scope pos) 0 (.ref it) (.ref D) ce) (compPost (model X.prog X.w) X.A X.xe use Qf (.ref D) C) s4 := by
      refine dcl_out (hs1 ce) (fun n s' => ∃ i H', Inv (X.blk s3 H3 scope ce fp) [] (wipe σ (own.map (·.2))) H' s' ∧ tn i s'.heap ∧ (∀ b ∈ fp, H' b = none) ∧ W i n H') ?_ m0 ⟨0, H3, I4, st4, n0, w0⟩
      rintro n s5 ⟨i, H5, I5, st5, n5, w5⟩
      rcases turn i n H5 w5 with ⟨stop, qq⟩ | ⟨go, Nx, hNx, step⟩
      · refine thnF (T.done (X.blk s3 H3 scope ce fp) rfl rfl rfl hc i [] s5 _ H5 (fun _ _ => False) I5 (stat I5 n5) st5 stop) fun r s6 ⟨hr, I6⟩ => ?_
        subst hr
        have I7 : Inv X pins σ H5 s6 := I3.call' (ch := fp) I6.os I6.base I6.hok I6.bare fun b hb => ⟨(f3 b hb).1.2.2.2.1, (f3 b hb).1.2.1, (f3 b hb).1.2.2.2.2.1, (f3 b hb).1.2.2.2.2.2⟩
        have nC : H5 C = none := by
          have z : H5 ce.locals = none := I6.free
          rw [cL] at z; exact z
        obtain ⟨m, hn, _⟩ := I6.loc
        have hn : s6.heap.Ns ce.locals m := hn
        rw [cL] at hn
        exact fin D C s6 m H5 I7 qq hn (I3.fpOk (Nat.le_of_eq hC) nC)
      · refine thnF (T.item (X.blk s3 H3 scope ce fp) rfl rfl rfl hc i [] s5 _ H5 (fun _ _ => False) I5 (stat I5 n5) st5 go) fun r s6 ⟨u, hr, h6⟩ => ?_
        subst hr
        refine thnF h6 fun _ s7 ⟨x, H7, I7, r7, y7, st7, n7⟩ => ?_
        refine thnF (pg.run _ s7 _ H7 x u _ (I7.pinned (stat I7 n7) (T.obj _ _ st7)) r7 (step x H7 y7)) fun _ s8 ⟨σ8, H8, I8, hw8, q8⟩ => ?_
        refine thnF (pt.run _ s8 σ8 H8 _ I8 q8) fun b s9 ⟨H9, I9, q9⟩ => ?_
        -- the end of the outer turn
        have fin0 : ∀ {σ9 : St} {s' : Shared} {H' : Hp}, Inv (X.blk s3 H3 scope ce fp) ([] ++ pinsAt fp s7.heap) σ9 H' s' → (wipe σ (own.map (·.2))).length = σ9.length → (∀ (j : Nat) v, (wipe σ (own.map (·.2)))[j]? = some (some v) → σ9[j]? = some (some v)) → Nx H' →
            ∃ m, m < n ∧ ∃ i H', Inv (X.blk s3 H3 scope ce fp) [] (wipe σ (own.map (·.2))) H' s' ∧ tn i s'.heap ∧ (∀ b ∈ fp, H' b = none) ∧ W i m H' := fun {σ9 s' H'} I' hl hk nx => by
          obtain ⟨m', hm, w'⟩ := hNx H' nx
          have pin : ∀ b ∈ fp, ∀ o, s7.heap.get? b = some o → s'.heap.get? b = some o ∧ H' b = none := fun b hb o e =>
            let z := I'.pin (b, o) (List.mem_append_right _ (List.mem_append_right _ (mem_pinsAt hb e)))
            ⟨z.1, z.2.1⟩
          refine ⟨m', hm, i + 1, H', (I'.unpinned (pins := [])).weak hl hk, T.keep _ _ _ st7 fun b hb o e => (pin b hb o e).1, fun b hb => ?_, w'⟩
          obtain ⟨o, e, _⟩ := T.obj _ _ st7 b hb
          exact (pin b hb o e).2
        have l8 : (wipe σ (own.map (·.2))).length = σ8.length := by rw [← hw8, wipe_length]
        cases b with
        | false =>
          simp only [Bool.false_eq_true, if_false] at q9 ⊢
          exact fin0 I9 l8 (fun j v e => by rw [← hw8] at e; exact (wipe_some e).1) q9
        | true =>
          simp only [if_true] at q9 ⊢
          refine thnF (pi1.run _ s9 σ8 H9 _ I9 q9) fun xv s10 hx => thnF hx fun itv s11 h11 => ?_
          obtain ⟨it1, fp1, tn1, J1, H11, e1, I11, T1, st11, f11, W1, ⟨m1, w1⟩, turn1⟩ := h11
          subst e1
          have stat1 : ∀ {H' : Hp}, (∀ b ∈ fp1, H' b = none) → ∀ b ∈ fp1, FpOk (X.blk s3 H3 scope ce fp) ([] ++ pinsAt fp s7.heap) H' b := fun hn b hb => ⟨hn b hb, (f11 b hb).2⟩
          have loop1 : codeAny (model X.prog X.w) X.A (.compLoop (dcE kx vx tg iter tg1 iter1 ifs ifs1 scope pos) 1 (.ref it1) (.ref D) ce)
              (fun r s' => match r with
                | .ok _ => ∃ m, m < n ∧ ∃ i H', Inv (X.blk s3 H3 scope ce fp) [] (wipe σ (own.map (·.2))) H' s' ∧ tn i s'.heap ∧ (∀ b ∈ fp, H' b = none) ∧ W i m H'
                | .error _ => False) s11 := by
            refine dcl_in (fun k s' => ∃ j H', Inv (X.blk s3 H3 scope ce fp) ([] ++ pinsAt fp s7.heap) (wipe σ8 vs1) H' s' ∧ tn1 j s'.heap ∧ (∀ b ∈ fp1, H' b = none) ∧ W1 j k H') ?_ m1 ⟨0, H11, I11.weak (wipe_length _ _) (fun j v e => (wipe_some e).1), st11, fun b hb => (f11 b hb).1, w1⟩
            rintro k s12 ⟨j, H12, I12, st12, n12, w12⟩
            rcases turn1 j k H12 w12 with ⟨stop1, nx1⟩ | ⟨go1, Nx1, hNx1, step1⟩
            · refine thnF (T1.done (X.blk s3 H3 scope ce fp) rfl rfl rfl hc j _ s12 (wipe σ8 vs1) H12 (fun _ _ => False) I12 (stat1 n12) st12 stop1) fun r s13 ⟨hr, I13⟩ => ?_
              subst hr
              refine fin0 I13 (l8.trans (wipe_length σ8 vs1).symm) (fun j v e => ?_) nx1
              rw [← hw8] at e
              obtain ⟨e1, e2⟩ := wipe_some e
              rw [wipe_out fun z => e2 (hv j z)]
              exact e1
            · refine thnF (T1.item (X.blk s3 H3 scope ce fp) rfl rfl rfl hc j _ s12 (wipe σ8 vs1) H12 (fun _ _ => False) I12 (stat1 n12) st12 go1) fun r s13 ⟨u1, hr, h13⟩ => ?_
              subst hr
              refine thnF h13 fun _ s14 ⟨x1, H14, I14, r14, y14, st14, n14⟩ => ?_
              refine thnF (pg1.run _ s14 (wipe σ8 vs1) H14 x1 u1 _ (I14.pinned (stat1 n14) (T1.obj _ _ st14)) r14 (step1 x1 H14 y14)) fun _ s15 ⟨σ15, H15, I15, hw15, q15⟩ => ?_
              refine thnF (pt1.run _ s15 σ15 H15 _ I15 q15) fun b1 s16 ⟨H16, I16, q16⟩ => ?_
              have fin1 : ∀ {s' : Shared} {H' : Hp}, Inv (X.blk s3 H3 scope ce fp) (([] ++ pinsAt fp s7.heap) ++ pinsAt fp1 s14.heap) σ15 H' s' → Nx1 H' → ∃ m, m < k ∧ ∃ j H', Inv (X.blk s3 H3 scope ce fp) ([] ++ pinsAt fp s7.heap) (wipe σ8 vs1) H' s' ∧ tn1 j s'.heap ∧ (∀ b ∈ fp1, H' b = none) ∧ W1 j m H' := fun {s' H'} I' nx => by
                obtain ⟨m', hm, w'⟩ := hNx1 H' nx
                have pin : ∀ b ∈ fp1, ∀ o, s14.heap.get? b = some o → s'.heap.get? b = some o ∧ H' b = none := fun b hb o e =>
                  let z := I'.pin (b, o) (List.mem_append_right _ (List.mem_append_right _ (mem_pinsAt hb e)))
                  ⟨z.1, z.2.1⟩
                refine ⟨m', hm, j + 1, H', I'.unpinned.weak (by rw [← hw15, wipe_length]) (fun j v e => by rw [← hw15] at e; exact (wipe_some e).1), T1.keep _ _ _ st14 fun b hb o e => (pin b hb o e).1, fun b hb => ?_, w'⟩
                obtain ⟨o, e, _⟩ := T1.obj _ _ st14 b hb
                exact (pin b hb o e).2
              cases b1 with
              | false =>
                simp only [Bool.false_eq_true, if_false] at q16 ⊢
                exact fin1 I16 q16
              | true =>
                simp only [if_true] at q16 ⊢
                refine thnF (pk.run _ s16 σ15 H16 _ I16 q16) fun z s17 ⟨yk, H17, I17, r17, q17⟩ => ?_
                refine thnF (pe.run _ s17 σ15 H17 _ I17 q17) fun z2 s18 ⟨yv, H18, I18, r18, kvs, key, ek, hD18, hz18, nx⟩ => ?_
                subst ek
                exact d_dictSet (X := X.blk s3 H3 scope ce fp) I18 hD18 hz18 r17 r18 fun s19 I19 => fin1 I19 nx
          exact dcl_start loop1 (T1.self X.A 0 _ _ _ st11 loop1)
    exact codeAny_compStart_dict loop (T.self X.A 0 _ _ _ st4 loop)
  exact goal
theorem pe_dc2 (hc : X.calm = true) (hN : X.N.Nodup) (hi : PI X tg iter wi) (ok : BlkOk X.N X.env.scope scope own) (hv : ∀ i ∈ vs1, i ∈ own.map (·.2))
    (hg : Blk X scope fun Y => PG Y tg g) (ht : Blk X scope fun Y => PTs Y ifs tt) (hk : Blk X scope fun Y => PE Y kx tk) (he : Blk X scope fun Y => PE Y vx tv) (hi1 : Blk X scope fun Y => PI Y tg1 iter1 wi1) (hg1 : Blk X scope fun Y => PG Y tg1 g1) (ht1 : Blk X scope fun Y => PTs Y ifs1 tt1)
    (hs : ∀ x, foldedSetIterable iter X.env x = pure x := by intro _; rfl) (hs1 : ∀ env x, foldedSetIterable iter1 env x = pure x := by intro _ _; rfl) :
    PE X (dcE kx vx tg iter tg1 iter1 ifs ifs1 scope pos) (tC2 (.dK []) wi g tt wi1 g1 tt1 (stD tk tv) (own.map (·.2)) vs1) := by
  refine ⟨fun pins s σ H Q I h => ?_⟩
  rw [arm_eval_DictComp]
  refine dc2_core hc hN I hi ok hv hg ht hk he hi1 hg1 ht1 hs hs1 h fun D C s' m H' I' q hn f => ⟨m, hn, fun h'' sb => ?_⟩
  obtain ⟨f0, f1, f2, f3, f4, f5⟩ := f
  exact ⟨.ref D, H', I'.turned (t' := s'.toks) (fun b o hb e => (sb.2 b hb).trans e) f0 f1 f3 f4 f5, rfl, q⟩
end
end L2
set_option maxRecDepth 100000
/-! Comprehensions of two clauses over plain data. -/
namespace Mm
open PySem L2
section
variable {w : Wn} {W : WX} {σ : St} {c c' : Cn} {H H' : Hp} {n n' : Nat} {S : Sto} {env : Env}
variable {Γ : Cls'} {X : Cx} {a b e tg : Expr} {es : List Expr} {ma mb : EM} {am : AM} {pos : Pos} {Dn : Ends}
/-- from one heap to the next while the object at D is put together -/
structure Stp (D : Addr) (c : Cn) (H : Hp) (n : Nat) (c' : Cn) (H' : Hp) (n' : Nat) : Prop where
  A : ExtA c H n c' H' n'
  far : ∀ c0 H0 n0, Ext c0 H0 n0 c H n → H0 D = none → Ext c0 H0 n0 c' H' n'
theorem Stp.of {D : Addr} (e : Ext c H n c' H' n') : Stp D c H n c' H' n' := ⟨e.A, fun c0 H0 n0 z _ => z.trans e⟩
theorem ExtA.trans {c c1 c2 : Cn} {H H1 H2 : Hp} {n n1 n2 : Nat} (a : ExtA c H n c1 H1 n1) (b : ExtA c1 H1 n1 c2 H2 n2) : ExtA c H n c2 H2 n2 :=
  ⟨Nat.le_trans a.le b.le, fun k h => (b.rho k (Nat.lt_of_lt_of_le h a.le)).trans (a.rho k h), fun x h => b.fro x (a.fro x h), fun x xs h => b.tup x xs (a.tup x xs h), fun x o u h => b.frz x o u (a.frz x o u h), fun x u h => b.xd x u (a.xd x u h), fun x o f h => b.keepF x o (a.fro x f) (a.keepF x o f h)⟩
theorem Stp.trans {D : Addr} {c c1 c2 : Cn} {H H1 H2 : Hp} {n n1 n2 : Nat} (a : Stp D c H n c1 H1 n1) (b : Stp D c1 H1 n1 c2 H2 n2) : Stp D c H n c2 H2 n2 := ⟨a.A.trans b.A, fun c0 H0 n0 z h => b.far _ _ _ (a.far _ _ _ z h) h⟩
theorem EnvR.monoA (e : ExtA c H n c' H' n') (h : EnvR w c H n σ env) : EnvR w c' H' n' σ env := ⟨h.1, fun i d q => by
  obtain ⟨v, a, b⟩ := h.2 i d q
  exact ⟨v, a, At.monoA e d v b⟩⟩
/-- something that is put together at D -/
structure AccT (α : Type) where
  rel : Wn → Cn → Hp → Nat → α → HO → Prop
  mono : ∀ {w c H n c' H' n' a o}, ExtA c H n c' H' n' → rel w c H n a o → rel w c' H' n' a o
def accL : AccT (List D) := ⟨fun w c H n ds o => ∃ us, o = .lst us ∧ Ats w c H n ds us, fun e ⟨us, h, t⟩ => ⟨us, h, Ats.monoA e _ _ t⟩⟩
def accD : AccT (List Key × List D) := ⟨fun w c H n a o => ∃ us, o = .dK (a.1.zip us) ∧ a.1.length = us.length ∧ Ats w c H n a.2 us, fun e ⟨us, h, l, t⟩ => ⟨us, h, l, Ats.monoA e _ _ t⟩⟩
variable {α : Type} {T : AccT α}
/-- what stands around D -/
structure Arnd (w : Wn) (T : AccT α) (D : Addr) (c : Cn) (H : Hp) (S : Sto) (acc : α) : Prop where
  rep : Rep w c H S
  side : Side c H S.length D
  at_ : ∃ o, H D = some o ∧ T.rel w c H S.length acc o
theorem Arnd.step {D : Addr} {S' : Sto} {acc : α} (a : Arnd w T D c H S acc) (e : Ext c H S.length c' H' S'.length) (r : Rep w c' H' S') : Arnd w T D c' H' S' acc := by
  obtain ⟨o, ho, t⟩ := a.at_
  obtain ⟨s, h⟩ := a.side.step ho e
  exact ⟨r, s, o, h, T.mono e.A t⟩
/-- one thing is added -/
abbrev AddM (α : Type) := α → Env → Sto → R α
def StepOk (w : Wn) (T : AccT α) (add : AddM α) (st : Addr → St → Hp → (Hp → Prop) → Prop) : Prop := ∀ (c : Cn) (H : Hp) (S : Sto) (σ : St) (env : Env) (D : Addr) (acc acc' : α) (S' : Sto), Arnd w T D c H S acc → EnvR w c H S.length σ env → add acc env S = .ok acc' S' →
  ∀ N : Hp → Prop, (∀ c' H', Stp D c H S.length c' H' S'.length → Arnd w T D c' H' S' acc' → N H') → st D σ H N
open Classical in
noncomputable def inM (g : GM) (t : TM) (add : AddM α) (env : Env) (st : Option (Nat × List D)) : List D → α → Sto → R α
  | [], acc, S => .if (Stay S ([], st)) (.ok acc S)
  | d :: r, acc, S => .if (Stay S ([], st)) (match g d env with
    | none => .bad
    | some env1 => (t env1 S).nox.bind fun k S1 => if k = true then (add acc env1 S1).nox.bind fun acc1 S2 => inM g t add env st r acc1 S2 else inM g t add env st r acc S1)
open Classical in
noncomputable def outM (g : GM) (t : TM) (im : IM) (g1 : GM) (t1 : TM) (add : AddM α) (vs1 : List Nat) (env : Env) (st : Option (Nat × List D)) : List D → α → Sto → R α
  | [], acc, S => .if (Stay S ([], st)) (.ok acc S)
  | d :: r, acc, S => .if (Stay S ([], st)) (match g d env with
    | none => .bad
    | some env1 => (t env1 S).nox.bind fun k S1 => if k = true then (im env1 S1).nox.bind fun it S2 => (inM g1 t1 add (wipeE env1 vs1) it.2 it.1 acc S2).nox.bind fun acc1 S3 => outM g t im g1 t1 add vs1 env st r acc1 S3 else outM g t im g1 t1 add vs1 env st r acc S1)
noncomputable def e_c2 (vs vs1 : List Nat) (im : IM) (g : GM) (t : TM) (im1 : IM) (g1 : GM) (t1 : TM) (add : AddM α) (a0 : α) (fin : α → Sto → R D) : EM := fun env S => (im env S).bind fun it S1 => (outM g t im1 g1 t1 add vs1 (wipeE env vs) it.2 it.1 a0 S1).nox.bind fin
@[simp] theorem e_c2_eq (vs vs1 : List Nat) (im : IM) (g : GM) (t : TM) (im1 : IM) (g1 : GM) (t1 : TM) (add : AddM α) (a0 : α) (fin : α → Sto → R D) (env : Env) (S : Sto) : e_c2 vs vs1 im g t im1 g1 t1 add a0 fin env S = (im env S).bind fun it S1 => (outM g t im1 g1 t1 add vs1 (wipeE env vs) it.2 it.1 a0 S1).nox.bind fin := rfl
theorem nox_ok {α : Type} {r : R α} {β : Type} {f : α → Sto → R β} {b : β} {S' : Sto} (h : r.nox.bind f = .ok b S') : ∃ a S1, r = .ok a S1 ∧ f a S1 = .ok b S' := by
  cases r with
  | ok a S1 => exact ⟨a, S1, rfl, h⟩
  | ex x S1 => cases h
  | bad => cases h
theorem bind_ok' {α : Type} {r : R α} {β : Type} {f : α → Sto → R β} {b : β} {S' : Sto} (h : r.bind f = .ok b S') : ∃ a S1, r = .ok a S1 ∧ f a S1 = .ok b S' := by
  cases r with
  | ok a S1 => exact ⟨a, S1, rfl, h⟩
  | ex x S1 => cases h
  | bad => cases h
theorem if_ok' {α : Type} {p : Prop} [Decidable p] {r : R α} {a : α} {S' : Sto} (h : R.if p r = .ok a S') : p ∧ r = .ok a S' := by
  unfold R.if at h
  by_cases hp : p
  · rw [_root_.if_pos hp] at h; exact ⟨hp, h⟩
  · rw [if_neg hp] at h; cases h
/-- a result that is none but ok, read as a promise -/
theorem Po.of_ok {α β : Type} {rel : Cn → Hp → Nat → α → β → Prop} {r : R α} {d : α} {S' : Sto} {Q : β → Hp → Prop} (h : r = .ok d S') (q : ∀ c' H' v, Ext c H n c' H' S'.length → Rep w c' H' S' → rel c' H' S'.length d v → Q v H') : Po w W rel σ c H n r Q := by
  rw [h]; exact q
def FinA (T : AccT α) (fin : α → Sto → R D) : Prop := ∀ (w : Wn) (W : WX) (σ : St) (c : Cn) (H : Hp) (S : Sto) (acc : α) (p : Addr) (Q : VK), Arnd w T p c H S acc →
  ∀ (c0 : Cn) (H0 : Hp) (n0 : Nat), Ext c0 H0 n0 c H S.length → H0 p = none → PoE w W σ c0 H0 n0 (fin acc S) Q → Q (.ref p) H
theorem finA_L {fin : List D → Sto → R D} (h : FinOk fin) : FinA accL fin := by
  intro w W σ c H S acc p Q a c0 H0 n0 e h0 q
  obtain ⟨o, ho, us, rfl, t⟩ := a.at_
  exact h w W σ c H S acc us p Q a.rep t ho a.side.out a.side.nF c0 H0 n0 e h0 q
def finDL (a : List Key × List D) (S : Sto) : R D := .ok (.dic (a.1.map keyD) a.2) S
@[simp] theorem finDL_eq (a : List Key × List D) (S : Sto) : finDL a S = .ok (.dic (a.1.map keyD) a.2) S := rfl
theorem finDL_ok : FinA accD finDL := by
  intro w W σ c H S acc p Q ar c0 H0 n0 e h0 h
  obtain ⟨o, hp, us, rfl, hl, t⟩ := ar.at_
  have eA : ExtA c H S.length (c.fr p) H S.length := ⟨Nat.le_refl _, fun _ _ => rfl, fun _ z => .inl z, fun _ _ z => z, fun _ _ _ z => z, fun _ _ z => z, fun _ _ _ z => z⟩
  refine h (c.fr p) H (.ref p) ⟨e.le, e.rho, fun a f => .inl (e.fro a f), e.tup, e.frz, e.xd, e.keep, e.keepF, e.new, e.there, fun a f => ?_⟩ ⟨fun k o q => (ar.rep.obj k o q).monoA eA fun _ z => z, ar.rep.inj, fun k hk f => ?_, fun a f => ?_⟩ ?_
  · rcases f with f | rfl
    · exact e.nF a f
    · exact .inr h0
  · rcases f with f | f
    · exact ar.rep.live k hk f
    · exact ar.side.out k hk f
  · rcases f with f | rfl
    · exact ar.rep.fro a f
    · exact ⟨_, hp⟩
  · unfold At
    exact ⟨p, us, rfl, .inr rfl, .inl ⟨acc.1, .inl hp, hl, rfl⟩, Ats.monoA eA _ _ t⟩
open Classical in
theorem c2_read {vs vs1 sl sl1 : List Nat} {im im1 : IM} {g g1 : GM} {t t1 : TM} {add : AddM α} {a0 : α} {o0 : HO} {fin : α → Sto → R D} {st : Addr → St → Hp → (Hp → Prop) → Prop} {Q : VK} (hf : FinA T fin) (hst : StepOk w T add st) (h0 : ∀ c H n, T.rel w c H n a0 o0) (hsl : ∀ j ∈ sl, j ∈ vs) (hsl1 : ∀ j ∈ sl1, j ∈ vs1)
    (h : mE w W (e_c2 vs vs1 im g t im1 g1 t1 add a0 fin) σ H Q) : tC2 o0 (mI w W im) (mTg w sl g) (mT w W0 t) (mI w W0 im1) (mTg w sl1 g1) (mT w W0 t1) st vs vs1 σ H Q := by
  obtain ⟨c, env, S, r, ev, h⟩ := h
  refine ⟨c, env, S, r, ev, (Po.bind h).imp fun J H1 ⟨c1, S1, it, e1, r1, wk, h1⟩ D hD => ?_⟩
  have ev1 := (ev.mono e1).wipe vs
  cases ho : outM g t im1 g1 t1 add vs1 (wipeE env vs) it.2 it.1 a0 S1 with
  | ex x SF => rw [ho] at h1; exact h1.elim
  | bad => rw [ho] at h1; exact h1.elim
  | ok accF SF =>
  rw [ho, R.nox_ok, R.bind_ok] at h1
  have ex0 : Ext c1 H1 S1.length c1 (upd H1 D o0) S1.length := Ext.grow hD
  refine ⟨fun i m' H' => ∃ c2 S2 acc, Stp D c1 H1 S1.length c2 H' S2.length ∧ Arnd w T D c2 H' S2 acc ∧ EnvR w c2 H' S2.length (wipe σ vs) (wipeE env vs) ∧ m' = it.1.length - i ∧ i ≤ it.1.length ∧ outM g t im1 g1 t1 add vs1 (wipeE env vs) it.2 (it.1.drop i) acc S2 = .ok accF SF,
    ⟨it.1.length, c1, S1, a0, .of ex0, ⟨r1.grow hD, ⟨fun k hk => r1.ne hD hk, r1.nF hD⟩, o0, upd_same, h0 _ _ _⟩, ev1.mono ex0, by simp, Nat.zero_le _, ho⟩, ?_⟩
  rintro i m' H' ⟨c2, S2, acc, s2, ar, ev2, rfl, hi, h2⟩
  have e2 := s2.far c1 H1 S1.length Ext.refl hD
  by_cases hlt : i < it.1.length
  · right
    have hd : it.1.drop i = it.1[i] :: it.1.drop (i + 1) := List.drop_eq_getElem_cons hlt
    rw [hd] at h2
    unfold outM at h2
    obtain ⟨sy, h2⟩ := if_ok' h2
    obtain ⟨w1, _⟩ := wk c2 H' S2 s2.A ar.rep (Stay.of (ds := it.1) sy) i
    obtain ⟨go, yl⟩ := w1 it.1[i] (List.getElem?_eq_getElem hlt)
    refine ⟨go, fun H3 => ∃ c3 S3 acc, Stp D c1 H1 S1.length c3 H3 S3.length ∧ Arnd w T D c3 H3 S3 acc ∧ EnvR w c3 H3 S3.length (wipe σ vs) (wipeE env vs) ∧ outM g t im1 g1 t1 add vs1 (wipeE env vs) it.2 (it.1.drop (i + 1)) acc S3 = .ok accF SF,
      fun H3 ⟨c3, S3, acc, q1, q2, q3, q4⟩ => ⟨it.1.length - (i + 1), by omega, c3, S3, acc, q1, q2, q3, rfl, hlt, q4⟩, fun x H3 y => ?_⟩
    obtain ⟨ey, ry, ay⟩ := yl x H3 y
    cases hg : g it.1[i] (wipeE env vs) with
    | none => rw [hg] at h2; cases h2
    | some env3 =>
      rw [hg] at h2
      obtain ⟨k, S4, ht, h2⟩ := nox_ok h2
      refine ⟨c2, wipeE env vs, S2, it.1[i], env3, ry, ev2.mono ey, ay, hg, fun σ3 evx bt => ⟨wipe_bt bt hsl, c2, env3, S2, ry, evx, Po.of_ok ht fun c4 H4 b e4 r4 eb => ?_⟩⟩
      cases (show b = k from eb)
      have s4 : Stp D c2 H' S2.length c4 H4 S4.length := .of (ey.trans e4)
      have ar4 := (ar.step ey ry).step e4 r4
      have ev4 := ev2.mono (ey.trans e4)
      cases k with
      | false => exact ⟨c4, S4, acc, s2.trans s4, ar4, ev4, h2⟩
      | true =>
        rw [if_pos rfl]
        rw [if_pos rfl] at h2
        obtain ⟨it1, S5, hi1, h2⟩ := nox_ok h2
        obtain ⟨acc6, S6, h6, h2⟩ := nox_ok h2
        refine ⟨c4, env3, S4, r4, evx.mono e4, Po.of_ok hi1 fun c5 H5 J1 e5 r5 wk1 => ?_⟩
        have s5 := s2.trans (s4.trans (.of e5))
        have ar5 := ar4.step e5 r5
        have ev5 := ev4.mono e5
        have evi := ((evx.mono e4).mono e5).wipe vs1
        refine ⟨fun j k H' => ∃ c6 S' acc, Stp D c5 H5 S5.length c6 H' S'.length ∧ Arnd w T D c6 H' S' acc ∧ k = it1.1.length - j ∧ j ≤ it1.1.length ∧ inM g1 t1 add (wipeE env3 vs1) it1.2 (it1.1.drop j) acc S' = .ok acc6 S6,
          ⟨it1.1.length, c5, S5, acc, .of Ext.refl, ar5, by simp, Nat.zero_le _, h6⟩, ?_⟩
        rintro j k H7 ⟨c7, S7, acc7, s7, ar7, rfl, hj, h7⟩
        by_cases hlt1 : j < it1.1.length
        · right
          have hd1 : it1.1.drop j = it1.1[j] :: it1.1.drop (j + 1) := List.drop_eq_getElem_cons hlt1
          rw [hd1] at h7
          unfold inM at h7
          obtain ⟨sy1, h7⟩ := if_ok' h7
          obtain ⟨w3, _⟩ := wk1 c7 H7 S7 s7.A ar7.rep (Stay.of (ds := it1.1) sy1) j
          obtain ⟨go1, yl1⟩ := w3 it1.1[j] (List.getElem?_eq_getElem hlt1)
          refine ⟨go1, fun H8 => ∃ c8 S8 acc, Stp D c5 H5 S5.length c8 H8 S8.length ∧ Arnd w T D c8 H8 S8 acc ∧ inM g1 t1 add (wipeE env3 vs1) it1.2 (it1.1.drop (j + 1)) acc S8 = .ok acc6 S6,
            fun H8 ⟨c8, S8, acc8, q1, q2, q3⟩ => ⟨it1.1.length - (j + 1), by omega, c8, S8, acc8, q1, q2, rfl, hlt1, q3⟩, fun x1 H8 y1 => ?_⟩
          obtain ⟨ey1, ry1, ay1⟩ := yl1 x1 H8 y1
          cases hg1 : g1 it1.1[j] (wipeE env3 vs1) with
          | none => rw [hg1] at h7; cases h7
          | some env5 =>
            rw [hg1] at h7
            obtain ⟨k1, S9, ht1, h7⟩ := nox_ok h7
            refine ⟨c7, wipeE env3 vs1, S7, it1.1[j], env5, ry1, (evi.monoA s7.A).mono ey1, ay1, hg1, fun σ5 evy bt1 => ⟨wipe_bt bt1 hsl1, c7, env5, S7, ry1, evy, Po.of_ok ht1 fun c9 H9 b1 e9 r9 eb1 => ?_⟩⟩
            cases (show b1 = k1 from eb1)
            have s9 := s7.trans (.of (ey1.trans e9))
            have ar9 := (ar7.step ey1 ry1).step e9 r9
            cases k1 with
            | false => exact ⟨c9, S9, acc7, s9, ar9, h7⟩
            | true =>
              rw [if_pos rfl]
              rw [if_pos rfl] at h7
              obtain ⟨acc10, S10, h10, h7⟩ := nox_ok h7
              exact hst c9 H9 S9 σ5 env5 D acc7 acc10 S10 ar9 (evy.mono e9) h10 _ fun c' H' sx arx => ⟨c', S10, acc10, s9.trans sx, arx, h7⟩
        · left
          have e : j = it1.1.length := by omega
          subst e
          rw [List.drop_length] at h7
          unfold inM at h7
          obtain ⟨sy1, h7⟩ := if_ok' h7
          rw [R.ok.injEq] at h7
          obtain ⟨rfl, rfl⟩ := h7
          obtain ⟨_, w4⟩ := wk1 c7 H7 S7 s7.A ar7.rep (Stay.of (ds := it1.1) sy1) it1.1.length
          exact ⟨w4 rfl, c7, S7, acc7, s5.trans s7, ar7, ev5.monoA s7.A, h2⟩
  · left
    have e : i = it.1.length := by omega
    subst e
    rw [List.drop_length] at h2
    unfold outM at h2
    obtain ⟨sy, h2⟩ := if_ok' h2
    rw [R.ok.injEq] at h2
    obtain ⟨rfl, rfl⟩ := h2
    obtain ⟨_, w2⟩ := wk c2 H' S2 s2.A ar.rep (Stay.of (ds := it.1) sy) it.1.length
    exact ⟨w2 rfl, hf w W σ c2 H' S2 acc D Q ar c1 H1 S1.length e2 hD h1⟩
/-- a list's next item -/
def addL2 (m : EM) : AddM (List D) := fun acc env S => (m env S).nox.bind fun y S1 => .if (acc.length < sizeLine) (.ok (acc ++ [y]) S1)
def addD2 (mk mv : EM) : AddM (List Key × List D) := fun acc env S => (mk env S).nox.bind fun k S1 => (mv env S1).nox.bind fun z S2 => (R.ofO (unK k) S2).bind fun key S3 => .if (acc.1.length < sizeLine) (.ok (putDs acc.1 acc.2 key z) S3)
@[simp] theorem addL2_eq (m : EM) (acc : List D) (env : Env) (S : Sto) : addL2 m acc env S = (m env S).nox.bind fun y S1 => .if (acc.length < sizeLine) (.ok (acc ++ [y]) S1) := rfl
@[simp] theorem addD2_eq (mk mv : EM) (acc : List Key × List D) (env : Env) (S : Sto) : addD2 mk mv acc env S = (mk env S).nox.bind fun k S1 => (mv env S1).nox.bind fun z S2 => (R.ofO (unK k) S2).bind fun key S3 => .if (acc.1.length < sizeLine) (.ok (putDs acc.1 acc.2 key z) S3) := rfl
/-- the object at D is changed -/
theorem Ext.sideO {c0 : Cn} {H0 : Hp} {n0 n : Nat} {p : Addr} {o u : HO} (e : Ext c0 H0 n0 c H n) (h0 : H0 p = none) (hp : H p = .some u) : Ext c0 H0 n0 c (upd H p o) n := e.side h0 hp
theorem ExtA.sideO {n : Nat} {p : Addr} {o u : HO} (hp : H p = .some u) (m : Mut (.some u)) (hf : ¬ c.F p) : ExtA c H n c (upd H p o) n :=
  ⟨Nat.le_refl _, fun _ _ => rfl, fun _ h => h, fun a us h => by rw [upd_ne fun e => by rw [e, hp] at h; cases h; exact m]; exact h, fun a x y h => by rw [upd_ne fun e => by rw [e, hp] at h; cases h; exact m]; exact h, fun a x h => by rw [upd_ne fun e => by rw [e, hp] at h; cases h; exact m]; exact h, fun a o f h => by
    rw [upd_ne fun e => hf (by rw [← e]; exact f)]; exact h⟩
theorem Rep.sideO (r : Rep w c H S) {p : Addr} {o u : HO} (hp : H p = .some u) (m : Mut (.some u)) (hf : ¬ c.F p) (hn : ∀ k, k < S.length → c.ρ k ≠ p) : Rep w c (upd H p o) S :=
  ⟨fun k ob h => (r.obj k ob h).monoA (ExtA.sideO hp m hf) fun x hx => by rw [upd_ne (hn k (Rep.lt h))]; exact hx, r.inj, r.live, fun a f => by
    obtain ⟨x, q⟩ := r.fro a f
    exact ⟨x, by rw [upd_ne fun e => hf (by rw [← e]; exact f)]; exact q⟩⟩
theorem stepL {m : EM} : StepOk w accL (addL2 m) (stL (mE w W0 m)) := by
  intro c H S σ env D acc acc' S' ar ev h N nx
  obtain ⟨y, S1, hm, h⟩ := nox_ok h
  obtain ⟨hl, h⟩ := if_ok' h
  cases h
  refine ⟨c, env, S, ar.rep, ev, Po.of_ok hm fun c1 H1 v e1 r1 a1 => ?_⟩
  have a2 := ar.step e1 r1
  obtain ⟨o, ho, us, rfl, t⟩ := a2.at_
  have mu : Mut (some (HO.lst us)) := trivial
  refine ⟨us, ho, by rw [t.len]; exact hl, nx c1 _ ⟨e1.A.trans (ExtA.sideO ho mu a2.side.nF), fun c0 H0 n0 z h0 => (z.trans e1).side h0 ho⟩ ⟨r1.sideO ho mu a2.side.nF a2.side.out, ⟨a2.side.out, a2.side.nF⟩, _, upd_same, us ++ [v], rfl, ?_⟩⟩
  have sA := ExtA.sideO (c := c1) (n := S'.length) (o := .lst (us ++ [v])) ho mu a2.side.nF
  exact (Ats.monoA sA _ _ t).app (.one (At.monoA sA _ _ a1))
theorem stepD {mk mv : EM} : StepOk w accD (addD2 mk mv) (stD (mE w W0 mk) (mE w W0 mv)) := by
  intro c H S σ env D acc acc' S' ar ev h N nx
  obtain ⟨k, S1, hk, h⟩ := nox_ok h
  obtain ⟨z, S2, hz, h⟩ := nox_ok h
  obtain ⟨key, S3, hu, h⟩ := bind_ok' h
  obtain ⟨hl, h⟩ := if_ok' h
  cases h
  cases hu' : unK k with
  | none => rw [hu'] at hu; cases hu
  | some key' =>
    rw [hu'] at hu; cases hu
    have ek := unK_inv hu'
    subst ek
    refine ⟨c, env, S, ar.rep, ev, Po.of_ok hk fun c1 H1 v e1 r1 a1 => ?_⟩
    have ar1 := ar.step e1 r1
    refine ⟨c1, env, S1, r1, ev.mono e1, Po.of_ok hz fun c2 H2 u e2 r2 a2 => ?_⟩
    have ar2 := ar1.step e2 r2
    obtain ⟨o, ho, us, rfl, hlen, t⟩ := ar2.at_
    have mu : Mut (some (HO.dK (acc.1.zip us))) := trivial
    obtain ⟨us', p1, p2, p3⟩ := put_zip (k := key) (kk := acc.1) a2 t hlen
    refine ⟨acc.1.zip us, key, keyD_at a1, ho, by rw [List.length_zip]; omega, nx c2 _ ⟨(e1.A.trans e2.A).trans (ExtA.sideO ho mu ar2.side.nF), fun c0 H0 n0 q h0 => ((q.trans e1).trans e2).side h0 ho⟩ ⟨r2.sideO ho mu ar2.side.nF ar2.side.out, ⟨ar2.side.out, ar2.side.nF⟩, _, upd_same, us', by rw [p1], p2, ?_⟩⟩
    exact Ats.monoA (ExtA.sideO ho mu ar2.side.nF) _ _ p3
theorem c_lc2 {elt tg1 iter iter1 : Expr} {ifs ifs1 : List Expr} {scope : Scope} {own : List (Str × Nat)} {vs1 : List Nat} {im im1 : IM} {g g1 : GM} {t t1 : TM} {m : EM} {fin : List D → Sto → R D} {sl sl1 : List Nat} (hf : FinOk fin) (hsl : ∀ j ∈ sl, j ∈ own.map (·.2)) (hsl1 : ∀ j ∈ sl1, j ∈ vs1) (hv : ∀ i ∈ vs1, i ∈ own.map (·.2)) (hc : X.calm = true) (hN : X.N.Nodup) (hi : CI Γ X W tg iter im) (ok : BlkOk X.N X.env.scope scope own)
    (hg : Blk X scope fun Y => CG Γ Y tg sl g) (ht : Blk X scope fun Y => CTs Γ Y W0 ifs t) (hi1 : Blk X scope fun Y => CI Γ Y W0 tg1 iter1 im1) (hg1 : Blk X scope fun Y => CG Γ Y tg1 sl1 g1) (ht1 : Blk X scope fun Y => CTs Γ Y W0 ifs1 t1) (he : Blk X scope fun Y => CE Γ Y W0 elt m)
    (hs : ∀ x, foldedSetIterable iter X.env x = pure x := by intro _; rfl) (hs1 : ∀ env x, foldedSetIterable iter1 env x = pure x := by intro _ _; rfl) :
    CE Γ X W (.ListComp elt [⟨tg, iter, ifs, 0⟩, ⟨tg1, iter1, ifs1, 0⟩] scope pos) (e_c2 (own.map (·.2)) vs1 im g t im1 g1 t1 (addL2 m) [] fin) :=
  PE.weak (pe_lc2 hc hN hi ok hv hg ht hi1 hg1 ht1 he hs hs1) fun σ H Q h => c2_read (T := accL) (o0 := .lst []) (finA_L hf) stepL (fun _ _ _ => ⟨[], rfl, .nil⟩) hsl hsl1 h
theorem c_dc2 {kx vx tg1 iter iter1 : Expr} {ifs ifs1 : List Expr} {scope : Scope} {own : List (Str × Nat)} {vs1 : List Nat} {im im1 : IM} {g g1 : GM} {t t1 : TM} {mk mv : EM} {sl sl1 : List Nat} (hsl : ∀ j ∈ sl, j ∈ own.map (·.2)) (hsl1 : ∀ j ∈ sl1, j ∈ vs1) (hv : ∀ i ∈ vs1, i ∈ own.map (·.2)) (hc : X.calm = true) (hN : X.N.Nodup) (hi : CI Γ X W tg iter im) (ok : BlkOk X.N X.env.scope scope own)
    (hg : Blk X scope fun Y => CG Γ Y tg sl g) (ht : Blk X scope fun Y => CTs Γ Y W0 ifs t) (hi1 : Blk X scope fun Y => CI Γ Y W0 tg1 iter1 im1) (hg1 : Blk X scope fun Y => CG Γ Y tg1 sl1 g1) (ht1 : Blk X scope fun Y => CTs Γ Y W0 ifs1 t1) (hk : Blk X scope fun Y => CE Γ Y W0 kx mk) (he : Blk X scope fun Y => CE Γ Y W0 vx mv)
    (hs : ∀ x, foldedSetIterable iter X.env x = pure x := by intro _; rfl) (hs1 : ∀ env x, foldedSetIterable iter1 env x = pure x := by intro _ _; rfl) :
    CE Γ X W (.DictComp kx vx [⟨tg, iter, ifs, 0⟩, ⟨tg1, iter1, ifs1, 0⟩] scope pos) (e_c2 (own.map (·.2)) vs1 im g t im1 g1 t1 (addD2 mk mv) ([], []) finDL) :=
  PE.weak (pe_dc2 hc hN hi ok hv hg ht hk he hi1 hg1 ht1 hs hs1) fun σ H Q h => c2_read (T := accD) (o0 := .dK []) finDL_ok stepD (fun _ _ _ => ⟨[], rfl, rfl, .nil⟩) hsl hsl1 h
end
end Mm
set_option maxRecDepth 100000
/-! Calls with keywords, of any many values; try without an error; dicts that are equal; the letters of a text. -/
namespace Mm
open PySem L2
section
variable {w : Wn} {W : WX} {σ : St} {c c' : Cn} {H H' : Hp} {n n' : Nat} {S : Sto} {env : Env}
variable {Γ : Cls'} {X : Cx} {a b e tg : Expr} {es : List Expr} {ma mb : EM} {am km : AM} {pos : Pos} {Dn : Ends} {kws : List Keyword}
theorem PK.weak {kws : List Keyword} {t t' : TA} (h : PK X kws t) (i : ∀ σ H Q, t' σ H Q → t σ H Q) : PK X kws t' := ⟨fun pos pins s σ H Q I q => h.run pos pins s σ H Q I (i σ H Q q)⟩
abbrev CK (Γ : Cls') (X : Cx) (W : WX) (kws : List Keyword) (m : AM) : Prop := PK X kws (mA ⟨X.K, Γ⟩ W m)
theorem c_knil : CK Γ X W [] a_nil := PK.weak pk_nil fun σ H Q h => ca_nil_read h
theorem cons_read {Q : List V → Hp → Prop} (h : mA w W (a_cons ma am) σ H Q) : tCons (mE w W ma) (mA w W am) σ H Q := by
  obtain ⟨c, env, S, r, ev, h⟩ := h
  refine ⟨c, env, S, r, ev, (Po.bind h).imp fun v H1 ⟨c1, S1, d1, e1, r1, a1, h1⟩ => ?_⟩
  refine ⟨c1, env, S1, r1, ev.mono e1, (Po.bind h1).imp fun vs H2 ⟨c2, S2, ds, e2, r2, a2, h2⟩ => ?_⟩
  exact h2 c2 H2 _ Ext.refl r2 (.cons (a1.mono e2) a2)
theorem c_kcons {nm : Option Str} {kpos : Pos} (he : CE Γ X W e ma) (hk : CK Γ X W kws am) : CK Γ X W (⟨nm, e, kpos⟩ :: kws) (a_cons ma am) := PK.weak (pk_cons he hk) fun σ H Q h => cons_read h
/-! ## a new object, keywords -/
def mkDk (k : Nat) (m : FM) (f : D → List D) (S : Sto) : R D := (m (f (.loc S.length)) (S ++ [.ins k []])).bind fun d S2 => match d with
  | .non => .ok (.loc S.length) S2
  | _ => .bad
def e_mkk (tr : TrF) (k : Nat) (m : FM) (g : D → List D → List D → List D) (n nk : Nat) (am km : AM) : EM := fun env S => (am env S).bind fun ds S1 => (km env S1).bind fun es S2 => .if (ds.length = n ∧ es.length = nk) (tr S2 (mkDk k m (fun x => g x ds es) S2))
@[simp] theorem e_mkk_eq (tr : TrF) (k : Nat) (m : FM) (g : D → List D → List D → List D) (n nk : Nat) (am km : AM) (env : Env) (S : Sto) : e_mkk tr k m g n nk am km env S = (am env S).bind fun ds S1 => (km env S1).bind fun es S2 => .if (ds.length = n ∧ es.length = nk) (tr S2 (mkDk k m (fun x => g x ds es) S2)) := rfl
/-- the class k stands under its name; its __init__ is m; n values and the keywords ks, put in order by g -/
structure Dkk (P : Program) (wd : World) (K : PySem.W.Frag) (mg : Str → Option Value) (base : Heap) (Γ : Cls') (k : Nat) (x : Str) (lv : Nat) (m : FM) (n : Nat) (ks : List Str) (g : D → List D → List D → List D) : Prop where
  ex : ∃ (C f : Addr) (fd : FuncData) (ps : List Str) (g0 : List Value → List Value → List Value) (gV : List V → List V → List V), Γ.at_ k = some C ∧ mg x = some (.ref C) ∧ Mk K C f ∧ FnOk P wd K mg base (L2.CX P wd) lv f fd ps (spM K Γ m) ∧ KBn K fd ps (n + 1) ks g0 gV ∧
    ∀ (c : Cn) (H : Hp) (j : Nat) (x : D) (v : V) (ds es : List D) (vs zs : List V), At ⟨K, Γ⟩ c H j x v → Ats ⟨K, Γ⟩ c H j ds vs → Ats ⟨K, Γ⟩ c H j es zs → ds.length = n → es.length = ks.length → Ats ⟨K, Γ⟩ c H j (g x ds es) (gV (v :: vs) zs)
/-- the end of a new object's __init__ -/
theorem mk_end {k : Nat} {C x dx : Addr} {m : FM} {f : D → List D} {us : List V} {tr : TrF} {Q : VK} (ht : TrOk tr) (r : Rep ⟨X.K, Γ⟩ c H S) (gC : Γ.at_ k = some C) (hx : H x = none) (hd : H dx = none) (ne : dx ≠ x)
    (ha : ∀ (c' : Cn) (H' : Hp) (j : Nat), Ext c H S.length c' H' j → At ⟨X.K, Γ⟩ c' H' j (.loc S.length) (.ref x) → Ats ⟨X.K, Γ⟩ c' H' j (f (.loc S.length)) us) (h : PoE ⟨X.K, Γ⟩ W σ c H S.length (tr S (mkDk k m f S)) Q) :
    spM X.K Γ m us (upd (upd H dx (.own x)) x (.ins C dx [])) (fun v H3 => v = .non ∧ Q (.ref x) H3) fun C dd H => W C dd σ H := by
  obtain ⟨e2, r2, t2⟩ := mk_start (w := ⟨X.K, Γ⟩) (ds := []) (vs := []) r gC .nil hx hd ne
  obtain ⟨_, _, he, al, _⟩ := t2.uncons
  cases he
  have h2 := Po.mono e2 (ht _ _ _ _ _ _ _ _ r h)
  refine ⟨_, _, _, r2, ha _ _ _ e2 al, ?_⟩
  refine Po.wish ((Po.bind h2).imp fun v H3 ⟨c3, S3, d3, e3, r3, a3, h3⟩ => ?_) fun _ _ _ z => z
  cases d3 with
  | non =>
    refine ⟨a3.non, h3 c3 H3 _ Ext.refl r3 ?_⟩
    have hl : (S ++ [SO.ins k []]).length = S.length + 1 := by rw [List.length_append]; rfl
    unfold At
    have hlt : S.length < (S ++ [SO.ins k []]).length := by rw [hl]; exact Nat.lt_succ_self _
    exact ⟨Nat.lt_of_lt_of_le hlt e3.le, by rw [e3.rho _ hlt, Cn.nw_at]⟩
  | _ => exact h3.elim
theorem c_mkk {k lv n : Nat} {x : Str} {m : FM} {p : Pos} {tr : TrF} {ks : List Str} {g : D → List D → List D → List D} (tok : TrOk tr) (G : Dkk X.prog X.w X.K X.mg X.base Γ k x lv m n ks g) (go : Goes X W) (hr : Room (lv + 1) X.A) (hg : Gl X x) (ha : CA Γ X W (e :: es) am) (hk : CK Γ X W kws km)
    (hall : (backToKw pos (keywordEach kws X.env)).all (·.1.isSome) = true := by rfl) (hks : (backToKw pos (keywordEach kws X.env)).filterMap (·.1) = ks := by rfl) (hdb : (x == ("__debug__" : Str)) = false := by decide)
    (he : starEach (e :: es) X.env = (false, eval e X.env) :: starEach es X.env := by rfl) (hpl : ((backTo pos (starEach (e :: es) X.env)).any (·.1) || (backToKw pos (keywordEach kws X.env)).any (·.1.isNone)) = false := by rfl) : CE Γ X W (.Call (.Name x p) (e :: es) kws pos) (e_mkk tr k m g n ks.length am km) := by
  obtain ⟨C, f, fd, ps, g0, gV, gC, hm, M, F, hb, hrel⟩ := G.ex
  refine PE.weak (pe_makeKS (E := fun σ => WE W σ) M F hr hg hm hb go ha hk hall hks hdb he hpl) fun σ H Q ⟨c, env, S, r, ev, h⟩ => ?_
  refine ⟨c, env, S, r, ev, (Po.bind h).imp fun vs H1 ⟨c1, S1, ds, e1, r1, a1, h1⟩ => ?_⟩
  refine ⟨c1, env, S1, r1, ev.mono e1, (Po.bind h1).imp fun zs H2 ⟨c2, S2, ds2, e2, r2, a2, h2⟩ => ?_⟩
  obtain ⟨⟨l1, l2⟩, h2⟩ := Po.if h2
  refine ⟨by rw [a1.len]; exact l1, by rw [a2.len]; exact l2, fun x dx hx hd ne => ?_⟩
  exact mk_end tok r2 gC hx hd ne (fun c' H' j ex al => hrel c' H' j _ _ _ _ _ _ al ((a1.mono e2).mono ex) (a2.mono ex) l1 l2) h2
/-! ## any many values, keywords -/
def e_mks (tr : TrF) (k : Nat) (m : FM) (g : D → List D → List D) (nk : Nat) (am km : AM) : EM := fun env S => (am env S).bind fun ds S1 => (km env S1).bind fun es S2 => .if (ds.length ≤ 1000 ∧ es.length = nk) (tr S2 (mkDk k m (fun x => g x es ++ [.tup ds]) S2))
@[simp] theorem e_mks_eq (tr : TrF) (k : Nat) (m : FM) (g : D → List D → List D) (nk : Nat) (am km : AM) (env : Env) (S : Sto) : e_mks tr k m g nk am km env S = (am env S).bind fun ds S1 => (km env S1).bind fun es S2 => .if (ds.length ≤ 1000 ∧ es.length = nk) (tr S2 (mkDk k m (fun x => g x es ++ [.tup ds]) S2)) := rfl
structure Dks (P : Program) (wd : World) (K : PySem.W.Frag) (mg : Str → Option Value) (base : Heap) (Γ : Cls') (k : Nat) (x : Str) (lv : Nat) (m : FM) (ks : List Str) (g : D → List D → List D) : Prop where
  ex : ∃ (C f : Addr) (gV : List V → List V → List V), Γ.at_ k = some C ∧ mg x = some (.ref C) ∧ Mk K C f ∧ StK.FnRK P wd K mg base (L2.CX P wd) lv f ks (fun zs vs H Q E => ∃ ws rest, vs = ws ++ rest ∧ ws.length = 1 ∧ rest.length ≤ sizeLine ∧ ∀ p, H p = none → spM K Γ m (gV ws zs ++ [V.ref p]) (upd H p (.tup rest)) Q E) ∧
    ∀ (c : Cn) (H : Hp) (j : Nat) (x : D) (v : V) (es : List D) (zs : List V), At ⟨K, Γ⟩ c H j x v → Ats ⟨K, Γ⟩ c H j es zs → es.length = ks.length → Ats ⟨K, Γ⟩ c H j (g x es) (gV [v] zs)
theorem c_mks {k lv : Nat} {x : Str} {m : FM} {p : Pos} {tr : TrF} {ks : List Str} {g : D → List D → List D} (tok : TrOk tr) (G : Dks X.prog X.w X.K X.mg X.base Γ k x lv m ks g) (go : Goes X W) (hr : Room (lv + 1) X.A) (hg : Gl X x) (ha : CA Γ X W (e :: es) am) (hk : CK Γ X W kws km)
    (hall : (backToKw pos (keywordEach kws X.env)).all (·.1.isSome) = true := by rfl) (hks : (backToKw pos (keywordEach kws X.env)).filterMap (·.1) = ks := by rfl) (hdb : (x == ("__debug__" : Str)) = false := by decide)
    (he : starEach (e :: es) X.env = (false, eval e X.env) :: starEach es X.env := by rfl) (hpl : ((backTo pos (starEach (e :: es) X.env)).any (·.1) || (backToKw pos (keywordEach kws X.env)).any (·.1.isNone)) = false := by rfl) : CE Γ X W (.Call (.Name x p) (e :: es) kws pos) (e_mks tr k m g ks.length am km) := by
  obtain ⟨C, f, gV, gC, hm, M, F, hrel⟩ := G.ex
  refine PE.weak (StK.pe_makeRK (E := fun σ => WE W σ) M F hr hg hm go ha hk hall hks hdb he hpl) fun σ H Q ⟨c, env, S, r, ev, h⟩ => ?_
  refine ⟨c, env, S, r, ev, (Po.bind h).imp fun vs H1 ⟨c1, S1, ds, e1, r1, a1, h1⟩ => ?_⟩
  refine ⟨c1, env, S1, r1, ev.mono e1, (Po.bind h1).imp fun zs H2 ⟨c2, S2, ds2, e2, r2, a2, h2⟩ => ?_⟩
  obtain ⟨⟨l1, l2⟩, h2⟩ := Po.if h2
  refine ⟨by rw [a2.len]; exact l2, fun x dx hx hd ne => ⟨[.ref x], vs, rfl, rfl, by rw [a1.len]; exact Nat.le_trans l1 (by decide), fun q hq => ?_⟩⟩
  obtain ⟨e3, r3, t3⟩ := mk_start (w := ⟨X.K, Γ⟩) (ds := []) (vs := []) r2 gC .nil hx hd ne
  obtain ⟨_, _, hE, al, _⟩ := t3.uncons
  cases hE
  have e4 := e3.trans (Ext.grow (o := .tup vs) (n := (S2 ++ [SO.ins k []]).length) (c := c2.nw S2.length x) hq)
  have h3 := Po.mono e4 (tok _ _ _ _ _ _ _ _ r2 h2)
  have al4 := al.mono (Ext.grow (o := .tup vs) hq)
  have at_ : At ⟨X.K, Γ⟩ (c2.nw S2.length x) (upd (upd (upd H2 dx (.own x)) x (.ins C dx [])) q (.tup vs)) (S2 ++ [SO.ins k []]).length (.tup ds) (.ref q) := by
    unfold At
    exact ⟨q, vs, rfl, SqT.of upd_same, (a1.mono e2).mono e4⟩
  refine ⟨_, _, _, r3.grow (o := .tup vs) hq, (hrel _ _ _ _ _ _ _ al4 (a2.mono e4) l2).app (.one at_), ?_⟩
  refine Po.wish ((Po.bind h3).imp fun v H3 ⟨c3, S3, d3, e5, r5, a5, h5⟩ => ?_) fun _ _ _ z => z
  cases d3 with
  | non =>
    refine ⟨a5.non, h5 c3 H3 _ Ext.refl r5 ?_⟩
    unfold At at al4
    unfold At
    exact ⟨Nat.lt_of_lt_of_le al4.1 e5.le, by rw [e5.rho _ al4.1]; exact al4.2⟩
  | _ => exact h5.elim
def s_nox (m : SM) : SM := fun env S => match m env S with
  | .ex _ _ _ => .bad
  | r => r
@[simp] theorem s_nox_eq (m : SM) (env : Env) (S : Sto) : s_nox m env S = match m env S with
  | .ex _ _ _ => .bad
  | r => r := rfl
theorem c_tryNo {body : List Stmt} {h0 : ExceptHandler} {hs : List ExceptHandler} {m : SM} (hb : CSs Γ X.nox W0 body m) : CS Γ X W (.Try body (h0 :: hs) [] [] pos) (s_nox m) := by
  refine PS.weak (ps_try_thru0 hb) fun Dn σ H ⟨c, env, S, r, ev, h⟩ => ⟨c, env, S, r, ev, ?_⟩
  unfold s_nox at h
  cases hm : m env S with
  | ex x env1 S1 => rw [hm] at h; exact h.elim
  | next env1 S1 => rw [hm] at h; exact h
  | ret d S1 => rw [hm] at h; exact h
  | brk env1 S1 => rw [hm] at h; exact h
  | cnt env1 S1 => rw [hm] at h; exact h
  | bad => rw [hm] at h; exact h.elim
/-! ## dicts that are equal -/
def sameDs (p q : List D × List D) : Bool := match kkO p.1, kkO q.1 with
  | some kk, some ll => p.2.length == q.2.length && (kk.zip p.2).all fun kd => match getDs ll q.2 kd.1 with
    | some z => match DV kd.2, DV z with
      | some u, some v => decide (u = v)
      | _, _ => false
    | none => false
  | _, _ => false
def dneD (x y : D) (S : Sto) : R D := match dicOf S x, dicOf S y with
  | some p, some q => .if (sameDs p q = true) (.ok (.bl false) S)
  | _, _ => .bad
theorem DV_flatB {d : D} {u : V} (h : DV d = some u) : flatB u = true := by
  cases d with
  | int i => cases h; rfl
  | bl i => cases h; rfl
  | str i => cases h; rfl
  | non => cases h; rfl
  | _ => cases h
theorem same_all {ll : List Key} {qs : List D} {us : List V} (t2 : Ats w c H n qs us) : ∀ {kk : List Key} {ps : List D} {vs : List V}, Ats w c H n ps vs → ((kk.zip ps).all fun kd => match getDs ll qs kd.1 with
    | some z => match DV kd.2, DV z with
      | some u, some v => decide (u = v)
      | _, _ => false
    | none => false) = true → ∀ x ∈ kk.zip vs, valV (ll.zip us) x.1 = some x.2 ∧ flatB x.2 = true
  | [], ps, vs, t, h, x, hx => by cases hx
  | k :: r, [], vs, t, h, x, hx => by rw [t.unnil] at hx; cases hx
  | k :: r, d :: ps, vs, t, h, x, hx => by
    obtain ⟨v, vr, rfl, a1, a2⟩ := t.uncons
    rw [List.zip_cons_cons, List.all_cons, Bool.and_eq_true] at h
    rw [List.zip_cons_cons] at hx
    rcases List.mem_cons.mp hx with rfl | hx
    · have h1 := h.1
      rcases getDs_at (k := k) (kk := ll) t2 with ⟨z, u, g1, g2, g3⟩ | ⟨g1, g2⟩
      · dsimp only at h1 ⊢
        rw [g1] at h1
        dsimp only at h1
        cases e1 : DV d with
        | none => rw [e1] at h1; cases h1
        | some u1 =>
          cases e2 : DV z with
          | none => rw [e1, e2] at h1; cases h1
          | some u2 =>
            rw [e1, e2] at h1
            have e3 : u1 = u2 := of_decide_eq_true h1
            rw [(DV_at e1 a1).1, g2, (DV_at e2 g3).1, e3]
            exact ⟨rfl, DV_flatB e2⟩
      · dsimp only at h1
        rw [g1] at h1
        cases h1
    · exact same_all t2 a2 h.2 x hx
theorem g_dne (lk : Γ.lk = none) : GOp Γ X dneD rNeDA := by
  intro W σ c H S x y v u Q r ax ay h
  unfold dneD at h
  cases hp : dicOf S x with
  | none => rw [hp] at h; exact h.elim
  | some p =>
    cases hq : dicOf S y with
    | none => rw [hp, hq] at h; exact h.elim
    | some q =>
      rw [hp, hq] at h
      obtain ⟨hs, h⟩ := Po.if h
      obtain ⟨a1, vs, rfl, t1, g1⟩ := dicOf_at (w := ⟨X.K, Γ⟩) (ks := p.1) (ds := p.2) r ax hp
      obtain ⟨a2, us, rfl, t2, g2⟩ := dicOf_at (w := ⟨X.K, Γ⟩) (ks := q.1) (ds := q.2) r ay hq
      unfold sameDs at hs
      rcases g1 with ⟨kk, h1, l1, k1⟩ | ⟨kk, h1, l1, k1⟩
      · rcases g2 with ⟨ll, h2, l2, k2⟩ | ⟨ll, h2, l2, k2⟩
        · rw [k1, k2, kkO_map, kkO_map] at hs
          dsimp only at hs
          rw [Bool.and_eq_true] at hs
          have e := beq_iff_eq.mp hs.1
          refine ⟨a1, a2, _, _, rfl, rfl, h1.ex lk, h2.ex lk, ?_, same_all t2 t1 hs.2, fin_ok h r (.b _)⟩
          rw [List.length_zip, List.length_zip, l1, l2, Nat.min_self, Nat.min_self, t1.len, t2.len, e]
        · rw [k1, k2, kkO_map, kkO_non] at hs; cases hs
      · rw [k1, kkO_non] at hs; cases hs
/-! ## letters -/
@[simp] theorem i_str_eq (m : EM) (env : Env) (S : Sto) : i_str m env S = (m env S).bind fun d S1 => match d with
  | .str x => .ok (x.cps.toList.map fun k => .str ⟨#[k]⟩, none) S1
  | _ => .bad := rfl
theorem ci_str (he : CE Γ X W e ma) : CI Γ X W tg e (i_str ma) := by
  refine PI.weak (pi_str he) fun σ H R ⟨c, env, S, r, ev, h⟩ => ?_
  refine ⟨c, env, S, r, ev, (Po.bind h).imp fun v H1 ⟨c1, S1, d1, e1, r1, a1, h1⟩ => ?_⟩
  cases d1 with
  | str x =>
    refine ⟨x, a1.str, h1 c1 H1 _ Ext.refl r1 ?_⟩
    intro c2 H2 S2 e2 r2 st i
    refine ⟨fun d hd => ?_, fun hi => ?_⟩
    · rw [List.getElem?_map] at hd
      cases hx : x.cps.toList[i]? with
      | none => rw [hx] at hd; cases hd
      | some k =>
        rw [hx] at hd
        cases hd
        have hi : i < x.cps.size := by
          have := (List.getElem?_eq_some_iff.mp hx).1
          simpa using this
        refine ⟨hi, ?_⟩
        rintro y H3 ⟨rfl, k', hk, rfl⟩
        have : x.cps[i]? = some k := by rw [← Array.getElem?_toList]; exact hx
        rw [this] at hk; cases hk
        exact ⟨Ext.refl, r2, .s _⟩
    · rw [List.length_map] at hi
      show x.cps.size ≤ i
      simp at hi; omega
  | _ => exact h1.elim
end
end Mm
set_option maxRecDepth 100000
/-! A written dict of numbers; defs of keyword parameters; short words. -/
namespace Mm
open PySem L2
section
variable {w : Wn} {W : WX} {σ : St} {c c' : Cn} {H H' : Hp} {n n' : Nat} {S : Sto} {env : Env}
variable {Γ : Cls'} {X : Cx} {a b e tg : Expr} {es : List Expr} {ma mb mo : EM} {am km : AM} {pos : Pos} {Dn : Ends} {kws : List Keyword}
/-- the module's name x holds a written dict: the numbers of these words -/
structure Kd (K : PySem.W.Frag) (wd : World) (mg : Str → Option Value) (x : Str) (tb : List (Str × Int)) : Prop where
  ex : ∃ it, mg x = some (.ref it) ∧ (∃ es n, K.lookup it = some ⟨.type "dict", none, .dict es n, #[]⟩) ∧ ∀ z i, tb.lookup z = some i → KG K wd it z (.int i)
def kgetD (tb : List (Str × Int)) (y : D) (S : Sto) : R D := match y with
  | .str z => .ofO ((tb.lookup z).map D.int) S
  | _ => .bad
@[simp] theorem kgetD_str (tb : List (Str × Int)) (z : Str) (S : Sto) : kgetD tb (.str z) S = .ofO ((tb.lookup z).map D.int) S := rfl
def e_kget (tb : List (Str × Int)) (m : EM) : EM := fun env S => (m env S).bind (kgetD tb)
@[simp] theorem e_kget_eq (tb : List (Str × Int)) (m : EM) (env : Env) (S : Sto) : e_kget tb m env S = (m env S).bind (kgetD tb) := rfl
theorem c_kget {tb : List (Str × Int)} {x : Str} {p apos cpos : Pos} (G : Kd X.K X.w X.mg x tb) (he : CE Γ X W e ma) (hg : Gl X x := by rfl) (hd : (x == ("__debug__" : Str)) = false := by decide) (h1 : M1 X (.Name x p) "get" apos e cpos := by exact ⟨rfl, rfl, rfl, rfl⟩) : CE Γ X W (.Call (.Attribute (.Name x p) "get" apos) [e] [] cpos) (e_kget tb ma) := by
  obtain ⟨it, hm, ⟨es, nn, lk⟩, hk⟩ := G.ex
  refine PE.weak (pe_kget (pe_glob (v := .ref it) hg hm rfl hd) he (fun σ H Q h => ⟨⟨it, _, es, nn, rfl, lk, rfl⟩, h⟩) h1) fun σ H Q ⟨c, env, S, r, ev, h⟩ => ?_
  refine ⟨c, env, S, r, ev, (Po.bind h).imp fun v H1 ⟨c1, S1, d1, e1, r1, a1, h1⟩ => ?_⟩
  cases d1 with
  | str z =>
    obtain ⟨i, hi, h1⟩ := Po.ofM h1
    exact ⟨it, z, .int i, rfl, a1.str, hk z i hi, fin_ok h1 r1 (.i _)⟩
  | _ => exact h1.elim
/-- a def with keyword-only parameters -/
theorem def_okD {P : Program} {wd : World} {K : PySem.W.Frag} {mg : Str → Option Value} {base : Heap} {x qual : Str} {params : Arguments} {body : List Stmt} {scope : Scope} {dvs : List V} {kws : List (Str × V)} {f : Addr} {fd : FuncData} {N ps : List Str} {k : Nat} {b : SM} (F : FunD K x qual params body scope dvs kws f fd) (Sc : FnScope N ps scope)
    (hb : ∀ (cdv : Value) (A : Around) (outer : List PySem.Env) (s : Shared) (H : Hp) (E : XK), Room k (A.deeper (PyProof.Rows.envOfC qual scope s.heap.objs.size f cdv)) → CSs Γ (cxOf (L2.CX P wd) P wd K mg base N qual scope f cdv A outer s H E) (fun C dd _ H => E C dd H) body b) :
    FnOk P wd K mg base (L2.CX P wd) (k + 1) f fd ps (spM K Γ (runDef ps.length N.length b)) := by
  refine F.ok Sc (fun vs H Q E ⟨c, S, ds, r, t, h⟩ => ?_) (fun cdv A outer s H vs Q E hr ⟨c, S, ds, r, t, h⟩ => ⟨_, hb cdv A outer s H E hr, ?_⟩)
  · unfold runDef at h
    by_cases hl : ds.length = ps.length
    · rw [t.len]; exact hl
    · rw [if_neg hl] at h; exact h.elim
  · unfold runDef at h
    by_cases hl : ds.length = ps.length
    · rw [if_pos hl, ← hl] at h
      refine ⟨c, _, S, r, envR_start t, ?_⟩
      cases hx : b (ds.map some ++ List.replicate (N.length - ds.length) none) S with
      | next env' S' => rw [hx] at h; exact fun c2 H2 s2 e2 r2 a2 => h c2 H2 .non e2 r2 .o
      | ret d S' => rw [hx] at h; exact fun c2 H2 v e2 r2 a2 => h c2 H2 v e2 r2 a2
      | ex x env' S' => rw [hx] at h; exact fun c2 H2 s2 C dd e2 r2 a2 xa => h c2 H2 C dd e2 r2 xa
      | brk env' S' => rw [hx] at h; exact h.elim
      | cnt env' S' => rw [hx] at h; exact h.elim
      | bad => rw [hx] at h; exact h.elim
    · rw [if_neg hl] at h; exact h.elim
theorem hu1 {k : Nat} {A : Around} (hr : Room k A) : A.units + 1 < cLine := by have := hu64 hr; omega
theorem hu65 {k : Nat} {A : Around} (hr : Room k A) : A.units + 65 < cLine := by have := hr.un; omega
theorem hu0 {k : Nat} {A : Around} (hr : Room k A) : A.units < cLine := by have := hr.un; omega
/-- the class's name, for isinstance -/
structure KcOk (K : PySem.W.Frag) (Γ : Cls') (mg : Str → Option Value) (x : Str) (kt : Ty → Option Bool) : Prop where
  ex : ∃ C, mg x = some (.ref C) ∧ KitOk K Γ (.ref C) kt
theorem c_isiK {x : Str} {kt : Ty → Option Bool} {p q : Pos} (hl : Γ.lk = none) (hm : X.mg "isinstance" = none) (G : KcOk X.K Γ X.mg x kt) (he : CE Γ X W e ma) (hg : Gl X "isinstance" := by rfl) (hgT : Gl X x := by rfl) (hdb : (x == ("__debug__" : Str)) = false := by decide)
    (h1 : starEach [e, .Name x q] X.env = (false, eval e X.env) :: starEach [.Name x q] X.env := by rfl) (h2 : starEach [.Name x q] X.env = (false, eval (.Name x q) X.env) :: starEach [] X.env := by rfl) (hpl : (backTo pos (starEach [.Name x q] X.env)).any (·.1) = false := by rfl) :
    CE Γ X W (.Call (.Name "isinstance" p) [e, .Name x q] [] pos) (e_isi kt ma) := by
  obtain ⟨C, hC, kk⟩ := G.ex
  exact c_isiC hl hm hC kk he hg hgT hdb h1 h2 hpl
/-- len(set(xs)), texts -/
def lensD (x : D) (S : Sto) : R D := .ofO (((lstOf S x).bind (allO stO)).bind fun xs => if xs.length ≤ 100 then some (D.int (LenS.many xs xs.length : Nat)) else none) S
def e_lens (m : EM) : EM := fun env S => (m env S).bind lensD
@[simp] theorem e_lens_eq (m : EM) (env : Env) (S : Sto) : e_lens m env S = (m env S).bind lensD := rfl
theorem c_lens {p p2 q : Pos} (hg : Gl X "len") (hm : X.mg "len" = none) (hg2 : Gl X "set") (hm2 : X.mg "set" = none) (ha : CE Γ X W a ma) (hc : X.calm = true := by rfl) (na : starEach [a] X.env = (false, eval a X.env) :: starEach [] X.env := by rfl) : CE Γ X W (.Call (.Name "len" p) [.Call (.Name "set" p2) [a] [] q] [] pos) (e_lens ma) := by
  refine PE.weak (pe_lenS hg hm hg2 hm2 ha hc na) fun σ H Q ⟨c, env, S, r, ev, h⟩ => ?_
  refine ⟨c, env, S, r, ev, (Po.bind h).imp fun v H1 ⟨c1, S1, d1, e1, r1, a1, h1⟩ => ?_⟩
  obtain ⟨y, hy, h1⟩ := Po.ofO h1
  cases hb : (lstOf S1 d1).bind (allO stO) with
  | none => rw [hb] at hy; cases hy
  | some xs =>
    rw [hb, Option.bind_some] at hy
    by_cases hl : xs.length ≤ 100
    · rw [if_pos hl] at hy; cases hy
      obtain ⟨l, rfl, g⟩ := lstO (fv := V.str) (fun d x v h a => stO_at h a) r1 a1 hb
      exact ⟨l, xs, rfl, g, hl, fin_ok h1 r1 (.i _)⟩
    · rw [if_neg hl] at hy; cases hy
/-- not x, x of any kind -/
def e_nott (m : EM) : EM := fun env S => (m env S).bind fun d S1 => .ofO ((truD S1 d).map fun k => D.bl (!k)) S1
@[simp] theorem e_nott_eq (m : EM) (env : Env) (S : Sto) : e_nott m env S = (m env S).bind fun d S1 => .ofO ((truD S1 d).map fun k => D.bl (!k)) S1 := rfl
theorem c_nott (ha : CE Γ X W a ma) : CE Γ X W (.UnaryOp .Not a pos) (e_nott ma) := by
  refine PE.weak (pe_notT ha) fun σ H Q ⟨c, env, S, r, ev, h⟩ => ?_
  refine ⟨c, env, S, r, ev, (Po.bind h).imp fun v H1 ⟨c1, S1, d1, e1, r1, a1, h1⟩ => ?_⟩
  obtain ⟨k, hk, h1⟩ := Po.ofM h1
  exact ⟨k, truD_at r1 a1 hk, fin_ok h1 r1 (.b _)⟩
end
end Mm
set_option maxRecDepth 100000
/-! [*xs, y]; sorted texts; min; an own __len__. -/
namespace Mm
open PySem L2 StX
section
variable {w : Wn} {W : WX} {σ : St} {c c' : Cn} {H H' : Hp} {n n' : Nat} {S : Sto} {env : Env}
variable {Γ : Cls'} {X : Cx} {a b e tg : Expr} {es : List Expr} {ma mb mo : EM} {am km : AM} {pos : Pos} {Dn : Ends} {kws : List Keyword}
/-! ## *xs among the items -/
def a_star (m : EM) (r : AM) : AM := fun env S => (m env S).bind fun d S1 => match seqOf S1 d with
  | some xs => (r env S1).bind fun ds S2 => .ok (xs ++ ds) S2
  | none => .bad
@[simp] theorem a_star_eq (m : EM) (r : AM) (env : Env) (S : Sto) : a_star m r env S = (m env S).bind fun d S1 => match seqOf S1 d with
  | some xs => (r env S1).bind fun ds S2 => .ok (xs ++ ds) S2
  | none => .bad := rfl
theorem c_astar {p : Pos} (ha : CE Γ X W e ma) (hr : CA Γ X W es am) (hs : starEach (.Starred e p :: es) X.env = (true, eval e X.env) :: starEach es X.env := by rfl) : CA Γ X W (.Starred e p :: es) (a_star ma am) := by
  refine PA.weak (pa_star ha hr hs) fun σ H Q ⟨c, env, S, r, ev, h⟩ => ?_
  refine ⟨c, env, S, r, ev, (Po.bind h).imp fun v H1 ⟨c1, S1, d1, e1, r1, a1, h1⟩ => ?_⟩
  cases hq : seqOf S1 d1 with
  | none => simp only [hq] at h1; exact h1.elim
  | some xs =>
    simp only [hq] at h1
    obtain ⟨q, vs, rfl, sq, t⟩ := seqOf_at r1 a1 hq
    refine ⟨q, vs, rfl, sq.symm, c1, env, S1, r1, ev.mono e1, (Po.bind h1).imp fun us H2 ⟨c2, S2, ds, e2, r2, a2, h2⟩ => ?_⟩
    exact h2 c2 H2 _ Ext.refl r2 ((t.mono e2).app a2)
/-! ## sorted texts -/
def leS (x y : Str) : Bool := !decide (y.cps.toList < x.cps.toList)
theorem leS_trans (a b c : Str) (h1 : leS a b = true) (h2 : leS b c = true) : leS a c = true := by
  unfold leS at *
  simp only [Bool.not_eq_true', decide_eq_false_iff_not] at *
  exact List.le_trans (show a.cps.toList ≤ b.cps.toList from h1) (show b.cps.toList ≤ c.cps.toList from h2)
theorem leS_total (a b : Str) : (leS a b || leS b a) = true := by
  unfold leS
  rcases List.le_total a.cps.toList b.cps.toList with h | h
  · have : ¬ b.cps.toList < a.cps.toList := h
    simp [this]
  · have : ¬ a.cps.toList < b.cps.toList := h
    simp [this]
theorem leS_anti (a b : Str) (h1 : leS a b = true) (h2 : leS b a = true) : a = b := by
  unfold leS at *
  simp only [Bool.not_eq_true', decide_eq_false_iff_not] at *
  have := List.le_antisymm (show a.cps.toList ≤ b.cps.toList from h1) (show b.cps.toList ≤ a.cps.toList from h2)
  cases a with | mk x => cases b with | mk y =>
    simp only at this
    rw [show x = y from Array.toList_inj.mp this]
def sortS (xs : List Str) : List Str := xs.mergeSort leS
theorem risingS_pw : ∀ (l : List Str) (p : Str), PyProof.Rows.risingS p l = true → (p :: l).Pairwise (fun a b => leS a b = true)
  | [], p, _ => List.pairwise_singleton _ _
  | x :: r, p, h => by
    unfold PyProof.Rows.risingS at h
    rw [Bool.and_eq_true] at h
    have ih := risingS_pw r x h.2
    have hpx : leS p x = true := by unfold leS; rw [PyProof.Rows.gt_meets]; exact h.1
    refine List.pairwise_cons.mpr ⟨fun y hy => ?_, ih⟩
    rcases List.mem_cons.mp hy with e | hy
    · rw [e]; exact hpx
    · exact leS_trans _ _ _ hpx ((List.pairwise_cons.mp ih).1 y hy)
theorem sortS_uniq {xs ys : List Str} (p : ys.Perm xs) (s : PyProof.Rows.sortedS ys = true) : ys = sortS xs := by
  have pw : ys.Pairwise (fun a b => leS a b = true) := by
    cases ys with
    | nil => exact .nil
    | cons x r => exact risingS_pw r x s
  refine List.Perm.eq_of_pairwise (le := fun a b => leS a b = true) (fun a b _ _ h1 h2 => leS_anti a b h1 h2) pw ?_ (p.trans (List.mergeSort_perm _ _).symm)
  exact List.pairwise_mergeSort (le := leS) leS_trans leS_total xs
theorem ats_str : ∀ ns : List Str, Ats w c H n (ns.map .str) (ns.map V.str)
  | [] => .nil
  | i :: r => .cons (.s _) (ats_str r)
def sortSD (x : D) (S : Sto) : R D := .ofO (((lstOf S x).bind (allO stO)).bind fun ns => if ns.length < 64 then some (D.lst ((sortS ns).map D.str)) else none) S
theorem g_sortS : GCall Γ X (f1 sortSD) (rSortedS X.K) := by
  refine .one fun W σ c H S x v Q r a h => ?_
  obtain ⟨y, hy, h⟩ := Po.ofO h
  cases hb : (lstOf S x).bind (allO stO) with
  | none => rw [hb] at hy; cases hy
  | some ns =>
    rw [hb, Option.bind_some] at hy
    by_cases hn : ns.length < 64
    · rw [if_pos hn] at hy; cases hy
      obtain ⟨p, rfl, g⟩ := lstO (fv := V.str) (fun d x v h a => stO_at h a) r a hb
      exact ⟨p, ns, rfl, g, hn, fun ms q pm ps hq => by rw [sortS_uniq pm ps]; exact fin_lst h r (ats_str _) hq⟩
    · rw [if_neg hn] at hy; cases hy
/-! ## min -/
def minL : List Int → Int
  | [] => 0
  | [x] => x
  | x :: y :: r => min x (minL (y :: r))
theorem minL_mem : ∀ {ns : List Int}, ns ≠ [] → minL ns ∈ ns
  | [], h => absurd rfl h
  | [x], _ => by simp [minL]
  | x :: y :: r, _ => by
    unfold minL
    have := minL_mem (ns := y :: r) (by simp)
    by_cases h : x ≤ minL (y :: r)
    · rw [Int.min_eq_left h]; simp
    · rw [Int.min_eq_right (by omega)]; exact List.mem_cons_of_mem _ this
theorem minL_le : ∀ {ns : List Int} {y : Int}, y ∈ ns → minL ns ≤ y
  | [], y, h => by cases h
  | [x], y, h => by rw [List.mem_singleton] at h; rw [h]; exact Int.le_refl _
  | x :: z :: r, y, h => by
    unfold minL
    rcases List.mem_cons.mp h with rfl | h
    · exact Int.min_le_left _ _
    · exact Int.le_trans (Int.min_le_right _ _) (minL_le h)
theorem minL_uniq {ns : List Int} {m : Int} (h : m ∈ ns) (g : ∀ y ∈ ns, m ≤ y) : m = minL ns := Int.le_antisymm (g _ (minL_mem fun e => by rw [e] at h; cases h)) (minL_le h)
def minD (x : D) (S : Sto) : R D := .ofO (((lstOf S x).bind (allO inO)).bind fun ns => if 0 < ns.length then some (D.int (minL ns)) else none) S
theorem g_min : GCall Γ X (f1 minD) (rMin X.K) := by
  refine .one fun W σ c H S x v Q r a h => ?_
  obtain ⟨y, hy, h⟩ := Po.ofO h
  cases hb : (lstOf S x).bind (allO inO) with
  | none => rw [hb] at hy; cases hy
  | some ns =>
    rw [hb, Option.bind_some] at hy
    by_cases hn : 0 < ns.length
    · rw [if_pos hn] at hy; cases hy
      obtain ⟨p, rfl, g⟩ := lstO (fv := V.int) (fun d x v h a => inO_at h a) r a hb
      exact ⟨p, ns, rfl, g, hn, fun m hm hg => by rw [minL_uniq hm hg]; exact fin_ok h r (.i _)⟩
    · rw [if_neg hn] at hy; cases hy
/-! ## len(x) by an own __len__ -/
theorem pass_no {P : Program} {w : World} {X : Cx} : Passes (L2.CX P w) X (fun _ _ _ => False) := fun pins σ H s e s' I h => by
  obtain ⟨a, B, H', cls, d, _, _, _, _, _, _, _, z⟩ := h
  exact z.elim
open Classical in
noncomputable def lenOwnD (k : Nat) (m : FM) (d : D) (S : Sto) : R D := .if (isI k d S) ((m [d] S).nox.bind fun y S1 => match y with
  | .int i => .if (0 ≤ i ∧ i < 2 ^ 63) (.ok (.int i) S1)
  | _ => .bad)
open Classical in
@[simp] theorem lenOwnD_eq (k : Nat) (m : FM) (d : D) (S : Sto) : lenOwnD k m d S = .if (isI k d S) ((m [d] S).nox.bind fun y S1 => match y with
  | .int i => .if (0 ≤ i ∧ i < 2 ^ 63) (.ok (.int i) S1)
  | _ => .bad) := rfl
open Classical in
theorem c_lenOwn {k lv : Nat} {m : FM} {p : Pos} (G : Dn' X.prog X.w X.K X.mg X.base Γ k "__len__" lv m) (hr : Room (lv + 1) X.A) (hg : Gl X "len") (hm : X.mg "len" = none) (ha : CE Γ X W a ma)
    (he : starEach (a :: []) X.env = (false, eval a X.env) :: starEach [] X.env := by rfl) (hpl : (backTo pos (starEach [] X.env)).any (·.1) = false := by rfl) : CE Γ X W (.Call (.Name "len" p) [a] [] pos) (e_call (f1 (lenOwnD k m)) (a_cons ma a_nil)) := by
  obtain ⟨C, f, fd, ps, gC, M, hf, F, hb⟩ := G.ex
  refine c_callB (call_lenOwn M F hr hb pass_no) (.one fun W σ c H S x v Q r a h => ?_) hg hm PySem.boot_len (c_acons ha c_anil he) (he := he) (hpl := hpl)
  obtain ⟨⟨ds, hi⟩, h⟩ := Po.if h
  obtain ⟨q, vs, C', dx, rfl, g, l, s, t⟩ := insOf_at r a hi
  rw [gC] at g; cases g
  refine ⟨q, dx, _, rfl, s, c, S, [x], r, .one a, (Po.nox Ext.refl h).imp fun v H1 ⟨c1, S1, d1, e1, e2, r1, a1, h1⟩ => ?_⟩
  cases d1 with
  | int i =>
    obtain ⟨⟨i0, i1⟩, h1⟩ := Po.if h1
    exact ⟨i, a1.int, i0, i1, h1 c1 H1 v e2 r1 a1⟩
  | _ => exact h1.elim
/-! ## x, y, z = a, b, c -/
def s_par3 (i j l : Nat) (m : AM) : SM := fun env S => (m env S).toS env fun ds S1 => match ds with
  | [x, y, z] => .next (((env.set i (some x)).set j (some y)).set l (some z)) S1
  | _ => .bad
@[simp] theorem s_par3_eq (i j l : Nat) (m : AM) (env : Env) (S : Sto) : s_par3 i j l m env S = (m env S).toS env fun ds S1 => match ds with
  | [x, y, z] => .next (((env.set i (some x)).set j (some y)).set l (some z)) S1
  | _ => .bad := rfl
theorem c_par3 {i j l : Nat} {x y z : Str} {a b d : Expr} {px py pz pt pt2 : Pos} {kt k2 : Nat} (hc : X.calm = true) (hN : X.N.Nodup) (hij : i ≠ j) (hil : i ≠ l) (hjl : j ≠ l) (ha : CA Γ X W [a, b, d] am) (hi : X.N[i]? = some x := by rfl) (hj : X.N[j]? = some y := by rfl) (hl : X.N[l]? = some z := by rfl) (hx : X.env.scope.names.lookup x = some .local := by rfl) (hy : X.env.scope.names.lookup y = some .local := by rfl) (hz : X.env.scope.names.lookup z = some .local := by rfl)
    (hw : swappedStores [.Tuple [.Name x px, .Name y py, .Name z pz] kt pt] (.Tuple [a, b, d] k2 pt2) X.env = pure (some [x, y, z]))
    (hs : swapsWithSole [.Tuple [.Name x px, .Name y py, .Name z pz] kt pt] (.Tuple [a, b, d] k2 pt2) pos.line X.env = pure false := by rfl) : CS Γ X W (.Assign [.Tuple [.Name x px, .Name y py, .Name z pz] kt pt] (.Tuple [a, b, d] k2 pt2) pos) (s_par3 i j l am) := by
  refine PS.weak (ps_par3 hc hN hi hj hl hij hil hjl hx hy hz ha hw hs) fun Dn σ H ⟨c, env, S, r, ev, h⟩ => ?_
  refine ⟨c, env, S, r, ev, (PoS.part ev h).imp fun vs H1 ⟨c1, S1, ds, e1, r1, a1, ev1, h1⟩ => ?_⟩
  match ds, h1, a1 with
  | [], h1, _ => exact h1.elim
  | [_], h1, _ => exact h1.elim
  | [_, _], h1, _ => exact h1.elim
  | [x, y, z], h1, a1 =>
    obtain ⟨v, r, rfl, ax, a2⟩ := a1.uncons
    obtain ⟨u, t, rfl, ay, az⟩ := a2.un2
    exact ⟨v, u, t, rfl, h1 c1 H1 _ Ext.refl r1 (((ev1.set ax).set ay).set az)⟩
  | _ :: _ :: _ :: _ :: _, h1, _ => exact h1.elim
end
end Mm
set_option maxRecDepth 100000
namespace Mm
open PySem L2
/-! y not in d -/
section
variable {X : Cx} {pins : List (Addr × Obj)} {σ : St} {H : Hp} {s : Shared} {a : Addr} {y v : V} {u r : Value} {o : Option V}
theorem dk_ni {A : Around} {E : Value → Shared → Prop} {Q : Value → Shared → Prop} (hu : A.units + 1 < cLine) (I : Inv X pins σ H s) (g : DGetK X.K H a y o) (ry : RelV y u) (h : ∀ s', Inv X pins σ H s' → Q (.bool (!o.isSome)) s') :
    wpAny (model X.prog X.w) A (compareOp .NotIn u (.ref a)) Q E s := by
  rcases g with ⟨kvs, k, e, ey, l⟩ | ⟨kvs, k, b, e, ey, eb, l⟩
  · exact d_notIn hu I (.inl ⟨kvs, k, e, ey, l⟩) ry h
  · subst ey
    cases (show u = Value.ref b from ry)
    obtain ⟨z, hd, xs, rel, dd⟩ := dt_rd I.hok e
    refine PyProof.Rows.wpAny_notIn_heap (tupleKind_room_in1 hu) (key_sq I eb) hd dd ?_
    have q := (rel.val k).isSome_eq
    rw [Option.isSome_map] at q
    rw [← q, ← l]
    exact h _ (I.tok _)
def rDNi (K : PySem.W.Frag) : R2 := fun y x H Q => ∃ a o, x = .ref a ∧ DGetK K H a y o ∧ Q (.bl (!o.isSome)) H
theorem op_dNi (hu : X.A.units + 1 < cLine) : OpR X (compareOp .NotIn) (rDNi X.K) := by
  intro pins s σ H y x u v Q I ry rx h
  obtain ⟨a, o, rfl, g, q⟩ := h
  obtain rfl : v = Value.ref a := rx
  exact dk_ni hu I g ry fun s' I' => ⟨.bl (!o.isSome), H, I', rfl, q⟩
end
variable {X : Cx} {Γ : Cls'}
theorem g_dni : GOp Γ X (dinD true) (rDNi X.K) := by
  intro W σ c H S y x u v Q r b a h
  obtain ⟨rr, hd, h⟩ := Po.ofM h
  cases hp : dicOf S x with
  | none => rw [hp] at hd; cases hd
  | some p =>
    rw [hp, Option.bind_some] at hd
    obtain ⟨q, rfl, ov, g, z⟩ := dget_at (w := ⟨X.K, Γ⟩) r a b hp hd
    refine ⟨q, ov, rfl, g, ?_⟩
    rcases z with ⟨d', v', rfl, rfl, _⟩ | ⟨rfl, rfl⟩
    · exact fin_ok h r (.b _)
    · exact fin_ok h r (.b _)
end Mm
set_option maxRecDepth 100000
/-! o(e) by the class's own __call__. -/
namespace L2
open PySem PySem.Spec PyProof.Rows
section
variable {M : Model} {A : Around} {E : Value → Shared → Prop} {s : Shared}
theorem callWith_inst {pos : Pos} {u : Addr} {env : Env} {e : Expr} {rest : List Expr} {Q : Value → Shared → Prop}
    (h : wpAny M A (spliced (backTo pos (starEach (e :: rest) env))) (fun vs s₁ => (∃ C dx, s₁.heap.get? u = some (PySem.W.instObj C dx)) ∧ wpAny M A (call (.ref u) ([] ++ vs)) Q E s₁) E s)
    (he : starEach (e :: rest) env = (false, eval e env) :: starEach rest env := by rfl) (hplain : (backTo pos (starEach rest env)).any (·.1) = false := by rfl) :
    wpAny M A (callWith pos (.ref u) [] (backTo pos (starEach (e :: rest) env)) []) Q E s := by
  rw [he] at h ⊢
  unfold callWith
  refine wpAny_bind (wpAny_holding (wpAny_mono (Calls.evalArgs_plain (Q := fun a s₁ => (∃ C dx, s₁.heap.get? u = some (PySem.W.instObj C dx)) ∧ wpAny M A (call (.ref u) ([] ++ a.pos) a.kw) Q E s₁) h) (fun a s₁ h₁ => wpAny_bind (wpAny_standAt ?_)) fun _ _ x => x))
  obtain ⟨⟨C, dx, ho⟩, hcall⟩ := h₁
  have hpl : (((false, eval e env) :: backTo pos (starEach rest env)).any (·.1) || ([] : List (Option Str × Sem Value)).any (·.1.isNone)) = false := by
    show ((false || (backTo pos (starEach rest env)).any (·.1)) || false) = false
    rw [hplain]; rfl
  refine wpAny_bind (m := keeperOf (.ref u)) ?_
  unfold keeperOf
  refine wpAny_bind (wpAny_load ho ?_)
  refine wpAny_pure ?_
  refine wpAny_bind ?_
  exact wpAny_mono (wpAny_operateT hcall) (fun r s₂ hr => wpAny_bind (wpAny_holding (wpAny_point (wpAny_pure hr)))) fun _ _ x => x
end
section
variable {prog : Program} {w : World} {A : Around} {s : Shared} {R : Result → Shared → Prop} {K : PySem.W.Frag} {a C dx f : Addr} {od : Option Obj}
theorem call_inst {args : List Value} (X : K.In s.heap) (I : PySem.W.InstAt s.heap a (PySem.W.instObj C dx) C od) (hs : PySem.W.findIn K (.ref C) "__call__" = some (some (.ref f))) (hf : PySem.W.isFn K (.ref f) = true) (hfn : PySem.W.fnIn K f = true)
    (h : codeAny (model prog w) A (.call (.ref f) ⟨.ref a :: args, []⟩) R s) : codeAny (model prog w) A (.call (.ref a) ⟨args, []⟩) R s := by
  refine codeAny_of_tree ?_
  show wpAny _ _ (callAny (.ref a) _) _ _ _
  unfold callAny
  refine wpAny_bind (wpAny_load I.at_ ?_)
  show wpAny _ _ (callAny.viaDunder (.ref a) _) _ _ _
  unfold callAny.viaDunder
  refine wpAny_bind (wpAny_bind (I.type.here ((PySem.W.looks_findIn X hs).here ?_)))
  dsimp only
  refine wpAny_bind ((PySem.W.bind_fn X _ (beq_iff_eq.mp hf)).here ?_)
  dsimp only
  unfold PySem.W.fnIn at hfn
  split at hfn
  · rename_i e
    refine wpAny_bind (m := callAny.plainCallee (.ref f)) ?_
    unfold callAny.plainCallee
    refine wpAny_bind (wpAny_load (X _ _ e) ?_)
    refine wpAny_pure ?_
    rw [if_pos rfl]
    exact wpAny_pure ⟨rfl, h⟩
  · cases hfn
end
section
variable {X : Cx} {CX : CXT} {k n : Nat} {C f : Addr} {fd : FuncData} {ps : List Str} {sp : Sp} {E : St → XK} {x : Str} {p pos : Pos} {e : Expr} {es : List Expr} {ta : TE} {t : TA}
def tCallOwn (C : Addr) (sp : Sp) (E : St → XK) (ta : TE) (t : TA) : TE := fun σ H Q => ta σ H fun x H1 => ∃ a, x = .ref a ∧ t σ H1 fun vs H2 => (∃ dx fs, H2 a = some (.ins C dx fs)) ∧ sp (.ref a :: vs) H2 Q (E σ)
/-- o(e, ..), o a variable -/
theorem pe_callOwn (hn : PE X (.Name x p) ta) (M : OwnM X.K C "__call__" f) (hf : PySem.W.fnIn X.K f = true) (F : FnOk X.prog X.w X.K X.mg X.base CX k f fd ps sp) (hr : Room k X.A) (hb : Binds X.K fd ps []) (hx : ∀ σ, PassesAt CX X σ (E σ))
    (ha : PA X (e :: es) t) (he : starEach (e :: es) X.env = (false, eval e X.env) :: starEach es X.env := by rfl) (hpl : (backTo pos (starEach es X.env)).any (·.1) = false := by rfl) :
    PE X (.Call (.Name x p) (e :: es) [] pos) (tCallOwn C sp E ta t) := by
  refine ⟨fun pins s σ H Q I h => ?_⟩
  refine wpAny_Call_Name_kw (thn (hn.run pins s σ H _ I h) fun u s1 ⟨v, H1, I1, rv, a, ev, q⟩ => ?_)
  subst ev
  obtain rfl : u = Value.ref a := rv
  refine callWith_inst (thn (ha.run pos pins s1 σ H1 _ I1 q) fun us s2 ⟨vs, H2, I2, r, ⟨dx, fs, hp⟩, q2⟩ => ?_) he hpl
  obtain ⟨mA, J, _⟩ := ins_get I2.hok hp
  obtain ⟨od, J', _⟩ := J.look
  refine ⟨⟨C, dx, J'.at_⟩, ?_⟩
  refine wpAny_call (call_inst I2.kIn J' M.at_ M.fn hf ?_)
  have ev := I2.env0
  have hl : (Value.ref a :: us).length = ps.length := by
    have := F.len _ _ _ _ q2
    rw [List.length_cons, ← r.length, ← List.length_cons (a := V.ref a)]; exact this
  have bd := hb s2 (Value.ref a :: us) I2.kIn (by simpa using hl)
  refine codeAny_mono (F.run X.A X.stack s2 H2 ⟨Value.ref a :: us, []⟩ (Value.ref a :: us) (V.ref a :: vs) Q (E σ) hr ev (by simpa using bd) (.cons rfl r) q2) fun res s' hq => ?_
  match res, hq with
  | .error e, hq => exact hx σ pins H2 s2 e s' I2 hq
  | .ok (.ret u), hq => exact I2.after hq
end
end L2
namespace Mm
open PySem L2
section
variable {w : Wn} {W : WX} {σ : St} {c c' : Cn} {H H' : Hp} {n n' : Nat} {S : Sto} {env : Env}
variable {Γ : Cls'} {X : Cx} {e : Expr} {es : List Expr} {mo : EM} {am : AM} {pos p : Pos} {x : Str}
open Classical in
noncomputable def e_cown (tr : TrF) (k : Nat) (m : FM) (mo : EM) (am : AM) : EM := fun env S => (mo env S).bind fun d S1 => .if (isI k d S1) ((am env S1).bind fun ds S2 => .if (isI k d S2) (tr S2 (m (d :: ds) S2)))
open Classical in
theorem c_cown {k lv : Nat} {m : FM} {tr : TrF} (tok : TrOk tr) (G : Dn' X.prog X.w X.K X.mg X.base Γ k "__call__" lv m) (go : Goes X W) (hr : Room lv X.A) (ho : CE Γ X W (.Name x p) mo) (ha : CA Γ X W (e :: es) am)
    (h1 : starEach (e :: es) X.env = (false, eval e X.env) :: starEach es X.env := by rfl) (h2 : (backTo pos (starEach es X.env)).any (·.1) = false := by rfl) :
    CE Γ X W (.Call (.Name x p) (e :: es) [] pos) (e_cown tr k m mo am) := by
  obtain ⟨C, f, fd, ps, gC, M, hf, F, hbi⟩ := G.ex
  refine PE.weak (pe_callOwn (E := fun σ => WE W σ) ho M hf F hr hbi go ha h1 h2) fun σ H Q ⟨c, env, S, r, ev, h⟩ => ?_
  refine ⟨c, env, S, r, ev, (Po.bind h).imp fun v H1 ⟨c1, S1, d1, e1, r1, a1, h1⟩ => ?_⟩
  obtain ⟨⟨ds, hi⟩, h1⟩ := Po.if h1
  obtain ⟨p, vs, C', dx, rfl, g, l, s, t⟩ := insOf_at r1 a1 hi
  rw [gC] at g; cases g
  refine ⟨p, rfl, c1, env, S1, r1, ev.mono e1, (Po.bind h1).imp fun us H2 ⟨c2, S2, es, e2, r2, a2, h2⟩ => ?_⟩
  obtain ⟨⟨ds2, hi2⟩, h2⟩ := Po.if h2
  obtain ⟨p', vs', C', dx', ep, g, l, s', t'⟩ := insOf_at r2 (a1.mono e2) hi2
  rw [gC] at g; cases g; cases ep
  exact ⟨⟨dx', _, s'⟩, c2, S2, d1 :: es, r2, .cons (a1.mono e2) a2, (tok _ _ _ _ _ _ _ _ r2 h2).wish fun _ _ _ z => z⟩
end
end Mm
set_option maxRecDepth 100000
/-! Errors over the plain data: raise, try with named clauses, what a clause reads of its error. -/
namespace Mm
open PySem L2
/-! ## no caught error in a value -/
mutual
def D.nxn : D → Bool
  | .tup ds => nxns ds
  | .ttp ds => nxns ds
  | .lst ds => nxns ds
  | .dic _ ds => nxns ds
  | .obj _ ds => nxns ds
  | .xn _ _ => false
  | _ => true
def nxns : List D → Bool
  | [] => true
  | d :: r => d.nxn && nxns r
end
def SO.nxn : SO → Bool
  | .lst ds => nxns ds
  | .dic _ ds => nxns ds
  | .ins _ ds => nxns ds
def Cls'.on (Γ : Cls') (a dd : Addr) : Cls' := { Γ with ex := some (a, dd) }
section
variable {K : PySem.W.Frag} {Γ Γ' : Cls'} {c : Cn} {H : Hp} {n : Nat}
mutual
theorem At.nxn (hx : Γ.ex = none) : ∀ (d : D) (v : V), At ⟨K, Γ⟩ c H n d v → d.nxn = true
  | .non, v, h => rfl
  | .bl b, v, h => rfl
  | .int i, v, h => rfl
  | .str x, v, h => rfl
  | .tup ds, v, h => by
    unfold At at h; unfold D.nxn
    obtain ⟨a, vs, r, s, t⟩ := h
    exact Ats.nxn hx ds vs t
  | .ttp ds, v, h => by
    unfold At at h; unfold D.nxn
    obtain ⟨a, vs, r, s, t⟩ := h
    exact Ats.nxn hx ds vs t
  | .lst ds, v, h => by
    unfold At at h; unfold D.nxn
    obtain ⟨a, vs, r, f, s, t⟩ := h
    exact Ats.nxn hx ds vs t
  | .dic ks ds, v, h => by
    unfold At at h; unfold D.nxn
    obtain ⟨a, vs, r, f, s, t⟩ := h
    exact Ats.nxn hx ds vs t
  | .obj k ds, v, h => by
    unfold At at h; unfold D.nxn
    obtain ⟨a, vs, C, dx, r, f, g, l, s, t⟩ := h
    exact Ats.nxn hx ds vs t
  | .fz ns, v, h => rfl
  | .loc k, v, h => rfl
  | .oth u, v, h => rfl
  | .xn k ds, v, h => by
    unfold At at h
    obtain ⟨a, dd, C, vs, r, x, _⟩ := h
    rw [show Γ.ex = _ from x] at hx; cases hx
theorem Ats.nxn (hx : Γ.ex = none) : ∀ (ds : List D) (vs : List V), Ats ⟨K, Γ⟩ c H n ds vs → nxns ds = true
  | [], vs, h => rfl
  | d :: ds, vs, h => by
    unfold Ats at h; unfold nxns
    obtain ⟨v, r, e, a, b⟩ := h
    rw [At.nxn hx d v a, Ats.nxn hx ds r b]; rfl
end
mutual
theorem At.sw (e1 : Γ'.at_ = Γ.at_) (e2 : Γ'.fs = Γ.fs) (e3 : Γ'.lk = Γ.lk) : ∀ (d : D) (v : V), d.nxn = true → At ⟨K, Γ⟩ c H n d v → At ⟨K, Γ'⟩ c H n d v
  | .non, v, _, h => h
  | .bl b, v, _, h => h
  | .int i, v, _, h => h
  | .str x, v, _, h => h
  | .tup ds, v, q, h => by
    unfold At at h ⊢; unfold D.nxn at q
    obtain ⟨a, vs, r, s, t⟩ := h
    exact ⟨a, vs, r, s, Ats.sw e1 e2 e3 ds vs q t⟩
  | .ttp ds, v, q, h => by
    unfold At at h ⊢; unfold D.nxn at q
    obtain ⟨a, vs, r, s, t⟩ := h
    exact ⟨a, vs, r, s, Ats.sw e1 e2 e3 ds vs q t⟩
  | .lst ds, v, q, h => by
    unfold At at h ⊢; unfold D.nxn at q
    obtain ⟨a, vs, r, f, s, t⟩ := h
    exact ⟨a, vs, r, f, s, Ats.sw e1 e2 e3 ds vs q t⟩
  | .dic ks ds, v, q, h => by
    unfold At at h ⊢; unfold D.nxn at q
    obtain ⟨a, vs, r, f, s, t⟩ := h
    refine ⟨a, vs, r, f, ?_, Ats.sw e1 e2 e3 ds vs q t⟩
    rcases s with ⟨kk, s⟩ | ⟨kk, s⟩
    · exact .inl ⟨kk, s.1.imp id (fun z => ⟨e3 ▸ z.1, z.2⟩), s.2⟩
    · exact .inr ⟨kk, s.1.imp id (fun z => ⟨e3 ▸ z.1, z.2⟩), s.2⟩
  | .obj k ds, v, q, h => by
    unfold At at h ⊢; unfold D.nxn at q
    obtain ⟨a, vs, C, dx, r, f, g, l, s, t⟩ := h
    refine ⟨a, vs, C, dx, r, f, ?_, ?_, ?_, Ats.sw e1 e2 e3 ds vs q t⟩
    · show Γ'.at_ k = _; rw [e1]; exact g
    · show vs.length ≤ (Γ'.fs k).length; rw [e2]; exact l
    · show H a = some (.ins C dx ((Γ'.fs k).zip vs)); rw [e2]; exact s
  | .fz ns, v, _, h => by
    unfold At at h ⊢
    exact h
  | .loc k, v, _, h => h
  | .oth u, v, _, h => h
  | .xn k ds, v, q, h => by cases q
theorem Ats.sw (e1 : Γ'.at_ = Γ.at_) (e2 : Γ'.fs = Γ.fs) (e3 : Γ'.lk = Γ.lk) : ∀ (ds : List D) (vs : List V), nxns ds = true → Ats ⟨K, Γ⟩ c H n ds vs → Ats ⟨K, Γ'⟩ c H n ds vs
  | [], vs, _, h => h
  | d :: ds, vs, q, h => by
    unfold Ats at h ⊢; unfold nxns at q
    rw [Bool.and_eq_true] at q
    obtain ⟨v, r, e, a, b⟩ := h
    exact ⟨v, r, e, At.sw e1 e2 e3 d v q.1 a, Ats.sw e1 e2 e3 ds r q.2 b⟩
end
theorem OAt.nxn (hx : Γ.ex = none) {a : Addr} : ∀ {o : SO}, OAt ⟨K, Γ⟩ c H n a o → o.nxn = true
  | .lst ds, ⟨vs, g, t⟩ => Ats.nxn hx ds vs t
  | .dic ks ds, ⟨vs, g, t⟩ => Ats.nxn hx ds vs t
  | .ins k ds, ⟨vs, C, dx, g, l, s, t⟩ => Ats.nxn hx ds vs t
theorem OAt.sw (e1 : Γ'.at_ = Γ.at_) (e2 : Γ'.fs = Γ.fs) (e3 : Γ'.lk = Γ.lk) {a : Addr} : ∀ {o : SO}, o.nxn = true → OAt ⟨K, Γ⟩ c H n a o → OAt ⟨K, Γ'⟩ c H n a o
  | .lst ds, q, ⟨vs, g, t⟩ => ⟨vs, g, Ats.sw e1 e2 e3 ds vs q t⟩
  | .dic ks ds, q, ⟨vs, g, t⟩ => ⟨vs, by
    rcases g with ⟨kk, s⟩ | ⟨kk, s⟩
    · exact .inl ⟨kk, s.1.imp id (fun z => ⟨e3 ▸ z.1, z.2⟩), s.2⟩
    · exact .inr ⟨kk, s.1.imp id (fun z => ⟨e3 ▸ z.1, z.2⟩), s.2⟩, Ats.sw e1 e2 e3 ds vs q t⟩
  | .ins k ds, q, ⟨vs, C, dx, g, l, s, t⟩ => ⟨vs, C, dx, by show Γ'.at_ k = _; rw [e1]; exact g, by show vs.length ≤ (Γ'.fs k).length; rw [e2]; exact l, by show H a = Option.some (HO.ins C dx ((Γ'.fs k).zip vs)); rw [e2]; exact s, Ats.sw e1 e2 e3 ds vs q t⟩
theorem Rep.sw (e1 : Γ'.at_ = Γ.at_) (e2 : Γ'.fs = Γ.fs) (e3 : Γ'.lk = Γ.lk) {S : Sto} (q : ∀ o ∈ S, o.nxn = true) (r : Rep ⟨K, Γ⟩ c H S) : Rep ⟨K, Γ'⟩ c H S :=
  ⟨fun k o h => (r.obj k o h).sw e1 e2 e3 (q o (List.mem_of_getElem? h)), r.inj, r.live, r.fro⟩
theorem Rep.nxn (hx : Γ.ex = none) {S : Sto} (r : Rep ⟨K, Γ⟩ c H S) : ∀ o ∈ S, o.nxn = true := fun o h => by
  obtain ⟨k, hk⟩ := List.getElem?_of_mem h
  exact (r.obj k o hk).nxn hx
end
/-! ## raise -/
/-- the error class k with the one field f -/
structure Xk (P : Program) (wd : World) (K : PySem.W.Frag) (mg : Str → Option Value) (base : Heap) (Γ : Cls') (k : Nat) (nm f : Str) : Prop where
  ex : ∃ (C fI : Addr) (fd : FuncData), Γ.at_ k = some C ∧ Γ.fs k = [f] ∧ Ecl K mg nm f C fI ∧ FnOk P wd K mg base CX0 1 fI fd ["self", f] (spEI C f) ∧ Binds K fd ["self", f] []
def s_raise1 (k : Nat) (m : EM) : SM := fun env S => (m env S).toS env fun d S1 => .ex ⟨k, [d]⟩ env S1
@[simp] theorem s_raise1_eq (k : Nat) (m : EM) (env : Env) (S : Sto) : s_raise1 k m env S = (m env S).toS env fun d S1 => .ex ⟨k, [d]⟩ env S1 := rfl
section
variable {w : Wn} {W : WX} {σ : St} {c c' : Cn} {H H' : Hp} {n n' : Nat} {S : Sto} {env : Env}
variable {Γ : Cls'} {X : Cx} {e : Expr} {ma : EM} {pos p ppos p' : Pos} {nm f : Str} {k : Nat}
theorem c_raise1 (T : Xk X.prog X.w X.K X.mg X.base Γ k nm f) (hc : X.calm = true) (tk : Takes X W) (hr : Room 2 X.A) (hg : Gl X nm) (he : CE Γ X W e ma) (hdb : (nm == ("__debug__" : Str)) = false := by decide)
    (hst : starEach [e] X.env = [(false, eval e X.env)] := by rfl) : CS Γ X W (.Raise (some (.Call (.Name nm p) [e] [] pos)) none ppos) (s_raise1 k ma) := by
  obtain ⟨C, fI, fd, gC, fC, E, F1, hb⟩ := T.ex
  refine PS.weak (ps_raise1 (ta := tCons (mE ⟨X.K, Γ⟩ W ma) tNil) hc tk E F1 hr hb hg (pa_cons he pa_nil hst) hdb hst rfl) fun Dn σ H ⟨c, env, S, r, ev, h⟩ => ?_
  refine ⟨c, env, S, r, ev, (PoS.part ev h).imp fun v H1 ⟨c1, S1, d1, e1, r1, a1, ev1, h1⟩ => ?_⟩
  refine (made1 (C := C) (f := f) (v := v) (H1 := H1) (Q := fun cls d H' => W cls d σ H') fun d hd => ?_ :)
  refine h1 c1 _ σ _ _ (Ext.grow hd) (r1.grow hd) (ev1.mono (Ext.grow hd)) ⟨C, d, [v], gC, rfl, rfl, ?_, ?_, .one (a1.mono (Ext.grow hd))⟩
  · show 1 ≤ (Γ.fs k).length; rw [fC]; exact Nat.le_refl 1
  · show _ = some (HO.xd ((Γ.fs k).zip [v])); rw [fC, upd_same]; rfl
/-! ## what a clause reads of its error -/
def e_xf (k : Nat) (m : EM) : EM := fun env S => (m env S).bind fun d S1 => match d with
  | .xn j ds => .if (j = k) (.ofO ds[0]? S1)
  | _ => .bad
theorem e_xf_eq (k : Nat) (m : EM) (env : Env) (S : Sto) : e_xf k m env S = (m env S).bind fun d S1 => match d with
  | .xn j ds => .if (j = k) (.ofO ds[0]? S1)
  | _ => .bad := rfl
theorem c_xf {a dd C : Addr} {oe : Obj} {pn : List (Addr × Obj)} (T : Xk X.prog X.w X.K X.mg X.base Γ k nm f) (gC : Γ.at_ k = some C) (hz : Zc (.ref C) (some dd) oe) (hf : ∃ vs, oe.data = .fields vs) (he : CE (Γ.on a dd) (X.suite a ((a, oe) :: pn)) W e ma) (hb : attributeBase e f X.env (eval e X.env) = eval e X.env := by rfl) :
    CE (Γ.on a dd) (X.suite a ((a, oe) :: pn)) W (.Attribute e f pos) (e_xf k ma) := by
  obtain ⟨C', fI, fd, gC', fC, E, F1, hb1⟩ := T.ex
  rw [gC] at gC'; cases gC'
  refine PE.weak (pe_xf E.xf E.noF hz hf he hb) fun σ H Q ⟨c, env, S, r, ev, h⟩ => ?_
  refine ⟨c, env, S, r, ev, (Po.bind h).imp fun v H1 ⟨c1, S1, d1, e1, r1, a1, h1⟩ => ?_⟩
  cases d1 with
  | xn j ds =>
    obtain ⟨hj, h2⟩ := Po.if h1
    obtain ⟨x, hx, h3⟩ := Po.ofO h2
    subst hj
    unfold At at a1
    obtain ⟨a', dd', C', vs, rfl, ex, g, l, s, t⟩ := a1
    have ex' : some (a, dd) = some (a', dd') := ex
    injection ex' with ex'
    injection ex' with ea ed
    subst ea; subst ed
    have fs : (Γ.on a dd).fs j = [f] := fC
    obtain ⟨v0, hv0, av⟩ := t.get hx
    have s' : H1 dd = some (.xd (([f] : List Str).zip vs)) := by rw [← fs]; exact s
    refine ⟨rfl, rfl, dd, _, v0, rfl, s', ?_, fin_ok h3 r1 av⟩
    cases vs with
    | nil => cases hv0
    | cons u r => cases hv0; rw [List.zip_cons_cons, List.lookup_cons_self]
  | _ => exact h1.elim
/-- isinstance(e, C2), e the caught error -/
def e_xis (k : Nat) (b : Bool) (m : EM) : EM := fun env S => (m env S).bind fun d S1 => match d with
  | .xn j _ => .if (j = k) (.ok (.bl b) S1)
  | _ => .bad
theorem e_xis_eq (k : Nat) (b : Bool) (m : EM) (env : Env) (S : Sto) : e_xis k b m env S = (m env S).bind fun d S1 => match d with
  | .xn j _ => .if (j = k) (.ok (.bl b) S1)
  | _ => .bad := rfl
/-- the class nm2 stands under its name; instances of the class k: b -/
def XisOk (K : PySem.W.Frag) (Γ : Cls') (mg : Str → Option Value) (k : Nat) (nm2 : Str) (b : Bool) : Prop := ∃ (cv : Value) (v2 : V), ((mg nm2 = some cv) ∨ (mg nm2 = none ∧ bootBuiltins nm2 = some cv ∧ nm2 ≠ "__name__")) ∧ RelV v2 cv ∧ (∀ u, RelV v2 u → u = cv) ∧ ∀ C, Γ.at_ k = some C → PySem.W.kitOne K (.ref C) cv = some b
theorem c_xis {a dd C : Addr} {oe : Obj} {pn : List (Addr × Obj)} {nm2 : Str} {b : Bool} {p1 p2 : Pos} (T : Xk X.prog X.w X.K X.mg X.base Γ k nm f) (gC : Γ.at_ k = some C) (hz : Zc (.ref C) (some dd) oe) (hf : ∃ vs, oe.data = .fields vs) (hi : X.mg "isinstance" = none) (hgi : Gl X "isinstance") (G2 : XisOk X.K Γ X.mg k nm2 b) (hg2 : Gl X nm2) (he : CE (Γ.on a dd) (X.suite a ((a, oe) :: pn)) W e ma)
    (hd2 : (nm2 == ("__debug__" : Str)) = false := by decide) (hst : starEach [e, .Name nm2 p2] X.env = (false, eval e X.env) :: starEach [.Name nm2 p2] X.env := by rfl) :
    CE (Γ.on a dd) (X.suite a ((a, oe) :: pn)) W (.Call (.Name "isinstance" p1) [e, .Name nm2 p2] [] pos) (e_xis k b ma) := by
  obtain ⟨C', fI, fd, gC', fC, E, F1, hb1⟩ := T.ex
  rw [gC] at gC'; cases gC'
  obtain ⟨cv, v2, hm, rv, un, kit⟩ := G2
  have p2' : PE (X.suite a ((a, oe) :: pn)) (.Name nm2 p2) (tC v2) := by
    rcases hm with hm | ⟨hm, hv, hn⟩
    · exact pe_glob hg2 hm rv hd2
    · exact pe_bltn hg2 hm hv rv hn hd2
  refine PE.weak (pe_callB (X := X.suite a ((a, oe) :: pn)) (call_isX E hz hf) hgi hi (by decide +kernel) (pa_cons he (pa_cons p2' pa_nil) hst) (by decide) (by decide) hst rfl) fun σ H Q ⟨c, env, S, r, ev, h⟩ => ?_
  refine ⟨c, env, S, r, ev, (Po.bind h).imp fun v H1 ⟨c1, S1, d1, e1, r1, a1, h1⟩ => ?_⟩
  cases d1 with
  | xn j ds =>
    obtain ⟨hj, h2⟩ := Po.if h1
    subst hj
    unfold At at a1
    obtain ⟨a', dd', C', vs, rfl, ex, g, l, s, t⟩ := a1
    have ex' : some (a, dd) = some (a', dd') := ex
    injection ex' with ex'
    injection ex' with ea ed
    subst ea; subst ed
    exact ⟨v2, cv, b, dd, _, rfl, rfl, s, rfl, un, kit C gC, fin_ok h2 r1 (.b b)⟩
  | _ => exact h1.elim
/-! ## try with named clauses -/
structure Clm where
  /-- the one class that comes here -/
  k : Nat
  /-- of an error of a class: whether the clause takes it -/
  mt : Nat → Option Bool
  i : Nat
  h : SM
open Classical in
noncomputable def endH (i : Nat) (S : Sto) (r : RS) : RS := match r with
  | .next env S' => .if (S' = S ∧ ∀ d, some d ∈ env.set i none → d.nxn = true) (.next (env.set i none) S')
  | .brk env S' => .if (S' = S ∧ ∀ d, some d ∈ env.set i none → d.nxn = true) (.brk (env.set i none) S')
  | .cnt env S' => .if (S' = S ∧ ∀ d, some d ∈ env.set i none → d.nxn = true) (.cnt (env.set i none) S')
  | .ret d S' => .if (S' = S ∧ d.nxn = true) (.ret d S')
  | _ => .bad
noncomputable def runCl (x : Exn) (env : Env) (S : Sto) : List Clm → RS
  | [] => .bad
  | q :: r => match q.mt x.c with
    | some true => .if (x.c = q.k) (endH q.i S (q.h (env.set q.i (some (.xn x.c x.ds))) S))
    | some false => runCl x env S r
    | none => .bad
noncomputable def s_try (b : SM) (l : List Clm) : SM := fun env S => match b env S with
  | .ex x env1 S1 => runCl x env1 S1 l
  | r => r
theorem EnvR.sw {K : PySem.W.Frag} {Γ Γ' : Cls'} (e1 : Γ'.at_ = Γ.at_) (e2 : Γ'.fs = Γ.fs) (e3 : Γ'.lk = Γ.lk) (q : ∀ d, some d ∈ env → d.nxn = true) (h : EnvR ⟨K, Γ⟩ c H n σ env) : EnvR ⟨K, Γ'⟩ c H n σ env := ⟨h.1, fun i d hd => by
  obtain ⟨v, hv, av⟩ := h.2 i d hd
  exact ⟨v, hv, At.sw e1 e2 e3 d v (q d (List.mem_of_getElem? hd)) av⟩⟩
theorem EnvR.nxn {K : PySem.W.Frag} (hx : Γ.ex = Option.none) (h : EnvR ⟨K, Γ⟩ c H n σ env) : ∀ d, some d ∈ env → d.nxn = true := fun d hd => by
  obtain ⟨i, hi⟩ := List.getElem?_of_mem hd
  obtain ⟨v, hv, av⟩ := h.2 i d hi
  exact At.nxn hx d v av
theorem EnvR.gone {w : Wn} {i : Nat} (h : EnvR w c H n σ env) : EnvR w c H n (σ.set i Option.none) (env.set i Option.none) := by
  refine ⟨by rw [List.length_set, List.length_set]; exact h.1, fun j d q => ?_⟩
  by_cases e : i = j
  · subst e
    by_cases hl : i < env.length
    · rw [List.getElem?_set_self hl] at q; cases q
    · rw [List.getElem?_eq_none (by rw [List.length_set]; omega)] at q; cases q
  · rw [List.getElem?_set_ne e] at q ⊢
    exact h.2 j d q
open Classical in
/-- a clause's suite, seen from within -/
theorem end_read {K : PySem.W.Frag} (hx : Γ.ex = none) {a dd : Addr} {i : Nat} {r : RS} {Dn : Ends} (rp : Rep ⟨K, Γ⟩ c H S) (h : PoS ⟨K, Γ⟩ W c H S.length (endH i S r) Dn) : PoS ⟨K, Γ.on a dd⟩ (fun _ _ _ _ => False) c H S.length r (Dn.gone i) := by
  have nS := rp.nxn hx
  cases r with
  | next env2 S2 =>
    obtain ⟨⟨eS, q⟩, h⟩ := PoS.if h
    subst eS
    exact fun c2 H2 σ2 e2 r2 ev2 => h c2 H2 _ e2 (r2.sw (Γ := Γ.on a dd) (Γ' := Γ) rfl rfl rfl nS) (ev2.gone.sw (Γ := Γ.on a dd) (Γ' := Γ) rfl rfl rfl q)
  | brk env2 S2 =>
    obtain ⟨⟨eS, q⟩, h⟩ := PoS.if h
    subst eS
    exact fun c2 H2 σ2 e2 r2 ev2 => h c2 H2 _ e2 (r2.sw (Γ := Γ.on a dd) (Γ' := Γ) rfl rfl rfl nS) (ev2.gone.sw (Γ := Γ.on a dd) (Γ' := Γ) rfl rfl rfl q)
  | cnt env2 S2 =>
    obtain ⟨⟨eS, q⟩, h⟩ := PoS.if h
    subst eS
    exact fun c2 H2 σ2 e2 r2 ev2 => h c2 H2 _ e2 (r2.sw (Γ := Γ.on a dd) (Γ' := Γ) rfl rfl rfl nS) (ev2.gone.sw (Γ := Γ.on a dd) (Γ' := Γ) rfl rfl rfl q)
  | ret d S2 =>
    obtain ⟨⟨eS, q⟩, h⟩ := PoS.if h
    subst eS
    exact fun c2 H2 v e2 r2 a2 => h c2 H2 v e2 (r2.sw (Γ := Γ.on a dd) (Γ' := Γ) rfl rfl rfl nS) (At.sw (Γ := Γ.on a dd) (Γ' := Γ) rfl rfl rfl d v q a2)
  | ex x env S2 => exact h.elim
  | bad => exact h.elim
/-- the clauses of a try -/
inductive CH (Γ : Cls') (X : Cx) : List ExceptHandler → List Clm → Prop
  | nil : CH Γ X [] []
  | cons {nm n : Str} {q : Clm} {C0 : Addr} {b : Stmt} {bs : List Stmt} {p p' : Pos} {hs : List ExceptHandler} {l : List Clm} (hN : Names X nm (.ref C0)) (hm : ∀ k b C, Γ.at_ k = some C → q.mt k = some b → PySem.W.exmOne X.K (.ref C) (.ref C0) = some b) (hi : X.N[q.i]? = some n) (hl : X.env.kindOf n = some .local)
      (hh : ∀ (a dd C : Addr) (oe : Obj) (pn : List (Addr × Obj)), Γ.at_ q.k = some C → Zc (.ref C) (some dd) oe → (∃ vs, oe.data = .fields vs) → CSs (Γ.on a dd) (X.suite a ((a, oe) :: pn)) (fun _ _ _ _ => False) (b :: bs) q.h) (r : CH Γ X hs l) :
      CH Γ X (.ExceptHandler (some (.Name nm p)) (some n) (b :: bs) p' :: hs) (q :: l)
open Classical in
/-- what stands for the clauses below -/
theorem CH.cl {hs : List ExceptHandler} {l : List Clm} (h : CH Γ X hs l) (hx : Γ.ex = none) : ∃ L : List Cl, ClOk X hs L ∧ ∀ (Dn : Ends) (x : Exn) (c : Cn) (H : Hp) (S : Sto) (env : Env) (σ : St) (cv : Value) (d : Option Addr), Rep ⟨X.K, Γ⟩ c H S → EnvR ⟨X.K, Γ⟩ c H S.length σ env → XAt ⟨X.K, Γ⟩ c H S.length x cv d → PoS ⟨X.K, Γ⟩ W c H S.length (runCl x env S l) Dn → wCl X.K Dn L cv d σ H := by
  induction h with
  | nil => exact ⟨[], .nil, fun Dn x c H S env σ cv d r ev xa h => h.elim⟩
  | @cons nm n q C0 b bs p p' hs l hN hm hi hl hh r ih =>
    obtain ⟨L, ok, go⟩ := ih
    refine ⟨(.ref C0, q.i, fun a cls d => fun Dn σ H => ∃ C dd, cls = .ref C ∧ d = some dd ∧ Γ.at_ q.k = some C ∧ mS ⟨X.K, Γ.on a dd⟩ (fun _ _ _ _ => False) q.h Dn σ H) :: L, .cons hN hi hl (fun a oe cls d pn hz hf => ⟨fun pins s σ H D I ⟨C, dd, e1, e2, g, h⟩ => ?_⟩) ok, fun Dn x c H S env σ cv d rp ev xa h => ?_⟩
    · subst e1; subst e2
      exact (hh a dd C oe pn g hz hf).run pins s σ H D I h
    · unfold runCl at h
      obtain ⟨C, dd, vs, g, e1, e2, l1, s, t⟩ := xa
      subst e1; subst e2
      cases hq : q.mt x.c with
      | none => rw [hq] at h; exact h.elim
      | some bb =>
        rw [hq] at h
        cases bb with
        | true =>
          obtain ⟨ek, h⟩ := PoS.if h
          refine .inl ⟨hm _ _ _ g hq, fun a ha => ⟨C, dd, rfl, rfl, by rw [← ek]; exact g, c, _, S, rp.sw (Γ := Γ) (Γ' := Γ.on a dd) rfl rfl rfl (rp.nxn hx), ?_, end_read hx rp h⟩⟩
          refine (ev.sw (Γ := Γ) (Γ' := Γ.on a dd) rfl rfl rfl (ev.nxn hx)).set ?_
          unfold At
          exact ⟨a, dd, C, vs, rfl, rfl, g, l1, s, Ats.sw (Γ := Γ) (Γ' := Γ.on a dd) rfl rfl rfl _ _ (Ats.nxn hx _ _ t) t⟩
        | false => exact .inr ⟨hm _ _ _ g hq, go Dn x c H S env σ _ _ rp ev ⟨C, dd, vs, g, rfl, rfl, l1, s, t⟩ h⟩
theorem c_try {body : List Stmt} {h0 : ExceptHandler} {hs : List ExceptHandler} {b : SM} {l : List Clm} (hx : Γ.ex = none) (st : X.stack = X.env :: X.outer) (hf : X.env.frame = some X.env.locals) (nd : X.N.Nodup)
    (hb : ∀ (W : WX) (pn : List (Addr × Obj)) (xe : Value → Shared → Prop), Takes (X.tr pn xe) W → PassesOwn (model X.prog X.w) X.A X.env xe → CSs Γ (X.tr pn xe) W body b) (hh : CH Γ X (h0 :: hs) l) : CS Γ X W (.Try body (h0 :: hs) [] [] pos) (s_try b l) := by
  obtain ⟨L, ok, go⟩ := hh.cl (W := W) hx
  refine PS.weak (ps_try_cl (tb := fun W' => mS ⟨X.K, Γ⟩ W' b) st hf nd hb ok) fun Dn σ H ⟨c, env, S, r, ev, h⟩ => ?_
  refine ⟨c, env, S, r, ev, ?_⟩
  unfold s_try at h
  cases hm : b env S with
  | ex x env1 S1 =>
    rw [hm] at h
    exact fun c2 H2 σ2 C dd e2 r2 ev2 xa => go Dn x c2 H2 S1 env1 σ2 C dd r2 ev2 xa (PoS.mono e2 h)
  | next env1 S1 => rw [hm] at h; exact h
  | ret d S1 => rw [hm] at h; exact h
  | brk env1 S1 => rw [hm] at h; exact h
  | cnt env1 S1 => rw [hm] at h; exact h
  | bad => rw [hm] at h; exact h.elim
/-! ## except C: without a name -/
def s_tryO (mt : Nat → Option Bool) (b hm : SM) : SM := fun env S => match b env S with
  | .ex x env1 S1 => match mt x.c with
    | some true => hm env1 S1
    | _ => .bad
  | r => r
theorem c_tryO {body bs : List Stmt} {b0 : Stmt} {C0 : Addr} {b h : SM} {mt : Nat → Option Bool} {np : Pos} (st : X.stack = X.env :: X.outer) (hf : X.env.frame = some X.env.locals) (hN : Names X nm (.ref C0)) (hm : ∀ k b C, Γ.at_ k = some C → mt k = some b → PySem.W.exmOne X.K (.ref C) (.ref C0) = some b) (tk : Takes X (fun _ _ _ _ => False))
    (hb : ∀ (W : WX) (pn : List (Addr × Obj)) (xe : Value → Shared → Prop), Takes (X.tr pn xe) W → PassesOwn (model X.prog X.w) X.A X.env xe → CSs Γ (X.tr pn xe) W body b)
    (hh : ∀ (a : Addr) (oe : Obj) (pn : List (Addr × Obj)), CSs Γ (X.suite a ((a, oe) :: pn)) W (b0 :: bs) h) : CS Γ X W (.Try body [.ExceptHandler (some (.Name nm np)) none (b0 :: bs) p'] [] [] pos) (s_tryO mt b h) := by
  refine PS.weak (ps_try_only (tb := fun W' => mS ⟨X.K, Γ⟩ W' b) (ts := fun _ _ _ => mS ⟨X.K, Γ⟩ W h) (Wout := fun _ _ _ _ => False) st hf hN tk hb (fun a oe cls d pn _ _ => hh a oe pn)) fun Dn σ H ⟨c, env, S, r, ev, q⟩ => ?_
  refine ⟨c, env, S, r, ev, ?_⟩
  unfold s_tryO at q
  cases he : b env S with
  | ex x env1 S1 =>
    rw [he] at q
    intro c2 H2 σ2 C dd e2 r2 ev2 ⟨C', dd', vs, g, e1, e3, _⟩
    subst e1
    cases hq : mt x.c with
    | none => simp only [hq] at q; exact q.elim
    | some bb =>
      cases bb with
      | false => simp only [hq] at q; exact q.elim
      | true =>
        simp only [hq] at q
        exact ⟨true, hm _ _ _ g hq, fun _ a ha => ⟨c2, env1, S1, r2, ev2, PoS.mono e2 q⟩, fun z => nomatch z⟩
  | next env1 S1 => rw [he] at q; exact q
  | ret d S1 => rw [he] at q; exact q
  | brk env1 S1 => rw [he] at q; exact q
  | cnt env1 S1 => rw [he] at q; exact q
  | bad => rw [he] at q; exact q.elim
end
end Mm
namespace Mm
open PySem L2
section
variable {W : WX} {Γ : Cls'} {X : Cx} {pos p p' : Pos} {nm n : Str}
/-- the class nm stands under its name; mt: of the errors of the classes, which it takes -/
def MtOk (K : PySem.W.Frag) (Γ : Cls') (mg : Str → Option Value) (nm : Str) (mt : Nat → Option Bool) : Prop := ∃ C0, mg nm = some (.ref C0) ∧ ∀ k b C, Γ.at_ k = some C → mt k = some b → PySem.W.exmOne K (.ref C) (.ref C0) = some b
theorem CHc {q : Clm} {b : Stmt} {bs : List Stmt} {hs : List ExceptHandler} {l : List Clm} (M : MtOk X.K Γ X.mg nm q.mt) (hg : Gl X nm) (hi : X.N[q.i]? = some n) (hl : X.env.kindOf n = some .local)
    (hh : ∀ (a dd C : Addr) (oe : Obj) (pn : List (Addr × Obj)), Γ.at_ q.k = some C → Zc (.ref C) (some dd) oe → (∃ vs, oe.data = .fields vs) → CSs (Γ.on a dd) (X.suite a ((a, oe) :: pn)) (fun _ _ _ _ => False) (b :: bs) q.h) (r : CH Γ X hs l) (hd : (nm == ("__debug__" : Str)) = false := by decide) :
    CH Γ X (.ExceptHandler (some (.Name nm p)) (some n) (b :: bs) p' :: hs) (q :: l) := by
  obtain ⟨C0, hm, hx⟩ := M
  exact .cons ⟨hg, hd, .inl hm⟩ hx hi hl hh r
theorem c_tryO' {body bs : List Stmt} {b0 : Stmt} {b h : SM} {mt : Nat → Option Bool} {np : Pos} (st : X.stack = X.env :: X.outer) (hf : X.env.frame = some X.env.locals) (M : MtOk X.K Γ X.mg nm mt) (hg : Gl X nm)
    (hb : ∀ (W : WX) (pn : List (Addr × Obj)) (xe : Value → Shared → Prop), Takes (X.tr pn xe) W → PassesOwn (model X.prog X.w) X.A X.env xe → CSs Γ (X.tr pn xe) W body b)
    (hh : ∀ (a : Addr) (oe : Obj) (pn : List (Addr × Obj)), CSs Γ (X.suite a ((a, oe) :: pn)) W (b0 :: bs) h) (hd : (nm == ("__debug__" : Str)) = false := by decide) : CS Γ X W (.Try body [.ExceptHandler (some (.Name nm np)) none (b0 :: bs) p'] [] [] pos) (s_tryO mt b h) := by
  obtain ⟨C0, hm, hx⟩ := M
  exact c_tryO st hf ⟨hg, hd, .inl hm⟩ hx takes0 hb hh
end
end Mm
set_option maxRecDepth 100000
/-! == of two empty dicts too -/
namespace Mm
open PySem L2
section
variable {w : Wn} {W : WX} {σ : St} {c c' : Cn} {H H' : Hp} {n n' : Nat} {S : Sto} {env : Env}
variable {Γ : Cls'} {X : Cx}
/-- room enough for ==, in a clause's suite too -/
theorem huS {k : Nat} {A A' : Around} (hr : Room k A) (h : A'.units = A.units := by rfl) : A'.units + 64 < cLine := by rw [h]; exact hu64 hr
def emptyD (S : Sto) (d : D) : Bool := match dicOf S d with
  | some ([], []) => true
  | _ => false
def eqZ (x y : D) (S : Sto) : R D := if emptyD S x && emptyD S y then .ok (.bl true) S else eqD false x y S
def rEqZ (K : PySem.W.Frag) : R2 := fun x y H Q => rEq2 K x y H Q ∨ rEqV K x y H Q
theorem op_eqZ (hu : X.A.units + 64 < cLine) : OpR X (compareOp .Eq) (rEqZ X.K) := (op_eq2 hu).or (op_eqV hu)
theorem empty_at {w : Wn} {x : D} {v : V} (lk : w.Γ.lk = none) (h : emptyD S x = true) (r : Rep w c H S) (a : At w c H S.length x v) : ∃ p, v = .ref p ∧ H p = some (.dK []) := by
  unfold emptyD at h
  split at h
  · rename_i hd
    obtain ⟨p, vs, rfl, t, g⟩ := dicOf_at (w := w) (ks := []) (ds := []) r a hd
    rw [t.unnil] at g
    rcases g with ⟨kk, h1, h2, h3⟩ | ⟨kk, h1, h2, h3⟩
    · have : kk = [] := by cases kk with
        | nil => rfl
        | cons a b => cases h2
      subst this
      exact ⟨p, rfl, h1.ex lk⟩
    · cases h3
  · cases h
theorem g_eqZ (lk : Γ.lk = none) : GOp Γ X eqZ (rEqZ X.K) := by
  intro W σ c H S x y v u Q r a b h
  unfold eqZ at h
  split at h
  · rename_i hb
    rw [Bool.and_eq_true] at hb
    obtain ⟨p, rfl, hp⟩ := empty_at lk hb.1 r a
    obtain ⟨q, rfl, hq⟩ := empty_at lk hb.2 r b
    exact .inr ⟨1, by decide, .inr ⟨p, q, [], [], rfl, rfl, hp, hq, rfl, fun p hp => nomatch hp⟩, fin_ok h r (.b true)⟩
  · exact .inl (g_eq W σ c H S x y v u Q r a b h)
end
end Mm
set_option maxRecDepth 100000
/-! behind a call whose answer is a list that is changed later: that list stays in the store, what stands in it does not change any more -/
namespace Mm
open PySem L2
section
variable {w : Wn} {W : WX} {σ : St} {c c' : Cn} {H H' : Hp} {n n' : Nat} {S : Sto} {env : Env}
/-- the places from n on but kx are not changed any more -/
def Cn.cutK (c : Cn) (n n' kx : Nat) : Cn := { c with F := fun a => c.F a ∨ ∃ k, n ≤ k ∧ k < n' ∧ k ≠ kx ∧ c.ρ k = a }
/-- and kx comes to stand at n -/
def Cn.cutN (c : Cn) (n n' kx : Nat) : Cn := { c.cutK n n' kx with ρ := fun k => if k = n then c.ρ kx else c.ρ k }
theorem rsv_loop {n kx : Nat} (hl : kx < S.length) (hk : ¬ kx < n) : ∀ (f : Nat) (d' : D), ((rsvs n (S.set kx (.lst [.loc kx])) f [.loc kx]).map D.lst) = some d' → False := by
  intro f
  induction f with
  | zero =>
    intro d' h
    unfold rsvs rsv at h
    simp at h
  | succ f ih =>
    intro d' h
    unfold rsvs rsv at h
    rw [if_neg hk, List.getElem?_set_self hl] at h
    dsimp only at h
    cases hd : (rsvs n (S.set kx (.lst [.loc kx])) f [.loc kx]).map D.lst with
    | none => rw [hd] at h; simp at h
    | some d => exact ih d hd
mutual
theorem At.fcutK {m kx : Nat} : ∀ (d : D) (v : V), At w c H n' d v → d.lo m = true → At w (c.cutK m n' kx) H m d v
  | .non, v, h, _ => h
  | .bl b, v, h, _ => h
  | .int i, v, h, _ => h
  | .str x, v, h, _ => h
  | .tup ds, v, h, q => by
    unfold At at h ⊢; unfold D.lo at q
    obtain ⟨a, vs, r, s, t⟩ := h
    exact ⟨a, vs, r, s, Ats.fcutK ds vs t q⟩
  | .ttp ds, v, h, q => by
    unfold At at h ⊢; unfold D.lo at q
    obtain ⟨a, vs, r, s, t⟩ := h
    exact ⟨a, vs, r, s, Ats.fcutK ds vs t q⟩
  | .lst ds, v, h, q => by
    unfold At at h ⊢; unfold D.lo at q
    obtain ⟨a, vs, r, f, s, t⟩ := h
    exact ⟨a, vs, r, .inl f, s, Ats.fcutK ds vs t q⟩
  | .dic ks ds, v, h, q => by
    unfold At at h ⊢; unfold D.lo at q
    obtain ⟨a, vs, r, f, s, t⟩ := h
    exact ⟨a, vs, r, .inl f, s, Ats.fcutK ds vs t q⟩
  | .obj k ds, v, h, q => by
    unfold At at h ⊢; unfold D.lo at q
    obtain ⟨a, vs, C, dx, r, f, g, l, s, t⟩ := h
    exact ⟨a, vs, C, dx, r, .inl f, g, l, s, Ats.fcutK ds vs t q⟩
  | .fz ns, v, h, q => by
    unfold At at h ⊢
    exact h
  | .loc k, v, h, q => by
    unfold At at h ⊢; unfold D.lo at q
    exact ⟨of_decide_eq_true q, h.2⟩
  | .oth u, v, h, _ => h
  | .xn k ds, v, h, q => by
    unfold At at h ⊢; unfold D.lo at q
    obtain ⟨a, dd, C, vs, r, x, g, l, s, t⟩ := h
    exact ⟨a, dd, C, vs, r, x, g, l, s, Ats.fcutK ds vs t q⟩
theorem Ats.fcutK {m kx : Nat} : ∀ (ds : List D) (vs : List V), Ats w c H n' ds vs → los m ds = true → Ats w (c.cutK m n' kx) H m ds vs
  | [], vs, h, q => h
  | d :: ds, vs, h, q => by
    unfold Ats at h ⊢; unfold los at q
    rw [Bool.and_eq_true] at q
    obtain ⟨v, r, e, a, b⟩ := h
    exact ⟨v, r, e, At.fcutK d v a q.1, Ats.fcutK ds r b q.2⟩
end
mutual
theorem rsvK_at {m kx : Nat} (r : Rep w c H S) : ∀ (f : Nat) (d d' : D) (v : V), At w c H S.length d v → rsv m (S.set kx (.lst [.loc kx])) f d = some d' → At w (c.cutK m S.length kx) H m d' v
  | 0, d, d', v, h, q => by unfold rsv at q; cases q
  | f + 1, .non, d', v, h, q => by unfold rsv at q; cases q; exact h
  | f + 1, .bl b, d', v, h, q => by unfold rsv at q; cases q; exact h
  | f + 1, .int i, d', v, h, q => by unfold rsv at q; cases q; exact h
  | f + 1, .str x, d', v, h, q => by unfold rsv at q; cases q; exact h
  | f + 1, .oth u, d', v, h, q => by unfold rsv at q; cases q; exact h
  | f + 1, .xn k ds, d', v, h, q => by
    unfold rsv at q; unfold At at h
    obtain ⟨a, dd, C, vs, e, x, g, l, s, t⟩ := h
    cases hd : rsvs m (S.set kx (.lst [.loc kx])) f ds with
    | none => rw [hd] at q; cases q
    | some es =>
      rw [hd] at q; cases q
      unfold At
      exact ⟨a, dd, C, vs, e, x, g, l, s, rsvsK_at r f ds es vs t hd⟩
  | f + 1, .fz ns, d', v, h, q => by
    unfold rsv at q; cases q
    unfold At at h ⊢
    exact h
  | f + 1, .tup ds, d', v, h, q => by
    unfold rsv at q; unfold At at h
    obtain ⟨a, vs, e, s, t⟩ := h
    cases hd : rsvs m (S.set kx (.lst [.loc kx])) f ds with
    | none => rw [hd] at q; cases q
    | some es =>
      rw [hd] at q; cases q
      unfold At
      exact ⟨a, vs, e, s, rsvsK_at r f ds es vs t hd⟩
  | f + 1, .ttp ds, d', v, h, q => by
    unfold rsv at q; unfold At at h
    obtain ⟨a, vs, e, s, t⟩ := h
    cases hd : rsvs m (S.set kx (.lst [.loc kx])) f ds with
    | none => rw [hd] at q; cases q
    | some es =>
      rw [hd] at q; cases q
      unfold At
      exact ⟨a, vs, e, s, rsvsK_at r f ds es vs t hd⟩
  | f + 1, .lst ds, d', v, h, q => by
    unfold rsv at q; unfold At at h
    obtain ⟨a, vs, e, g, s, t⟩ := h
    cases hd : rsvs m (S.set kx (.lst [.loc kx])) f ds with
    | none => rw [hd] at q; cases q
    | some es =>
      rw [hd] at q; cases q
      unfold At
      exact ⟨a, vs, e, .inl g, s, rsvsK_at r f ds es vs t hd⟩
  | f + 1, .dic ks ds, d', v, h, q => by
    unfold rsv at q; unfold At at h
    obtain ⟨a, vs, e, g, s, t⟩ := h
    cases hd : rsvs m (S.set kx (.lst [.loc kx])) f ds with
    | none => rw [hd] at q; cases q
    | some es =>
      rw [hd] at q; cases q
      unfold At
      exact ⟨a, vs, e, .inl g, s, rsvsK_at r f ds es vs t hd⟩
  | f + 1, .obj k ds, d', v, h, q => by
    unfold rsv at q; unfold At at h
    obtain ⟨a, vs, C, dx, e, g, g2, l, s, t⟩ := h
    cases hd : rsvs m (S.set kx (.lst [.loc kx])) f ds with
    | none => rw [hd] at q; cases q
    | some es =>
      rw [hd] at q; cases q
      unfold At
      exact ⟨a, vs, C, dx, e, .inl g, g2, l, s, rsvsK_at r f ds es vs t hd⟩
  | f + 1, .loc k, d', v, h, q => by
    unfold rsv at q; unfold At at h
    by_cases hk : k < m
    · rw [if_pos hk] at q; cases q
      unfold At
      exact ⟨hk, h.2⟩
    · have hne : k ≠ kx := fun e => by
        subst e
        rw [if_neg hk, List.getElem?_set_self h.1] at q
        exact rsv_loop (n := m) h.1 (fun e => hk e) f _ q
      rw [if_neg hk, List.getElem?_set_ne (Ne.symm hne)] at q
      have fz : (c.cutK m S.length kx).F (c.ρ k) := .inr ⟨k, Nat.le_of_not_lt hk, h.1, hne, rfl⟩
      cases ho : S[k]? with
      | none => rw [ho] at q; cases q
      | some o =>
        rw [ho] at q
        have oa := r.get ho
        cases o with
        | lst ds =>
          obtain ⟨vs, g, t⟩ := oa
          cases hd : rsvs m (S.set kx (.lst [.loc kx])) f ds with
          | none => simp only [hd] at q; cases q
          | some es =>
            simp only [hd] at q; cases q
            unfold At
            exact ⟨_, vs, h.2, fz, g, rsvsK_at r f ds es vs t hd⟩
        | dic ks ds =>
          obtain ⟨vs, g, t⟩ := oa
          cases hd : rsvs m (S.set kx (.lst [.loc kx])) f ds with
          | none => simp only [hd] at q; cases q
          | some es =>
            simp only [hd] at q; cases q
            unfold At
            exact ⟨_, vs, h.2, fz, g, rsvsK_at r f ds es vs t hd⟩
        | ins cn ds =>
          obtain ⟨vs, C, dx, g, l, s, t⟩ := oa
          cases hd : rsvs m (S.set kx (.lst [.loc kx])) f ds with
          | none => simp only [hd] at q; cases q
          | some es =>
            simp only [hd] at q; cases q
            unfold At
            exact ⟨_, vs, C, dx, h.2, fz, g, l, s, rsvsK_at r f ds es vs t hd⟩
theorem rsvsK_at {m kx : Nat} (r : Rep w c H S) : ∀ (f : Nat) (ds es : List D) (vs : List V), Ats w c H S.length ds vs → rsvs m (S.set kx (.lst [.loc kx])) f ds = some es → Ats w (c.cutK m S.length kx) H m es vs
  | f, [], es, vs, h, q => by unfold rsvs at q; cases q; exact h
  | f, d :: ds, es, vs, h, q => by
    unfold rsvs at q; unfold Ats at h
    obtain ⟨v, vr, e, a, b⟩ := h
    cases h1 : rsv m (S.set kx (.lst [.loc kx])) f d with
    | none => rw [h1] at q; cases q
    | some d' =>
      rw [h1] at q
      cases h2 : rsvs m (S.set kx (.lst [.loc kx])) f ds with
      | none => rw [h2] at q; cases q
      | some r' =>
        rw [h2] at q; cases q
        rw [e]
        exact .cons (rsvK_at r f d d' v a h1) (rsvsK_at r f ds r' vr b h2)
end
open Classical in
noncomputable def truncL (S : Sto) (r : R D) : R D := match r with
  | .ok (.loc k) S' => match S'[k]? with
    | some (.lst ds) => .if (S.length ≤ k ∧ Tr S.length S S') ((R.ofO (rsvs S.length (S'.set k (.lst [.loc k])) 12 ds) (S'.take S.length)).bind fun es S2 => .ok (.loc S.length) (S2 ++ [.lst es]))
    | _ => .bad
  | _ => .bad
theorem Cn.cutN_at {n n' kx : Nat} : (c.cutN n n' kx).ρ n = c.ρ kx := if_pos rfl
theorem Cn.cutN_ne {n n' kx k : Nat} (h : k ≠ n) : (c.cutN n n' kx).ρ k = c.ρ k := if_neg h
/-- what stands below n, seen after kx came to stand at n -/
theorem cutN_ext {n n' kx m : Nat} : ExtA (c.cutK n n' kx) H n (c.cutN n n' kx) H (n + 1) :=
  ⟨Nat.le_succ _, fun k h => Cn.cutN_ne (Nat.ne_of_lt h), fun _ h => h, fun _ _ h => h, fun _ _ _ h => h, fun _ _ h => h, fun _ _ _ h => h⟩
open Classical in
theorem truncL_ok {r : R D} {Q : VK} (rp : Rep w c H S) (h : PoE w W σ c H S.length (truncL S r) Q) : PoE w W σ c H S.length r Q := by
  cases r with
  | ok d S' =>
    cases d with
    | loc k =>
      unfold truncL at h
      cases hk : S'[k]? with
      | none => simp only [hk] at h; exact h.elim
      | some o =>
        cases o with
        | lst ds =>
          simp only [hk] at h
          obtain ⟨⟨le, tr⟩, h⟩ := Po.if h
          cases he : rsvs S.length (S'.set k (.lst [.loc k])) 12 ds with
          | none => rw [he] at h; exact h.elim
          | some es =>
            rw [he] at h
            change PoE w W σ c H S.length (.ok (.loc S.length) (S'.take S.length ++ [.lst es])) Q at h
            intro c' H' v e' r' a'
            have kl := Rep.lt hk
            have hl : (S'.take S.length).length = S.length := by rw [List.length_take]; exact Nat.min_eq_left e'.le
            have hl2 : (S'.take S.length ++ [SO.lst es]).length = S.length + 1 := by rw [List.length_append, hl]; rfl
            have EA : ExtA (c'.cutK S.length S'.length k) H' S.length (c'.cutN S.length S'.length k) H' (S.length + 1) := cutN_ext (m := 0)
            refine h (c'.cutN S.length S'.length k) H' v ?_ ?_ ?_
            · rw [hl2]
              refine ⟨Nat.le_succ _, fun j hj => by rw [Cn.cutN_ne (Nat.ne_of_lt hj)]; exact e'.rho j hj, fun a f => .inl (e'.fro a f), e'.tup, e'.frz, e'.xd, e'.keep, e'.keepF, fun j j1 j2 => ?_, e'.there, fun a f => ?_⟩
              · have : j = S.length := by omega
                subst this
                rw [Cn.cutN_at]; exact e'.new k le kl
              · rcases f with f | ⟨j, j1, j2, _, rfl⟩
                · exact e'.nF a f
                · exact .inr (e'.new j j1 j2)
            · refine ⟨fun j o ho => ?_, fun i j hi hj q => ?_, fun j hj f => ?_, fun a f => ?_⟩
              · rw [hl2]
                by_cases hj : j < S.length
                · rw [List.getElem?_append_left (by rw [hl]; exact hj), List.getElem?_take_of_lt hj] at ho
                  rw [Cn.cutN_ne (Nat.ne_of_lt hj)]
                  have oa := r'.get ho
                  have ob : o.lo S.length = true := by
                    rcases tr j hj with t | ⟨o', t, b⟩
                    · rw [ho] at t
                      exact (rp.get t.symm).lo
                    · rw [ho] at t; cases t; exact b
                  cases o with
                  | lst ds => obtain ⟨vs, g, t⟩ := oa; exact ⟨vs, g, Ats.monoA EA _ _ (t.fcutK _ _ ob)⟩
                  | dic ks ds => obtain ⟨vs, g, t⟩ := oa; exact ⟨vs, g, Ats.monoA EA _ _ (t.fcutK _ _ ob)⟩
                  | ins kk ds => obtain ⟨vs, C, dx, g, l, s, t⟩ := oa; exact ⟨vs, C, dx, g, l, s, Ats.monoA EA _ _ (t.fcutK _ _ ob)⟩
                · have hlt := Rep.lt ho
                  rw [hl2] at hlt
                  have ej : j = S.length := by omega
                  subst ej
                  rw [List.getElem?_append_right (by rw [hl]; exact Nat.le_refl _), hl, Nat.sub_self] at ho
                  cases ho
                  rw [Cn.cutN_at]
                  obtain ⟨vs, g, t⟩ := r'.get hk
                  exact ⟨vs, g, Ats.monoA EA _ _ (rsvsK_at r' 12 ds es vs t he)⟩
              · rw [hl2] at hi hj
                by_cases h1 : i = S.length
                · by_cases h2 : j = S.length
                  · rw [h1, h2]
                  · rw [h1, Cn.cutN_at, Cn.cutN_ne h2] at q
                    have := r'.inj k j kl (by have := e'.le; omega) q
                    omega
                · by_cases h2 : j = S.length
                  · rw [h2, Cn.cutN_at, Cn.cutN_ne h1] at q
                    have := r'.inj i k (by have := e'.le; omega) kl q
                    omega
                  · rw [Cn.cutN_ne h1, Cn.cutN_ne h2] at q
                    exact r'.inj i j (by have := e'.le; omega) (by have := e'.le; omega) q
              · rw [hl2] at hj
                by_cases h1 : j = S.length
                · rw [h1, Cn.cutN_at] at f
                  rcases f with f | ⟨i, i1, i2, ne, q⟩
                  · exact r'.live k kl f
                  · exact ne (r'.inj i k i2 kl q)
                · rw [Cn.cutN_ne h1] at f
                  rcases f with f | ⟨i, i1, i2, ne, q⟩
                  · exact r'.live j (by have := e'.le; omega) f
                  · have := r'.inj i j i2 (by have := e'.le; omega) q
                    omega
              · rcases f with f | ⟨i, i1, i2, ne, rfl⟩
                · exact r'.fro a f
                · obtain ⟨u, q, _⟩ := r'.some i2
                  exact ⟨u, q⟩
            · rw [hl2]
              unfold At at a' ⊢
              exact ⟨Nat.lt_succ_self _, by rw [Cn.cutN_at]; exact a'.2⟩
        | _ => simp only [hk] at h; exact h.elim
    | _ => exact h.elim
  | ex x S' => exact h.elim
  | bad => exact h.elim
theorem trL_ok : TrOk truncL := fun _ _ _ _ _ _ _ _ rp h => truncL_ok rp h
end
end Mm
set_option maxRecDepth 100000
/-! x in a list, both as data -/
namespace Mm
open PySem L2
section
variable {Γ : Cls'} {X : Cx}
open Classical in
noncomputable def inLD (x y : D) (S : Sto) : R D := match pyOf S x, pyOf S y with
  | some p, some (.list ps) => .if (SeqAt.shaped p = true ∧ SeqAt.shaped (.list ps) = true) (.ok (.bl (ps.any fun z => PyData.eqv z p)) S)
  | _, _ => .bad
theorem g_inL : GOp Γ X inLD (rInD X.K) := fun W σ c H S x y v u Q r a b h => by
  unfold inLD at h
  cases hx : pyOf S x with
  | none => rw [hx] at h; exact h.elim
  | some p =>
    cases hy : pyOf S y with
    | none => rw [hx, hy] at h; exact h.elim
    | some q =>
      rw [hx, hy] at h
      cases q with
      | list ps =>
        obtain ⟨⟨s1, s2⟩, h⟩ := Po.if h
        exact ⟨p, ps, pyOf_at (w := ⟨X.K, Γ⟩) r a hx, pyOf_at (w := ⟨X.K, Γ⟩) r b hy, s1, s2, fin_ok h r (.b _)⟩
      | _ => exact h.elim
end
end Mm
set_option maxRecDepth 100000
/-! list(range(n)) -/
namespace Mm
open PySem L2
section
variable {W : WX} {Γ : Cls'} {X : Cx} {pos : Pos} {a : Expr} {ma : EM}
def e_rg1 (m : EM) : EM := fun env S => (m env S).bind fun d S1 => match d with
  | .int j => .if (-(2 ^ 62) ≤ j ∧ j < 2 ^ 62 ∧ j.toNat ≤ 2 ^ 24) (.ok (.lst (rngD 0 j.toNat)) S1)
  | _ => .bad
@[simp] theorem e_rg1_eq (m : EM) (env : Env) (S : Sto) : e_rg1 m env S = (m env S).bind fun d S1 => match d with
  | .int j => .if (-(2 ^ 62) ≤ j ∧ j < 2 ^ 62 ∧ j.toNat ≤ 2 ^ 24) (.ok (.lst (rngD 0 j.toNat)) S1)
  | _ => .bad := rfl
theorem c_lstRg1 {p q pos' : Pos} (hc : X.calm = true) (hm : X.mg "list" = none) (hr : X.mg "range" = none) (ha : CE Γ X W a ma) (hg : Gl X "list" := by rfl) (hgr : Gl X "range" := by rfl)
    (h1 : starEach [a] X.env = (false, eval a X.env) :: starEach [] X.env := by rfl)
    (h4 : starEach [.Call (.Name "range" q) [a] [] pos'] X.env = (false, eval (.Call (.Name "range" q) [a] [] pos') X.env) :: starEach [] X.env := by rfl) :
    CE Γ X W (.Call (.Name "list" p) [.Call (.Name "range" q) [a] [] pos'] [] pos) (e_rg1 ma) := by
  refine PE.weak (pe_listRg hc hg hm (prg_1 hgr hr ha h1) h4) fun σ H Q ⟨c, env, S, r, ev, h⟩ => ?_
  refine ⟨c, env, S, r, ev, (Po.bind h).imp fun v H1 ⟨c1, S1, d1, e1, r1, a1, h1⟩ => ?_⟩
  cases d1 with
  | int j =>
    obtain ⟨hk, h2⟩ := Po.if h1
    exact ⟨j, a1.int, by first | exact hk | (constructor <;> omega), fun z hz => by rw [rgV_eq, Int.sub_zero]; exact fin_lst h2 r1 (ats_rng _ _) hz⟩
  | _ => exact h1.elim
end
end Mm
set_option maxRecDepth 100000
/-! a method with keywords; a new object of a sequence's items and keywords -/
namespace Mm
open PySem L2
section
variable {W : WX} {Γ : Cls'} {X : Cx} {pos : Pos} {a o e : Expr} {ma mo : EM} {km : AM} {kws : List Keyword} {c : Cn} {H : Hp} {S : Sto}
/-- the class k has the method x, which is m, with the keywords ks alone, put in order by g -/
structure Dmn (P : Program) (wd : World) (K : PySem.W.Frag) (mg : Str → Option Value) (base : Heap) (Γ : Cls') (k : Nat) (x : Str) (lv : Nat) (m : FM) (ks : List Str) (g : D → List D → List D) : Prop where
  ex : ∃ (C f : Addr) (fd : FuncData) (ps : List Str) (g0 : List Value → List Value → List Value) (gV : List V → List V → List V), Γ.at_ k = some C ∧ Cls K C ∧ Meth K C x f ∧ FnOk P wd K mg base (L2.CX P wd) lv f fd ps (spM K Γ m) ∧ KBn K fd ps 1 ks g0 gV ∧
    ∀ (c : Cn) (H : Hp) (j : Nat) (x : D) (v : V) (es : List D) (zs : List V), At ⟨K, Γ⟩ c H j x v → Ats ⟨K, Γ⟩ c H j es zs → es.length = ks.length → Ats ⟨K, Γ⟩ c H j (g x es) (gV [v] zs)
  nf : x ∉ Γ.fs k
open Classical in
noncomputable def e_mthN (tr : TrF) (k : Nat) (m : FM) (g : D → List D → List D) (nk : Nat) (mo : EM) (km : AM) : EM := fun env S => (mo env S).bind fun d S1 => .if (isI k d S1) ((km env S1).bind fun es S2 => .if (es.length = nk) (tr S2 (m (g d es) S2)))
open Classical in
@[simp] theorem e_mthN_eq (tr : TrF) (k : Nat) (m : FM) (g : D → List D → List D) (nk : Nat) (mo : EM) (km : AM) (env : Env) (S : Sto) : e_mthN tr k m g nk mo km env S = (mo env S).bind fun d S1 => .if (isI k d S1) ((km env S1).bind fun es S2 => .if (es.length = nk) (tr S2 (m (g d es) S2))) := rfl
open Classical in
theorem c_mthN {k lv : Nat} {x : Str} {m : FM} {apos : Pos} {pl : Sem Bool} {tr : TrF} {ks : List Str} {g : D → List D → List D} (tok : TrOk tr) (G : Dmn X.prog X.w X.K X.mg X.base Γ k x lv m ks g) (go : Goes X W) (hr : Room lv X.A) (ho : CE Γ X W o mo) (hk : CK Γ X W kws km)
    (hall : (backToKw pos (keywordEach kws X.env)).all (·.1.isSome) = true := by rfl) (hks : (backToKw pos (keywordEach kws X.env)).filterMap (·.1) = ks := by rfl)
    (ht : eval (.Call (.Attribute o x apos) [] kws pos) X.env = (do
      let ov ← eval o X.env
      standAt apos.atName
      let (f, first) ← holding [ov] (getMethod ov x pl)
      callWith pos f first (backTo pos (starEach [] X.env)) (backToKw pos (keywordEach kws X.env))) := by rfl)
    (hpl : ((backTo pos (starEach [] X.env)).any (·.1) || (backToKw pos (keywordEach kws X.env)).any (·.1.isNone)) = false := by rfl) :
    CE Γ X W (.Call (.Attribute o x apos) [] kws pos) (e_mthN tr k m g ks.length mo km) := by
  obtain ⟨C, f, fd, ps, g0, gV, gC, cl, me, F, hb, hrel⟩ := G.ex
  refine PE.weak (pe_methN (E := fun σ => WE W σ) ho cl me F hr hb go hk hall hks ht hpl) fun σ H Q ⟨c, env, S, r, ev, h⟩ => ?_
  refine ⟨c, env, S, r, ev, (Po.bind h).imp fun v H1 ⟨c1, S1, d1, e1, r1, a1, h1⟩ => ?_⟩
  obtain ⟨⟨ds, hi⟩, h1⟩ := Po.if h1
  obtain ⟨p, vs, C', dx, rfl, g, l, s, t⟩ := insOf_at r1 a1 hi
  rw [gC] at g; cases g
  refine ⟨p, dx, _, rfl, s, lookup_not G.nf, c1, env, S1, r1, ev.mono e1, (Po.bind h1).imp fun zs H2 ⟨c2, S2, es, e2, r2, a2, h2⟩ => ?_⟩
  obtain ⟨l2, h2⟩ := Po.if h2
  exact ⟨by rw [a2.len]; exact l2, c2, S2, _, r2, hrel _ _ _ _ _ _ _ (a1.mono e2) a2 l2, (tok _ _ _ _ _ _ _ _ r2 h2).wish fun _ _ _ z => z⟩
def e_mkr (tr : TrF) (k : Nat) (m : FM) (g : D → List D → List D) (nk : Nat) (me : EM) (km : AM) : EM := fun env S => (me env S).bind fun d S1 => (km env S1).bind fun es S2 => match seqOf S2 d with
  | some ds => .if (ds.length ≤ 1000 ∧ es.length = nk) (tr S2 (mkDk k m (fun x => g x es ++ [.tup ds]) S2))
  | none => .bad
@[simp] theorem e_mkr_eq (tr : TrF) (k : Nat) (m : FM) (g : D → List D → List D) (nk : Nat) (me : EM) (km : AM) (env : Env) (S : Sto) : e_mkr tr k m g nk me km env S = (me env S).bind fun d S1 => (km env S1).bind fun es S2 => match seqOf S2 d with
  | some ds => .if (ds.length ≤ 1000 ∧ es.length = nk) (tr S2 (mkDk k m (fun x => g x es ++ [.tup ds]) S2))
  | none => .bad := rfl
theorem c_mkr {k lv : Nat} {x : Str} {m : FM} {p sp_ : Pos} {tr : TrF} {ks : List Str} {g : D → List D → List D} {me : EM} (tok : TrOk tr) (G : Dks X.prog X.w X.K X.mg X.base Γ k x lv m ks g) (go : Goes X W) (hr : Room (lv + 1) X.A) (hg : Gl X x) (he : CE Γ X W e me) (hk : CK Γ X W kws km)
    (hall : (backToKw pos (keywordEach kws X.env)).all (·.1.isSome) = true := by rfl) (hks : (backToKw pos (keywordEach kws X.env)).filterMap (·.1) = ks := by rfl) (hdb : (x == ("__debug__" : Str)) = false := by decide)
    (hst : starEach [.Starred e sp_] X.env = [(true, eval e X.env)] := by rfl) : CE Γ X W (.Call (.Name x p) [.Starred e sp_] kws pos) (e_mkr tr k m g ks.length me km) := by
  obtain ⟨C, f, gV, gC, hm, M, F, hrel⟩ := G.ex
  refine PE.weak (StK.pe_makeRS (E := fun σ => WE W σ) M F hr hg hm go he hk hall hks hdb hst) fun σ H Q ⟨c, env, S, r, ev, h⟩ => ?_
  refine ⟨c, env, S, r, ev, (Po.bind h).imp fun v H1 ⟨c1, S1, d, e1, r1, a1, h1⟩ => ?_⟩
  refine ⟨c1, env, S1, r1, ev.mono e1, (Po.bind h1).imp fun zs H2 ⟨c2, S2, ds2, e2, r2, a2, h2⟩ => ?_⟩
  cases hq : seqOf S2 d with
  | none => simp only [hq] at h2; exact h2.elim
  | some ds =>
    simp only [hq] at h2
    obtain ⟨⟨l1, l2⟩, h2⟩ := Po.if h2
    obtain ⟨p, vs, ev', hs, as⟩ := seqOf_at r2 (a1.mono e2) hq
    refine ⟨by rw [a2.len]; exact l2, p, vs, ev', hs.symm, fun x dx hx hd ne => ⟨[.ref x], vs, rfl, rfl, by rw [as.len]; exact Nat.le_trans l1 (by decide), fun q hq => ?_⟩⟩
    obtain ⟨e3, r3, t3⟩ := mk_start (w := ⟨X.K, Γ⟩) (ds := []) (vs := []) r2 gC .nil hx hd ne
    obtain ⟨_, _, hE, al, _⟩ := t3.uncons
    cases hE
    have e4 := e3.trans (Ext.grow (o := .tup vs) (n := (S2 ++ [SO.ins k []]).length) (c := c2.nw S2.length x) hq)
    have h3 := Po.mono e4 (tok _ _ _ _ _ _ _ _ r2 h2)
    have al4 := al.mono (Ext.grow (o := .tup vs) hq)
    have at_ : At ⟨X.K, Γ⟩ (c2.nw S2.length x) (upd (upd (upd H2 dx (.own x)) x (.ins C dx [])) q (.tup vs)) (S2 ++ [SO.ins k []]).length (.tup ds) (.ref q) := by
      unfold At
      exact ⟨q, vs, rfl, SqT.of upd_same, as.mono e4⟩
    refine ⟨_, _, _, r3.grow (o := .tup vs) hq, (hrel _ _ _ _ _ _ _ al4 (a2.mono e4) l2).app (.one at_), ?_⟩
    refine Po.wish ((Po.bind h3).imp fun v H3 ⟨c3, S3, d3, e5, r5, a5, h5⟩ => ?_) fun _ _ _ z => z
    cases d3 with
    | non =>
      refine ⟨a5.non, h5 c3 H3 _ Ext.refl r5 ?_⟩
      unfold At at al4
      unfold At
      exact ⟨Nat.lt_of_lt_of_le al4.1 e5.le, by rw [e5.rho _ al4.1]; exact al4.2⟩
    | _ => exact h5.elim
end
end Mm
set_option maxRecDepth 100000
/-! A for loop over a dict that is a field: the dict is locked while it is walked. -/
namespace Mm
open PySem L2
def Cls'.lock (Γ : Cls') (p : Addr) : Cls' := { Γ with lk := some p }
theorem HasF.lk {K : PySem.W.Frag} {Γ : Cls'} {k i : Nat} {f : Str} {p : Addr} (h : HasF K Γ k i f) : HasF K (Γ.lock p) k i f := ⟨h.ok, h.at_, h.nd, h.few⟩
def isDK : HO → Prop
  | .dK _ => True
  | _ => False
section
variable {K : PySem.W.Frag} {Γ : Cls'} {c c' : Cn} {H H' : Hp} {n n' : Nat} {p : Addr} {od : Obj} {u : HO}
theorem lk_ne {a : Addr} {o : HO} (hp : H p = some u) (hu : isDK u) (h : H a = some o) (ho : ¬ isDK o) : a ≠ p := fun e => by
  rw [e, hp] at h; cases h; exact ho hu
theorem lk_nf {a : Addr} {o : HO} (hp : H p = some (.frz od u)) (hu : isDK u) (h : H a = some o) (ho : ∀ x, o = .frz od x → ¬ isDK x) : a ≠ p := fun e => by
  rw [e, hp] at h; cases h; exact ho _ rfl hu
theorem SqT.lock {a : Addr} {xs : List V} (hp : H p = some u) (hu : isDK u) (o : HO) (h : SqT K H a xs) : SqT K (upd H p o) a xs := by
  rcases h with (h | ⟨o, h⟩) | h
  · exact .inl (.inl (by rw [upd_ne (lk_ne hp hu h fun z => z)]; exact h))
  · exact .inl (.inr ⟨o, by rw [upd_ne (lk_ne hp hu h fun z => z)]; exact h⟩)
  · exact .inr h
theorem FzL.lock {a : Addr} {xs : List V} (hp : H p = some u) (hu : isDK u) (o : HO) (h : FzL K H a xs) : FzL K (upd H p o) a xs := by
  rcases h with ⟨o, h⟩ | h
  · exact .inl ⟨o, by rw [upd_ne (lk_ne hp hu h fun z => z)]; exact h⟩
  · exact .inr h
theorem SqT.unlock {a : Addr} {xs : List V} (hp : H p = some (.frz od u)) (hu : isDK u) (o : HO) (h : SqT K H a xs) : SqT K (upd H p o) a xs := by
  rcases h with (h | ⟨o, h⟩) | h
  · exact .inl (.inl (by rw [upd_ne (lk_nf hp hu h fun x e => nomatch e)]; exact h))
  · exact .inl (.inr ⟨o, by rw [upd_ne (lk_nf hp hu h fun x e z => by cases e; exact z)]; exact h⟩)
  · exact .inr h
theorem FzL.unlock {a : Addr} {xs : List V} (hp : H p = some (.frz od u)) (hu : isDK u) (o : HO) (h : FzL K H a xs) : FzL K (upd H p o) a xs := by
  rcases h with ⟨o, h⟩ | h
  · exact .inl ⟨o, by rw [upd_ne (lk_nf hp hu h fun x e z => by cases e; exact z)]; exact h⟩
  · exact .inr h
theorem DkA.lock {a : Addr} {o : HO} (hl : Γ.lk = none) (hp : H p = some u) (h : DkA ⟨K, Γ⟩ H a o) : DkA ⟨K, Γ.lock p⟩ (upd H p (.frz od u)) a o := by
  have h := h.ex hl
  by_cases e : a = p
  · subst e
    rw [hp] at h; cases h
    exact .inr ⟨rfl, od, upd_same⟩
  · exact .inl (by rw [upd_ne e]; exact h)
theorem DkA.unlock {a : Addr} {o : HO} (hp : H p = some (.frz od u)) (ho : ∀ x, o ≠ .frz od x) (h : DkA ⟨K, Γ.lock p⟩ H a o) : DkA ⟨K, Γ⟩ (upd H p u) a o := by
  rcases h with h | ⟨e, od', h⟩
  · refine .inl ?_
    rw [upd_ne fun e => by rw [e, hp] at h; cases h; exact ho u rfl]; exact h
  · cases e
    rw [hp] at h; cases h
    exact .inl upd_same
mutual
theorem At.lock (hl : Γ.lk = none) (hp : H p = some u) (hu : isDK u) : ∀ (d : D) (v : V), At ⟨K, Γ⟩ c H n d v → At ⟨K, Γ.lock p⟩ c (upd H p (.frz od u)) n d v
  | .non, v, h => h
  | .bl b, v, h => h
  | .int i, v, h => h
  | .str x, v, h => h
  | .tup ds, v, h => by
    unfold At at h ⊢
    obtain ⟨a, vs, r, s, t⟩ := h
    exact ⟨a, vs, r, SqT.lock hp hu _ s, Ats.lock hl hp hu ds vs t⟩
  | .ttp ds, v, h => by
    unfold At at h ⊢
    obtain ⟨a, vs, r, s, t⟩ := h
    exact ⟨a, vs, r, by rw [upd_ne (lk_ne hp hu s fun z => z)]; exact s, Ats.lock hl hp hu ds vs t⟩
  | .lst ds, v, h => by
    unfold At at h ⊢
    obtain ⟨a, vs, r, f, s, t⟩ := h
    exact ⟨a, vs, r, f, by rw [upd_ne (lk_ne hp hu s fun z => z)]; exact s, Ats.lock hl hp hu ds vs t⟩
  | .dic ks ds, v, h => by
    unfold At at h ⊢
    obtain ⟨a, vs, r, f, s, t⟩ := h
    refine ⟨a, vs, r, f, ?_, Ats.lock hl hp hu ds vs t⟩
    rcases s with ⟨kk, s⟩ | ⟨kk, s⟩
    · exact .inl ⟨kk, s.1.lock hl hp, s.2⟩
    · exact .inr ⟨kk, s.1.lock hl hp, s.2⟩
  | .obj k ds, v, h => by
    unfold At at h ⊢
    obtain ⟨a, vs, C, dx, r, f, g, l, s, t⟩ := h
    exact ⟨a, vs, C, dx, r, f, g, l, by rw [upd_ne (lk_ne hp hu s fun z => z)]; exact s, Ats.lock hl hp hu ds vs t⟩
  | .fz ns, v, h => by
    unfold At at h ⊢
    obtain ⟨a, r, s⟩ := h
    exact ⟨a, r, FzL.lock hp hu _ s⟩
  | .loc k, v, h => by unfold At at h ⊢; exact h
  | .oth x, v, h => h
  | .xn k ds, v, h => by
    unfold At at h ⊢
    obtain ⟨a, dd, C, vs, r, x, g, l, s, t⟩ := h
    exact ⟨a, dd, C, vs, r, x, g, l, by rw [upd_ne (lk_ne hp hu s fun z => z)]; exact s, Ats.lock hl hp hu ds vs t⟩
theorem Ats.lock (hl : Γ.lk = none) (hp : H p = some u) (hu : isDK u) : ∀ (ds : List D) (vs : List V), Ats ⟨K, Γ⟩ c H n ds vs → Ats ⟨K, Γ.lock p⟩ c (upd H p (.frz od u)) n ds vs
  | [], vs, h => by unfold Ats at h ⊢; exact h
  | d :: ds, vs, h => by
    unfold Ats at h ⊢
    obtain ⟨v, r, q, a, b⟩ := h
    exact ⟨v, r, q, At.lock hl hp hu d v a, Ats.lock hl hp hu ds r b⟩
end
mutual
theorem At.unlock (hp : H p = some (.frz od u)) (hu : isDK u) : ∀ (d : D) (v : V), At ⟨K, Γ.lock p⟩ c H n d v → At ⟨K, Γ⟩ c (upd H p u) n d v
  | .non, v, h => h
  | .bl b, v, h => h
  | .int i, v, h => h
  | .str x, v, h => h
  | .tup ds, v, h => by
    unfold At at h ⊢
    obtain ⟨a, vs, r, s, t⟩ := h
    exact ⟨a, vs, r, SqT.unlock hp hu _ s, Ats.unlock hp hu ds vs t⟩
  | .ttp ds, v, h => by
    unfold At at h ⊢
    obtain ⟨a, vs, r, s, t⟩ := h
    exact ⟨a, vs, r, by rw [upd_ne (lk_nf hp hu s fun x e => nomatch e)]; exact s, Ats.unlock hp hu ds vs t⟩
  | .lst ds, v, h => by
    unfold At at h ⊢
    obtain ⟨a, vs, r, f, s, t⟩ := h
    exact ⟨a, vs, r, f, by rw [upd_ne (lk_nf hp hu s fun x e => nomatch e)]; exact s, Ats.unlock hp hu ds vs t⟩
  | .dic ks ds, v, h => by
    unfold At at h ⊢
    obtain ⟨a, vs, r, f, s, t⟩ := h
    refine ⟨a, vs, r, f, ?_, Ats.unlock hp hu ds vs t⟩
    rcases s with ⟨kk, s⟩ | ⟨kk, s⟩
    · exact .inl ⟨kk, s.1.unlock hp (fun x e => nomatch e), s.2⟩
    · exact .inr ⟨kk, s.1.unlock hp (fun x e => nomatch e), s.2⟩
  | .obj k ds, v, h => by
    unfold At at h ⊢
    obtain ⟨a, vs, C, dx, r, f, g, l, s, t⟩ := h
    exact ⟨a, vs, C, dx, r, f, g, l, by rw [upd_ne (lk_nf hp hu s fun x e => nomatch e)]; exact s, Ats.unlock hp hu ds vs t⟩
  | .fz ns, v, h => by
    unfold At at h ⊢
    obtain ⟨a, r, s⟩ := h
    exact ⟨a, r, FzL.unlock hp hu _ s⟩
  | .loc k, v, h => by unfold At at h ⊢; exact h
  | .oth x, v, h => h
  | .xn k ds, v, h => by
    unfold At at h ⊢
    obtain ⟨a, dd, C, vs, r, x, g, l, s, t⟩ := h
    exact ⟨a, dd, C, vs, r, x, g, l, by rw [upd_ne (lk_nf hp hu s fun x e => nomatch e)]; exact s, Ats.unlock hp hu ds vs t⟩
theorem Ats.unlock (hp : H p = some (.frz od u)) (hu : isDK u) : ∀ (ds : List D) (vs : List V), Ats ⟨K, Γ.lock p⟩ c H n ds vs → Ats ⟨K, Γ⟩ c (upd H p u) n ds vs
  | [], vs, h => by unfold Ats at h ⊢; exact h
  | d :: ds, vs, h => by
    unfold Ats at h ⊢
    obtain ⟨v, r, q, a, b⟩ := h
    exact ⟨v, r, q, At.unlock hp hu d v a, Ats.unlock hp hu ds r b⟩
end
theorem oat_lock (hl : Γ.lk = none) (hp : H p = some u) (hu : isDK u) {a : Addr} : ∀ {o : SO}, OAt ⟨K, Γ⟩ c H n a o → OAt ⟨K, Γ.lock p⟩ c (upd H p (.frz od u)) n a o
  | .lst ds, ⟨vs, g, t⟩ => ⟨vs, by rw [upd_ne (lk_ne hp hu g fun z => z)]; exact g, Ats.lock hl hp hu _ _ t⟩
  | .dic ks ds, ⟨vs, g, t⟩ => ⟨vs, by
    rcases g with ⟨kk, s⟩ | ⟨kk, s⟩
    · exact .inl ⟨kk, s.1.lock hl hp, s.2⟩
    · exact .inr ⟨kk, s.1.lock hl hp, s.2⟩, Ats.lock hl hp hu _ _ t⟩
  | .ins k ds, ⟨vs, C, dx, g, l, s, t⟩ => ⟨vs, C, dx, g, l, by rw [upd_ne (lk_ne hp hu s fun z => z)]; exact s, Ats.lock hl hp hu _ _ t⟩
theorem oat_unlock (hp : H p = some (.frz od u)) (hu : isDK u) {a : Addr} : ∀ {o : SO}, OAt ⟨K, Γ.lock p⟩ c H n a o → OAt ⟨K, Γ⟩ c (upd H p u) n a o
  | .lst ds, ⟨vs, g, t⟩ => ⟨vs, by rw [upd_ne (lk_nf hp hu g fun x e => nomatch e)]; exact g, Ats.unlock hp hu _ _ t⟩
  | .dic ks ds, ⟨vs, g, t⟩ => ⟨vs, by
    rcases g with ⟨kk, s⟩ | ⟨kk, s⟩
    · exact .inl ⟨kk, s.1.unlock hp (fun x e => nomatch e), s.2⟩
    · exact .inr ⟨kk, s.1.unlock hp (fun x e => nomatch e), s.2⟩, Ats.unlock hp hu _ _ t⟩
  | .ins k ds, ⟨vs, C, dx, g, l, s, t⟩ => ⟨vs, C, dx, g, l, by rw [upd_ne (lk_nf hp hu s fun x e => nomatch e)]; exact s, Ats.unlock hp hu _ _ t⟩
theorem fro_upd {o : HO} (h : ∀ a, c.F a → ∃ x, H a = some x) : ∀ a, c.F a → ∃ x, upd H p o a = some x := fun a f => by
  by_cases e : a = p
  · rw [e]; exact ⟨_, upd_same⟩
  · rw [upd_ne e]; exact h a f
theorem rep_lock {S : Sto} (hl : Γ.lk = none) (hp : H p = some u) (hu : isDK u) (r : Rep ⟨K, Γ⟩ c H S) : Rep ⟨K, Γ.lock p⟩ c (upd H p (.frz od u)) S :=
  ⟨fun k o h => oat_lock hl hp hu (r.obj k o h), r.inj, r.live, fro_upd r.fro⟩
theorem rep_unlock {S : Sto} (hp : H p = some (.frz od u)) (hu : isDK u) (r : Rep ⟨K, Γ.lock p⟩ c H S) : Rep ⟨K, Γ⟩ c (upd H p u) S :=
  ⟨fun k o h => oat_unlock hp hu (r.obj k o h), r.inj, r.live, fro_upd r.fro⟩
theorem envr_lock {σ : St} {env : Env} (hl : Γ.lk = none) (hp : H p = some u) (hu : isDK u) (ev : EnvR ⟨K, Γ⟩ c H n σ env) : EnvR ⟨K, Γ.lock p⟩ c (upd H p (.frz od u)) n σ env := ⟨ev.1, fun i d h => by
  obtain ⟨v, a, b⟩ := ev.2 i d h
  exact ⟨v, a, At.lock hl hp hu d v b⟩⟩
theorem envr_unlock {σ : St} {env : Env} (hp : H p = some (.frz od u)) (hu : isDK u) (ev : EnvR ⟨K, Γ.lock p⟩ c H n σ env) : EnvR ⟨K, Γ⟩ c (upd H p u) n σ env := ⟨ev.1, fun i d h => by
  obtain ⟨v, a, b⟩ := ev.2 i d h
  exact ⟨v, a, At.unlock hp hu d v b⟩⟩
theorem Ext.unlock (hp : H p = some u) (hu : isDK u) (e : Ext c (upd H p (.frz od u)) n c' H' n') : Ext c H n c' (upd H' p u) n' where
  le := e.le
  rho := e.rho
  fro := e.fro
  tup := fun a xs h => by
    have ne := lk_ne hp hu h fun z => z
    rw [upd_ne ne]; exact e.tup a xs (by rw [upd_ne ne]; exact h)
  frz := fun a o x h => by
    have ne := lk_ne hp hu h fun z => z
    rw [upd_ne ne]; exact e.frz a o x (by rw [upd_ne ne]; exact h)
  xd := fun a x h => by
    have ne := lk_ne hp hu h fun z => z
    rw [upd_ne ne]; exact e.xd a x (by rw [upd_ne ne]; exact h)
  keep := fun a o h q => by
    by_cases ne : a = p
    · subst ne
      rw [hp] at h; cases h; exact upd_same
    · rw [upd_ne ne]; exact e.keep a o (by rw [upd_ne ne]; exact h) q
  keepF := fun a o f h => by
    by_cases ne : a = p
    · subst ne
      rw [hp] at h; cases h; exact upd_same
    · rw [upd_ne ne]; exact e.keepF a o f (by rw [upd_ne ne]; exact h)
  new := fun k h1 h2 => by
    have q := e.new k h1 h2
    by_cases ne : c'.ρ k = p
    · rw [ne, upd_same] at q; cases q
    · rw [upd_ne ne] at q; exact q
  there := fun a o h => by
    by_cases ne : a = p
    · subst ne; exact ⟨_, upd_same⟩
    · obtain ⟨o', q⟩ := e.there a o (by rw [upd_ne ne]; exact h)
      exact ⟨o', by rw [upd_ne ne]; exact q⟩
  nF := fun a f => by
    rcases e.nF a f with h | h
    · exact .inl h
    · by_cases ne : a = p
      · subst ne; rw [upd_same] at h; cases h
      · rw [upd_ne ne] at h; exact .inr h
end
def RS.noex (r : RS) : RS := match r with
  | .ex _ _ _ => .bad
  | r => r
@[simp] theorem RS.noex_next (env : Env) (S : Sto) : (RS.next env S).noex = .next env S := rfl
@[simp] theorem RS.noex_ret (d : D) (S : Sto) : (RS.ret d S).noex = .ret d S := rfl
/-- the keys of a dict -/
def keysK (ks : List D) : Option (List D) := (kkO ks).map fun kk => kk.map keyD
noncomputable def s_forK (cs : List (Nat × Nat)) (i : Nat) (g : GM) (m : SM) : SM := fun env S => match env[i]? with
  | some (some d) => match fldD cs d S with
    | some (.dic ks ds) => match keysK ks with
      | some l => (loopS g m none l env S).noex
      | none => .bad
    | _ => .bad
  | _ => .bad
@[simp] theorem s_forK_eq (cs : List (Nat × Nat)) (i : Nat) (g : GM) (m : SM) (env : Env) (S : Sto) : s_forK cs i g m env S = match env[i]? with
  | some (some d) => match fldD cs d S with
    | some (.dic ks ds) => match keysK ks with
      | some l => (loopS g m none l env S).noex
      | none => .bad
    | _ => .bad
  | _ => .bad := rfl
section
variable {Γ : Cls'} {X : Cx} {W : WX} {tg : Expr} {pos : Pos}
theorem key_at {w : Wn} {c : Cn} {H : Hp} {n : Nat} (k : Key) : At w c H n (keyD k) (kV k) := by
  cases k with
  | inl i => exact .i _
  | inr i => exact .s _
theorem wkK {w : Wn} {c : Cn} {H : Hp} {n : Nat} {p : Addr} {od : Obj} {kk : List Key} {vs : List V} (hl : kk.length = vs.length) (hp : H p = some (.frz od (.dK (kk.zip vs)))) : Wk w c H n (kk.map keyD, none) (Itk p od (kk.zip vs)) := by
  intro c1 H1 S e r st i
  have h1 := e.frz _ _ _ hp
  have hz : (kk.zip vs).length = kk.length := by rw [List.length_zip]; omega
  refine ⟨fun d hd => ?_, fun hi => ⟨h1, by rw [hz, hi]; simp⟩⟩
  change (kk.map keyD)[i]? = some d at hd
  rw [List.getElem?_map] at hd
  cases hk : kk[i]? with
  | none => rw [hk] at hd; cases hd
  | some k =>
    rw [hk] at hd; cases hd
    have hi := (List.getElem?_eq_some_iff.mp hk).1
    refine ⟨⟨h1, by rw [hz]; exact hi⟩, ?_⟩
    rintro x H2 ⟨rfl, k2, v2, h2, rfl⟩
    have : kk[i]? = some k2 := by
      rw [List.getElem?_zip_eq_some] at h2; exact h2.1
    rw [hk] at this; cases this
    exact ⟨Ext.refl, r, key_at k⟩
open Classical in
theorem for_tail {w : Wn} {W : WX} {Dn : Ends} {it : Its} {J : It} {c1 : Cn} {H1 : Hp} {S1 : Sto} {env : Env} {σ : St} {g : GM} {m : SM} {sl : List Nat} (r1 : Rep w c1 H1 S1) (wk : Wk w c1 H1 S1.length it J) (ev1 : EnvR w c1 H1 S1.length σ env) (h1 : PoS w W c1 H1 S1.length (loopS g m it.2 it.1 env S1) Dn) :
    ∃ I : Nat → Nat → St → Hp → Prop, (∃ m, I 0 m σ H1) ∧ ∀ i m' σ H, I i m' σ H → J.stop i H ∧ Dn.nx σ H ∨ J.go i H ∧ ∃ N : St → Hp → Prop, (∀ σ' H', N σ' H' → ∃ m'', m'' < m' ∧ I (i + 1) m'' σ' H') ∧ ∀ x H', J.yld i H x H' → mTg w sl g x σ H' fun σ2 H2 => mS w W m { nx := N, rt := Dn.rt, bk := Dn.nx, ct := N } σ2 H2 := by
  refine ⟨fun i m' σ' H' => ∃ c2 env2 S2, Ext c1 H1 S1.length c2 H' S2.length ∧ Rep w c2 H' S2 ∧ EnvR w c2 H' S2.length σ' env2 ∧ m' = it.1.length - i ∧ i ≤ it.1.length ∧ PoS w W c2 H' S2.length (loopS g m it.2 (it.1.drop i) env2 S2) Dn,
    ⟨it.1.length, c1, env, S1, Ext.refl, r1, ev1, by simp, Nat.zero_le _, h1⟩, ?_⟩
  rintro i m' σ' H' ⟨c2, env2, S2, e2, r2, ev2, rfl, hi, h2⟩
  by_cases hlt : i < it.1.length
  · right
    have hd : it.1.drop i = it.1[i] :: it.1.drop (i + 1) := List.drop_eq_getElem_cons hlt
    rw [hd] at h2
    unfold loopS at h2
    obtain ⟨st, h2⟩ := PoS.if h2
    obtain ⟨w1, _⟩ := wk c2 H' S2 e2.A r2 (Stay.of (ds := it.1) st) i
    obtain ⟨go, yl⟩ := w1 it.1[i] (List.getElem?_eq_getElem hlt)
    refine ⟨go, fun σ3 H3 => ∃ c3 env3 S3, Ext c1 H1 S1.length c3 H3 S3.length ∧ Rep w c3 H3 S3 ∧ EnvR w c3 H3 S3.length σ3 env3 ∧ PoS w W c3 H3 S3.length (loopS g m it.2 (it.1.drop (i + 1)) env3 S3) Dn,
      fun σ3 H3 ⟨c3, env3, S3, e3, r3, ev3, h3⟩ => ⟨it.1.length - (i + 1), by omega, c3, env3, S3, e3, r3, ev3, rfl, hlt, h3⟩, fun x H3 y => ?_⟩
    obtain ⟨ey, ry, ay⟩ := yl x H3 y
    have h3 := PoS.mono ey h2
    cases hg : g it.1[i] env2 with
    | none => rw [hg] at h3; exact h3.elim
    | some env3 =>
      rw [hg] at h3
      refine ⟨c2, env2, S2, it.1[i], env3, ry, ev2.mono ey, ay, hg, fun σ3 ev3 _ => ⟨c2, env3, S2, ry, ev3, ?_⟩⟩
      change PoS w W c2 H3 S2.length (match m env3 S2 with
        | .next env2 S2 => loopS g m it.2 (it.1.drop (i + 1)) env2 S2
        | .cnt env2 S2 => loopS g m it.2 (it.1.drop (i + 1)) env2 S2
        | .brk env2 S2 => .next env2 S2
        | x => x) Dn at h3
      have e23 := e2.trans ey
      cases hm : m env3 S2 with
      | next env4 S4 =>
        rw [hm] at h3
        exact fun c4 H4 σ4 e4 r4 ev4 => ⟨c4, env4, S4, e23.trans e4, r4, ev4, PoS.mono e4 h3⟩
      | cnt env4 S4 =>
        rw [hm] at h3
        exact fun c4 H4 σ4 e4 r4 ev4 => ⟨c4, env4, S4, e23.trans e4, r4, ev4, PoS.mono e4 h3⟩
      | brk env4 S4 => rw [hm] at h3; exact h3
      | ret d S4 => rw [hm] at h3; exact h3
      | ex x env4 S4 => rw [hm] at h3; exact h3
      | bad => rw [hm] at h3; exact h3.elim
  · left
    have e : i = it.1.length := by omega
    subst e
    rw [List.drop_length] at h2
    unfold loopS at h2
    obtain ⟨st, h2⟩ := PoS.if h2
    obtain ⟨_, w2⟩ := wk c2 H' S2 e2.A r2 (Stay.of (ds := it.1) st) it.1.length
    exact ⟨w2 rfl, h2 c2 H' σ' Ext.refl r2 ev2⟩
theorem pos_lock {K : PySem.W.Frag} {Γ : Cls'} {W : WX} {c : Cn} {H : Hp} {n : Nat} {p : Addr} {od : Obj} {u : HO} {r : RS} {Dn : Ends} (hp : H p = some u) (hu : isDK u) (h : PoS ⟨K, Γ⟩ W c H n r.noex Dn) :
    PoS ⟨K, Γ.lock p⟩ W c (upd H p (.frz od u)) n r { nx := fun σ' H' => H' p = some (.frz od u) ∧ Dn.nx σ' (upd H' p u), rt := fun v H' => H' p = some (.frz od u) ∧ Dn.rt v (upd H' p u), bk := fun σ' H' => H' p = some (.frz od u) ∧ Dn.bk σ' (upd H' p u), ct := fun σ' H' => H' p = some (.frz od u) ∧ Dn.ct σ' (upd H' p u) } := by
  have z : ∀ {c' : Cn} {H' : Hp} {n' : Nat}, Ext c (upd H p (.frz od u)) n c' H' n' → H' p = some (.frz od u) := fun e => e.frz _ _ _ upd_same
  cases r with
  | next env S => exact fun c' H' σ' e r ev => ⟨z e, h c' _ σ' (Ext.unlock hp hu e) (rep_unlock (z e) hu r) (envr_unlock (z e) hu ev)⟩
  | brk env S => exact fun c' H' σ' e r ev => ⟨z e, h c' _ σ' (Ext.unlock hp hu e) (rep_unlock (z e) hu r) (envr_unlock (z e) hu ev)⟩
  | cnt env S => exact fun c' H' σ' e r ev => ⟨z e, h c' _ σ' (Ext.unlock hp hu e) (rep_unlock (z e) hu r) (envr_unlock (z e) hu ev)⟩
  | ret d S => exact fun c' H' v e r a => ⟨z e, h c' _ v (Ext.unlock hp hu e) (rep_unlock (z e) hu r) (At.unlock (z e) hu d v a)⟩
  | ex x env S => exact h.elim
  | bad => exact h.elim
/-- for k in o.f, o.f a dict -/
theorem c_forK {cs : List (Nat × Nat)} {f : Str} {x : Str} {i : Nat} {p1 p2 : Pos} {body : List Stmt} {g : GM} {m : SM} {sl : List Nat} (hlk : Γ.lk = none) (hF : ∀ p ∈ cs, HasF X.K Γ p.1 p.2 f) (hp : PassesOwn (model X.prog X.w) X.A X.env X.xe) (hc : X.calm = true)
    (hg : ∀ p, CG (Γ.lock p) X tg sl g) (hb : ∀ p, CSs (Γ.lock p) X W body m) (hN : X.N[i]? = some x := by rfl) (hv : Vis X.env.scope x := by first | exact Or.inl rfl | exact Or.inr (Or.inl rfl) | exact Or.inr (Or.inr rfl)) (hd : (x == ("__debug__" : Str)) = false := by decide) (hcd : (x == ("__classdict__" : Str)) = false := by decide)
    (hba : attributeBase (.Name x p1) f X.env (eval (.Name x p1) X.env) = eval (.Name x p1) X.env := by rfl)
    (hs : ∀ y, foldedSetIterable (.Attribute (.Name x p1) f p2) X.env y = pure y := by intro _; rfl) : CS Γ X W (.For tg (.Attribute (.Name x p1) f p2) body [] pos) (s_forK cs i g m) := by
  have hi := pi_keys (X := X) (tg := tg) (pe_fld (f := f) (pos := p2) (pe_var (pos := p1) hN hv hd hcd) hba)
  have T : ∀ p, PS X (.For tg (.Attribute (.Name x p1) f p2) body [] pos) (tFor (iKeys (tFld X.K (tVar i) f)) (mTg ⟨X.K, Γ.lock p⟩ sl g) (mS ⟨X.K, Γ.lock p⟩ W m)) := fun p => ps_for hp hc hi (hg p) (hb p) hs
  refine PS.weak (ps_lock ⟨fun pins s σ H D I (q : ∃ p, tFor (iKeys (tFld X.K (tVar i) f)) (mTg ⟨X.K, Γ.lock p⟩ sl g) (mS ⟨X.K, Γ.lock p⟩ W m) D σ H) => (T q.choose).run pins s σ H D I q.choose_spec⟩) fun Dn σ H ⟨c, env, S, r, ev, h⟩ => ?_
  rw [s_forK_eq] at h
  cases he : env[i]? with
  | none => rw [he] at h; exact h.elim
  | some o =>
    cases o with
    | none => rw [he] at h; exact h.elim
    | some d =>
      simp only [he] at h
      obtain ⟨v, hσ, ad⟩ := ev.get he
      cases hfd : fldD cs d S with
      | none => rw [hfd] at h; exact h.elim
      | some y =>
        rw [hfd] at h
        cases y with
        | dic ks ds =>
          dsimp only at h
          unfold fldD at hfd
          cases hin : insOf S d with
          | none => rw [hin] at hfd; cases hfd
          | some kd =>
            obtain ⟨k, es⟩ := kd
            rw [hin] at hfd
            cases hlo : cs.lookup k with
            | none => simp only [Option.bind_some, hlo] at hfd; cases hfd
            | some j =>
              simp only [Option.bind_some, hlo] at hfd
              obtain ⟨q, vs, C, dx, rfl, g', l, hs', t⟩ := insOf_at r ad hin
              have F := hF (k, j) (mem_of_lookup hlo)
              obtain ⟨u, hu, au⟩ := t.get hfd
              unfold At at au
              obtain ⟨p, us, rfl, fp, hk, t2⟩ := au
              rcases hk with ⟨kk, hk, hl, rfl⟩ | ⟨kk, hk, hl, rfl⟩
              · have hk := hk.ex hlk
                unfold keysK at h
                rw [kkO_map] at h
                simp only [Option.map_some] at h
                refine ⟨p, _, hk, trivial, fun od => ⟨p, ?_⟩⟩
                have np : q ≠ p := fun e => by rw [e, hk] at hs'; cases hs'
                refine ⟨.ref q, hσ, q, C, dx, _, .ref p, rfl, by rw [upd_ne np]; exact hs', (F.ok C g').1, (F.ok C g').2, lookup_zip F.nd F.at_ hu, p, od, rfl, .inl ⟨_, upd_same, ?_⟩⟩
                exact for_tail (it := (kk.map keyD, none)) (rep_lock hlk hk trivial r) (wkK hl upd_same) (envr_lock hlk hk trivial ev) (pos_lock hk trivial h)
              · rw [show keysK (.non :: kk.map fun k => .tup (k.map keyD)) = none from rfl] at h
                exact h.elim
        | _ => exact h.elim
end
end Mm
set_option maxRecDepth 100000
/-! sorted of data of any depth: a list or a tuple; by a key that a def of one row makes. -/
namespace L2
open PySem PySem.Spec PyProof.Rows PySem.W
section
variable {prog : Program} {w : World} {A : Around} {E : Value → Shared → Prop} {s : Shared}
/-- the items of a tuple in a new list that nobody keeps -/
theorem collect_tup {l : Addr} {vs : List Value} {Q : List Value → Shared → Prop} (hl : s.heap.IsTuple l vs.toArray) (hz : vs.length ≤ sizeLine)
    (h : Q vs { s with heap := (s.heap.push (seqObj "list" #[] 0)).update s.heap.objs.size (Obj.mapSeq (· ++ vs.toArray)) }) : wpAny (model prog w) A (collect (.ref l)) Q E s := by
  obtain ⟨ob, eo, ec, nn, ed⟩ := hl
  have eo2 : (s.heap.push (seqObj "list" #[] 0)).get? l = some ob := Heap.get?_push_of_some _ eo
  have new0 : (s.heap.push (seqObj "list" #[] 0)).get? s.heap.objs.size = some (seqObj "list" #[] 0) := Heap.get?_push_size _ rfl
  unfold collect
  refine wpAny_bind (wpAny_runValue (codeAny_builtin entry_proto_collect' (show wpAny _ _ (do again (.builtin "list.__iadd__" ⟨[← newList [], .ref l], []⟩)) _ _ s from wpAny_bind (wpAny_newList (wpAny_pure ⟨Code.quiet_builtin _ (by decide +kernel), codeAny_builtin entry_list_iadd' ?_⟩)))))
  show wpAny _ _ (Builtin.List.listExtendWith (.ref s.heap.objs.size) (.ref l) (.ref s.heap.objs.size)) _ _ { s with heap := s.heap.push (seqObj "list" #[] 0) }
  unfold Builtin.List.listExtendWith
  refine wpAny_bind (wpAny_typeOf (T := "tuple") ⟨ob, eo2, ec⟩ ?_)
  rw [if_pos (by rw [show (Value.type "tuple" == Value.type "tuple") = true from by decide +kernel, Bool.or_true])]
  refine wpAny_bind (listItems_at eo2 ed (wpAny_bind (listItems_at (xs := #[]) (n := 0) new0 rfl ?_)))
  rw [if_neg (by simp)]
  refine wpAny_bind (listUpdate_at (xs := #[]) (n := 0) new0 rfl (wpAny_pure ?_) (Nat.zero_le _) (by show (#[] ++ vs.toArray).size ≤ sizeLine + 1; rw [Array.size_append, List.size_toArray]; simp; omega))
  show wpAny (model prog w) A (do
      let o ← load s.heap.objs.size
      match o.data with
      | .seq ys _ => pure ys.toList
      | _ => unsupported "internal:collect") Q E { s with heap := (s.heap.push (seqObj "list" #[] 0)).update s.heap.objs.size (Obj.mapSeq (· ++ vs.toArray)) }
  refine wpAny_bind (wpAny_load (get?_update_seq new0 _) ?_)
  show wpAny _ _ (pure ((#[] : Array Value) ++ vs.toArray).toList) Q E _
  have e0 : ((#[] : Array Value) ++ vs.toArray).toList = vs := by simp
  rw [e0]
  exact wpAny_pure h
/-- sorted(xs, ..), xs a list or a tuple: what list.sort makes of the copy -/
theorem sorted_seq {l : Addr} {vs : List Value} {kw : List (Str × Value)} {Q : Value → Shared → Prop} (hl : s.heap.IsList l vs.toArray ∨ s.heap.IsTuple l vs.toArray) (hz : vs.length ≤ sizeLine) (a1 : argsOk "sorted" ⟨[.ref l], kw⟩) (a2 : ∀ x : Addr, argsOk "list.sort" ⟨[.ref x], kw⟩)
    (body : ∀ E' : Value → Shared → Prop, wpAny (model prog w) A.in1.in1 (Builtin.«list.sort» ⟨[.ref (s.heap.objs.size + 1)], kw⟩) (fun f s' => f = .done (.ret .none) ∧ Q (.ref (s.heap.objs.size + 1)) s') E' { s with heap := copyHeap s.heap vs }) :
    wpAny (model prog w) A (call (.builtin "sorted") [.ref l] kw) Q E s := by
  rcases hl with hl | hl
  · exact sorted_of_sort hl hz a1 a2 body
  have fin : wpAny (model prog w) A.in1 (do
      let z ← newList vs
      let _ ← holding [z] (call (.builtin "list.sort") [z] kw)
      ret z) (fun f s' => ∃ v, f = .done (.ret v) ∧ Q v s') E { s with heap := (s.heap.push (seqObj "list" #[] 0)).update s.heap.objs.size (Obj.mapSeq (· ++ vs.toArray)) } := by
    have e1 : ((s.heap.push (seqObj "list" #[] 0)).update s.heap.objs.size (Obj.mapSeq (· ++ vs.toArray))).objs.size = s.heap.objs.size + 1 := by rw [Heap.size_update, size_push']
    refine wpAny_bind (wpAny_newList ?_ hz)
    show wpAny _ _ _ _ _ { s with heap := copyHeap s.heap vs }
    rw [e1]
    refine wpAny_bind (wpAny_holding (wpAny_call_entry_kw slot_list_sort ⟨_, copyHeap_at s.heap vs, rfl⟩ entry_list_sort ?_ (a2 _)))
    exact wpAny_mono (body _) (fun f s' hf => ⟨_, hf.1, wpAny_pure ⟨_, rfl, hf.2⟩⟩) fun _ _ e => e
  refine call_function_entry_kw kind_sorted plain_sorted entry_sorted a1 ?_
  unfold Builtin.«sorted»
  exact wpAny_bind (m := checkCount "sorted" 1 1 _) (wpAny_pure (wpAny_bind (collect_tup hl hz fin)))
/-- sorted(xs) of data of any depth -/
theorem sorted_seqD {β : Type} {vs : List Value} {bs : List β} {enc : β → PyData} {R : Value → β → Prop} {l : Addr} {Q : Value → Shared → Prop} (hl : s.heap.IsList l vs.toArray ∨ s.heap.IsTuple l vs.toArray) (e : EachIs R vs bs)
    (er : EachIs (fun v b => ∃ as, Reads s.heap v (enc b) as) vs bs) (hal : AllAlike (bs.map enc)) (hk : Sortable (bs.map enc)) (hz : vs.length ≤ sizeLine) (hu : ∀ b, b ∈ bs → A.units + 2 + (enc b).depth < cLine)
    (h : ∀ out c h', (∀ b o, s.heap.get? b = some o → h'.get? b = some o) → h'.get? (s.heap.objs.size + 1) = some (seqObj "list" (List.toArray out) c) → EachIs R out (bs.mergeSort (dataLe false enc)) → Q (.ref (s.heap.objs.size + 1)) { s with heap := h' }) :
    wpAny (model prog w) A (call (.builtin "sorted") [.ref l]) Q E s := by
  have up : EachIs (fun v b => ∃ as, Reads (sortingHeap (copyHeap s.heap vs) (s.heap.objs.size + 1) vs) v (enc b) as) vs bs := er.mono fun _ _ ⟨as, r⟩ => ⟨as, PyProof.Rows.Reads.keeps (fun _ _ q => sorting_copy_old q) r⟩
  have S : SortsAt prog w A.in1.in1 { s with heap := sortingHeap (copyHeap s.heap vs) (s.heap.objs.size + 1) vs } _ vs := SortsAt.data (s := { s with heap := sortingHeap (copyHeap s.heap vs) (s.heap.objs.size + 1) vs }) (each_map (R := fun v d => ∃ as, Reads (sortingHeap (copyHeap s.heap vs) (s.heap.objs.size + 1) vs) v d as) enc up) hal hk (bound_map (A := A.in1.in1) hu)
  obtain ⟨c, hc⟩ := sortedAll_at s.heap vs (sortVals (dataKind (sortingHeap (copyHeap s.heap vs) (s.heap.objs.size + 1) vs) (bs.map enc)) false vs vs).toArray
  exact sorted_seq hl hz (args_sorted1 _) (fun _ => args_list_sort _) fun E' => list_sort_vals (s := { s with heap := copyHeap s.heap vs }) (copyHeap_at s.heap vs) S hz
    ⟨rfl, h _ c _ (fun _ _ q => sortedAll_old q) hc (sortVals_data false e up hal)⟩
end
section
variable {X : Cx} {pins : List (Addr × Obj)} {σ : St} {H : Hp} {s : Shared}
/-- in the order of the data beside them -/
def sortV {α : Type} (us : List α) (ps : List PyData) : List α := ((us.zip ps).mergeSort (dataLe false Prod.snd)).map (·.1)
theorem each_vals : ∀ {us : List V} {ps : List PyData} {its : List Value}, Vals us its → us.length = ps.length → EachIs (fun v b => RelV b.1 v) its (us.zip ps)
  | [], [], its, r, h => by cases r; exact .nil
  | [], p :: ps, its, r, h => by simp at h
  | u :: us, [], its, r, h => by simp at h
  | u :: us, p :: ps, its, r, h => by
    cases r with
    | cons a b => exact .cons a (each_vals b (by simpa using h))
theorem each_reads (I : Inv X pins σ H s) : ∀ {us : List V} {ps : List PyData} {its : List Value}, Vals us its → DpAll X.K H us ps → EachIs (fun v b => ∃ as, Reads s.heap v b.2 as) its (us.zip ps)
  | [], ps, its, r, h => by
    cases r; cases h; exact .nil
  | u :: us, ps, its, r, h => by
    cases r with
    | cons a b =>
      cases h with
      | cons c d => exact .cons (Dp.reads I _ _ _ c a) (each_reads I b d)
theorem vals_each : ∀ {bs : List (V × PyData)} {its : List Value}, EachIs (fun v (b : V × PyData) => RelV b.1 v) its bs → Vals (bs.map (·.1)) its
  | [], its, h => by cases h; exact .nil
  | b :: bs, its, h => by
    cases h with
    | cons a c => exact .cons a (vals_each c)
theorem dpAll_len {K : PySem.W.Frag} : ∀ {us : List V} {ps : List PyData}, DpAll K H us ps → us.length = ps.length
  | [], ps, h => by cases h; rfl
  | u :: us, ps, h => by
    cases h with
    | cons a b => rw [List.length_cons, List.length_cons, dpAll_len b]
theorem zip_snd {α β : Type} : ∀ {xs : List α} {ys : List β}, xs.length = ys.length → (xs.zip ys).map (·.2) = ys
  | [], [], h => rfl
  | [], y :: ys, h => by simp at h
  | x :: r, [], h => by simp at h
  | x :: r, y :: s, h => by rw [List.zip_cons_cons, List.map_cons, zip_snd (by simpa using h)]
theorem sortV_len {α : Type} (us : List α) (ps : List PyData) (h : us.length = ps.length) : (sortV us ps).length = us.length := by
  unfold sortV
  rw [List.length_map, (List.mergeSort_perm _ _).length_eq, List.length_zip, h, Nat.min_self]
/-- sorted(xs), xs a list or a tuple -/
def rSortQ (K : PySem.W.Frag) : List V → Hp → VK → Prop := fun xs H Q => ∃ p us ps, xs = [.ref p] ∧ (SqL K H p us ∨ SqT K H p us) ∧ DpAll K H us ps ∧ AllAlike ps ∧ Sortable ps ∧ (∀ d ∈ ps, d.depth ≤ 40) ∧ ∀ l, H l = none → Q (.ref l) (upd H l (.lst (sortV us ps)))
theorem cr_sortedQ (hu : X.A.units + 64 < cLine) : CallR X (.builtin "sorted") (rSortQ X.K) := by
  intro pins s σ H vs us Q I r h
  obtain ⟨p, xs, ps, rfl, hq, hd, hal, hk, hdp, q⟩ := h
  rw [Vals.ref1 r]
  have hlen := dpAll_len hd
  have go : ∀ its : List Value, Vals xs its → xs.length ≤ sizeLine → (s.heap.IsList p its.toArray ∨ s.heap.IsTuple p its.toArray) → wpAny (model X.prog X.w) X.A (call (.builtin "sorted") [.ref p]) (EP X pins σ Q) X.xe s := fun its rv hz hl => by
    have hz' : its.length ≤ sizeLine := by rw [← rv.length]; exact hz
    refine sorted_seqD (bs := xs.zip ps) (enc := Prod.snd) hl (each_vals rv hlen) (each_reads I rv hd) (by rw [zip_snd hlen]; exact hal) (by rw [zip_snd hlen]; exact hk) hz' (fun b hb => ?_) fun out c h' kp ho eo => ?_
    · have := hdp _ (List.of_mem_zip hb).2
      omega
    · have hl2 : (sortV xs ps).length ≤ sizeLine := by rw [sortV_len xs ps hlen]; exact hz
      exact ⟨.ref _, _, I.laid (t' := s.toks) kp (Nat.le_succ _) (show ObjOk X.prog X.w _ h' _ (.lst (sortV xs ps)) from ⟨hl2, out, c, vals_each eo, ho⟩), rfl, q _ (I.hok.fresh (Nat.le_succ _))⟩
  rcases hq with hq | hq
  · obtain ⟨its, rv, hl, hz⟩ := I.list hq
    exact go its rv hz (.inl hl.isList)
  · obtain ⟨its, rv, hl, hz⟩ := I.tuple hq
    exact go its rv hz (.inr hl)
end
end L2
namespace Mm
open PySem L2 PySem.W
section
variable {w : Wn} {W : WX} {σ : St} {c c' : Cn} {H H' : Hp} {n n' : Nat} {S : Sto} {env : Env} {Γ : Cls'} {X : Cx}
theorem ats_sort {ds : List D} {vs : List V} {ps : List PyData} (t : Ats w c H n ds vs) (hl : ds.length = ps.length) : Ats w c H n (sortV ds ps) (sortV vs ps) := by
  have hv := t.len
  have e1 : (ds.zip ps) = (ds.zip (vs.zip ps)).map fun x => (x.1, x.2.2) := by
    clear t
    induction ds generalizing vs ps with
    | nil => rfl
    | cons d ds ih =>
      cases vs with
      | nil => simp at hv
      | cons v vs =>
        cases ps with
        | nil => simp at hl
        | cons p ps => simp only [List.zip_cons_cons, List.map_cons]; rw [ih (by simpa using hl) (by simpa using hv)]
  have e2 : (vs.zip ps) = (ds.zip (vs.zip ps)).map fun x => x.2 := by
    clear t e1
    induction ds generalizing vs ps with
    | nil => cases vs with
      | nil => rfl
      | cons v vs => simp at hv
    | cons d ds ih =>
      cases vs with
      | nil => simp at hv
      | cons v vs =>
        cases ps with
        | nil => simp at hl
        | cons p ps => simp only [List.zip_cons_cons, List.map_cons]; rw [← ih (by simpa using hl) (by simpa using hv)]
  have hal0 : ∀ x ∈ ds.zip (vs.zip ps), At w c H n x.1 x.2.1 := fun x hx => by
    clear e1 e2
    induction ds generalizing vs ps with
    | nil => cases hx
    | cons d ds ih =>
      obtain ⟨v, vr, rfl, a1, a2⟩ := t.uncons
      cases ps with
      | nil => simp at hl
      | cons p ps =>
        rw [List.zip_cons_cons, List.zip_cons_cons] at hx
        rcases List.mem_cons.mp hx with h | h
        · rw [h]; exact a1
        · exact ih a2 (by simpa using hl) a2.len h
  have hall : ∀ x ∈ (ds.zip (vs.zip ps)).mergeSort (dataLe false fun x => x.2.2), At w c H n x.1 x.2.1 := fun x hx => hal0 x ((List.mergeSort_perm _ _).mem_iff.mp hx)
  have m1 : sortV ds ps = ((ds.zip (vs.zip ps)).mergeSort (dataLe false fun x => x.2.2)).map (·.1) := by
    unfold sortV
    rw [e1, ← List.map_mergeSort (r := dataLe false fun x => x.2.2) (f := fun x : D × V × PyData => (x.1, x.2.2)) (fun a _ b _ => rfl), List.map_map]
    rfl
  have m2 : sortV vs ps = ((ds.zip (vs.zip ps)).mergeSort (dataLe false fun x => x.2.2)).map (·.2.1) := by
    unfold sortV
    rw [e2, ← List.map_mergeSort (r := dataLe false fun x => x.2.2) (f := fun x : D × V × PyData => x.2) (fun a _ b _ => rfl), List.map_map, ← e2]
    rfl
  rw [m1, m2]
  revert hall
  generalize (ds.zip (vs.zip ps)).mergeSort (dataLe false fun x => x.2.2) = l
  intro hall
  induction l with
  | nil => exact .nil
  | cons x l ih => exact .cons (hall x List.mem_cons_self) (ih fun y hy => hall y (List.mem_cons_of_mem _ hy))
theorem pyDs_len : ∀ {ds : List D} {ps : List PyData}, pyDs ds = some ps → ds.length = ps.length
  | [], ps, h => by unfold pyDs at h; cases h; rfl
  | d :: r, ps, h => by
    unfold pyDs at h
    cases h1 : pyD d with
    | none => rw [h1] at h; cases h
    | some p =>
      rw [h1] at h
      cases h2 : pyDs r with
      | none => rw [h2] at h; cases h
      | some q => rw [h2] at h; cases h; rw [List.length_cons, List.length_cons, pyDs_len h2]
open Classical in
/-- sorted(x) of data of any depth -/
noncomputable def sortQ (x : D) (S : Sto) : R D := match seqOf S x with
  | some ds => match pyDs ds with
    | some ps => .if (AllAlike ps ∧ Sortable ps ∧ ∀ d ∈ ps, d.depth ≤ 40) (.ok (.lst (sortV ds ps)) S)
    | none => .bad
  | none => .bad
open Classical in
theorem g_sortQ : GCall Γ X (f1 sortQ) (rSortQ X.K) := by
  refine .one fun W σ c H S x v Q r a h => ?_
  unfold sortQ at h
  cases hs : seqOf S x with
  | none => rw [hs] at h; exact h.elim
  | some ds =>
    rw [hs] at h
    dsimp only at h
    cases hp : pyDs ds with
    | none => rw [hp] at h; exact h.elim
    | some ps =>
      rw [hp] at h
      obtain ⟨⟨h1, h2, h3⟩, h⟩ := Po.if h
      obtain ⟨p, vs, rfl, g, t⟩ := seqOf_at (w := ⟨X.K, Γ⟩) r a hs
      exact ⟨p, vs, ps, rfl, g, pyDs_at ds vs ps t hp, h1, h2, h3, fun l hl => fin_lst h r (ats_sort t (pyDs_len hp)) hl⟩
end
end Mm
set_option maxRecDepth 100000
/-! sorted(xs, key=f): f is a def of the module that makes data of data. -/
namespace L2
open PySem PySem.Spec PyProof.Rows PySem.W
mutual
def noL : PyData → Bool
  | .none => true
  | .bool _ => true
  | .int _ => true
  | .str _ => true
  | .tuple xs => noLs xs
  | _ => false
def noLs : List PyData → Bool
  | [] => true
  | x :: xs => noL x && noLs xs
end
mutual
theorem reads_nil {h : Heap} : ∀ (d : PyData) (v : Value) (as : List Addr), noL d = true → Reads h v d as → as = []
  | .none, v, as, n, r => by cases r; rfl
  | .bool _, v, as, n, r => by cases r; rfl
  | .int _, v, as, n, r => by cases r; rfl
  | .str _, v, as, n, r => by cases r; rfl
  | .tuple xs, v, as, n, r => by
    cases r with
    | tuple h1 h2 h3 h4 => exact readsAll_nil xs _ _ (by unfold noL at n; exact n) h4
  | .list _, v, as, n, r => by unfold noL at n; cases n
  | .dict _, v, as, n, r => by unfold noL at n; cases n
theorem readsAll_nil {h : Heap} : ∀ (ds : List PyData) (vs : List Value) (as : List Addr), noLs ds = true → ReadsAll h vs ds as → as = []
  | [], vs, as, n, r => by cases r; rfl
  | d :: ds, vs, as, n, r => by
    unfold noLs at n
    rw [Bool.and_eq_true] at n
    cases r with
    | cons h1 h2 => rw [reads_nil d _ _ n.1 h1, readsAll_nil ds _ _ n.2 h2]; rfl
end
theorem noLs_get : ∀ {ds : List PyData} {i : Nat} {d : PyData}, noLs ds = true → ds[i]? = some d → noL d = true
  | [], i, d, n, e => by simp at e
  | x :: xs, 0, d, n, e => by
    unfold noLs at n
    rw [Bool.and_eq_true] at n
    cases e; exact n.1
  | x :: xs, i + 1, d, n, e => by
    unfold noLs at n
    rw [Bool.and_eq_true] at n
    exact noLs_get n.2 (by simpa using e)
theorem readsAll_get {h : Heap} : ∀ {ds : List PyData} {vs : List Value} {as : List Addr} {i : Nat} {d : PyData}, ReadsAll h vs ds as → ds[i]? = some d → ∃ v bs, vs[i]? = some v ∧ Reads h v d bs
  | [], vs, as, i, d, r, e => by simp at e
  | x :: xs, vs, as, i, d, r, e => by
    cases r with
    | cons h1 h2 =>
      cases i with
      | zero => cases e; exact ⟨_, _, rfl, h1⟩
      | succ i =>
        obtain ⟨v, bs, e1, e2⟩ := readsAll_get h2 (show xs[i]? = some d by simpa using e)
        exact ⟨v, bs, by simpa using e1, e2⟩
/-- a def that makes a key of data, and nothing else -/
def KeyFn (K : PySem.W.Frag) (f : Addr) (kf : PyData → Option PyData) : Prop :=
  ∀ (P : Program) (wd : World) (A : Around) (s : Shared) (u : Value) (d k : PyData), A.handled = none → A.depth < recursionLimit → K.In s.heap → s.heap.NoLimit → Reads s.heap u d [] → noL d = true → kf d = some k →
    wpAny (model P wd) A (call (.ref f) [u]) (KeyPure k s) (fun _ _ => False) s
section
variable {prog : Program} {w : World} {A : Around} {E : Value → Shared → Prop} {s : Shared}
/-- sorted(xs, key=f) -/
theorem sorted_seqK {β : Type} {vs : List Value} {bs : List β} {R : Value → β → Prop} {l : Addr} {f : Value} {kw : List (Str × Value)} {Q : Value → Shared → Prop} (k : β → PyData) (hl : s.heap.IsList l vs.toArray ∨ s.heap.IsTuple l vs.toArray) (e : EachIs R vs bs)
    (hal : AllAlike (bs.map k)) (hk : Sortable (bs.map k)) (hz : vs.length ≤ sizeLine) (hu : ∀ x, x ∈ bs → A.units + 2 + (k x).depth < cLine) (a1 : argsOk "sorted" ⟨[.ref l], kw⟩) (a2 : ∀ x : Addr, argsOk "list.sort" ⟨[.ref x], kw⟩)
    (ht : ∀ x : Addr, Builtin.«list.sort» ⟨[.ref x], kw⟩ = ksk_tree x f false)
    (turn : ∀ (v : Value) (x : β), R v x → x ∈ bs → ∀ (h : Heap) (tk : Nat), (∀ b o, s.heap.get? b = some o → h.get? b = some o) → wpAny (model prog w) A.in1.in1 (call f [v]) (KeyPure (k x) { s with heap := h, toks := tk }) (fun _ _ => False) { s with heap := h, toks := tk })
    (h : ∀ out c h' tk, (∀ b o, s.heap.get? b = some o → h'.get? b = some o) → h'.get? (s.heap.objs.size + 1) = some (seqObj "list" (List.toArray out) c) → EachIs R out (bs.mergeSort (dataLe false k)) → Q (.ref (s.heap.objs.size + 1)) { s with heap := h', toks := tk }) :
    wpAny (model prog w) A (call (.builtin "sorted") [.ref l] kw) Q E s := by
  have he : (bs.map k).length = vs.length := by rw [List.length_map]; exact e.length.symm
  have up : ∀ {g : Heap}, KeepsBut (s.heap.objs.size + 1) (copyHeap s.heap vs) g → ∀ b o, s.heap.get? b = some o → g.get? b = some o := fun {g} kp b o q => kp b o (Nat.ne_of_lt (Nat.lt_succ_of_lt (Heap.lt_size q))) (copyHeap_old q)
  refine sorted_seq hl hz a1 a2 fun E' => ?_
  rw [ht]
  exact keyH_tree (s := { s with heap := copyHeap s.heap vs }) (A := A.in1.in1) (copyHeap_at s.heap vs) he hz hal hk (bound_map (A := A.in1.in1) hu)
    (keyH_turns (s := { s with heap := copyHeap s.heap vs }) e fun v x hR hx g tk kp => turn v x hR hx g tk (up kp)) fun h' tk out c kp ho ko => ⟨rfl, h out c h' tk (up kp) ho (keyedOut_each k ko e)⟩
end
section
variable {X : Cx} {pins : List (Addr × Obj)} {σ : St} {H : Hp} {s : Shared}
def kyD (kf : PyData → Option PyData) (p : PyData) : PyData := (kf p).getD .none
def sortK {α : Type} (kf : PyData → Option PyData) (us : List α) (ps : List PyData) : List α := ((us.zip ps).mergeSort (dataLe false fun b => kyD kf b.2)).map (·.1)
def rSortK (K : PySem.W.Frag) (f : Addr) (kf : PyData → Option PyData) : List V → List V → Hp → VK → Prop := fun xs zs H Q => ∃ p us ps, xs = [.ref p] ∧ zs = [.ref f] ∧ (SqL K H p us ∨ SqT K H p us) ∧ DpAll K H us ps ∧ (∀ d ∈ ps, noL d = true ∧ (kf d).isSome) ∧ AllAlike (ps.map (kyD kf)) ∧ Sortable (ps.map (kyD kf)) ∧ (∀ d ∈ ps, (kyD kf d).depth ≤ 40) ∧ ∀ l, H l = none → Q (.ref l) (upd H l (.lst (sortK kf us ps)))
theorem each_mem {α β : Type} {R : α → β → Prop} : ∀ {xs : List α} {ys : List β}, EachIs R xs ys → ∀ x y, (x, y) ∈ xs.zip ys → R x y
  | [], [], e, x, y, h => by cases h
  | x :: xs, y :: ys, e, x', y', h => by
    cases e with
    | cons a b =>
      rw [List.zip_cons_cons] at h
      rcases List.mem_cons.mp h with h | h
      · cases h; exact a
      · exact each_mem b x' y' h
theorem each_and {α β : Type} {R T : α → β → Prop} : ∀ {xs : List α} {ys : List β}, EachIs R xs ys → EachIs T xs ys → EachIs (fun x y => R x y ∧ T x y) xs ys
  | [], [], a, b => .nil
  | x :: xs, y :: ys, a, b => by
    cases a with
    | cons a1 a2 =>
      cases b with
      | cons b1 b2 => exact .cons ⟨a1, b1⟩ (each_and a2 b2)
theorem sortK_len {α : Type} (kf : PyData → Option PyData) (us : List α) (ps : List PyData) (h : us.length = ps.length) : (sortK kf us ps).length = us.length := by
  unfold sortK
  rw [List.length_map, (List.mergeSort_perm _ _).length_eq, List.length_zip, h, Nat.min_self]
theorem cr_sortedK {f : Addr} {kf : PyData → Option PyData} (hc : X.calm = true) (hu : X.A.units + 64 < cLine) (hdp : X.A.depth < recursionLimit) (F : KeyFn X.K f kf) :
    CallRK X (.builtin "sorted") ["key"] (rSortK X.K f kf) := by
  intro pins s σ H vs zs us ws Q I r rz h
  obtain ⟨p, xs, ps, rfl, rfl, hq, hd, hkf, hal, hk, hdp', q⟩ := h
  rw [Vals.ref1 r, Vals.ref1 rz]
  have hlen := dpAll_len hd
  have hh := I.ok.hd hc
  have go : ∀ its : List Value, Vals xs its → xs.length ≤ sizeLine → (s.heap.IsList p its.toArray ∨ s.heap.IsTuple p its.toArray) → wpAny (model X.prog X.w) X.A (call (.builtin "sorted") [.ref p] [("key", .ref f)]) (EP X pins σ Q) X.xe s := fun its rv hz hl => by
    have hz' : its.length ≤ sizeLine := by rw [← rv.length]; exact hz
    have em : (xs.zip ps).map (fun b => kyD kf b.2) = ps.map (kyD kf) := by
      rw [show (xs.zip ps).map (fun b => kyD kf b.2) = ((xs.zip ps).map (·.2)).map (kyD kf) by rw [List.map_map]; rfl, zip_snd hlen]
    refine sorted_seqK (bs := xs.zip ps) (R := fun v b => RelV b.1 v ∧ ∃ as, Reads s.heap v b.2 as) (fun b => kyD kf b.2) hl (each_and (each_vals rv hlen) (each_reads I rv hd)) (by rw [em]; exact hal) (by rw [em]; exact hk) hz' (fun b hb => ?_) (ksk_s1 _ _) (fun _ => ksk_l1 _ _) (fun _ => ksk_t1 _ _) (fun v b hR hb h tk kp => ?_) fun out c h' tk kp ho eo => ?_
    · have := hdp' _ (List.of_mem_zip hb).2
      omega
    · obtain ⟨n1, n2⟩ := hkf _ (List.of_mem_zip hb).2
      obtain ⟨as, hr⟩ := hR.2
      have has := reads_nil _ _ _ n1 hr
      subst has
      obtain ⟨k, ek⟩ := Option.isSome_iff_exists.mp n2
      have hkd : kyD kf b.2 = k := by unfold kyD; rw [ek]; rfl
      rw [hkd]
      exact F X.prog X.w X.A.in1.in1 { s with heap := h, toks := tk } v b.2 k hh hdp (I.kIn.keeps kp) (I.nolimit.keeps kp) (PyProof.Rows.Reads.keeps kp hr) n1 ek
    · have hl2 : (sortK kf xs ps).length ≤ sizeLine := by rw [sortK_len kf xs ps hlen]; exact hz
      exact ⟨.ref _, _, I.laid (t' := tk) kp (Nat.le_succ _) (show ObjOk X.prog X.w _ h' _ (.lst (sortK kf xs ps)) from ⟨hl2, out, c, vals_each (eo.mono fun _ _ z => z.1), ho⟩), rfl, q _ (I.hok.fresh (Nat.le_succ _))⟩
  rcases hq with hq | hq
  · obtain ⟨its, rv, hl, hz⟩ := I.list hq
    exact go its rv hz (.inl hl.isList)
  · obtain ⟨its, rv, hl, hz⟩ := I.tuple hq
    exact go its rv hz (.inr hl)
end
end L2
namespace Mm
open PySem L2 PySem.W
section
variable {w : Wn} {W : WX} {σ : St} {c c' : Cn} {H H' : Hp} {n n' : Nat} {S : Sto} {env : Env} {Γ : Cls'} {X : Cx} {e : Expr} {ma : EM} {pos : Pos}
theorem ats_sortK {kf : PyData → Option PyData} {ds : List D} {vs : List V} {ps : List PyData} (t : Ats w c H n ds vs) (hl : ds.length = ps.length) : Ats w c H n (sortK kf ds ps) (sortK kf vs ps) := by
  have hv := t.len
  have z1 : (ds.zip ps) = (ds.zip (vs.zip ps)).map fun x => (x.1, x.2.2) := by
    clear t
    induction ds generalizing vs ps with
    | nil => rfl
    | cons d ds ih =>
      cases vs with
      | nil => simp at hv
      | cons v vs =>
        cases ps with
        | nil => simp at hl
        | cons p ps => simp only [List.zip_cons_cons, List.map_cons]; rw [ih (by simpa using hl) (by simpa using hv)]
  have z2 : (vs.zip ps) = (ds.zip (vs.zip ps)).map fun x => x.2 := by
    clear t z1
    induction ds generalizing vs ps with
    | nil => cases vs with
      | nil => rfl
      | cons v vs => simp at hv
    | cons d ds ih =>
      cases vs with
      | nil => simp at hv
      | cons v vs =>
        cases ps with
        | nil => simp at hl
        | cons p ps => simp only [List.zip_cons_cons, List.map_cons]; rw [← ih (by simpa using hl) (by simpa using hv)]
  have h0 : ∀ x ∈ ds.zip (vs.zip ps), At w c H n x.1 x.2.1 := fun x hx => by
    clear z1 z2
    induction ds generalizing vs ps with
    | nil => cases hx
    | cons d ds ih =>
      obtain ⟨v, vr, rfl, a1, a2⟩ := t.uncons
      cases ps with
      | nil => simp at hl
      | cons p ps =>
        rw [List.zip_cons_cons, List.zip_cons_cons] at hx
        rcases List.mem_cons.mp hx with h | h
        · rw [h]; exact a1
        · exact ih a2 (by simpa using hl) a2.len h
  have h1 : ∀ x ∈ (ds.zip (vs.zip ps)).mergeSort (dataLe false fun x => kyD kf x.2.2), At w c H n x.1 x.2.1 := fun x hx => h0 x ((List.mergeSort_perm _ _).mem_iff.mp hx)
  have m1 : sortK kf ds ps = ((ds.zip (vs.zip ps)).mergeSort (dataLe false fun x => kyD kf x.2.2)).map (·.1) := by
    unfold sortK
    rw [z1, ← List.map_mergeSort (r := dataLe false fun x => kyD kf x.2.2) (f := fun x : D × V × PyData => (x.1, x.2.2)) (fun a _ b _ => rfl), List.map_map]
    rfl
  have m2 : sortK kf vs ps = ((ds.zip (vs.zip ps)).mergeSort (dataLe false fun x => kyD kf x.2.2)).map (·.2.1) := by
    unfold sortK
    rw [z2, ← List.map_mergeSort (r := dataLe false fun x => kyD kf x.2.2) (f := fun x : D × V × PyData => x.2) (fun a _ b _ => rfl), List.map_map, ← z2]
    rfl
  rw [m1, m2]
  revert h1
  generalize (ds.zip (vs.zip ps)).mergeSort (dataLe false fun x => kyD kf x.2.2) = l
  intro h1
  induction l with
  | nil => exact .nil
  | cons x l ih => exact .cons (h1 x List.mem_cons_self) (ih fun y hy => h1 y (List.mem_cons_of_mem _ hy))
/-- a def of the module that makes keys -/
structure KfOk (K : PySem.W.Frag) (mg : Str → Option Value) (x : Str) (kf : PyData → Option PyData) : Prop where
  ex : ∃ f, mg x = some (.ref f) ∧ KeyFn K f kf
open Classical in
/-- sorted(x, key=..) -/
noncomputable def sortKD (kf : PyData → Option PyData) (x : D) (S : Sto) : R D := match seqOf S x with
  | some ds => match pyDs ds with
    | some ps => .if ((∀ d ∈ ps, noL d = true ∧ (kf d).isSome) ∧ AllAlike (ps.map (kyD kf)) ∧ Sortable (ps.map (kyD kf)) ∧ ∀ d ∈ ps, (kyD kf d).depth ≤ 40) (.ok (.lst (sortK kf ds ps)) S)
    | none => .bad
  | none => .bad
noncomputable def e_sortK (kf : PyData → Option PyData) (m : EM) : EM := fun env S => (m env S).bind (sortKD kf)
@[simp] theorem e_sortK_eq (kf : PyData → Option PyData) (m : EM) (env : Env) (S : Sto) : e_sortK kf m env S = (m env S).bind (sortKD kf) := rfl
open Classical in
theorem c_sortK {lv : Nat} {x : Str} {kf : PyData → Option PyData} {p q kpos : Pos} (hc : X.calm = true) (hr : Room lv X.A) (G : KfOk X.K X.mg x kf) (hm : X.mg "sorted" = none) (he : CE Γ X W e ma) (hg : Gl X "sorted" := by rfl) (hgx : Gl X x := by rfl) (hdb : (x == ("__debug__" : Str)) = false := by decide)
    (h1 : backTo pos (starEach [e] X.env) = (false, eval e X.env) :: backTo pos (starEach [] X.env) := by rfl) (h2 : (backTo pos (starEach [e] X.env)).any (·.1) = false := by rfl)
    (h3 : (backToKw pos (keywordEach [⟨some "key", .Name x q, kpos⟩] X.env)).all (·.1.isSome) = true := by rfl) (h4 : (backToKw pos (keywordEach [⟨some "key", .Name x q, kpos⟩] X.env)).any (·.1.isNone) = false := by rfl) (h5 : (backToKw pos (keywordEach [⟨some "key", .Name x q, kpos⟩] X.env)).filterMap (·.1) = [("key" : Str)] := by rfl)
    (h6 : starEach [e] X.env = (false, eval e X.env) :: starEach [] X.env := by rfl) :
    CE Γ X W (.Call (.Name "sorted" p) [e] [⟨some "key", .Name x q, kpos⟩] pos) (e_sortK kf ma) := by
  obtain ⟨f, hf, F⟩ := G.ex
  have hd : X.A.depth < recursionLimit := by have := hr.dp; omega
  refine PE.weak (pe_callBK (cr_sortedK hc (hu64 hr) hd F) hg hm (by decide +kernel) (pa_cons he pa_nil h6) (pk_cons (pe_glob (v := .ref f) hgx hf rfl hdb) pk_nil) (by decide) (by decide) h1 h2 h3 h4 h5) fun σ H Q ⟨c, env, S, r, ev, h⟩ => ?_
  refine ⟨c, env, S, r, ev, (Po.bind h).imp fun v H1 ⟨c1, S1, d1, e1, r1, a1, h1⟩ => ?_⟩
  unfold sortKD at h1
  cases hs : seqOf S1 d1 with
  | none => rw [hs] at h1; exact h1.elim
  | some ds =>
    rw [hs] at h1
    dsimp only at h1
    cases hp : pyDs ds with
    | none => rw [hp] at h1; exact h1.elim
    | some ps =>
      rw [hp] at h1
      obtain ⟨⟨k1, k2, k3, k4⟩, h1⟩ := Po.if h1
      obtain ⟨p, vs, rfl, g, t⟩ := seqOf_at (w := ⟨X.K, Γ⟩) r1 a1 hs
      exact ⟨p, vs, ps, rfl, rfl, g, pyDs_at ds vs ps t hp, k1, k2, k3, k4, fun l hl => fin_lst h1 r1 (ats_sortK t (pyDs_len hp)) hl⟩
end
end Mm
set_option maxRecDepth 100000
/-! defs that make keys: an item of a tuple; a pair with its first number turned round -/
namespace L2
open PySem PySem.Spec PyProof.Rows PySem.W
def itemK (i : Nat) (d : PyData) : Option PyData := match d with
  | .tuple xs => xs[i]?
  | _ => none
section
variable {K : PySem.W.Frag} {x qual nm : Str} {st : Stmt} {f : Addr} {fd : FuncData}
/-- def f(n): return n[i] -/
theorem key_sub {i : Nat} {j : Nat} {p1 p2 p3 p4 : Pos} (F : Fun K x qual st f fd) (hi : i < 1000) (hb : defBody st = [.Return (some (.Subscript (.Name nm p1) (.Constant (.int i) j p2) p3)) p4])
    (hbind : ∀ (kV doc pm : Value) (an : Option Addr) (cdv ct u : Value), bindArgs (PySem.W.fnOf x qual (defArgs st) (defBody st) (defScope st) .none kV doc pm an cdv ct) ⟨[u], []⟩ = pure [(nm, u)])
    (hcell : ∀ y ∈ (defScope st).names, y.2 ≠ .cell) (hloc : (defScope st).names.lookup nm = some .local) (h1 : (defScope st).isCoroutine = false) (h2 : (defScope st).isGenerator = false) (h3 : (defScope st).kind = .function) (hdb : (nm == ("__debug__" : Str)) = false) : KeyFn K f (itemK i) := by
  intro P wd A s u d k hd hdep KX lim hr nl hk
  obtain ⟨oc, od, kV, doc, pm, an, cdv, ct, osl, rfl, lk, hcd⟩ := F.ex
  cases d with
  | tuple xs =>
    cases hr with
    | tuple e1 e2 e3 e4 =>
      rename_i a o vs n
      obtain ⟨v, bs, ev, er⟩ := readsAll_get e4 (show xs[i]? = some k from hk)
      have hbs := reads_nil _ _ _ (noLs_get (by unfold noL at nl; exact nl) (show xs[i]? = some k from hk)) er
      subst hbs
      refine wpAny_call (codeAny_call_straight (body := defBody st) (binds := [(nm, .ref a)]) hdep (KX _ _ lk) rfl lim (PySem.W.codeRec_of KX hcd) rfl (hbind kV doc pm an cdv ct _) hcell (fun y hy => ?_) (fun s1 x => ?_) h1 h2 h3)
      · rw [List.mem_singleton.mp hy]; exact hloc
      obtain ⟨g, tk, rfl, kp⟩ := x.done
      rw [hb]
      have ht : IsTup g a vs := ⟨o, kp _ _ e1, e2, n, e3⟩
      have hs : vs[i]? = some v := by
        rw [← Array.getElem?_toList]; exact ev
      have hlt : i < vs.size := by
        have := (List.getElem?_eq_some_iff.mp ev).1
        simpa using this
      have hat : atI vs.toList (i : Int) = some v := by rw [Mm.atI_k]; exact ev
      obtain ⟨j', q1, q2, q3, q4, q5⟩ := atI_get hat
      refine wpAny_execs_cons (wpAny_Return_some (Subscript_ (ldI (v := .ref a) x h3 hloc (by simp) (wpAny_Constant_int ?_) hdb)))
      refine subscriptTail_builtinR (x := v) (T := "tuple") ht.typeIs slot_tuple_getitem.lookup (getItem_tuple (j := j') (Q := fun r s' => r = v ∧ KeyPure k s r s') ht (by omega) (by omega) (by simpa using q1) (by rw [← Array.getElem?_toList]; exact q2) ⟨rfl, g, tk + 1, rfl, kp, PyProof.Rows.Reads.keeps kp er⟩) ?_
      rfl
  | _ => cases hk
def negK (d : PyData) : Option PyData := match d with
  | .tuple [.int a, .int b] => some (.tuple [.int (-a), .int b])
  | _ => none
/-- def f(n): d, e = n; return (-d, e) -/
theorem key_neg {dn sn : Str} {k1 k2 : Nat} {p1 p2 p3 p4 p5 p6 p7 p8 p9 p10 : Pos} (F : Fun K x qual st f fd)
    (hb : defBody st = [.Assign [.Tuple [.Name dn p1, .Name sn p2] k1 p3] (.Name nm p4) p5, .Return (some (.Tuple [.UnaryOp .USub (.Name dn p6) p7, .Name sn p8] k2 p9)) p10])
    (hbind : ∀ (kV doc pm : Value) (an : Option Addr) (cdv ct u : Value), bindArgs (PySem.W.fnOf x qual (defArgs st) (defBody st) (defScope st) .none kV doc pm an cdv ct) ⟨[u], []⟩ = pure [(nm, u)])
    (hcell : ∀ y ∈ (defScope st).names, y.2 ≠ .cell) (hloc : (defScope st).names.lookup nm = some .local) (hld : (defScope st).names.lookup dn = some .local) (hls : (defScope st).names.lookup sn = some .local) (h1 : (defScope st).isCoroutine = false) (h2 : (defScope st).isGenerator = false) (h3 : (defScope st).kind = .function)
    (hdb : (nm == ("__debug__" : Str)) = false) (hdd : (dn == ("__debug__" : Str)) = false) (hds : (sn == ("__debug__" : Str)) = false) (hne : dn ≠ sn) : KeyFn K f negK := by
  intro P wd A s u d k hd hdep KX lim hr nl hk
  obtain ⟨oc, od, kV, doc, pm, an, cdv, ct, osl, rfl, lk, hcd⟩ := F.ex
  have inv : ∃ a b, d = .tuple [.int a, .int b] ∧ k = .tuple [.int (-a), .int b] := by
    unfold negK at hk
    split at hk
    · cases hk; exact ⟨_, _, rfl, rfl⟩
    · cases hk
  obtain ⟨ia, ib, rfl, rfl⟩ := inv
  obtain ⟨bs, hr⟩ : ∃ bs, Reads s.heap u (.tuple [.int ia, .int ib]) bs := ⟨_, hr⟩
  cases hr with
  | tuple e1 e2 e3 e4 =>
    rename_i a o vs n
    obtain ⟨ta, tb, hvs⟩ : ∃ ta tb, vs.toList = [.int ia ta, .int ib tb] := by
      generalize vs.toList = l at e4
      cases e4 with
      | cons q1 q2 =>
        cases q1
        cases q2 with
        | cons q3 q4 =>
          cases q3
          cases q4
          exact ⟨_, _, rfl⟩
    refine wpAny_call (codeAny_call_straight (body := defBody st) (binds := [(nm, .ref a)]) hdep (KX _ _ lk) rfl lim (PySem.W.codeRec_of KX hcd) rfl (hbind kV doc pm an cdv ct _) hcell (fun y hy => ?_) (fun s1 x => ?_) h1 h2 h3)
    · rw [List.mem_singleton.mp hy]; exact hloc
    rw [hb]
    refine wpAny_execs_cons (wpAny_Assign_stores (ldI (v := .ref a) x h3 hloc (by simp) ?_ hdb) ?_ ?_)
    · obtain ⟨g, tk, rfl, kp⟩ := x.done
      have ht : IsTup g a vs := ⟨o, kp _ _ e1, e2, n, e3⟩
      have hsz : vs.size = 2 := by rw [← Array.length_toList, hvs]; rfl
      have en : ∀ env, (assignEach [Expr.Tuple [.Name dn p1, .Name sn p2] k1 p3] env).map (·.2) = [assign (Expr.Tuple [.Name dn p1, .Name sn p2] k1 p3) env] := fun _ => rfl
      rw [en]
      show wpAny _ _ (assign (Expr.Tuple [.Name dn p1, .Name sn p2] k1 p3) _ (.ref a)) _ _ _
      refine assign_Tuple_tuple (show (A.deeper _).handled = none from hd) ht (by rw [hsz]; rfl) rfl fun h' hx => ?_
      have kx : ∀ b o, g.get? b = some o → h'.get? b = some o := fun b o e => hx b o (Nat.ne_of_lt (Heap.lt_size e)) e
      have x1 : InCall s s.heap.objs.size _ { s with heap := h', toks := tk } := ⟨⟨h', tk, rfl⟩, x.ns.keeps kx, fun b o e => kx b o (kp b o e), Nat.le_refl _⟩
      have hp : ∀ fd' : FuncData, fd'.scope.kind = .function → ∀ (L a : Addr), ((callEnv fd' L a).scope.kind == .class || ((callEnv fd' L a).scope.kind == .module && (callEnv fd' L a).locals != (callEnv fd' L a).globals)) = false := fun fd' hk L a => by
        have : (callEnv fd' L a).scope.kind = .function := hk
        rw [this]; rfl
      rw [hvs]
      show wpAny _ _ (assignInOrder [assign (.Name dn p1) _, assign (.Name sn p2) _] [.int ia ta, .int ib tb]) _ _ _
      refine assignInOrder_cons (wpAny_assign_Name (stI x1 hld (hp _ h3 _ _) fun s2 x2 => assignInOrder_cons (wpAny_assign_Name (stI x2 hls (hp _ h3 _ _) fun s3 x3 => assignInOrder_nil ?_))))
      refine wpAny_execs_cons (wpAny_Return_some (wpAny_Tuple_spliced ?_))
      show wpAny _ _ (spliced [(false, eval (.UnaryOp .USub (.Name dn p6) p7) _), (false, eval (.Name sn p8) _)]) _ _ _
      refine Calls.spliced_cons (UnaryOp_ (ldI (v := .int ia ta) x3 h3 hld (by simp [hne]) (neg_int ?_) hdd))
      refine Calls.spliced_cons (ldI (v := .int ib tb) (x3.tok _) h3 hls (by simp) (Calls.spliced_nil ⟨by rw [sizeLine_eq]; simp, ?_⟩) hds)
      obtain ⟨g3, tk3, rfl, kp3⟩ := x3.done
      refine ⟨_, _, rfl, fun b o e => Heap.get?_push_of_some _ (kp3 b o e), ?_⟩
      exact .tuple (Heap.get?_push_size _ rfl) rfl rfl (.cons (.int _ _) (.cons (.int _ _) .nil))
    · rfl
    · rfl
end
end L2
set_option maxRecDepth 100000
/-! a tuple times an int of 1 or more. -/
namespace L2
open PySem PySem.Spec PyProof.Rows PySem.W
theorem tuple_mul1 (l : Addr) (items : Array Value) (n : Nat) (dd : Option Addr) (sl : Array (Option Value)) (u : Tok) :
    Meets (Builtin.«tuple.__mul__» ⟨[.ref l, .int 1 u], []⟩) (fun _ R s => s.heap.get? l = some { cls := .type "tuple", dict := dd, data := .seq items n, slots := sl } ∧ R (.ok (.ret (Value.ref l))) s) :=
  .of_wp fun prog w A R s h => by
    obtain ⟨hp, g, d, tk, os⟩ := s
    obtain ⟨hl, h⟩ := h
    have f1 := AutoSeq1.idx_int
    have c0 : (decide ((1 : Int) < -(2 ^ 63)) || decide ((1 : Int) ≥ 2 ^ 63)) = false := by decide
    have c1 : (items.isEmpty || (1 : Int) == 1) = true := by simp
    wp_walk using wpAny_loadPart' hl
    repeat (first
      | (refine wpAny_ite_false (decide_eq_false (by rw [c0]; exact Bool.false_ne_true)) ?_; wp_walk using wpAny_loadPart' hl)
      | (refine wpAny_ite_true (decide_eq_true c1) ?_; wp_walk using wpAny_loadPart' hl))
    exact ⟨_, rfl, h⟩
def rRepOne (K : PySem.W.Frag) : R2 := fun x y H Q => ∃ l xs, x = .ref l ∧ y = .int 1 ∧ SqT K H l xs ∧ Q x H
theorem op_repOne {X : Cx} : OpR X (binaryOp .Mult) (rRepOne X.K) := by
  intro pins s σ H x y v u Q I rx ry h
  obtain ⟨l, xs, rfl, rfl, hT, q⟩ := h
  cases rx
  obtain ⟨t, rfl⟩ := ry
  obtain ⟨its, r, ⟨⟨cls, dd, data, sl⟩, ho, hc, n, hd⟩, hs⟩ := I.tuple hT
  simp only at hc hd
  subst hc hd
  refine wpAny_binaryOp_repeat_ref (T := "tuple") (U := "int") (by decide) ⟨_, ho, rfl⟩ (fun s' => typeIs_int s' 1 t) noFill_tuple_mul F.fills_int_mul F.slot_int_rmul repeat_tuple F.slot_int_index.lookup
    (call_meets F.slot_int_rmul (typeIs_int s 1 t) F.entry_int_rmul (F.args_int_rmul_2 _ _) (int_rmul_tuple 1 t l its.toArray n dd sl)
      ⟨ho, rfl, ⟨_, ho, rfl⟩, call_meets F.slot_tuple_mul ⟨_, ho, rfl⟩ F.entry_tuple_mul (F.args_tuple_mul_2 _ _) (tuple_mul1 l its.toArray n dd sl t) ⟨ho, ?_⟩⟩)
  exact ⟨.ref l, _, I, rfl, q⟩
def rMulT (K : PySem.W.Frag) : R2 := fun x y H Q => rRepT K x y H Q ∨ rRepOne K x y H Q
theorem op_mulT {X : Cx} : OpR X (binaryOp .Mult) (rMulT X.K) := op_repT.or op_repOne
end L2
namespace Mm
open PySem PySem.Spec PyProof.Rows PySem.W L2
/-- a tuple times an int -/
def mulTD (x y : D) (S : Sto) : R D := match x, y with
  | .tup ds, .int k => .if (ds ≠ [] ∧ ds.length ≤ 1000 ∧ 1 ≤ k ∧ k ≤ 1000) (.ok (.tup (List.replicate k.toNat ds).flatten) S)
  | _, _ => .bad
@[simp] theorem mulTD_eq (ds : List D) (k : Int) (S : Sto) : mulTD (.tup ds) (.int k) S = .if (ds ≠ [] ∧ ds.length ≤ 1000 ∧ 1 ≤ k ∧ k ≤ 1000) (.ok (.tup (List.replicate k.toNat ds).flatten) S) := rfl
theorem g_mulT {Γ : Cls'} {X : Cx} : GOp Γ X mulTD (rMulT X.K) := by
  intro W σ c H S x y v u Q r a b h
  cases x with
  | tup ds =>
    cases y with
    | int k =>
      obtain ⟨⟨hn, hl, h1, h2⟩, h⟩ := Po.if h
      have a' := a
      obtain ⟨p, vs, rfl, g, t⟩ := a.tup
      by_cases hk : k = 1
      · subst hk
        have e : (List.replicate (1 : Int).toNat ds).flatten = ds := by simp
        rw [e] at h
        exact .inr ⟨p, vs, rfl, b.int, g, fin_ok h r a'⟩
      · refine .inl ⟨p, k, vs, rfl, b.int, g, fun e => hn ?_, by omega, h2, by rw [t.len]; exact hl, fun z hz => fin_tup h r (ats_rep t _) hz⟩
        have := t.len
        rw [e] at this
        exact List.eq_nil_of_length_eq_zero this.symm
    | _ => exact h.elim
  | _ => cases y <;> exact h.elim
end Mm
set_option maxRecDepth 100000
/-! x not in a list, both as data -/
namespace Mm
open PySem L2
section
variable {Γ : Cls'} {X : Cx}
open Classical in
noncomputable def niLD (x y : D) (S : Sto) : R D := match pyOf S x, pyOf S y with
  | some p, some (.list ps) => .if (SeqAt.shaped p = true ∧ SeqAt.shaped (.list ps) = true) (.ok (.bl (!ps.any fun z => PyData.eqv z p)) S)
  | _, _ => .bad
theorem g_niL : GOp Γ X niLD (rNotInD X.K) := fun W σ c H S x y v u Q r a b h => by
  unfold niLD at h
  cases hx : pyOf S x with
  | none => rw [hx] at h; exact h.elim
  | some p =>
    cases hy : pyOf S y with
    | none => rw [hx, hy] at h; exact h.elim
    | some q =>
      rw [hx, hy] at h
      cases q with
      | list ps =>
        obtain ⟨⟨s1, s2⟩, h⟩ := Po.if h
        exact ⟨p, ps, pyOf_at (w := ⟨X.K, Γ⟩) r a hx, pyOf_at (w := ⟨X.K, Γ⟩) r b hy, s1, s2, fin_ok h r (.b _)⟩
      | _ => exact h.elim
end
end Mm
set_option maxRecDepth 100000
/-! range(i, j, c) -/
namespace Mm
open PySem L2
section
variable {Γ : Cls'} {X : Cx} {W : WX} {ma mb mc : EM} {a b : Expr} {tg : Expr}
/-- lo, lo + c, .. -/
def rngC (lo c : Int) : Nat → List D
  | 0 => []
  | k + 1 => .int lo :: rngC (lo + c) c k
theorem rngC_len : ∀ (lo c : Int) (k : Nat), (rngC lo c k).length = k
  | lo, c, 0 => rfl
  | lo, c, k + 1 => by unfold rngC; rw [List.length_cons, rngC_len]
theorem rngC_get : ∀ (lo c : Int) (k i : Nat) (d : D), (rngC lo c k)[i]? = some d → i < k ∧ d = .int (lo + (i : Nat) * c)
  | lo, c, 0, i, d, h => by unfold rngC at h; simp at h
  | lo, c, k + 1, 0, d, h => by unfold rngC at h; cases h; exact ⟨Nat.succ_pos _, by simp⟩
  | lo, c, k + 1, i + 1, d, h => by
    unfold rngC at h
    rw [List.getElem?_cons_succ] at h
    obtain ⟨h1, h2⟩ := rngC_get _ _ _ _ _ h
    refine ⟨Nat.succ_lt_succ h1, ?_⟩
    rw [h2]
    congr 1
    rw [show ((i + 1 : Nat) : Int) = (i : Int) + 1 by omega, Int.add_mul, Int.one_mul]
    omega
theorem wkC {w : Wn} {c0 : Cn} {H : Hp} {n : Nat} {lo c : Int} {k : Nat} : Wk w c0 H n (rngC lo c k, none) (Itc lo c k) := by
  intro c1 H1 S e r st i
  refine ⟨fun d hd => ?_, fun hi => ?_⟩
  · obtain ⟨h1, rfl⟩ := rngC_get _ _ _ _ _ hd
    refine ⟨h1, ?_⟩
    rintro x H2 ⟨rfl, rfl⟩
    exact ⟨Ext.refl, r, .i _⟩
  · change i = (rngC lo c k).length at hi
    rw [rngC_len] at hi
    exact Nat.le_of_eq hi.symm
open Classical in
noncomputable def i_rng3 (m m2 m3 : EM) : IM := fun env S => (m env S).bind fun d S1 => (m2 env S1).bind fun e S2 => (m3 env S2).bind fun f S3 => match d, e, f with
  | .int i, .int j, .int c => .if (RgC i j c (Builtin.Range.rangeSize i j c).toNat) (.ok (rngC i c (Builtin.Range.rangeSize i j c).toNat, none) S3)
  | _, _, _ => .bad
open Classical in
@[simp] theorem i_rng3_eq (m m2 m3 : EM) (env : Env) (S : Sto) : i_rng3 m m2 m3 env S = (m env S).bind fun d S1 => (m2 env S1).bind fun e S2 => (m3 env S2).bind fun f S3 => match d, e, f with
  | .int i, .int j, .int c => .if (RgC i j c (Builtin.Range.rangeSize i j c).toNat) (.ok (rngC i c (Builtin.Range.rangeSize i j c).toNat, none) S3)
  | _, _, _ => .bad := rfl
open Classical in
theorem ci_rng3 {c0 : Expr} {p pos : Pos} (hg : Gl X "range") (hm : X.mg "range" = none) (ha : CE Γ X W a ma) (hb : CE Γ X W b mb) (hc : CE Γ X W c0 mc)
    (hs : starEach [a, b, c0] X.env = (false, eval a X.env) :: starEach [b, c0] X.env := by rfl) (hpl : (backTo pos (starEach [b, c0] X.env)).any (·.1) = false := by rfl)
    (hs4 : starEach [b, c0] X.env = (false, eval b X.env) :: starEach [c0] X.env := by rfl) (hs5 : starEach [c0] X.env = (false, eval c0 X.env) :: starEach [] X.env := by rfl) : CI Γ X W tg (.Call (.Name "range" p) [a, b, c0] [] pos) (i_rng3 ma mb mc) := by
  refine PI.weak (pi_range3 hg hm (pa_cons ha (pa_cons hb (pa_cons hc pa_nil hs5) hs4) hs) hs hpl) fun σ H R ⟨c, env, S, r, ev, h⟩ => ?_
  refine ⟨c, env, S, r, ev, (Po.bind h).imp fun v H1 ⟨c1, S1, d1, e1, r1, a1, h1⟩ => ?_⟩
  refine ⟨c1, env, S1, r1, ev.mono e1, (Po.bind h1).imp fun u H2 ⟨c2, S2, d2, e2, r2, a2, h2⟩ => ?_⟩
  refine ⟨c2, env, S2, r2, (ev.mono e1).mono e2, (Po.bind h2).imp fun t H3 ⟨c3, S3, d3, e3, r3, a3, h3⟩ => ?_⟩
  show ∃ (i j k : Int) (n : Nat), [v, u, t] = [V.int i, V.int j, V.int k] ∧ _
  cases d1 with
  | int i =>
    cases d2 with
    | int j =>
      cases d3 with
      | int k =>
        obtain ⟨hb, h3⟩ := Po.if h3
        exact ⟨i, j, k, _, by rw [a1.int, a2.int, a3.int], hb, h3 c3 H3 _ Ext.refl r3 wkC⟩
      | _ => exact h3.elim
    | _ => cases d3 <;> exact h3.elim
  | _ => cases d2 <;> cases d3 <;> exact h3.elim
end
end Mm
set_option maxRecDepth 100000
/-! A for loop over a dict that is a local variable: its place is locked while it is walked. -/
namespace Mm
open PySem L2
noncomputable def s_forKL (i : Nat) (g : GM) (m : SM) : SM := fun env S => match env[i]? with
  | some (some d) => match dicOf S d with
    | some p => match keysK p.1 with
      | some l => (loopS g m none l env S).noex
      | none => .bad
    | none => .bad
  | _ => .bad
@[simp] theorem s_forKL_eq (i : Nat) (g : GM) (m : SM) (env : Env) (S : Sto) : s_forKL i g m env S = match env[i]? with
  | some (some d) => match dicOf S d with
    | some p => match keysK p.1 with
      | some l => (loopS g m none l env S).noex
      | none => .bad
    | none => .bad
  | _ => .bad := rfl
section
variable {Γ : Cls'} {X : Cx} {W : WX} {tg : Expr} {pos : Pos}
theorem c_forKL {x : Str} {i : Nat} {p1 : Pos} {body : List Stmt} {g : GM} {m : SM} {sl : List Nat} (hlk : Γ.lk = none) (hp : PassesOwn (model X.prog X.w) X.A X.env X.xe) (hc : X.calm = true)
    (hg : ∀ p, CG (Γ.lock p) X tg sl g) (hb : ∀ p, CSs (Γ.lock p) X W body m) (hN : X.N[i]? = some x := by rfl) (hv : Vis X.env.scope x := by first | exact Or.inl rfl | exact Or.inr (Or.inl rfl) | exact Or.inr (Or.inr rfl)) (hd : (x == ("__debug__" : Str)) = false := by decide) (hcd : (x == ("__classdict__" : Str)) = false := by decide)
    (hs : ∀ y, foldedSetIterable (.Name x p1) X.env y = pure y := by intro _; rfl) : CS Γ X W (.For tg (.Name x p1) body [] pos) (s_forKL i g m) := by
  have hi := pi_keys (X := X) (tg := tg) (pe_var (pos := p1) hN hv hd hcd)
  have T : ∀ p, PS X (.For tg (.Name x p1) body [] pos) (tFor (iKeys (tVar i)) (mTg ⟨X.K, Γ.lock p⟩ sl g) (mS ⟨X.K, Γ.lock p⟩ W m)) := fun p => ps_for hp hc hi (hg p) (hb p) hs
  refine PS.weak (ps_lock ⟨fun pins s σ H D I (q : ∃ p, tFor (iKeys (tVar i)) (mTg ⟨X.K, Γ.lock p⟩ sl g) (mS ⟨X.K, Γ.lock p⟩ W m) D σ H) => (T q.choose).run pins s σ H D I q.choose_spec⟩) fun Dn σ H ⟨c, env, S, r, ev, h⟩ => ?_
  rw [s_forKL_eq] at h
  cases he : env[i]? with
  | none => rw [he] at h; exact h.elim
  | some o =>
    cases o with
    | none => rw [he] at h; exact h.elim
    | some d =>
      simp only [he] at h
      obtain ⟨v, hσ, ad⟩ := ev.get he
      cases hfd : dicOf S d with
      | none => rw [hfd] at h; exact h.elim
      | some y =>
        rw [hfd] at h
        dsimp only at h
        obtain ⟨p, us, rfl, t2, hk⟩ := dicOf_at (ks := y.1) (ds := y.2) r ad hfd
        rcases hk with ⟨kk, hk, hl, hks⟩ | ⟨kk, hk, hl, hks⟩
        · have hk := hk.ex hlk
          unfold keysK at h
          rw [hks, kkO_map] at h
          simp only [Option.map_some] at h
          refine ⟨p, _, hk, trivial, fun od => ⟨p, ?_⟩⟩
          refine ⟨.ref p, hσ, p, od, rfl, .inl ⟨_, upd_same, ?_⟩⟩
          exact for_tail (it := (kk.map keyD, none)) (rep_lock hlk hk trivial r) (wkK hl upd_same) (envr_lock hlk hk trivial ev) (pos_lock hk trivial h)
        · rw [hks, show keysK (.non :: kk.map tupD) = none from rfl] at h
          exact h.elim
end
end Mm
set_option maxRecDepth 100000
/-! texts: " " * n, sep.join(xs), str(n), f"..". -/
namespace L2
open PySem PySem.Spec PyProof.Rows PySem.W
/-- a text so many times -/
def repS (x : Str) (n : Int) : Str := if n < 1 then Str.empty else if (n == 1 || x.length == 0) = true then x else { cps := List.foldl (fun x1 x2 => x1 ++ x2) #[] (List.replicate n.toNat x.cps) }
def rMulS : R2 := fun x y H Q => ∃ s k, x = .str s ∧ y = .int k ∧ s.length ≤ 1000 ∧ 0 ≤ k ∧ k ≤ 1000 ∧ (repS s k).length ≤ sizeLine ∧ s.length * k.toNat ≤ sizeLine ∧ Q (.str (repS s k)) H
theorem op_mulS {X : Cx} : OpR X (binaryOp .Mult) rMulS := by
  intro pins s σ H x y v u Q I rx ry h
  obtain ⟨a, k, rfl, rfl, ha, h0, h1, hl, hz, q⟩ := h
  obtain ⟨t, rfl⟩ := rx
  obtain ⟨t', rfl⟩ := ry
  refine P.mul_str ?_ (fun hn hm => ?_) (fun hn hm => ?_) ?_
  · rw [Bool.or_eq_false_iff]
    exact ⟨decide_eq_false (by omega), decide_eq_false (by omega)⟩
  · have e : (2 : Int) ^ 63 - 1 = 9223372036854775807 := by decide
    have hk : (a.length : Int) * k ≤ 1000 * 1000 := Int.mul_le_mul (by omega) h1 h0 (by omega)
    have : (a.length : Int) ≤ (2 ^ 63 - 1) / k := Int.le_ediv_of_mul_le (by omega) (by rw [e]; omega)
    omega
  · unfold Builtin.Str.tooLong
    simp
    omega
  · unfold repS at q hl
    split
    · rename_i hn
      rw [if_pos hn] at q hl
      exact ⟨hl, .str Str.empty, H, I.tok _, ⟨_, rfl⟩, q⟩
    · rename_i hn
      rw [if_neg hn] at q hl
      split
      · rename_i hm
        rw [if_pos hm] at q
        exact ⟨.str a, H, I, ⟨_, rfl⟩, q⟩
      · rename_i hm
        rw [if_neg hm] at q hl
        exact ⟨hl, .str _, H, I.tok _, ⟨_, rfl⟩, q⟩
end L2
namespace Mm
open PySem L2 PySem.W
section
variable {w : Wn} {W : WX} {σ : St} {c c' : Cn} {H H' : Hp} {n n' : Nat} {S : Sto} {env : Env} {Γ : Cls'} {X : Cx} {e : Expr} {ma : EM} {pos : Pos}
def mulSD (x y : D) (S : Sto) : R D := match x, y with
  | .str s, .int k => .if (s.length ≤ 1000 ∧ 0 ≤ k ∧ k ≤ 1000 ∧ (repS s k).length ≤ sizeLine ∧ s.length * k.toNat ≤ sizeLine) (.ok (.str (repS s k)) S)
  | _, _ => .bad
@[simp] theorem mulSD_eq (s : Str) (k : Int) (S : Sto) : mulSD (.str s) (.int k) S = .if (s.length ≤ 1000 ∧ 0 ≤ k ∧ k ≤ 1000 ∧ (repS s k).length ≤ sizeLine ∧ s.length * k.toNat ≤ sizeLine) (.ok (.str (repS s k)) S) := rfl
theorem g_mulS : GOp Γ X mulSD rMulS := by
  intro W σ c H S x y v u Q r a b h
  cases x with
  | str s =>
    cases y with
    | int k =>
      obtain ⟨⟨h1, h2, h3, h4, h5⟩, h⟩ := Po.if h
      exact ⟨s, k, a.str, b.int, h1, h2, h3, h4, h5, fin_ok h r (.s _)⟩
    | _ => exact h.elim
  | _ => cases y <;> exact h.elim
/-- str(n) -/
def strID (x : D) (S : Sto) : R D := match x with
  | .int i => .if (i.natAbs.log2 < 1920) (.ok (.str (Str.ofString (toString i))) S)
  | _ => .bad
@[simp] theorem strID_eq (i : Int) (S : Sto) : strID (.int i) S = .if (i.natAbs.log2 < 1920) (.ok (.str (Str.ofString (toString i))) S) := rfl
theorem g_strI : GCall Γ X (f1 strID) (fun xs H Q => ∃ i, xs = [V.int i] ∧ i.natAbs.log2 < 1920 ∧ Q (V.str (Str.ofString (toString i))) H) := by
  refine .one fun W σ c H S x v Q r a h => ?_
  cases x with
  | int i =>
    obtain ⟨h1, h⟩ := Po.if h
    exact ⟨i, by rw [a.int], h1, fin_ok h r (.s _)⟩
  | _ => exact h.elim
/-- sep.join(xs) -/
def txsO : List D → Option (List Str)
  | [] => some []
  | .str s :: r => (txsO r).map (s :: ·)
  | _ => none
theorem txsO_at : ∀ {ds : List D} {vs : List V} {ys : List Str}, Ats w c H n ds vs → txsO ds = some ys → vs = ys.map V.str
  | [], vs, ys, a, h => by
    cases h; rw [a.unnil]; rfl
  | d :: ds, vs, ys, a, h => by
    obtain ⟨v, vr, rfl, a1, a2⟩ := a.uncons
    cases d with
    | str s =>
      unfold txsO at h
      obtain ⟨zs, hz, rfl⟩ := Option.map_eq_some_iff.mp h
      rw [a1.str, txsO_at a2 hz]; rfl
    | _ => cases h
def tyS (x : D) (_ : Sto) : Bool := match x with
  | .str _ => true
  | _ => false
@[simp] theorem tyS_str (s : Str) (S : Sto) : tyS (.str s) S = true := rfl
theorem gty_str : GTy "str" tyS := by
  intro w c H S x v r a h
  cases x with
  | str s => rw [a.str]; rfl
  | _ => cases h
def joinD (x : D) (ds : List D) (S : Sto) : R D := match x, ds with
  | .str a, [y] => .ofO (((seqOf S y).bind txsO).bind fun ys => if (ys.map (·.length)).sum + ys.length * a.length ≤ 16777216 then some (.str (Txt.join a ys)) else none) S
  | _, _ => .bad
@[simp] theorem joinD_eq (a : Str) (y : D) (S : Sto) : joinD (.str a) [y] S = .ofO (((seqOf S y).bind txsO).bind fun ys => if (ys.map (·.length)).sum + ys.length * a.length ≤ 16777216 then some (.str (Txt.join a ys)) else none) S := rfl
theorem gm_join : GMt Γ X joinD (fun x xs H Q => ∃ a p, ∃ ys : List Str, x = V.str a ∧ xs = [V.ref p] ∧ (SqL X.K H p (ys.map V.str) ∨ SqT X.K H p (ys.map V.str)) ∧ (ys.map (·.length)).sum + ys.length * a.length ≤ 16777216 ∧ Q (V.str (Txt.join a ys)) H) := by
  intro W σ c H S x v ds vs Q r a t h
  cases x with
  | str s =>
    cases ds with
    | nil => exact h.elim
    | cons y rs =>
      cases rs with
      | nil =>
        obtain ⟨u, rfl, ay⟩ := t.un1
        rw [joinD_eq] at h
        obtain ⟨d, hd, h⟩ := Po.ofO h
        cases hs : seqOf S y with
        | none => rw [hs] at hd; cases hd
        | some es =>
          rw [hs, Option.bind_some] at hd
          cases hy : txsO es with
          | none => rw [hy] at hd; cases hd
          | some ys =>
            rw [hy, Option.bind_some] at hd
            split at hd
            · rename_i hz
              cases hd
              obtain ⟨p, us, rfl, g, te⟩ := seqOf_at (w := ⟨X.K, Γ⟩) r ay hs
              rw [txsO_at te hy] at g
              exact ⟨s, p, ys, a.str, rfl, g, hz, fin_ok h r (.s _)⟩
            · cases hd
      | cons z rs => exact h.elim
  | _ => exact h.elim
/-! f-strings -/
def fmtD (x : D) (S : Sto) : R D := match x with
  | .str y => .if (y.length ≤ sizeLine) (.ok (.str y) S)
  | .int i => .if (i.natAbs.log2 < 1920) (.ok (.str (Str.ofString (toString i))) S)
  | _ => .bad
@[simp] theorem fmtD_str (y : Str) (S : Sto) : fmtD (.str y) S = .if (y.length ≤ sizeLine) (.ok (.str y) S) := rfl
@[simp] theorem fmtD_int (i : Int) (S : Sto) : fmtD (.int i) S = .if (i.natAbs.log2 < 1920) (.ok (.str (Str.ofString (toString i))) S) := rfl
def e_fmt (m : EM) : EM := fun env S => (m env S).bind fmtD
@[simp] theorem e_fmt_eq (m : EM) (env : Env) (S : Sto) : e_fmt m env S = (m env S).bind fmtD := rfl
theorem c_fmt (he : CE Γ X W e ma) : CE Γ X W (.FormattedValue e (-1) none pos) (e_fmt ma) := by
  refine PE.weak (pe_fmt he) fun σ H Q ⟨c, env, S, r, ev, h⟩ => ?_
  refine ⟨c, env, S, r, ev, (Po.bind h).imp fun v H1 ⟨c1, S1, d1, e1, r1, a1, h1⟩ => ?_⟩
  cases d1 with
  | str y =>
    obtain ⟨hl, h1⟩ := Po.if h1
    exact .inl ⟨y, a1.str, hl, fin_ok h1 r1 (.s _)⟩
  | int i =>
    obtain ⟨hl, h1⟩ := Po.if h1
    exact .inr ⟨i, a1.int, hl, fin_ok h1 r1 (.s _)⟩
  | _ => exact h1.elim
def e_js : List EM → Str → EM
  | [], acc, _, S => .ok (.str acc) S
  | m :: r, acc, env, S => (m env S).bind fun d S1 => match d with
    | .str y => .if ((acc ++ y).length ≤ sizeLine) (e_js r (acc ++ y) env S1)
    | _ => .bad
@[simp] theorem e_js_nil (acc : Str) (env : Env) (S : Sto) : e_js [] acc env S = .ok (.str acc) S := rfl
@[simp] theorem e_js_cons (m : EM) (r : List EM) (acc : Str) (env : Env) (S : Sto) : e_js (m :: r) acc env S = (m env S).bind fun d S1 => match d with
    | .str y => .if ((acc ++ y).length ≤ sizeLine) (e_js r (acc ++ y) env S1)
    | _ => .bad := rfl
inductive CJ (Γ : Cls') (X : Cx) (W : WX) : List Expr → List EM → Prop
  | nil : CJ Γ X W [] []
  | cons {e : Expr} {m : EM} {es : List Expr} {ms : List EM} : CE Γ X W e m → CJ Γ X W es ms → CJ Γ X W (e :: es) (m :: ms)
theorem CJ.pj {es : List Expr} {ms : List EM} (h : CJ Γ X W es ms) : PJ X es (ms.map (mE ⟨X.K, Γ⟩ W)) := by
  induction h with
  | nil => exact .nil
  | cons a _ ih => exact .cons a ih
theorem js_read {w : Wn} {Q : VK} : ∀ (ms : List EM) (acc : Str) (σ : L2.St) (H : Hp), mE w W (e_js ms acc) σ H Q → tJs (ms.map (mE w W)) acc σ H fun out H1 => Q (.str out) H1
  | [], acc, σ, H, ⟨c, env, S, r, ev, h⟩ => fin_ok h r (.s _)
  | m :: ms, acc, σ, H, ⟨c, env, S, r, ev, h⟩ => by
    refine ⟨c, env, S, r, ev, (Po.bind h).imp fun v H1 ⟨c1, S1, d1, e1, r1, a1, h1⟩ => ?_⟩
    cases d1 with
    | str y =>
      obtain ⟨hl, h1⟩ := Po.if h1
      exact ⟨y, a1.str, hl, js_read ms (acc ++ y) σ H1 ⟨c1, env, S1, r1, ev.mono e1, h1⟩⟩
    | _ => exact h1.elim
theorem c_joined {e1 e2 : Expr} {es : List Expr} {ms : List EM} (h : CJ Γ X W (e1 :: e2 :: es) ms) : CE Γ X W (.JoinedStr (e1 :: e2 :: es) pos) (e_js ms Str.empty) :=
  PE.weak (pe_joined h.pj) fun σ H Q z => js_read ms Str.empty σ H z
end
end Mm
set_option maxRecDepth 100000
namespace Mm
open PySem L2
def top (i : Nat) : Stmt := PySem.Challenge.pw_takenahead_k74_systems_are_written.main.body.getD i (.Pass ⟨0, 0, 0, 0⟩)
def items : List (Str × Int) := [("take", 1), ("commit", 1), ("rollback", 1), ("drop", 1), ("leave", 1), ("lock", 2), ("unlock", 2), ("choose", 3)]
def kt_Script : Ty → Option Bool := fun t => match t with
  | .inl "tuple" => some false
  | .inr 1 => some true
  | _ => none
def kt_Kind : Ty → Option Bool := fun t => match t with
  | .inr 4 => some true
  | _ => none
def gKind (x : D) (ds es : List D) : List D := x :: (ds ++ es)
def gSystem (x : D) (es : List D) : List D := x :: es

structure WdT (wd : World) (K : PySem.W.Frag) (Γ : Cls') (mg : Str → Option Value) : Prop where
  b_all : mg "all" = none
  b_bool : mg "bool" = none
  b_enumerate : mg "enumerate" = none
  b_int : mg "int" = none
  b_isinstance : mg "isinstance" = none
  b_len : mg "len" = none
  b_list : mg "list" = none
  b_max : mg "max" = none
  b_range : mg "range" = none
  b_set : mg "set" = none
  b_str : mg "str" = none
  b_sum : mg "sum" = none
  b_tuple : mg "tuple" = none
  b_zip : mg "zip" = none
  c_Kind : KcOk K Γ mg "Kind" kt_Kind
  c_Script : KcOk K Γ mg "Script" kt_Script
  f_Check_found : HasF K Γ 2 0 "found"
  f_Kind_block : HasF K Γ 4 2 "block"
  f_Kind_many : HasF K Γ 4 3 "many"
  f_Kind_name : HasF K Γ 4 0 "name"
  f_Kind_script : HasF K Γ 4 1 "script"
  f_Script_found : HasF K Γ 1 1 "found"
  f_Script_places : HasF K Γ 1 2 "places"
  f_Script_statements : HasF K Γ 1 0 "statements"
  f_System_ahead : HasF K Γ 5 1 "ahead"
  f_System_crashes : HasF K Γ 5 3 "crashes"
  f_System_kinds : HasF K Γ 5 0 "kinds"
  f_System_sessions : HasF K Γ 5 4 "sessions"
  f_System_window : HasF K Γ 5 2 "window"
  g_LONGEST_NAME : GlD K Γ mg "LONGEST_NAME" (.int 8)
  g_LONGEST_OF_MANY : GlD K Γ mg "LONGEST_OF_MANY" (.int 4)
  g_MOST_AHEAD : GlD K Γ mg "MOST_AHEAD" (.int 4)
  g_MOST_BLOCK : GlD K Γ mg "MOST_BLOCK" (.int 3)
  g_MOST_CRASHES : GlD K Γ mg "MOST_CRASHES" (.int 2)
  g_MOST_HELD : GlD K Γ mg "MOST_HELD" (.int 3)
  g_MOST_NESTED : GlD K Γ mg "MOST_NESTED" (.int 2)
  g_MOST_SESSIONS : GlD K Γ mg "MOST_SESSIONS" (.int 3)
  g_MOST_STATEMENTS : GlD K Γ mg "MOST_STATEMENTS" (.int 8)
  g_MOST_WINDOW : GlD K Γ mg "MOST_WINDOW" (.int 8)
  g_OF_BRANCHES : GlD K Γ mg "OF_BRANCHES" (.int 4)
  g_OF_KINDS : GlD K Γ mg "OF_KINDS" (.int 2)
  g_OF_SCRIPTS : GlD K Γ mg "OF_SCRIPTS" (.int 4)
  g_OF_WORDS : GlD K Γ mg "OF_WORDS" (.int 2)
  k_ITEMS : Kd K wd mg "ITEMS" items
  nolk : Γ.lk = none
abbrev s_is_integer : Stmt := top 10
noncomputable def b_is_integer : SM := (s_ret (e_and (e_isi (ktB "int") (e_v 0)) (e_nott (e_isi (ktB "bool") (e_v 0)))))
noncomputable def m_is_integer : FM := runDef 1 1 (b_is_integer)

abbrev s_is_within : Stmt := top 11
noncomputable def b_is_within : SM := (s_ret (e_and (e_fn tr0 m_is_integer (a_cons (e_v 0) a_nil)) (e_chain leD leD (e_v 1) (e_v 0) (e_v 2))))
noncomputable def m_is_within : FM := runDef 3 3 (b_is_within)

abbrev s_is_name : Stmt := top 12
noncomputable def b_is_name : SM := (s_seq (s_if (t_or (t_not (t_v (e_isi (ktB "str") (e_v 0)))) (t_not (t_b (e_chain leD leD (e_k (.int 1)) (e_call (f1 lenD) (a_cons (e_v 0) a_nil)) (e_k (.int 8)))))) (s_ret (e_k (.bl false))) s_nil)
  (s_ret (e_call (f1 allD) (a_cons (e_lcG [1] (i_str (e_v 0)) (g_name 1) t_yes (e_chain strLeD strLeD (e_k (.str "a")) (e_v 1) (e_k (.str "z"))) finL) a_nil))))
noncomputable def m_is_name : FM := runDef 1 2 (b_is_name)

abbrev s_held_after : Stmt := top 21
noncomputable def b_held_after : SM := (s_seq (s_if (t_b (e_op (eqD false) (e_v 0) (e_k (.str "take")))) (s_ret (e_op addD (e_v 1) (e_k (.int 1)))) s_nil)
  (s_ret (e_if (t_b (e_op (inF false) (e_v 0) (e_tup (a_cons (e_k (.str "commit")) (a_cons (e_k (.str "rollback")) (a_cons (e_k (.str "leave")) a_nil)))))) (e_k (.int 0)) (e_v 1))))
noncomputable def m_held_after : FM := runDef 2 2 (b_held_after)

abbrev s_has_form : Stmt := top 22
noncomputable def b_has_form : SM := (s_seq (s_if (t_or (t_not (t_v (e_isi (ktB "tuple") (e_v 0)))) (t_not (t_v (e_v 0)))) (s_ret (e_k (.bl false))) s_nil)
  (s_seq (s_set 1 (e_op ixD (e_v 0) (e_k (.int 0))))
  (s_seq (s_if (t_or (t_not (t_v (e_isi (ktB "str") (e_v 1)))) (t_b (e_op (eqD true) (e_call (f1 lenD) (a_cons (e_v 0) a_nil)) (e_kget items (e_v 1))))) (s_ret (e_k (.bl false))) s_nil)
  (s_seq (s_if (t_b (e_op (eqD false) (e_v 1) (e_k (.str "choose")))) (s_ret (e_and (e_isi (ktB "tuple") (e_op ixD (e_v 0) (e_k (.int 1)))) (e_isi (ktB "tuple") (e_op ixD (e_v 0) (e_k (.int 2)))))) s_nil)
  (s_ret (e_k (.bl true)))))))
noncomputable def m_has_form : FM := runDef 1 2 (b_has_form)

abbrev s_fault_of : Stmt := top 20
noncomputable def b_fault_of : SM := (s_seq (s_if (t_b (e_op (eqD false) (e_v 2) (e_k (.int 8)))) (s_ret (e_k (.str "size"))) s_nil)
  (s_seq (s_if (t_not (t_v (e_fn tr0 m_has_form (a_cons (e_v 0) a_nil)))) (s_ret (e_k (.str "form"))) s_nil)
  (s_seq (s_set 4 (e_op ixD (e_v 0) (e_k (.int 0))))
  (s_seq (s_if (t_and (t_b (e_op (eqD false) (e_v 4) (e_k (.str "choose")))) (t_b (e_op (eqD false) (e_op divD (e_call (f1 lenD) (a_cons (e_v 1) a_nil)) (e_k (.int 2))) (e_k (.int 2))))) (s_ret (e_k (.str "nested"))) s_nil)
  (s_seq (s_if (t_and (t_b (e_op (inF false) (e_v 4) (e_tup (a_cons (e_k (.str "lock")) (a_cons (e_k (.str "unlock")) a_nil))))) (t_not (t_v (e_fn tr0 m_is_name (a_cons (e_op ixD (e_v 0) (e_k (.int 1))) a_nil))))) (s_ret (e_k (.str "name"))) s_nil)
  (s_seq (s_if (t_and (t_b (e_op (eqD false) (e_v 4) (e_k (.str "take")))) (t_b (e_op (eqD false) (e_v 3) (e_k (.int 3))))) (s_ret (e_k (.str "full"))) s_nil)
  (s_ret (e_k .non))))))))
noncomputable def m_fault_of : FM := runDef 4 5 (b_fault_of)

abbrev s_Check___init__ : Stmt := inClass (top 19) 0
noncomputable def b_Check___init__ : SM := (s_fld [(2, 0)] (e_v 0) (e_dnew [.non]))
noncomputable def m_Check___init__ : FM := runDef 1 1 (b_Check___init__)

abbrev s_Check_check_branch : Stmt := inClass (top 19) 1
noncomputable def b_Check_check_branch (m_Check_check_statement : FM) : SM := (s_seq (s_for (i_enum (e_v 1)) (g_tup (g_cons (g_name 4) (g_cons (g_name 5) g_nil))) (s_set 3 (e_mth tr0 2 m_Check_check_statement (e_v 0) (a_cons (e_v 5) (a_cons (e_op addT (e_v 2) (e_ttp (a_cons (e_v 4) a_nil))) (a_cons (e_v 3) a_nil))))))
  (s_ret (e_v 3)))
noncomputable def m_Check_check_branch' (m_Check_check_statement : FM) : FM := runDef 4 6 (b_Check_check_branch m_Check_check_statement)

abbrev s_Check_check_statement : Stmt := inClass (top 19) 2
noncomputable def b_Check_check_statement (m_Check_check_branch : FM) : SM := (s_seq (s_set 4 (e_fn tr0 m_fault_of (a_cons (e_v 1) (a_cons (e_v 2) (a_cons (e_call (f1 dlenD) (a_cons (e_fld [(2, 0)] (e_v 0)) a_nil)) (a_cons (e_v 3) a_nil))))))
  (s_seq (s_if (t_b (e_op (isD true) (e_v 4) (e_k .non))) s_bad s_nil)
  (s_seq (s_dput (e_v 1) (e_fld [(2, 0)] (e_v 0)) (e_v 2))
  (s_seq (s_if (t_b (e_op (eqD false) (e_op ixD (e_v 1) (e_k (.int 0))) (e_k (.str "choose")))) (s_seq (s_set 5 (e_mth tr0 2 m_Check_check_branch (e_v 0) (a_cons (e_op ixD (e_v 1) (e_k (.int 1))) (a_cons (e_op addT (e_v 2) (e_ttp (a_cons (e_k (.int 0)) a_nil))) (a_cons (e_v 3) a_nil)))))
  (s_seq (s_set 6 (e_mth tr0 2 m_Check_check_branch (e_v 0) (a_cons (e_op ixD (e_v 1) (e_k (.int 2))) (a_cons (e_op addT (e_v 2) (e_ttp (a_cons (e_k (.int 1)) a_nil))) (a_cons (e_v 3) a_nil)))))
  (s_ret (e_call (f2 max2D) (a_cons (e_v 5) (a_cons (e_v 6) a_nil)))))) s_nil)
  (s_ret (e_fn tr0 m_held_after (a_cons (e_op ixD (e_v 1) (e_k (.int 0))) (a_cons (e_v 3) a_nil))))))))
noncomputable def m_Check_check_statement' (m_Check_check_branch : FM) : FM := runDef 4 7 (b_Check_check_statement m_Check_check_branch)

noncomputable def mCC : Nat → FM × FM
  | 0 => (runDef 4 6 s_bad, runDef 4 7 s_bad)
  | n + 1 => (m_Check_check_branch' (mCC n).2, m_Check_check_statement' (mCC n).1)
noncomputable def m_Check_check_branch : FM := (mCC 6).1

abbrev s_Script___init__ : Stmt := inClass (top 18) 0
noncomputable def b_Script___init__ : SM := (s_seq (s_if (t_not (t_v (e_isi (ktB "tuple") (e_v 1)))) s_bad s_nil)
  (s_seq (s_if (t_not (t_v (e_v 1))) s_bad s_nil)
  (s_seq (s_set 2 (e_mk tr0 2 m_Check___init__ a_nil))
  (s_seq (s_ex (e_mth tr0 2 m_Check_check_branch (e_v 2) (a_cons (e_v 1) (a_cons (e_ttp a_nil) (a_cons (e_k (.int 0)) a_nil)))))
  (s_seq (s_fld [(1, 0)] (e_v 0) (e_v 1))
  (s_seq (s_fld [(1, 1)] (e_v 0) (e_fld [(1, 1), (2, 0)] (e_v 2)))
  (s_fld [(1, 2)] (e_v 0) (e_call (f1 tupleD) (a_cons (e_call (f1 dlistD) (a_cons (e_fld [(1, 1)] (e_v 0)) a_nil)) a_nil)))))))))
noncomputable def m_Script___init__ : FM := runDef 2 3 (b_Script___init__)

abbrev s_Script___len__ : Stmt := inClass (top 18) 1
noncomputable def b_Script___len__ : SM := (s_ret (e_call (f1 lenD) (a_cons (e_fld [(1, 2)] (e_v 0)) a_nil)))
noncomputable def m_Script___len__ : FM := runDef 1 1 (b_Script___len__)

abbrev s_script_of : Stmt := top 32
noncomputable def b_script_of : SM := (s_seq (s_if (t_v (e_isi kt_Script (e_v 0))) (s_ret (e_v 0)) s_nil)
  (s_nox (s_ret (e_mk trunc 1 m_Script___init__ (a_cons (e_v 0) a_nil)))))
noncomputable def m_script_of : FM := runDef 1 2 (b_script_of)

abbrev s_Kind___init__ : Stmt := inClass (top 30) 0
noncomputable def b_Kind___init__ : SM := (s_seq (s_if (t_not (t_v (e_fn tr0 m_is_name (a_cons (e_v 1) a_nil)))) s_bad s_nil)
  (s_seq (s_set 2 (e_fn tr0 m_script_of (a_cons (e_v 2) a_nil)))
  (s_seq (s_if (t_not (t_v (e_fn tr0 m_is_within (a_cons (e_v 3) (a_cons (e_k (.int 1)) (a_cons (e_k (.int 3)) a_nil)))))) s_bad s_nil)
  (s_seq (s_if (t_not (t_v (e_fn tr0 m_is_within (a_cons (e_v 4) (a_cons (e_k (.int 1)) (a_cons (e_k (.int 3)) a_nil)))))) s_bad s_nil)
  (s_seq (s_fld [(4, 0)] (e_v 0) (e_v 1))
  (s_seq (s_fld [(4, 1)] (e_v 0) (e_v 2))
  (s_seq (s_fld [(4, 2)] (e_v 0) (e_v 3))
  (s_fld [(4, 3)] (e_v 0) (e_v 4)))))))))
noncomputable def m_Kind___init__ : FM := runDef 5 5 (b_Kind___init__)

abbrev s_count_of_sessions : Stmt := top 35
noncomputable def b_count_of_sessions : SM := (s_ret (e_call (f1 sumD) (a_cons (e_lcG [1] (i_seq (e_v 0)) (g_name 1) t_yes (e_fld [(4, 3)] (e_v 1)) finL) a_nil)))
noncomputable def m_count_of_sessions : FM := runDef 1 2 (b_count_of_sessions)

abbrev s_are_kinds : Stmt := top 34
noncomputable def b_are_kinds : SM := (s_seq (s_if (t_or (t_not (t_v (e_v 0))) (t_not (t_v (e_call (f1 allD) (a_cons (e_lcG [1] (i_seq (e_v 0)) (g_name 1) t_yes (e_isi kt_Kind (e_v 1)) finL) a_nil))))) (s_ret (e_k (.bl false))) s_nil)
  (s_seq (s_if (t_b (e_op ltD (e_lens (e_lcG [1] (i_seq (e_v 0)) (g_name 1) t_yes (e_fld [(4, 0)] (e_v 1)) finL)) (e_call (f1 lenD) (a_cons (e_v 0) a_nil)))) (s_ret (e_k (.bl false))) s_nil)
  (s_ret (e_op leD (e_fn tr0 m_count_of_sessions (a_cons (e_v 0) a_nil)) (e_k (.int 3))))))
noncomputable def m_are_kinds : FM := runDef 1 2 (b_are_kinds)

abbrev s_fault_of_system : Stmt := top 33
noncomputable def b_fault_of_system : SM := (s_seq (s_if (t_not (t_v (e_fn tr0 m_are_kinds (a_cons (e_v 0) a_nil)))) (s_ret (e_k (.str "kinds"))) s_nil)
  (s_seq (s_set 4 (e_op (eqD false) (e_fn tr0 m_count_of_sessions (a_cons (e_v 0) a_nil)) (e_k (.int 3))))
  (s_seq (s_if (t_and (t_v (e_v 4)) (t_b (e_op gtD (e_call (f1 maxD) (a_cons (e_lcG [5] (i_seq (e_v 0)) (g_name 5) t_yes (e_call (f1 (lenOwnD 1 m_Script___len__)) (a_cons (e_fld [(4, 1)] (e_v 5)) a_nil)) finL) a_nil)) (e_k (.int 4))))) (s_ret (e_k (.str "size"))) s_nil)
  (s_seq (s_if (t_not (t_v (e_fn tr0 m_is_within (a_cons (e_v 1) (a_cons (e_k (.int 0)) (a_cons (e_k (.int 4)) a_nil)))))) (s_ret (e_k (.str "ahead"))) s_nil)
  (s_seq (s_set 6 (e_call (f1 maxD) (a_cons (e_lcG [5] (i_seq (e_v 0)) (g_name 5) t_yes (e_fld [(4, 2)] (e_v 5)) finL) a_nil)))
  (s_seq (s_if (t_and (t_b (e_op (isD true) (e_v 2) (e_k .non))) (t_not (t_v (e_fn tr0 m_is_within (a_cons (e_v 2) (a_cons (e_v 6) (a_cons (e_k (.int 8)) a_nil))))))) (s_ret (e_k (.str "window"))) s_nil)
  (s_seq (s_if (t_not (t_v (e_fn tr0 m_is_within (a_cons (e_v 3) (a_cons (e_k (.int 0)) (a_cons (e_k (.int 2)) a_nil)))))) (s_ret (e_k (.str "crashes"))) s_nil)
  (s_ret (e_k .non)))))))))
noncomputable def m_fault_of_system : FM := runDef 4 7 (b_fault_of_system)

abbrev s_System___init__ : Stmt := inClass (top 31) 0
noncomputable def b_System___init__ : SM := (s_seq (s_set 5 (e_fn tr0 m_fault_of_system (a_cons (e_v 4) (a_cons (e_v 1) (a_cons (e_v 2) (a_cons (e_v 3) a_nil))))))
  (s_seq (s_if (t_b (e_op (isD true) (e_v 5) (e_k .non))) s_bad s_nil)
  (s_seq (s_fld [(5, 0)] (e_v 0) (e_v 4))
  (s_seq (s_fld [(5, 1)] (e_v 0) (e_v 1))
  (s_seq (s_fld [(5, 2)] (e_v 0) (e_v 2))
  (s_seq (s_fld [(5, 3)] (e_v 0) (e_v 3))
  (s_fld [(5, 4)] (e_v 0) (e_call (f1 tupleD) (a_cons (e_c2 [6, 7] [7] (i_seq (e_v 4)) (g_name 6) t_yes (i_rng1 (e_fld [(4, 3)] (e_v 6))) (g_name 7) t_yes (addL2 (e_fld [(4, 0)] (e_v 6))) [] finL) a_nil)))))))))
noncomputable def m_System___init__ : FM := runDef 5 8 (b_System___init__)

abbrev s_indented : Stmt := top 43
noncomputable def b_indented : SM := (s_ret (e_op addD (e_op mulSD (e_k (.str " ")) (e_v 0)) (e_v 1)))
noncomputable def m_indented : FM := runDef 2 2 (b_indented)

abbrev s_rows_of : Stmt := top 42
noncomputable def b_rows_of (m_rows_of : FM) : SM := (s_seq (s_set 2 (e_new a_nil))
  (s_seq (s_for (i_seq (e_v 0)) (g_name 3) (s_if (t_b (e_op (eqD false) (e_op ixD (e_v 3) (e_k (.int 0))) (e_k (.str "choose")))) (s_seq (s_ex (e_meth tyL appD (e_v 2) (a_cons (e_fn tr0 m_indented (a_cons (e_v 1) (a_cons (e_k (.str "choose")) a_nil))) a_nil)))
  (s_for (i_zip (e_tup (a_cons (e_k (.str "yes")) (a_cons (e_k (.str "no")) a_nil))) (e_sl (e_v 3) (o_some (e_k (.int 1))) o_none)) (g_tup (g_cons (g_name 4) (g_cons (g_name 5) g_nil))) (s_seq (s_ex (e_meth tyL appD (e_v 2) (a_cons (e_fn tr0 m_indented (a_cons (e_op addD (e_v 1) (e_k (.int 2))) (a_cons (e_v 4) a_nil))) a_nil)))
  (s_ex (e_meth tyL ext2D (e_v 2) (a_cons (e_fn trunc m_rows_of (a_cons (e_v 5) (a_cons (e_op addD (e_v 1) (e_k (.int 4))) a_nil))) a_nil)))))) (s_ex (e_meth tyL appD (e_v 2) (a_cons (e_fn tr0 m_indented (a_cons (e_v 1) (a_cons (e_meth tyS joinD (e_k (.str " ")) (a_cons (e_v 3) a_nil)) a_nil))) a_nil)))))
  (s_ret (e_v 2))))
noncomputable def m_rows_of' (m_rows_of : FM) : FM := runDef 2 6 (b_rows_of m_rows_of)

noncomputable def mRO : Nat → FM
  | 0 => runDef 2 6 s_bad
  | n + 1 => m_rows_of' (mRO n)
noncomputable def m_rows_of : FM := mRO 3

abbrev s_write_system : Stmt := top 41
noncomputable def b_write_system : SM := (s_seq (s_set 1 (e_if (t_b (e_op (isD false) (e_fld [(5, 2)] (e_v 0)) (e_k .non))) (e_k (.str "none")) (e_fld [(5, 2)] (e_v 0))))
  (s_seq (s_set 2 (e_new (a_cons (e_js [(e_k (.str "system ahead ")), (e_fmt (e_fld [(5, 1)] (e_v 0))), (e_k (.str " window ")), (e_fmt (e_v 1)), (e_k (.str " crashes ")), (e_fmt (e_fld [(5, 3)] (e_v 0)))] Str.empty) a_nil)))
  (s_seq (s_for (i_seq (e_fld [(5, 0)] (e_v 0))) (g_name 3) (s_seq (s_ex (e_meth tyL appD (e_v 2) (a_cons (e_fn tr0 m_indented (a_cons (e_k (.int 2)) (a_cons (e_js [(e_k (.str "kind ")), (e_fmt (e_fld [(4, 0)] (e_v 3))), (e_k (.str " block ")), (e_fmt (e_fld [(4, 2)] (e_v 3))), (e_k (.str " many ")), (e_fmt (e_fld [(4, 3)] (e_v 3)))] Str.empty) a_nil))) a_nil)))
  (s_ex (e_meth tyL ext2D (e_v 2) (a_cons (e_fn trunc m_rows_of (a_cons (e_fld [(1, 0)] (e_fld [(4, 1)] (e_v 3))) (a_cons (e_k (.int 4)) a_nil))) a_nil)))))
  (s_ret (e_meth tyS joinD (e_k (.str "")) (a_cons (e_lcG [4] (i_seq (e_v 2)) (g_name 4) t_yes (e_op addD (e_v 4) (e_k (.str "\n"))) finL) a_nil))))))
noncomputable def m_write_system : FM := runDef 1 5 (b_write_system)

abbrev s__law_box : Stmt := top 45
noncomputable def b__law_box : SM := (s_seq (s_set 2 (e_k (.int 0)))
  (s_seq (s_if (t_b (e_op ltD (e_v 1) (e_call (f1 lenD) (a_cons (e_v 0) a_nil)))) (s_set 2 (e_call (f1 intcD) (a_cons (e_op ixD (e_v 0) (e_v 1)) a_nil))) s_nil)
  (s_seq (s_if (t_b (e_op geD (e_v 2) (e_op powD (e_k (.int 10)) (e_k (.int 18))))) (s_ret (e_new (a_cons (e_op subD (e_v 2) (e_op powD (e_k (.int 10)) (e_k (.int 18)))) (a_cons (e_op addD (e_op modD (e_call (f1 intcD) (a_cons (e_v 2) a_nil)) (e_k (.int 2147483629))) (e_v 1)) (a_cons (e_k (.int 0)) a_nil))))) s_nil)
  (s_ret (e_new (a_cons (e_k (.int 0)) (a_cons (e_op addD (e_op modD (e_call (f1 intcD) (a_cons (e_v 2) a_nil)) (e_k (.int 2147483629))) (e_op mulD (e_k (.int 104729)) (e_v 1))) (a_cons (e_k (.int 0)) a_nil))))))))
noncomputable def m__law_box : FM := runDef 2 3 (b__law_box)

abbrev s__law_pick : Stmt := top 46
noncomputable def b__law_pick : SM := (s_seq (s_if (t_b (e_op gtD (e_op ixD (e_v 0) (e_k (.int 0))) (e_k (.int 0)))) (s_seq (s_set 2 (e_op modD (e_call (f1 intcD) (a_cons (e_op ixD (e_v 0) (e_k (.int 0))) a_nil)) (e_v 1)))
  (s_seq (s_put (e_op divD (e_op ixD (e_v 0) (e_k (.int 0))) (e_v 1)) (e_v 0) (e_k (.int 0)))
  (s_ret (e_v 2)))) s_nil)
  (s_seq (s_put (e_op addD (e_op ixD (e_v 0) (e_k (.int 2))) (e_k (.int 1))) (e_v 0) (e_k (.int 2)))
  (s_seq (s_set 3 (e_op modD (e_call (f1 intcD) (a_cons (e_op mulD (e_op addD (e_op addD (e_op ixD (e_v 0) (e_k (.int 1))) (e_op mulD (e_k (.int 7919)) (e_op ixD (e_v 0) (e_k (.int 2))))) (e_k (.int 1))) (e_k (.int 48271))) a_nil)) (e_k (.int 2147483647))))
  (s_seq (s_set 3 (e_op modD (e_call (f1 intcD) (a_cons (e_op mulD (e_v 3) (e_op addD (e_op divD (e_v 3) (e_k (.int 1009))) (e_k (.int 69621)))) a_nil)) (e_k (.int 2147483647))))
  (s_seq (s_set 3 (e_op modD (e_call (f1 intcD) (a_cons (e_op mulD (e_v 3) (e_op addD (e_op divD (e_v 3) (e_k (.int 2003))) (e_k (.int 40692)))) a_nil)) (e_k (.int 2147483399))))
  (s_ret (e_op modD (e_call (f1 intcD) (a_cons (e_op divD (e_v 3) (e_k (.int 16))) a_nil)) (e_v 1))))))))
noncomputable def m__law_pick : FM := runDef 2 4 (b__law_pick)

abbrev s__law_seated : Stmt := top 47
noncomputable def b__law_seated : SM := (s_seq (s_set 4 (e_new a_nil))
  (s_seq (s_for (i_seq (e_v 0)) (g_name 5) (s_for (i_rng1 (e_op ixD (e_v 5) (e_k (.int 3)))) (g_name 6) (s_ex (e_meth tyL appD (e_v 4) (a_cons (e_tup (a_cons (e_op ixD (e_v 5) (e_k (.int 1))) (a_cons (e_op ixD (e_v 5) (e_k (.int 2))) a_nil))) a_nil)))))
  (s_ret (e_lst (a_cons (e_v 0) (a_cons (e_v 1) (a_cons (e_v 2) (a_cons (e_v 3) (a_cons (e_v 4) a_nil)))))))))
noncomputable def m__law_seated : FM := runDef 4 7 (b__law_seated)

abbrev s__law_system : Stmt := top 48
noncomputable def b__law_system : SM := (s_seq (s_set 1 (e_lcG [2] (i_seq (e_op ixD (e_v 0) (e_k (.int 0)))) (g_name 2) t_yes (e_mkk trunc 4 m_Kind___init__ gKind 2 2 (a_cons (e_op ixD (e_v 2) (e_k (.int 0))) (a_cons (e_op ixD (e_v 2) (e_k (.int 1))) a_nil)) (a_cons (e_op ixD (e_v 2) (e_k (.int 2))) (a_cons (e_op ixD (e_v 2) (e_k (.int 3))) a_nil))) finL))
  (s_seq (s_if (t_b (e_op (eqD false) (e_call (f1 lenD) (a_cons (e_v 1) a_nil)) (e_k (.int 1)))) (s_ret (e_mks trunc 5 m_System___init__ gSystem 3 (a_cons (e_op ixD (e_v 1) (e_k (.int 0))) a_nil) (a_cons (e_op ixD (e_v 0) (e_k (.int 1))) (a_cons (e_op ixD (e_v 0) (e_k (.int 2))) (a_cons (e_op ixD (e_v 0) (e_k (.int 3))) a_nil))))) s_nil)
  (s_seq (s_if (t_b (e_op (eqD false) (e_call (f1 lenD) (a_cons (e_v 1) a_nil)) (e_k (.int 2)))) (s_ret (e_mks trunc 5 m_System___init__ gSystem 3 (a_cons (e_op ixD (e_v 1) (e_k (.int 0))) (a_cons (e_op ixD (e_v 1) (e_k (.int 1))) a_nil)) (a_cons (e_op ixD (e_v 0) (e_k (.int 1))) (a_cons (e_op ixD (e_v 0) (e_k (.int 2))) (a_cons (e_op ixD (e_v 0) (e_k (.int 3))) a_nil))))) s_nil)
  (s_ret (e_mks trunc 5 m_System___init__ gSystem 3 (a_cons (e_op ixD (e_v 1) (e_k (.int 0))) (a_cons (e_op ixD (e_v 1) (e_k (.int 1))) (a_cons (e_op ixD (e_v 1) (e_k (.int 2))) a_nil))) (a_cons (e_op ixD (e_v 0) (e_k (.int 1))) (a_cons (e_op ixD (e_v 0) (e_k (.int 2))) (a_cons (e_op ixD (e_v 0) (e_k (.int 3))) a_nil))))))))
noncomputable def m__law_system : FM := runDef 1 3 (b__law_system)

abbrev s__law_word : Stmt := top 49
noncomputable def b__law_word : SM := (s_seq (s_set 3 (e_k (.str "abcdefghijklmnopqrstuvwxyz")))
  (s_seq (s_set 4 (e_k (.str "")))
  (s_seq (s_for (i_rng1 (e_fn tr0 m__law_pick (a_cons (e_v 0) (a_cons (e_v 1) a_nil)))) (g_name 5) (s_set 4 (e_op addD (e_v 4) (e_op ixD (e_v 3) (e_fn tr0 m__law_pick (a_cons (e_v 0) (a_cons (e_k (.int 26)) a_nil)))))))
  (s_ret (e_op addD (e_v 4) (e_v 2))))))
noncomputable def m__law_word : FM := runDef 3 6 (b__law_word)

abbrev s__law_branch : Stmt := top 50
noncomputable def b__law_branch (m__law_branch : FM) : SM := (s_seq (s_set 5 (e_new a_nil))
  (s_seq (s_set 6 (e_k (.int 0)))
  (s_seq (s_set 7 (e_lst (a_cons (e_k (.str "take")) (a_cons (e_k (.str "choose")) (a_cons (e_k (.str "commit")) (a_cons (e_k (.str "lock")) (a_cons (e_k (.str "rollback")) (a_cons (e_k (.str "drop")) (a_cons (e_k (.str "unlock")) (a_cons (e_k (.str "leave")) (a_cons (e_k (.str "choose")) (a_cons (e_k (.str "take")) a_nil))))))))))))
  (s_seq (s_for (i_rng1 (e_v 4)) (g_name 8) (s_seq (s_set 9 (e_op ixD (e_v 7) (e_fn tr0 m__law_pick (a_cons (e_v 0) (a_cons (e_k (.int 10)) a_nil)))))
  (s_if (t_b (e_op ltD (e_v 6) (e_v 1))) (s_seq (s_set 6 (e_op addD (e_v 6) (e_k (.int 1))))
  (s_if (t_and (t_b (e_op (eqD false) (e_v 9) (e_k (.str "choose")))) (t_b (e_op ltD (e_v 2) (e_k (.int 2))))) (s_seq (s_set 10 (e_fn trunc m__law_branch (a_cons (e_v 0) (a_cons (e_op divD (e_op addD (e_op subD (e_v 1) (e_v 6)) (e_k (.int 1))) (e_k (.int 2))) (a_cons (e_op addD (e_v 2) (e_k (.int 1))) (a_cons (e_v 3) (a_cons (e_fn tr0 m__law_pick (a_cons (e_v 0) (a_cons (e_k (.int 4)) a_nil))) a_nil)))))))
  (s_seq (s_set 6 (e_op addD (e_v 6) (e_op ixD (e_v 10) (e_k (.int 1)))))
  (s_seq (s_set 11 (e_fn trunc m__law_branch (a_cons (e_v 0) (a_cons (e_op subD (e_v 1) (e_v 6)) (a_cons (e_op addD (e_v 2) (e_k (.int 1))) (a_cons (e_v 3) (a_cons (e_fn tr0 m__law_pick (a_cons (e_v 0) (a_cons (e_k (.int 4)) a_nil))) a_nil)))))))
  (s_seq (s_set 6 (e_op addD (e_v 6) (e_op ixD (e_v 11) (e_k (.int 1)))))
  (s_seq (s_set 3 (e_call (f2 max2D) (a_cons (e_op ixD (e_v 10) (e_k (.int 2))) (a_cons (e_op ixD (e_v 11) (e_k (.int 2))) a_nil))))
  (s_ex (e_meth tyL appD (e_v 5) (a_cons (e_tup (a_cons (e_k (.str "choose")) (a_cons (e_op ixD (e_v 10) (e_k (.int 0))) (a_cons (e_op ixD (e_v 11) (e_k (.int 0))) a_nil)))) a_nil)))))))) (s_if (t_b (e_op (inF false) (e_v 9) (e_lst (a_cons (e_k (.str "lock")) (a_cons (e_k (.str "unlock")) (a_cons (e_k (.str "choose")) a_nil)))))) (s_ex (e_meth tyL appD (e_v 5) (a_cons (e_tup (a_cons (e_op ixD (e_lst (a_cons (e_k (.str "lock")) (a_cons (e_k (.str "unlock")) a_nil))) (e_call (f1 intcD) (a_cons (e_op (eqD false) (e_v 9) (e_k (.str "unlock"))) a_nil))) (a_cons (e_fn tr0 m__law_word (a_cons (e_v 0) (a_cons (e_k (.int 8)) (a_cons (e_op ixD (e_k (.str "abz")) (e_fn tr0 m__law_pick (a_cons (e_v 0) (a_cons (e_k (.int 3)) a_nil)))) a_nil)))) a_nil))) a_nil))) (s_if (t_and (t_b (e_op (eqD false) (e_v 9) (e_k (.str "take")))) (t_b (e_op ltD (e_v 3) (e_k (.int 3))))) (s_seq (s_ex (e_meth tyL appD (e_v 5) (a_cons (e_tup (a_cons (e_v 9) a_nil)) a_nil)))
  (s_set 3 (e_op addD (e_v 3) (e_k (.int 1))))) (s_seq (s_set 9 (e_op ixD (e_lst (a_cons (e_k (.str "commit")) (a_cons (e_v 9) a_nil))) (e_call (f1 intcD) (a_cons (e_op (inF false) (e_v 9) (e_lst (a_cons (e_k (.str "rollback")) (a_cons (e_k (.str "drop")) (a_cons (e_k (.str "leave")) a_nil))))) a_nil))))
  (s_seq (s_ex (e_meth tyL appD (e_v 5) (a_cons (e_tup (a_cons (e_v 9) a_nil)) a_nil)))
  (s_set 3 (e_op mulD (e_v 3) (e_call (f1 intcD) (a_cons (e_op (eqD false) (e_v 9) (e_k (.str "drop"))) a_nil)))))))))) s_nil)))
  (s_ret (e_lst (a_cons (e_call (f1 tupleD) (a_cons (e_v 5) a_nil)) (a_cons (e_v 6) (a_cons (e_v 3) a_nil)))))))))
noncomputable def m__law_branch' (m__law_branch : FM) : FM := runDef 5 12 (b__law_branch m__law_branch)

noncomputable def mLB : Nat → FM
  | 0 => runDef 5 12 s_bad
  | n + 1 => m__law_branch' (mLB n)
noncomputable def m__law_branch : FM := mLB 3

abbrev s__law_text_plan : Stmt := top 51
noncomputable def b__law_text_plan : SM := (s_seq (s_set 1 (e_new a_nil))
  (s_seq (s_set 2 (e_fn tr0 m__law_pick (a_cons (e_v 0) (a_cons (e_k (.int 6)) a_nil))))
  (s_seq (s_set 3 (e_op ixD (e_lst (a_cons (e_k (.int 8)) (a_cons (e_k (.int 8)) (a_cons (e_k (.int 8)) (a_cons (e_k (.int 8)) (a_cons (e_k (.int 4)) (a_cons (e_k (.int 4)) a_nil))))))) (e_v 2)))
  (s_seq (s_for (i_rng1 (e_op ixD (e_lst (a_cons (e_k (.int 1)) (a_cons (e_k (.int 1)) (a_cons (e_k (.int 2)) (a_cons (e_k (.int 2)) (a_cons (e_k (.int 2)) (a_cons (e_k (.int 3)) a_nil))))))) (e_v 2))) (g_name 4) (s_seq (s_set 5 (e_fn trunc m__law_branch (a_cons (e_v 0) (a_cons (e_v 3) (a_cons (e_k (.int 0)) (a_cons (e_k (.int 0)) (a_cons (e_op addD (e_k (.int 1)) (e_fn tr0 m__law_pick (a_cons (e_v 0) (a_cons (e_k (.int 6)) a_nil)))) a_nil)))))))
  (s_seq (s_set 6 (e_fn tr0 m__law_word (a_cons (e_v 0) (a_cons (e_k (.int 8)) (a_cons (e_op ixD (e_k (.str "pqr")) (e_v 4)) a_nil)))))
  (s_ex (e_meth tyL appD (e_v 1) (a_cons (e_tup (a_cons (e_v 6) (a_cons (e_op ixD (e_v 5) (e_k (.int 0))) (a_cons (e_op addD (e_k (.int 1)) (e_fn tr0 m__law_pick (a_cons (e_v 0) (a_cons (e_k (.int 3)) a_nil)))) (a_cons (e_op addD (e_k (.int 1)) (e_call (f1 intcD) (a_cons (e_and (e_op (inF false) (e_v 2) (e_lst (a_cons (e_k (.int 1)) (a_cons (e_k (.int 4)) a_nil)))) (e_op (eqD false) (e_v 4) (e_k (.int 0)))) a_nil))) a_nil))))) a_nil))))))
  (s_seq (s_set 7 (e_op ixD (e_lst (a_cons (e_k .non) (a_cons (e_k .non) (a_cons (e_k (.int 3)) (a_cons (e_k (.int 4)) (a_cons (e_k (.int 5)) (a_cons (e_k (.int 6)) (a_cons (e_k (.int 7)) (a_cons (e_k (.int 8)) a_nil))))))))) (e_fn tr0 m__law_pick (a_cons (e_v 0) (a_cons (e_k (.int 8)) a_nil)))))
  (s_ret (e_fn trunc m__law_seated (a_cons (e_v 1) (a_cons (e_fn tr0 m__law_pick (a_cons (e_v 0) (a_cons (e_k (.int 5)) a_nil))) (a_cons (e_v 7) (a_cons (e_fn tr0 m__law_pick (a_cons (e_v 0) (a_cons (e_k (.int 3)) a_nil))) a_nil)))))))))))
noncomputable def m__law_text_plan : FM := runDef 1 8 (b__law_text_plan)

abbrev s__law_rows : Stmt := top 52
noncomputable def b__law_rows (m__law_rows : FM) : SM := (s_seq (s_set 2 (e_new a_nil))
  (s_seq (s_for (i_seq (e_v 0)) (g_name 3) (s_if (t_b (e_op (eqD false) (e_op ixD (e_v 3) (e_k (.int 0))) (e_k (.str "choose")))) (s_seq (s_ex (e_meth tyL appD (e_v 2) (a_cons (e_op addD (e_op mulSD (e_k (.str " ")) (e_v 1)) (e_k (.str "choose"))) a_nil)))
  (s_seq (s_ex (e_meth tyL appD (e_v 2) (a_cons (e_op addD (e_op mulSD (e_k (.str " ")) (e_v 1)) (e_k (.str "  yes"))) a_nil)))
  (s_seq (s_ex (e_meth tyL ext2D (e_v 2) (a_cons (e_fn trunc m__law_rows (a_cons (e_op ixD (e_v 3) (e_k (.int 1))) (a_cons (e_op addD (e_v 1) (e_k (.int 4))) a_nil))) a_nil)))
  (s_seq (s_ex (e_meth tyL appD (e_v 2) (a_cons (e_op addD (e_op mulSD (e_k (.str " ")) (e_v 1)) (e_k (.str "  no"))) a_nil)))
  (s_ex (e_meth tyL ext2D (e_v 2) (a_cons (e_fn trunc m__law_rows (a_cons (e_op ixD (e_v 3) (e_k (.int 2))) (a_cons (e_op addD (e_v 1) (e_k (.int 4))) a_nil))) a_nil))))))) (s_ex (e_meth tyL appD (e_v 2) (a_cons (e_op addD (e_op mulSD (e_k (.str " ")) (e_v 1)) (e_meth tyS joinD (e_k (.str " ")) (a_cons (e_call (f1 listD) (a_cons (e_v 3) a_nil)) a_nil))) a_nil)))))
  (s_ret (e_v 2))))
noncomputable def m__law_rows' (m__law_rows : FM) : FM := runDef 2 4 (b__law_rows m__law_rows)

noncomputable def mLR : Nat → FM
  | 0 => runDef 2 4 s_bad
  | n + 1 => m__law_rows' (mLR n)
noncomputable def m__law_rows : FM := mLR 3

abbrev s__law_lines : Stmt := top 53
noncomputable def b__law_lines : SM := (s_seq (s_set 1 (e_k (.str "none")))
  (s_seq (s_if (t_b (e_op (isD true) (e_op ixD (e_v 0) (e_k (.int 2))) (e_k .non))) (s_set 1 (e_call (f1 strID) (a_cons (e_op ixD (e_v 0) (e_k (.int 2))) a_nil))) s_nil)
  (s_seq (s_set 2 (e_op addD (e_op addD (e_op addD (e_k (.str "system ahead ")) (e_call (f1 strID) (a_cons (e_op ixD (e_v 0) (e_k (.int 1))) a_nil))) (e_k (.str " window "))) (e_v 1)))
  (s_seq (s_set 3 (e_new (a_cons (e_op addD (e_op addD (e_v 2) (e_k (.str " crashes "))) (e_call (f1 strID) (a_cons (e_op ixD (e_v 0) (e_k (.int 3))) a_nil))) a_nil)))
  (s_seq (s_for (i_seq (e_op ixD (e_v 0) (e_k (.int 0)))) (g_name 4) (s_seq (s_set 2 (e_op addD (e_op addD (e_op addD (e_k (.str "  kind ")) (e_op ixD (e_v 4) (e_k (.int 0)))) (e_k (.str " block "))) (e_call (f1 strID) (a_cons (e_op ixD (e_v 4) (e_k (.int 2))) a_nil))))
  (s_seq (s_ex (e_meth tyL appD (e_v 3) (a_cons (e_op addD (e_op addD (e_v 2) (e_k (.str " many "))) (e_call (f1 strID) (a_cons (e_op ixD (e_v 4) (e_k (.int 3))) a_nil))) a_nil)))
  (s_ex (e_meth tyL ext2D (e_v 3) (a_cons (e_fn trunc m__law_rows (a_cons (e_op ixD (e_v 4) (e_k (.int 1))) (a_cons (e_k (.int 4)) a_nil))) a_nil))))))
  (s_ret (e_v 3)))))))
noncomputable def m__law_lines : FM := runDef 1 5 (b__law_lines)

abbrev s_law : Stmt := top 54
noncomputable def b_law : SM := (s_seq (s_set 1 (e_fn trunc m__law_text_plan (a_cons (e_fn tr0 m__law_box (a_cons (e_v 0) (a_cons (e_k (.int 0)) a_nil))) a_nil)))
  (s_seq (s_set 2 (e_fn trunc m__law_system (a_cons (e_v 1) a_nil)))
  (s_seq (s_set 3 (e_meth tyS joinD (e_k (.str "")) (a_cons (e_lcG [4] (i_seq (e_fn trunc m__law_lines (a_cons (e_v 1) a_nil))) (g_name 4) t_yes (e_op addD (e_v 4) (e_k (.str "\n"))) finL) a_nil)))
  (s_seq (s_set 5 (e_fn trunc m_write_system (a_cons (e_v 2) a_nil)))
  (s_ret (e_and (e_isi (ktB "str") (e_v 5)) (e_and (e_op (eqD false) (e_v 5) (e_v 3)) (e_op (eqD false) (e_fn trunc m_write_system (a_cons (e_v 2) a_nil)) (e_v 3)))))))))
noncomputable def m_law : FM := runDef 1 6 (b_law)

end Mm
set_option maxRecDepth 100000
namespace Mm
open PySem L2
/-! words -/
@[simp] theorem w_take_commit : (("take" : Str) = "commit") = False := by simp only [eq_iff_iff, iff_false]; decide +kernel
@[simp] theorem w_take_rollback : (("take" : Str) = "rollback") = False := by simp only [eq_iff_iff, iff_false]; decide +kernel
@[simp] theorem w_take_drop : (("take" : Str) = "drop") = False := by simp only [eq_iff_iff, iff_false]; decide +kernel
@[simp] theorem w_take_leave : (("take" : Str) = "leave") = False := by simp only [eq_iff_iff, iff_false]; decide +kernel
@[simp] theorem w_take_lock : (("take" : Str) = "lock") = False := by simp only [eq_iff_iff, iff_false]; decide +kernel
@[simp] theorem w_take_unlock : (("take" : Str) = "unlock") = False := by simp only [eq_iff_iff, iff_false]; decide +kernel
@[simp] theorem w_take_choose : (("take" : Str) = "choose") = False := by simp only [eq_iff_iff, iff_false]; decide +kernel
@[simp] theorem w_take_crash : (("take" : Str) = "crash") = False := by simp only [eq_iff_iff, iff_false]; decide +kernel
@[simp] theorem w_commit_take : (("commit" : Str) = "take") = False := by simp only [eq_iff_iff, iff_false]; decide +kernel
@[simp] theorem w_commit_rollback : (("commit" : Str) = "rollback") = False := by simp only [eq_iff_iff, iff_false]; decide +kernel
@[simp] theorem w_commit_drop : (("commit" : Str) = "drop") = False := by simp only [eq_iff_iff, iff_false]; decide +kernel
@[simp] theorem w_commit_leave : (("commit" : Str) = "leave") = False := by simp only [eq_iff_iff, iff_false]; decide +kernel
@[simp] theorem w_commit_lock : (("commit" : Str) = "lock") = False := by simp only [eq_iff_iff, iff_false]; decide +kernel
@[simp] theorem w_commit_unlock : (("commit" : Str) = "unlock") = False := by simp only [eq_iff_iff, iff_false]; decide +kernel
@[simp] theorem w_commit_choose : (("commit" : Str) = "choose") = False := by simp only [eq_iff_iff, iff_false]; decide +kernel
@[simp] theorem w_commit_crash : (("commit" : Str) = "crash") = False := by simp only [eq_iff_iff, iff_false]; decide +kernel
@[simp] theorem w_rollback_take : (("rollback" : Str) = "take") = False := by simp only [eq_iff_iff, iff_false]; decide +kernel
@[simp] theorem w_rollback_commit : (("rollback" : Str) = "commit") = False := by simp only [eq_iff_iff, iff_false]; decide +kernel
@[simp] theorem w_rollback_drop : (("rollback" : Str) = "drop") = False := by simp only [eq_iff_iff, iff_false]; decide +kernel
@[simp] theorem w_rollback_leave : (("rollback" : Str) = "leave") = False := by simp only [eq_iff_iff, iff_false]; decide +kernel
@[simp] theorem w_rollback_lock : (("rollback" : Str) = "lock") = False := by simp only [eq_iff_iff, iff_false]; decide +kernel
@[simp] theorem w_rollback_unlock : (("rollback" : Str) = "unlock") = False := by simp only [eq_iff_iff, iff_false]; decide +kernel
@[simp] theorem w_rollback_choose : (("rollback" : Str) = "choose") = False := by simp only [eq_iff_iff, iff_false]; decide +kernel
@[simp] theorem w_rollback_crash : (("rollback" : Str) = "crash") = False := by simp only [eq_iff_iff, iff_false]; decide +kernel
@[simp] theorem w_drop_take : (("drop" : Str) = "take") = False := by simp only [eq_iff_iff, iff_false]; decide +kernel
@[simp] theorem w_drop_commit : (("drop" : Str) = "commit") = False := by simp only [eq_iff_iff, iff_false]; decide +kernel
@[simp] theorem w_drop_rollback : (("drop" : Str) = "rollback") = False := by simp only [eq_iff_iff, iff_false]; decide +kernel
@[simp] theorem w_drop_leave : (("drop" : Str) = "leave") = False := by simp only [eq_iff_iff, iff_false]; decide +kernel
@[simp] theorem w_drop_lock : (("drop" : Str) = "lock") = False := by simp only [eq_iff_iff, iff_false]; decide +kernel
@[simp] theorem w_drop_unlock : (("drop" : Str) = "unlock") = False := by simp only [eq_iff_iff, iff_false]; decide +kernel
@[simp] theorem w_drop_choose : (("drop" : Str) = "choose") = False := by simp only [eq_iff_iff, iff_false]; decide +kernel
@[simp] theorem w_drop_crash : (("drop" : Str) = "crash") = False := by simp only [eq_iff_iff, iff_false]; decide +kernel
@[simp] theorem w_leave_take : (("leave" : Str) = "take") = False := by simp only [eq_iff_iff, iff_false]; decide +kernel
@[simp] theorem w_leave_commit : (("leave" : Str) = "commit") = False := by simp only [eq_iff_iff, iff_false]; decide +kernel
@[simp] theorem w_leave_rollback : (("leave" : Str) = "rollback") = False := by simp only [eq_iff_iff, iff_false]; decide +kernel
@[simp] theorem w_leave_drop : (("leave" : Str) = "drop") = False := by simp only [eq_iff_iff, iff_false]; decide +kernel
@[simp] theorem w_leave_lock : (("leave" : Str) = "lock") = False := by simp only [eq_iff_iff, iff_false]; decide +kernel
@[simp] theorem w_leave_unlock : (("leave" : Str) = "unlock") = False := by simp only [eq_iff_iff, iff_false]; decide +kernel
@[simp] theorem w_leave_choose : (("leave" : Str) = "choose") = False := by simp only [eq_iff_iff, iff_false]; decide +kernel
@[simp] theorem w_leave_crash : (("leave" : Str) = "crash") = False := by simp only [eq_iff_iff, iff_false]; decide +kernel
@[simp] theorem w_lock_take : (("lock" : Str) = "take") = False := by simp only [eq_iff_iff, iff_false]; decide +kernel
@[simp] theorem w_lock_commit : (("lock" : Str) = "commit") = False := by simp only [eq_iff_iff, iff_false]; decide +kernel
@[simp] theorem w_lock_rollback : (("lock" : Str) = "rollback") = False := by simp only [eq_iff_iff, iff_false]; decide +kernel
@[simp] theorem w_lock_drop : (("lock" : Str) = "drop") = False := by simp only [eq_iff_iff, iff_false]; decide +kernel
@[simp] theorem w_lock_leave : (("lock" : Str) = "leave") = False := by simp only [eq_iff_iff, iff_false]; decide +kernel
@[simp] theorem w_lock_unlock : (("lock" : Str) = "unlock") = False := by simp only [eq_iff_iff, iff_false]; decide +kernel
@[simp] theorem w_lock_choose : (("lock" : Str) = "choose") = False := by simp only [eq_iff_iff, iff_false]; decide +kernel
@[simp] theorem w_lock_crash : (("lock" : Str) = "crash") = False := by simp only [eq_iff_iff, iff_false]; decide +kernel
@[simp] theorem w_unlock_take : (("unlock" : Str) = "take") = False := by simp only [eq_iff_iff, iff_false]; decide +kernel
@[simp] theorem w_unlock_commit : (("unlock" : Str) = "commit") = False := by simp only [eq_iff_iff, iff_false]; decide +kernel
@[simp] theorem w_unlock_rollback : (("unlock" : Str) = "rollback") = False := by simp only [eq_iff_iff, iff_false]; decide +kernel
@[simp] theorem w_unlock_drop : (("unlock" : Str) = "drop") = False := by simp only [eq_iff_iff, iff_false]; decide +kernel
@[simp] theorem w_unlock_leave : (("unlock" : Str) = "leave") = False := by simp only [eq_iff_iff, iff_false]; decide +kernel
@[simp] theorem w_unlock_lock : (("unlock" : Str) = "lock") = False := by simp only [eq_iff_iff, iff_false]; decide +kernel
@[simp] theorem w_unlock_choose : (("unlock" : Str) = "choose") = False := by simp only [eq_iff_iff, iff_false]; decide +kernel
@[simp] theorem w_unlock_crash : (("unlock" : Str) = "crash") = False := by simp only [eq_iff_iff, iff_false]; decide +kernel
@[simp] theorem w_choose_take : (("choose" : Str) = "take") = False := by simp only [eq_iff_iff, iff_false]; decide +kernel
@[simp] theorem w_choose_commit : (("choose" : Str) = "commit") = False := by simp only [eq_iff_iff, iff_false]; decide +kernel
@[simp] theorem w_choose_rollback : (("choose" : Str) = "rollback") = False := by simp only [eq_iff_iff, iff_false]; decide +kernel
@[simp] theorem w_choose_drop : (("choose" : Str) = "drop") = False := by simp only [eq_iff_iff, iff_false]; decide +kernel
@[simp] theorem w_choose_leave : (("choose" : Str) = "leave") = False := by simp only [eq_iff_iff, iff_false]; decide +kernel
@[simp] theorem w_choose_lock : (("choose" : Str) = "lock") = False := by simp only [eq_iff_iff, iff_false]; decide +kernel
@[simp] theorem w_choose_unlock : (("choose" : Str) = "unlock") = False := by simp only [eq_iff_iff, iff_false]; decide +kernel
@[simp] theorem w_choose_crash : (("choose" : Str) = "crash") = False := by simp only [eq_iff_iff, iff_false]; decide +kernel
@[simp] theorem w_crash_take : (("crash" : Str) = "take") = False := by simp only [eq_iff_iff, iff_false]; decide +kernel
@[simp] theorem w_crash_commit : (("crash" : Str) = "commit") = False := by simp only [eq_iff_iff, iff_false]; decide +kernel
@[simp] theorem w_crash_rollback : (("crash" : Str) = "rollback") = False := by simp only [eq_iff_iff, iff_false]; decide +kernel
@[simp] theorem w_crash_drop : (("crash" : Str) = "drop") = False := by simp only [eq_iff_iff, iff_false]; decide +kernel
@[simp] theorem w_crash_leave : (("crash" : Str) = "leave") = False := by simp only [eq_iff_iff, iff_false]; decide +kernel
@[simp] theorem w_crash_lock : (("crash" : Str) = "lock") = False := by simp only [eq_iff_iff, iff_false]; decide +kernel
@[simp] theorem w_crash_unlock : (("crash" : Str) = "unlock") = False := by simp only [eq_iff_iff, iff_false]; decide +kernel
@[simp] theorem w_crash_choose : (("crash" : Str) = "choose") = False := by simp only [eq_iff_iff, iff_false]; decide +kernel
@[simp] theorem it_take : items.lookup ("take" : Str) = some 1 := by decide +kernel
@[simp] theorem it_commit : items.lookup ("commit" : Str) = some 1 := by decide +kernel
@[simp] theorem it_rollback : items.lookup ("rollback" : Str) = some 1 := by decide +kernel
@[simp] theorem it_drop : items.lookup ("drop" : Str) = some 1 := by decide +kernel
@[simp] theorem it_leave : items.lookup ("leave" : Str) = some 1 := by decide +kernel
@[simp] theorem it_lock : items.lookup ("lock" : Str) = some 2 := by decide +kernel
@[simp] theorem it_unlock : items.lookup ("unlock" : Str) = some 2 := by decide +kernel
@[simp] theorem it_choose : items.lookup ("choose" : Str) = some 3 := by decide +kernel

theorem kitbs : kitB "int" "int" = some true ∧ kitB "int" "bool" = some false ∧ kitB "str" "str" = some true ∧ kitB "tuple" "tuple" = some true ∧ kitB "list" "list" = some true ∧ kitB "NoneType" "tuple" = some false := by decide +kernel
@[simp] theorem kb1 : ktB "int" (.inl "int") = some true := kitbs.1
@[simp] theorem kb2 : ktB "bool" (.inl "int") = some false := kitbs.2.1
@[simp] theorem kb3 : ktB "str" (.inl "str") = some true := kitbs.2.2.1
@[simp] theorem kb4 : ktB "tuple" (.inl "tuple") = some true := kitbs.2.2.2.1
@[simp] theorem kb5 : ktB "list" (.inl "list") = some true := kitbs.2.2.2.2.1
/-! loops over what does not stand in the store -/
@[simp] theorem loopS_nil (g : GM) (b : SM) (env : Env) (S : Sto) : loopS g b none [] env S = .next env S := by unfold loopS; simp
open Classical in
@[simp] theorem loopS_cons (g : GM) (b : SM) (d : D) (r : List D) (env : Env) (S : Sto) : loopS g b none (d :: r) env S = match g d env with
    | none => .bad
    | some env1 => match b env1 S with
      | .next env2 S2 => loopS g b none r env2 S2
      | .cnt env2 S2 => loopS g b none r env2 S2
      | .brk env2 S2 => .next env2 S2
      | x => x := by
  conv => lhs; unfold loopS
  rw [RS.if_pos (stay_none S [])] <;>
  (cases g d env with
  | none => rfl
  | some env1 => cases hb : b env1 S <;> simp only [hb])
@[simp] theorem lcM_nil (g : GM) (t : TM) (m : EM) (env : Env) (acc : List D) (S : Sto) : lcM g t m env none [] acc S = .ok acc S := by unfold lcM; simp
open Classical in
@[simp] theorem lcM_cons (g : GM) (t : TM) (m : EM) (env : Env) (d : D) (r acc : List D) (S : Sto) : lcM g t m env none (d :: r) acc S = match g d env with
    | none => .bad
    | some env1 => (t env1 S).nox.bind fun k S1 => if k = true then (m env1 S1).nox.bind fun y S2 => .if (acc.length < sizeLine) (lcM g t m env none r (acc ++ [y]) S2) else lcM g t m env none r acc S1 := by
  conv => lhs; unfold lcM
  rw [R.if_pos (stay_none S [])] <;> (cases g d env <;> rfl)
@[simp] theorem stay_iff (S : Sto) (xs ds : List D) (k : Nat) : Stay S (xs, some (k, ds)) ↔ S[k]? = some (.lst ds) := ⟨fun h => h k ds rfl, fun h j es e => by cases e; exact h⟩
/-! small defs -/
@[simp] theorem is_integer_i (i : Int) (S : Sto) : m_is_integer [.int i] S = .ok (.bl true) S := by
  unfold m_is_integer; rw [runDef_eq (by rfl)]; unfold b_is_integer; simp [isiD]
@[simp] theorem is_within_i (i lo hi : Int) (S : Sto) : m_is_within [.int i, .int lo, .int hi] S = .ok (.bl (decide (lo ≤ i) && decide (i ≤ hi))) S := by
  unfold m_is_within; rw [runDef_eq (by rfl)]; unfold b_is_within; simp
  by_cases h : lo ≤ i <;> simp [h]
@[simp] theorem has_form_1 (x : Str) (h : items.lookup x = some 1) (S : Sto) : m_has_form [.tup [.str x]] S = .ok (.bl true) S := by
  unfold m_has_form; rw [runDef_eq (by rfl)]; unfold b_has_form
  have hc : (x = "choose") = False := by
    simp only [eq_iff_iff, iff_false]; rintro rfl; simp at h
  simp [isiD, h, hc]
@[simp] theorem has_form_c (a b : List D) (S : Sto) : m_has_form [.tup [.str "choose", .tup a, .tup b]] S = .ok (.bl true) S := by
  unfold m_has_form; rw [runDef_eq (by rfl)]; unfold b_has_form
  simp [isiD]
end Mm
namespace Tk
open PySem L2
abbrev Pl := List Int
mutual
/-- the statements at and below the place p, in reading order -/
def Stm.walk : Stm → Pl → List (Pl × Stm)
  | .one w, p => [(p, .one w)]
  | .nam b n, p => [(p, .nam b n)]
  | .ch y n, p => (p, .ch y n) :: (walkAll y (p ++ [0]) 0 ++ walkAll n (p ++ [1]) 0)
def walkAll : List Stm → Pl → Nat → List (Pl × Stm)
  | [], _, _ => []
  | s :: r, p, i => s.walk (p ++ [(i : Int)]) ++ walkAll r p (i + 1)
end
def lk : List (Pl × Stm) → Pl → Option Stm
  | [], _ => none
  | (p, s) :: r, k => if p = k then some s else lk r k
theorem lk_app (k : Pl) : ∀ a b : List (Pl × Stm), lk (a ++ b) k = (lk a k).or (lk b k)
  | [], b => rfl
  | (p, s) :: r, b => by
    show (if p = k then some s else lk (r ++ b) k) = (if p = k then some s else lk r k).or (lk b k)
    by_cases h : p = k
    · rw [if_pos h, if_pos h]; rfl
    · rw [if_neg h, if_neg h, lk_app k r b]
def nth (B : List Stm) (j : Int) : Option Stm := if 0 ≤ j then B[j.toNat]? else none
def sub : Stm → Pl → Option Stm
  | s, [] => some s
  | .ch y n, a :: j :: q => if a = 0 then (nth y j).bind fun t => sub t q else if a = 1 then (nth n j).bind fun t => sub t q else none
  | _, _ => none
def look : List Stm → Pl → Option Stm
  | B, [] => none
  | B, j :: q => (nth B j).bind fun s => sub s q
theorem pre_ne {p q : Pl} {a b : Int} (h : a ≠ b) : ∀ r : Pl, p ++ a :: q ≠ (p ++ [b]) ++ r := fun r e => by
  rw [List.append_assoc] at e
  have := List.append_cancel_left e
  simp at this
  exact h this.1
mutual
theorem walk_none : ∀ (s : Stm) (p k : Pl), (∀ q, k ≠ p ++ q) → lk (s.walk p) k = none
  | .one w, p, k, h => by
    rw [Stm.walk, lk, if_neg (fun e => h [] (by rw [← e]; simp)), lk]
  | .nam b n, p, k, h => by
    rw [Stm.walk, lk, if_neg (fun e => h [] (by rw [← e]; simp)), lk]
  | .ch y n, p, k, h => by
    rw [Stm.walk, lk, if_neg (fun e => h [] (by rw [← e]; simp)), lk_app, walkAll_none y (p ++ [0]) 0 k (fun j q e => h (0 :: j :: q) (by rw [e]; simp)), walkAll_none n (p ++ [1]) 0 k (fun j q e => h (1 :: j :: q) (by rw [e]; simp))]
    rfl
theorem walkAll_none : ∀ (B : List Stm) (p : Pl) (i : Nat) (k : Pl), (∀ j q, k ≠ p ++ j :: q) → lk (walkAll B p i) k = none
  | [], p, i, k, h => by rw [walkAll, lk]
  | s :: r, p, i, k, h => by
    rw [walkAll, lk_app, walk_none s (p ++ [(i : Int)]) k (fun q e => h i q (by rw [e]; simp)), walkAll_none r p (i + 1) k h]
    rfl
end
theorem nth_nil (j : Int) : nth [] j = none := by
  unfold nth
  by_cases h : 0 ≤ j
  · rw [if_pos h]; rfl
  · rw [if_neg h]
theorem nth_zero (s : Stm) (r : List Stm) : nth (s :: r) 0 = some s := rfl
theorem nth_succ (s : Stm) (r : List Stm) (j : Int) (h : j ≠ 0) : nth (s :: r) j = nth r (j - 1) := by
  unfold nth
  by_cases h0 : 0 ≤ j
  · rw [if_pos h0, if_pos (by omega)]
    have e : j.toNat = (j - 1).toNat + 1 := by omega
    rw [e, List.getElem?_cons_succ]
  · rw [if_neg h0, if_neg (by omega)]
mutual
theorem walk_lk : ∀ (s : Stm) (p q : Pl), lk (s.walk p) (p ++ q) = sub s q
  | .one w, p, [] => by rw [Stm.walk, lk, if_pos (by simp), sub]
  | .one w, p, a :: q => by
    rw [Stm.walk, lk, if_neg (fun e => by have := congrArg List.length e; simp at this), lk]
    cases q <;> rfl
  | .nam b n, p, [] => by rw [Stm.walk, lk, if_pos (by simp), sub]
  | .nam b n, p, a :: q => by
    rw [Stm.walk, lk, if_neg (fun e => by have := congrArg List.length e; simp at this), lk]
    cases q <;> rfl
  | .ch y n, p, [] => by rw [Stm.walk, lk, if_pos (by simp), sub]
  | .ch y n, p, [a] => by
    rw [Stm.walk, lk, if_neg (fun e => by have := congrArg List.length e; simp at this), lk_app, walkAll_none, walkAll_none]
    · rfl
    · intro j q e; have := congrArg List.length e; simp at this
    · intro j q e; have := congrArg List.length e; simp at this
  | .ch y n, p, a :: j :: q => by
    rw [Stm.walk, lk, if_neg (fun e => by have := congrArg List.length e; simp at this), lk_app, sub]
    by_cases h0 : a = 0
    · subst h0
      rw [if_pos rfl]
      have e : p ++ (0 : Int) :: j :: q = (p ++ [0]) ++ j :: q := by simp
      have z : lk (walkAll n (p ++ [1]) 0) (p ++ (0 : Int) :: j :: q) = none := walkAll_none n (p ++ [1]) 0 _ (fun j' q' => pre_ne (by decide) _)
      rw [z, e, walkAll_lk y (p ++ [0]) 0 j q]
      simp
    · rw [if_neg h0]
      have z : lk (walkAll y (p ++ [0]) 0) (p ++ a :: j :: q) = none := walkAll_none y (p ++ [0]) 0 _ (fun j' q' => pre_ne h0 _)
      rw [z]
      by_cases h1 : a = 1
      · subst h1
        rw [if_pos rfl]
        have e : p ++ (1 : Int) :: j :: q = (p ++ [1]) ++ j :: q := by simp
        rw [e, walkAll_lk n (p ++ [1]) 0 j q]
        simp
      · rw [if_neg h1]
        have z2 : lk (walkAll n (p ++ [1]) 0) (p ++ a :: j :: q) = none := walkAll_none n (p ++ [1]) 0 _ (fun j' q' => pre_ne h1 _)
        rw [z2]; rfl
theorem walkAll_lk : ∀ (B : List Stm) (p : Pl) (i : Nat) (j : Int) (q : Pl), lk (walkAll B p i) (p ++ j :: q) = (nth B (j - i)).bind fun s => sub s q
  | [], p, i, j, q => by rw [walkAll, lk, nth_nil]; rfl
  | s :: r, p, i, j, q => by
    rw [walkAll, lk_app]
    by_cases h : j = i
    · subst h
      have e : p ++ (i : Int) :: q = (p ++ [(i : Int)]) ++ q := by simp
      have z : lk (walkAll r p (i + 1)) (p ++ (i : Int) :: q) = none ∨ True := .inr trivial
      rw [e, walk_lk s (p ++ [(i : Int)]) q, ← e, walkAll_lk r p (i + 1) i q]
      have e1 : nth (s :: r) ((i : Int) - i) = some s := by rw [Int.sub_self]; rfl
      have e2 : nth r ((i : Int) - ((i + 1 : Nat) : Int)) = none := by unfold nth; rw [if_neg (by omega)]
      rw [e1, e2]
      simp
    · have z : lk (s.walk (p ++ [(i : Int)])) (p ++ j :: q) = none := walk_none s _ _ (fun q' => pre_ne h _)
      rw [z, walkAll_lk r p (i + 1) j q, nth_succ s r (j - i) (by omega)]
      have e : j - ((i + 1 : Nat) : Int) = j - i - 1 := by omega
      rw [e]; rfl
end
theorem look_lk (S : List Stm) : ∀ p : Pl, lk (walkAll S [] 0) p = look S p
  | [] => walkAll_none S [] 0 [] (fun j q e => by cases e)
  | j :: q => by
    have := walkAll_lk S [] 0 j q
    simpa [look] using this
mutual
theorem walk_len : ∀ (s : Stm) (p : Pl), (s.walk p).length = s.cnt
  | .one w, p => by rw [Stm.walk, Stm.cnt]; rfl
  | .nam b n, p => by rw [Stm.walk, Stm.cnt]; rfl
  | .ch y n, p => by
    rw [Stm.walk, Stm.cnt, List.length_cons, List.length_append, walkAll_len y, walkAll_len n]; omega
theorem walkAll_len : ∀ (B : List Stm) (p : Pl) (i : Nat), (walkAll B p i).length = cntAll B
  | [], p, i => by rw [walkAll, cntAll]; rfl
  | s :: r, p, i => by rw [walkAll, cntAll, List.length_append, walk_len s, walkAll_len r]
end
theorem walkAll_snoc : ∀ (B : List Stm) (s : Stm) (p : Pl) (i : Nat), walkAll (B ++ [s]) p i = walkAll B p i ++ s.walk (p ++ [((i + B.length : Nat) : Int)])
  | [], s, p, i => by
    show walkAll [s] p i = walkAll [] p i ++ _
    rw [walkAll, walkAll, walkAll]; simp
  | t :: r, s, p, i => by
    show walkAll (t :: (r ++ [s])) p i = _
    rw [walkAll, walkAll, walkAll_snoc r s p (i + 1), List.append_assoc]
    have e : i + 1 + r.length = i + (t :: r).length := by rw [List.length_cons]; omega
    rw [e]
/-! ## the found statements as a dict -/
def key (p : Pl) : List Key := p.map Sum.inl
theorem key_kV (p : Pl) : (key p).map kV = p.map V.int := by
  unfold key; rw [List.map_map]; rfl
theorem key_inj : ∀ {p q : Pl}, key p = key q → p = q
  | [], [], _ => rfl
  | [], _ :: _, h => by cases h
  | _ :: _, [], h => by cases h
  | a :: p, b :: q, h => by
    have h' : Sum.inl a :: key p = Sum.inl b :: key q := h
    injection h' with h1 h2
    injection h1 with h1
    rw [h1, key_inj h2]
def FRel (H : Hp) : List (List Key × V) → List (Pl × Stm) → Prop
  | [], [] => True
  | (k, v) :: r, (p, s) :: r' => k = key p ∧ s.at H v ∧ FRel H r r'
  | _, _ => False
theorem FRel.len {H : Hp} : ∀ {a : List (List Key × V)} {b : List (Pl × Stm)}, FRel H a b → a.length = b.length
  | [], [], _ => rfl
  | _ :: _, _ :: _, h => by rw [List.length_cons, List.length_cons, FRel.len h.2.2]
  | [], _ :: _, h => h.elim
  | _ :: _, [], h => h.elim
theorem FRel.keep {H H' : Hp} (k : TK H H') : ∀ {a : List (List Key × V)} {b : List (Pl × Stm)}, FRel H a b → FRel H' a b
  | [], [], _ => trivial
  | _ :: _, _ :: _, h => ⟨h.1, Stm.at_keep k _ _ h.2.1, FRel.keep k h.2.2⟩
  | [], _ :: _, h => h.elim
  | _ :: _, [], h => h.elim
theorem FRel.snoc {H : Hp} {p : Pl} {v : V} {s : Stm} (hs : s.at H v) : ∀ {a : List (List Key × V)} {b : List (Pl × Stm)}, FRel H a b → FRel H (a ++ [(key p, v)]) (b ++ [(p, s)])
  | [], [], _ => ⟨rfl, hs, trivial⟩
  | _ :: _, _ :: _, h => ⟨h.1, h.2.1, FRel.snoc hs h.2.2⟩
  | [], _ :: _, h => h.elim
  | _ :: _, [], h => h.elim
theorem FRel.val {H : Hp} (p : Pl) : ∀ {a : List (List Key × V)} {b : List (Pl × Stm)}, FRel H a b → (lk b p = none → valV a (key p) = none) ∧ (∀ s, lk b p = some s → ∃ v, valV a (key p) = some v ∧ s.at H v)
  | [], [], _ => ⟨fun _ => rfl, fun s e => by cases e⟩
  | (k, v) :: r, (q, s) :: r', h => by
    obtain ⟨rfl, h1, h2⟩ := h
    by_cases e : q = p
    · subst e
      rw [lk, if_pos rfl, valV_pos (p := (key q, v)) rfl]
      exact ⟨(fun z => nomatch z), fun t z => ⟨v, rfl, Option.some.inj z ▸ h1⟩⟩
    · rw [lk, if_neg e, valV_neg (p := (key q, v)) (fun z => e (key_inj z))]
      exact FRel.val p h2
  | [], _ :: _, h => h.elim
  | _ :: _, [], h => h.elim
end Tk
namespace Tk
open PySem L2
def br (a : Int) (y n : List Stm) : List Stm := if a = 0 then y else n
/-- R is what follows the statement at p, to the end of the script -/
inductive After : List Stm → Pl → List Stm → Prop
  | here (B : List Stm) (i : Nat) : i < B.length → After B [(i : Int)] (B.drop (i + 1))
  | inn (B : List Stm) (i : Nat) (a : Int) (y n : List Stm) (q : Pl) (R : List Stm) : B[i]? = some (.ch y n) → (a = 0 ∨ a = 1) → After (br a y n) q R → After B ((i : Int) :: a :: q) (R ++ B.drop (i + 1))
theorem nth_nat (B : List Stm) (i : Nat) : nth B (i : Int) = B[i]? := by
  unfold nth
  rw [if_pos (by omega), Int.toNat_natCast]
theorem After.ne {B : List Stm} {p : Pl} {R : List Stm} (h : After B p R) : p ≠ [] := by cases h <;> simp
theorem look_in {B : List Stm} {i : Nat} {a : Int} {y n : List Stm} {q : Pl} (h : B[i]? = some (.ch y n)) (ha : a = 0 ∨ a = 1) (hq : q ≠ []) : look B ((i : Int) :: a :: q) = look (br a y n) q := by
  cases q with
  | nil => exact absurd rfl hq
  | cons j r =>
    rw [look, nth_nat, h]
    show sub (.ch y n) (a :: j :: r) = _
    rw [sub, look]
    rcases ha with rfl | rfl
    · rw [if_pos rfl]; rfl
    · rw [if_neg (by decide), if_pos rfl]; rfl
theorem look_one (B : List Stm) (i : Nat) : look B [(i : Int)] = B[i]? := by
  rw [look, nth_nat]
  cases B[i]? <;> rfl
theorem After.step {S : List Stm} {p : Pl} {R : List Stm} (h : After S p R) : ∃ q j, p = q ++ [j] ∧
    ((∃ s R', look S (q ++ [j + 1]) = some s ∧ R = s :: R' ∧ After S (q ++ [j + 1]) R') ∨
     (look S (q ++ [j + 1]) = none ∧ ((q = [] ∧ R = []) ∨ ∃ q' a, q = q' ++ [a] ∧ q' ≠ [] ∧ After S q' R))) := by
  induction h with
  | here B i hi =>
    refine ⟨[], (i : Int), rfl, ?_⟩
    have e : ([] : Pl) ++ [(i : Int) + 1] = [((i + 1 : Nat) : Int)] := by simp
    rw [e, look_one]
    cases g : B[i + 1]? with
    | none =>
      refine .inr ⟨rfl, .inl ⟨rfl, ?_⟩⟩
      rw [List.drop_eq_nil_of_le]
      exact List.getElem?_eq_none_iff.mp g
    | some s =>
      obtain ⟨lt, e1⟩ := List.getElem?_eq_some_iff.mp g
      exact .inl ⟨s, B.drop (i + 1 + 1), rfl, by rw [List.drop_eq_getElem_cons lt, e1], .here B (i + 1) lt⟩
  | inn B i a y n q R hb ha hq ih =>
    obtain ⟨q0, j, e, ih⟩ := ih
    refine ⟨(i : Int) :: a :: q0, j, by rw [e]; rfl, ?_⟩
    have le : look B (((i : Int) :: a :: q0) ++ [j + 1]) = look (br a y n) (q0 ++ [j + 1]) := look_in hb ha (by simp)
    rw [le]
    rcases ih with ⟨s, R', l, eR, af⟩ | ⟨l, ⟨rfl, eR⟩ | ⟨q', a', eq, nq, af⟩⟩
    · exact .inl ⟨s, R' ++ B.drop (i + 1), l, by rw [eR]; rfl, .inn B i a y n _ R' hb ha af⟩
    · refine .inr ⟨l, .inr ⟨[(i : Int)], a, rfl, by simp, ?_⟩⟩
      rw [eR]
      exact .here B i (List.getElem?_eq_some_iff.mp hb).1
    · refine .inr ⟨l, .inr ⟨(i : Int) :: a :: q', a', by rw [eq]; rfl, by simp, ?_⟩⟩
      exact .inn B i a y n q' R hb ha af
theorem After.down {S : List Stm} {p : Pl} {R : List Stm} {y n : List Stm} {a : Int} (h : After S p R) (ha : a = 0 ∨ a = 1) (hn : br a y n ≠ []) :
    look S p = some (.ch y n) → look S (p ++ [a, 0]) = (br a y n)[0]? ∧ After S (p ++ [a, 0]) ((br a y n).drop 1 ++ R) := by
  have first : After (br a y n) [((0 : Nat) : Int)] ((br a y n).drop (0 + 1)) := .here _ 0 (List.length_pos_iff.mpr hn)
  induction h with
  | here B i hi =>
    intro l
    rw [look_one] at l
    refine ⟨?_, .inn B i a y n [0] _ l ha first⟩
    show look B ((i : Int) :: a :: [((0 : Nat) : Int)]) = _
    rw [look_in l ha (by simp), look_one]
  | inn B i a' y' n' q R hb ha' hq ih =>
    intro l
    rw [look_in hb ha' hq.ne] at l
    obtain ⟨l1, af⟩ := ih l
    refine ⟨?_, ?_⟩
    · show look B ((i : Int) :: a' :: (q ++ [a, 0])) = _
      rw [look_in hb ha' (by simp)]
      exact l1
    · rw [← List.append_assoc]
      exact .inn B i a' y' n' _ _ hb ha' af
theorem After.first {S : List Stm} (h : S ≠ []) : look S [0] = S[0]? ∧ After S [0] (S.drop 1) :=
  ⟨look_one S 0, .here S 0 (List.length_pos_iff.mpr h)⟩
theorem okAll_get : ∀ {d : Nat} {B : List Stm} {h : Int} {i : Nat} {s : Stm}, okAll d B h → B[i]? = some s → ∃ h', s.ok d h'
  | d, [], h, i, s, _, e => by simp at e
  | d, t :: r, h, 0, s, g, e => by
    rw [okAll] at g
    have e' : t = s := Option.some.inj e
    exact ⟨h, e' ▸ g.1⟩
  | d, t :: r, h, i + 1, s, g, e => by
    rw [okAll] at g
    exact okAll_get g.2 (i := i) (s := s) e
theorem After.len {S : List Stm} {p : Pl} {R : List Stm} (h : After S p R) : ∀ (d : Nat) (k : Int), okAll d S k → d ≤ 2 → p.length + 2 * d ≤ 5 := by
  induction h with
  | here B i hi => intro d k _ hd; show 1 + 2 * d ≤ 5; omega
  | inn B i a y n q R hb ha hq ih =>
    intro d k g hd
    obtain ⟨h', o⟩ := okAll_get g hb
    rw [Stm.ok] at o
    have z : q.length + 2 * (d + 1) ≤ 5 := by
      rcases ha with rfl | rfl
      · exact ih (d + 1) h' o.2.1 (by omega)
      · exact ih (d + 1) h' o.2.2 (by omega)
    show q.length + 1 + 1 + 2 * d ≤ 5
    omega
/-! ## greater places -/
def Gt (x y : Pl) : Prop := (∃ q i j r s, x = q ++ i :: r ∧ y = q ++ j :: s ∧ j < i) ∨ ∃ c, x = y ++ c ∧ c ≠ []
theorem lexAt_at (e r : Nat → Bool) (z : Bool) (m : Nat) : ∀ (k i : Nat), i ≤ m → m < i + k → (∀ j, i ≤ j → j < m → e j = true) → e m = false → Ob.lexAt e r z i k = r m
  | 0, i, h1, h2, _, _ => by omega
  | k + 1, i, h1, h2, g, b => by
    rw [Ob.lexAt_succ]
    by_cases c : i = m
    · subst c
      rw [b]; rfl
    · rw [g i (Nat.le_refl i) (by omega), if_pos rfl]
      exact lexAt_at e r z m k (i + 1) (by omega) (by omega) (fun j a b => g j (by omega) b) b
theorem lexAt_all (e r : Nat → Bool) (z : Bool) : ∀ (k i : Nat), (∀ j, i ≤ j → j < i + k → e j = true) → Ob.lexAt e r z i k = z
  | 0, i, _ => rfl
  | k + 1, i, g => by
    rw [Ob.lexAt_succ, g i (Nat.le_refl i) (by omega), if_pos rfl]
    exact lexAt_all e r z k (i + 1) (fun j a b => g j (by omega) (by omega))
theorem gt_not_le {x y : Pl} (h : Gt x y) : Ob.lexAt (fun j => decide (x.getD j 0 = y.getD j 0)) (fun j => decide (x.getD j 0 ≤ y.getD j 0)) (decide (x.length ≤ y.length)) 0 (min x.length y.length) = false := by
  rcases h with ⟨q, i, j, r, s, rfl, rfl, lt⟩ | ⟨c, rfl, hc⟩
  · have g1 : ∀ (t : Int) (u : Pl) (k : Nat), k < q.length → (q ++ t :: u).getD k 0 = q.getD k 0 := fun t u k hk => by
      rw [List.getD_eq_getElem?_getD, List.getD_eq_getElem?_getD, List.getElem?_append_left hk]
    have g2 : ∀ (t : Int) (u : Pl), (q ++ t :: u).getD q.length 0 = t := fun t u => by
      rw [List.getD_eq_getElem?_getD, List.getElem?_append_right (Nat.le_refl _), Nat.sub_self]; rfl
    rw [lexAt_at _ _ _ q.length]
    · show decide ((q ++ i :: r).getD q.length 0 ≤ (q ++ j :: s).getD q.length 0) = false
      rw [g2, g2]; exact decide_eq_false (by omega)
    · exact Nat.zero_le _
    · rw [List.length_append, List.length_append, List.length_cons, List.length_cons]; omega
    · intro k _ hk
      show decide ((q ++ i :: r).getD k 0 = (q ++ j :: s).getD k 0) = true
      rw [g1 _ _ k hk, g1 _ _ k hk]; exact decide_eq_true rfl
    · show decide ((q ++ i :: r).getD q.length 0 = (q ++ j :: s).getD q.length 0) = false
      rw [g2, g2]; exact decide_eq_false (by omega)
  · have hl : 0 < c.length := List.length_pos_iff.mpr hc
    rw [lexAt_all]
    · rw [List.length_append]; exact decide_eq_false (by omega)
    · intro k _ hk
      rw [List.length_append] at hk
      have hk' : k < y.length := by omega
      show decide ((y ++ c).getD k 0 = y.getD k 0) = true
      rw [List.getD_eq_getElem?_getD, List.getD_eq_getElem?_getD, List.getElem?_append_left hk']
      exact decide_eq_true rfl
end Tk
set_option maxRecDepth 100000
namespace Mm
open PySem L2
/-! places behind a store -/
@[simp] theorem ga0 (S l : Sto) : (S ++ l)[S.length]? = l[0]? := by rw [List.getElem?_append_right (Nat.le_refl _), Nat.sub_self]
@[simp] theorem gak (S l : Sto) (k : Nat) : (S ++ l)[S.length + k]? = l[k]? := by rw [List.getElem?_append_right (by omega)]; congr 1; omega
@[simp] theorem sa0 (S l : Sto) (o : SO) : (S ++ l).set S.length o = S ++ l.set 0 o := by rw [List.set_append_right _ _ (Nat.le_refl _), Nat.sub_self]
@[simp] theorem sak (S l : Sto) (k : Nat) (o : SO) : (S ++ l).set (S.length + k) o = S ++ l.set k o := by rw [List.set_append_right _ _ (by omega)]; congr 2; omega
open Classical in
theorem tr_app (S l : Sto) : Tr S.length S (S ++ l) := fun k hk => .inl (List.getElem?_append_left hk)
open Classical in
@[simp] theorem trunc_app (S l : Sto) (d : D) : trunc S (.ok d (S ++ l)) = .ofO (rsvD S.length (S ++ l) d) S := by
  unfold trunc
  dsimp only
  rw [R.if_pos (tr_app S l)]
  simp
open Classical in
@[simp] theorem trunc_self (S : Sto) (d : D) : trunc S (.ok d S) = .ofO (rsvD S.length S d) S := by
  have := trunc_app S [] d
  simpa using this
@[simp] theorem lenD_ttp (ds : List D) (S : Sto) : lenD (.ttp ds) S = .ok (.int ds.length) S := rfl
open Classical in
@[simp] theorem isI_iff (k j : Nat) (S : Sto) : isI k (.loc j) S ↔ ∃ ds, S[j]? = some (.ins k ds) := by
  unfold isI
  simp only [insOf_loc']
  constructor
  · rintro ⟨ds, h⟩
    cases ho : S[j]? with
    | none => rw [ho] at h; cases h
    | some o => cases o with
      | ins c es => rw [ho] at h; simp at h; exact ⟨es, by rw [h.1]⟩
      | _ => rw [ho] at h; cases h
  · rintro ⟨ds, h⟩
    exact ⟨ds, by rw [h]⟩
@[simp] theorem isI_ob (k j : Nat) (ds : List D) (S : Sto) : isI k (.obj j ds) S ↔ j = k := ⟨fun ⟨es, h⟩ => by cases h; rfl, fun h => ⟨ds, by rw [h]; rfl⟩⟩
open Classical in
@[simp] theorem e_mth_eq' (tr : TrF) (k : Nat) (m : FM) (mo : EM) (am : AM) (env : Env) (S : Sto) : e_mth tr k m mo am env S = (mo env S).bind fun d S1 => .if (isI k d S1) ((am env S1).bind fun ds S2 => tr S2 (m (d :: ds) S2)) := rfl
open Classical in
@[simp] theorem e_own2_eq' (tr : TrF) (k : Nat) (m : FM) (ma mb : EM) (env : Env) (S : Sto) : e_own2 tr k m ma mb env S = (ma env S).bind fun x S1 => (mb env S1).bind fun y S2 => .if (isI k x S2) (tr S2 (m [x, y] S2)) := rfl
open Classical in
@[simp] theorem e_ownIn_eq' (tr : TrF) (neg : Bool) (k : Nat) (m : FM) (ma mb : EM) (env : Env) (S : Sto) : e_ownIn tr neg k m ma mb env S = (ma env S).bind fun y S1 => (mb env S1).bind fun x S2 => .if (isI k x S2) ((tr S2 (m [x, y] S2)).nox.bind fun d S3 => match d with
  | .bl b => .ok (.bl (neg ^^ b)) S3
  | _ => .bad) := rfl
@[simp] theorem e_mk_eq' (tr : TrF) (k : Nat) (m : FM) (am : AM) (env : Env) (S : Sto) : e_mk tr k m am env S = (am env S).bind fun ds S1 => tr S1 (mkD k m ds S1) := rfl
@[simp] theorem i_enum_eq (m : EM) (env : Env) (S : Sto) : i_enum m env S = (m env S).bind fun d S1 => (R.ofO (itsOf S1 d) S1).bind fun it S2 => .ok (numD 0 it.1, it.2) S2 := rfl
@[simp] theorem i_rng1_eq (m : EM) (env : Env) (S : Sto) : i_rng1 m env S = (m env S).bind fun d S1 => match d with
  | .int j => .if (-(2 ^ 62) ≤ j ∧ j < 2 ^ 62) (.ok (rngD 0 j.toNat, none) S1)
  | _ => .bad := rfl
@[simp] theorem i_rng2_eq (m m2 : EM) (env : Env) (S : Sto) : i_rng2 m m2 env S = (m env S).bind fun d S1 => (m2 env S1).bind fun e S2 => match d, e with
  | .int i, .int j => .if (-(2 ^ 62) ≤ i ∧ i < 2 ^ 62 ∧ -(2 ^ 62) ≤ j ∧ j < 2 ^ 62) (.ok (rngD i (j - i).toNat, none) S2)
  | _, _ => .bad := rfl
@[simp] theorem numD_nil (i : Nat) : numD i [] = [] := rfl
@[simp] theorem numD_cons (i : Nat) (d : D) (r : List D) : numD i (d :: r) = .tup [.int i, d] :: numD (i + 1) r := rfl
@[simp] theorem g_tup_eq (gs : GMs) (ds : List D) (env : Env) : g_tup gs (.tup ds) env = gs ds env := rfl
@[simp] theorem g_cons_eq (g : GM) (gs : GMs) (d : D) (r : List D) (env : Env) : g_cons g gs (d :: r) env = (g d env).bind fun env1 => gs r env1 := rfl
@[simp] theorem g_nil_eq (env : Env) : g_nil [] env = some env := rfl
@[simp] theorem isNon_non : isNon .non = true := rfl
@[simp] theorem isNon_int (i : Int) : isNon (.int i) = false := rfl
@[simp] theorem isNon_str (i : Str) : isNon (.str i) = false := rfl
@[simp] theorem isNon_tup (i : List D) : isNon (.tup i) = false := rfl
@[simp] theorem isNon_obj (k : Nat) (i : List D) : isNon (.obj k i) = false := rfl
@[simp] theorem isNon_loc (k : Nat) : isNon (.loc k) = false := rfl
@[simp] theorem nlt (n k : Nat) : (n + k < n) = False := by simp
theorem mCC_s (n : Nat) : mCC (n + 1) = (m_Check_check_branch' (mCC n).2, m_Check_check_statement' (mCC n).1) := rfl
theorem cdiv2 (k : Nat) : CDiv ((k : Nat) : Int) 2 := by unfold CDiv; omega
@[simp] theorem unK_int (i : Int) : unK (.int i) = some (.inl i) := rfl
@[simp] theorem unK_str (i : Str) : unK (.str i) = some (.inr i) := rfl
@[simp] theorem unK_non : unK .non = none := rfl
@[simp] theorem unR_ttp (ds : List D) : unR (.ttp ds) = allO unK ds := rfl
@[simp] theorem unT_tup (ds : List D) : unT (.tup ds) = allO unK ds := rfl
@[simp] theorem kkO_cons (d : D) (r : List D) : kkO (d :: r) = (unK d).bind fun x => (kkO r).map fun y => x :: y := rfl
@[simp] theorem kkO_nil : kkO [] = some [] := rfl
@[simp] theorem ktO_non (r : List D) : ktO (.non :: r) = allO unT r := rfl
@[simp] theorem keyD_i (i : Int) : keyD (.inl i) = .int i := rfl
@[simp] theorem keyD_s (i : Str) : keyD (.inr i) = .str i := rfl
theorem szb : 1000 < sizeLine := by decide
@[simp] theorem szp0 : (0 < sizeLine) = True := eq_true (by have := szb; omega)
@[simp] theorem szq0 : (0 ≤ sizeLine) = True := eq_true (by have := szb; omega)
@[simp] theorem szp1 : (1 < sizeLine) = True := eq_true (by have := szb; omega)
@[simp] theorem szq1 : (1 ≤ sizeLine) = True := eq_true (by have := szb; omega)
@[simp] theorem szp2 : (2 < sizeLine) = True := eq_true (by have := szb; omega)
@[simp] theorem szq2 : (2 ≤ sizeLine) = True := eq_true (by have := szb; omega)
@[simp] theorem szp3 : (3 < sizeLine) = True := eq_true (by have := szb; omega)
@[simp] theorem szq3 : (3 ≤ sizeLine) = True := eq_true (by have := szb; omega)
@[simp] theorem szp4 : (4 < sizeLine) = True := eq_true (by have := szb; omega)
@[simp] theorem szq4 : (4 ≤ sizeLine) = True := eq_true (by have := szb; omega)
@[simp] theorem szp5 : (5 < sizeLine) = True := eq_true (by have := szb; omega)
@[simp] theorem szq5 : (5 ≤ sizeLine) = True := eq_true (by have := szb; omega)
@[simp] theorem szp6 : (6 < sizeLine) = True := eq_true (by have := szb; omega)
@[simp] theorem szq6 : (6 ≤ sizeLine) = True := eq_true (by have := szb; omega)
@[simp] theorem szp7 : (7 < sizeLine) = True := eq_true (by have := szb; omega)
@[simp] theorem szq7 : (7 ≤ sizeLine) = True := eq_true (by have := szb; omega)
@[simp] theorem szp8 : (8 < sizeLine) = True := eq_true (by have := szb; omega)
@[simp] theorem szq8 : (8 ≤ sizeLine) = True := eq_true (by have := szb; omega)
@[simp] theorem szp9 : (9 < sizeLine) = True := eq_true (by have := szb; omega)
@[simp] theorem szq9 : (9 ≤ sizeLine) = True := eq_true (by have := szb; omega)
@[simp] theorem szp10 : (10 < sizeLine) = True := eq_true (by have := szb; omega)
@[simp] theorem szq10 : (10 ≤ sizeLine) = True := eq_true (by have := szb; omega)
@[simp] theorem szp11 : (11 < sizeLine) = True := eq_true (by have := szb; omega)
@[simp] theorem szq11 : (11 ≤ sizeLine) = True := eq_true (by have := szb; omega)
@[simp] theorem szp12 : (12 < sizeLine) = True := eq_true (by have := szb; omega)
@[simp] theorem szq12 : (12 ≤ sizeLine) = True := eq_true (by have := szb; omega)
@[simp] theorem szp13 : (13 < sizeLine) = True := eq_true (by have := szb; omega)
@[simp] theorem szq13 : (13 ≤ sizeLine) = True := eq_true (by have := szb; omega)
theorem szl (n : Nat) (h : n ≤ 1000) : n ≤ sizeLine := Nat.le_trans h (by decide)
theorem dlen_loc (S : Sto) (k : Nat) : dlenD (.loc k) S = .ofO ((dicOf S (.loc k)).map fun p => D.int p.2.length) S := rfl
theorem dlist_loc (S : Sto) (k : Nat) : dlistD (.loc k) S = .ofO (((dicOf S (.loc k)).bind fun p => keysO p.1).map D.lst) S := rfl
theorem dget_dic (ks ds : List D) (y : D) (S : Sto) : dgetD (.dic ks ds) y S = .ofO ((dgetO (ks, ds) y).bind id) S := rfl
theorem din_dic (ks ds : List D) (y : D) (S : Sto) : dinD false y (.dic ks ds) S = .ofO ((dgetO (ks, ds) y).map fun r => D.bl (false ^^ r.isSome)) S := rfl
@[simp] theorem e_neg_eq (m : EM) (env : Env) (S : Sto) : e_neg m env S = (m env S).bind negD := rfl
theorem whileS_s (t : TM) (b : SM) (f : Nat) (env : Env) (S : Sto) : whileS t b (f + 1) env S = (t env S).toS env fun k S1 => if k = true then (match b env S1 with
      | .next env2 S2 => whileS t b f env2 S2
      | .cnt env2 S2 => whileS t b f env2 S2
      | .brk env2 S2 => .next env2 S2
      | x => x) else .next env S1 := rfl
section
variable {α : Type} (g : GM) (t : TM) (im : IM) (g1 : GM) (t1 : TM) (add : AddM α) (vs : List Nat) (env : Env) (so : Option (Nat × List D)) (d : D) (r : List D) (acc : α) (S : Sto)
open Classical in
@[simp] theorem inM_nil : inM g t add env none [] acc S = .ok acc S := by
  unfold inM
  exact R.if_pos (stay_none S [])
open Classical in
@[simp] theorem inM_cons : inM g t add env none (d :: r) acc S = match g d env with
    | none => .bad
    | some env1 => (t env1 S).nox.bind fun k S1 => if k = true then (add acc env1 S1).nox.bind fun acc1 S2 => inM g t add env none r acc1 S2 else inM g t add env none r acc S1 := by
  conv => lhs; unfold inM
  rw [R.if_pos (stay_none S [])] <;> (cases g d env <;> rfl)
open Classical in
theorem outM_nil (h : Stay S ([], so)) : outM g t im g1 t1 add vs env so [] acc S = .ok acc S := by
  unfold outM
  exact R.if_pos h
open Classical in
theorem outM_cons (h : Stay S ([], so)) : outM g t im g1 t1 add vs env so (d :: r) acc S = match g d env with
    | none => .bad
    | some env1 => (t env1 S).nox.bind fun k S1 => if k = true then (im env1 S1).nox.bind fun it S2 => (inM g1 t1 add (wipeE env1 vs) it.2 it.1 acc S2).nox.bind fun acc1 S3 => outM g t im g1 t1 add vs env so r acc1 S3 else outM g t im g1 t1 add vs env so r acc S1 := by
  conv => lhs; unfold outM
  rw [R.if_pos h] <;> (cases g d env <;> rfl)
end
theorem allO_int (xs : List Int) : allO inO (xs.map .int) = some xs := allO_map (g := D.int) (fun _ => rfl) xs
theorem kkO_int (xs : List Int) : kkO (xs.map .int) = some (xs.map .inl) := by
  have := kkO_map (xs.map .inl)
  rw [List.map_map] at this
  exact this
@[simp] theorem s_fldaug_eq (k i : Nat) (g : Int → Int → Int) (mo mv : EM) (env : Env) (S : Sto) : s_fldaug k i g mo mv env S = (mo env S).toS env fun d S1 => (R.ofO (fldD [(k, i)] d S1) S1).toS env fun x S2 => (mv env S2).toS env fun y S3 => match x, y with
  | .int i1, .int j1 => match setF [(k, i)] d (.int (g i1 j1)) S3 with
    | some S4 => .next env S4
    | none => .bad
  | _, _ => .bad := rfl
theorem azs : ("a" : Str).cps.toList = [97] ∧ ("z" : Str).cps.toList = [122] := by decide +kernel
theorem le_low {c : Nat} (h : 97 ≤ c ∧ c ≤ 122) : decide (([c] : List Nat) < [97]) = false ∧ decide (([122] : List Nat) < [c]) = false := by
  constructor
  · rw [decide_eq_false_iff_not]; rw [List.cons_lt_cons_iff]; rintro (q | ⟨_, q⟩); omega; exact absurd q (List.not_lt_nil _)
  · rw [decide_eq_false_iff_not]; rw [List.cons_lt_cons_iff]; rintro (q | ⟨_, q⟩); omega; exact absurd q (List.not_lt_nil _)
theorem lc_low (S : Sto) : ∀ (cs : List Nat) (n : Nat) (z : D), (∀ c ∈ cs, 97 ≤ c ∧ c ≤ 122) → n + cs.length ≤ 100 → lcM (g_name 1) t_yes (e_chain strLeD strLeD (e_k (.str "a")) (e_v 1) (e_k (.str "z"))) [some z, none] none (cs.map fun k => .str ⟨#[k]⟩) (List.replicate n (.bl true)) S = .ok (List.replicate (n + cs.length) (.bl true)) S
  | [], n, z, h, hn => by simp
  | c :: r, n, z, h, hn => by
    have hc := le_low (h c List.mem_cons_self)
    have z1 : (n < sizeLine) = True := eq_true (by have := szb; simp at hn; omega)
    have ih := lc_low S r (n + 1) z (fun d m => h d (List.mem_cons_of_mem _ m)) (by simp at hn ⊢; omega)
    rw [List.replicate_succ'] at ih
    simp only [List.map_cons, lcM_cons]
    simp [azs, hc, z1, ih]
    omega
theorem is_name_ok {z : Str} (h : Tk.IsName z) (S : Sto) : m_is_name [.str z] S = .ok (.bl true) S := by
  obtain ⟨h1, h8, hl⟩ := h
  have z1 : (z.length ≤ sizeLine) = True := eq_true (by have := szb; omega)
  have z2 : ((1 : Int) ≤ (z.length : Int)) = True := eq_true (by omega)
  have z3 : ((z.length : Int) ≤ 8) = True := eq_true (by omega)
  have lc := lc_low S z.cps.toList 0 (.str z) hl (by have : z.cps.toList.length = z.length := by simp [Str.length]
                                                     omega)
  simp only [List.replicate_zero, Nat.zero_add] at lc
  have hb : allO blO (List.replicate z.cps.toList.length (.bl true)) = some (List.replicate z.cps.toList.length true) := by
    have := allO_map (f := blO) (g := D.bl) (fun _ => rfl) (List.replicate z.cps.toList.length true)
    rwa [List.map_replicate] at this
  have hall : (List.replicate z.cps.toList.length true).all id = true := by rw [List.all_eq_true]; intro x hx; rw [List.mem_replicate] at hx; simp [hx.2]
  simp only [m_is_name, runDef, b_is_name]
  simp [isiD, z1, z2, z3, wipeE]
  simp only [Array.length_toList] at lc hb hall
  simp [lc, allD, hb, hall]
end Mm
set_option maxRecDepth 100000
namespace Mm
open PySem L2
/-! statements -/
mutual
def sD : Tk.Stm → D
  | .one w => .tup [.str w.s]
  | .nam b n => .tup [.str (Tk.lockS b), .str n]
  | .ch y n => .tup [.str "choose", .tup (sDs y), .tup (sDs n)]
def sDs : List Tk.Stm → List D
  | [] => []
  | s :: r => sD s :: sDs r
end
theorem sDs_map : ∀ l : List Tk.Stm, sDs l = l.map sD
  | [] => by rw [sDs]; rfl
  | s :: r => by rw [sDs, sDs_map r]; rfl
theorem sDs_len (l : List Tk.Stm) : (sDs l).length = l.length := by rw [sDs_map, List.length_map]
def wd : Tk.Stm → Str
  | .one w => w.s
  | .nam b _ => Tk.lockS b
  | .ch _ _ => "choose"
abbrev plD (p : Tk.Pl) : List D := p.map .int
@[simp] theorem has_form_2 (x n : Str) (h : items.lookup x = some 2) (S : Sto) : m_has_form [.tup [.str x, .str n]] S = .ok (.bl true) S := by
  unfold m_has_form; rw [runDef_eq (by rfl)]; unfold b_has_form
  have hc : (x = "choose") = False := by
    simp only [eq_iff_iff, iff_false]; rintro rfl; simp at h
  simp [isiD, h, hc]
theorem fault_ok (s : Tk.Stm) (d : Nat) (h : Int) (hs : s.ok d h) (pl : List D) (hp : pl.length = 2 * d + 1) (n : Int) (n8 : (n = 8) = False) (S : Sto) : m_fault_of [sD s, .ttp pl, .int n, .int h] S = .ok .non S := by
  cases s with
  | one w =>
    unfold Tk.Stm.ok at hs
    cases w with
    | take =>
      have h3 : (h = 3) = False := eq_false (hs rfl)
      simp [sD, Tk.Wd.s, m_fault_of, runDef, b_fault_of, inF, DV, inV, eqV, n8, h3]
    | _ => simp [sD, Tk.Wd.s, m_fault_of, runDef, b_fault_of, inF, DV, inV, eqV, n8]
  | nam b x =>
    unfold Tk.Stm.ok at hs
    have hn := fun S => is_name_ok hs S
    cases b with
    | true => simp [sD, Tk.lockS, m_fault_of, runDef, b_fault_of, inF, DV, inV, eqV, n8, hn]
    | false => simp [sD, Tk.lockS, m_fault_of, runDef, b_fault_of, inF, DV, inV, eqV, n8, hn]
  | ch y z =>
    unfold Tk.Stm.ok at hs
    have hq : ((pl.length : Int) / 2 = 2) = False := eq_false (by rw [hp]; omega)
    simp [sD, m_fault_of, runDef, b_fault_of, inF, DV, inV, eqV, n8, hq, cdiv2]
theorem held_ok (w : Tk.Wd) (h : Int) (S : Sto) : m_held_after [.str w.s, .int h] S = .ok (.int (w.held h)) S := by
  cases w <;> simp [Tk.Wd.s, Tk.Wd.held, m_held_after, runDef, b_held_after, inF, DV, inV, eqV]
theorem held_nam (b : Bool) (h : Int) (S : Sto) : m_held_after [.str (Tk.lockS b), .int h] S = .ok (.int h) S := by
  cases b <;> simp [Tk.lockS, m_held_after, runDef, b_held_after, inF, DV, inV, eqV]
/-! the found statements -/
def kD (ks : List Tk.Pl) : List D := .non :: ks.map fun p => .tup (plD p)
theorem unK_pl (p : Tk.Pl) : allO unK (plD p) = some (Tk.key p) := by
  induction p with
  | nil => rfl
  | cons i r ih => simp only [plD, List.map_cons, allO] at ih ⊢; rw [ih]; rfl
theorem ktO_pl : ∀ ks : List Tk.Pl, allO unT (ks.map fun p => D.tup (plD p)) = some (ks.map Tk.key)
  | [] => rfl
  | p :: r => by
    rw [List.map_cons, allO, unT_tup, unK_pl, Option.bind_some, ktO_pl r]; rfl
theorem key_inj {p q : Tk.Pl} (h : Tk.key p = Tk.key q) : p = q := by
  unfold Tk.key at h
  induction p generalizing q with
  | nil => cases q with
    | nil => rfl
    | cons _ _ => cases h
  | cons a r ih => cases q with
    | nil => cases h
    | cons b t =>
      rw [List.map_cons, List.map_cons] at h
      injection h with h1 h2
      rw [Sum.inl.inj h1, ih h2]
theorem getDs_lk (p : Tk.Pl) : ∀ l : List (Tk.Pl × Tk.Stm), getDs ((l.map (·.1)).map Tk.key) (l.map fun x => sD x.2) (Tk.key p) = (Tk.lk l p).map sD
  | [] => rfl
  | (q, s) :: r => by
    have ih := getDs_lk p r
    unfold getDs at ih ⊢
    rw [List.map_cons, List.map_cons, List.map_cons, List.zip_cons_cons, List.find?_cons]
    show Option.map _ (match decide (Tk.key q = Tk.key p) with | true => _ | false => _) = Option.map sD (if q = p then some s else Tk.lk r p)
    by_cases e : q = p
    · rw [if_pos e, e, decide_eq_true rfl]; rfl
    · rw [if_neg e, decide_eq_false (fun z => e (key_inj z)), ← ih]
theorem dgetO_lk (l : List (Tk.Pl × Tk.Stm)) (p : Tk.Pl) (y : D) (hy : y = .tup (plD p)) : dgetO (kD (l.map (·.1)), l.map fun x => sD x.2) y = some ((Tk.lk l p).map sD) := by
  subst hy
  unfold dgetO kD
  rw [show kkO (D.non :: (l.map (·.1)).map fun p => D.tup (plD p)) = none from rfl]
  dsimp only
  rw [ktO_non, ktO_pl, ]
  dsimp only
  rw [unT_tup, unK_pl, Option.map_some, getDs_lk]
theorem dputO_new (ks : List Tk.Pl) (vs : List D) (p : Tk.Pl) (z : D) (hp : p ∉ ks) (hl : ks.length ≤ 1000) : dputO (kD ks) vs (.ttp (plD p)) z = some (kD (ks ++ [p]), vs ++ [z]) := by
  have h1 : ((ks.map Tk.key).any fun x => decide (x = Tk.key p)) = false := by
    rw [List.any_eq_false]
    intro x hx e
    obtain ⟨q, hq, rfl⟩ := List.mem_map.mp hx
    exact hp (by rw [← key_inj (of_decide_eq_true e)]; exact hq)
  have h2 : (ks.map Tk.key).length < sizeLine := by rw [List.length_map]; have := szb; omega
  have h3 : ((ks ++ [p]).map Tk.key).map tupD = (ks ++ [p]).map fun q => .tup (plD q) := by
    rw [List.map_map]
    refine List.map_congr_left fun q _ => ?_
    show tupD (Tk.key q) = _
    unfold tupD Tk.key
    rw [List.map_map]; rfl
  unfold dputO kD
  rw [show kkO (D.non :: ks.map fun p => D.tup (plD p)) = none from rfl]
  dsimp only
  rw [ktO_non, ktO_pl]
  dsimp only
  rw [unR_ttp, unK_pl, Option.bind_some, if_pos h2]
  unfold putDs
  rw [h1]
  simp only [Bool.false_eq_true, if_false]
  rw [← h3]
  simp only [List.map_append, List.map_cons, List.map_nil]
end Mm
set_option maxRecDepth 100000
namespace Mm
open PySem L2
mutual
theorem walk_pre : ∀ (s : Tk.Stm) (p : Tk.Pl) (x : Tk.Pl × Tk.Stm), x ∈ s.walk p → ∃ q, x.1 = p ++ q
  | .one w, p, x, h => by rw [Tk.Stm.walk, List.mem_singleton] at h; rw [h]; exact ⟨[], (List.append_nil _).symm⟩
  | .nam b n, p, x, h => by rw [Tk.Stm.walk, List.mem_singleton] at h; rw [h]; exact ⟨[], (List.append_nil _).symm⟩
  | .ch y n, p, x, h => by
    rw [Tk.Stm.walk] at h
    rcases List.mem_cons.mp h with h | h
    · rw [h]; exact ⟨[], (List.append_nil _).symm⟩
    · rcases List.mem_append.mp h with h | h
      · obtain ⟨j, q, _, e⟩ := walkAll_pre y _ 0 x h
        exact ⟨0 :: j :: q, by rw [e]; simp⟩
      · obtain ⟨j, q, _, e⟩ := walkAll_pre n _ 0 x h
        exact ⟨1 :: j :: q, by rw [e]; simp⟩
theorem walkAll_pre : ∀ (B : List Tk.Stm) (p : Tk.Pl) (i : Nat) (x : Tk.Pl × Tk.Stm), x ∈ Tk.walkAll B p i → ∃ (j : Nat) (q : Tk.Pl), i ≤ j ∧ x.1 = p ++ (j : Int) :: q
  | [], p, i, x, h => by rw [Tk.walkAll] at h; cases h
  | s :: r, p, i, x, h => by
    rw [Tk.walkAll] at h
    rcases List.mem_append.mp h with h | h
    · obtain ⟨q, e⟩ := walk_pre s _ x h
      exact ⟨i, q, Nat.le_refl _, by rw [e]; simp⟩
    · obtain ⟨j, q, l, e⟩ := walkAll_pre r p (i + 1) x h
      exact ⟨j, q, by omega, e⟩
end
abbrev plcs (l : List (Tk.Pl × Tk.Stm)) : List Tk.Pl := l.map (·.1)
abbrev stms (l : List (Tk.Pl × Tk.Stm)) : List D := l.map fun x => sD x.2
theorem pl_snoc (p : Tk.Pl) (i : Int) : plD (p ++ [i]) = plD p ++ [.int i] := by simp [plD]
theorem set_self {T : Sto} {f : Nat} {a : SO} (h : T[f]? = some a) : T.set f a = T := by
  obtain ⟨h1, rfl⟩ := List.getElem?_eq_some_iff.mp h
  exact List.set_getElem_self h1
theorem get_ne {T : Sto} {c f : Nat} {a o : SO} (n : f ≠ c) (h : T[c]? = some o) : (T.set f a)[c]? = some o := by rw [List.getElem?_set_ne n]; exact h
theorem get_eq {T : Sto} {f : Nat} {a o : SO} (h : T[f]? = some o) : (T.set f a)[f]? = some a := List.getElem?_set_self (Rep.lt h)
theorem dic_loc {T : Sto} {f : Nat} {ks ds : List D} (h : T[f]? = some (.dic ks ds)) : dicOf T (.loc f) = some (ks, ds) := by rw [dicOf_loc, h]
theorem fld_at {T : Sto} {k c i : Nat} {ds : List D} {x : D} (h : T[c]? = some (.ins k ds)) (hi : ds[i]? = some x) : fldD [(k, i)] (.loc c) T = some x := by
  unfold fldD
  rw [insOf_loc h]
  simp [List.lookup, hi]
abbrev Tst (T : Sto) (c f : Nat) (ks : List Tk.Pl) (vs : List D) : Prop := T[c]? = some (.ins 2 [.loc f]) ∧ T[f]? = some (.dic (kD ks) vs)
theorem Tst.step {T : Sto} {c f : Nat} {ks : List Tk.Pl} {vs : List D} (h : Tst T c f ks vs) (ks' : List Tk.Pl) (vs' : List D) : Tst (T.set f (.dic (kD ks') vs')) c f ks' vs' := by
  refine ⟨get_ne (fun e => ?_) h.1, get_eq h.2⟩
  have h1 := h.1
  rw [← e, h.2] at h1
  exact nomatch h1
theorem isI_at {T : Sto} {k c : Nat} {ds : List D} (h : T[c]? = some (.ins k ds)) : isI k (.loc c) T := isI_loc h
/-- the body of the loop over a branch -/
noncomputable def cbB (m : FM) : SM := s_set 3 (e_mth tr0 2 m (e_v 0) (a_cons (e_v 5) (a_cons (e_op addT (e_v 2) (e_ttp (a_cons (e_v 4) a_nil))) (a_cons (e_v 3) a_nil))))
mutual
theorem chk_stm (c f : Nat) : ∀ (s : Tk.Stm) (d : Nat) (h : Int) (n : Nat) (p : Tk.Pl) (ks : List Tk.Pl) (vs : List D) (T : Sto), s.ok d h → p.length = 2 * d + 1 → d ≤ 2 → 2 * (2 - d) + 1 ≤ n → vs.length = ks.length → ks.length + s.cnt ≤ 8 → (∀ q, p ++ q ∉ ks) → Tst T c f ks vs →
    (mCC n).2 [.loc c, sD s, .ttp (plD p), .int h] T = .ok (.int (s.held h)) (T.set f (.dic (kD (ks ++ plcs (s.walk p))) (vs ++ stms (s.walk p))))
  | s, d, h, 0, p, ks, vs, T, hs, hp, hd, hn, hl, hc, hf, t => by omega
  | .one w, d, h, n + 1, p, ks, vs, T, hs, hp, hd, hn, hl, hc, hf, t => by
    have n8 : ((vs.length : Int) = 8) = False := eq_false (by rw [Tk.Stm.cnt] at hc; omega)
    have hF := fun S => fault_ok (.one w) d h hs (plD p) (by simp [hp]) vs.length n8 S
    have hP := dputO_new ks vs p (sD (.one w)) (by have := hf []; simpa using this) (by rw [Tk.Stm.cnt] at hc; omega)
    have hch : (w.s = "choose") = False := by cases w <;> simp [Tk.Wd.s]
    simp only [sD, plD] at hF hP
    simp [mCC_s, m_Check_check_statement', runDef, b_Check_check_statement, sD, fld_at t.1, dlen_loc, dic_loc t.2, hF, t.2, hP, hch, held_ok, Tk.Stm.walk, Tk.Stm.held]
  | .nam b x, d, h, n + 1, p, ks, vs, T, hs, hp, hd, hn, hl, hc, hf, t => by
    have n8 : ((vs.length : Int) = 8) = False := eq_false (by rw [Tk.Stm.cnt] at hc; omega)
    have hF := fun S => fault_ok (.nam b x) d h hs (plD p) (by simp [hp]) vs.length n8 S
    have hP := dputO_new ks vs p (sD (.nam b x)) (by have := hf []; simpa using this) (by rw [Tk.Stm.cnt] at hc; omega)
    have hch : (Tk.lockS b = "choose") = False := by cases b <;> simp [Tk.lockS]
    simp only [sD, plD] at hF hP
    simp [mCC_s, m_Check_check_statement', runDef, b_Check_check_statement, sD, fld_at t.1, dlen_loc, dic_loc t.2, hF, t.2, hP, hch, held_nam, Tk.Stm.walk, Tk.Stm.held]
  | .ch y z, d, h, n + 1, p, ks, vs, T, hs, hp, hd, hn, hl, hc, hf, t => by
    have n8 : ((vs.length : Int) = 8) = False := eq_false (by rw [Tk.Stm.cnt] at hc; omega)
    have hF := fun S => fault_ok (.ch y z) d h hs (plD p) (by simp [hp]) vs.length n8 S
    have hP := dputO_new ks vs p (sD (.ch y z)) (by have := hf []; simpa using this) (by rw [Tk.Stm.cnt] at hc; omega)
    rw [Tk.Stm.ok] at hs
    rw [Tk.Stm.cnt] at hc
    simp only [sD, plD] at hF hP
    have t1 := t.step (ks ++ [p]) (vs ++ [sD (.ch y z)])
    have e1 := chk_all c f y (d + 1) h n (p ++ [0]) (ks ++ [p]) (vs ++ [sD (.ch y z)]) _ hs.2.1 (by simp [hp]; omega) (by omega) (by omega) (by simp [hl]) (by simp; omega) (fun j q _ hm => by
      rcases List.mem_append.mp hm with hm | hm
      · exact hf (0 :: j :: q) (by simpa using hm)
      · rw [List.mem_singleton] at hm
        have := congrArg List.length hm
        simp at this) t1
    have t2 := t1.step (ks ++ [p] ++ plcs (Tk.walkAll y (p ++ [0]) 0)) (vs ++ [sD (.ch y z)] ++ stms (Tk.walkAll y (p ++ [0]) 0))
    have e2 := chk_all c f z (d + 1) h n (p ++ [1]) (ks ++ [p] ++ plcs (Tk.walkAll y (p ++ [0]) 0)) (vs ++ [sD (.ch y z)] ++ stms (Tk.walkAll y (p ++ [0]) 0)) _ hs.2.2 (by simp [hp]; omega) (by omega) (by omega) (by simp [hl]) (by simp [Tk.walkAll_len]; omega) (fun j q _ hm => by
      rcases List.mem_append.mp hm with hm | hm
      · rcases List.mem_append.mp hm with hm | hm
        · exact hf (1 :: j :: q) (by simpa using hm)
        · rw [List.mem_singleton] at hm
          have := congrArg List.length hm
          simp at this
      · obtain ⟨x, hx, ex⟩ := List.mem_map.mp hm
        obtain ⟨j2, q2, _, e⟩ := walkAll_pre y _ 0 x hx
        rw [e] at ex
        simp at ex) t2
    have zl : (List.length p + 1 ≤ sizeLine) = True := eq_true (by have := szb; omega)
    rw [pl_snoc] at e1 e2
    rw [List.set_set] at e1 e2
    rw [List.set_set] at e2
    simp only [sD] at e1 e2 t1 t2
    rw [List.set_set] at t2
    have i1 := isI_at t1.1
    have i2 := isI_at t2.1
    simp only [List.append_assoc, List.cons_append, List.nil_append] at e1 e2 i1 i2
    simp [mCC_s, m_Check_check_statement', runDef, b_Check_check_statement, sD, fld_at t.1, dlen_loc, dic_loc t.2, hF, t.2, hP, zl, e1, e2, i1, i2, Tk.Stm.walk, Tk.Stm.held]
    split <;> omega


theorem chk_all (c f : Nat) : ∀ (B : List Tk.Stm) (d : Nat) (h : Int) (n : Nat) (p : Tk.Pl) (ks : List Tk.Pl) (vs : List D) (T : Sto), Tk.okAll d B h → p.length = 2 * d → d ≤ 2 → 2 * (2 - d) + 2 ≤ n → vs.length = ks.length → ks.length + Tk.cntAll B ≤ 8 → (∀ (j : Nat) q, 0 ≤ j → p ++ (j : Int) :: q ∉ ks) → Tst T c f ks vs →
    (mCC n).1 [.loc c, .tup (sDs B), .ttp (plD p), .int h] T = .ok (.int (Tk.heldAll B h)) (T.set f (.dic (kD (ks ++ plcs (Tk.walkAll B p 0))) (vs ++ stms (Tk.walkAll B p 0))))
  | B, d, h, 0, p, ks, vs, T, hs, hp, hd, hn, hl, hc, hf, t => by omega
  | B, d, h, n + 1, p, ks, vs, T, hs, hp, hd, hn, hl, hc, hf, t => by
    obtain ⟨x, y, e⟩ := chk_loop c f B d h n p 0 ks vs T (.tup (sDs B)) none none hs hp hd (by omega) hl hc hf t
    unfold cbB at e
    simp [mCC_s, m_Check_check_branch', runDef, b_Check_check_branch, e]
theorem chk_loop (c f : Nat) : ∀ (B : List Tk.Stm) (d : Nat) (h : Int) (n : Nat) (p : Tk.Pl) (i : Nat) (ks : List Tk.Pl) (vs : List D) (T : Sto) (z : D) (x y : Option D), Tk.okAll d B h → p.length = 2 * d → d ≤ 2 → 2 * (2 - d) + 1 ≤ n → vs.length = ks.length → ks.length + Tk.cntAll B ≤ 8 → (∀ (j : Nat) q, i ≤ j → p ++ (j : Int) :: q ∉ ks) → Tst T c f ks vs →
    ∃ x' y', loopS (g_tup (g_cons (g_name 4) (g_cons (g_name 5) g_nil))) (cbB (mCC n).2) none (numD i (sDs B)) [some (.loc c), some z, some (.ttp (plD p)), some (.int h), x, y] T = .next [some (.loc c), some z, some (.ttp (plD p)), some (.int (Tk.heldAll B h)), x', y'] (T.set f (.dic (kD (ks ++ plcs (Tk.walkAll B p i))) (vs ++ stms (Tk.walkAll B p i))))
  | [], d, h, n, p, i, ks, vs, T, z, x, y, hs, hp, hd, hn, hl, hc, hf, t => by
    refine ⟨x, y, ?_⟩
    simp [sDs, Tk.walkAll, Tk.heldAll, set_self t.2]
  | s :: r, d, h, n, p, i, ks, vs, T, z, x, y, hs, hp, hd, hn, hl, hc, hf, t => by
    rw [Tk.okAll] at hs
    rw [Tk.cntAll] at hc
    have e1 := chk_stm c f s d h n (p ++ [(i : Int)]) ks vs T hs.1 (by simp [hp]) hd hn hl (by omega) (fun q hm => hf i q (Nat.le_refl _) (by simpa using hm)) t
    have t1 := t.step (ks ++ plcs (s.walk (p ++ [(i : Int)]))) (vs ++ stms (s.walk (p ++ [(i : Int)])))
    obtain ⟨x', y', e2⟩ := chk_loop c f r d (s.held h) n p (i + 1) (ks ++ plcs (s.walk (p ++ [(i : Int)]))) (vs ++ stms (s.walk (p ++ [(i : Int)]))) _ z (some (.int i)) (some (sD s)) hs.2 hp hd hn (by simp [hl]) (by simp [Tk.walk_len]; omega) (fun j q hj hm => by
      rcases List.mem_append.mp hm with hm | hm
      · exact hf j q (by omega) hm
      · obtain ⟨x, hx, ex⟩ := List.mem_map.mp hm
        obtain ⟨q2, e⟩ := walk_pre s _ x hx
        rw [e] at ex
        simp at ex
        omega) t1
    refine ⟨x', y', ?_⟩
    have zl : (List.length p + 1 ≤ sizeLine) = True := eq_true (by have := szb; omega)
    rw [pl_snoc] at e1
    rw [List.set_set] at e2
    unfold cbB at e2
    simp only [sDs, numD_cons, loopS_cons]
    simp [cbB, isI_at t.1, zl, e1, e2, Tk.walkAll, Tk.heldAll]
end
end Mm
set_option maxRecDepth 100000
namespace Mm
open PySem L2
/-! what stands nowhere in the store -/
mutual
def D.dp : D → Nat
  | .tup ds => dps ds + 1
  | .ttp ds => dps ds + 1
  | .lst ds => dps ds + 1
  | .dic _ ds => dps ds + 1
  | .obj _ ds => dps ds + 1
  | .xn _ ds => dps ds + 1
  | _ => 0
def dps : List D → Nat
  | [] => 0
  | d :: r => max d.dp (dps r)
end
mutual
theorem rsv_pure {n : Nat} {S : Sto} : ∀ (f : Nat) (d : D), d.lo 0 = true → d.dp < f → rsv n S f d = some d
  | 0, d, h, hf => absurd hf (Nat.not_lt_zero _)
  | f + 1, .tup ds, h, hf => by unfold D.lo at h; unfold D.dp at hf; unfold rsv; rw [rsvs_pure f ds h (by omega)]; rfl
  | f + 1, .ttp ds, h, hf => by unfold D.lo at h; unfold D.dp at hf; unfold rsv; rw [rsvs_pure f ds h (by omega)]; rfl
  | f + 1, .lst ds, h, hf => by unfold D.lo at h; unfold D.dp at hf; unfold rsv; rw [rsvs_pure f ds h (by omega)]; rfl
  | f + 1, .dic ks ds, h, hf => by unfold D.lo at h; unfold D.dp at hf; unfold rsv; rw [rsvs_pure f ds h (by omega)]; rfl
  | f + 1, .obj k ds, h, hf => by unfold D.lo at h; unfold D.dp at hf; unfold rsv; rw [rsvs_pure f ds h (by omega)]; rfl
  | f + 1, .xn k ds, h, hf => by unfold D.lo at h; unfold D.dp at hf; unfold rsv; rw [rsvs_pure f ds h (by omega)]; rfl
  | f + 1, .loc k, h, hf => by unfold D.lo at h; exact absurd (of_decide_eq_true h) (Nat.not_lt_zero _)
  | f + 1, .non, h, hf => by unfold rsv; rfl
  | f + 1, .bl b, h, hf => by unfold rsv; rfl
  | f + 1, .int i, h, hf => by unfold rsv; rfl
  | f + 1, .str x, h, hf => by unfold rsv; rfl
  | f + 1, .fz ns, h, hf => by unfold rsv; rfl
  | f + 1, .oth u, h, hf => by unfold rsv; rfl
theorem rsvs_pure {n : Nat} {S : Sto} : ∀ (f : Nat) (ds : List D), los 0 ds = true → dps ds < f ∨ ds = [] ∨ dps ds < f → rsvs n S f ds = some ds
  | f, [], h, hf => by unfold rsvs; rfl
  | f, d :: r, h, hf => by
    unfold los at h; unfold rsvs
    rw [Bool.and_eq_true] at h
    have hf' : dps (d :: r) < f := by rcases hf with hf | hf | hf <;> simp_all
    unfold dps at hf'
    rw [rsv_pure f d h.1 (by omega), rsvs_pure f r h.2 (by omega)]; rfl
end
mutual
theorem lo_mono {n m : Nat} (hm : n ≤ m) : ∀ d : D, d.lo n = true → d.lo m = true
  | .tup ds, h => by unfold D.lo at h ⊢; exact los_mono hm ds h
  | .ttp ds, h => by unfold D.lo at h ⊢; exact los_mono hm ds h
  | .lst ds, h => by unfold D.lo at h ⊢; exact los_mono hm ds h
  | .dic ks ds, h => by unfold D.lo at h ⊢; exact los_mono hm ds h
  | .obj k ds, h => by unfold D.lo at h ⊢; exact los_mono hm ds h
  | .xn k ds, h => by unfold D.lo at h ⊢; exact los_mono hm ds h
  | .loc k, h => by unfold D.lo at h ⊢; exact decide_eq_true (Nat.lt_of_lt_of_le (of_decide_eq_true h) hm)
  | .non, h => rfl
  | .bl b, h => rfl
  | .int i, h => rfl
  | .str x, h => rfl
  | .fz ns, h => rfl
  | .oth u, h => rfl
theorem los_mono {n m : Nat} (hm : n ≤ m) : ∀ ds : List D, los n ds = true → los m ds = true
  | [], h => rfl
  | d :: r, h => by
    unfold los at h ⊢
    rw [Bool.and_eq_true] at h
    rw [lo_mono hm d h.1, los_mono hm r h.2]; rfl
end
theorem rsvD_lo {n : Nat} {S : Sto} {d : D} (h : d.lo 0 = true) : rsvD n S d = some d := if_pos (lo_mono (Nat.zero_le n) d h)
theorem los_all : ∀ {ds : List D}, (∀ d ∈ ds, d.lo 0 = true) → los 0 ds = true
  | [], h => rfl
  | d :: r, h => by unfold los; rw [h d List.mem_cons_self, los_all fun x hx => h x (List.mem_cons_of_mem _ hx)]; rfl
theorem dps_all {k : Nat} : ∀ {ds : List D}, (∀ d ∈ ds, d.dp ≤ k) → dps ds ≤ k
  | [], h => by unfold dps; exact Nat.zero_le _
  | d :: r, h => by
    unfold dps
    have h1 := h d List.mem_cons_self
    have h2 := dps_all fun x hx => h x (List.mem_cons_of_mem _ hx)
    omega
/-! statements, places -/
mutual
theorem sD_lo : ∀ s : Tk.Stm, (sD s).lo 0 = true
  | .one w => rfl
  | .nam b n => rfl
  | .ch y n => by
    unfold sD; simp only [D.lo, los, sDs_lo y, sDs_lo n, Bool.and_self]
theorem sDs_lo : ∀ B : List Tk.Stm, los 0 (sDs B) = true
  | [] => rfl
  | s :: r => by unfold sDs los; rw [sD_lo s, sDs_lo r]; rfl
end
mutual
theorem sD_dp : ∀ (s : Tk.Stm) (d : Nat) (h : Int), s.ok d h → d ≤ 2 → (sD s).dp ≤ 2 * (2 - d) + 1
  | .one w, d, h, hs, hd => by unfold sD; simp only [D.dp, dps]; omega
  | .nam b n, d, h, hs, hd => by unfold sD; simp only [D.dp, dps]; omega
  | .ch y n, d, h, hs, hd => by
    unfold Tk.Stm.ok at hs
    have h1 := sDs_dp y (d + 1) h hs.2.1 (by omega)
    have h2 := sDs_dp n (d + 1) h hs.2.2 (by omega)
    unfold sD; simp only [D.dp, dps]; omega
theorem sDs_dp : ∀ (B : List Tk.Stm) (d : Nat) (h : Int), Tk.okAll d B h → d ≤ 2 → dps (sDs B) ≤ 2 * (2 - d) + 1
  | [], d, h, hs, hd => by unfold sDs dps; omega
  | s :: r, d, h, hs, hd => by
    unfold Tk.okAll at hs
    have h1 := sD_dp s d h hs.1 hd
    have h2 := sDs_dp r d _ hs.2 hd
    unfold sDs dps; omega
end
theorem pl_lo : ∀ p : Tk.Pl, los 0 (plD p) = true
  | [] => rfl
  | i :: r => by show (true && los 0 (plD r)) = true; rw [pl_lo r]; rfl
theorem pl_dp : ∀ p : Tk.Pl, dps (plD p) = 0
  | [] => rfl
  | i :: r => by show max 0 (dps (plD r)) = 0; rw [pl_dp r]; rfl
mutual
theorem walk_dp : ∀ (s : Tk.Stm) (d : Nat) (h : Int) (p : Tk.Pl), s.ok d h → d ≤ 2 → ∀ x ∈ s.walk p, (sD x.2).dp ≤ 5
  | .one w, d, h, p, hs, hd, x, hx => by rw [Tk.Stm.walk, List.mem_singleton] at hx; rw [hx]; exact Nat.le_trans (sD_dp _ d h hs hd) (by omega)
  | .nam b n, d, h, p, hs, hd, x, hx => by rw [Tk.Stm.walk, List.mem_singleton] at hx; rw [hx]; exact Nat.le_trans (sD_dp _ d h hs hd) (by omega)
  | .ch y n, d, h, p, hs, hd, x, hx => by
    rw [Tk.Stm.walk] at hx
    rcases List.mem_cons.mp hx with e | hx
    · rw [e]; exact Nat.le_trans (sD_dp _ d h hs hd) (by omega)
    · unfold Tk.Stm.ok at hs
      rcases List.mem_append.mp hx with hx | hx
      · exact walkAll_dp y (d + 1) h _ 0 hs.2.1 (by omega) x hx
      · exact walkAll_dp n (d + 1) h _ 0 hs.2.2 (by omega) x hx
theorem walkAll_dp : ∀ (B : List Tk.Stm) (d : Nat) (h : Int) (p : Tk.Pl) (i : Nat), Tk.okAll d B h → d ≤ 2 → ∀ x ∈ Tk.walkAll B p i, (sD x.2).dp ≤ 5
  | [], d, h, p, i, hs, hd, x, hx => by rw [Tk.walkAll] at hx; cases hx
  | s :: r, d, h, p, i, hs, hd, x, hx => by
    rw [Tk.walkAll] at hx
    unfold Tk.okAll at hs
    rcases List.mem_append.mp hx with hx | hx
    · exact walk_dp s d h _ hs.1 hd x hx
    · exact walkAll_dp r d _ p (i + 1) hs.2 hd x hx
end
/-- a good script -/
structure GoodS (B : List Tk.Stm) : Prop where
  ok : Tk.okAll 0 B 0
  cnt : Tk.cntAll B ≤ 8
  ne : B ≠ []
abbrev wk (B : List Tk.Stm) := Tk.walkAll B [] 0
def scrD (B : List Tk.Stm) : D := .obj 1 [.tup (sDs B), .dic (kD (plcs (wk B))) (stms (wk B)), .tup ((plcs (wk B)).map fun p => .tup (plD p))]
theorem stms_lo (l : List (Tk.Pl × Tk.Stm)) : los 0 (stms l) = true := los_all fun d hd => by
  obtain ⟨x, _, rfl⟩ := List.mem_map.mp hd
  exact sD_lo _
theorem plcs_lo (l : List Tk.Pl) : los 0 (l.map fun p => D.tup (plD p)) = true := los_all fun d hd => by
  obtain ⟨x, _, rfl⟩ := List.mem_map.mp hd
  unfold D.lo; exact pl_lo _
theorem plcs_dp (l : List Tk.Pl) : dps (l.map fun p => D.tup (plD p)) ≤ 1 := dps_all fun d hd => by
  obtain ⟨x, _, rfl⟩ := List.mem_map.mp hd
  unfold D.dp; rw [pl_dp]; exact Nat.le_refl _
theorem stms_dp {B : List Tk.Stm} (g : GoodS B) : dps (stms (wk B)) ≤ 5 := dps_all fun d hd => by
  obtain ⟨x, hx, rfl⟩ := List.mem_map.mp hd
  exact walkAll_dp B 0 0 [] 0 g.ok (by decide) x hx
theorem keysO_kD (ks : List Tk.Pl) : keysO (kD ks) = some (ks.map fun p => .tup (plD p)) := by
  unfold keysO kD
  rw [show kkO (D.non :: ks.map fun p => D.tup (plD p)) = none from rfl]
  simp only [ktO_non, ktO_pl]
  rw [Option.map_some, List.map_map]
  congr 1
  refine List.map_congr_left fun q _ => ?_
  show tupD (Tk.key q) = _
  unfold tupD Tk.key
  rw [List.map_map]; rfl
theorem script_mk {B : List Tk.Stm} (g : GoodS B) (S : Sto) : trunc S (mkD 1 m_Script___init__ [.tup (sDs B)] S) = .ok (scrD B) S := by
  have hc := chk_all (S.length + 1) (S.length + 2) B 0 0 6 [] [] [] (S ++ [.ins 1 [], .ins 2 [.loc (S.length + 2)], .dic [.non] []]) g.ok rfl (by decide) (by decide) rfl (by simpa using g.cnt) (fun _ _ _ h => by cases h) ⟨by simp, by simp [kD]⟩
  have hne : (sDs B = []) = False := eq_false fun e => g.ne (by have := congrArg List.length e; rw [sDs_len] at this; exact List.length_eq_zero_iff.mp this)
  have hl : ((plcs (wk B)).length ≤ sizeLine) = True := eq_true (by have := szb; have := g.cnt; simp [Tk.walkAll_len]; omega)
  have r1 := fun S' => rsvs_pure (n := S.length) (S := S') 10 (sDs B) (sDs_lo B) (.inl (by have := sDs_dp B 0 0 g.ok (by decide); omega))
  have r2 := fun S' => rsvs_pure (n := S.length) (S := S') 10 (stms (wk B)) (stms_lo _) (.inl (by have := stms_dp g; omega))
  have r3 := fun S' => rsvs_pure (n := S.length) (S := S') 10 ((plcs (wk B)).map fun p => D.tup (plD p)) (plcs_lo _) (.inl (by have := plcs_dp (plcs (wk B)); omega))
  have hk := keysO_kD (plcs (wk B))
  simp [kD] at hc hk hl
  simp at r3
  simp [mkD, m_Script___init__, runDef, b_Script___init__, isiD, m_Check___init__, b_Check___init__, setF, Nat.add_assoc, fldD, List.lookup, hne, m_Check_check_branch, hc, dlist_loc, hk, hl, rsvD, rsv, rsvs, D.lo, los, r1, r2, r3, scrD, kD]
end Mm
set_option maxRecDepth 100000
namespace Mm
open PySem L2
theorem cut_init (ds : List D) (x : D) : cutD (ds ++ [x]) none (some (-1)) = ds := by
  unfold cutD
  have e1 : HT.sIx (ds ++ [x]).length 0 none = 0 := rfl
  have e2 : HT.sIx (ds ++ [x]).length (ds ++ [x]).length (some (-1)) = ds.length := by
    unfold HT.sIx
    simp only
    rw [if_pos (by decide), List.length_append, List.length_singleton]; omega
  rw [e1, e2]; simp
theorem cut_init2 (ds : List D) (x y : D) : cutD (ds ++ [x, y]) none (some (-2)) = ds := by
  unfold cutD
  have e1 : HT.sIx (ds ++ [x, y]).length 0 none = 0 := rfl
  have e2 : HT.sIx (ds ++ [x, y]).length (ds ++ [x, y]).length (some (-2)) = ds.length := by
    unfold HT.sIx
    simp only
    rw [if_pos (by decide), List.length_append]; simp; omega
  rw [e1, e2]; simp
theorem cut_one2 (x : D) : cutD [x] none (some (-2)) = [] := by
  unfold cutD
  have e2 : HT.sIx [x].length [x].length (some (-2)) = 0 := by
    unfold HT.sIx
    simp only
    rw [if_pos (by decide)]; simp
  rw [e2]; simp
theorem at_last (ds : List D) (x : D) : atI (ds ++ [x]) (-1) = some x := by
  unfold atI ixN
  have e : (-1 + ((ds.length : Int) + 1)).toNat = ds.length := by omega
  have e2 : (1 : Int) ≤ (ds.length : Int) + 1 := by omega
  simp [e, e2]
theorem cut_hd (x : D) (r : List D) : cutD (x :: r) none (some 1) = [x] := by simp [cutD, HT.sIx]
theorem cut_tl (x : D) (r : List D) : cutD (x :: r) (some 1) none = r := by simp [cutD, HT.sIx]
open Classical in
@[simp] theorem isI_scr (B : List Tk.Stm) (S : Sto) : isI 1 (scrD B) S := ⟨_, rfl⟩
variable (B : List Tk.Stm) (S : Sto)
@[simp] theorem scr_stm : fldD [(1, 0)] (scrD B) S = some (.tup (sDs B)) := rfl
@[simp] theorem scr_found : fldD [(1, 1)] (scrD B) S = some (.dic (kD (plcs (wk B))) (stms (wk B))) := rfl
@[simp] theorem scr_found2 : fldD [(1, 1), (2, 0)] (scrD B) S = some (.dic (kD (plcs (wk B))) (stms (wk B))) := rfl
@[simp] theorem scr_places : fldD [(1, 2)] (scrD B) S = some (.tup ((plcs (wk B)).map fun p => .tup (plD p))) := rfl
theorem len_eq : m_Script___len__ [scrD B] S = .ok (.int (Tk.cntAll B)) S := by
  simp [m_Script___len__, runDef, b_Script___len__, Tk.walkAll_len]
end Mm
set_option maxRecDepth 100000
namespace Mm
open PySem L2
abbrev sL (l : List Str) : List D := l.map .str
abbrev iL (l : List Int) : List D := l.map .int
/-! kinds, systems -/
structure KA where
  nm : Str
  sc : List Tk.Stm
  bl : Int
  mn : Nat
structure YA where
  ks : List KA
  ah : Int
  wi : Option Int
  cr : Int
def kinD (k : KA) : D := .obj 4 [.str k.nm, scrD k.sc, .int k.bl, .int k.mn]
def wiD : Option Int → D
  | none => .non
  | some w => .int w
@[simp] theorem wiD_none : wiD none = .non := rfl
@[simp] theorem wiD_some (w : Int) : wiD (some w) = .int w := rfl
/-- the kinds of the sessions -/
def YA.ses (y : YA) : List KA := y.ks.flatMap fun k => List.replicate k.mn k
def sysD (y : YA) : D := .obj 5 [.tup (y.ks.map kinD), .int y.ah, wiD y.wi, .int y.cr, .tup (sL (y.ses.map (·.nm)))]
structure GoodK (k : KA) : Prop where
  nm : Tk.IsName k.nm
  sc : GoodS k.sc
  bl : 1 ≤ k.bl ∧ k.bl ≤ 3
  mn : 1 ≤ k.mn ∧ k.mn ≤ 3
structure GoodY (y : YA) : Prop where
  ks : ∀ k ∈ y.ks, GoodK k
  nd : (y.ks.map (·.nm)).Nodup
  ne : y.ks ≠ []
  few : y.ses.length ≤ 3
  size : y.ses.length = 3 → ∀ k ∈ y.ks, Tk.cntAll k.sc ≤ 4
  ah : 0 ≤ y.ah ∧ y.ah ≤ 4
  wi : ∀ w, y.wi = some w → w ≤ 8 ∧ ∀ k ∈ y.ks, k.bl ≤ w
  cr : 0 ≤ y.cr ∧ y.cr ≤ 2
theorem ses_mem {y : YA} {k : KA} (h : k ∈ y.ses) : k ∈ y.ks := by
  obtain ⟨k', h1, h2⟩ := List.mem_flatMap.mp h
  rw [List.mem_replicate] at h2
  rw [h2.2]; exact h1
variable (y : YA) (S : Sto)
@[simp] theorem k_name (k : KA) : fldD [(4, 0)] (kinD k) S = some (.str k.nm) := rfl
@[simp] theorem k_script (k : KA) : fldD [(4, 1)] (kinD k) S = some (scrD k.sc) := rfl
@[simp] theorem k_block (k : KA) : fldD [(4, 2)] (kinD k) S = some (.int k.bl) := rfl
@[simp] theorem k_many (k : KA) : fldD [(4, 3)] (kinD k) S = some (.int k.mn) := rfl
@[simp] theorem y_kinds : fldD [(5, 0)] (sysD y) S = some (.tup (y.ks.map kinD)) := rfl
@[simp] theorem y_ahead : fldD [(5, 1)] (sysD y) S = some (.int y.ah) := rfl
@[simp] theorem y_window : fldD [(5, 2)] (sysD y) S = some (wiD y.wi) := rfl
@[simp] theorem y_crashes : fldD [(0, 5), (3, 3), (5, 3)] (sysD y) S = some (.int y.cr) := rfl
@[simp] theorem y_crashes2 : fldD [(3, 3), (5, 3)] (sysD y) S = some (.int y.cr) := rfl
@[simp] theorem y_sessions : fldD [(5, 4)] (sysD y) S = some (.tup (sL (y.ses.map (·.nm)))) := rfl
@[simp] theorem y_sessions2 : fldD [(3, 4), (5, 4)] (sysD y) S = some (.tup (sL (y.ses.map (·.nm)))) := rfl
open Classical in
@[simp] theorem isI_sys : isI 5 (sysD y) S := ⟨_, rfl⟩
theorem atI_nat {α : Type} (l : List α) (i : Nat) : atI l (i : Int) = l[i]? := by
  unfold atI ixN
  by_cases h : i < l.length
  · simp [h]
  · simp [h]
theorem rsv_wi (n : Nat) (S : Sto) (f : Nat) (w : Option Int) : rsv n S (f + 1) (wiD w) = some (wiD w) := by
  cases w <;> (unfold wiD rsv; rfl)
theorem wi_lo (w : Option Int) : (wiD w).lo 0 = true := by cases w <;> rfl
@[simp] theorem y_crashes3 : fldD [(5, 3)] (sysD y) S = some (.int y.cr) := rfl
end Mm
set_option maxRecDepth 100000
namespace Mm
open PySem L2
theorem scr_lo (B : List Tk.Stm) : (scrD B).lo 0 = true := by
  unfold scrD; simp only [D.lo, los, sDs_lo, stms_lo, plcs_lo, Bool.and_self]
theorem scr_dp {B : List Tk.Stm} (g : GoodS B) : (scrD B).dp ≤ 7 := by
  have := sDs_dp B 0 0 g.ok (by decide)
  have := stms_dp g
  have := plcs_dp (plcs (wk B))
  unfold scrD; simp only [D.dp, dps]; omega
theorem kin_lo (k : KA) : (kinD k).lo 0 = true := by
  unfold kinD; simp only [D.lo, los, scr_lo, Bool.and_self]
theorem kin_dp {k : KA} (g : GoodK k) : (kinD k).dp ≤ 8 := by
  have := scr_dp g.sc
  unfold kinD; simp only [D.dp, dps]; omega
theorem script_of_eq {B : List Tk.Stm} (g : GoodS B) (S : Sto) : m_script_of [.tup (sDs B)] S = .ok (scrD B) S := by
  have := script_mk g
  simp [m_script_of, runDef, b_script_of, isiD, kt_Script, this]
theorem kind_mk {k : KA} (g : GoodK k) (S : Sto) : trunc S (mkDk 4 m_Kind___init__ (fun x => gKind x [.str k.nm, .tup (sDs k.sc)] [.int k.bl, .int k.mn]) S) = .ok (kinD k) S := by
  have b1 := (And.intro g.bl g.mn)
  have n0 : (1 : Int) ≤ k.mn := by have := g.mn; omega
  have n3 : (k.mn : Int) ≤ 3 := by have := g.mn; omega
  have nm := fun S => is_name_ok g.nm S
  have so := fun S => script_of_eq g.sc S
  have r1 := fun S' => rsv_pure (n := S.length) (S := S') 11 (scrD k.sc) (scr_lo _) (by have := scr_dp g.sc; omega)
  simp [mkDk, gKind, m_Kind___init__, runDef, b_Kind___init__, nm, so, g.bl.1, g.bl.2, n0, n3, setF, List.lookup, rsvD, rsv, rsvs, D.lo, los, r1, kinD]
open Classical in
theorem len_own (B : List Tk.Stm) (S : Sto) (h : Tk.cntAll B ≤ 8) : lenOwnD 1 m_Script___len__ (scrD B) S = .ok (.int (Tk.cntAll B)) S := by
  have e := len_eq B S
  have hP : (0 ≤ (Tk.cntAll B : Int) ∧ (Tk.cntAll B : Int) < 2 ^ 63) := ⟨Int.natCast_nonneg _, Int.lt_of_le_of_lt (Int.ofNat_le.mpr h) (by decide +kernel)⟩
  rw [lenOwnD_eq, R.if_pos (isI_scr B S), e, R.nox_ok, R.bind_ok]
  dsimp only
  rw [R.if_pos hP]
@[simp] theorem kin_ty (k : KA) (S : Sto) : tyOf S (kinD k) = some (.inr 4) := rfl
@[simp] theorem within_non (lo hi : Int) (S : Sto) : m_is_within [.non, .int lo, .int hi] S = .ok (.bl false) S := by
  have h : ktB "int" (.inl "NoneType") = some false := by decide +kernel
  simp [m_is_within, runDef, b_is_within, m_is_integer, b_is_integer, isiD, h]
theorem fault_sys1 {k : KA} (gk : GoodK k) (hs : k.mn = 3 → Tk.cntAll k.sc ≤ 4) {ah cr : Int} {wi : Option Int} (a : 0 ≤ ah ∧ ah ≤ 4) (hw : ∀ w, wi = some w → w ≤ 8 ∧ k.bl ≤ w) (c : 0 ≤ cr ∧ cr ≤ 2) (S : Sto) : m_fault_of_system [.tup [kinD k], .int ah, wiD wi, .int cr] S = .ok .non S := by
  have n3' : ((k.mn : Int) ≤ 3) = True := eq_true (by have := gk.mn; omega)
  have co : ∀ S, m_count_of_sessions [.tup [kinD k]] S = .ok (.int k.mn) S := fun S => by
    simp [m_count_of_sessions, runDef, b_count_of_sessions, wipeE, sumD]
  have mn1 : LenS.many [k.nm] 1 = 1 := by simp [LenS.many]
  have ar : ∀ S, m_are_kinds [.tup [kinD k]] S = .ok (.bl true) S := fun S => by
    simp [m_are_kinds, runDef, b_are_kinds, wipeE, isiD, kt_Kind, allD, lensD, mn1, co, n3']
  have l1 := fun S => len_own k.sc S gk.sc.cnt
  by_cases h3 : k.mn = 3
  · have h3' : ((k.mn : Int) = 3) = True := eq_true (by omega)
    have ml : ((4 : Int) < (Tk.cntAll k.sc : Int)) = False := eq_false (by have := hs h3; omega)
    cases wi with
    | none => simp -implicitDefEqProofs [m_fault_of_system, runDef, b_fault_of_system, ar, co, wipeE, maxD, h3', maxL, a.1, a.2, c.1, c.2, l1, ml, -lenOwnD_eq]
    | some w =>
      have := hw w rfl
      simp -implicitDefEqProofs [m_fault_of_system, runDef, b_fault_of_system, ar, co, wipeE, maxD, h3', maxL, a.1, a.2, c.1, c.2, this.1, this.2, l1, ml, -lenOwnD_eq]
  · have h3' : ((k.mn : Int) = 3) = False := eq_false (by omega)
    cases wi with
    | none => simp -implicitDefEqProofs [m_fault_of_system, runDef, b_fault_of_system, ar, co, wipeE, maxD, h3', maxL, a.1, a.2, c.1, c.2]
    | some w =>
      have := hw w rfl
      simp -implicitDefEqProofs [m_fault_of_system, runDef, b_fault_of_system, ar, co, wipeE, maxD, h3', maxL, a.1, a.2, c.1, c.2, this.1, this.2]
theorem fault_sys2 {k k2 : KA} (gk : GoodK k) (gk2 : GoodK k2) (hn : k.nm ≠ k2.nm) (hm : k.mn + k2.mn ≤ 3) (hs : k.mn + k2.mn = 3 → Tk.cntAll k.sc ≤ 4 ∧ Tk.cntAll k2.sc ≤ 4) {ah cr : Int} {wi : Option Int} (a : 0 ≤ ah ∧ ah ≤ 4) (hw : ∀ w, wi = some w → w ≤ 8 ∧ k.bl ≤ w ∧ k2.bl ≤ w) (c : 0 ≤ cr ∧ cr ≤ 2) (S : Sto) : m_fault_of_system [.tup [kinD k, kinD k2], .int ah, wiD wi, .int cr] S = .ok .non S := by
  have n3' : ((k.mn : Int) + (k2.mn : Int) ≤ 3) = True := eq_true (by omega)
  have co : ∀ S, m_count_of_sessions [.tup [kinD k, kinD k2]] S = .ok (.int ((k.mn : Int) + k2.mn)) S := fun S => by
    simp [m_count_of_sessions, runDef, b_count_of_sessions, wipeE, sumD]
  have mn2 : LenS.many [k.nm, k2.nm] 2 = 2 := by simp [LenS.many, hn]
  have ar : ∀ S, m_are_kinds [.tup [kinD k, kinD k2]] S = .ok (.bl true) S := fun S => by
    simp [m_are_kinds, runDef, b_are_kinds, wipeE, isiD, kt_Kind, allD, lensD, mn2, co, n3']
  have l1 := fun S => len_own k.sc S gk.sc.cnt
  have l2 := fun S => len_own k2.sc S gk2.sc.cnt
  have mb : ∀ w, wi = some w → (max k.bl k2.bl ≤ w) = True := fun w h => eq_true (by have := hw w h; omega)
  have ml : k.mn + k2.mn = 3 → (4 < max (Tk.cntAll k.sc : Int) (Tk.cntAll k2.sc : Int)) = False := fun h => eq_false (by have := hs h; omega)
  by_cases h3 : k.mn + k2.mn = 3
  · have h3' : ((k.mn : Int) + (k2.mn : Int) = 3) = True := eq_true (by omega)
    have ml' := ml h3
    cases wi with
    | none => simp -implicitDefEqProofs [m_fault_of_system, runDef, b_fault_of_system, ar, co, wipeE, maxD, h3', maxL, a.1, a.2, c.1, c.2, l1, l2, ml', -lenOwnD_eq]
    | some w =>
      have := hw w rfl
      simp -implicitDefEqProofs [m_fault_of_system, runDef, b_fault_of_system, ar, co, wipeE, maxD, h3', maxL, a.1, a.2, c.1, c.2, l1, l2, ml', mb w rfl, this.1, -lenOwnD_eq]
  · have h3' : ((k.mn : Int) + (k2.mn : Int) = 3) = False := eq_false (by omega)
    cases wi with
    | none => simp -implicitDefEqProofs [m_fault_of_system, runDef, b_fault_of_system, ar, co, wipeE, maxD, h3', maxL, a.1, a.2, c.1, c.2]
    | some w =>
      have := hw w rfl
      simp -implicitDefEqProofs [m_fault_of_system, runDef, b_fault_of_system, ar, co, wipeE, maxD, h3', maxL, a.1, a.2, c.1, c.2, mb w rfl, this.1]
theorem fault_sys3 {k k2 k3 : KA} (gk : GoodK k) (gk2 : GoodK k2) (gk3 : GoodK k3) (h1 : k.mn = 1) (h2 : k2.mn = 1) (h3 : k3.mn = 1) (n1 : k.nm ≠ k2.nm) (n2 : k.nm ≠ k3.nm) (n3 : k2.nm ≠ k3.nm) (hs : Tk.cntAll k.sc ≤ 4 ∧ Tk.cntAll k2.sc ≤ 4 ∧ Tk.cntAll k3.sc ≤ 4) {ah cr : Int} {wi : Option Int} (a : 0 ≤ ah ∧ ah ≤ 4) (hw : ∀ w, wi = some w → w ≤ 8 ∧ k.bl ≤ w ∧ k2.bl ≤ w ∧ k3.bl ≤ w) (c : 0 ≤ cr ∧ cr ≤ 2) (S : Sto) : m_fault_of_system [.tup [kinD k, kinD k2, kinD k3], .int ah, wiD wi, .int cr] S = .ok .non S := by
  have co : ∀ S, m_count_of_sessions [.tup [kinD k, kinD k2, kinD k3]] S = .ok (.int 3) S := fun S => by
    simp [m_count_of_sessions, runDef, b_count_of_sessions, wipeE, sumD, h1, h2, h3]
  have mn2 : LenS.many [k.nm, k2.nm, k3.nm] 3 = 3 := by simp [LenS.many, n1, n2, n3]
  have ar : ∀ S, m_are_kinds [.tup [kinD k, kinD k2, kinD k3]] S = .ok (.bl true) S := fun S => by
    simp [m_are_kinds, runDef, b_are_kinds, wipeE, isiD, kt_Kind, allD, lensD, mn2, co]
  have l1 := fun S => len_own k.sc S gk.sc.cnt
  have l2 := fun S => len_own k2.sc S gk2.sc.cnt
  have l3 := fun S => len_own k3.sc S gk3.sc.cnt
  have mb : ∀ w, wi = some w → (max (max k.bl k2.bl) k3.bl ≤ w) = True := fun w h => eq_true (by have := hw w h; omega)
  have mb' : ∀ w, wi = some w → (max k.bl (max k2.bl k3.bl) ≤ w) = True := fun w h => eq_true (by have := hw w h; omega)
  have ml : (4 < max (Tk.cntAll k.sc : Int) (max (Tk.cntAll k2.sc : Int) (Tk.cntAll k3.sc : Int))) = False := eq_false (by omega)
  have ml2 : (4 < max (max (Tk.cntAll k.sc : Int) (Tk.cntAll k2.sc : Int)) (Tk.cntAll k3.sc : Int)) = False := eq_false (by omega)
  cases wi with
  | none => simp -implicitDefEqProofs [m_fault_of_system, runDef, b_fault_of_system, ar, co, wipeE, maxD, maxL, a.1, a.2, c.1, c.2, l1, l2, l3, ml, ml2, -lenOwnD_eq]
  | some w =>
    have := hw w rfl
    simp -implicitDefEqProofs [m_fault_of_system, runDef, b_fault_of_system, ar, co, wipeE, maxD, maxL, a.1, a.2, c.1, c.2, l1, l2, l3, ml, ml2, mb w rfl, mb' w rfl, this.1, -lenOwnD_eq]
end Mm
set_option maxRecDepth 100000
namespace Mm
open PySem L2
theorem sL_lo (l : List Str) : los 0 (sL l) = true := los_all fun d hd => by
  obtain ⟨x, _, rfl⟩ := List.mem_map.mp hd
  rfl
theorem sL_dp (l : List Str) : dps (sL l) ≤ 0 := dps_all fun d hd => by
  obtain ⟨x, _, rfl⟩ := List.mem_map.mp hd
  exact Nat.le_refl _
theorem kins_lo (l : List KA) : los 0 (l.map kinD) = true := los_all fun d hd => by
  obtain ⟨x, _, rfl⟩ := List.mem_map.mp hd
  exact kin_lo x
theorem kins_dp {l : List KA} (g : ∀ k ∈ l, GoodK k) : dps (l.map kinD) ≤ 8 := dps_all fun d hd => by
  obtain ⟨x, hx, rfl⟩ := List.mem_map.mp hd
  exact kin_dp (g x hx)
open Classical in
theorem ses_in (k : KA) (env : Env) (S : Sto) (h6 : env[6]? = some (some (kinD k))) (hl : 7 < env.length) : ∀ (n : Nat) (lo : Int) (acc : List D), acc.length + n ≤ 900 → inM (g_name 7) t_yes (addL2 (e_fld [(4, 0)] (e_v 6))) env none (rngD lo n) acc S = .ok (acc ++ List.replicate n (.str k.nm)) S
  | 0, lo, acc, hn => by unfold rngD; simp
  | n + 1, lo, acc, hn => by
    have z1 : (acc.length < sizeLine) = True := eq_true (by have := szb; omega)
    have h7 : (env.set 7 (some (D.int lo)))[6]? = some (some (kinD k)) := by rw [List.getElem?_set_ne (by decide)]; exact h6
    have ih := ses_in k env S h6 hl n (lo + 1) (acc ++ [.str k.nm]) (by simp; omega)
    show inM _ _ _ _ none (.int lo :: rngD (lo + 1) n) _ _ = _
    rw [inM_cons]
    simp [addL2, h7, z1, ih, List.replicate_succ]
open Classical in
theorem ses_out (S : Sto) (env : Env) (hl : env.length = 8) (l : List KA) : ∀ (acc : List D), (∀ k ∈ l, k.mn ≤ 3) → acc.length + 3 * l.length ≤ 100 → outM (g_name 6) t_yes (i_rng1 (e_fld [(4, 3)] (e_v 6))) (g_name 7) t_yes (addL2 (e_fld [(4, 0)] (e_v 6))) [7] env none (l.map kinD) acc S = .ok (acc ++ sL ((l.flatMap fun k => List.replicate k.mn k).map (·.nm))) S := by
  induction l with
  | nil =>
    intro acc hm hn
    rw [List.map_nil, outM_nil _ _ _ _ _ _ _ _ _ _ _ (stay_none _ _)]
    simp
  | cons k r ih =>
    intro acc hm hn
    have m3 := hm k List.mem_cons_self
    have q1 : (-4611686018427387904 ≤ (k.mn : Int)) = True := eq_true (by omega)
    have q2 : ((k.mn : Int) < 4611686018427387904) = True := eq_true (by omega)
    have w : ∀ z : Option D, wipeE (env.set 6 z) [7] = (env.set 6 z).set 7 none := fun z => by simp [wipeE]
    have g6 : ∀ z : Option D, (env.set 6 z)[6]? = some z := fun z => List.getElem?_set_self (by omega)
    have i1 := ses_in k ((env.set 6 (some (kinD k))).set 7 none) S (by rw [List.getElem?_set_ne (by decide)]; exact g6 _) (by simp [hl]) k.mn 0 acc (by simp at hn; omega)
    have ih' := ih (acc ++ List.replicate k.mn (.str k.nm)) (fun k' h => hm k' (List.mem_cons_of_mem _ h)) (by simp at hn ⊢; omega)
    rw [List.map_cons, outM_cons _ _ _ _ _ _ _ _ _ _ _ _ _ (stay_none _ _)]
    simp -implicitDefEqProofs [g6, q1, q2, w, i1, ih', hl]
theorem len_two {α : Type} : ∀ {l : List α}, l.length = 2 → ∃ a b, l = [a, b]
  | [a, b], _ => ⟨a, b, rfl⟩
theorem sys_mk {y : YA} (g : GoodY y) (hf : ∀ S, m_fault_of_system [.tup (y.ks.map kinD), .int y.ah, wiD y.wi, .int y.cr] S = .ok .non S) (hl : y.ks.length ≤ 3) (S : Sto) : trunc S (mkDk 5 m_System___init__ (fun x => gSystem x [.int y.ah, wiD y.wi, .int y.cr] ++ [.tup (y.ks.map kinD)]) S) = .ok (sysD y) S := by
  have so := fun S env he => ses_out S env he y.ks [] (fun k h => (g.ks k h).mn.2) (by simp; omega)
  have zl : (y.ses.length ≤ sizeLine) = True := eq_true (by have := g.few; have := szb; omega)
  have e1 : (y.ks.flatMap fun k => List.replicate k.mn k) = y.ses := rfl
  have r1 := fun S' => rsvs_pure (n := S.length) (S := S') 10 (y.ks.map kinD) (kins_lo _) (.inl (by have := kins_dp g.ks; omega))
  have r2 := fun S' => rsvs_pure (n := S.length) (S := S') 10 (sL (y.ses.map (·.nm))) (sL_lo _) (.inl (by have := sL_dp (y.ses.map (·.nm)); omega))
  have r3 := fun S' => rsv_wi S.length S' 10 y.wi
  simp only [e1, sL, List.map_map, List.nil_append] at so r2
  simp -implicitDefEqProofs [mkDk, gSystem, m_System___init__, runDef, b_System___init__, hf, setF, List.lookup, wipeE, so, zl, rsvD, rsv, rsvs, D.lo, los, r1, r2, r3, sysD]
end Mm
set_option maxRecDepth 100000
namespace Mm
open PySem L2
/-! the law's numbers -/
theorem cmul_mod (x y : Int) : CMul (x % 2147483647) y := .inl ⟨by have := Int.emod_nonneg x (show (2147483647 : Int) ≠ 0 by decide); omega, by have := Int.emod_lt_of_pos x (show (0 : Int) < 2147483647 by decide); omega⟩
theorem cmul_r (x : Int) : CMul x 48271 := .inr ⟨by decide, by decide⟩
theorem cmul_l (x : Int) : CMul 7919 x := .inl ⟨by decide, by decide⟩
def lcg (b c : Int) : Int := (((b + 7919 * (c + 1) + 1) * 48271 % 2147483647 * ((b + 7919 * (c + 1) + 1) * 48271 % 2147483647 / 1009 + 69621)) % 2147483647 * (((b + 7919 * (c + 1) + 1) * 48271 % 2147483647 * ((b + 7919 * (c + 1) + 1) * 48271 % 2147483647 / 1009 + 69621)) % 2147483647 / 2003 + 40692)) % 2147483399
theorem pick_eq {S : Sto} {p : Nat} {a b c n : Int} (h : S[p]? = some (.lst [.int a, .int b, .int c])) (n0 : 0 < n) (n1 : n < 1073741824) :
    ∃ r a' b' c', m__law_pick [.loc p, .int n] S = .ok (.int r) (S.set p (.lst [.int a', .int b', .int c'])) ∧ 0 ≤ r ∧ r < n := by
  unfold m__law_pick
  rw [runDef_eq (by rfl)]
  unfold b__law_pick
  by_cases ha : 0 < a
  · refine ⟨a % n, a / n, b, c, ?_, Int.emod_nonneg _ (by omega), Int.emod_lt_of_pos _ n0⟩
    simp [h, ha, n0, n1, CDiv, ixN]
  · refine ⟨lcg b c / 16 % n, a, b, c + 1, ?_, Int.emod_nonneg _ (by omega), Int.emod_lt_of_pos _ n0⟩
    simp [h, ha, n0, n1, CDiv, ixN, set_get h, cmul_mod, cmul_r, cmul_l, lcg]
abbrev pO (a b c : Int) : SO := .lst [.int a, .int b, .int c]
theorem box_eq (ns : List Int) (k : Nat) (S : Sto) : ∃ a b c, m__law_box [.fz ns, .int k] S = .ok (.loc S.length) (S ++ [pO a b c]) := by
  have cp : CPow 10 18 := by unfold CPow; decide
  have cm : CMul 104729 (k : Int) := .inl ⟨by decide, by decide⟩
  by_cases hk : k < ns.length
  · have g : (ns.map D.int)[k]? = some (.int ns[k]) := by rw [List.getElem?_map, List.getElem?_eq_getElem hk]; rfl
    by_cases hz : (1000000000000000000 : Int) ≤ ns[k]
    · refine ⟨ns[k] - 1000000000000000000, ns[k] % 2147483629 + k, 0, ?_⟩
      simp [m__law_box, runDef, b__law_box, hk, ixD, atI_nat, g, cp, cm, hz]
    · refine ⟨0, ns[k] % 2147483629 + 104729 * k, 0, ?_⟩
      simp [m__law_box, runDef, b__law_box, hk, ixD, atI_nat, g, cp, cm, hz]
  · refine ⟨0, 0 % 2147483629 + 104729 * k, 0, ?_⟩
    simp [m__law_box, runDef, b__law_box, hk, cp, cm]
theorem pickS {S : Sto} {p : Nat} (hp : p < S.length) (a b c : Int) {n : Int} (n0 : 0 < n) (n1 : n < 1073741824) :
    ∃ r a' b' c', m__law_pick [.loc p, .int n] (S.set p (pO a b c)) = .ok (.int r) (S.set p (pO a' b' c')) ∧ 0 ≤ r ∧ r < n := by
  obtain ⟨r, a', b', c', e, h⟩ := pick_eq (S := S.set p (pO a b c)) (List.getElem?_set_self hp) n0 n1
  rw [List.set_set] at e
  exact ⟨r, a', b', c', e, h⟩
theorem alpha_len : Tk.alpha.length ≤ sizeLine := by decide +kernel
theorem alpha_ix {r : Int} (r0 : 0 ≤ r) (r1 : r < 26) (S : Sto) : ∃ c, ixD (D.str Tk.alpha) (D.int r) S = R.ok (D.str ⟨#[c]⟩) S ∧ 97 ≤ c ∧ c ≤ 122 := by
  obtain ⟨c, hc, h⟩ := Tk.alpha_at r0 r1
  refine ⟨c, ?_, h⟩
  show R.if (Tk.alpha.length ≤ sizeLine) (R.ofO ((L2.atI Tk.alpha.cps.toList r).map fun k => D.str ⟨#[k]⟩) S) = _
  rw [R.if_pos alpha_len, hc]; rfl
end Mm
set_option maxRecDepth 100000
namespace Mm
open PySem L2
/-! behind a call that changes what stands below -/
def Upd (S S1 : Sto) : Prop := S1.length = S.length ∧ ∀ k, k < S.length → S1[k]? = S[k]? ∨ ∃ o, S1[k]? = some o ∧ o.lo 0 = true
theorem so_mono {n m : Nat} (h : n ≤ m) : ∀ o : SO, o.lo n = true → o.lo m = true
  | .lst ds, q => los_mono h ds q
  | .dic ks ds, q => los_mono h ds q
  | .ins k ds, q => los_mono h ds q
open Classical in
theorem trunc_upd {S S1 : Sto} (u : Upd S S1) (l : Sto) (d : D) : trunc S (.ok d (S1 ++ l)) = .ofO (rsvD S.length (S1 ++ l) d) S1 := by
  have tr : Tr S.length S (S1 ++ l) := fun k hk => by
    rw [List.getElem?_append_left (by rw [u.1]; exact hk)]
    rcases u.2 k hk with h | ⟨o, h, q⟩
    · exact .inl h
    · exact .inr ⟨o, h, so_mono (Nat.zero_le _) o q⟩
  unfold trunc
  dsimp only
  rw [R.if_pos tr, ← u.1, List.take_left' rfl]
theorem upd_p {S : Sto} {p : Nat} {P P' : SO} (hp : P'.lo 0 = true) : Upd (S.set p P) (S.set p P') := by
  refine ⟨by simp, fun k hk => ?_⟩
  rw [List.length_set] at hk
  by_cases h2 : k = p
  · right
    subst h2
    exact ⟨P', List.getElem?_set_self hk, hp⟩
  · rw [List.getElem?_set_ne (Ne.symm h2), List.getElem?_set_ne (Ne.symm h2)]
    exact .inl rfl
theorem Upd.refl (S : Sto) : Upd S S := ⟨rfl, fun _ _ => .inl rfl⟩
theorem app_last (T : Sto) (o : SO) : (T ++ [o])[T.length]? = some o := by rw [List.getElem?_append_right (Nat.le_refl _), Nat.sub_self]; rfl
theorem app_slast (T : Sto) (o o' : SO) : (T ++ [o]).set T.length o' = T ++ [o'] := by rw [List.set_append_right _ _ (Nat.le_refl _), Nat.sub_self]; rfl
theorem sDs_app (a b : List Tk.Stm) : sDs (a ++ b) = sDs a ++ sDs b := by rw [sDs_map, sDs_map, sDs_map, List.map_append]
abbrev pB (x : Int × Int × Int) : SO := pO x.1 x.2.1 x.2.2
/-- the store with a pool and a list behind -/
abbrev St2 (S : Sto) (p : Nat) (P : Int × Int × Int) (rows : List Tk.Stm) : Sto := (S ++ [SO.lst (sDs rows)]).set p (pB P)
theorem st2_at {S : Sto} {p : Nat} (hp : p < S.length) (P : Int × Int × Int) (rows : List Tk.Stm) : (St2 S p P rows)[S.length]? = some (.lst (sDs rows)) := by
  unfold St2
  rw [List.getElem?_set_ne (by omega)]; exact app_last S _
theorem st2_set {S : Sto} {p : Nat} (hp : p < S.length) (P : Int × Int × Int) (rows rows' : List Tk.Stm) : (St2 S p P rows).set S.length (.lst (sDs rows')) = St2 S p P rows' := by
  unfold St2
  rw [List.set_comm _ _ (by omega), app_slast]
theorem st2_eq {S : Sto} {p : Nat} (hp : p < S.length) (P : Int × Int × Int) (rows : List Tk.Stm) : St2 S p P rows = S.set p (pB P) ++ [SO.lst (sDs rows)] := by
  unfold St2
  rw [List.set_append_left _ _ hp]
/-! words -/
noncomputable def wdB : SM := s_set 4 (e_op addD (e_v 4) (e_op ixD (e_v 3) (e_fn tr0 m__law_pick (a_cons (e_v 0) (a_cons (e_k (.int 26)) a_nil)))))
theorem wd_loop {S : Sto} {p : Nat} (hp : p < S.length) (x1 x2 : Option D) : ∀ (k : Nat) (lo : Int) (z : Str) (P : Int × Int × Int) (x : Option D), Tk.Low z → z.length + k ≤ 7 → ∃ z' P' x', Tk.Low z' ∧ z'.length = z.length + k ∧
    loopS (g_name 5) wdB none (rngD lo k) [some (.loc p), x1, x2, some (.str Tk.alpha), some (.str z), x] (S.set p (pB P)) = .next [some (.loc p), x1, x2, some (.str Tk.alpha), some (.str z'), x'] (S.set p (pB P'))
  | 0, lo, z, P, x, hz, hl => ⟨z, P, x, hz, rfl, by unfold rngD; rw [loopS_nil]⟩
  | k + 1, lo, z, (a, b, c), x, hz, hl => by
    obtain ⟨r, a1, b1, c1, e1, r0, r1⟩ := pickS hp a b c (n := 26) (by decide) (by decide)
    obtain ⟨l, e2, hl2⟩ := alpha_ix r0 r1 (S.set p (pO a1 b1 c1))
    have le : (z ++ (⟨#[l]⟩ : Str)).length = z.length + 1 := by rw [Tk.len_app, Tk.len_one]
    obtain ⟨z', P', x', h1, h2, h3⟩ := wd_loop hp x1 x2 k (lo + 1) (z ++ ⟨#[l]⟩) (a1, b1, c1) (some (.int lo)) (Tk.low_app hz (Tk.low_one hl2)) (by omega)
    refine ⟨z', P', x', h1, by omega, ?_⟩
    have zs : (z.length + (⟨#[l]⟩ : Str).length ≤ sizeLine) = True := eq_true (by have := szb; rw [Tk.len_one]; omega)
    rw [← h3]
    show loopS (g_name 5) wdB none (.int lo :: rngD (lo + 1) k) _ _ = _
    rw [loopS_cons]
    simp [wdB, e1, e2, zs]
theorem word_eq {S : Sto} {p : Nat} (hp : p < S.length) (P : Int × Int × Int) {c : Nat} (hc : 97 ≤ c ∧ c ≤ 122) : ∃ z P', Tk.IsName (z ++ ⟨#[c]⟩) ∧ m__law_word [.loc p, .int 8, .str ⟨#[c]⟩] (S.set p (pB P)) = .ok (.str (z ++ ⟨#[c]⟩)) (S.set p (pB P')) := by
  obtain ⟨a, b, d⟩ := P
  obtain ⟨r, a1, b1, c1, e1, r0, r1⟩ := pickS hp a b d (n := 8) (by decide) (by decide)
  obtain ⟨z, P', x', hz, hl, e2⟩ := wd_loop hp (some (.int 8)) (some (.str ⟨#[c]⟩)) r.toNat 0 "" (a1, b1, c1) none Tk.low_nil (by show 0 + _ ≤ 7; omega)
  have hl' : z.length ≤ 7 := by rw [hl]; show 0 + _ ≤ 7; omega
  refine ⟨z, P', ⟨by rw [Tk.len_app, Tk.len_one]; omega, by rw [Tk.len_app, Tk.len_one]; omega, Tk.low_app hz (Tk.low_one hc)⟩, ?_⟩
  have r2 : (-4611686018427387904 ≤ r) = True := eq_true (by omega)
  have r3 : (r < 4611686018427387904) = True := eq_true (by omega)
  have zs : (z.length + (⟨#[c]⟩ : Str).length ≤ sizeLine) = True := eq_true (by have := szb; rw [Tk.len_one]; omega)
  have e3 : ∀ env S, s_for (i_rng1 (e_fn tr0 m__law_pick (a_cons (e_v 0) (a_cons (e_v 1) a_nil)))) (g_name 5) wdB env S = s_for (i_rng1 (e_fn tr0 m__law_pick (a_cons (e_v 0) (a_cons (e_v 1) a_nil)))) (g_name 5) wdB env S := fun _ _ => rfl
  unfold wdB at e2
  simp [m__law_word, runDef, b__law_word, e1, r2, r3, e2, zs]
end Mm
set_option maxRecDepth 100000
namespace Mm
open PySem L2
theorem allO_DV_s : ∀ l : List Str, allO DV (sL l) = some (l.map V.str)
  | [] => rfl
  | x :: r => by
    have ih := allO_DV_s r
    show (DV (.str x)).bind _ = _
    simp only [sL] at ih ⊢
    simp [DV, ih]
theorem inV_strs (n : Str) (l : List Str) : inV (.str n) (l.map V.str) = decide (n ∈ l) := by
  unfold inV
  rw [Bool.eq_iff_iff, List.any_eq_true, decide_eq_true_eq]
  constructor
  · rintro ⟨x, hx, h⟩
    obtain ⟨y, hy, rfl⟩ := List.mem_map.mp hx
    simp [eqV] at h
    first | (rw [h]; exact hy) | (rw [← h]; exact hy)
  · intro h
    exact ⟨.str n, List.mem_map.mpr ⟨n, h, rfl⟩, by simp [eqV]⟩
theorem inF_strs (neg : Bool) (n : Str) (l : List Str) (d : D) (S : Sto) (h : seqOf S d = some (sL l)) : inF neg (.str n) d S = .ok (.bl (neg ^^ decide (n ∈ l))) S := by
  unfold inF
  rw [h, Option.bind_some, allO_DV_s]
  show (R.ok (D.bl (neg ^^ inV (.str n) (l.map V.str))) S) = _
  rw [inV_strs]
theorem mLB_s (n : Nat) : mLB (n + 1) = m__law_branch' (mLB n) := rfl
theorem cntAll_snoc (a : List Tk.Stm) (s : Tk.Stm) : Tk.cntAll (a ++ [s]) = Tk.cntAll a + s.cnt := by rw [Tk.cntAll_app, Tk.cntAll, Tk.cntAll]; omega
/-- the law's words -/
def wds : List Str := ["take", "choose", "commit", "lock", "rollback", "drop", "unlock", "leave", "choose", "take"]
noncomputable def chB (m : FM) : SM := (s_seq (s_set 10 (e_fn trunc m (a_cons (e_v 0) (a_cons (e_op divD (e_op addD (e_op subD (e_v 1) (e_v 6)) (e_k (.int 1))) (e_k (.int 2))) (a_cons (e_op addD (e_v 2) (e_k (.int 1))) (a_cons (e_v 3) (a_cons (e_fn tr0 m__law_pick (a_cons (e_v 0) (a_cons (e_k (.int 4)) a_nil))) a_nil)))))))
  (s_seq (s_set 6 (e_op addD (e_v 6) (e_op ixD (e_v 10) (e_k (.int 1)))))
  (s_seq (s_set 11 (e_fn trunc m (a_cons (e_v 0) (a_cons (e_op subD (e_v 1) (e_v 6)) (a_cons (e_op addD (e_v 2) (e_k (.int 1))) (a_cons (e_v 3) (a_cons (e_fn tr0 m__law_pick (a_cons (e_v 0) (a_cons (e_k (.int 4)) a_nil))) a_nil)))))))
  (s_seq (s_set 6 (e_op addD (e_v 6) (e_op ixD (e_v 11) (e_k (.int 1)))))
  (s_seq (s_set 3 (e_call (f2 max2D) (a_cons (e_op ixD (e_v 10) (e_k (.int 2))) (a_cons (e_op ixD (e_v 11) (e_k (.int 2))) a_nil))))
  (s_ex (e_meth tyL appD (e_v 5) (a_cons (e_tup (a_cons (e_k (.str "choose")) (a_cons (e_op ixD (e_v 10) (e_k (.int 0))) (a_cons (e_op ixD (e_v 11) (e_k (.int 0))) a_nil)))) a_nil))))))))
noncomputable def naB : SM := (s_ex (e_meth tyL appD (e_v 5) (a_cons (e_tup (a_cons (e_op ixD (e_lst (a_cons (e_k (.str "lock")) (a_cons (e_k (.str "unlock")) a_nil))) (e_call (f1 intcD) (a_cons (e_op (eqD false) (e_v 9) (e_k (.str "unlock"))) a_nil))) (a_cons (e_fn tr0 m__law_word (a_cons (e_v 0) (a_cons (e_k (.int 8)) (a_cons (e_op ixD (e_k (.str "abz")) (e_fn tr0 m__law_pick (a_cons (e_v 0) (a_cons (e_k (.int 3)) a_nil)))) a_nil)))) a_nil))) a_nil)))
noncomputable def taB : SM := (s_seq (s_ex (e_meth tyL appD (e_v 5) (a_cons (e_tup (a_cons (e_v 9) a_nil)) a_nil)))
  (s_set 3 (e_op addD (e_v 3) (e_k (.int 1)))))
noncomputable def otB : SM := (s_seq (s_set 9 (e_op ixD (e_lst (a_cons (e_k (.str "commit")) (a_cons (e_v 9) a_nil))) (e_call (f1 intcD) (a_cons (e_op (inF false) (e_v 9) (e_lst (a_cons (e_k (.str "rollback")) (a_cons (e_k (.str "drop")) (a_cons (e_k (.str "leave")) a_nil))))) a_nil))))
  (s_seq (s_ex (e_meth tyL appD (e_v 5) (a_cons (e_tup (a_cons (e_v 9) a_nil)) a_nil)))
  (s_set 3 (e_op mulD (e_v 3) (e_call (f1 intcD) (a_cons (e_op (eqD false) (e_v 9) (e_k (.str "drop"))) a_nil))))))
noncomputable def lbB (m : FM) : SM := (s_seq (s_set 9 (e_op ixD (e_v 7) (e_fn tr0 m__law_pick (a_cons (e_v 0) (a_cons (e_k (.int 10)) a_nil)))))
  (s_if (t_b (e_op ltD (e_v 6) (e_v 1))) (s_seq (s_set 6 (e_op addD (e_v 6) (e_k (.int 1))))
  (s_if (t_and (t_b (e_op (eqD false) (e_v 9) (e_k (.str "choose")))) (t_b (e_op ltD (e_v 2) (e_k (.int 2))))) (chB m) (s_if (t_b (e_op (inF false) (e_v 9) (e_lst (a_cons (e_k (.str "lock")) (a_cons (e_k (.str "unlock")) (a_cons (e_k (.str "choose")) a_nil)))))) naB (s_if (t_and (t_b (e_op (eqD false) (e_v 9) (e_k (.str "take")))) (t_b (e_op ltD (e_v 3) (e_k (.int 3))))) taB otB)))) s_nil))
theorem b_branch_eq (m : FM) : b__law_branch m = (s_seq (s_set 5 (e_new a_nil))
  (s_seq (s_set 6 (e_k (.int 0)))
  (s_seq (s_set 7 (e_lst (a_cons (e_k (.str "take")) (a_cons (e_k (.str "choose")) (a_cons (e_k (.str "commit")) (a_cons (e_k (.str "lock")) (a_cons (e_k (.str "rollback")) (a_cons (e_k (.str "drop")) (a_cons (e_k (.str "unlock")) (a_cons (e_k (.str "leave")) (a_cons (e_k (.str "choose")) (a_cons (e_k (.str "take")) a_nil))))))))))))
  (s_seq (s_for (i_rng1 (e_v 4)) (g_name 8) (lbB m))
  (s_ret (e_lst (a_cons (e_call (f1 tupleD) (a_cons (e_v 5) a_nil)) (a_cons (e_v 6) (a_cons (e_v 3) a_nil))))))))) := rfl
/-- what the branch's function does, seen from a call -/
def BrOk (m : FM) (d : Nat) : Prop := ∀ (S : Sto) (p : Nat) (P : Int × Int × Int) (R h L : Int), p < S.length → 0 ≤ R → R ≤ 8 → 0 ≤ h → h ≤ 3 → 0 ≤ L → L ≤ 6 →
    ∃ B P', Tk.okAll d B h ∧ 0 ≤ Tk.heldAll B h ∧ Tk.heldAll B h ≤ 3 ∧ (Tk.cntAll B : Int) ≤ R ∧ (1 ≤ L → 1 ≤ R → B ≠ []) ∧ trunc (S.set p (pB P)) (m [.loc p, .int R, .int d, .int h, .int L] (S.set p (pB P))) = .ok (.lst [.tup (sDs B), .int (Tk.cntAll B), .int (Tk.heldAll B h)]) (S.set p (pB P'))
abbrev E12 (p : Nat) (R d h : Int) (x4 : Option D) (q : Nat) (u : Int) (x8 x9 x10 x11 : Option D) : Env := [some (.loc p), some (.int R), some (.int d), some (.int h), x4, some (.loc q), some (.int u), some (.lst (sL wds)), x8, x9, x10, x11]
section
variable {S : Sto} {p : Nat} {rows : List Tk.Stm} {R h u : Int} {d : Nat}
theorem app_row (hp : p < S.length) (P : Int × Int × Int) (hr : rows.length ≤ 100) (s : Tk.Stm) : appD (.loc S.length) [sD s] (St2 S p P rows) = .ok .non (St2 S p P (rows ++ [s])) := by
  have z1 : ((sDs rows).length < sizeLine) = True := eq_true (by rw [sDs_len]; have := szb; omega)
  rw [appD_loc (st2_at hp P rows), R.if_pos (by rw [z1]; trivial)]
  have e1 : sDs rows ++ [sD s] = sDs (rows ++ [s]) := by rw [sDs_app]; rfl
  rw [e1, st2_set hp]
theorem tyL_row (hp : p < S.length) (P : Int × Int × Int) : tyL (.loc S.length) (St2 S p P rows) = true := tyL_loc (st2_at hp P rows)
theorem ch_step {m : FM} (hd : d < 2) (hm : BrOk m (d + 1)) (hp : p < S.length) (P : Int × Int × Int) (u0 : 0 ≤ u) (uR : u + 1 ≤ R) (R8 : R ≤ 8) (h0 : 0 ≤ h) (h3 : h ≤ 3) (hr : rows.length ≤ 100) (x4 x8 x9 x10 x11 : Option D) :
    ∃ s P' y10 y11, s.ok d h ∧ 0 ≤ s.held h ∧ s.held h ≤ 3 ∧ 0 < s.cnt ∧ u + (s.cnt : Int) ≤ R ∧ chB m (E12 p R d h x4 S.length (u + 1) x8 x9 x10 x11) (St2 S p P rows) = .next (E12 p R d (s.held h) x4 S.length (u + s.cnt) x8 x9 y10 y11) (St2 S p P' (rows ++ [s])) := by
  have hp2 : p < (S ++ [SO.lst (sDs rows)]).length := by simp; omega
  obtain ⟨a, b, c⟩ := P
  obtain ⟨L1, a1, b1, c1, e1, l0, l1⟩ := pickS hp2 a b c (n := 4) (by decide) (by decide)
  have q0 : 0 ≤ (R - (u + 1) + 1) / 2 := Int.ediv_nonneg (by omega) (by decide)
  have q1 : (R - (u + 1) + 1) / 2 ≤ R - (u + 1) := by omega
  obtain ⟨B1, P1, o1, ha1, hb1, c1', _, e2⟩ := hm (S ++ [SO.lst (sDs rows)]) p (a1, b1, c1) ((R - (u + 1) + 1) / 2) h L1 hp2 q0 (by omega) h0 h3 l0 (by omega)
  obtain ⟨a2, b2, c2⟩ := P1
  obtain ⟨L2, a3, b3, c3, e3, m0, m1⟩ := pickS hp2 a2 b2 c2 (n := 4) (by decide) (by decide)
  obtain ⟨B2, P2, o2, ha2, hb2, c2', _, e4⟩ := hm (S ++ [SO.lst (sDs rows)]) p (a3, b3, c3) (R - (u + 1 + (Tk.cntAll B1 : Int))) h L2 hp2 (by omega) (by omega) h0 h3 m0 (by omega)
  have ap := app_row hp P2 hr (.ch B1 B2)
  have ty := tyL_row (rows := rows) hp P2
  have ec : ((d + 1 : Nat) : Int) = (d : Int) + 1 := by omega
  rw [ec] at e2 e4
  have cd : CDiv (R - (u + 1) + 1) 2 := by unfold CDiv; omega
  have eh : (if Tk.heldAll B1 h < Tk.heldAll B2 h then Tk.heldAll B2 h else Tk.heldAll B1 h) = max (Tk.heldAll B1 h) (Tk.heldAll B2 h) := by split <;> omega
  have cn : ((Tk.Stm.ch B1 B2).cnt : Int) = 1 + Tk.cntAll B1 + Tk.cntAll B2 := by rw [Tk.Stm.cnt]; omega
  have hh : (Tk.Stm.ch B1 B2).held h = max (Tk.heldAll B1 h) (Tk.heldAll B2 h) := rfl
  refine ⟨.ch B1 B2, P2, some (.lst [.tup (sDs B1), .int (Tk.cntAll B1), .int (Tk.heldAll B1 h)]), some (.lst [.tup (sDs B2), .int (Tk.cntAll B2), .int (Tk.heldAll B2 h)]), by unfold Tk.Stm.ok; exact ⟨hd, o1, o2⟩, by rw [hh]; omega, by rw [hh]; omega, by rw [Tk.Stm.cnt]; omega, by omega, ?_⟩
  have eu : u + ((Tk.Stm.ch B1 B2).cnt : Int) = u + 1 + (Tk.cntAll B1 : Int) + (Tk.cntAll B2 : Int) := by omega
  rw [eu, hh]
  have sd : sD (.ch B1 B2) = .tup [.str "choose", .tup (sDs B1), .tup (sDs B2)] := rfl
  rw [sd] at ap
  show chB m (E12 p R d h x4 S.length (u + 1) x8 x9 x10 x11) ((S ++ [SO.lst (sDs rows)]).set p (pO a b c)) = _
  replace e4 : trunc ((S ++ [SO.lst (sDs rows)]).set p (pO a3 b3 c3)) (m [.loc p, .int (R - (u + 1 + (Tk.cntAll B1 : Int))), .int ((d : Int) + 1), .int h, .int L2] ((S ++ [SO.lst (sDs rows)]).set p (pO a3 b3 c3))) = .ok (.lst [.tup (sDs B2), .int (Tk.cntAll B2), .int (Tk.heldAll B2 h)]) (St2 S p P2 rows) := e4
  generalize St2 S p P2 (rows ++ [Tk.Stm.ch B1 B2]) = T5 at *
  generalize St2 S p P2 rows = T4 at *
  simp only [pB] at e2 e4
  generalize (S ++ [SO.lst (sDs rows)]).set p (pO a b c) = T0 at *
  generalize (S ++ [SO.lst (sDs rows)]).set p (pO a1 b1 c1) = T1 at *
  generalize (S ++ [SO.lst (sDs rows)]).set p (pO a2 b2 c2) = T2 at *
  generalize (S ++ [SO.lst (sDs rows)]).set p (pO a3 b3 c3) = T3 at *
  generalize Tk.heldAll B1 h = H1 at *
  generalize Tk.heldAll B2 h = H2 at *
  unfold chB
  simp -implicitDefEqProofs [-appD_loc', e1, cd, e2, e3, e4, eh, ty, ap]
end
end Mm
set_option maxRecDepth 100000
namespace Mm
open PySem L2
section
variable {S : Sto} {p : Nat} {rows : List Tk.Stm} {R h u : Int} {d : Nat}
theorem wd_ne : (¬ ("take" : Str) = "choose") ∧ (¬ ("commit" : Str) = "choose") ∧ (¬ ("lock" : Str) = "choose") ∧ (¬ ("rollback" : Str) = "choose") ∧ (¬ ("drop" : Str) = "choose") ∧ (¬ ("unlock" : Str) = "choose") ∧ (¬ ("leave" : Str) = "choose") ∧ (¬ ("lock" : Str) = "unlock") ∧ (¬ ("choose" : Str) = "unlock") ∧ (¬ ("commit" : Str) = "take") ∧ (¬ ("rollback" : Str) = "take") ∧ (¬ ("drop" : Str) = "take") ∧ (¬ ("leave" : Str) = "take") ∧ (¬ ("commit" : Str) = "drop") ∧ (¬ ("rollback" : Str) = "drop") ∧ (¬ ("leave" : Str) = "drop") := by decide
theorem in_nam (T : Sto) : (∀ w : Str, w ∈ (["lock", "unlock", "choose"] : List Str) → inF false (.str w) (.lst [.str "lock", .str "unlock", .str "choose"]) T = .ok (.bl true) T) ∧ ∀ w : Str, w ∉ (["lock", "unlock", "choose"] : List Str) → inF false (.str w) (.lst [.str "lock", .str "unlock", .str "choose"]) T = .ok (.bl false) T := by
  refine ⟨fun w h => ?_, fun w h => ?_⟩
  · have := inF_strs false w ["lock", "unlock", "choose"] (.lst [.str "lock", .str "unlock", .str "choose"]) T rfl
    rw [this, decide_eq_true h]; rfl
  · have := inF_strs false w ["lock", "unlock", "choose"] (.lst [.str "lock", .str "unlock", .str "choose"]) T rfl
    rw [this, decide_eq_false h]; rfl
theorem in_oth (T : Sto) (w : Str) : inF false (.str w) (.lst [.str "rollback", .str "drop", .str "leave"]) T = .ok (.bl (decide (w ∈ (["rollback", "drop", "leave"] : List Str)))) T := by
  have := inF_strs false w ["rollback", "drop", "leave"] (.lst [.str "rollback", .str "drop", .str "leave"]) T rfl
  rw [this]; simp
theorem abz {r : Int} (r0 : 0 ≤ r) (r1 : r < 3) (T : Sto) : ∃ c, (97 ≤ c ∧ c ≤ 122) ∧ ixD (.str "abz") (.int r) T = .ok (.str ⟨#[c]⟩) T := by
  have sl : (("abz" : Str).length ≤ sizeLine) = True := eq_true (by decide)
  have h : r = 0 ∨ r = 1 ∨ r = 2 := by omega
  have a0 : atI ("abz" : Str).cps.toList 0 = some 97 := by decide +kernel
  have a1 : atI ("abz" : Str).cps.toList 1 = some 98 := by decide +kernel
  have a2 : atI ("abz" : Str).cps.toList 2 = some 122 := by decide +kernel
  rcases h with rfl | rfl | rfl
  · exact ⟨97, by decide, by rw [ixD_str, a0, R.if_pos (of_eq_true sl)]; rfl⟩
  · exact ⟨98, by decide, by rw [ixD_str, a1, R.if_pos (of_eq_true sl)]; rfl⟩
  · exact ⟨122, by decide, by rw [ixD_str, a2, R.if_pos (of_eq_true sl)]; rfl⟩
theorem na_step (hp : p < S.length) (P : Int × Int × Int) (hr : rows.length ≤ 100) {w : Str} (hw : w ∈ (["lock", "unlock", "choose"] : List Str)) (x4 x8 x10 x11 : Option D) :
    ∃ n P', Tk.IsName n ∧ naB (E12 p R d h x4 S.length u x8 (some (.str w)) x10 x11) (St2 S p P rows) = .next (E12 p R d h x4 S.length u x8 (some (.str w)) x10 x11) (St2 S p P' (rows ++ [.nam (decide (w ≠ "unlock")) n])) := by
  have hp2 : p < (S ++ [SO.lst (sDs rows)]).length := by simp; omega
  obtain ⟨a, b, c⟩ := P
  obtain ⟨r, a1, b1, c1, e1, r0, r1⟩ := pickS hp2 a b c (n := 3) (by decide) (by decide)
  obtain ⟨l, hl, e2⟩ := abz r0 r1 ((S ++ [SO.lst (sDs rows)]).set p (pO a1 b1 c1))
  obtain ⟨z, P', hz, e3⟩ := word_eq hp2 (a1, b1, c1) hl
  refine ⟨z ++ ⟨#[l]⟩, P', hz, ?_⟩
  have ap := app_row hp P' hr (.nam (decide (w ≠ "unlock")) (z ++ ⟨#[l]⟩))
  have ty : tyL (.loc S.length) ((S ++ [SO.lst (sDs rows)]).set p (pO a b c)) = true := tyL_row (rows := rows) hp (a, b, c)
  have sd : sD (.nam (decide (w ≠ "unlock")) (z ++ ⟨#[l]⟩)) = .tup [.str (Tk.lockS (decide (w ≠ "unlock"))), .str (z ++ ⟨#[l]⟩)] := rfl
  rw [sd] at ap
  replace e3 : m__law_word [.loc p, .int 8, .str ⟨#[l]⟩] ((S ++ [SO.lst (sDs rows)]).set p (pO a1 b1 c1)) = .ok (.str (z ++ ⟨#[l]⟩)) (St2 S p P' rows) := e3
  show naB _ ((S ++ [SO.lst (sDs rows)]).set p (pO a b c)) = _
  generalize St2 S p P' (rows ++ [.nam (decide (w ≠ "unlock")) (z ++ ⟨#[l]⟩)]) = T5 at *
  generalize St2 S p P' rows = T4 at *
  generalize (S ++ [SO.lst (sDs rows)]).set p (pO a b c) = T0 at *
  generalize (S ++ [SO.lst (sDs rows)]).set p (pO a1 b1 c1) = T1 at *
  generalize z ++ (⟨#[l]⟩ : Str) = nm at *
  by_cases hu : w = "unlock"
  · subst hu
    have l1 : Tk.lockS (decide (("unlock" : Str) ≠ "unlock")) = "unlock" := rfl
    rw [l1] at ap
    unfold naB
    simp -implicitDefEqProofs [-appD_loc', -ixD_str, e1, e2, e3, ty, ap]
  · have l1 : Tk.lockS (decide (w ≠ "unlock")) = "lock" := by rw [decide_eq_true hu]; rfl
    rw [l1] at ap
    unfold naB
    simp -implicitDefEqProofs [-appD_loc', -ixD_str, e1, e2, e3, ty, ap, hu]
theorem one_row (hp : p < S.length) (P : Int × Int × Int) (hr : rows.length ≤ 100) (w : Tk.Wd) : appD (.loc S.length) [.tup [.str w.s]] (St2 S p P rows) = .ok .non (St2 S p P (rows ++ [.one w])) := app_row hp P hr (.one w)
theorem ta_step (hp : p < S.length) (P : Int × Int × Int) (hr : rows.length ≤ 100) (x4 x8 x10 x11 : Option D) : taB (E12 p R d h x4 S.length u x8 (some (.str "take")) x10 x11) (St2 S p P rows) = .next (E12 p R d (h + 1) x4 S.length u x8 (some (.str "take")) x10 x11) (St2 S p P (rows ++ [.one .take])) := by
  have ap := one_row hp P hr .take
  have ty := tyL_row (rows := rows) hp P
  have sd : Tk.Wd.take.s = "take" := rfl
  rw [sd] at ap
  generalize St2 S p P (rows ++ [.one .take]) = T5 at *
  generalize St2 S p P rows = T4 at *
  unfold taB
  simp -implicitDefEqProofs [-appD_loc', ty, ap]
theorem ot_step (hp : p < S.length) (P : Int × Int × Int) (hr : rows.length ≤ 100) (h0 : 0 ≤ h) (h3 : h ≤ 3) {w : Str} (hw : w ∈ (["take", "commit", "rollback", "drop", "leave"] : List Str)) (x4 x8 x10 x11 : Option D) : ∃ (v : Tk.Wd) (y9 : Option D), v ≠ .take ∧ otB (E12 p R d h x4 S.length u x8 (some (.str w)) x10 x11) (St2 S p P rows) = .next (E12 p R d (v.held h) x4 S.length u x8 y9 x10 x11) (St2 S p P (rows ++ [.one v])) := by
  have ty := tyL_row (rows := rows) hp P
  have io := fun T => in_oth T w
  have cm : ∀ x : Int, CMul h x := fun x => .inl ⟨by omega, by omega⟩
  have key : ∀ v : Tk.Wd, v ≠ .take → (∀ T, ixD (.lst [.str "commit", .str w]) (.int (if w ∈ (["rollback", "drop", "leave"] : List Str) then 1 else 0)) T = .ok (.str v.s) T) → (if v.s = "drop" then h else 0) = v.held h → ∃ (v : Tk.Wd) (y9 : Option D), v ≠ .take ∧ otB (E12 p R d h x4 S.length u x8 (some (.str w)) x10 x11) (St2 S p P rows) = .next (E12 p R d (v.held h) x4 S.length u x8 y9 x10 x11) (St2 S p P (rows ++ [.one v])) := fun v hv hi hh => by
    have ap := one_row hp P hr v
    refine ⟨v, some (.str v.s), hv, ?_⟩
    generalize St2 S p P (rows ++ [.one v]) = T5 at *
    generalize St2 S p P rows = T4 at *
    rw [← hh]
    by_cases hm : w ∈ (["rollback", "drop", "leave"] : List Str)
    · have io' := io T4
      have hi' := hi T4
      rw [if_pos hm] at hi'
      rw [decide_eq_true hm] at io'
      by_cases hd : v.s = "drop"
      · rw [hd] at hi' ap ⊢
        unfold otB
        simp -implicitDefEqProofs [-appD_loc', -ixD_lst, io', hi', ty, ap, cm]
      · generalize v.s = vs at *
        unfold otB
        simp -implicitDefEqProofs [-appD_loc', -ixD_lst, io', hi', ty, ap, cm, hd]
    · have io' := io T4
      have hi' := hi T4
      rw [if_neg hm] at hi'
      rw [decide_eq_false hm] at io'
      by_cases hd : v.s = "drop"
      · rw [hd] at hi' ap ⊢
        unfold otB
        simp -implicitDefEqProofs [-appD_loc', -ixD_lst, io', hi', ty, ap, cm]
      · generalize v.s = vs at *
        unfold otB
        simp -implicitDefEqProofs [-appD_loc', -ixD_lst, io', hi', ty, ap, cm, hd]
  have hw' : w = "take" ∨ w = "commit" ∨ w = "rollback" ∨ w = "drop" ∨ w = "leave" := by simpa using hw
  rcases hw' with rfl | rfl | rfl | rfl | rfl
  · exact key .commit (by decide) (fun T => by rw [if_neg (by decide)]; simp [Tk.Wd.s]) (by rw [if_neg (by decide)]; rfl)
  · exact key .commit (by decide) (fun T => by rw [if_neg (by decide)]; simp [Tk.Wd.s]) (by rw [if_neg (by decide)]; rfl)
  · exact key .rollback (by decide) (fun T => by rw [if_pos (by decide)]; simp [Tk.Wd.s]) (by rw [if_neg (by decide)]; rfl)
  · exact key .drop (by decide) (fun T => by rw [if_pos (by decide)]; simp [Tk.Wd.s]) (by rw [if_pos (by decide)]; rfl)
  · exact key .leave (by decide) (fun T => by rw [if_pos (by decide)]; simp [Tk.Wd.s]) (by rw [if_neg (by decide)]; rfl)
end
end Mm
set_option maxRecDepth 100000
namespace Mm
open PySem L2
section
variable {S : Sto} {p : Nat} {rows : List Tk.Stm} {R h u : Int} {d : Nat}
theorem wds_at {r : Int} (r0 : 0 ≤ r) (r1 : r < 10) : ∃ w, atI (sL wds) r = some (.str w) ∧ w ∈ wds := by
  obtain ⟨k, rfl⟩ : ∃ k : Nat, r = k := ⟨r.toNat, by omega⟩
  have hk : k < wds.length := by show k < 10; omega
  exact ⟨wds[k], by rw [atI_nat, List.getElem?_map, List.getElem?_eq_getElem hk]; rfl, List.getElem_mem hk⟩
theorem lb_step {m : FM} (hd : d ≤ 2) (hm : d < 2 → BrOk m (d + 1)) (hp : p < S.length) (P : Int × Int × Int) (u0 : 0 ≤ u) (uR : u < R) (R8 : R ≤ 8) (h0 : 0 ≤ h) (h3 : h ≤ 3) (hr : rows.length ≤ 100) (x4 x8 x9 x10 x11 : Option D) :
    ∃ s P' y9 y10 y11, s.ok d h ∧ 0 ≤ s.held h ∧ s.held h ≤ 3 ∧ 0 < s.cnt ∧ u + (s.cnt : Int) ≤ R ∧ lbB m (E12 p R d h x4 S.length u x8 x9 x10 x11) (St2 S p P rows) = .next (E12 p R d (s.held h) x4 S.length (u + s.cnt) x8 y9 y10 y11) (St2 S p P' (rows ++ [s])) := by
  have hp2 : p < (S ++ [SO.lst (sDs rows)]).length := by simp; omega
  obtain ⟨a, b, c⟩ := P
  obtain ⟨r, a1, b1, c1, e1, r0, r1⟩ := pickS hp2 a b c (n := 10) (by decide) (by decide)
  obtain ⟨w, e2, hwm⟩ := wds_at r0 r1
  have uR' : (u < R) = True := eq_true uR
  obtain ⟨n1, n2⟩ := in_nam (St2 S p (a1, b1, c1) rows)
  replace e1 : m__law_pick [.loc p, .int 10] ((S ++ [SO.lst (sDs rows)]).set p (pO a b c)) = .ok (.int r) (St2 S p (a1, b1, c1) rows) := e1
  by_cases hc : w = "choose" ∧ d < 2
  · obtain ⟨rfl, hd2⟩ := hc
    obtain ⟨s, P', y10, y11, o1, o2, o3, o4, o5, e3⟩ := ch_step hd2 (hm hd2) hp (a1, b1, c1) u0 (by omega) R8 h0 h3 hr x4 x8 (some (.str "choose")) x10 x11
    refine ⟨s, P', some (.str "choose"), y10, y11, o1, o2, o3, o4, o5, ?_⟩
    have hd' : ((d : Int) < 2) = True := eq_true (by omega)
    show lbB m _ ((S ++ [SO.lst (sDs rows)]).set p (pO a b c)) = _
    generalize St2 S p P' (rows ++ [s]) = T5 at *
    generalize St2 S p (a1, b1, c1) rows = T4 at *
    generalize (S ++ [SO.lst (sDs rows)]).set p (pO a b c) = T0 at *
    unfold lbB
    generalize chB m = CB at *
    generalize naB = NB at *
    generalize taB = TB at *
    generalize otB = OB at *
    simp -implicitDefEqProofs [e1, e2, uR', hd', e3]
  · have hcd : ∀ T : Sto, (if w = "choose" then ((d : Int) < 2) else False) = False := fun _ => by
      apply eq_false
      split
      · rename_i hw; intro hd; exact hc ⟨hw, by omega⟩
      · exact id
    have hcd' : ¬ (w = "choose" ∧ (d : Int) < 2) := fun ⟨a, b⟩ => hc ⟨a, by omega⟩
    by_cases hn : w ∈ (["lock", "unlock", "choose"] : List Str)
    · obtain ⟨n, P', hnm, e3⟩ := na_step (R := R) (h := h) (u := u + 1) (d := d) hp (a1, b1, c1) hr hn x4 x8 x10 x11
      have n1' := n1 w hn
      refine ⟨.nam (decide (w ≠ "unlock")) n, P', some (.str w), x10, x11, hnm, h0, h3, Nat.zero_lt_one, by show u + 1 ≤ R; omega, ?_⟩
      show lbB m _ ((S ++ [SO.lst (sDs rows)]).set p (pO a b c)) = .next (E12 p R d h x4 S.length (u + 1) x8 (some (.str w)) x10 x11) _
      generalize St2 S p P' (rows ++ [.nam (decide (w ≠ "unlock")) n]) = T5 at *
      generalize St2 S p (a1, b1, c1) rows = T4 at *
      generalize (S ++ [SO.lst (sDs rows)]).set p (pO a b c) = T0 at *
      unfold lbB
      generalize chB m = CB at *
      generalize naB = NB at *
      generalize taB = TB at *
      generalize otB = OB at *
      by_cases hw : w = "choose"
      · have hd' : ((d : Int) < 2) = False := eq_false fun h => hcd' ⟨hw, h⟩
        subst hw
        simp -implicitDefEqProofs [e1, e2, uR', hd', n1', e3]
      · simp -implicitDefEqProofs [e1, e2, uR', hw, n1', e3]
    · have n2' := n2 w hn
      have hw : ¬ w = "choose" := fun e => hn (by rw [e]; simp)
      by_cases ht : w = "take" ∧ h < 3
      · obtain ⟨rfl, h2⟩ := ht
        have e3 := ta_step (R := R) (h := h) (u := u + 1) (d := d) (rows := rows) hp (a1, b1, c1) hr x4 x8 x10 x11
        have h2' : (h < 3) = True := eq_true h2
        refine ⟨.one .take, (a1, b1, c1), some (.str "take"), x10, x11, by unfold Tk.Stm.ok; intro _; omega, by show 0 ≤ h + 1; omega, by show h + 1 ≤ 3; omega, by decide, by show u + 1 ≤ R; omega, ?_⟩
        show lbB m _ ((S ++ [SO.lst (sDs rows)]).set p (pO a b c)) = .next (E12 p R d (h + 1) x4 S.length (u + 1) x8 (some (.str "take")) x10 x11) _
        generalize St2 S p (a1, b1, c1) (rows ++ [.one .take]) = T5 at *
        generalize St2 S p (a1, b1, c1) rows = T4 at *
        generalize (S ++ [SO.lst (sDs rows)]).set p (pO a b c) = T0 at *
        unfold lbB
        generalize chB m = CB at *
        generalize naB = NB at *
        generalize taB = TB at *
        generalize otB = OB at *
        simp -implicitDefEqProofs [e1, e2, uR', hw, n2', h2', e3]
      · have hw5 : w ∈ (["take", "commit", "rollback", "drop", "leave"] : List Str) := by
          simp only [wds, List.mem_cons, List.not_mem_nil, or_false] at hwm hn ⊢
          rcases hwm with h | h | h | h | h | h | h | h | h | h <;> simp_all
        obtain ⟨v, y9, hv, e3⟩ := ot_step (R := R) (u := u + 1) (d := d) (rows := rows) hp (a1, b1, c1) hr h0 h3 hw5 x4 x8 x10 x11
        have hh : 0 ≤ v.held h ∧ v.held h ≤ 3 := by cases v <;> simp only [Tk.Wd.held] <;> first | omega | exact absurd rfl hv
        refine ⟨.one v, (a1, b1, c1), y9, x10, x11, by unfold Tk.Stm.ok; exact fun e => absurd e hv, hh.1, hh.2, by show 0 < 1; decide, by show u + 1 ≤ R; omega, ?_⟩
        show lbB m _ ((S ++ [SO.lst (sDs rows)]).set p (pO a b c)) = .next (E12 p R d (v.held h) x4 S.length (u + 1) x8 y9 x10 x11) _
        generalize St2 S p (a1, b1, c1) (rows ++ [.one v]) = T5 at *
        generalize St2 S p (a1, b1, c1) rows = T4 at *
        generalize (S ++ [SO.lst (sDs rows)]).set p (pO a b c) = T0 at *
        unfold lbB
        generalize chB m = CB at *
        generalize naB = NB at *
        generalize taB = TB at *
        generalize otB = OB at *
        by_cases hw2 : w = "take"
        · have h2' : (h < 3) = False := eq_false fun h => ht ⟨hw2, h⟩
          subst hw2
          simp -implicitDefEqProofs [e1, e2, uR', hw, n2', h2', e3]
        · simp -implicitDefEqProofs [e1, e2, uR', hw, n2', hw2, e3]
/-- where no room is left -/
theorem lb_full {m : FM} (hp : p < S.length) (P : Int × Int × Int) (uR : ¬ u < R) (x4 x8 x9 x10 x11 : Option D) :
    ∃ P' y9, lbB m (E12 p R d h x4 S.length u x8 x9 x10 x11) (St2 S p P rows) = .next (E12 p R d h x4 S.length u x8 y9 x10 x11) (St2 S p P' rows) := by
  have hp2 : p < (S ++ [SO.lst (sDs rows)]).length := by simp; omega
  obtain ⟨a, b, c⟩ := P
  obtain ⟨r, a1, b1, c1, e1, r0, r1⟩ := pickS hp2 a b c (n := 10) (by decide) (by decide)
  obtain ⟨w, e2, hw⟩ := wds_at r0 r1
  have uR' : (u < R) = False := eq_false uR
  refine ⟨(a1, b1, c1), some (.str w), ?_⟩
  replace e1 : m__law_pick [.loc p, .int 10] ((S ++ [SO.lst (sDs rows)]).set p (pO a b c)) = .ok (.int r) (St2 S p (a1, b1, c1) rows) := e1
  show lbB m _ ((S ++ [SO.lst (sDs rows)]).set p (pO a b c)) = _
  generalize St2 S p (a1, b1, c1) rows = T4 at *
  generalize (S ++ [SO.lst (sDs rows)]).set p (pO a b c) = T0 at *
  unfold lbB
  simp -implicitDefEqProofs [e1, e2, uR']
theorem br_loop {m : FM} (hd : d ≤ 2) (hm : d < 2 → BrOk m (d + 1)) (hp : p < S.length) (R8 : R ≤ 8) (x4 : Option D) : ∀ (n : Nat) (lo : Int) (P : Int × Int × Int) (u h : Int) (rows : List Tk.Stm) (x8 x9 x10 x11 : Option D), 0 ≤ u → u ≤ R → 0 ≤ h → h ≤ 3 → rows.length + n ≤ 100 →
    ∃ B P' y8 y9 y10 y11, Tk.okAll d B h ∧ 0 ≤ Tk.heldAll B h ∧ Tk.heldAll B h ≤ 3 ∧ u + (Tk.cntAll B : Int) ≤ R ∧ (1 ≤ n → u < R → B ≠ []) ∧
      loopS (g_name 8) (lbB m) none (rngD lo n) (E12 p R d h x4 S.length u x8 x9 x10 x11) (St2 S p P rows) = .next (E12 p R d (Tk.heldAll B h) x4 S.length (u + Tk.cntAll B) y8 y9 y10 y11) (St2 S p P' (rows ++ B))
  | 0, lo, P, u, h, rows, x8, x9, x10, x11, u0, uR, h0, h3, hr => by
    refine ⟨[], P, x8, x9, x10, x11, by unfold Tk.okAll; trivial, h0, h3, by show u + ((0 : Nat) : Int) ≤ R; omega, fun q => by omega, ?_⟩
    unfold rngD; rw [loopS_nil, List.append_nil]
    show _ = RS.next (E12 p R d h x4 S.length (u + ((0 : Nat) : Int)) x8 x9 x10 x11) _
    simp
  | n + 1, lo, P, u, h, rows, x8, x9, x10, x11, u0, uR, h0, h3, hr => by
    have el : rngD lo (n + 1) = .int lo :: rngD (lo + 1) n := rfl
    by_cases hk : u < R
    · obtain ⟨s, P1, y9, y10, y11, o1, o2, o3, o4, o5, e⟩ := lb_step (rows := rows) hd hm hp P u0 hk R8 h0 h3 (by omega) x4 (some (.int lo)) x9 x10 x11
      obtain ⟨B, P', z8, z9, z10, z11, q1, q2, q3, q4, _, e2⟩ := br_loop hd hm hp R8 x4 n (lo + 1) P1 (u + s.cnt) (s.held h) (rows ++ [s]) (some (.int lo)) y9 y10 y11 (by omega) o5 o2 o3 (by simp; omega)
      refine ⟨s :: B, P', z8, z9, z10, z11, by unfold Tk.okAll; exact ⟨o1, q1⟩, by unfold Tk.heldAll; exact q2, by unfold Tk.heldAll; exact q3, by rw [Tk.cntAll]; omega, fun _ _ => by simp, ?_⟩
      have eu : u + ((Tk.cntAll (s :: B) : Nat) : Int) = u + s.cnt + Tk.cntAll B := by rw [Tk.cntAll]; omega
      have eh : Tk.heldAll (s :: B) h = Tk.heldAll B (s.held h) := by rw [Tk.heldAll]
      rw [eu, eh, show rows ++ s :: B = rows ++ [s] ++ B by simp, ← e2, el, loopS_cons]
      generalize St2 S p P1 (rows ++ [s]) = T1 at *
      generalize St2 S p P rows = T0 at *
      generalize lbB m = LB at *
      simp only [g_name_eq, List.set_cons_succ, List.set_cons_zero, Option.bind_some, e]
    · obtain ⟨P1, y9, e⟩ := lb_full (m := m) (d := d) (h := h) (rows := rows) hp P hk x4 (some (.int lo)) x9 x10 x11
      obtain ⟨B, P', z8, z9, z10, z11, q1, q2, q3, q4, _, e2⟩ := br_loop hd hm hp R8 x4 n (lo + 1) P1 u h rows (some (.int lo)) y9 x10 x11 u0 uR h0 h3 (by omega)
      refine ⟨B, P', z8, z9, z10, z11, q1, q2, q3, q4, fun _ q => absurd q hk, ?_⟩
      rw [← e2, el, loopS_cons]
      generalize St2 S p P1 rows = T1 at *
      generalize St2 S p P rows = T0 at *
      generalize lbB m = LB at *
      simp only [g_name_eq, List.set_cons_succ, List.set_cons_zero, Option.bind_some, e]
theorem tupS_lo (B : List Tk.Stm) (a b : Int) : (D.lst [.tup (sDs B), .int a, .int b]).lo 0 = true := by simp only [D.lo, los, sDs_lo, Bool.and_self]
theorem mLB_ok : ∀ (n d : Nat), n + d = 2 → BrOk (mLB (n + 1)) d
  | n, d, hnd, S, p, P, R, h, L, hp, R0, R8, h0, h3, L0, L6 => by
    have hm : d < 2 → BrOk (mLB n) (d + 1) := fun q => by
      cases n with
      | zero => omega
      | succ n => exact mLB_ok n (d + 1) (by omega)
    obtain ⟨B, P', y8, y9, y10, y11, q1, q2, q3, q4, q5, e⟩ := br_loop (R := R) (by omega : d ≤ 2) hm hp R8 (some (.int L)) L.toNat 0 P 0 h [] none none none none (Int.le_refl _) R0 h0 h3 (by simp; omega)
    refine ⟨B, P', q1, q2, q3, by omega, fun a b => q5 (by omega) (by omega), ?_⟩
    rw [List.nil_append, Int.zero_add] at e
    have vl := st2_at (S := S) hp P' B
    have c1 : (-4611686018427387904 ≤ L) = True := eq_true (by omega)
    have c2 : (L < 4611686018427387904) = True := eq_true (by omega)
    have z1 : ((sDs B).length ≤ sizeLine) = True := eq_true (by
      rw [sDs_len]
      have := Tk.len_le_cnt B
      have := szb
      omega)
    have e0 : S.set p (pB P) ++ [SO.lst []] = St2 S p P [] := (st2_eq hp P []).symm
    have vlen : (S.set p (pB P)).length = S.length := by simp
    have er : m__law_branch' (mLB n) [.loc p, .int R, .int d, .int h, .int L] (S.set p (pB P)) = .ok (.lst [.tup (sDs B), .int (Tk.cntAll B), .int (Tk.heldAll B h)]) (S.set p (pB P') ++ [.lst (sDs B)]) := by
      rw [← st2_eq hp P' B]
      simp only [m__law_branch', runDef, b_branch_eq]
      simp only [E12, wds, sL, List.map_cons, List.map_nil] at e
      generalize St2 S p P' B = T1 at *
      generalize St2 S p P [] = T0 at *
      generalize S.set p (pB P) = Sp at *
      generalize lbB (mLB n) = LB at *
      simp -implicitDefEqProofs [vlen, e0, c1, c2, e, vl, z1]
    rw [mLB_s, er, trunc_upd (upd_p rfl), rsvD_lo (tupS_lo _ _ _)]; rfl
end
end Mm
set_option maxRecDepth 100000
namespace Mm
open PySem L2
/-! the law's plan -/
def rowD (k : KA) : D := .tup [.str k.nm, .tup (sDs k.sc), .int k.bl, .int k.mn]
theorem rowD_lo (k : KA) : (rowD k).lo 0 = true := by unfold rowD; simp only [D.lo, los, sDs_lo, Bool.and_self]
theorem rows_lo (l : List KA) : los 0 (l.map rowD) = true := los_all fun d hd => by
  obtain ⟨x, _, rfl⟩ := List.mem_map.mp hd
  exact rowD_lo x
theorem rows_dp {l : List KA} (g : ∀ k ∈ l, GoodK k) : dps (l.map rowD) ≤ 8 := dps_all fun d hd => by
  obtain ⟨x, hx, rfl⟩ := List.mem_map.mp hd
  have := sDs_dp x.sc 0 0 (g x hx).sc.ok (by decide)
  unfold rowD; simp only [D.dp, dps]; omega
structure Gk (sh rm : Int) (i : Nat) (kk : KA) : Prop where
  good : GoodK kk
  cnt : (Tk.cntAll kk.sc : Int) ≤ rm
  nm : ∃ z : Str, kk.nm = z ++ ⟨#[112 + i]⟩
  mn : kk.mn = if (sh = 1 ∨ sh = 4) ∧ i = 0 then 2 else 1
abbrev St3 (S : Sto) (p : Nat) (P : Int × Int × Int) (ks : List KA) : Sto := (S ++ [SO.lst (ks.map rowD)]).set p (pB P)
noncomputable def kkB : SM := (s_seq (s_set 5 (e_fn trunc m__law_branch (a_cons (e_v 0) (a_cons (e_v 3) (a_cons (e_k (.int 0)) (a_cons (e_k (.int 0)) (a_cons (e_op addD (e_k (.int 1)) (e_fn tr0 m__law_pick (a_cons (e_v 0) (a_cons (e_k (.int 6)) a_nil)))) a_nil)))))))
  (s_seq (s_set 6 (e_fn tr0 m__law_word (a_cons (e_v 0) (a_cons (e_k (.int 8)) (a_cons (e_op ixD (e_k (.str "pqr")) (e_v 4)) a_nil)))))
  (s_ex (e_meth tyL appD (e_v 1) (a_cons (e_tup (a_cons (e_v 6) (a_cons (e_op ixD (e_v 5) (e_k (.int 0))) (a_cons (e_op addD (e_k (.int 1)) (e_fn tr0 m__law_pick (a_cons (e_v 0) (a_cons (e_k (.int 3)) a_nil)))) (a_cons (e_op addD (e_k (.int 1)) (e_call (f1 intcD) (a_cons (e_and (e_op (inF false) (e_v 2) (e_lst (a_cons (e_k (.int 1)) (a_cons (e_k (.int 4)) a_nil)))) (e_op (eqD false) (e_v 4) (e_k (.int 0)))) a_nil))) a_nil))))) a_nil)))))
theorem in14 (sh : Int) (T : Sto) : inF false (.int sh) (.lst [.int 1, .int 4]) T = .ok (.bl (decide (sh = 1 ∨ sh = 4))) T := by
  have h : inF false (.int sh) (.lst [.int 1, .int 4]) T = .ok (.bl (false ^^ inV (.int sh) [.int 1, .int 4])) T := rfl
  rw [h]
  have e : inV (.int sh) [.int 1, .int 4] = decide (sh = 1 ∨ sh = 4) := by
    unfold inV
    rw [Bool.eq_iff_iff, List.any_eq_true, decide_eq_true_eq]
    constructor
    · rintro ⟨x, hx, hq⟩
      simp only [List.mem_cons, List.not_mem_nil, or_false] at hx
      rcases hx with rfl | rfl
      · left; simp [eqV] at hq; omega
      · right; simp [eqV] at hq; omega
    · rintro (rfl | rfl)
      · exact ⟨.int 1, by simp, by simp [eqV]⟩
      · exact ⟨.int 4, by simp, by simp [eqV]⟩
  rw [e]; simp
theorem pqr {k : Nat} (hk : k < 3) (T : Sto) : ixD (.str "pqr") (.int k) T = .ok (.str ⟨#[112 + k]⟩) T := by
  have sl : (("pqr" : Str).length ≤ sizeLine) = True := eq_true (by decide)
  have a0 : atI ("pqr" : Str).cps.toList ((0 : Nat) : Int) = some 112 := by decide +kernel
  have a1 : atI ("pqr" : Str).cps.toList ((1 : Nat) : Int) = some 113 := by decide +kernel
  have a2 : atI ("pqr" : Str).cps.toList ((2 : Nat) : Int) = some 114 := by decide +kernel
  have h : k = 0 ∨ k = 1 ∨ k = 2 := by omega
  rcases h with rfl | rfl | rfl
  · rw [ixD_str, a0, R.if_pos (of_eq_true sl)]; rfl
  · rw [ixD_str, a1, R.if_pos (of_eq_true sl)]; rfl
  · rw [ixD_str, a2, R.if_pos (of_eq_true sl)]; rfl
section
variable {S : Sto} {p : Nat} {ks : List KA} {sh rm : Int}
theorem st3_at (hp : p < S.length) (P : Int × Int × Int) (ks : List KA) : (St3 S p P ks)[S.length]? = some (.lst (ks.map rowD)) := by
  unfold St3
  rw [List.getElem?_set_ne (by omega)]; exact app_last S _
theorem st3_app (hp : p < S.length) (P : Int × Int × Int) (hr : ks.length ≤ 100) (kk : KA) : appD (.loc S.length) [rowD kk] (St3 S p P ks) = .ok .non (St3 S p P (ks ++ [kk])) := by
  have z1 : ((ks.map rowD).length < sizeLine) = True := eq_true (by rw [List.length_map]; have := szb; omega)
  rw [appD_loc (st3_at hp P ks), R.if_pos (by rw [z1]; trivial)]
  have e1 : ks.map rowD ++ [rowD kk] = (ks ++ [kk]).map rowD := by simp
  rw [e1]
  unfold St3
  rw [List.set_comm _ _ (by omega), app_slast]
theorem kk_step (hp : p < S.length) (P : Int × Int × Int) (hrm : rm = 4 ∨ rm = 8) (hk : ks.length < 3) (x5 x6 x7 : Option D) :
    ∃ kk P' y5 y6, Gk sh rm ks.length kk ∧ kkB [some (.loc p), some (.loc S.length), some (.int sh), some (.int rm), some (.int ks.length), x5, x6, x7] (St3 S p P ks) = .next [some (.loc p), some (.loc S.length), some (.int sh), some (.int rm), some (.int ks.length), y5, y6, x7] (St3 S p P' (ks ++ [kk])) := by
  have hp2 : p < (S ++ [SO.lst (ks.map rowD)]).length := by simp; omega
  obtain ⟨a, b, c⟩ := P
  obtain ⟨L, a1, b1, c1, e1, l0, l1⟩ := pickS hp2 a b c (n := 6) (by decide) (by decide)
  obtain ⟨B, P1, o1, o2, o3, o4, o5, e2⟩ := mLB_ok 2 0 rfl (S ++ [SO.lst (ks.map rowD)]) p (a1, b1, c1) rm 0 (1 + L) hp2 (by omega) (by omega) (by decide) (by decide) (by omega) (by omega)
  have lr : 97 ≤ 112 + ks.length ∧ 112 + ks.length ≤ 122 := by omega
  obtain ⟨z, P2, hz, e3⟩ := word_eq hp2 P1 lr
  have ix := fun T => pqr hk T
  obtain ⟨a2, b2, c2⟩ := P2
  obtain ⟨bl, a3, b3, c3, e4, m0, m1⟩ := pickS hp2 a2 b2 c2 (n := 3) (by decide) (by decide)
  have i14 := fun T => in14 sh T
  have ne : B ≠ [] := o5 (by omega) (by omega)
  obtain ⟨bn, hbn⟩ : ∃ bn : Nat, (bn : Int) = 1 + bl := ⟨(1 + bl).toNat, by omega⟩
  have c8 : Tk.cntAll B ≤ 8 := by omega
  have gs : GoodS B := ⟨o1, c8, ne⟩
  have key : ∀ kk : KA, kk = ⟨z ++ ⟨#[112 + ks.length]⟩, B, 1 + bl, if (sh = 1 ∨ sh = 4) ∧ ks.length = 0 then 2 else 1⟩ → Gk sh rm ks.length kk := fun kk e => by
    subst e
    refine ⟨⟨hz, gs, ⟨by show 1 ≤ 1 + bl; omega, by show 1 + bl ≤ 3; omega⟩, ?_⟩, o4, ⟨z, rfl⟩, rfl⟩
    show 1 ≤ (if (sh = 1 ∨ sh = 4) ∧ ks.length = 0 then 2 else 1) ∧ (if (sh = 1 ∨ sh = 4) ∧ ks.length = 0 then 2 else 1) ≤ 3
    split <;> decide
  refine ⟨_, (a3, b3, c3), some (.lst [.tup (sDs B), .int (Tk.cntAll B), .int (Tk.heldAll B 0)]), some (.str (z ++ ⟨#[112 + ks.length]⟩)), key _ rfl, ?_⟩
  have ap := st3_app (ks := ks) hp (a3, b3, c3) (by omega) ⟨z ++ ⟨#[112 + ks.length]⟩, B, 1 + bl, if (sh = 1 ∨ sh = 4) ∧ ks.length = 0 then 2 else 1⟩
  have ty : ∀ P, tyL (.loc S.length) (St3 S p P ks) = true := fun P => tyL_loc (st3_at hp P ks)
  have ty1 := ty P1
  have ty2 := ty (a2, b2, c2)
  have rd : rowD ⟨z ++ ⟨#[112 + ks.length]⟩, B, 1 + bl, if (sh = 1 ∨ sh = 4) ∧ ks.length = 0 then 2 else 1⟩ = .tup [.str (z ++ ⟨#[112 + ks.length]⟩), .tup (sDs B), .int (1 + bl), .int (if (sh = 1 ∨ sh = 4) ∧ ks.length = 0 then 2 else 1 : Nat)] := rfl
  rw [rd] at ap
  have em : m__law_branch = mLB 3 := rfl
  rw [← em] at e2
  replace e2 : trunc ((S ++ [SO.lst (ks.map rowD)]).set p (pO a1 b1 c1)) (m__law_branch [.loc p, .int rm, .int 0, .int 0, .int (1 + L)] ((S ++ [SO.lst (ks.map rowD)]).set p (pO a1 b1 c1))) = .ok (.lst [.tup (sDs B), .int (Tk.cntAll B), .int (Tk.heldAll B 0)]) (St3 S p P1 ks) := e2
  replace e3 : m__law_word [.loc p, .int 8, .str ⟨#[112 + ks.length]⟩] (St3 S p P1 ks) = .ok (.str (z ++ ⟨#[112 + ks.length]⟩)) (St3 S p (a2, b2, c2) ks) := e3
  replace e4 : m__law_pick [.loc p, .int 3] (St3 S p (a2, b2, c2) ks) = .ok (.int bl) (St3 S p (a3, b3, c3) ks) := e4
  show kkB _ ((S ++ [SO.lst (ks.map rowD)]).set p (pO a b c)) = _
  generalize St3 S p (a3, b3, c3) (ks ++ _) = T9 at *
  generalize St3 S p (a3, b3, c3) ks = T4 at *
  generalize St3 S p (a2, b2, c2) ks = T3 at *
  generalize St3 S p P1 ks = T2 at *
  generalize (S ++ [SO.lst (ks.map rowD)]).set p (pO a1 b1 c1) = T1 at *
  generalize (S ++ [SO.lst (ks.map rowD)]).set p (pO a b c) = T0 at *
  generalize z ++ (⟨#[112 + ks.length]⟩ : Str) = nm at *
  generalize (⟨#[112 + ks.length]⟩ : Str) = lt at *
  by_cases h1 : sh = 1 ∨ sh = 4
  · have i14' := i14 T4
    rw [decide_eq_true h1] at i14'
    by_cases h0 : ks.length = 0
    · rw [if_pos ⟨h1, h0⟩, show ((2 : Nat) : Int) = 2 from rfl] at ap
      have h0' : ((ks.length : Int) = 0) = True := eq_true (by omega)
      generalize (ks.length : Int) = K at *
      unfold kkB
      simp -implicitDefEqProofs [-appD_loc', -ixD_str, e1, e2, ix, e3, ty2, e4, i14', h0', ap]
    · rw [if_neg (fun h => h0 h.2), show ((1 : Nat) : Int) = 1 from rfl] at ap
      have h0' : ((ks.length : Int) = 0) = False := eq_false (by omega)
      generalize (ks.length : Int) = K at *
      unfold kkB
      simp -implicitDefEqProofs [-appD_loc', -ixD_str, e1, e2, ix, e3, ty2, e4, i14', h0', ap]
  · have i14' := i14 T4
    rw [decide_eq_false h1] at i14'
    rw [if_neg (fun h => h1 h.1), show ((1 : Nat) : Int) = 1 from rfl] at ap
    generalize (ks.length : Int) = K at *
    unfold kkB
    simp -implicitDefEqProofs [-appD_loc', -ixD_str, e1, e2, ix, e3, ty2, e4, i14', ap]
theorem kk_loop (hp : p < S.length) (hrm : rm = 4 ∨ rm = 8) : ∀ (n : Nat) (P : Int × Int × Int) (ks : List KA) (x4 x5 x6 x7 : Option D), ks.length + n ≤ 3 → (∀ (i : Nat) (kk : KA), ks[i]? = some kk → Gk sh rm i kk) →
    ∃ ks' P' y4 y5 y6, ks'.length = ks.length + n ∧ (∀ (i : Nat) (kk : KA), ks'[i]? = some kk → Gk sh rm i kk) ∧ loopS (g_name 4) kkB none (rngD (ks.length : Int) n) [some (.loc p), some (.loc S.length), some (.int sh), some (.int rm), x4, x5, x6, x7] (St3 S p P ks) = .next [some (.loc p), some (.loc S.length), some (.int sh), some (.int rm), y4, y5, y6, x7] (St3 S p P' ks')
  | 0, P, ks, x4, x5, x6, x7, hn, hg => ⟨ks, P, x4, x5, x6, rfl, hg, by unfold rngD; rw [loopS_nil]⟩
  | n + 1, P, ks, x4, x5, x6, x7, hn, hg => by
    obtain ⟨kk, P1, y5, y6, G, e⟩ := kk_step (sh := sh) (rm := rm) (ks := ks) hp P hrm (by omega) x5 x6 x7
    obtain ⟨ks', P', z4, z5, z6, hl, hg', e2⟩ := kk_loop hp hrm n P1 (ks ++ [kk]) (some (.int ks.length)) y5 y6 x7 (by simp; omega) (fun i k' hi => by
      by_cases h : i < ks.length
      · rw [List.getElem?_append_left h] at hi; exact hg i k' hi
      · have hi2 := (List.getElem?_eq_some_iff.mp hi).1
        have : i = ks.length := by simp at hi2; omega
        subst this
        rw [List.getElem?_append_right (Nat.le_refl _), Nat.sub_self] at hi
        cases hi; exact G)
    refine ⟨ks', P', z4, z5, z6, by rw [hl]; simp; omega, hg', ?_⟩
    have er : rngD (ks.length : Int) (n + 1) = .int ks.length :: rngD (((ks ++ [kk]).length : Nat) : Int) n := by
      have : (((ks ++ [kk]).length : Nat) : Int) = (ks.length : Int) + 1 := by simp
      rw [this]; rfl
    rw [er, loopS_cons, ← e2]
    generalize St3 S p P1 (ks ++ [kk]) = T1 at *
    generalize St3 S p P ks = T0 at *
    simp only [g_name_eq, List.set_cons_succ, List.set_cons_zero, Option.bind_some, e]
end
end Mm
set_option maxRecDepth 100000
namespace Mm
open PySem L2
open Classical in
theorem loopS_consG (g : GM) (b : SM) (so : Option (Nat × List D)) (d : D) (r : List D) (env : Env) (S : Sto) (h : Stay S ([], so)) : loopS g b so (d :: r) env S = match g d env with
    | none => .bad
    | some env1 => match b env1 S with
      | .next env2 S2 => loopS g b so r env2 S2
      | .cnt env2 S2 => loopS g b so r env2 S2
      | .brk env2 S2 => .next env2 S2
      | x => x := by
  conv => lhs; unfold loopS
  rw [RS.if_pos h] <;>
  (cases g d env with
  | none => rfl
  | some env1 => cases hb : b env1 S <;> simp only [hb])
open Classical in
theorem loopS_nilG (g : GM) (b : SM) (so : Option (Nat × List D)) (env : Env) (S : Sto) (h : Stay S ([], so)) : loopS g b so [] env S = .next env S := by
  unfold loopS
  exact RS.if_pos h
theorem row_0 (k : KA) (S : Sto) : ixD (rowD k) (.int 0) S = .ok (.str k.nm) S := by simp [rowD]
theorem row_1 (k : KA) (S : Sto) : ixD (rowD k) (.int 1) S = .ok (.tup (sDs k.sc)) S := by simp [rowD]
theorem row_2 (k : KA) (S : Sto) : ixD (rowD k) (.int 2) S = .ok (.int k.bl) S := by simp [rowD]
theorem row_3 (k : KA) (S : Sto) : ixD (rowD k) (.int 3) S = .ok (.int k.mn) S := by simp [rowD]
def seatD (k : KA) : D := .tup [.tup (sDs k.sc), .int k.bl]
def seats (ks : List KA) : List D := ks.flatMap fun k => List.replicate k.mn (seatD k)
noncomputable def siB : SM := (s_ex (e_meth tyL appD (e_v 4) (a_cons (e_tup (a_cons (e_op ixD (e_v 5) (e_k (.int 1))) (a_cons (e_op ixD (e_v 5) (e_k (.int 2))) a_nil))) a_nil)))
noncomputable def soB : SM := (s_for (i_rng1 (e_op ixD (e_v 5) (e_k (.int 3)))) (g_name 6) siB)
theorem si_loop (k : KA) (x0 x1 x2 x3 : Option D) (T : Sto) : ∀ (n : Nat) (lo : Int) (acc : List D) (x6 : Option D), acc.length + n ≤ 900 →
    ∃ y6, loopS (g_name 6) siB none (rngD lo n) [x0, x1, x2, x3, some (.loc T.length), some (rowD k), x6] (T ++ [.lst acc]) = .next [x0, x1, x2, x3, some (.loc T.length), some (rowD k), y6] (T ++ [.lst (acc ++ List.replicate n (seatD k))])
  | 0, lo, acc, x6, hn => ⟨x6, by unfold rngD; rw [loopS_nil]; simp⟩
  | n + 1, lo, acc, x6, hn => by
    obtain ⟨y6, e⟩ := si_loop k x0 x1 x2 x3 T n (lo + 1) (acc ++ [seatD k]) (some (.int lo)) (by simp; omega)
    refine ⟨y6, ?_⟩
    have ea : acc ++ List.replicate (n + 1) (seatD k) = acc ++ [seatD k] ++ List.replicate n (seatD k) := by simp [List.replicate_succ]
    rw [ea, ← e]
    show loopS _ _ none (.int lo :: rngD (lo + 1) n) _ _ = _
    rw [loopS_cons]
    have al := app_last T (.lst acc)
    have as := app_slast T (.lst acc) (.lst (acc ++ [seatD k]))
    have z1 : (acc.length < sizeLine) = True := eq_true (by have := szb; omega)
    have r1 := row_1 k
    have r2 := row_2 k
    have sd : seatD k = .tup [.tup (sDs k.sc), .int k.bl] := rfl
    rw [sd] at as ⊢
    generalize rowD k = rk at *
    generalize sDs k.sc = ss at *
    simp -implicitDefEqProofs [siB, r1, r2, al, as, z1]
theorem rng_row (mn : Nat) (rk : D) (x0 x1 x2 x3 x4 x6 : Option D) (T0 : Sto) (r3 : ∀ S, ixD rk (.int 3) S = .ok (.int mn) S) (m3 : mn ≤ 3) : i_rng1 (e_op ixD (e_v 5) (e_k (.int 3))) [x0, x1, x2, x3, x4, some rk, x6] T0 = .ok (rngD 0 mn, none) T0 := by
  have q1 : (-4611686018427387904 ≤ (mn : Int)) = True := eq_true (by omega)
  have q2 : ((mn : Int) < 4611686018427387904) = True := eq_true (by omega)
  simp -implicitDefEqProofs [r3, q1, q2]
theorem for_of (im : IM) (g : GM) (b : SM) (env : Env) (S : Sto) (ds : List D) (h : im env S = .ok (ds, none) S) : s_for im g b env S = loopS g b none ds env S := by
  simp -implicitDefEqProofs [h]
theorem so_sa (k : KA) (acc : List D) (m3 : k.mn ≤ 3) (hn : acc.length + 3 ≤ 900) : acc.length + k.mn ≤ 900 := by omega
theorem so_sb (k : KA) (x0 x1 x2 x3 : Option D) (T : Sto) (acc : List D) (x6 : Option D) (m3 : k.mn ≤ 3) (hn : acc.length + k.mn ≤ 900) :
    ∃ y6, loopS (g_name 6) siB none (rngD 0 k.mn) [x0, x1, x2, x3, some (.loc T.length), some (rowD k), x6] (T ++ [.lst acc]) = .next [x0, x1, x2, x3, some (.loc T.length), some (rowD k), y6] (T ++ [.lst (acc ++ List.replicate k.mn (seatD k))]) := si_loop k x0 x1 x2 x3 T k.mn 0 acc x6 hn
theorem so_sc (k : KA) (x0 x1 x2 x3 x4 x6 : Option D) (T0 : Sto) (m3 : k.mn ≤ 3) : i_rng1 (e_op ixD (e_v 5) (e_k (.int 3))) [x0, x1, x2, x3, x4, some (rowD k), x6] T0 = .ok (rngD 0 k.mn, none) T0 := rng_row k.mn (rowD k) x0 x1 x2 x3 x4 x6 T0 (row_3 k) m3
theorem so_sd (env : Env) (T0 : Sto) (n : Nat) (h : i_rng1 (e_op ixD (e_v 5) (e_k (.int 3))) env T0 = .ok (rngD 0 n, none) T0) : soB env T0 = loopS (g_name 6) siB none (rngD 0 n) env T0 := for_of _ _ _ _ _ _ h
theorem so_step (k : KA) (x0 x1 x2 x3 : Option D) (T : Sto) (acc : List D) (x6 : Option D) (m3 : k.mn ≤ 3) (hn : acc.length + 3 ≤ 900) :
    ∃ y6, soB [x0, x1, x2, x3, some (.loc T.length), some (rowD k), x6] (T ++ [.lst acc]) = .next [x0, x1, x2, x3, some (.loc T.length), some (rowD k), y6] (T ++ [.lst (acc ++ List.replicate k.mn (seatD k))]) := by
  obtain ⟨y6, e1⟩ := so_sb k x0 x1 x2 x3 T acc x6 m3 (so_sa k acc m3 hn)
  exact ⟨y6, (so_sd _ _ _ (so_sc k x0 x1 x2 x3 _ x6 _ m3)).trans e1⟩
theorem step_of {g : GM} {b : SM} {so : Option (Nat × List D)} {d : D} {r : List D} {env env1 env2 : Env} {S S2 : Sto} (h : Stay S ([], so)) (hg : g d env = some env1) (hb : b env1 S = .next env2 S2) : loopS g b so (d :: r) env S = loopS g b so r env2 S2 := by
  rw [loopS_consG (h := h), hg]
  dsimp only
  rw [hb]
theorem seats_cons (k : KA) (r : List KA) (acc : List D) : acc ++ seats (k :: r) = acc ++ List.replicate k.mn (seatD k) ++ seats r := by
  unfold seats
  rw [List.append_assoc, List.flatMap_cons]
theorem seats_nil (acc : List D) : acc ++ seats [] = acc := by unfold seats; rw [List.flatMap_nil, List.append_nil]
theorem len_ok {k : KA} {r : List KA} {acc : List D} (hn : acc.length + 3 * (k :: r).length ≤ 900) (m3 : k.mn ≤ 3) : acc.length + 3 ≤ 900 ∧ (acc ++ List.replicate k.mn (seatD k)).length + 3 * r.length ≤ 900 := by
  rw [List.length_cons] at hn
  rw [List.length_append, List.length_replicate]
  omega
theorem stay_app {T : Sto} {q : Nat} {ds : List D} (hq : T[q]? = some (.lst ds)) (acc : List D) : Stay (T ++ [.lst acc]) ([], some (q, ds)) := stay_some (by rw [List.getElem?_append_left (Rep.lt hq)]; exact hq)
theorem so_loop {T : Sto} {q : Nat} {ds : List D} (hq : T[q]? = some (.lst ds)) (x0 x1 x2 x3 : Option D) (l : List KA) : ∀ (acc : List D) (x5 x6 : Option D), (∀ k ∈ l, k.mn ≤ 3) → acc.length + 3 * l.length ≤ 900 →
    ∃ y5 y6, loopS (g_name 5) soB (some (q, ds)) (l.map rowD) [x0, x1, x2, x3, some (.loc T.length), x5, x6] (T ++ [.lst acc]) = .next [x0, x1, x2, x3, some (.loc T.length), y5, y6] (T ++ [.lst (acc ++ seats l)]) := by
  induction l with
  | nil =>
    intro acc x5 x6 hm hn
    refine ⟨x5, x6, ?_⟩
    rw [List.map_nil, loopS_nilG (h := stay_app hq acc), seats_nil]
  | cons k r ih =>
    intro acc x5 x6 hm hn
    have m3 := hm k List.mem_cons_self
    obtain ⟨l1, l2⟩ := len_ok hn m3
    obtain ⟨y6, b1⟩ := so_step k x0 x1 x2 x3 T acc x6 m3 l1
    obtain ⟨z5, z6, e2⟩ := ih (acc ++ List.replicate k.mn (seatD k)) (some (rowD k)) y6 (fun k' h => hm k' (List.mem_cons_of_mem _ h)) l2
    refine ⟨z5, z6, ?_⟩
    rw [seats_cons, ← e2, List.map_cons]
    exact step_of (stay_app hq acc) rfl b1
theorem seated_eq {T : Sto} {q : Nat} {ks : List KA} (hq : T[q]? = some (.lst (ks.map rowD))) (hm : ∀ k ∈ ks, k.mn ≤ 3) (hl : ks.length ≤ 3) (a w c : D) : m__law_seated [.loc q, a, w, c] T = .ok (.lst [.loc q, a, w, c, .loc T.length]) (T ++ [.lst (seats ks)]) := by
  obtain ⟨y5, y6, e⟩ := so_loop hq (some (.loc q)) (some a) (some w) (some c) ks [] none none hm (by simp; omega)
  rw [List.nil_append] at e
  have hq' : (T ++ [SO.lst []])[q]? = some (.lst (ks.map rowD)) := by rw [List.getElem?_append_left (Rep.lt hq)]; exact hq
  have hb : b__law_seated = (s_seq (s_set 4 (e_new a_nil)) (s_seq (s_for (i_seq (e_v 0)) (g_name 5) soB) (s_ret (e_lst (a_cons (e_v 0) (a_cons (e_v 1) (a_cons (e_v 2) (a_cons (e_v 3) (a_cons (e_v 4) a_nil))))))))) := rfl
  have hi : itsOf (T ++ [SO.lst []]) (.loc q) = some (ks.map rowD, some (q, ks.map rowD)) := by unfold itsOf; simp only [hq']
  simp only [m__law_seated, runDef, hb]
  generalize ks.map rowD = kr at *
  generalize T ++ [SO.lst (seats ks)] = T1 at *
  generalize soB = sb at *
  simp -implicitDefEqProofs [hi, e]
end Mm
set_option maxRecDepth 100000
namespace Mm
open PySem L2
def planT (y : YA) : D := .lst [.lst (y.ks.map rowD), .int y.ah, wiD y.wi, .int y.cr, .lst (seats y.ks)]
theorem seats_lo (l : List KA) : los 0 (seats l) = true := los_all fun d hd => by
  obtain ⟨x, _, hx⟩ := List.mem_flatMap.mp hd
  rw [List.mem_replicate] at hx
  rw [hx.2]
  unfold seatD; simp only [D.lo, los, sDs_lo, Bool.and_self]
theorem seats_dp {l : List KA} (g : ∀ k ∈ l, GoodK k) : dps (seats l) ≤ 8 := dps_all fun d hd => by
  obtain ⟨x, hx, hx2⟩ := List.mem_flatMap.mp hd
  rw [List.mem_replicate] at hx2
  rw [hx2.2]
  have := sDs_dp x.sc 0 0 (g x hx).sc.ok (by decide)
  unfold seatD; simp only [D.dp, dps]; omega
/-! the shapes -/
def amt (sh : Int) : Nat := if sh = 5 then 3 else if sh = 2 ∨ sh = 3 ∨ sh = 4 then 2 else 1
def room (sh : Int) : Int := if sh = 4 ∨ sh = 5 then 4 else 8
theorem last_ne {x y : Str} {a b : Nat} (h : x ++ (⟨#[a]⟩ : Str) = y ++ (⟨#[b]⟩ : Str)) : a = b := by
  have h2 := congrArg (fun s : Str => s.cps.toList) h
  have e : ∀ a b : Str, (a ++ b).cps.toList = a.cps.toList ++ b.cps.toList := fun a b => by
    show (a.cps ++ b.cps).toList = _
    simp
  simp only [e] at h2
  have h3 := congrArg List.getLast? h2
  simpa using h3
theorem nm_ne {sh rm : Int} {i j : Nat} {a b : KA} (A : Gk sh rm i a) (B : Gk sh rm j b) (h : i ≠ j) : a.nm ≠ b.nm := fun e => by
  obtain ⟨z, hz⟩ := A.nm
  obtain ⟨w, hw⟩ := B.nm
  rw [hz, hw] at e
  have := last_ne e
  omega
theorem good_plan {sh : Int} (s0 : 0 ≤ sh) (s1 : sh < 6) {ks : List KA} (hl : ks.length = amt sh) (hg : ∀ (i : Nat) (kk : KA), ks[i]? = some kk → Gk sh (room sh) i kk) {ah cr : Int} {wi : Option Int} (a : 0 ≤ ah ∧ ah ≤ 4) (c : 0 ≤ cr ∧ cr ≤ 2) (w : ∀ v, wi = some v → 3 ≤ v ∧ v ≤ 8) : GoodY ⟨ks, ah, wi, cr⟩ := by
  have gk : ∀ k ∈ ks, GoodK k := fun k hk => by
    obtain ⟨i, hi⟩ := List.getElem?_of_mem hk
    exact (hg i k hi).good
  have hw : ∀ v, wi = some v → v ≤ 8 ∧ ∀ k ∈ ks, k.bl ≤ v := fun v hv => ⟨(w v hv).2, fun k hk => by have := (gk k hk).bl; have := w v hv; omega⟩
  have sh6 : sh = 0 ∨ sh = 1 ∨ sh = 2 ∨ sh = 3 ∨ sh = 4 ∨ sh = 5 := by omega
  have one : ∀ k : KA, ks = [k] → k.mn ≤ 2 → GoodY ⟨ks, ah, wi, cr⟩ := fun k e hm => by
    subst e
    have es : YA.ses ⟨[k], ah, wi, cr⟩ = List.replicate k.mn k := by simp [YA.ses]
    exact ⟨gk, by simp, by simp, by rw [es, List.length_replicate]; omega, fun h => by rw [es, List.length_replicate] at h; omega, a, hw, c⟩
  have two : ∀ k k2 : KA, ks = [k, k2] → k.nm ≠ k2.nm → k.mn + k2.mn ≤ 3 → (k.mn + k2.mn = 3 → Tk.cntAll k.sc ≤ 4 ∧ Tk.cntAll k2.sc ≤ 4) → GoodY ⟨ks, ah, wi, cr⟩ := fun k k2 e hn hm hc => by
    subst e
    have es : (YA.ses ⟨[k, k2], ah, wi, cr⟩).length = k.mn + k2.mn := by simp [YA.ses]
    exact ⟨gk, by simp [hn], by simp, by rw [es]; omega, fun h => by
      rw [es] at h
      intro x hx
      simp only [List.mem_cons, List.not_mem_nil, or_false] at hx
      rcases hx with rfl | rfl
      · exact (hc h).1
      · exact (hc h).2, a, hw, c⟩
  rcases sh6 with rfl | rfl | rfl | rfl | rfl | rfl
  · obtain ⟨k, rfl⟩ := List.length_eq_one_iff.mp (show ks.length = 1 from hl)
    exact one k rfl (by rw [(hg 0 k rfl).mn]; decide)
  · obtain ⟨k, rfl⟩ := List.length_eq_one_iff.mp (show ks.length = 1 from hl)
    exact one k rfl (by rw [(hg 0 k rfl).mn]; decide)
  · obtain ⟨k, k2, rfl⟩ := len_two (show ks.length = 2 from hl)
    have m1 : k.mn = 1 := (hg 0 k rfl).mn
    have m2 : k2.mn = 1 := (hg 1 k2 rfl).mn
    exact two k k2 rfl (nm_ne (hg 0 k rfl) (hg 1 k2 rfl) (by decide)) (by omega) (by omega)
  · obtain ⟨k, k2, rfl⟩ := len_two (show ks.length = 2 from hl)
    have m1 : k.mn = 1 := (hg 0 k rfl).mn
    have m2 : k2.mn = 1 := (hg 1 k2 rfl).mn
    exact two k k2 rfl (nm_ne (hg 0 k rfl) (hg 1 k2 rfl) (by decide)) (by omega) (by omega)
  · obtain ⟨k, k2, rfl⟩ := len_two (show ks.length = 2 from hl)
    have m1 : k.mn = 2 := (hg 0 k rfl).mn
    have m2 : k2.mn = 1 := (hg 1 k2 rfl).mn
    have c1 : (Tk.cntAll k.sc : Int) ≤ 4 := (hg 0 k rfl).cnt
    have c2 : (Tk.cntAll k2.sc : Int) ≤ 4 := (hg 1 k2 rfl).cnt
    exact two k k2 rfl (nm_ne (hg 0 k rfl) (hg 1 k2 rfl) (by decide)) (by omega) (fun _ => by omega)
  · match ks, hl with
    | [k, k2, k3], _ =>
      have m1 : k.mn = 1 := (hg 0 k rfl).mn
      have m2 : k2.mn = 1 := (hg 1 k2 rfl).mn
      have m3 : k3.mn = 1 := (hg 2 k3 rfl).mn
      have c1 : (Tk.cntAll k.sc : Int) ≤ 4 := (hg 0 k rfl).cnt
      have c2 : (Tk.cntAll k2.sc : Int) ≤ 4 := (hg 1 k2 rfl).cnt
      have c3 : (Tk.cntAll k3.sc : Int) ≤ 4 := (hg 2 k3 rfl).cnt
      have es : (YA.ses ⟨[k, k2, k3], ah, wi, cr⟩).length = 3 := by simp [YA.ses, m1, m2, m3]
      exact ⟨gk, by simp [nm_ne (hg 0 k rfl) (hg 1 k2 rfl) (by decide), nm_ne (hg 0 k rfl) (hg 2 k3 rfl) (by decide), nm_ne (hg 1 k2 rfl) (hg 2 k3 rfl) (by decide)], by simp, by rw [es]; decide, fun _ => by
        intro x hx
        simp only [List.mem_cons, List.not_mem_nil, or_false] at hx
        rcases hx with rfl | rfl | rfl <;> omega, a, hw, c⟩
/-! the plan -/
theorem b_plan_eq : b__law_text_plan = (s_seq (s_set 1 (e_new a_nil))
  (s_seq (s_set 2 (e_fn tr0 m__law_pick (a_cons (e_v 0) (a_cons (e_k (.int 6)) a_nil))))
  (s_seq (s_set 3 (e_op ixD (e_lst (a_cons (e_k (.int 8)) (a_cons (e_k (.int 8)) (a_cons (e_k (.int 8)) (a_cons (e_k (.int 8)) (a_cons (e_k (.int 4)) (a_cons (e_k (.int 4)) a_nil))))))) (e_v 2)))
  (s_seq (s_for (i_rng1 (e_op ixD (e_lst (a_cons (e_k (.int 1)) (a_cons (e_k (.int 1)) (a_cons (e_k (.int 2)) (a_cons (e_k (.int 2)) (a_cons (e_k (.int 2)) (a_cons (e_k (.int 3)) a_nil))))))) (e_v 2))) (g_name 4) kkB)
  (s_seq (s_set 7 (e_op ixD (e_lst (a_cons (e_k .non) (a_cons (e_k .non) (a_cons (e_k (.int 3)) (a_cons (e_k (.int 4)) (a_cons (e_k (.int 5)) (a_cons (e_k (.int 6)) (a_cons (e_k (.int 7)) (a_cons (e_k (.int 8)) a_nil))))))))) (e_fn tr0 m__law_pick (a_cons (e_v 0) (a_cons (e_k (.int 8)) a_nil)))))
  (s_ret (e_fn trunc m__law_seated (a_cons (e_v 1) (a_cons (e_fn tr0 m__law_pick (a_cons (e_v 0) (a_cons (e_k (.int 5)) a_nil))) (a_cons (e_v 7) (a_cons (e_fn tr0 m__law_pick (a_cons (e_v 0) (a_cons (e_k (.int 3)) a_nil))) a_nil))))))))))) := rfl
theorem room_at {sh : Int} (s0 : 0 ≤ sh) (s1 : sh < 6) (T : Sto) : ixD (.lst [.int 8, .int 8, .int 8, .int 8, .int 4, .int 4]) (.int sh) T = .ok (.int (room sh)) T ∧ ixD (.lst [.int 1, .int 1, .int 2, .int 2, .int 2, .int 3]) (.int sh) T = .ok (.int (amt sh)) T := by
  have sh6 : sh = 0 ∨ sh = 1 ∨ sh = 2 ∨ sh = 3 ∨ sh = 4 ∨ sh = 5 := by omega
  rcases sh6 with rfl | rfl | rfl | rfl | rfl | rfl <;> exact ⟨rfl, rfl⟩
theorem wide_at {r : Int} (r0 : 0 ≤ r) (r1 : r < 8) (T : Sto) : ∃ wi : Option Int, (∀ v, wi = some v → 3 ≤ v ∧ v ≤ 8) ∧ ixD (.lst [.non, .non, .int 3, .int 4, .int 5, .int 6, .int 7, .int 8]) (.int r) T = .ok (wiD wi) T := by
  have h : r = 0 ∨ r = 1 ∨ r = 2 ∨ r = 3 ∨ r = 4 ∨ r = 5 ∨ r = 6 ∨ r = 7 := by omega
  rcases h with rfl | rfl | rfl | rfl | rfl | rfl | rfl | rfl
  · exact ⟨none, fun v h => (by cases h), rfl⟩
  · exact ⟨none, fun v h => (by cases h), rfl⟩
  · exact ⟨some 3, fun v h => by cases h; decide, rfl⟩
  · exact ⟨some 4, fun v h => by cases h; decide, rfl⟩
  · exact ⟨some 5, fun v h => by cases h; decide, rfl⟩
  · exact ⟨some 6, fun v h => by cases h; decide, rfl⟩
  · exact ⟨some 7, fun v h => by cases h; decide, rfl⟩
  · exact ⟨some 8, fun v h => by cases h; decide, rfl⟩
theorem seated_tr {T : Sto} {q : Nat} {ks : List KA} (hq : T[q]? = some (.lst (ks.map rowD))) (gk : ∀ k ∈ ks, GoodK k) (hl : ks.length ≤ 3) (a c : Int) (w : Option Int) : trunc T (m__law_seated [.loc q, .int a, wiD w, .int c] T) = .ok (.lst [.loc q, .int a, wiD w, .int c, .lst (seats ks)]) T := by
  rw [seated_eq hq (fun k hk => (gk k hk).mn.2) hl, trunc_upd (Upd.refl T)]
  have hn : q < T.length := Rep.lt hq
  have g := app_last T (.lst (seats ks))
  have r2 := rsvs_pure (n := T.length) (S := T ++ [.lst (seats ks)]) 10 (seats ks) (seats_lo _) (.inl (by have := seats_dp gk; omega))
  have r3 := rsv_wi T.length (T ++ [.lst (seats ks)]) 10 w
  have lo : D.lo T.length (.lst [.loc q, .int a, wiD w, .int c, .loc T.length]) = false := by
    simp [D.lo, los]
  unfold rsvD
  rw [lo]
  simp -implicitDefEqProofs [rsv, rsvs, hn, g, r2, r3]
end Mm
set_option maxRecDepth 100000
namespace Mm
open PySem L2
theorem st3_eq {S : Sto} {p : Nat} (hp : p < S.length) (P : Int × Int × Int) (ks : List KA) : St3 S p P ks = S.set p (pB P) ++ [SO.lst (ks.map rowD)] := by
  unfold St3
  rw [List.set_append_left _ _ hp]
theorem pick3 {S : Sto} {p : Nat} (hp : p < S.length) (P : Int × Int × Int) (ks : List KA) {n : Int} (n0 : 0 < n) (n1 : n < 1073741824) : ∃ r P', m__law_pick [.loc p, .int n] (St3 S p P ks) = .ok (.int r) (St3 S p P' ks) ∧ 0 ≤ r ∧ r < n := by
  have hp2 : p < (S ++ [SO.lst (ks.map rowD)]).length := by simp; omega
  obtain ⟨a, b, c⟩ := P
  obtain ⟨r, a1, b1, c1, e1, r0, r1⟩ := pickS hp2 a b c n0 n1
  exact ⟨r, (a1, b1, c1), e1, r0, r1⟩
theorem plan_tr {S : Sto} {p : Nat} (hp : p < S.length) (P P' : Int × Int × Int) {ks : List KA} (gk : ∀ k ∈ ks, GoodK k) (a c : Int) (w : Option Int) : trunc (S.set p (pB P)) (.ok (.lst [.loc S.length, .int a, wiD w, .int c, .lst (seats ks)]) (St3 S p P' ks)) = .ok (planT ⟨ks, a, w, c⟩) (S.set p (pB P')) := by
  rw [st3_eq hp, trunc_upd (upd_p rfl)]
  have hl : (S.set p (pB P)).length = S.length := by simp
  have hl2 : (S.set p (pB P')).length = S.length := by simp
  rw [hl]
  have g : (S.set p (pB P') ++ [SO.lst (ks.map rowD)])[S.length]? = some (.lst (ks.map rowD)) := by
    have := app_last (S.set p (pB P')) (.lst (ks.map rowD))
    rwa [hl2] at this
  have r1 := rsvs_pure (n := S.length) (S := S.set p (pB P') ++ [SO.lst (ks.map rowD)]) 10 (ks.map rowD) (rows_lo _) (.inl (by have := rows_dp gk; omega))
  have r2 := rsvs_pure (n := S.length) (S := S.set p (pB P') ++ [SO.lst (ks.map rowD)]) 10 (seats ks) (seats_lo _) (.inl (by have := seats_dp gk; omega))
  have r3 := rsv_wi S.length (S.set p (pB P') ++ [SO.lst (ks.map rowD)]) 10 w
  have lo : D.lo S.length (.lst [.loc S.length, .int a, wiD w, .int c, .lst (seats ks)]) = false := by
    simp [D.lo, los]
  unfold rsvD planT
  rw [lo]
  generalize S.set p (pB P') ++ [SO.lst (ks.map rowD)] = T1 at *
  simp -implicitDefEqProofs [rsv, rsvs, g, r1, r2, r3]
theorem plan_eq {S : Sto} {p : Nat} (hp : p < S.length) (P : Int × Int × Int) : ∃ y P', GoodY y ∧ y.ks.length ≤ 3 ∧ trunc (S.set p (pB P)) (m__law_text_plan [.loc p] (S.set p (pB P))) = .ok (planT y) (S.set p (pB P')) := by
  obtain ⟨sh, P1, e1, s0, s1⟩ := pick3 hp P [] (n := 6) (by decide) (by decide)
  obtain ⟨i1, i2⟩ := room_at s0 s1 (St3 S p P1 [])
  have hrm : room sh = 4 ∨ room sh = 8 := by unfold room; split <;> simp
  have hn : amt sh ≤ 3 ∧ 1 ≤ amt sh := by unfold amt; split <;> (try split) <;> decide
  obtain ⟨ks, P2, y4, y5, y6, hl, hg, e2⟩ := kk_loop (sh := sh) (rm := room sh) hp hrm (amt sh) P1 [] none none none none (by simp; omega) (fun i kk h => by cases h)
  rw [List.length_nil, Nat.zero_add] at hl
  obtain ⟨r, P3, e3, r0, r1⟩ := pick3 hp P2 ks (n := 8) (by decide) (by decide)
  obtain ⟨wi, hw, i3⟩ := wide_at r0 r1 (St3 S p P3 ks)
  obtain ⟨ah, P4, e4, a0, a1⟩ := pick3 hp P3 ks (n := 5) (by decide) (by decide)
  obtain ⟨cr, P5, e5, c0, c1⟩ := pick3 hp P4 ks (n := 3) (by decide) (by decide)
  have g : GoodY ⟨ks, ah, wi, cr⟩ := good_plan s0 s1 hl hg ⟨a0, by omega⟩ ⟨c0, by omega⟩ hw
  have st := seated_tr (T := St3 S p P5 ks) (st3_at hp P5 ks) g.ks (by omega) ah cr wi
  have tr := plan_tr hp P P5 g.ks ah cr wi
  refine ⟨⟨ks, ah, wi, cr⟩, P5, g, by show ks.length ≤ 3; omega, ?_⟩
  have e0 : S.set p (pB P) ++ [SO.lst []] = St3 S p P [] := (st3_eq hp P []).symm
  have vlen : (S.set p (pB P)).length = S.length := by simp
  have cn : (((amt sh : Nat) : Int) < 4611686018427387904) = True := eq_true (by omega)
  have cm : (-4611686018427387904 ≤ ((amt sh : Nat) : Int)) = True := eq_true (by omega)
  have em : m__law_text_plan [.loc p] (S.set p (pB P)) = .ok (.lst [.loc S.length, .int ah, wiD wi, .int cr, .lst (seats ks)]) (St3 S p P5 ks) := by
    simp only [List.length_nil, show ((0 : Nat) : Int) = 0 from rfl] at e2
    simp only [m__law_text_plan, runDef, b_plan_eq]
    generalize seats ks = se at *
    generalize St3 S p P5 ks = T5 at *
    generalize St3 S p P4 ks = T4 at *
    generalize St3 S p P3 ks = T3 at *
    generalize St3 S p P2 ks = T2 at *
    generalize St3 S p P1 [] = T1 at *
    generalize St3 S p P [] = T0 at *
    generalize S.set p (pB P) = Sp at *
    generalize kkB = kb at *
    generalize amt sh = am at *
    generalize room sh = rm at *
    simp -implicitDefEqProofs [-ixD_lst, vlen, e0, e1, i1, i2, cn, cm, e2, e3, i3, e4, e5, st]
  rw [em]
  exact tr
/-! the system -/
theorem planT_0 (y : YA) (S : Sto) : ixD (planT y) (.int 0) S = .ok (.lst (y.ks.map rowD)) S := by simp [planT]
theorem planT_1 (y : YA) (S : Sto) : ixD (planT y) (.int 1) S = .ok (.int y.ah) S := by simp [planT]
theorem planT_2 (y : YA) (S : Sto) : ixD (planT y) (.int 2) S = .ok (wiD y.wi) S := by simp [planT]
theorem planT_3 (y : YA) (S : Sto) : ixD (planT y) (.int 3) S = .ok (.int y.cr) S := by simp [planT]
theorem trunc_lo {S : Sto} {d : D} (h : d.lo 0 = true) : trunc S (.ok d S) = .ok d S := by
  have := trunc_upd (Upd.refl S) [] d
  simp only [List.append_nil] at this
  rw [this, rsvD_lo h]; rfl
theorem sys_lo (y : YA) : (sysD y).lo 0 = true := by unfold sysD; simp only [D.lo, los, kins_lo, sL_lo, wi_lo, Bool.and_self]
theorem system_eq {y : YA} (g : GoodY y) (h3 : y.ks.length ≤ 3) (S : Sto) : trunc S (m__law_system [planT y] S) = .ok (sysD y) S := by
  suffices m__law_system [planT y] S = .ok (sysD y) S by rw [this]; exact trunc_lo (sys_lo y)
  have hc : (∃ k, y.ks = [k]) ∨ (∃ k k2, y.ks = [k, k2]) ∨ ∃ k k2 k3, y.ks = [k, k2, k3] := by
    have ne := g.ne
    match h : y.ks with
    | [] => exact absurd h ne
    | [k] => exact .inl ⟨k, rfl⟩
    | [k, k2] => exact .inr (.inl ⟨k, k2, rfl⟩)
    | [k, k2, k3] => exact .inr (.inr ⟨k, k2, k3, rfl⟩)
    | _ :: _ :: _ :: _ :: _ => rw [h] at h3; simp at h3
  have hf : ∀ S, m_fault_of_system [.tup (y.ks.map kinD), .int y.ah, wiD y.wi, .int y.cr] S = .ok .non S := by
    intro S
    obtain ⟨ks, ah, wi, cr⟩ := y
    have f := g.few
    have z := g.size
    have nd := g.nd
    rcases hc with ⟨k, e⟩ | ⟨k, k2, e⟩ | ⟨k, k2, k3, e⟩
    · subst e
      have e : YA.ses ⟨[k], ah, wi, cr⟩ = List.replicate k.mn k := by simp [YA.ses]
      rw [e, List.length_replicate] at f z
      exact fault_sys1 (g.ks k (by simp)) (fun h => z h k (by simp)) g.ah (fun w hw => ⟨(g.wi w hw).1, (g.wi w hw).2 k (by simp)⟩) g.cr S
    · subst e
      have e : (YA.ses ⟨[k, k2], ah, wi, cr⟩).length = k.mn + k2.mn := by simp [YA.ses]
      rw [e] at f z
      simp at nd
      exact fault_sys2 (g.ks k (by simp)) (g.ks k2 (by simp)) nd f (fun h => ⟨z h k (by simp), z h k2 (by simp)⟩) g.ah (fun w hw => ⟨(g.wi w hw).1, (g.wi w hw).2 k (by simp), (g.wi w hw).2 k2 (by simp)⟩) g.cr S
    · subst e
      have e : (YA.ses ⟨[k, k2, k3], ah, wi, cr⟩).length = k.mn + k2.mn + k3.mn := by simp [YA.ses]; omega
      rw [e] at f z
      simp at nd
      have m1 := (g.ks k (by simp)).mn
      have m2 := (g.ks k2 (by simp)).mn
      have m3 := (g.ks k3 (by simp)).mn
      have z := z (by omega)
      exact fault_sys3 (g.ks k (by simp)) (g.ks k2 (by simp)) (g.ks k3 (by simp)) (by omega) (by omega) (by omega) (fun e => nd.1.1 e) (fun e => nd.1.2 e) nd.2 ⟨z k (by simp), z k2 (by simp), z k3 (by simp)⟩ g.ah (fun w hw => ⟨(g.wi w hw).1, (g.wi w hw).2 k (by simp), (g.wi w hw).2 k2 (by simp), (g.wi w hw).2 k3 (by simp)⟩) g.cr S
  have sm := fun S => sys_mk g hf h3 S
  have b0 := planT_0 y S
  have b1 := planT_1 y S
  have b2 := planT_2 y S
  have b3 := planT_3 y S
  obtain ⟨ks, ah, wi, cr⟩ := y
  rcases hc with ⟨k, e⟩ | ⟨k, k2, e⟩ | ⟨k, k2, k3, e⟩
  · subst e
    have km := fun S => kind_mk (g.ks k (by simp)) S
    simp at b0 sm b1 b2 b3
    simp -implicitDefEqProofs [m__law_system, runDef, b__law_system, b0, b1, b2, b3, wipeE, row_0, row_1, row_2, row_3, km, sm]
  · subst e
    have km := fun S => kind_mk (g.ks k (by simp)) S
    have km2 := fun S => kind_mk (g.ks k2 (by simp)) S
    simp at b0 sm b1 b2 b3
    simp -implicitDefEqProofs [m__law_system, runDef, b__law_system, b0, b1, b2, b3, wipeE, row_0, row_1, row_2, row_3, km, km2, sm]
  · subst e
    have km := fun S => kind_mk (g.ks k (by simp)) S
    have km2 := fun S => kind_mk (g.ks k2 (by simp)) S
    have km3 := fun S => kind_mk (g.ks k3 (by simp)) S
    simp at b0 sm b1 b2 b3
    simp -implicitDefEqProofs [m__law_system, runDef, b__law_system, b0, b1, b2, b3, wipeE, row_0, row_1, row_2, row_3, km, km2, km3, sm]
end Mm
set_option maxRecDepth 100000
namespace Mm
open PySem L2
/-! texts -/
theorem str_ext {a b : Str} (h : a.cps.toList = b.cps.toList) : a = b := by
  cases a; cases b
  congr 1
  exact Array.ext' h
theorem app_list (a b : Str) : (a ++ b).cps.toList = a.cps.toList ++ b.cps.toList := by
  show (a.cps ++ b.cps).toList = _
  simp
theorem len_list (a : Str) : a.length = a.cps.toList.length := by
  show a.cps.size = _
  simp
theorem fold_rep (c : Nat) : ∀ (k : Nat) (acc : Array Nat), (List.foldl (fun x1 x2 => x1 ++ x2) acc (List.replicate k #[c])).toList = acc.toList ++ List.replicate k c
  | 0, acc => by simp
  | k + 1, acc => by
    rw [List.replicate_succ, List.foldl_cons, fold_rep c k]
    simp [List.replicate_succ]
theorem sp_cps : (" " : Str).cps = #[32] := by decide +kernel
theorem rep_list {n : Int} (h : 0 ≤ n) : (repS " " n).cps.toList = List.replicate n.toNat 32 := by
  unfold repS
  by_cases h1 : n < 1
  · have : n = 0 := by omega
    subst this
    rfl
  · rw [if_neg h1]
    by_cases h2 : (n == 1 || (" " : Str).length == 0) = true
    · rw [if_pos h2]
      have : n = 1 := by
        rw [Bool.or_eq_true] at h2
        rcases h2 with h2 | h2
        · exact of_decide_eq_true (by simpa using h2)
        · exact absurd h2 (by decide)
      subst this
      rw [sp_cps]; rfl
    · rw [if_neg h2, sp_cps]
      show (List.foldl (fun x1 x2 => x1 ++ x2) #[] (List.replicate n.toNat #[32])).toList = _
      rw [fold_rep]
      rfl
theorem rep_len {n : Int} (h : 0 ≤ n) : (repS " " n).length = n.toNat := by rw [len_list, rep_list h, List.length_replicate]
theorem rep_two {n : Int} (h : 0 ≤ n) (x y : Str) (hx : x.cps.toList = 32 :: 32 :: y.cps.toList) : repS " " (n + 2) ++ y = repS " " n ++ x := by
  apply str_ext
  rw [app_list, app_list, rep_list h, rep_list (by omega), hx]
  have : (n + 2).toNat = n.toNat + 2 := by omega
  rw [this, ← List.replicate_append_replicate, List.append_assoc]
  rfl
theorem yes_list : ("  yes" : Str).cps.toList = 32 :: 32 :: ("yes" : Str).cps.toList := by decide +kernel
theorem no_list : ("  no" : Str).cps.toList = 32 :: 32 :: ("no" : Str).cps.toList := by decide +kernel
def lineS (n : Int) (x : Str) : Str := repS " " n ++ x
theorem line_len {n : Int} (h : 0 ≤ n) (x : Str) : (lineS n x).length = n.toNat + x.length := by unfold lineS; rw [Tk.len_app, rep_len h]
/-- " " * n + x -/
theorem mul_ok {n : Int} (h0 : 0 ≤ n) (h1 : n ≤ 100) (S : Sto) : mulSD (.str " ") (.int n) S = .ok (.str (repS " " n)) S := by
  rw [mulSD_eq, R.if_pos]
  have l1 : (" " : Str).length = 1 := rfl
  have hs : sizeLine = 16777216 := by decide
  rw [l1, rep_len h0, hs]
  omega
theorem add_ok {a b : Str} (h : a.length + b.length ≤ 1000) (S : Sto) : addD (.str a) (.str b) S = .ok (.str (a ++ b)) S := by
  rw [addD_str, R.if_pos]
  have := szb
  omega
theorem indented_eq {n : Int} (h0 : 0 ≤ n) (h1 : n ≤ 100) {x : Str} (hx : x.length ≤ 800) (S : Sto) : m_indented [.int n, .str x] S = .ok (.str (lineS n x)) S := by
  have e1 := fun S => mul_ok h0 h1 S
  have e2 := fun S => add_ok (a := repS " " n) (b := x) (by rw [rep_len h0]; omega) S
  simp -implicitDefEqProofs [-mulSD_eq, -addD_str, m_indented, runDef, b_indented, e1, e2, lineS]
/-! statements -/
def stT : Tk.Stm → List Str
  | .one w => [w.s]
  | .nam b n => [Tk.lockS b, n]
  | .ch _ _ => []
def jn (s : Tk.Stm) : Str := Txt.join " " (stT s)
mutual
def rowS : Tk.Stm → Int → List Str
  | .one w, n => [lineS n (jn (.one w))]
  | .nam b m, n => [lineS n (jn (.nam b m))]
  | .ch y z, n => lineS n "choose" :: lineS (n + 2) "yes" :: (rowsS y (n + 4) ++ lineS (n + 2) "no" :: rowsS z (n + 4))
def rowsS : List Tk.Stm → Int → List Str
  | [], _ => []
  | s :: r, n => rowS s n ++ rowsS r n
end
theorem jn_one (w : Tk.Wd) : jn (.one w) = w.s := by
  unfold jn stT Txt.join
  simp [Builtin.Str.glued]
theorem jn_len (s : Tk.Stm) (h : ∀ b n, s = .nam b n → n.length ≤ 8) : (jn s).length ≤ 30 := by
  cases s with
  | one w => rw [jn_one]; cases w <;> decide
  | nam b n =>
    have hn := h b n rfl
    have e : (jn (.nam b n)).length = (Tk.lockS b).length + 1 + n.length := by
      unfold jn stT Txt.join
      have e1 : Builtin.Str.glued " " [Tk.lockS b, n] = Tk.lockS b ++ " " ++ n := by
        apply str_ext
        simp only [app_list]
        simp [Builtin.Str.glued]
      rw [e1, Tk.len_app, Tk.len_app]
      rfl
    have hb : (Tk.lockS b).length ≤ 6 := by cases b <;> decide
    omega
  | ch y z =>
    show (Txt.join " " []).length ≤ 30
    decide
mutual
theorem row_len : ∀ (s : Tk.Stm) (d : Nat) (h : Int) (n : Int), s.ok d h → d ≤ 2 → 0 ≤ n → n ≤ 4 * d + 4 → (rowS s n).length ≤ 3 * s.cnt ∧ ∀ x ∈ rowS s n, x.length ≤ 60
  | .one w, d, h, n, ho, hd, h0, h1 => by
    unfold rowS
    refine ⟨by show 1 ≤ 3 * 1; omega, fun x hx => ?_⟩
    rw [List.mem_singleton] at hx
    have := jn_len (.one w) (fun b n e => by cases e)
    rw [hx, line_len h0]
    omega
  | .nam b m, d, h, n, ho, hd, h0, h1 => by
    unfold rowS
    refine ⟨by show 1 ≤ 3 * 1; omega, fun x hx => ?_⟩
    rw [List.mem_singleton] at hx
    have := jn_len (.nam b m) (fun b' n' e => by cases e; unfold Tk.Stm.ok at ho; exact ho.2.1)
    rw [hx, line_len h0]
    omega
  | .ch y z, d, h, n, ho, hd, h0, h1 => by
    unfold Tk.Stm.ok at ho
    obtain ⟨o1, o2, o3⟩ := ho
    obtain ⟨a1, a2⟩ := rows_len y (d + 1) h (n + 4) o2 (by omega) (by omega) (by omega)
    obtain ⟨b1, b2⟩ := rows_len z (d + 1) h (n + 4) o3 (by omega) (by omega) (by omega)
    have l1 : ("choose" : Str).length = 6 := by decide
    have l2 : ("yes" : Str).length = 3 := by decide
    have l3 : ("no" : Str).length = 2 := by decide
    unfold rowS
    refine ⟨by simp only [List.length_cons, List.length_append, Tk.Stm.cnt]; omega, fun x hx => ?_⟩
    rcases List.mem_cons.mp hx with rfl | hx
    · rw [line_len h0]; omega
    · rcases List.mem_cons.mp hx with rfl | hx
      · rw [line_len (by omega)]; omega
      · rcases List.mem_append.mp hx with hx | hx
        · exact a2 x hx
        · rcases List.mem_cons.mp hx with rfl | hx
          · rw [line_len (by omega)]; omega
          · exact b2 x hx
theorem rows_len : ∀ (B : List Tk.Stm) (d : Nat) (h : Int) (n : Int), Tk.okAll d B h → d ≤ 2 → 0 ≤ n → n ≤ 4 * d + 4 → (rowsS B n).length ≤ 3 * Tk.cntAll B ∧ ∀ x ∈ rowsS B n, x.length ≤ 60
  | [], d, h, n, ho, hd, h0, h1 => by unfold rowsS; exact ⟨Nat.zero_le _, fun x hx => by cases hx⟩
  | s :: r, d, h, n, ho, hd, h0, h1 => by
    unfold Tk.okAll at ho
    obtain ⟨a1, a2⟩ := row_len s d h n ho.1 hd h0 h1
    obtain ⟨b1, b2⟩ := rows_len r d (s.held h) n ho.2 hd h0 h1
    unfold rowsS
    refine ⟨by rw [List.length_append, Tk.cntAll]; omega, fun x hx => ?_⟩
    rcases List.mem_append.mp hx with hx | hx
    · exact a2 x hx
    · exact b2 x hx
end
end Mm
set_option maxRecDepth 100000
namespace Mm
open PySem L2
/-! the rows of a branch -/
theorem jn_ok {s : Tk.Stm} (h : ∀ y z, s ≠ .ch y z) (hn : ∀ b n, s = .nam b n → n.length ≤ 8) (S : Sto) : ∃ ds, sD s = .tup ds ∧ joinD (.str " ") [.tup ds] S = .ok (.str (jn s)) S ∧ joinD (.str " ") [.lst ds] S = .ok (.str (jn s)) S ∧ ds.length ≤ 2 ∧ ∃ w, atI ds 0 = some (.str w) ∧ ¬ w = "choose" := by
  have hs : (16777216 : Nat) = sizeLine := by decide
  cases s with
  | one w =>
    have l : w.s.length ≤ 8 := by cases w <;> decide
    have key : ∀ d : D, seqOf S d = some [.str w.s] → joinD (.str " ") [d] S = .ok (.str (jn (.one w))) S := fun d hd => by
      rw [joinD_eq, hd]
      have e : txsO [.str w.s] = some [w.s] := rfl
      rw [Option.bind_some, e, Option.bind_some, if_pos]
      · rfl
      · simp only [List.map_cons, List.map_nil, List.sum_cons, List.sum_nil, List.length_cons, List.length_nil]
        have : (" " : Str).length = 1 := rfl
        omega
    exact ⟨[.str w.s], rfl, key _ rfl, key _ rfl, by simp, w.s, by simp, by cases w <;> decide⟩
  | nam b n =>
    have l := hn b n rfl
    have lb : (Tk.lockS b).length ≤ 8 := by cases b <;> decide
    have key : ∀ d : D, seqOf S d = some [.str (Tk.lockS b), .str n] → joinD (.str " ") [d] S = .ok (.str (jn (.nam b n))) S := fun d hd => by
      rw [joinD_eq, hd]
      have e : txsO [.str (Tk.lockS b), .str n] = some [Tk.lockS b, n] := rfl
      rw [Option.bind_some, e, Option.bind_some, if_pos]
      · rfl
      · simp only [List.map_cons, List.map_nil, List.sum_cons, List.sum_nil, List.length_cons, List.length_nil]
        have : (" " : Str).length = 1 := rfl
        omega
    exact ⟨[.str (Tk.lockS b), .str n], rfl, key _ rfl, key _ rfl, by simp, Tk.lockS b, by simp, by cases b <;> decide⟩
  | ch y z => exact absurd rfl (h y z)
abbrev L2S (S : Sto) (acc : List Str) : Sto := S ++ [SO.lst (sL acc)]
theorem ap_str (S : Sto) (acc : List Str) (x : Str) (h : acc.length ≤ 900) : appD (.loc S.length) [.str x] (L2S S acc) = .ok .non (L2S S (acc ++ [x])) := by
  have z1 : ((sL acc).length < sizeLine) = True := eq_true (by rw [List.length_map]; have := szb; omega)
  rw [appD_loc (app_last S _), R.if_pos (by rw [z1]; trivial), app_slast]
  simp [L2S]
theorem ex_str (S : Sto) (acc xs : List Str) (h : acc.length + xs.length ≤ 900) : ext2D (.loc S.length) [.lst (sL xs)] (L2S S acc) = .ok .non (L2S S (acc ++ xs)) := by
  have e := extD_loc (S := L2S S acc) (k := S.length) (y := .lst (sL xs)) (app_last S (.lst (sL acc))) (fs := sL xs) rfl
  rw [ext2D_lst, e, R.if_pos (by rw [List.length_map, List.length_map]; have := szb; omega), app_slast]
  simp [L2S]
theorem ty_str (S : Sto) (acc : List Str) : tyL (.loc S.length) (L2S S acc) = true := tyL_loc (app_last S _)
def RoOk (m : FM) (d : Nat) : Prop := ∀ (S : Sto) (B : List Tk.Stm) (h n : Int), Tk.okAll d B h → 0 ≤ n → n ≤ 4 * d + 4 → Tk.cntAll B ≤ 8 → trunc S (m [.tup (sDs B), .int n] S) = .ok (.lst (sL (rowsS B n))) S
/-! the program's -/
noncomputable def rwB (m : FM) : SM := (s_seq (s_ex (e_meth tyL appD (e_v 2) (a_cons (e_fn tr0 m_indented (a_cons (e_op addD (e_v 1) (e_k (.int 2))) (a_cons (e_v 4) a_nil))) a_nil)))
  (s_ex (e_meth tyL ext2D (e_v 2) (a_cons (e_fn trunc m (a_cons (e_v 5) (a_cons (e_op addD (e_v 1) (e_k (.int 4))) a_nil))) a_nil))))
noncomputable def rcB (m : FM) : SM := (s_seq (s_ex (e_meth tyL appD (e_v 2) (a_cons (e_fn tr0 m_indented (a_cons (e_v 1) (a_cons (e_k (.str "choose")) a_nil))) a_nil)))
  (s_for (i_zip (e_tup (a_cons (e_k (.str "yes")) (a_cons (e_k (.str "no")) a_nil))) (e_sl (e_v 3) (o_some (e_k (.int 1))) o_none)) (g_tup (g_cons (g_name 4) (g_cons (g_name 5) g_nil))) (rwB m)))
noncomputable def roB (m : FM) : SM := (s_if (t_b (e_op (eqD false) (e_op ixD (e_v 3) (e_k (.int 0))) (e_k (.str "choose")))) (rcB m) (s_ex (e_meth tyL appD (e_v 2) (a_cons (e_fn tr0 m_indented (a_cons (e_v 1) (a_cons (e_meth tyS joinD (e_k (.str " ")) (a_cons (e_v 3) a_nil)) a_nil))) a_nil))))
theorem b_rows_eq (m : FM) : b_rows_of m = (s_seq (s_set 2 (e_new a_nil)) (s_seq (s_for (i_seq (e_v 0)) (g_name 3) (roB m)) (s_ret (e_v 2)))) := rfl
section
variable {S : Sto} {acc : List Str} {n : Int} {d : Nat} {m : FM}
theorem rw_step (hm : RoOk m (d + 1)) {B : List Tk.Stm} {h : Int} (ho : Tk.okAll (d + 1) B h) (hd : d < 2) (h0 : 0 ≤ n) (h1 : n ≤ 4 * d + 4) (hc : Tk.cntAll B ≤ 8) (ha : acc.length ≤ 700) {w : Str} (hw : w.length ≤ 10) (x0 x3 : Option D) :
    rwB m [x0, some (.int n), some (.loc S.length), x3, some (.str w), some (.tup (sDs B))] (L2S S acc) = .next [x0, some (.int n), some (.loc S.length), x3, some (.str w), some (.tup (sDs B))] (L2S S (acc ++ lineS (n + 2) w :: rowsS B (n + 4))) := by
  have e1 := fun S => indented_eq (n := n + 2) (by omega) (by omega) (x := w) (by omega) S
  have a1 := ap_str S acc (lineS (n + 2) w) (by omega)
  have t1 := ty_str S acc
  have e2 := hm (L2S S (acc ++ [lineS (n + 2) w])) B h (n + 4) ho (by omega) (by omega) hc
  have rl := (rows_len B (d + 1) h (n + 4) ho (by omega) (by omega) (by omega)).1
  have a2 := ex_str S (acc ++ [lineS (n + 2) w]) (rowsS B (n + 4)) (by simp; omega)
  have t2 := ty_str S (acc ++ [lineS (n + 2) w])
  rw [show acc ++ lineS (n + 2) w :: rowsS B (n + 4) = acc ++ [lineS (n + 2) w] ++ rowsS B (n + 4) by simp]
  generalize L2S S (acc ++ [lineS (n + 2) w] ++ rowsS B (n + 4)) = T2 at *
  generalize L2S S (acc ++ [lineS (n + 2) w]) = T1 at *
  generalize L2S S acc = T0 at *
  generalize sDs B = sb at *
  generalize sL (rowsS B (n + 4)) = rr at *
  generalize lineS (n + 2) w = ln at *
  unfold rwB
  simp -implicitDefEqProofs [-appD_loc', -tyL_loc', -ext2D_lst, e1, a1, t1, e2, a2, t2]
theorem ro_step (hm : d < 2 → RoOk m (d + 1)) {s : Tk.Stm} {h : Int} (ho : s.ok d h) (hd : d ≤ 2) (h0 : 0 ≤ n) (h1 : n ≤ 4 * d + 4) (hc : s.cnt ≤ 8) (ha : acc.length ≤ 600) (x0 x4 x5 : Option D) :
    ∃ y4 y5, roB m [x0, some (.int n), some (.loc S.length), some (sD s), x4, x5] (L2S S acc) = .next [x0, some (.int n), some (.loc S.length), some (sD s), y4, y5] (L2S S (acc ++ rowS s n)) := by
  by_cases hch : ∃ y z, s = .ch y z
  · obtain ⟨y, z, rfl⟩ := hch
    unfold Tk.Stm.ok at ho
    obtain ⟨o1, o2, o3⟩ := ho
    rw [Tk.Stm.cnt] at hc
    have e1 := fun S => indented_eq (n := n) h0 (by omega) (x := "choose") (by decide) S
    have a1 := ap_str S acc (lineS n "choose") (by omega)
    have t1 := ty_str S acc
    have q1 := rw_step (S := S) (acc := acc ++ [lineS n "choose"]) (n := n) (hm o1) o2 o1 h0 h1 (by omega) (by simp; omega) (w := "yes") (by decide) x0 (some (sD (.ch y z)))
    have ly := (rows_len y (d + 1) h (n + 4) o2 (by omega) (by omega) (by omega)).1
    have q2 := rw_step (S := S) (acc := acc ++ [lineS n "choose"] ++ lineS (n + 2) "yes" :: rowsS y (n + 4)) (n := n) (hm o1) o3 o1 h0 h1 (by omega) (by simp; omega) (w := "no") (by decide) x0 (some (sD (.ch y z)))
    refine ⟨some (.str "no"), some (.tup (sDs z)), ?_⟩
    have er : acc ++ rowS (.ch y z) n = acc ++ [lineS n "choose"] ++ lineS (n + 2) "yes" :: rowsS y (n + 4) ++ lineS (n + 2) "no" :: rowsS z (n + 4) := by
      unfold rowS; simp
    rw [er]
    have sd : sD (.ch y z) = .tup [.str "choose", .tup (sDs y), .tup (sDs z)] := rfl
    rw [sd] at q1 q2 ⊢
    have zp : zipO (.tup [.str "yes", .str "no"]) (.tup [.tup (sDs y), .tup (sDs z)]) = some ([.str "yes", .str "no"], [.tup (sDs y), .tup (sDs z)]) := rfl
    have zd : zipD [.str "yes", .str "no"] [.tup (sDs y), .tup (sDs z)] = [.tup [.str "yes", .tup (sDs y)], .tup [.str "no", .tup (sDs z)]] := rfl
    have ct : cutD [.str "choose", .tup (sDs y), .tup (sDs z)] (some 1) none = [.tup (sDs y), .tup (sDs z)] := cut_tl _ _
    generalize L2S S (acc ++ [lineS n "choose"] ++ lineS (n + 2) "yes" :: rowsS y (n + 4) ++ lineS (n + 2) "no" :: rowsS z (n + 4)) = T3 at *
    generalize L2S S (acc ++ [lineS n "choose"] ++ lineS (n + 2) "yes" :: rowsS y (n + 4)) = T2 at *
    generalize L2S S (acc ++ [lineS n "choose"]) = T1 at *
    generalize L2S S acc = T0 at *
    generalize sDs y = sy at *
    generalize sDs z = sz at *
    generalize lineS n "choose" = lc at *
    unfold roB rcB
    generalize rwB m = RB at *
    simp -implicitDefEqProofs [-appD_loc', -tyL_loc', e1, a1, t1, i_zip, ct, zp, zd, loopS_cons, loopS_nil, q1, q2]
  · have hn : ∀ b k, s = .nam b k → k.length ≤ 8 := fun b k e => by subst e; unfold Tk.Stm.ok at ho; exact ho.2.1
    obtain ⟨ds, sd, j1, _, _, w, aw, nw⟩ := jn_ok (s := s) (fun y z e => hch ⟨y, z, e⟩) hn (L2S S acc)
    have jl := jn_len s hn
    have e1 := fun S => indented_eq (n := n) h0 (by omega) (x := jn s) (by omega) S
    have a1 := ap_str S acc (lineS n (jn s)) (by omega)
    have t1 := ty_str S acc
    have er : rowS s n = [lineS n (jn s)] := by
      cases s with
      | one w => rfl
      | nam b k => rfl
      | ch y z => exact absurd ⟨y, z, rfl⟩ hch
    refine ⟨x4, x5, ?_⟩
    rw [er, sd]
    generalize L2S S (acc ++ [lineS n (jn s)]) = T1 at *
    generalize L2S S acc = T0 at *
    generalize lineS n (jn s) = lc at *
    generalize jn s = js at *
    unfold roB
    generalize rcB m = RB at *
    simp -implicitDefEqProofs [-appD_loc', -tyL_loc', -joinD_eq, aw, nw, j1, e1, a1, t1]
theorem ro_loop (hm : d < 2 → RoOk m (d + 1)) (hd : d ≤ 2) (h0 : 0 ≤ n) (h1 : n ≤ 4 * d + 4) (x0 : Option D) : ∀ (B : List Tk.Stm) (h : Int) (acc : List Str) (x3 x4 x5 : Option D), Tk.okAll d B h → Tk.cntAll B ≤ 8 → acc.length + 3 * Tk.cntAll B ≤ 100 →
    ∃ y3 y4 y5, loopS (g_name 3) (roB m) none (sDs B) [x0, some (.int n), some (.loc S.length), x3, x4, x5] (L2S S acc) = .next [x0, some (.int n), some (.loc S.length), y3, y4, y5] (L2S S (acc ++ rowsS B n))
  | [], h, acc, x3, x4, x5, ho, hc, ha => ⟨x3, x4, x5, by unfold rowsS sDs; rw [loopS_nil, List.append_nil]⟩
  | s :: r, h, acc, x3, x4, x5, ho, hc, ha => by
    unfold Tk.okAll at ho
    rw [Tk.cntAll] at hc ha
    obtain ⟨y4, y5, e1⟩ := ro_step (S := S) (acc := acc) hm ho.1 hd h0 h1 (by omega) (by omega) x0 x4 x5
    have rl := (row_len s d h n ho.1 hd h0 h1).1
    obtain ⟨z3, z4, z5, e2⟩ := ro_loop hm hd h0 h1 x0 r (s.held h) (acc ++ rowS s n) (some (sD s)) y4 y5 ho.2 (by omega) (by rw [List.length_append]; omega)
    refine ⟨z3, z4, z5, ?_⟩
    have er : acc ++ rowsS (s :: r) n = acc ++ rowS s n ++ rowsS r n := by
      rw [rowsS, List.append_assoc]
    have es : sDs (s :: r) = sD s :: sDs r := by rw [sDs]
    rw [er, ← e2, es]
    exact step_of (stay_none _ _) rfl e1
end
theorem mRO_s (k : Nat) : mRO (k + 1) = m_rows_of' (mRO k) := rfl
theorem mRO_ok : ∀ (k d : Nat), k + d = 2 → RoOk (mRO (k + 1)) d
  | k, d, hkd, S, B, h, n, ho, h0, h1, hc => by
    have hm : d < 2 → RoOk (mRO k) (d + 1) := fun q => by
      cases k with
      | zero => omega
      | succ k => exact mRO_ok k (d + 1) (by omega)
    obtain ⟨y3, y4, y5, e⟩ := ro_loop (S := S) (n := n) hm (by omega) h0 h1 (some (.tup (sDs B))) B h [] none none none ho hc (by simp; omega)
    rw [List.nil_append] at e
    have al := app_last S (.lst (sL (rowsS B n)))
    have er : m_rows_of' (mRO k) [.tup (sDs B), .int n] S = .ok (.loc S.length) (S ++ [.lst (sL (rowsS B n))]) := by
      have e0 : L2S S [] = S ++ [SO.lst []] := rfl
      rw [e0] at e
      simp only [m_rows_of', runDef, b_rows_eq]
      generalize roB (mRO k) = RB at *
      generalize sDs B = sb at *
      generalize hT : S ++ [SO.lst (sL (rowsS B n))] = T1 at *
      replace e : loopS (g_name 3) RB none sb [some (.tup sb), some (.int n), some (.loc S.length), none, none, none] (S ++ [SO.lst []]) = .next [some (.tup sb), some (.int n), some (.loc S.length), y3, y4, y5] T1 := by rw [← hT]; exact e
      simp -implicitDefEqProofs [e]
    rw [mRO_s, er, trunc_upd (Upd.refl S)]
    have lo : D.lo S.length (.loc S.length) = false := by simp [D.lo]
    have r2 := rsvs_pure (n := S.length) (S := S ++ [.lst (sL (rowsS B n))]) 11 (sL (rowsS B n)) (sL_lo _) (.inl (by have := sL_dp (rowsS B n); omega))
    unfold rsvD
    rw [lo]
    simp only [Bool.false_eq_true, if_false]
    unfold rsv
    rw [if_neg (Nat.lt_irrefl _), al]
    simp only [r2, Option.map_some]
    rfl
end Mm
set_option maxRecDepth 100000
namespace Mm
open PySem L2
/-! the law's rows -/
noncomputable def lcB (m : FM) : SM := (s_seq (s_ex (e_meth tyL appD (e_v 2) (a_cons (e_op addD (e_op mulSD (e_k (.str " ")) (e_v 1)) (e_k (.str "choose"))) a_nil)))
  (s_seq (s_ex (e_meth tyL appD (e_v 2) (a_cons (e_op addD (e_op mulSD (e_k (.str " ")) (e_v 1)) (e_k (.str "  yes"))) a_nil)))
  (s_seq (s_ex (e_meth tyL ext2D (e_v 2) (a_cons (e_fn trunc m (a_cons (e_op ixD (e_v 3) (e_k (.int 1))) (a_cons (e_op addD (e_v 1) (e_k (.int 4))) a_nil))) a_nil)))
  (s_seq (s_ex (e_meth tyL appD (e_v 2) (a_cons (e_op addD (e_op mulSD (e_k (.str " ")) (e_v 1)) (e_k (.str "  no"))) a_nil)))
  (s_ex (e_meth tyL ext2D (e_v 2) (a_cons (e_fn trunc m (a_cons (e_op ixD (e_v 3) (e_k (.int 2))) (a_cons (e_op addD (e_v 1) (e_k (.int 4))) a_nil))) a_nil)))))))
noncomputable def lrB (m : FM) : SM := (s_if (t_b (e_op (eqD false) (e_op ixD (e_v 3) (e_k (.int 0))) (e_k (.str "choose")))) (lcB m) (s_ex (e_meth tyL appD (e_v 2) (a_cons (e_op addD (e_op mulSD (e_k (.str " ")) (e_v 1)) (e_meth tyS joinD (e_k (.str " ")) (a_cons (e_call (f1 listD) (a_cons (e_v 3) a_nil)) a_nil))) a_nil))))
theorem b_lrows_eq (m : FM) : b__law_rows m = (s_seq (s_set 2 (e_new a_nil)) (s_seq (s_for (i_seq (e_v 0)) (g_name 3) (lrB m)) (s_ret (e_v 2)))) := rfl
section
variable {S : Sto} {acc : List Str} {n : Int} {d : Nat} {m : FM}
theorem lr_step (hm : d < 2 → RoOk m (d + 1)) {s : Tk.Stm} {h : Int} (ho : s.ok d h) (hd : d ≤ 2) (h0 : 0 ≤ n) (h1 : n ≤ 4 * d + 4) (hc : s.cnt ≤ 8) (ha : acc.length ≤ 600) (x0 : Option D) :
    lrB m [x0, some (.int n), some (.loc S.length), some (sD s)] (L2S S acc) = .next [x0, some (.int n), some (.loc S.length), some (sD s)] (L2S S (acc ++ rowS s n)) := by
  have mu := fun S => mul_ok h0 (by omega : n ≤ 100) S
  by_cases hch : ∃ y z, s = .ch y z
  · obtain ⟨y, z, rfl⟩ := hch
    unfold Tk.Stm.ok at ho
    obtain ⟨o1, o2, o3⟩ := ho
    rw [Tk.Stm.cnt] at hc
    have l1 : ("choose" : Str).length = 6 := by decide
    have l2 : ("  yes" : Str).length = 5 := by decide
    have l3 : ("  no" : Str).length = 4 := by decide
    have ad1 := fun S => add_ok (a := repS " " n) (b := "choose") (by rw [rep_len h0]; omega) S
    have ad2 := fun S => add_ok (a := repS " " n) (b := "  yes") (by rw [rep_len h0]; omega) S
    have ad3 := fun S => add_ok (a := repS " " n) (b := "  no") (by rw [rep_len h0]; omega) S
    have y1 : repS " " n ++ "  yes" = lineS (n + 2) "yes" := (rep_two h0 _ _ yes_list).symm
    have n1 : repS " " n ++ "  no" = lineS (n + 2) "no" := (rep_two h0 _ _ no_list).symm
    have c1 : repS " " n ++ "choose" = lineS n "choose" := rfl
    rw [c1] at ad1
    rw [y1] at ad2
    rw [n1] at ad3
    have ly := (rows_len y (d + 1) h (n + 4) o2 (by omega) (by omega) (by omega)).1
    have lz := (rows_len z (d + 1) h (n + 4) o3 (by omega) (by omega) (by omega)).1
    have er : acc ++ rowS (.ch y z) n = acc ++ [lineS n "choose"] ++ [lineS (n + 2) "yes"] ++ rowsS y (n + 4) ++ [lineS (n + 2) "no"] ++ rowsS z (n + 4) := by
      unfold rowS; simp
    have t0 := ty_str S acc
    have a0 := ap_str S acc (lineS n "choose") (by omega)
    have t1 := ty_str S (acc ++ [lineS n "choose"])
    have a1 := ap_str S (acc ++ [lineS n "choose"]) (lineS (n + 2) "yes") (by simp; omega)
    have t2 := ty_str S (acc ++ [lineS n "choose"] ++ [lineS (n + 2) "yes"])
    have r2 := hm o1 (L2S S (acc ++ [lineS n "choose"] ++ [lineS (n + 2) "yes"])) y h (n + 4) o2 (by omega) (by omega) (by omega)
    have a2 := ex_str S (acc ++ [lineS n "choose"] ++ [lineS (n + 2) "yes"]) (rowsS y (n + 4)) (by simp; omega)
    have t3 := ty_str S (acc ++ [lineS n "choose"] ++ [lineS (n + 2) "yes"] ++ rowsS y (n + 4))
    have a3 := ap_str S (acc ++ [lineS n "choose"] ++ [lineS (n + 2) "yes"] ++ rowsS y (n + 4)) (lineS (n + 2) "no") (by simp; omega)
    have t4 := ty_str S (acc ++ [lineS n "choose"] ++ [lineS (n + 2) "yes"] ++ rowsS y (n + 4) ++ [lineS (n + 2) "no"])
    have r4 := hm o1 (L2S S (acc ++ [lineS n "choose"] ++ [lineS (n + 2) "yes"] ++ rowsS y (n + 4) ++ [lineS (n + 2) "no"])) z h (n + 4) o3 (by omega) (by omega) (by omega)
    have a4 := ex_str S (acc ++ [lineS n "choose"] ++ [lineS (n + 2) "yes"] ++ rowsS y (n + 4) ++ [lineS (n + 2) "no"]) (rowsS z (n + 4)) (by simp; omega)
    rw [er]
    have sd : sD (.ch y z) = .tup [.str "choose", .tup (sDs y), .tup (sDs z)] := rfl
    rw [sd]
    clear er y1 n1 c1
    generalize L2S S (acc ++ [lineS n "choose"] ++ [lineS (n + 2) "yes"] ++ rowsS y (n + 4) ++ [lineS (n + 2) "no"] ++ rowsS z (n + 4)) = T5 at *
    generalize L2S S (acc ++ [lineS n "choose"] ++ [lineS (n + 2) "yes"] ++ rowsS y (n + 4) ++ [lineS (n + 2) "no"]) = T4 at *
    generalize L2S S (acc ++ [lineS n "choose"] ++ [lineS (n + 2) "yes"] ++ rowsS y (n + 4)) = T3 at *
    generalize L2S S (acc ++ [lineS n "choose"] ++ [lineS (n + 2) "yes"]) = T2 at *
    generalize L2S S (acc ++ [lineS n "choose"]) = T1 at *
    generalize L2S S acc = T0 at *
    generalize sDs y = sy at *
    generalize sDs z = sz at *
    generalize sL (rowsS y (n + 4)) = ry at *
    generalize sL (rowsS z (n + 4)) = rz at *
    generalize lineS n "choose" = lc at *
    generalize lineS (n + 2) "yes" = lyy at *
    generalize lineS (n + 2) "no" = lnn at *
    unfold lrB lcB
    simp -implicitDefEqProofs [-appD_loc', -tyL_loc', -ext2D_lst, -mulSD_eq, -addD_str, mu, ad1, ad2, ad3, t0, a0, t1, a1, t2, r2, a2, t3, a3, t4, r4, a4]
  · have hn : ∀ b k, s = .nam b k → k.length ≤ 8 := fun b k e => by subst e; unfold Tk.Stm.ok at ho; exact ho.2.1
    obtain ⟨ds, sd, _, j1, dl, w, aw, nw⟩ := jn_ok (s := s) (fun y z e => hch ⟨y, z, e⟩) hn (L2S S acc)
    have jl := jn_len s hn
    have ad1 := fun S => add_ok (a := repS " " n) (b := jn s) (by rw [rep_len h0]; omega) S
    have c1 : repS " " n ++ jn s = lineS n (jn s) := rfl
    rw [c1] at ad1
    have a1 := ap_str S acc (lineS n (jn s)) (by omega)
    have t1 := ty_str S acc
    have er : rowS s n = [lineS n (jn s)] := by
      cases s with
      | one w => rfl
      | nam b k => rfl
      | ch y z => exact absurd ⟨y, z, rfl⟩ hch
    have z1 : (ds.length ≤ sizeLine) = True := eq_true (by have := szb; omega)
    rw [er, sd]
    clear c1 er
    generalize L2S S (acc ++ [lineS n (jn s)]) = T1 at *
    generalize L2S S acc = T0 at *
    generalize lineS n (jn s) = lc at *
    generalize jn s = js at *
    unfold lrB
    generalize lcB m = RB at *
    simp -implicitDefEqProofs [-appD_loc', -tyL_loc', -joinD_eq, -mulSD_eq, -addD_str, mu, ad1, aw, nw, z1, j1, a1, t1]
theorem lr_loop (hm : d < 2 → RoOk m (d + 1)) (hd : d ≤ 2) (h0 : 0 ≤ n) (h1 : n ≤ 4 * d + 4) (x0 : Option D) : ∀ (B : List Tk.Stm) (h : Int) (acc : List Str) (x3 : Option D), Tk.okAll d B h → Tk.cntAll B ≤ 8 → acc.length + 3 * Tk.cntAll B ≤ 100 →
    ∃ y3, loopS (g_name 3) (lrB m) none (sDs B) [x0, some (.int n), some (.loc S.length), x3] (L2S S acc) = .next [x0, some (.int n), some (.loc S.length), y3] (L2S S (acc ++ rowsS B n))
  | [], h, acc, x3, ho, hc, ha => ⟨x3, by unfold rowsS sDs; rw [loopS_nil, List.append_nil]⟩
  | s :: r, h, acc, x3, ho, hc, ha => by
    unfold Tk.okAll at ho
    rw [Tk.cntAll] at hc ha
    have e1 := lr_step (S := S) (acc := acc) hm ho.1 hd h0 h1 (by omega) (by omega) x0
    have rl := (row_len s d h n ho.1 hd h0 h1).1
    obtain ⟨z3, e2⟩ := lr_loop hm hd h0 h1 x0 r (s.held h) (acc ++ rowS s n) (some (sD s)) ho.2 (by omega) (by rw [List.length_append]; omega)
    refine ⟨z3, ?_⟩
    have er : acc ++ rowsS (s :: r) n = acc ++ rowS s n ++ rowsS r n := by
      rw [rowsS, List.append_assoc]
    have es : sDs (s :: r) = sD s :: sDs r := by rw [sDs]
    rw [er, ← e2, es]
    exact step_of (stay_none _ _) rfl e1
end
theorem sL_tr (S : Sto) (xs : List Str) : trunc S (.ok (.loc S.length) (S ++ [.lst (sL xs)])) = .ok (.lst (sL xs)) S := by
  rw [trunc_upd (Upd.refl S)]
  have al := app_last S (.lst (sL xs))
  have lo : D.lo S.length (.loc S.length) = false := by simp [D.lo]
  have r2 := rsvs_pure (n := S.length) (S := S ++ [.lst (sL xs)]) 11 (sL xs) (sL_lo _) (.inl (by have := sL_dp xs; omega))
  unfold rsvD
  rw [lo]
  simp only [Bool.false_eq_true, if_false]
  unfold rsv
  rw [if_neg (Nat.lt_irrefl _), al]
  simp only [r2, Option.map_some]
  rfl
theorem mLR_s (k : Nat) : mLR (k + 1) = m__law_rows' (mLR k) := rfl
theorem mLR_ok : ∀ (k d : Nat), k + d = 2 → RoOk (mLR (k + 1)) d
  | k, d, hkd, S, B, h, n, ho, h0, h1, hc => by
    have hm : d < 2 → RoOk (mLR k) (d + 1) := fun q => by
      cases k with
      | zero => omega
      | succ k => exact mLR_ok k (d + 1) (by omega)
    obtain ⟨y3, e⟩ := lr_loop (S := S) (n := n) hm (by omega) h0 h1 (some (.tup (sDs B))) B h [] none ho hc (by simp; omega)
    rw [List.nil_append] at e
    have er : m__law_rows' (mLR k) [.tup (sDs B), .int n] S = .ok (.loc S.length) (S ++ [.lst (sL (rowsS B n))]) := by
      simp only [m__law_rows', runDef, b_lrows_eq]
      generalize lrB (mLR k) = RB at *
      generalize sDs B = sb at *
      generalize hT : S ++ [SO.lst (sL (rowsS B n))] = T1 at *
      replace e : loopS (g_name 3) RB none sb [some (.tup sb), some (.int n), some (.loc S.length), none] (S ++ [SO.lst []]) = .next [some (.tup sb), some (.int n), some (.loc S.length), y3] T1 := by rw [← hT]; exact e
      simp -implicitDefEqProofs [e]
    rw [mLR_s, er]
    exact sL_tr S _
end Mm
set_option maxRecDepth 100000
namespace Mm
open PySem L2
/-! the lines of a system -/
def nS (i : Int) : Str := Str.ofString (toString i)
theorem nS_len {i : Int} (h0 : 0 ≤ i) (h1 : i ≤ 8) : (nS i).length = 1 ∧ i.natAbs.log2 < 1920 := by
  have h : i = 0 ∨ i = 1 ∨ i = 2 ∨ i = 3 ∨ i = 4 ∨ i = 5 ∨ i = 6 ∨ i = 7 ∨ i = 8 := by omega
  rcases h with rfl | rfl | rfl | rfl | rfl | rfl | rfl | rfl | rfl <;> decide +kernel
def wS : Option Int → Str
  | none => "none"
  | some w => nS w
def headS (y : YA) : Str := "system ahead " ++ nS y.ah ++ " window " ++ wS y.wi ++ " crashes " ++ nS y.cr
def kindS (k : KA) : Str := "kind " ++ k.nm ++ " block " ++ nS k.bl ++ " many " ++ nS k.mn
def kindL (k : KA) : Str := "  kind " ++ k.nm ++ " block " ++ nS k.bl ++ " many " ++ nS k.mn
theorem kind_line (k : KA) : lineS 2 (kindS k) = kindL k := by
  have e : repS " " 2 ++ "kind " = "  kind " := by
    apply str_ext
    rw [app_list, rep_list (by decide)]
    decide +kernel
  unfold lineS kindS kindL
  rw [← e]
  simp only [Str.append_assoc]
theorem emp_app (x : Str) : Str.empty ++ x = x := by
  apply str_ext
  rw [app_list]
  rfl
def kinds (ks : List KA) : List Str := ks.flatMap fun k => kindL k :: rowsS k.sc 4
def linesS (y : YA) : List Str := headS y :: kinds y.ks
theorem wS_len {y : YA} (g : GoodY y) (h3 : ∀ v, y.wi = some v → 0 ≤ v) : (wS y.wi).length ≤ 4 := by
  cases h : y.wi with
  | none => decide
  | some w => have := nS_len (h3 w h) (g.wi w h).1; show (nS w).length ≤ 4; omega
theorem lits : ("system ahead " : Str).length = 13 ∧ (" window " : Str).length = 8 ∧ (" crashes " : Str).length = 9 ∧ ("kind " : Str).length = 5 ∧ ("  kind " : Str).length = 7 ∧ (" block " : Str).length = 7 ∧ (" many " : Str).length = 6 ∧ ("none" : Str).length = 4 ∧ ("\n" : Str).length = 1 := by decide
theorem wi0 {y : YA} (g : GoodY y) (hk : y.ks ≠ []) : ∀ v, y.wi = some v → 0 ≤ v := fun v hv => by
  cases h : y.ks with
  | nil => exact absurd h hk
  | cons k r =>
    have := (g.wi v hv).2 k (by rw [h]; simp)
    have := (g.ks k (by rw [h]; simp)).bl
    omega
theorem head_len {y : YA} (g : GoodY y) : (headS y).length ≤ 40 := by
  have a := (nS_len g.ah.1 (by have := g.ah; omega)).1
  have c := (nS_len g.cr.1 (by have := g.cr; omega)).1
  have w := wS_len g (wi0 g g.ne)
  obtain ⟨l1, l2, l3, _⟩ := lits
  unfold headS
  simp only [Tk.len_app]
  omega
theorem kind_len {k : KA} (g : GoodK k) : (kindL k).length ≤ 40 ∧ (kindS k).length ≤ 40 := by
  have a := (nS_len (i := k.bl) (by have := g.bl; omega) (by have := g.bl; omega)).1
  have c := (nS_len (i := (k.mn : Int)) (by omega) (by have := g.mn; omega)).1
  have w := g.nm.2.1
  obtain ⟨l1, l2, l3, l4, l5, l6, l7, _⟩ := lits
  unfold kindL kindS
  simp only [Tk.len_app]
  omega
theorem kinds_len : ∀ {ks : List KA}, (∀ k ∈ ks, GoodK k) → (kinds ks).length ≤ 25 * ks.length ∧ ∀ x ∈ kinds ks, x.length ≤ 60
  | [], g => ⟨Nat.zero_le _, fun x hx => by cases hx⟩
  | k :: r, g => by
    have gk := g k List.mem_cons_self
    obtain ⟨a1, a2⟩ := kinds_len (ks := r) fun k hk => g k (List.mem_cons_of_mem _ hk)
    obtain ⟨b1, b2⟩ := rows_len k.sc 0 0 4 gk.sc.ok (by decide) (by decide) (by decide)
    have c8 := gk.sc.cnt
    have e : kinds (k :: r) = kindL k :: rowsS k.sc 4 ++ kinds r := rfl
    rw [e]
    refine ⟨by simp only [List.length_cons, List.length_append, List.cons_append]; omega, fun x hx => ?_⟩
    rw [List.cons_append] at hx
    rcases List.mem_cons.mp hx with rfl | hx
    · have := (kind_len gk).1; omega
    · rcases List.mem_append.mp hx with hx | hx
      · exact b2 x hx
      · exact a2 x hx
/-- str(n) -/
theorem strI_ok {i : Int} (h0 : 0 ≤ i) (h1 : i ≤ 8) (S : Sto) : strID (.int i) S = .ok (.str (nS i)) S := by
  rw [strID_eq, R.if_pos (nS_len h0 h1).2]; rfl
theorem fmtI_ok {i : Int} (h0 : 0 ≤ i) (h1 : i ≤ 8) (S : Sto) : fmtD (.int i) S = .ok (.str (nS i)) S := by
  rw [fmtD_int, R.if_pos (nS_len h0 h1).2]; rfl
theorem fmtS_ok {x : Str} (h : x.length ≤ 1000) (S : Sto) : fmtD (.str x) S = .ok (.str x) S := by
  rw [fmtD_str, R.if_pos (by have := szb; omega)]
/-- an f-string of texts -/
theorem js_ok {env : Env} {S : Sto} : ∀ (ms : List EM) (xs : List Str) (acc : Str), ms.length = xs.length → (∀ (i : Nat) (m : EM) (x : Str), ms[i]? = some m → xs[i]? = some x → m env S = .ok (.str x) S) → acc.length + (xs.map (·.length)).sum ≤ 1000 → e_js ms acc env S = .ok (.str (xs.foldl (· ++ ·) acc)) S
  | [], [], acc, hl, h, hs => rfl
  | [], _ :: _, acc, hl, h, hs => by simp at hl
  | _ :: _, [], acc, hl, h, hs => by simp at hl
  | m :: ms, x :: xs, acc, hl, h, hs => by
    have h0 := h 0 m x rfl rfl
    simp only [List.map_cons, List.sum_cons] at hs
    have la := Tk.len_app acc x
    rw [e_js_cons, h0, R.bind_ok]
    dsimp only
    rw [R.if_pos (by rw [la]; have := szb; omega)]
    exact js_ok ms xs (acc ++ x) (by simpa using hl) (fun i m x a b => h (i + 1) m x (by simpa using a) (by simpa using b)) (by rw [la]; omega)
open Classical in
theorem lcM_consG (g : GM) (t : TM) (m : EM) (env : Env) (so : Option (Nat × List D)) (d : D) (r acc : List D) (S : Sto) (h : Stay S ([], so)) : lcM g t m env so (d :: r) acc S = match g d env with
    | none => .bad
    | some env1 => (t env1 S).nox.bind fun k S1 => if k = true then (m env1 S1).nox.bind fun y S2 => .if (acc.length < sizeLine) (lcM g t m env so r (acc ++ [y]) S2) else lcM g t m env so r acc S1 := by
  conv => lhs; unfold lcM
  rw [R.if_pos h] <;> (cases g d env <;> rfl)
open Classical in
theorem lcM_nilG (g : GM) (t : TM) (m : EM) (env : Env) (so : Option (Nat × List D)) (acc : List D) (S : Sto) (h : Stay S ([], so)) : lcM g t m env so [] acc S = .ok acc S := by
  unfold lcM
  rw [R.if_pos h]
def nl (x : Str) : Str := x ++ "\n"
theorem lc_nl {S : Sto} {so : Option (Nat × List D)} (h : Stay S ([], so)) {env : Env} (he : 4 < env.length) : ∀ (xs acc : List Str), acc.length + xs.length ≤ 900 → (∀ x ∈ xs, x.length ≤ 60) → lcM (g_name 4) t_yes (e_op addD (e_v 4) (e_k (.str "\n"))) env so (sL xs) (sL acc) S = .ok (sL (acc ++ xs.map nl)) S
  | [], acc, hn, hx => by rw [show sL [] = [] from rfl, lcM_nilG (h := h)]; simp
  | x :: r, acc, hn, hx => by
    have ih := lc_nl h he r (acc ++ [nl x]) (by simp at hn ⊢; omega) (fun z hz => hx z (List.mem_cons_of_mem _ hz))
    have e1 : sL (x :: r) = .str x :: sL r := rfl
    have hl := hx x List.mem_cons_self
    have ad : ∀ S, addD (.str x) (.str "\n") S = .ok (.str (nl x)) S := fun S => add_ok (by rw [lits.2.2.2.2.2.2.2.2]; omega) S
    have g4 : (env.set 4 (some (.str x)))[4]? = some (some (.str x)) := List.getElem?_set_self he
    have z1 : ((sL acc).length < sizeLine) = True := eq_true (by rw [List.length_map]; have := szb; simp at hn; omega)
    have ea : sL acc ++ [.str (nl x)] = sL (acc ++ [nl x]) := by simp [sL]
    have eb : acc ++ (x :: r).map nl = acc ++ [nl x] ++ r.map nl := by simp
    rw [e1, lcM_consG (h := h), eb, ← ih]
    rw [← ea]
    generalize sL acc = sa at *
    generalize sL r = sr at *
    generalize nl x = nx at *
    have hg : g_name 4 (.str x) env = some (env.set 4 (some (.str x))) := rfl
    simp -implicitDefEqProofs [-addD_str, g4, ad, z1]
end Mm
set_option maxRecDepth 100000
namespace Mm
open PySem L2
/-! the program's text -/
noncomputable def wkB : SM := (s_seq (s_ex (e_meth tyL appD (e_v 2) (a_cons (e_fn tr0 m_indented (a_cons (e_k (.int 2)) (a_cons (e_js [(e_k (.str "kind ")), (e_fmt (e_fld [(4, 0)] (e_v 3))), (e_k (.str " block ")), (e_fmt (e_fld [(4, 2)] (e_v 3))), (e_k (.str " many ")), (e_fmt (e_fld [(4, 3)] (e_v 3)))] Str.empty) a_nil))) a_nil)))
  (s_ex (e_meth tyL ext2D (e_v 2) (a_cons (e_fn trunc m_rows_of (a_cons (e_fld [(1, 0)] (e_fld [(4, 1)] (e_v 3))) (a_cons (e_k (.int 4)) a_nil))) a_nil))))
noncomputable def nlE (i : Nat) : EM := (e_lcG [4] (i_seq (e_v i)) (g_name 4) t_yes (e_op addD (e_v 4) (e_k (.str "\n"))) finL)
noncomputable def hdE : EM := (e_js [(e_k (.str "system ahead ")), (e_fmt (e_fld [(5, 1)] (e_v 0))), (e_k (.str " window ")), (e_fmt (e_v 1)), (e_k (.str " crashes ")), (e_fmt (e_fld [(5, 3)] (e_v 0)))] Str.empty)
theorem b_write_eq : b_write_system = (s_seq (s_set 1 (e_if (t_b (e_op (isD false) (e_fld [(5, 2)] (e_v 0)) (e_k .non))) (e_k (.str "none")) (e_fld [(5, 2)] (e_v 0))))
  (s_seq (s_set 2 (e_new (a_cons hdE a_nil)))
  (s_seq (s_for (i_seq (e_fld [(5, 0)] (e_v 0))) (g_name 3) wkB)
  (s_ret (e_meth tyS joinD (e_k (.str "")) (a_cons (nlE 2) a_nil)))))) := rfl
theorem fld_scr (B : List Tk.Stm) (S : Sto) : fldD [(1, 0)] (scrD B) S = some (.tup (sDs B)) := rfl
theorem wk_step {k : KA} (g : GoodK k) {S : Sto} {acc : List Str} (ha : acc.length ≤ 600) (x0 x1 x4 : Option D) :
    wkB [x0, x1, some (.loc S.length), some (kinD k), x4] (L2S S acc) = .next [x0, x1, some (.loc S.length), some (kinD k), x4] (L2S S (acc ++ kindL k :: rowsS k.sc 4)) := by
  have js : ∀ S', e_js [(e_k (.str "kind ")), (e_fmt (e_fld [(4, 0)] (e_v 3))), (e_k (.str " block ")), (e_fmt (e_fld [(4, 2)] (e_v 3))), (e_k (.str " many ")), (e_fmt (e_fld [(4, 3)] (e_v 3)))] Str.empty [x0, x1, some (.loc S.length), some (kinD k), x4] S' = .ok (.str (kindS k)) S' := fun S' => by
    have f1 := fmtS_ok (x := k.nm) (by have := g.nm.2.1; omega) S'
    have f2 := fmtI_ok (i := k.bl) (by have := g.bl; omega) (by have := g.bl; omega) S'
    have f3 := fmtI_ok (i := (k.mn : Int)) (by omega) (by have := g.mn; omega) S'
    have k1 := k_name S' k
    have k2 := k_block S' k
    have k3 := k_many S' k
    have n1 := (nS_len (i := k.bl) (by have := g.bl; omega) (by have := g.bl; omega)).1
    have n2 := (nS_len (i := (k.mn : Int)) (by omega) (by have := g.mn; omega)).1
    have w := g.nm.2.1
    obtain ⟨l1, l2, l3, l4, l5, l6, l7, _⟩ := lits
    have e := js_ok (env := [x0, x1, some (.loc S.length), some (kinD k), x4]) (S := S') [(e_k (.str "kind ")), (e_fmt (e_fld [(4, 0)] (e_v 3))), (e_k (.str " block ")), (e_fmt (e_fld [(4, 2)] (e_v 3))), (e_k (.str " many ")), (e_fmt (e_fld [(4, 3)] (e_v 3)))] ["kind ", k.nm, " block ", nS k.bl, " many ", nS k.mn] Str.empty rfl (fun i m x hm hx => by
      match i, hm, hx with
      | 0, hm, hx => cases hm; cases hx; simp
      | 1, hm, hx => cases hm; cases hx; generalize kinD k = kd at *; simp -implicitDefEqProofs [-fmtD_str, -fmtD_int, k1, f1]
      | 2, hm, hx => cases hm; cases hx; simp
      | 3, hm, hx => cases hm; cases hx; generalize kinD k = kd at *; simp -implicitDefEqProofs [-fmtD_str, -fmtD_int, k2, f2]
      | 4, hm, hx => cases hm; cases hx; simp
      | 5, hm, hx => cases hm; cases hx; generalize kinD k = kd at *; simp -implicitDefEqProofs [-fmtD_str, -fmtD_int, k3, f3]) (by
        simp only [List.map_cons, List.map_nil, List.sum_cons, List.sum_nil]
        have : Str.empty.length = 0 := rfl
        omega)
    rw [e]
    simp only [List.foldl_cons, List.foldl_nil, emp_app]
    rfl
  have ki := (kind_len g).2
  have i1 := fun S => indented_eq (n := 2) (by decide) (by decide) (x := kindS k) (by omega) S
  rw [kind_line] at i1
  have a1 := ap_str S acc (kindL k) (by omega)
  have t0 := ty_str S acc
  have t1 := ty_str S (acc ++ [kindL k])
  have fl := fun S => k_script S k
  have fs := fun S => fld_scr k.sc S
  have em : m_rows_of = mRO 3 := rfl
  have r1 := mRO_ok 2 0 rfl (L2S S (acc ++ [kindL k])) k.sc 0 4 g.sc.ok (by decide) (by decide) g.sc.cnt
  rw [← em] at r1
  have rl := (rows_len k.sc 0 0 4 g.sc.ok (by decide) (by decide) (by decide)).1
  have c8 := g.sc.cnt
  have a2 := ex_str S (acc ++ [kindL k]) (rowsS k.sc 4) (by simp; omega)
  rw [show acc ++ kindL k :: rowsS k.sc 4 = acc ++ [kindL k] ++ rowsS k.sc 4 by simp]
  have js0 := js (L2S S acc)
  clear js
  generalize L2S S (acc ++ [kindL k] ++ rowsS k.sc 4) = T2 at *
  generalize L2S S (acc ++ [kindL k]) = T1 at *
  generalize L2S S acc = T0 at *
  generalize sL (rowsS k.sc 4) = rr at *
  generalize sDs k.sc = sb at *
  generalize scrD k.sc = sc at *
  generalize kinD k = kd at *
  generalize kindL k = kl at *
  generalize kindS k = ks at *
  unfold wkB
  generalize e_js [(e_k (.str "kind ")), (e_fmt (e_fld [(4, 0)] (e_v 3))), (e_k (.str " block ")), (e_fmt (e_fld [(4, 2)] (e_v 3))), (e_k (.str " many ")), (e_fmt (e_fld [(4, 3)] (e_v 3)))] Str.empty = je at *
  simp -implicitDefEqProofs [-appD_loc', -tyL_loc', -ext2D_lst, js0, i1, a1, t0, t1, fl, fs, r1, a2]
theorem wk_loop {S : Sto} (x0 x1 x4 : Option D) : ∀ (l : List KA) (acc : List Str) (x3 : Option D), (∀ k ∈ l, GoodK k) → acc.length + 25 * l.length ≤ 600 →
    ∃ y3, loopS (g_name 3) wkB none (l.map kinD) [x0, x1, some (.loc S.length), x3, x4] (L2S S acc) = .next [x0, x1, some (.loc S.length), y3, x4] (L2S S (acc ++ kinds l))
  | [], acc, x3, hg, hn => ⟨x3, by rw [List.map_nil, loopS_nil, show kinds [] = [] from rfl, List.append_nil]⟩
  | k :: r, acc, x3, hg, hn => by
    have gk := hg k List.mem_cons_self
    have hl : (k :: r).length = r.length + 1 := rfl
    have e1 := wk_step gk (S := S) (acc := acc) (by omega) x0 x1 x4
    have rl := (rows_len k.sc 0 0 4 gk.sc.ok (by decide) (by decide) (by decide)).1
    have c8 := gk.sc.cnt
    obtain ⟨y3, e2⟩ := wk_loop x0 x1 x4 r (acc ++ kindL k :: rowsS k.sc 4) (some (kinD k)) (fun k' h => hg k' (List.mem_cons_of_mem _ h)) (by rw [List.length_append, List.length_cons]; omega)
    refine ⟨y3, ?_⟩
    have ek : acc ++ kinds (k :: r) = acc ++ kindL k :: rowsS k.sc 4 ++ kinds r := by
      have : kinds (k :: r) = kindL k :: rowsS k.sc 4 ++ kinds r := rfl
      rw [this, List.append_assoc]
    rw [ek, ← e2, List.map_cons]
    exact step_of (stay_none _ _) rfl e1
/-- the text -/
def textS (y : YA) : Str := Txt.join "" ((linesS y).map nl)
theorem sum_le : ∀ {xs : List Str} {c : Nat}, (∀ x ∈ xs, x.length ≤ c) → (xs.map (·.length)).sum ≤ c * xs.length
  | [], c, h => by simp
  | x :: r, c, h => by
    have := sum_le (xs := r) (c := c) fun z hz => h z (List.mem_cons_of_mem _ hz)
    have := h x List.mem_cons_self
    rw [List.map_cons, List.sum_cons, List.length_cons, Nat.mul_succ]
    omega
theorem lines_len {y : YA} (g : GoodY y) (h3 : y.ks.length ≤ 3) : (linesS y).length ≤ 100 ∧ ∀ x ∈ linesS y, x.length ≤ 60 := by
  obtain ⟨a, b⟩ := kinds_len g.ks
  unfold linesS
  refine ⟨by rw [List.length_cons]; omega, fun x hx => ?_⟩
  rcases List.mem_cons.mp hx with rfl | hx
  · have := head_len g; omega
  · exact b x hx
theorem join_lines {y : YA} (g : GoodY y) (h3 : y.ks.length ≤ 3) (S : Sto) : joinD (.str "") [.lst (sL ((linesS y).map nl))] S = .ok (.str (textS y)) S := by
  obtain ⟨a, b⟩ := lines_len g h3
  have tx : ∀ xs : List Str, txsO (sL xs) = some xs := fun xs => by
    induction xs with
    | nil => rfl
    | cons x r ih =>
      show (txsO (sL r)).map (x :: ·) = _
      rw [ih]; rfl
  have s := sum_le (xs := (linesS y).map nl) (c := 61) fun x hx => by
    obtain ⟨z, hz, rfl⟩ := List.mem_map.mp hx
    have := b z hz
    unfold nl
    rw [Tk.len_app, lits.2.2.2.2.2.2.2.2]
    omega
  rw [List.length_map] at s
  have l0 : ("" : Str).length = 0 := rfl
  rw [joinD_eq, show seqOf S (.lst (sL ((linesS y).map nl))) = some (sL ((linesS y).map nl)) from rfl, Option.bind_some, tx, Option.bind_some, if_pos]
  · rfl
  · rw [l0, Nat.mul_zero]; omega
theorem write_eq {y : YA} (g : GoodY y) (h3 : y.ks.length ≤ 3) (S : Sto) : trunc S (m_write_system [sysD y] S) = .ok (.str (textS y)) S := by
  have wv := wi0 g g.ne
  obtain ⟨wd, hwd, fw⟩ : ∃ wd : D, (∀ S, (e_if (t_b (e_op (isD false) (e_fld [(5, 2)] (e_v 0)) (e_k .non))) (e_k (.str "none")) (e_fld [(5, 2)] (e_v 0))) [some (sysD y), none, none, none, none] S = .ok wd S) ∧ ∀ S, fmtD wd S = .ok (.str (wS y.wi)) S := by
    have yw := fun S => y_window y S
    cases h : y.wi with
    | none =>
      rw [h] at yw
      refine ⟨.str "none", fun S => ?_, fun S => fmtS_ok (by decide) S⟩
      generalize sysD y = sy at *
      simp -implicitDefEqProofs [yw]
    | some v =>
      rw [h] at yw
      refine ⟨.int v, fun S => ?_, fun S => fmtI_ok (wv v h) (g.wi v h).1 S⟩
      generalize sysD y = sy at *
      simp -implicitDefEqProofs [yw]
  have hd : ∀ S', hdE [some (sysD y), some wd, none, none, none] S' = .ok (.str (headS y)) S' := fun S' => by
    have f1 := fmtI_ok (i := y.ah) g.ah.1 (by have := g.ah; omega) S'
    have f3 := fmtI_ok (i := y.cr) g.cr.1 (by have := g.cr; omega) S'
    have f2 := fw S'
    have k1 := y_ahead y S'
    have k3 := y_crashes3 y S'
    have n1 := (nS_len (i := y.ah) g.ah.1 (by have := g.ah; omega)).1
    have n2 := (nS_len (i := y.cr) g.cr.1 (by have := g.cr; omega)).1
    have w := wS_len g wv
    obtain ⟨l1, l2, l3, _⟩ := lits
    unfold hdE
    have e := js_ok (env := [some (sysD y), some wd, none, none, none]) (S := S') [(e_k (.str "system ahead ")), (e_fmt (e_fld [(5, 1)] (e_v 0))), (e_k (.str " window ")), (e_fmt (e_v 1)), (e_k (.str " crashes ")), (e_fmt (e_fld [(5, 3)] (e_v 0)))] ["system ahead ", nS y.ah, " window ", wS y.wi, " crashes ", nS y.cr] Str.empty rfl (fun i m x hm hx => by
      match i, hm, hx with
      | 0, hm, hx => cases hm; cases hx; simp
      | 1, hm, hx => cases hm; cases hx; generalize sysD y = kd at *; simp -implicitDefEqProofs [-fmtD_str, -fmtD_int, k1, f1]
      | 2, hm, hx => cases hm; cases hx; simp
      | 3, hm, hx => cases hm; cases hx; generalize sysD y = kd at *; simp -implicitDefEqProofs [-fmtD_str, -fmtD_int, f2]
      | 4, hm, hx => cases hm; cases hx; simp
      | 5, hm, hx => cases hm; cases hx; generalize sysD y = kd at *; simp -implicitDefEqProofs [-fmtD_str, -fmtD_int, k3, f3]) (by
        simp only [List.map_cons, List.map_nil, List.sum_cons, List.sum_nil]
        have : Str.empty.length = 0 := rfl
        omega)
    rw [e]
    simp only [List.foldl_cons, List.foldl_nil, emp_app]
    rfl
  obtain ⟨y3, e⟩ := wk_loop (S := S) (some (sysD y)) (some wd) none y.ks [headS y] none g.ks (by simp; omega)
  obtain ⟨la, lb⟩ := lines_len g h3
  have el : [headS y] ++ kinds y.ks = linesS y := rfl
  rw [el] at e
  have al := app_last S (.lst (sL (linesS y)))
  have nle : nlE 2 [some (sysD y), some wd, some (.loc S.length), y3, none] (S ++ [.lst (sL (linesS y))]) = .ok (.lst (sL ((linesS y).map nl))) (S ++ [.lst (sL (linesS y))]) := by
    have hi : itsOf (S ++ [.lst (sL (linesS y))]) (.loc S.length) = some (sL (linesS y), some (S.length, sL (linesS y))) := by unfold itsOf; simp only [al]
    have lc := lc_nl (stay_some al) (env := [some (sysD y), some wd, some (.loc S.length), y3, none]) (by simp) (linesS y) [] (by simp; omega) lb
    rw [List.nil_append, show sL [] = [] from rfl] at lc
    generalize S ++ [SO.lst (sL (linesS y))] = T1 at *
    generalize sL ((linesS y).map nl) = ll at *
    generalize sL (linesS y) = l0 at *
    generalize sysD y = sy at *
    unfold nlE
    simp -implicitDefEqProofs [hi, wipeE, lc]
  have jl := fun S => join_lines g h3 S
  have yk := fun S => y_kinds y S
  have em : m_write_system [sysD y] S = .ok (.str (textS y)) (S ++ [.lst (sL (linesS y))]) := by
    replace e : loopS (g_name 3) wkB none (y.ks.map kinD) [some (sysD y), some wd, some (.loc S.length), none, none] (S ++ [SO.lst [.str (headS y)]]) = .next [some (sysD y), some wd, some (.loc S.length), y3, none] (S ++ [.lst (sL (linesS y))]) := e
    simp only [m_write_system, runDef, b_write_eq]
    generalize (S ++ [SO.lst (sL (linesS y))]) = T1 at *
    generalize sL ((linesS y).map nl) = ll at *
    generalize y.ks.map kinD = kk at *
    generalize sysD y = sy at *
    generalize wkB = wb at *
    generalize nlE 2 = ne at *
    generalize hdE = he at *
    generalize (e_if (t_b (e_op (isD false) (e_fld [(5, 2)] (e_v 0)) (e_k .non))) (e_k (.str "none")) (e_fld [(5, 2)] (e_v 0))) = ie at *
    simp -implicitDefEqProofs [-joinD_eq, hwd, hd, yk, e, nle, jl]
  rw [em, trunc_upd (Upd.refl S)]
  rfl
end Mm
set_option maxRecDepth 100000
namespace Mm
open PySem L2
/-! the law's lines -/
noncomputable def lkB : SM := (s_seq (s_set 2 (e_op addD (e_op addD (e_op addD (e_k (.str "  kind ")) (e_op ixD (e_v 4) (e_k (.int 0)))) (e_k (.str " block "))) (e_call (f1 strID) (a_cons (e_op ixD (e_v 4) (e_k (.int 2))) a_nil))))
  (s_seq (s_ex (e_meth tyL appD (e_v 3) (a_cons (e_op addD (e_op addD (e_v 2) (e_k (.str " many "))) (e_call (f1 strID) (a_cons (e_op ixD (e_v 4) (e_k (.int 3))) a_nil))) a_nil)))
  (s_ex (e_meth tyL ext2D (e_v 3) (a_cons (e_fn trunc m__law_rows (a_cons (e_op ixD (e_v 4) (e_k (.int 1))) (a_cons (e_k (.int 4)) a_nil))) a_nil)))))
theorem b_lines_eq : b__law_lines = (s_seq (s_set 1 (e_k (.str "none")))
  (s_seq (s_if (t_b (e_op (isD true) (e_op ixD (e_v 0) (e_k (.int 2))) (e_k .non))) (s_set 1 (e_call (f1 strID) (a_cons (e_op ixD (e_v 0) (e_k (.int 2))) a_nil))) s_nil)
  (s_seq (s_set 2 (e_op addD (e_op addD (e_op addD (e_k (.str "system ahead ")) (e_call (f1 strID) (a_cons (e_op ixD (e_v 0) (e_k (.int 1))) a_nil))) (e_k (.str " window "))) (e_v 1)))
  (s_seq (s_set 3 (e_new (a_cons (e_op addD (e_op addD (e_v 2) (e_k (.str " crashes "))) (e_call (f1 strID) (a_cons (e_op ixD (e_v 0) (e_k (.int 3))) a_nil))) a_nil)))
  (s_seq (s_for (i_seq (e_op ixD (e_v 0) (e_k (.int 0)))) (g_name 4) lkB)
  (s_ret (e_v 3))))))) := rfl
theorem lk_step {k : KA} (g : GoodK k) {S : Sto} {acc : List Str} (ha : acc.length ≤ 600) (x0 x1 x2 : Option D) :
    ∃ y2, lkB [x0, x1, x2, some (.loc S.length), some (rowD k)] (L2S S acc) = .next [x0, x1, y2, some (.loc S.length), some (rowD k)] (L2S S (acc ++ kindL k :: rowsS k.sc 4)) := by
  have n1 := (nS_len (i := k.bl) (by have := g.bl; omega) (by have := g.bl; omega)).1
  have n2 := (nS_len (i := (k.mn : Int)) (by omega) (by have := g.mn; omega)).1
  have w := g.nm.2.1
  obtain ⟨l1, l2, l3, l4, l5, l6, l7, _⟩ := lits
  have s1 := fun S => strI_ok (i := k.bl) (by have := g.bl; omega) (by have := g.bl; omega) S
  have s2 := fun S => strI_ok (i := (k.mn : Int)) (by omega) (by have := g.mn; omega) S
  have d1 := fun S => add_ok (a := "  kind ") (b := k.nm) (by omega) S
  have d2 := fun S => add_ok (a := "  kind " ++ k.nm) (b := " block ") (by rw [Tk.len_app]; omega) S
  have d3 := fun S => add_ok (a := "  kind " ++ k.nm ++ " block ") (b := nS k.bl) (by rw [Tk.len_app, Tk.len_app]; omega) S
  have d4 := fun S => add_ok (a := "  kind " ++ k.nm ++ " block " ++ nS k.bl) (b := " many ") (by rw [Tk.len_app, Tk.len_app, Tk.len_app]; omega) S
  have d5 := fun S => add_ok (a := "  kind " ++ k.nm ++ " block " ++ nS k.bl ++ " many ") (b := nS k.mn) (by rw [Tk.len_app, Tk.len_app, Tk.len_app, Tk.len_app]; omega) S
  have ek : "  kind " ++ k.nm ++ " block " ++ nS k.bl ++ " many " ++ nS k.mn = kindL k := rfl
  rw [ek] at d5
  have a1 := ap_str S acc (kindL k) (by omega)
  have t0 := ty_str S acc
  have t1 := ty_str S (acc ++ [kindL k])
  have r0 := row_0 k
  have r1' := row_1 k
  have r2 := row_2 k
  have r3 := row_3 k
  have em : m__law_rows = mLR 3 := rfl
  have r1 := mLR_ok 2 0 rfl (L2S S (acc ++ [kindL k])) k.sc 0 4 g.sc.ok (by decide) (by decide) g.sc.cnt
  rw [← em] at r1
  have rl := (rows_len k.sc 0 0 4 g.sc.ok (by decide) (by decide) (by decide)).1
  have c8 := g.sc.cnt
  have a2 := ex_str S (acc ++ [kindL k]) (rowsS k.sc 4) (by simp; omega)
  rw [show acc ++ kindL k :: rowsS k.sc 4 = acc ++ [kindL k] ++ rowsS k.sc 4 by simp]
  refine ⟨some (.str ("  kind " ++ k.nm ++ " block " ++ nS k.bl)), ?_⟩
  clear ek
  generalize L2S S (acc ++ [kindL k] ++ rowsS k.sc 4) = T2 at *
  generalize L2S S (acc ++ [kindL k]) = T1 at *
  generalize L2S S acc = T0 at *
  generalize sL (rowsS k.sc 4) = rr at *
  generalize sDs k.sc = sb at *
  generalize rowD k = kd at *
  generalize kindL k = kl at *
  generalize "  kind " ++ k.nm ++ " block " ++ nS k.bl ++ " many " = u5 at *
  generalize "  kind " ++ k.nm ++ " block " ++ nS k.bl = u4 at *
  generalize "  kind " ++ k.nm ++ " block " = u3 at *
  generalize "  kind " ++ k.nm = u2 at *
  generalize nS k.bl = nb at *
  generalize nS k.mn = nm at *
  unfold lkB
  simp -implicitDefEqProofs [-appD_loc', -tyL_loc', -ext2D_lst, -addD_str, -strID_eq, r0, r1', r2, r3, s1, s2, d1, d2, d3, d4, d5, a1, t0, t1, r1, a2]
theorem lk_loop {S : Sto} (x0 x1 : Option D) : ∀ (l : List KA) (acc : List Str) (x2 x4 : Option D), (∀ k ∈ l, GoodK k) → acc.length + 25 * l.length ≤ 600 →
    ∃ y2 y4, loopS (g_name 4) lkB none (l.map rowD) [x0, x1, x2, some (.loc S.length), x4] (L2S S acc) = .next [x0, x1, y2, some (.loc S.length), y4] (L2S S (acc ++ kinds l))
  | [], acc, x2, x4, hg, hn => ⟨x2, x4, by rw [List.map_nil, loopS_nil, show kinds [] = [] from rfl, List.append_nil]⟩
  | k :: r, acc, x2, x4, hg, hn => by
    have gk := hg k List.mem_cons_self
    have hl : (k :: r).length = r.length + 1 := rfl
    obtain ⟨y2, e1⟩ := lk_step gk (S := S) (acc := acc) (by omega) x0 x1 x2
    have rl := (rows_len k.sc 0 0 4 gk.sc.ok (by decide) (by decide) (by decide)).1
    have c8 := gk.sc.cnt
    obtain ⟨z2, z4, e2⟩ := lk_loop x0 x1 r (acc ++ kindL k :: rowsS k.sc 4) y2 (some (rowD k)) (fun k' h => hg k' (List.mem_cons_of_mem _ h)) (by rw [List.length_append, List.length_cons]; omega)
    refine ⟨z2, z4, ?_⟩
    have ek : acc ++ kinds (k :: r) = acc ++ kindL k :: rowsS k.sc 4 ++ kinds r := by
      have : kinds (k :: r) = kindL k :: rowsS k.sc 4 ++ kinds r := rfl
      rw [this, List.append_assoc]
    rw [ek, ← e2, List.map_cons]
    exact step_of (stay_none _ _) rfl e1
theorem lines_eq {y : YA} (g : GoodY y) (h3 : y.ks.length ≤ 3) (S : Sto) : trunc S (m__law_lines [planT y] S) = .ok (.lst (sL (linesS y))) S := by
  have wv := wi0 g g.ne
  have n1 := (nS_len (i := y.ah) g.ah.1 (by have := g.ah; omega)).1
  have n2 := (nS_len (i := y.cr) g.cr.1 (by have := g.cr; omega)).1
  have w := wS_len g wv
  obtain ⟨l1, l2, l3, _⟩ := lits
  have s1 := fun S => strI_ok (i := y.ah) g.ah.1 (by have := g.ah; omega) S
  have s2 := fun S => strI_ok (i := y.cr) g.cr.1 (by have := g.cr; omega) S
  have d1 := fun S => add_ok (a := "system ahead ") (b := nS y.ah) (by omega) S
  have d2 := fun S => add_ok (a := "system ahead " ++ nS y.ah) (b := " window ") (by rw [Tk.len_app]; omega) S
  have d3 := fun S => add_ok (a := "system ahead " ++ nS y.ah ++ " window ") (b := wS y.wi) (by rw [Tk.len_app, Tk.len_app]; omega) S
  have d4 := fun S => add_ok (a := "system ahead " ++ nS y.ah ++ " window " ++ wS y.wi) (b := " crashes ") (by rw [Tk.len_app, Tk.len_app, Tk.len_app]; omega) S
  have d5 := fun S => add_ok (a := "system ahead " ++ nS y.ah ++ " window " ++ wS y.wi ++ " crashes ") (b := nS y.cr) (by rw [Tk.len_app, Tk.len_app, Tk.len_app, Tk.len_app]; omega) S
  have ek : "system ahead " ++ nS y.ah ++ " window " ++ wS y.wi ++ " crashes " ++ nS y.cr = headS y := rfl
  rw [ek] at d5
  have p0 := planT_0 y
  have p1 := planT_1 y
  have p2 := planT_2 y
  have p3 := planT_3 y
  obtain ⟨y2, y4, e⟩ := lk_loop (S := S) (some (planT y)) (some (.str (wS y.wi))) y.ks [headS y] (some (.str ("system ahead " ++ nS y.ah ++ " window " ++ wS y.wi))) none g.ks (by simp; omega)
  have el : [headS y] ++ kinds y.ks = linesS y := rfl
  rw [el] at e
  replace e : loopS (g_name 4) lkB none (y.ks.map rowD) [some (planT y), some (.str (wS y.wi)), some (.str ("system ahead " ++ nS y.ah ++ " window " ++ wS y.wi)), some (.loc S.length), none] (S ++ [SO.lst [.str (headS y)]]) = .next [some (planT y), some (.str (wS y.wi)), y2, some (.loc S.length), y4] (S ++ [.lst (sL (linesS y))]) := e
  have em : m__law_lines [planT y] S = .ok (.loc S.length) (S ++ [.lst (sL (linesS y))]) := by
    clear ek el
    simp only [m__law_lines, runDef, b_lines_eq]
    cases h : y.wi with
    | none =>
      rw [h] at p2 d3 d4 d5 e
      have ew : wS none = "none" := rfl
      rw [ew] at d3 d4 d5 e
      generalize (S ++ [SO.lst (sL (linesS y))]) = T1 at *
      generalize y.ks.map rowD = kk at *
      generalize planT y = sy at *
      generalize headS y = hy at *
      generalize "system ahead " ++ nS y.ah ++ " window " ++ "none" ++ " crashes " = u5 at *
      generalize "system ahead " ++ nS y.ah ++ " window " ++ "none" = u4 at *
      generalize "system ahead " ++ nS y.ah ++ " window " = u3 at *
      generalize "system ahead " ++ nS y.ah = u2 at *
      generalize nS y.ah = na at *
      generalize nS y.cr = nc at *
      generalize lkB = wb at *
      simp -implicitDefEqProofs [-addD_str, -strID_eq, p0, p1, p2, p3, s1, s2, d1, d2, d3, d4, d5, e]
    | some v =>
      rw [h] at p2 d3 d4 d5 e
      have s3 := fun S => strI_ok (i := v) (wv v h) (g.wi v h).1 S
      have ew : wS (some v) = nS v := rfl
      rw [ew] at d3 d4 d5 e
      generalize (S ++ [SO.lst (sL (linesS y))]) = T1 at *
      generalize y.ks.map rowD = kk at *
      generalize planT y = sy at *
      generalize headS y = hy at *
      generalize "system ahead " ++ nS y.ah ++ " window " ++ nS v ++ " crashes " = u5 at *
      generalize "system ahead " ++ nS y.ah ++ " window " ++ nS v = u4 at *
      generalize "system ahead " ++ nS y.ah ++ " window " = u3 at *
      generalize "system ahead " ++ nS y.ah = u2 at *
      generalize nS y.ah = na at *
      generalize nS y.cr = nc at *
      generalize nS v = nv at *
      generalize lkB = wb at *
      simp -implicitDefEqProofs [-addD_str, -strID_eq, p0, p1, p2, p3, s1, s2, s3, d1, d2, d3, d4, d5, e]
  rw [em]
  exact sL_tr S _
/-! the law -/
theorem b_law_eq : b_law = (s_seq (s_set 1 (e_fn trunc m__law_text_plan (a_cons (e_fn tr0 m__law_box (a_cons (e_v 0) (a_cons (e_k (.int 0)) a_nil))) a_nil)))
  (s_seq (s_set 2 (e_fn trunc m__law_system (a_cons (e_v 1) a_nil)))
  (s_seq (s_set 3 (e_meth tyS joinD (e_k (.str "")) (a_cons (e_lcG [4] (i_seq (e_fn trunc m__law_lines (a_cons (e_v 1) a_nil))) (g_name 4) t_yes (e_op addD (e_v 4) (e_k (.str "\n"))) finL) a_nil)))
  (s_seq (s_set 5 (e_fn trunc m_write_system (a_cons (e_v 2) a_nil)))
  (s_ret (e_and (e_isi (ktB "str") (e_v 5)) (e_and (e_op (eqD false) (e_v 5) (e_v 3)) (e_op (eqD false) (e_fn trunc m_write_system (a_cons (e_v 2) a_nil)) (e_v 3))))))))) := rfl
theorem law_ok (ns : List Int) (hn : ns.length ≤ 63) : ∃ S, m_law [.fz ns] [] = .ok (.bl true) S := by
  obtain ⟨a, b, c, e1⟩ := box_eq ns 0 []
  simp only [List.length_nil, List.nil_append, show ((0 : Nat) : Int) = 0 from rfl] at e1
  obtain ⟨y, P', g, h3, e2⟩ := plan_eq (S := [pO a b c]) (p := 0) (by simp) (a, b, c)
  simp only [List.set_cons_zero, pB] at e2
  have es := fun S => system_eq g h3 S
  have el := fun S => lines_eq g h3 S
  have ew := fun S => write_eq g h3 S
  have jl := fun S => join_lines g h3 S
  obtain ⟨la, lb⟩ := lines_len g h3
  have lc := fun S => lc_nl (S := S) (stay_none S []) (env := [some (.fz ns), some (planT y), some (sysD y), none, none, none]) (by simp) (linesS y) [] (by simp; omega) lb
  rw [List.nil_append, show sL [] = [] from rfl] at lc
  have is : ktB "str" (.inl "str") = some true := by decide +kernel
  refine ⟨[pO P'.1 P'.2.1 P'.2.2], ?_⟩
  generalize sL ((linesS y).map nl) = ll at *
  generalize sL (linesS y) = l0 at *
  generalize textS y = tx at *
  generalize planT y = pt at *
  generalize sysD y = sy at *
  simp only [m_law, runDef, b_law_eq]
  simp -implicitDefEqProofs [-joinD_eq, e1, e2, es, el, wipeE, lc, jl, ew, isiD, is]
end Mm
set_option maxRecDepth 100000
namespace Mm
open PySem L2
theorem sc_is_integer : FnScope ["value"] ["value"] (defScope s_is_integer) := ⟨rfl, rfl, rfl, by decide +kernel, rfl, by decide +kernel, by decide +kernel⟩
theorem ok_is_integer {P : Program} {wd : World} {K : PySem.W.Frag} {mg : Str → Option Value} {base : Heap} {Γ : Cls'} (Wd : WdT wd K Γ mg)  {f : Addr} {fd : FuncData} (F : Fun K "is_integer" "is_integer" s_is_integer f fd) :
    FnOk P wd K mg base (L2.CX P wd) 1 f fd ["value"] (spM K Γ m_is_integer) := by
  have nd := sc_is_integer.nd
  exact def_ok F sc_is_integer fun cdv A outer s H E hr => (c_last (c_ret (c_and (c_isiT (T := "int") Wd.nolk Wd.b_isinstance Wd.b_int (by decide +kernel) (cv 0)) (c_one (c_nott (c_isiT (T := "bool") Wd.nolk Wd.b_isinstance Wd.b_bool (by decide +kernel) (cv 0)))))))

theorem sc_is_within : FnScope ["value", "low", "high"] ["value", "low", "high"] (defScope s_is_within) := ⟨rfl, rfl, rfl, by decide +kernel, rfl, by decide +kernel, by decide +kernel⟩
theorem ok_is_within {P : Program} {wd : World} {K : PySem.W.Frag} {mg : Str → Option Value} {base : Heap} {Γ : Cls'} (Wd : WdT wd K Γ mg) (G_is_integer : Df P wd K mg base Γ "is_integer" 1 m_is_integer) {f : Addr} {fd : FuncData} (F : Fun K "is_within" "is_within" s_is_within f fd) :
    FnOk P wd K mg base (L2.CX P wd) 2 f fd ["value", "low", "high"] (spM K Γ m_is_within) := by
  have nd := sc_is_within.nd
  exact def_ok F sc_is_within fun cdv A outer s H E hr => (c_last (c_ret (c_and (c_fn tr0_ok G_is_integer go_def (hr.mono (by first | decide | omega)) (by rfl) (c_acons (cv 0) c_anil)) (c_one (c_chain op_le g_le op_le g_le (cv 1) (cv 0) (cv 2))))))

theorem sc_is_name : FnScope ["value", "letter"] ["value"] (defScope s_is_name) := ⟨rfl, rfl, rfl, by decide +kernel, rfl, by decide +kernel, by decide +kernel⟩
theorem ok_is_name {P : Program} {wd : World} {K : PySem.W.Frag} {mg : Str → Option Value} {base : Heap} {Γ : Cls'} (Wd : WdT wd K Γ mg)  {f : Addr} {fd : FuncData} (F : Fun K "is_name" "is_name" s_is_name f fd) :
    FnOk P wd K mg base (L2.CX P wd) 1 f fd ["value"] (spM K Γ m_is_name) := by
  have nd := sc_is_name.nd
  exact def_ok F sc_is_name fun cdv A outer s H E hr => (c_seq (c_if (c_wt (c_wor (c_tnot (c_tru (c_isiT (T := "str") Wd.nolk Wd.b_isinstance Wd.b_str (by decide +kernel) (cv 0)))) (c_wor1 (c_tnot (c_tchain op_le g_le op_le g_le c_int (c_callB call_len g_len (by rfl) Wd.b_len PySem.boot_len (c_acons (cv 0) c_anil)) (c_gl Wd.g_LONGEST_NAME)))))) (c_last (c_ret c_bl)) c_nil)
  (c_last (c_ret (c_callB (cr_all rfl) g_all (by rfl) Wd.b_all (by decide +kernel) (c_acons (c_lcG (own := [("letter", 1)]) (sl := [1]) finL_ok (by decide) rfl nd (ci_str (cv 0)) (blkOk_by (own := [("letter", 1)]) (N := ["value", "letter"]) (sc := defScope s_is_name) (by decide +kernel)) (fun _ _ _ _ _ => (cgn 1 nd)) (fun _ _ _ _ _ => c_tsnil) (fun _ _ _ _ _ => (c_chain op_le_str g_strLe op_le_str g_strLe c_str (cv 1) c_str))) c_anil)))))

theorem sc_held_after : FnScope ["word", "held"] ["word", "held"] (defScope s_held_after) := ⟨rfl, rfl, rfl, by decide +kernel, rfl, by decide +kernel, by decide +kernel⟩
theorem ok_held_after {P : Program} {wd : World} {K : PySem.W.Frag} {mg : Str → Option Value} {base : Heap} {Γ : Cls'} (Wd : WdT wd K Γ mg)  {f : Addr} {fd : FuncData} (F : Fun K "held_after" "held_after" s_held_after f fd) :
    FnOk P wd K mg base (L2.CX P wd) 1 f fd ["word", "held"] (spM K Γ m_held_after) := by
  have nd := sc_held_after.nd
  exact def_ok F sc_held_after fun cdv A outer s H E hr => (c_seq (c_if (c_tcmp (op_eq2 (hu64 hr)) g_eq (cv 0) c_str (nomark _)) (c_last (c_ret (c_bin op_add4 g_add (cv 1) c_int))) c_nil)
  (c_last (c_ret (c_ifx (c_tcmp op_in_seq g_inF (cv 0) (c_tup (c_acons c_str (c_acons c_str (c_acons c_str c_anil)))) (by rfl)) c_int (cv 1)))))
end Mm
set_option maxRecDepth 100000
namespace Mm
open PySem L2
theorem sc_has_form : FnScope ["statement", "word"] ["statement"] (defScope s_has_form) := ⟨rfl, rfl, rfl, by decide +kernel, rfl, by decide +kernel, by decide +kernel⟩
theorem ok_has_form {P : Program} {wd : World} {K : PySem.W.Frag} {mg : Str → Option Value} {base : Heap} {Γ : Cls'} (Wd : WdT wd K Γ mg)  {f : Addr} {fd : FuncData} (F : Fun K "has_form" "has_form" s_has_form f fd) :
    FnOk P wd K mg base (L2.CX P wd) 1 f fd ["statement"] (spM K Γ m_has_form) := by
  have nd := sc_has_form.nd
  exact def_ok F sc_has_form fun cdv A outer s H E hr => (c_seq (c_if (c_wt (c_wor (c_tnot (c_tru (c_isiT (T := "tuple") Wd.nolk Wd.b_isinstance Wd.b_tuple (by decide +kernel) (cv 0)))) (c_wor1 (c_tnot (c_tru (cv 0)))))) (c_last (c_ret c_bl)) c_nil)
  (c_seq (cset 1 nd (c_ix (cv 0) c_int))
  (c_seq (c_if (c_wt (c_wor (c_tnot (c_tru (c_isiT (T := "str") Wd.nolk Wd.b_isinstance Wd.b_str (by decide +kernel) (cv 1)))) (c_wor1 (c_tcmp (op_ne2 (hu64 hr)) g_ne (c_callB call_len g_len (by rfl) Wd.b_len PySem.boot_len (c_acons (cv 0) c_anil)) (c_kget Wd.k_ITEMS (cv 1)) (nomark _))))) (c_last (c_ret c_bl)) c_nil)
  (c_seq (c_if (c_tcmp (op_eq2 (hu64 hr)) g_eq (cv 1) c_str (nomark _)) (c_last (c_ret (c_and (c_isiT (T := "tuple") Wd.nolk Wd.b_isinstance Wd.b_tuple (by decide +kernel) (c_ix (cv 0) c_int)) (c_one (c_isiT (T := "tuple") Wd.nolk Wd.b_isinstance Wd.b_tuple (by decide +kernel) (c_ix (cv 0) c_int)))))) c_nil)
  (c_last (c_ret c_bl))))))

theorem sc_fault_of : FnScope ["statement", "place", "earlier", "held", "word"] ["statement", "place", "earlier", "held"] (defScope s_fault_of) := ⟨rfl, rfl, rfl, by decide +kernel, rfl, by decide +kernel, by decide +kernel⟩
theorem ok_fault_of {P : Program} {wd : World} {K : PySem.W.Frag} {mg : Str → Option Value} {base : Heap} {Γ : Cls'} (Wd : WdT wd K Γ mg) (G_has_form : Df P wd K mg base Γ "has_form" 1 m_has_form) (G_is_name : Df P wd K mg base Γ "is_name" 1 m_is_name) {f : Addr} {fd : FuncData} (F : Fun K "fault_of" "fault_of" s_fault_of f fd) :
    FnOk P wd K mg base (L2.CX P wd) 2 f fd ["statement", "place", "earlier", "held"] (spM K Γ m_fault_of) := by
  have nd := sc_fault_of.nd
  exact def_ok F sc_fault_of fun cdv A outer s H E hr => (c_seq (c_if (c_tcmp (op_eq2 (hu64 hr)) g_eq (cv 2) (c_gl Wd.g_MOST_STATEMENTS) (nomark _)) (c_last (c_ret c_str)) c_nil)
  (c_seq (c_if (c_tnot (c_tru (c_fn tr0_ok G_has_form go_def (hr.mono (by first | decide | omega)) (by rfl) (c_acons (cv 0) c_anil)))) (c_last (c_ret c_str)) c_nil)
  (c_seq (cset 4 nd (c_ix (cv 0) c_int))
  (c_seq (c_if (c_wt (c_wand (c_tcmp (op_eq2 (hu64 hr)) g_eq (cv 4) c_str (nomark _)) (c_wand1 (c_tcmp (op_eq2 (hu64 hr)) g_eq (c_bin op_fdiv g_div (c_callB call_len g_len (by rfl) Wd.b_len PySem.boot_len (c_acons (cv 1) c_anil)) c_int) (c_gl Wd.g_MOST_NESTED) (nomark _))))) (c_last (c_ret c_str)) c_nil)
  (c_seq (c_if (c_wt (c_wand (c_tcmp op_in_seq g_inF (cv 4) (c_tup (c_acons c_str (c_acons c_str c_anil))) (by rfl)) (c_wand1 (c_tnot (c_tru (c_fn tr0_ok G_is_name go_def (hr.mono (by first | decide | omega)) (by rfl) (c_acons (c_ix (cv 0) c_int) c_anil))))))) (c_last (c_ret c_str)) c_nil)
  (c_seq (c_if (c_wt (c_wand (c_tcmp (op_eq2 (hu64 hr)) g_eq (cv 4) c_str (nomark _)) (c_wand1 (c_tcmp (op_eq2 (hu64 hr)) g_eq (cv 3) (c_gl Wd.g_MOST_HELD) (nomark _))))) (c_last (c_ret c_str)) c_nil)
  (c_last (c_ret c_non))))))))

theorem sc_Check___init__ : FnScope ["self"] ["self"] (defScope s_Check___init__) := ⟨rfl, rfl, rfl, by decide +kernel, rfl, by decide +kernel, by decide +kernel⟩
theorem ok_Check___init__ {P : Program} {wd : World} {K : PySem.W.Frag} {mg : Str → Option Value} {base : Heap} {Γ : Cls'} (Wd : WdT wd K Γ mg)  {f : Addr} {fd : FuncData} (F : Fun K "__init__" "Check.__init__" s_Check___init__ f fd) :
    FnOk P wd K mg base (L2.CX P wd) 1 f fd ["self"] (spM K Γ m_Check___init__) := by
  have nd := sc_Check___init__.nd
  exact def_ok F sc_Check___init__ fun cdv A outer s H E hr => (c_last (c_sfld (f := "found") (hF1 Wd.f_Check_found) (cv 0) c_dnewT))

theorem sc_Check_check_branch : FnScope ["self", "branch", "above", "held", "index", "statement"] ["self", "branch", "above", "held"] (defScope s_Check_check_branch) := ⟨rfl, rfl, rfl, by decide +kernel, rfl, by decide +kernel, by decide +kernel⟩
theorem ok_Check_check_branch {P : Program} {wd : World} {K : PySem.W.Frag} {mg : Str → Option Value} {base : Heap} {Γ : Cls'} (Wd : WdT wd K Γ mg) {m_Check_check_statement : FM} {n : Nat} (hn : 5 ≤ n) (G_Check_check_statement : Dm P wd K mg base Γ 2 "check_statement" n m_Check_check_statement) {f : Addr} {fd : FuncData} (F : Fun K "check_branch" "Check.check_branch" s_Check_check_branch f fd) :
    FnOk P wd K mg base (L2.CX P wd) (n + 1) f fd ["self", "branch", "above", "held"] (spM K Γ (m_Check_check_branch' m_Check_check_statement)) := by
  have nd := sc_Check_check_branch.nd
  exact def_ok F sc_Check_check_branch fun cdv A outer s H E hr => (c_seq (c_for (sl := [4, 5]) (passes_of rfl) rfl (ci_enum (by rfl) Wd.b_enumerate (cv 1)) (c_gtup rfl (c_gcons (cgn 4 nd) (c_gcons (cgn 5 nd) c_gnil)) (takes_cons (takes_cons takes_nil))) (c_last (cset 3 nd (c_mth tr0_ok G_Check_check_statement go_def (hr.mono (by first | decide | omega)) (cv 0) (c_acons (cv 5) (c_acons (c_bin op_add4 g_addT (cv 2) (c_ttp (c_acons (cv 4) c_anil))) (c_acons (cv 3) c_anil)))))))
  (c_last (c_ret (cv 3))))
end Mm
set_option maxRecDepth 100000
namespace Mm
open PySem L2
theorem sc_Check_check_statement : FnScope ["self", "statement", "place", "held", "why", "yes", "no"] ["self", "statement", "place", "held"] (defScope s_Check_check_statement) := ⟨rfl, rfl, rfl, by decide +kernel, rfl, by decide +kernel, by decide +kernel⟩
theorem ok_Check_check_statement {P : Program} {wd : World} {K : PySem.W.Frag} {mg : Str → Option Value} {base : Heap} {Γ : Cls'} (Wd : WdT wd K Γ mg) {m_Check_check_branch : FM} {n : Nat} (hn : 5 ≤ n) (G_Check_check_branch : Dm P wd K mg base Γ 2 "check_branch" n m_Check_check_branch) (G_fault_of : Df P wd K mg base Γ "fault_of" 2 m_fault_of) (G_held_after : Df P wd K mg base Γ "held_after" 1 m_held_after) {f : Addr} {fd : FuncData} (F : Fun K "check_statement" "Check.check_statement" s_Check_check_statement f fd) :
    FnOk P wd K mg base (L2.CX P wd) (n + 1) f fd ["self", "statement", "place", "held"] (spM K Γ (m_Check_check_statement' m_Check_check_branch)) := by
  have nd := sc_Check_check_statement.nd
  exact def_ok F sc_Check_check_statement fun cdv A outer s H E hr => (c_seq (cset 4 nd (c_fn tr0_ok G_fault_of go_def (hr.mono (by first | decide | omega)) (by rfl) (c_acons (cv 1) (c_acons (cv 2) (c_acons (c_callB call_lenD2 (g_dlen Wd.nolk) (by rfl) Wd.b_len PySem.boot_len (c_acons (c_fld (f := "found") (hF1 Wd.f_Check_found) (cv 0)) c_anil)) (c_acons (cv 3) c_anil))))))
  (c_seq (c_if (c_tcmp op_notN g_notN (cv 4) c_non (nomark _)) (c_last c_bad) c_nil)
  (c_seq (c_dput Wd.nolk (hu1 hr) (cv 1) (c_fld (f := "found") (hF1 Wd.f_Check_found) (cv 0)) (cv 2))
  (c_seq (c_if (c_tcmp (op_eq2 (hu64 hr)) g_eq (c_ix (cv 1) c_int) c_str (nomark _)) (c_seq (cset 5 nd (c_mth tr0_ok G_Check_check_branch go_def (hr.mono (by first | decide | omega)) (cv 0) (c_acons (c_ix (cv 1) c_int) (c_acons (c_bin op_add4 g_addT (cv 2) (c_ttp (c_acons c_int c_anil))) (c_acons (cv 3) c_anil)))))
  (c_seq (cset 6 nd (c_mth tr0_ok G_Check_check_branch go_def (hr.mono (by first | decide | omega)) (cv 0) (c_acons (c_ix (cv 1) c_int) (c_acons (c_bin op_add4 g_addT (cv 2) (c_ttp (c_acons c_int c_anil))) (c_acons (cv 3) c_anil)))))
  (c_last (c_ret (c_callB (call_max2 rfl) g_max2 (by rfl) Wd.b_max (by decide +kernel) (c_acons (cv 5) (c_acons (cv 6) c_anil))))))) c_nil)
  (c_last (c_ret (c_fn tr0_ok G_held_after go_def (hr.mono (by first | decide | omega)) (by rfl) (c_acons (c_ix (cv 1) c_int) (c_acons (cv 3) c_anil)))))))))

theorem sc_Script___init__ : FnScope ["self", "statements", "check"] ["self", "statements"] (defScope s_Script___init__) := ⟨rfl, rfl, rfl, by decide +kernel, rfl, by decide +kernel, by decide +kernel⟩
theorem ok_Script___init__ {P : Program} {wd : World} {K : PySem.W.Frag} {mg : Str → Option Value} {base : Heap} {Γ : Cls'} (Wd : WdT wd K Γ mg) (G_Check_check_branch : Dm P wd K mg base Γ 2 "check_branch" 11 m_Check_check_branch) (K_Check : Dk P wd K mg base Γ 2 "Check" 1 m_Check___init__) {f : Addr} {fd : FuncData} (F : Fun K "__init__" "Script.__init__" s_Script___init__ f fd) :
    FnOk P wd K mg base (L2.CX P wd) 12 f fd ["self", "statements"] (spM K Γ m_Script___init__) := by
  have nd := sc_Script___init__.nd
  exact def_ok F sc_Script___init__ fun cdv A outer s H E hr => (c_seq (c_if (c_tnot (c_tru (c_isiT (T := "tuple") Wd.nolk Wd.b_isinstance Wd.b_tuple (by decide +kernel) (cv 1)))) (c_last c_bad) c_nil)
  (c_seq (c_if (c_tnot (c_tru (cv 1))) (c_last c_bad) c_nil)
  (c_seq (cset 2 nd (c_mk0 tr0_ok K_Check go_def (hr.mono (by first | decide | omega)) (by rfl)))
  (c_seq (c_expr (c_mth tr0_ok G_Check_check_branch go_def (hr.mono (by first | decide | omega)) (cv 2) (c_acons (cv 1) (c_acons (c_ttp c_anil) (c_acons c_int c_anil)))))
  (c_seq (c_sfld (f := "statements") (hF1 Wd.f_Script_statements) (cv 0) (cv 1))
  (c_seq (c_sfld (f := "found") (hF1 Wd.f_Script_found) (cv 0) (c_fld (f := "found") (hF2 Wd.f_Script_found Wd.f_Check_found) (cv 2)))
  (c_last (c_sfld (f := "places") (hF1 Wd.f_Script_places) (cv 0) (c_callTy call_tuple_of g_tuple (by rfl) Wd.b_tuple (by decide +kernel) (c_acons (c_callTy (call_listD2 rfl) (g_dlist Wd.nolk) (by rfl) Wd.b_list (by decide +kernel) (c_acons (c_fld (f := "found") (hF1 Wd.f_Script_found) (cv 0)) c_anil)) c_anil))))))))))

theorem sc_Script___len__ : FnScope ["self"] ["self"] (defScope s_Script___len__) := ⟨rfl, rfl, rfl, by decide +kernel, rfl, by decide +kernel, by decide +kernel⟩
theorem ok_Script___len__ {P : Program} {wd : World} {K : PySem.W.Frag} {mg : Str → Option Value} {base : Heap} {Γ : Cls'} (Wd : WdT wd K Γ mg)  {f : Addr} {fd : FuncData} (F : Fun K "__len__" "Script.__len__" s_Script___len__ f fd) :
    FnOk P wd K mg base (L2.CX P wd) 1 f fd ["self"] (spM K Γ m_Script___len__) := by
  have nd := sc_Script___len__.nd
  exact def_ok F sc_Script___len__ fun cdv A outer s H E hr => (c_last (c_ret (c_callB call_len g_len (by rfl) Wd.b_len PySem.boot_len (c_acons (c_fld (f := "places") (hF1 Wd.f_Script_places) (cv 0)) c_anil))))

theorem sc_script_of : FnScope ["script", "fault"] ["script"] (defScope s_script_of) := ⟨rfl, rfl, rfl, by decide +kernel, rfl, by decide +kernel, by decide +kernel⟩
theorem ok_script_of {P : Program} {wd : World} {K : PySem.W.Frag} {mg : Str → Option Value} {base : Heap} {Γ : Cls'} (Wd : WdT wd K Γ mg) (K_Script : Dk P wd K mg base Γ 1 "Script" 12 m_Script___init__) {f : Addr} {fd : FuncData} (F : Fun K "script_of" "script_of" s_script_of f fd) :
    FnOk P wd K mg base (L2.CX P wd) 14 f fd ["script"] (spM K Γ m_script_of) := by
  have nd := sc_script_of.nd
  exact def_ok F sc_script_of fun cdv A outer s H E hr => (c_seq (c_if (c_tru (c_isiK Wd.nolk Wd.b_isinstance Wd.c_Script (cv 0))) (c_last (c_ret (cv 0))) c_nil)
  (c_last (c_tryNo (c_last (c_ret (c_mk trT_ok K_Script goes_not (hr.mono (by first | decide | omega)) (by rfl) (c_acons (cv 0) c_anil)))))))
end Mm
set_option maxRecDepth 100000
namespace Mm
open PySem L2
theorem sc_Kind___init__ : FnScope ["self", "name", "script", "block", "many"] ["self", "name", "script", "block", "many"] (defScope s_Kind___init__) := ⟨rfl, rfl, rfl, by decide +kernel, rfl, by decide +kernel, by decide +kernel⟩
theorem ok_Kind___init__ {P : Program} {wd : World} {K : PySem.W.Frag} {mg : Str → Option Value} {base : Heap} {Γ : Cls'} (Wd : WdT wd K Γ mg) (G_is_name : Df P wd K mg base Γ "is_name" 1 m_is_name) (G_is_within : Df P wd K mg base Γ "is_within" 2 m_is_within) (G_script_of : Df P wd K mg base Γ "script_of" 14 m_script_of) {f : Addr} {fd : FuncData} (F : FunD K "__init__" "Kind.__init__" (defArgs s_Kind___init__) (defBody s_Kind___init__) (defScope s_Kind___init__) [] [("block", .int 1), ("many", .int 1)] f fd) :
    FnOk P wd K mg base (L2.CX P wd) 15 f fd ["self", "name", "script", "block", "many"] (spM K Γ m_Kind___init__) := by
  have nd := sc_Kind___init__.nd
  exact def_okD F sc_Kind___init__ fun cdv A outer s H E hr => (c_seq (c_if (c_tnot (c_tru (c_fn tr0_ok G_is_name go_def (hr.mono (by first | decide | omega)) (by rfl) (c_acons (cv 1) c_anil)))) (c_last c_bad) c_nil)
  (c_seq (cset 2 nd (c_fn tr0_ok G_script_of go_def (hr.mono (by first | decide | omega)) (by rfl) (c_acons (cv 2) c_anil)))
  (c_seq (c_if (c_tnot (c_tru (c_fn tr0_ok G_is_within go_def (hr.mono (by first | decide | omega)) (by rfl) (c_acons (cv 3) (c_acons c_int (c_acons (c_gl Wd.g_MOST_BLOCK) c_anil)))))) (c_last c_bad) c_nil)
  (c_seq (c_if (c_tnot (c_tru (c_fn tr0_ok G_is_within go_def (hr.mono (by first | decide | omega)) (by rfl) (c_acons (cv 4) (c_acons c_int (c_acons (c_gl Wd.g_MOST_SESSIONS) c_anil)))))) (c_last c_bad) c_nil)
  (c_seq (c_sfld (f := "name") (hF1 Wd.f_Kind_name) (cv 0) (cv 1))
  (c_seq (c_sfld (f := "script") (hF1 Wd.f_Kind_script) (cv 0) (cv 2))
  (c_seq (c_sfld (f := "block") (hF1 Wd.f_Kind_block) (cv 0) (cv 3))
  (c_last (c_sfld (f := "many") (hF1 Wd.f_Kind_many) (cv 0) (cv 4))))))))))

theorem sc_count_of_sessions : FnScope ["kinds", "kind"] ["kinds"] (defScope s_count_of_sessions) := ⟨rfl, rfl, rfl, by decide +kernel, rfl, by decide +kernel, by decide +kernel⟩
theorem ok_count_of_sessions {P : Program} {wd : World} {K : PySem.W.Frag} {mg : Str → Option Value} {base : Heap} {Γ : Cls'} (Wd : WdT wd K Γ mg)  {f : Addr} {fd : FuncData} (F : Fun K "count_of_sessions" "count_of_sessions" s_count_of_sessions f fd) :
    FnOk P wd K mg base (L2.CX P wd) 1 f fd ["kinds"] (spM K Γ m_count_of_sessions) := by
  have nd := sc_count_of_sessions.nd
  exact def_ok F sc_count_of_sessions fun cdv A outer s H E hr => (c_last (c_ret (c_callB (cr_sum rfl) g_sum (by rfl) Wd.b_sum (by decide +kernel) (c_acons (c_lcG (own := [("kind", 1)]) (sl := [1]) finL_ok (by decide) rfl nd (ci_seq (cv 0)) (blkOk_by (own := [("kind", 1)]) (N := ["kinds", "kind"]) (sc := defScope s_count_of_sessions) (by decide +kernel)) (fun _ _ _ _ _ => (cgn 1 nd)) (fun _ _ _ _ _ => c_tsnil) (fun _ _ _ _ _ => (c_fld (f := "many") (hF1 Wd.f_Kind_many) (cv 1)))) c_anil))))

theorem sc_are_kinds : FnScope ["kinds", "kind"] ["kinds"] (defScope s_are_kinds) := ⟨rfl, rfl, rfl, by decide +kernel, rfl, by decide +kernel, by decide +kernel⟩
theorem ok_are_kinds {P : Program} {wd : World} {K : PySem.W.Frag} {mg : Str → Option Value} {base : Heap} {Γ : Cls'} (Wd : WdT wd K Γ mg) (G_count_of_sessions : Df P wd K mg base Γ "count_of_sessions" 1 m_count_of_sessions) {f : Addr} {fd : FuncData} (F : Fun K "are_kinds" "are_kinds" s_are_kinds f fd) :
    FnOk P wd K mg base (L2.CX P wd) 2 f fd ["kinds"] (spM K Γ m_are_kinds) := by
  have nd := sc_are_kinds.nd
  exact def_ok F sc_are_kinds fun cdv A outer s H E hr => (c_seq (c_if (c_wt (c_wor (c_tnot (c_tru (cv 0))) (c_wor1 (c_tnot (c_tru (c_callB (cr_all rfl) g_all (by rfl) Wd.b_all (by decide +kernel) (c_acons (c_lcG (own := [("kind", 1)]) (sl := [1]) finL_ok (by decide) rfl nd (ci_seq (cv 0)) (blkOk_by (own := [("kind", 1)]) (N := ["kinds", "kind"]) (sc := defScope s_are_kinds) (by decide +kernel)) (fun _ _ _ _ _ => (cgn 1 nd)) (fun _ _ _ _ _ => c_tsnil) (fun _ _ _ _ _ => (c_isiK Wd.nolk Wd.b_isinstance Wd.c_Kind (cv 1)))) c_anil))))))) (c_last (c_ret c_bl)) c_nil)
  (c_seq (c_if (c_tcmp op_lt g_lt (c_lens (by rfl) Wd.b_len (by rfl) Wd.b_set (c_lcG (own := [("kind", 1)]) (sl := [1]) finL_ok (by decide) rfl nd (ci_seq (cv 0)) (blkOk_by (own := [("kind", 1)]) (N := ["kinds", "kind"]) (sc := defScope s_are_kinds) (by decide +kernel)) (fun _ _ _ _ _ => (cgn 1 nd)) (fun _ _ _ _ _ => c_tsnil) (fun _ _ _ _ _ => (c_fld (f := "name") (hF1 Wd.f_Kind_name) (cv 1))))) (c_callB call_len g_len (by rfl) Wd.b_len PySem.boot_len (c_acons (cv 0) c_anil)) (nomark _)) (c_last (c_ret c_bl)) c_nil)
  (c_last (c_ret (c_cmp op_le g_le (c_fn tr0_ok G_count_of_sessions go_def (hr.mono (by first | decide | omega)) (by rfl) (c_acons (cv 0) c_anil)) (c_gl Wd.g_MOST_SESSIONS) (nomark _))))))

theorem sc_fault_of_system : FnScope ["kinds", "ahead", "window", "crashes", "full", "kind", "greatest_block"] ["kinds", "ahead", "window", "crashes"] (defScope s_fault_of_system) := ⟨rfl, rfl, rfl, by decide +kernel, rfl, by decide +kernel, by decide +kernel⟩
theorem ok_fault_of_system {P : Program} {wd : World} {K : PySem.W.Frag} {mg : Str → Option Value} {base : Heap} {Γ : Cls'} (Wd : WdT wd K Γ mg) (G_are_kinds : Df P wd K mg base Γ "are_kinds" 2 m_are_kinds) (G_count_of_sessions : Df P wd K mg base Γ "count_of_sessions" 1 m_count_of_sessions) (G_is_within : Df P wd K mg base Γ "is_within" 2 m_is_within) (O_Script___len__ : Dn' P wd K mg base Γ 1 "__len__" 1 m_Script___len__) {f : Addr} {fd : FuncData} (F : Fun K "fault_of_system" "fault_of_system" s_fault_of_system f fd) :
    FnOk P wd K mg base (L2.CX P wd) 3 f fd ["kinds", "ahead", "window", "crashes"] (spM K Γ m_fault_of_system) := by
  have nd := sc_fault_of_system.nd
  exact def_ok F sc_fault_of_system fun cdv A outer s H E hr => (c_seq (c_if (c_tnot (c_tru (c_fn tr0_ok G_are_kinds go_def (hr.mono (by first | decide | omega)) (by rfl) (c_acons (cv 0) c_anil)))) (c_last (c_ret c_str)) c_nil)
  (c_seq (cset 4 nd (c_cmp (op_eq2 (hu64 hr)) g_eq (c_fn tr0_ok G_count_of_sessions go_def (hr.mono (by first | decide | omega)) (by rfl) (c_acons (cv 0) c_anil)) (c_gl Wd.g_MOST_SESSIONS) (nomark _)))
  (c_seq (c_if (c_wt (c_wand (c_tru (cv 4)) (c_wand1 (c_tcmp op_gt g_gt (c_callB (cr_max rfl) g_max (by rfl) Wd.b_max (by decide +kernel) (c_acons (c_lcG (own := [("kind", 5)]) (sl := [5]) finL_ok (by decide) rfl nd (ci_seq (cv 0)) (blkOk_by (own := [("kind", 5)]) (N := ["kinds", "ahead", "window", "crashes", "full", "kind", "greatest_block"]) (sc := defScope s_fault_of_system) (by decide +kernel)) (fun _ _ _ _ _ => (cgn 5 nd)) (fun _ _ _ _ _ => c_tsnil) (fun _ _ _ _ _ => (c_lenOwn O_Script___len__ (hr.mono (by first | decide | omega)) (by rfl) Wd.b_len (c_fld (f := "script") (hF1 Wd.f_Kind_script) (cv 5))))) c_anil)) (c_gl Wd.g_LONGEST_OF_MANY) (nomark _))))) (c_last (c_ret c_str)) c_nil)
  (c_seq (c_if (c_tnot (c_tru (c_fn tr0_ok G_is_within go_def (hr.mono (by first | decide | omega)) (by rfl) (c_acons (cv 1) (c_acons c_int (c_acons (c_gl Wd.g_MOST_AHEAD) c_anil)))))) (c_last (c_ret c_str)) c_nil)
  (c_seq (cset 6 nd (c_callB (cr_max rfl) g_max (by rfl) Wd.b_max (by decide +kernel) (c_acons (c_lcG (own := [("kind", 5)]) (sl := [5]) finL_ok (by decide) rfl nd (ci_seq (cv 0)) (blkOk_by (own := [("kind", 5)]) (N := ["kinds", "ahead", "window", "crashes", "full", "kind", "greatest_block"]) (sc := defScope s_fault_of_system) (by decide +kernel)) (fun _ _ _ _ _ => (cgn 5 nd)) (fun _ _ _ _ _ => c_tsnil) (fun _ _ _ _ _ => (c_fld (f := "block") (hF1 Wd.f_Kind_block) (cv 5)))) c_anil)))
  (c_seq (c_if (c_wt (c_wand (c_tcmp op_notN g_notN (cv 2) c_non (nomark _)) (c_wand1 (c_tnot (c_tru (c_fn tr0_ok G_is_within go_def (hr.mono (by first | decide | omega)) (by rfl) (c_acons (cv 2) (c_acons (cv 6) (c_acons (c_gl Wd.g_MOST_WINDOW) c_anil))))))))) (c_last (c_ret c_str)) c_nil)
  (c_seq (c_if (c_tnot (c_tru (c_fn tr0_ok G_is_within go_def (hr.mono (by first | decide | omega)) (by rfl) (c_acons (cv 3) (c_acons c_int (c_acons (c_gl Wd.g_MOST_CRASHES) c_anil)))))) (c_last (c_ret c_str)) c_nil)
  (c_last (c_ret c_non)))))))))
end Mm
set_option maxRecDepth 100000
namespace Mm
open PySem L2
theorem sc_System___init__ : FnScope ["self", "ahead", "window", "crashes", "kinds", "why", "kind", "index"] ["self", "ahead", "window", "crashes", "kinds"] (defScope s_System___init__) := ⟨rfl, rfl, rfl, by decide +kernel, rfl, by decide +kernel, by decide +kernel⟩
theorem ok_System___init__ {P : Program} {wd : World} {K : PySem.W.Frag} {mg : Str → Option Value} {base : Heap} {Γ : Cls'} (Wd : WdT wd K Γ mg) (G_fault_of_system : Df P wd K mg base Γ "fault_of_system" 3 m_fault_of_system) (cdv : Value) (f : Addr) (A : Around) (outer : List PySem.Env) (s : Shared) (H : Hp) (E : XK) (hr : Room 3 (A.deeper (PyProof.Rows.envOfC "System.__init__" (defScope s_System___init__) s.heap.objs.size f cdv))) :
    CSs Γ (cxOf (L2.CX P wd) P wd K mg base ["self", "ahead", "window", "crashes", "kinds", "why", "kind", "index"] "System.__init__" (defScope s_System___init__) f cdv A outer s H E) (fun C dd _ H => E C dd H) (defBody s_System___init__) b_System___init__ := by
  have nd := sc_System___init__.nd
  exact (c_seq (cset 5 nd (c_fn tr0_ok G_fault_of_system go_def (hr.mono (by first | decide | omega)) (by rfl) (c_acons (cv 4) (c_acons (cv 1) (c_acons (cv 2) (c_acons (cv 3) c_anil))))))
  (c_seq (c_if (c_tcmp op_notN g_notN (cv 5) c_non (nomark _)) (c_last c_bad) c_nil)
  (c_seq (c_sfld (f := "kinds") (hF1 Wd.f_System_kinds) (cv 0) (cv 4))
  (c_seq (c_sfld (f := "ahead") (hF1 Wd.f_System_ahead) (cv 0) (cv 1))
  (c_seq (c_sfld (f := "window") (hF1 Wd.f_System_window) (cv 0) (cv 2))
  (c_seq (c_sfld (f := "crashes") (hF1 Wd.f_System_crashes) (cv 0) (cv 3))
  (c_last (c_sfld (f := "sessions") (hF1 Wd.f_System_sessions) (cv 0) (c_callTy call_tuple_of g_tuple (by rfl) Wd.b_tuple (by decide +kernel) (c_acons (c_lc2 (own := [("kind", 6), ("index", 7)]) (vs1 := [7]) (sl := [6]) (sl1 := [7]) finL_ok (by decide) (by decide) (by decide) rfl nd (ci_seq (cv 4)) (blkOk_by (own := [("kind", 6), ("index", 7)]) (N := ["self", "ahead", "window", "crashes", "kinds", "why", "kind", "index"]) (sc := defScope s_System___init__) (by decide +kernel)) (fun _ _ _ _ _ => (cgn 6 nd)) (fun _ _ _ _ _ => c_tsnil) (fun _ _ _ _ _ => (ci_rng1 (by rfl) Wd.b_range (c_fld (f := "many") (hF1 Wd.f_Kind_many) (cv 6)))) (fun _ _ _ _ _ => (cgn 7 nd)) (fun _ _ _ _ _ => c_tsnil) (fun _ _ _ _ _ => (c_fld (f := "name") (hF1 Wd.f_Kind_name) (cv 6)))) c_anil))))))))))

theorem sc_indented : FnScope ["indent", "row"] ["indent", "row"] (defScope s_indented) := ⟨rfl, rfl, rfl, by decide +kernel, rfl, by decide +kernel, by decide +kernel⟩
theorem ok_indented {P : Program} {wd : World} {K : PySem.W.Frag} {mg : Str → Option Value} {base : Heap} {Γ : Cls'} (Wd : WdT wd K Γ mg)  {f : Addr} {fd : FuncData} (F : Fun K "indented" "indented" s_indented f fd) :
    FnOk P wd K mg base (L2.CX P wd) 1 f fd ["indent", "row"] (spM K Γ m_indented) := by
  have nd := sc_indented.nd
  exact def_ok F sc_indented fun cdv A outer s H E hr => (c_last (c_ret (c_bin op_add4 g_add (c_bin op_mulS g_mulS c_str (cv 0)) (cv 1))))

theorem sc_rows_of : FnScope ["statements", "indent", "rows", "statement", "word", "branch"] ["statements", "indent"] (defScope s_rows_of) := ⟨rfl, rfl, rfl, by decide +kernel, rfl, by decide +kernel, by decide +kernel⟩
theorem ok_rows_of {P : Program} {wd : World} {K : PySem.W.Frag} {mg : Str → Option Value} {base : Heap} {Γ : Cls'} (Wd : WdT wd K Γ mg) (G_indented : Df P wd K mg base Γ "indented" 1 m_indented) {m_rows_of : FM} {n : Nat} (hn : 2 ≤ n) (G_rows_of : Df P wd K mg base Γ "rows_of" n m_rows_of) {f : Addr} {fd : FuncData} (F : Fun K "rows_of" "rows_of" s_rows_of f fd) :
    FnOk P wd K mg base (L2.CX P wd) (n + 1) f fd ["statements", "indent"] (spM K Γ (m_rows_of' m_rows_of)) := by
  have nd := sc_rows_of.nd
  exact def_ok F sc_rows_of fun cdv A outer s H E hr => (c_seq (cset 2 nd (c_new c_anil))
  (c_seq (c_for (sl := [3]) (passes_of rfl) rfl (ci_seq (cv 0)) (cgn 3 nd) (c_last (c_if (c_tcmp (op_eq2 (hu64 hr)) g_eq (c_ix (cv 3) c_int) c_str (nomark _)) (c_seq (c_expr (c_meth PySem.F.plainAttrs_list PySem.F.slot_list_append PySem.F.type_list_append mt_append gty_list gm_app (cv 2) (c_acons (c_fn tr0_ok G_indented go_def (hr.mono (by first | decide | omega)) (by rfl) (c_acons (cv 1) (c_acons c_str c_anil))) c_anil)))
  (c_last (c_for (sl := [4, 5]) (passes_of rfl) rfl (ci_zip (by rfl) Wd.b_zip (c_tup (c_acons c_str (c_acons c_str c_anil))) (c_sl (cv 3) (c_osome c_int) c_onone)) (c_gtup rfl (c_gcons (cgn 4 nd) (c_gcons (cgn 5 nd) c_gnil)) (takes_cons (takes_cons takes_nil))) (c_seq (c_expr (c_meth PySem.F.plainAttrs_list PySem.F.slot_list_append PySem.F.type_list_append mt_append gty_list gm_app (cv 2) (c_acons (c_fn tr0_ok G_indented go_def (hr.mono (by first | decide | omega)) (by rfl) (c_acons (c_bin op_add4 g_add (cv 1) (c_gl Wd.g_OF_WORDS)) (c_acons (cv 4) c_anil))) c_anil)))
  (c_last (c_expr (c_meth PySem.F.plainAttrs_list PySem.F.slot_list_extend PySem.F.type_list_extend mt_ext2 gty_list gm_ext2 (cv 2) (c_acons (c_fn trT_ok G_rows_of go_def (hr.mono (by first | decide | omega)) (by rfl) (c_acons (cv 5) (c_acons (c_bin op_add4 g_add (cv 1) (c_gl Wd.g_OF_BRANCHES)) c_anil))) c_anil)))))))) (c_last (c_expr (c_meth PySem.F.plainAttrs_list PySem.F.slot_list_append PySem.F.type_list_append mt_append gty_list gm_app (cv 2) (c_acons (c_fn tr0_ok G_indented go_def (hr.mono (by first | decide | omega)) (by rfl) (c_acons (cv 1) (c_acons (c_meth PySem.F.plainAttrs_str PySem.F.slot_str_join PySem.F.type_str_join mt_join gty_str gm_join c_str (c_acons (cv 3) c_anil)) c_anil))) c_anil)))))))
  (c_last (c_ret (cv 2)))))

theorem sc_write_system : FnScope ["system", "window", "rows", "kind", "row"] ["system"] (defScope s_write_system) := ⟨rfl, rfl, rfl, by decide +kernel, rfl, by decide +kernel, by decide +kernel⟩
theorem ok_write_system {P : Program} {wd : World} {K : PySem.W.Frag} {mg : Str → Option Value} {base : Heap} {Γ : Cls'} (Wd : WdT wd K Γ mg) (G_indented : Df P wd K mg base Γ "indented" 1 m_indented) (G_rows_of : Df P wd K mg base Γ "rows_of" 5 m_rows_of) {f : Addr} {fd : FuncData} (F : Fun K "write_system" "write_system" s_write_system f fd) :
    FnOk P wd K mg base (L2.CX P wd) 6 f fd ["system"] (spM K Γ m_write_system) := by
  have nd := sc_write_system.nd
  exact def_ok F sc_write_system fun cdv A outer s H E hr => (c_seq (cset 1 nd (c_ifx (c_tcmp op_isN g_isN (c_fld (f := "window") (hF1 Wd.f_System_window) (cv 0)) c_non (nomark _)) c_str (c_fld (f := "window") (hF1 Wd.f_System_window) (cv 0))))
  (c_seq (cset 2 nd (c_new (c_acons (c_joined (CJ.cons c_str (CJ.cons (c_fmt (c_fld (f := "ahead") (hF1 Wd.f_System_ahead) (cv 0))) (CJ.cons c_str (CJ.cons (c_fmt (cv 1)) (CJ.cons c_str (CJ.cons (c_fmt (c_fld (f := "crashes") (hF1 Wd.f_System_crashes) (cv 0))) CJ.nil))))))) c_anil)))
  (c_seq (c_for (sl := [3]) (passes_of rfl) rfl (ci_seq (c_fld (f := "kinds") (hF1 Wd.f_System_kinds) (cv 0))) (cgn 3 nd) (c_seq (c_expr (c_meth PySem.F.plainAttrs_list PySem.F.slot_list_append PySem.F.type_list_append mt_append gty_list gm_app (cv 2) (c_acons (c_fn tr0_ok G_indented go_def (hr.mono (by first | decide | omega)) (by rfl) (c_acons (c_gl Wd.g_OF_KINDS) (c_acons (c_joined (CJ.cons c_str (CJ.cons (c_fmt (c_fld (f := "name") (hF1 Wd.f_Kind_name) (cv 3))) (CJ.cons c_str (CJ.cons (c_fmt (c_fld (f := "block") (hF1 Wd.f_Kind_block) (cv 3))) (CJ.cons c_str (CJ.cons (c_fmt (c_fld (f := "many") (hF1 Wd.f_Kind_many) (cv 3))) CJ.nil))))))) c_anil))) c_anil)))
  (c_last (c_expr (c_meth PySem.F.plainAttrs_list PySem.F.slot_list_extend PySem.F.type_list_extend mt_ext2 gty_list gm_ext2 (cv 2) (c_acons (c_fn trT_ok G_rows_of go_def (hr.mono (by first | decide | omega)) (by rfl) (c_acons (c_fld (f := "statements") (hF1 Wd.f_Script_statements) (c_fld (f := "script") (hF1 Wd.f_Kind_script) (cv 3))) (c_acons (c_gl Wd.g_OF_SCRIPTS) c_anil))) c_anil))))))
  (c_last (c_ret (c_meth PySem.F.plainAttrs_str PySem.F.slot_str_join PySem.F.type_str_join mt_join gty_str gm_join c_str (c_acons (c_lcG (own := [("row", 4)]) (sl := [4]) finL_ok (by decide) rfl nd (ci_seq (cv 2)) (blkOk_by (own := [("row", 4)]) (N := ["system", "window", "rows", "kind", "row"]) (sc := defScope s_write_system) (by decide +kernel)) (fun _ _ _ _ _ => (cgn 4 nd)) (fun _ _ _ _ _ => c_tsnil) (fun _ _ _ _ _ => (c_bin op_add4 g_add (cv 4) c_str))) c_anil)))))))
end Mm
set_option maxRecDepth 100000
namespace Mm
open PySem L2
theorem sc__law_box : FnScope ["_law_script", "_law_k", "_law_cell"] ["_law_script", "_law_k"] (defScope s__law_box) := ⟨rfl, rfl, rfl, by decide +kernel, rfl, by decide +kernel, by decide +kernel⟩
theorem ok__law_box {P : Program} {wd : World} {K : PySem.W.Frag} {mg : Str → Option Value} {base : Heap} {Γ : Cls'} (Wd : WdT wd K Γ mg)  {f : Addr} {fd : FuncData} (F : Fun K "_law_box" "_law_box" s__law_box f fd) :
    FnOk P wd K mg base (L2.CX P wd) 1 f fd ["_law_script", "_law_k"] (spM K Γ m__law_box) := by
  have nd := sc__law_box.nd
  exact def_ok F sc__law_box fun cdv A outer s H E hr => (c_seq (cset 2 nd c_int)
  (c_seq (c_if (c_tcmp op_lt g_lt (cv 1) (c_callB call_len g_len (by rfl) Wd.b_len PySem.boot_len (c_acons (cv 0) c_anil)) (nomark _)) (c_last (cset 2 nd (c_callTy call_int1 g_intc (by rfl) Wd.b_int (by decide +kernel) (c_acons (c_ix (cv 0) (cv 1)) c_anil)))) c_nil)
  (c_seq (c_if (c_tcmp op_ge g_ge (cv 2) (c_bin op_pow g_pow c_int c_int) (nomark _)) (c_last (c_ret (c_new (c_acons (c_bin op_sub g_sub (cv 2) (c_bin op_pow g_pow c_int c_int)) (c_acons (c_bin op_add4 g_add (c_bin op_mod g_mod (c_callTy call_int1 g_intc (by rfl) Wd.b_int (by decide +kernel) (c_acons (cv 2) c_anil)) c_int) (cv 1)) (c_acons c_int c_anil)))))) c_nil)
  (c_last (c_ret (c_new (c_acons c_int (c_acons (c_bin op_add4 g_add (c_bin op_mod g_mod (c_callTy call_int1 g_intc (by rfl) Wd.b_int (by decide +kernel) (c_acons (cv 2) c_anil)) c_int) (c_bin op_mul3 g_mul c_int (cv 1))) (c_acons c_int c_anil)))))))))

theorem sc__law_pick : FnScope ["_law_box_here", "_law_size", "_law_digit", "_law_number"] ["_law_box_here", "_law_size"] (defScope s__law_pick) := ⟨rfl, rfl, rfl, by decide +kernel, rfl, by decide +kernel, by decide +kernel⟩
theorem ok__law_pick {P : Program} {wd : World} {K : PySem.W.Frag} {mg : Str → Option Value} {base : Heap} {Γ : Cls'} (Wd : WdT wd K Γ mg)  {f : Addr} {fd : FuncData} (F : Fun K "_law_pick" "_law_pick" s__law_pick f fd) :
    FnOk P wd K mg base (L2.CX P wd) 1 f fd ["_law_box_here", "_law_size"] (spM K Γ m__law_pick) := by
  have nd := sc__law_pick.nd
  exact def_ok F sc__law_pick fun cdv A outer s H E hr => (c_seq (c_if (c_tcmp op_gt g_gt (c_ix (cv 0) c_int) c_int (nomark _)) (c_seq (cset 2 nd (c_bin op_mod g_mod (c_callTy call_int1 g_intc (by rfl) Wd.b_int (by decide +kernel) (c_acons (c_ix (cv 0) c_int) c_anil)) (cv 1)))
  (c_seq (c_put (c_bin op_fdiv g_div (c_ix (cv 0) c_int) (cv 1)) (cv 0) c_int)
  (c_last (c_ret (cv 2))))) c_nil)
  (c_seq (c_put (c_bin op_add4 g_add (c_ix (cv 0) c_int) c_int) (cv 0) c_int)
  (c_seq (cset 3 nd (c_bin op_mod g_mod (c_callTy call_int1 g_intc (by rfl) Wd.b_int (by decide +kernel) (c_acons (c_bin op_mul3 g_mul (c_bin op_add4 g_add (c_bin op_add4 g_add (c_ix (cv 0) c_int) (c_bin op_mul3 g_mul c_int (c_ix (cv 0) c_int))) c_int) c_int) c_anil)) c_int))
  (c_seq (cset 3 nd (c_bin op_mod g_mod (c_callTy call_int1 g_intc (by rfl) Wd.b_int (by decide +kernel) (c_acons (c_bin op_mul3 g_mul (cv 3) (c_bin op_add4 g_add (c_bin op_fdiv g_div (cv 3) c_int) c_int)) c_anil)) c_int))
  (c_seq (cset 3 nd (c_bin op_mod g_mod (c_callTy call_int1 g_intc (by rfl) Wd.b_int (by decide +kernel) (c_acons (c_bin op_mul3 g_mul (cv 3) (c_bin op_add4 g_add (c_bin op_fdiv g_div (cv 3) c_int) c_int)) c_anil)) c_int))
  (c_last (c_ret (c_bin op_mod g_mod (c_callTy call_int1 g_intc (by rfl) Wd.b_int (by decide +kernel) (c_acons (c_bin op_fdiv g_div (cv 3) c_int) c_anil)) (cv 1)))))))))

theorem sc__law_seated : FnScope ["_law_kinds", "_law_low", "_law_wide", "_law_falls", "_law_seats", "_law_kind", "_law_k"] ["_law_kinds", "_law_low", "_law_wide", "_law_falls"] (defScope s__law_seated) := ⟨rfl, rfl, rfl, by decide +kernel, rfl, by decide +kernel, by decide +kernel⟩
theorem ok__law_seated {P : Program} {wd : World} {K : PySem.W.Frag} {mg : Str → Option Value} {base : Heap} {Γ : Cls'} (Wd : WdT wd K Γ mg)  {f : Addr} {fd : FuncData} (F : Fun K "_law_seated" "_law_seated" s__law_seated f fd) :
    FnOk P wd K mg base (L2.CX P wd) 1 f fd ["_law_kinds", "_law_low", "_law_wide", "_law_falls"] (spM K Γ m__law_seated) := by
  have nd := sc__law_seated.nd
  exact def_ok F sc__law_seated fun cdv A outer s H E hr => (c_seq (cset 4 nd (c_new c_anil))
  (c_seq (c_for (sl := [5]) (passes_of rfl) rfl (ci_seq (cv 0)) (cgn 5 nd) (c_last (c_for (sl := [6]) (passes_of rfl) rfl (ci_rng1 (by rfl) Wd.b_range (c_ix (cv 5) c_int)) (cgn 6 nd) (c_last (c_expr (c_meth PySem.F.plainAttrs_list PySem.F.slot_list_append PySem.F.type_list_append mt_append gty_list gm_app (cv 4) (c_acons (c_tup (c_acons (c_ix (cv 5) c_int) (c_acons (c_ix (cv 5) c_int) c_anil))) c_anil)))))))
  (c_last (c_ret (c_lst (c_acons (cv 0) (c_acons (cv 1) (c_acons (cv 2) (c_acons (cv 3) (c_acons (cv 4) c_anil))))))))))

theorem sc__law_system : FnScope ["_law_plan", "_law_kinds", "_law_kind"] ["_law_plan"] (defScope s__law_system) := ⟨rfl, rfl, rfl, by decide +kernel, rfl, by decide +kernel, by decide +kernel⟩
theorem ok__law_system {P : Program} {wd : World} {K : PySem.W.Frag} {mg : Str → Option Value} {base : Heap} {Γ : Cls'} (Wd : WdT wd K Γ mg) (K_Kind : Dkk P wd K mg base Γ 4 "Kind" 15 m_Kind___init__ 2 ["block", "many"] gKind) (K_System : Dks P wd K mg base Γ 5 "System" 4 m_System___init__ ["ahead", "window", "crashes"] gSystem) {f : Addr} {fd : FuncData} (F : Fun K "_law_system" "_law_system" s__law_system f fd) :
    FnOk P wd K mg base (L2.CX P wd) 17 f fd ["_law_plan"] (spM K Γ m__law_system) := by
  have nd := sc__law_system.nd
  exact def_ok F sc__law_system fun cdv A outer s H E hr => (c_seq (c_setlcG (i := 1) (own := [("_law_kind", 2)]) (sl := [2]) finL_ok (by decide) rfl nd rfl rfl (sw_true rfl rfl rfl (by decide +kernel)) (ci_seq (c_ix (cv 0) c_int)) (blkOk_by (own := [("_law_kind", 2)]) (N := ["_law_plan", "_law_kinds", "_law_kind"]) (sc := defScope s__law_system) (by decide +kernel)) (fun _ _ _ _ _ => (cgn 2 nd)) (fun _ _ _ _ _ => c_tsnil) (fun _ _ _ _ _ => (c_mkk (ks := ["block", "many"]) trT_ok K_Kind goes_not (hr.mono (by first | decide | omega)) (by rfl) (c_acons (c_ix (cv 2) c_int) (c_acons (c_ix (cv 2) c_int) c_anil)) (c_kcons (c_ix (cv 2) c_int) (c_kcons (c_ix (cv 2) c_int) c_knil)))))
  (c_seq (c_if (c_tcmp (op_eq2 (hu64 hr)) g_eq (c_callB call_len g_len (by rfl) Wd.b_len PySem.boot_len (c_acons (cv 1) c_anil)) c_int (nomark _)) (c_last (c_ret (c_mks (ks := ["ahead", "window", "crashes"]) trT_ok K_System go_def (hr.mono (by first | decide | omega)) (by rfl) (c_acons (c_ix (cv 1) c_int) c_anil) (c_kcons (c_ix (cv 0) c_int) (c_kcons (c_ix (cv 0) c_int) (c_kcons (c_ix (cv 0) c_int) c_knil)))))) c_nil)
  (c_seq (c_if (c_tcmp (op_eq2 (hu64 hr)) g_eq (c_callB call_len g_len (by rfl) Wd.b_len PySem.boot_len (c_acons (cv 1) c_anil)) c_int (nomark _)) (c_last (c_ret (c_mks (ks := ["ahead", "window", "crashes"]) trT_ok K_System go_def (hr.mono (by first | decide | omega)) (by rfl) (c_acons (c_ix (cv 1) c_int) (c_acons (c_ix (cv 1) c_int) c_anil)) (c_kcons (c_ix (cv 0) c_int) (c_kcons (c_ix (cv 0) c_int) (c_kcons (c_ix (cv 0) c_int) c_knil)))))) c_nil)
  (c_last (c_ret (c_mks (ks := ["ahead", "window", "crashes"]) trT_ok K_System go_def (hr.mono (by first | decide | omega)) (by rfl) (c_acons (c_ix (cv 1) c_int) (c_acons (c_ix (cv 1) c_int) (c_acons (c_ix (cv 1) c_int) c_anil))) (c_kcons (c_ix (cv 0) c_int) (c_kcons (c_ix (cv 0) c_int) (c_kcons (c_ix (cv 0) c_int) c_knil)))))))))
end Mm
set_option maxRecDepth 100000
namespace Mm
open PySem L2
theorem sc__law_word : FnScope ["_law_box_here", "_law_most", "_law_last", "_law_letters", "_law_word_here", "_law_k"] ["_law_box_here", "_law_most", "_law_last"] (defScope s__law_word) := ⟨rfl, rfl, rfl, by decide +kernel, rfl, by decide +kernel, by decide +kernel⟩
theorem ok__law_word {P : Program} {wd : World} {K : PySem.W.Frag} {mg : Str → Option Value} {base : Heap} {Γ : Cls'} (Wd : WdT wd K Γ mg) (G__law_pick : Df P wd K mg base Γ "_law_pick" 1 m__law_pick) {f : Addr} {fd : FuncData} (F : Fun K "_law_word" "_law_word" s__law_word f fd) :
    FnOk P wd K mg base (L2.CX P wd) 2 f fd ["_law_box_here", "_law_most", "_law_last"] (spM K Γ m__law_word) := by
  have nd := sc__law_word.nd
  exact def_ok F sc__law_word fun cdv A outer s H E hr => (c_seq (cset 3 nd c_str)
  (c_seq (cset 4 nd c_str)
  (c_seq (c_for (sl := [5]) (passes_of rfl) rfl (ci_rng1 (by rfl) Wd.b_range (c_fn tr0_ok G__law_pick go_def (hr.mono (by first | decide | omega)) (by rfl) (c_acons (cv 0) (c_acons (cv 1) c_anil)))) (cgn 5 nd) (c_last (cset 4 nd (c_bin op_add4 g_add (cv 4) (c_ix (cv 3) (c_fn tr0_ok G__law_pick go_def (hr.mono (by first | decide | omega)) (by rfl) (c_acons (cv 0) (c_acons c_int c_anil))))))))
  (c_last (c_ret (c_bin op_add4 g_add (cv 4) (cv 2)))))))

theorem sc__law_branch : FnScope ["_law_box_here", "_law_room", "_law_nested", "_law_held", "_law_size", "_law_rows_here", "_law_used", "_law_words", "_law_k", "_law_word_here", "_law_yes", "_law_no"] ["_law_box_here", "_law_room", "_law_nested", "_law_held", "_law_size"] (defScope s__law_branch) := ⟨rfl, rfl, rfl, by decide +kernel, rfl, by decide +kernel, by decide +kernel⟩
theorem ok__law_branch {P : Program} {wd : World} {K : PySem.W.Frag} {mg : Str → Option Value} {base : Heap} {Γ : Cls'} (Wd : WdT wd K Γ mg) {m__law_branch : FM} {n : Nat} (hn : 2 ≤ n) (G__law_branch : Df P wd K mg base Γ "_law_branch" n m__law_branch) (G__law_pick : Df P wd K mg base Γ "_law_pick" 1 m__law_pick) (G__law_word : Df P wd K mg base Γ "_law_word" 2 m__law_word) {f : Addr} {fd : FuncData} (F : Fun K "_law_branch" "_law_branch" s__law_branch f fd) :
    FnOk P wd K mg base (L2.CX P wd) (n + 1) f fd ["_law_box_here", "_law_room", "_law_nested", "_law_held", "_law_size"] (spM K Γ (m__law_branch' m__law_branch)) := by
  have nd := sc__law_branch.nd
  exact def_ok F sc__law_branch fun cdv A outer s H E hr => (c_seq (cset 5 nd (c_new c_anil))
  (c_seq (cset 6 nd c_int)
  (c_seq (cset 7 nd (c_lst (c_acons c_str (c_acons c_str (c_acons c_str (c_acons c_str (c_acons c_str (c_acons c_str (c_acons c_str (c_acons c_str (c_acons c_str (c_acons c_str c_anil))))))))))))
  (c_seq (c_for (sl := [8]) (passes_of rfl) rfl (ci_rng1 (by rfl) Wd.b_range (cv 4)) (cgn 8 nd) (c_seq (cset 9 nd (c_ix (cv 7) (c_fn tr0_ok G__law_pick go_def (hr.mono (by first | decide | omega)) (by rfl) (c_acons (cv 0) (c_acons c_int c_anil)))))
  (c_last (c_if (c_tcmp op_lt g_lt (cv 6) (cv 1) (nomark _)) (c_seq (cset 6 nd (c_bin op_add4 g_add (cv 6) c_int))
  (c_last (c_if (c_wt (c_wand (c_tcmp (op_eq2 (hu64 hr)) g_eq (cv 9) c_str (nomark _)) (c_wand1 (c_tcmp op_lt g_lt (cv 2) c_int (nomark _))))) (c_seq (cset 10 nd (c_fn trT_ok G__law_branch go_def (hr.mono (by first | decide | omega)) (by rfl) (c_acons (cv 0) (c_acons (c_bin op_fdiv g_div (c_bin op_add4 g_add (c_bin op_sub g_sub (cv 1) (cv 6)) c_int) c_int) (c_acons (c_bin op_add4 g_add (cv 2) c_int) (c_acons (cv 3) (c_acons (c_fn tr0_ok G__law_pick go_def (hr.mono (by first | decide | omega)) (by rfl) (c_acons (cv 0) (c_acons c_int c_anil))) c_anil)))))))
  (c_seq (cset 6 nd (c_bin op_add4 g_add (cv 6) (c_ix (cv 10) c_int)))
  (c_seq (cset 11 nd (c_fn trT_ok G__law_branch go_def (hr.mono (by first | decide | omega)) (by rfl) (c_acons (cv 0) (c_acons (c_bin op_sub g_sub (cv 1) (cv 6)) (c_acons (c_bin op_add4 g_add (cv 2) c_int) (c_acons (cv 3) (c_acons (c_fn tr0_ok G__law_pick go_def (hr.mono (by first | decide | omega)) (by rfl) (c_acons (cv 0) (c_acons c_int c_anil))) c_anil)))))))
  (c_seq (cset 6 nd (c_bin op_add4 g_add (cv 6) (c_ix (cv 11) c_int)))
  (c_seq (cset 3 nd (c_callB (call_max2 rfl) g_max2 (by rfl) Wd.b_max (by decide +kernel) (c_acons (c_ix (cv 10) c_int) (c_acons (c_ix (cv 11) c_int) c_anil))))
  (c_last (c_expr (c_meth PySem.F.plainAttrs_list PySem.F.slot_list_append PySem.F.type_list_append mt_append gty_list gm_app (cv 5) (c_acons (c_tup (c_acons c_str (c_acons (c_ix (cv 10) c_int) (c_acons (c_ix (cv 11) c_int) c_anil)))) c_anil))))))))) (c_last (c_if (c_tcmp op_in_seq g_inF (cv 9) (c_lst (c_acons c_str (c_acons c_str (c_acons c_str c_anil)))) (by rfl)) (c_last (c_expr (c_meth PySem.F.plainAttrs_list PySem.F.slot_list_append PySem.F.type_list_append mt_append gty_list gm_app (cv 5) (c_acons (c_tup (c_acons (c_ix (c_lst (c_acons c_str (c_acons c_str c_anil))) (c_callTy call_int1 g_intc (by rfl) Wd.b_int (by decide +kernel) (c_acons (c_cmp (op_eq2 (hu64 hr)) g_eq (cv 9) c_str (nomark _)) c_anil))) (c_acons (c_fn tr0_ok G__law_word go_def (hr.mono (by first | decide | omega)) (by rfl) (c_acons (cv 0) (c_acons c_int (c_acons (c_ix c_str (c_fn tr0_ok G__law_pick go_def (hr.mono (by first | decide | omega)) (by rfl) (c_acons (cv 0) (c_acons c_int c_anil)))) c_anil)))) c_anil))) c_anil)))) (c_last (c_if (c_wt (c_wand (c_tcmp (op_eq2 (hu64 hr)) g_eq (cv 9) c_str (nomark _)) (c_wand1 (c_tcmp op_lt g_lt (cv 3) c_int (nomark _))))) (c_seq (c_expr (c_meth PySem.F.plainAttrs_list PySem.F.slot_list_append PySem.F.type_list_append mt_append gty_list gm_app (cv 5) (c_acons (c_tup (c_acons (cv 9) c_anil)) c_anil)))
  (c_last (cset 3 nd (c_bin op_add4 g_add (cv 3) c_int)))) (c_seq (cset 9 nd (c_ix (c_lst (c_acons c_str (c_acons (cv 9) c_anil))) (c_callTy call_int1 g_intc (by rfl) Wd.b_int (by decide +kernel) (c_acons (c_cmp op_in_seq g_inF (cv 9) (c_lst (c_acons c_str (c_acons c_str (c_acons c_str c_anil)))) (by rfl)) c_anil))))
  (c_seq (c_expr (c_meth PySem.F.plainAttrs_list PySem.F.slot_list_append PySem.F.type_list_append mt_append gty_list gm_app (cv 5) (c_acons (c_tup (c_acons (cv 9) c_anil)) c_anil)))
  (c_last (cset 3 nd (c_bin op_mul3 g_mul (cv 3) (c_callTy call_int1 g_intc (by rfl) Wd.b_int (by decide +kernel) (c_acons (c_cmp (op_eq2 (hu64 hr)) g_eq (cv 9) c_str (nomark _)) c_anil)))))))))))))) c_nil))))
  (c_last (c_ret (c_lst (c_acons (c_callTy call_tuple_of g_tuple (by rfl) Wd.b_tuple (by decide +kernel) (c_acons (cv 5) c_anil)) (c_acons (cv 6) (c_acons (cv 3) c_anil))))))))))

theorem sc__law_text_plan : FnScope ["_law_box_here", "_law_kinds", "_law_shape", "_law_room", "_law_k", "_law_row", "_law_word_here", "_law_wide"] ["_law_box_here"] (defScope s__law_text_plan) := ⟨rfl, rfl, rfl, by decide +kernel, rfl, by decide +kernel, by decide +kernel⟩
theorem ok__law_text_plan {P : Program} {wd : World} {K : PySem.W.Frag} {mg : Str → Option Value} {base : Heap} {Γ : Cls'} (Wd : WdT wd K Γ mg) (G__law_branch : Df P wd K mg base Γ "_law_branch" 5 m__law_branch) (G__law_pick : Df P wd K mg base Γ "_law_pick" 1 m__law_pick) (G__law_seated : Df P wd K mg base Γ "_law_seated" 1 m__law_seated) (G__law_word : Df P wd K mg base Γ "_law_word" 2 m__law_word) {f : Addr} {fd : FuncData} (F : Fun K "_law_text_plan" "_law_text_plan" s__law_text_plan f fd) :
    FnOk P wd K mg base (L2.CX P wd) 6 f fd ["_law_box_here"] (spM K Γ m__law_text_plan) := by
  have nd := sc__law_text_plan.nd
  exact def_ok F sc__law_text_plan fun cdv A outer s H E hr => (c_seq (cset 1 nd (c_new c_anil))
  (c_seq (cset 2 nd (c_fn tr0_ok G__law_pick go_def (hr.mono (by first | decide | omega)) (by rfl) (c_acons (cv 0) (c_acons c_int c_anil))))
  (c_seq (cset 3 nd (c_ix (c_lst (c_acons c_int (c_acons c_int (c_acons c_int (c_acons c_int (c_acons c_int (c_acons c_int c_anil))))))) (cv 2)))
  (c_seq (c_for (sl := [4]) (passes_of rfl) rfl (ci_rng1 (by rfl) Wd.b_range (c_ix (c_lst (c_acons c_int (c_acons c_int (c_acons c_int (c_acons c_int (c_acons c_int (c_acons c_int c_anil))))))) (cv 2))) (cgn 4 nd) (c_seq (cset 5 nd (c_fn trT_ok G__law_branch go_def (hr.mono (by first | decide | omega)) (by rfl) (c_acons (cv 0) (c_acons (cv 3) (c_acons c_int (c_acons c_int (c_acons (c_bin op_add4 g_add c_int (c_fn tr0_ok G__law_pick go_def (hr.mono (by first | decide | omega)) (by rfl) (c_acons (cv 0) (c_acons c_int c_anil)))) c_anil)))))))
  (c_seq (cset 6 nd (c_fn tr0_ok G__law_word go_def (hr.mono (by first | decide | omega)) (by rfl) (c_acons (cv 0) (c_acons c_int (c_acons (c_ix c_str (cv 4)) c_anil)))))
  (c_last (c_expr (c_meth PySem.F.plainAttrs_list PySem.F.slot_list_append PySem.F.type_list_append mt_append gty_list gm_app (cv 1) (c_acons (c_tup (c_acons (cv 6) (c_acons (c_ix (cv 5) c_int) (c_acons (c_bin op_add4 g_add c_int (c_fn tr0_ok G__law_pick go_def (hr.mono (by first | decide | omega)) (by rfl) (c_acons (cv 0) (c_acons c_int c_anil)))) (c_acons (c_bin op_add4 g_add c_int (c_callTy call_int1 g_intc (by rfl) Wd.b_int (by decide +kernel) (c_acons (c_and (c_cmp op_in_seq g_inF (cv 2) (c_lst (c_acons c_int (c_acons c_int c_anil))) (by rfl)) (c_one (c_cmp (op_eq2 (hu64 hr)) g_eq (cv 4) c_int (nomark _)))) c_anil))) c_anil))))) c_anil)))))))
  (c_seq (cset 7 nd (c_ix (c_lst (c_acons c_non (c_acons c_non (c_acons c_int (c_acons c_int (c_acons c_int (c_acons c_int (c_acons c_int (c_acons c_int c_anil))))))))) (c_fn tr0_ok G__law_pick go_def (hr.mono (by first | decide | omega)) (by rfl) (c_acons (cv 0) (c_acons c_int c_anil)))))
  (c_last (c_ret (c_fn trT_ok G__law_seated go_def (hr.mono (by first | decide | omega)) (by rfl) (c_acons (cv 1) (c_acons (c_fn tr0_ok G__law_pick go_def (hr.mono (by first | decide | omega)) (by rfl) (c_acons (cv 0) (c_acons c_int c_anil))) (c_acons (cv 7) (c_acons (c_fn tr0_ok G__law_pick go_def (hr.mono (by first | decide | omega)) (by rfl) (c_acons (cv 0) (c_acons c_int c_anil))) c_anil))))))))))))

theorem sc__law_rows : FnScope ["_law_statements", "_law_indent", "_law_rows_here", "_law_row"] ["_law_statements", "_law_indent"] (defScope s__law_rows) := ⟨rfl, rfl, rfl, by decide +kernel, rfl, by decide +kernel, by decide +kernel⟩
theorem ok__law_rows {P : Program} {wd : World} {K : PySem.W.Frag} {mg : Str → Option Value} {base : Heap} {Γ : Cls'} (Wd : WdT wd K Γ mg) {m__law_rows : FM} {n : Nat} (hn : 1 ≤ n) (G__law_rows : Df P wd K mg base Γ "_law_rows" n m__law_rows) {f : Addr} {fd : FuncData} (F : Fun K "_law_rows" "_law_rows" s__law_rows f fd) :
    FnOk P wd K mg base (L2.CX P wd) (n + 1) f fd ["_law_statements", "_law_indent"] (spM K Γ (m__law_rows' m__law_rows)) := by
  have nd := sc__law_rows.nd
  exact def_ok F sc__law_rows fun cdv A outer s H E hr => (c_seq (cset 2 nd (c_new c_anil))
  (c_seq (c_for (sl := [3]) (passes_of rfl) rfl (ci_seq (cv 0)) (cgn 3 nd) (c_last (c_if (c_tcmp (op_eq2 (hu64 hr)) g_eq (c_ix (cv 3) c_int) c_str (nomark _)) (c_seq (c_expr (c_meth PySem.F.plainAttrs_list PySem.F.slot_list_append PySem.F.type_list_append mt_append gty_list gm_app (cv 2) (c_acons (c_bin op_add4 g_add (c_bin op_mulS g_mulS c_str (cv 1)) c_str) c_anil)))
  (c_seq (c_expr (c_meth PySem.F.plainAttrs_list PySem.F.slot_list_append PySem.F.type_list_append mt_append gty_list gm_app (cv 2) (c_acons (c_bin op_add4 g_add (c_bin op_mulS g_mulS c_str (cv 1)) c_str) c_anil)))
  (c_seq (c_expr (c_meth PySem.F.plainAttrs_list PySem.F.slot_list_extend PySem.F.type_list_extend mt_ext2 gty_list gm_ext2 (cv 2) (c_acons (c_fn trT_ok G__law_rows go_def (hr.mono (by first | decide | omega)) (by rfl) (c_acons (c_ix (cv 3) c_int) (c_acons (c_bin op_add4 g_add (cv 1) c_int) c_anil))) c_anil)))
  (c_seq (c_expr (c_meth PySem.F.plainAttrs_list PySem.F.slot_list_append PySem.F.type_list_append mt_append gty_list gm_app (cv 2) (c_acons (c_bin op_add4 g_add (c_bin op_mulS g_mulS c_str (cv 1)) c_str) c_anil)))
  (c_last (c_expr (c_meth PySem.F.plainAttrs_list PySem.F.slot_list_extend PySem.F.type_list_extend mt_ext2 gty_list gm_ext2 (cv 2) (c_acons (c_fn trT_ok G__law_rows go_def (hr.mono (by first | decide | omega)) (by rfl) (c_acons (c_ix (cv 3) c_int) (c_acons (c_bin op_add4 g_add (cv 1) c_int) c_anil))) c_anil)))))))) (c_last (c_expr (c_meth PySem.F.plainAttrs_list PySem.F.slot_list_append PySem.F.type_list_append mt_append gty_list gm_app (cv 2) (c_acons (c_bin op_add4 g_add (c_bin op_mulS g_mulS c_str (cv 1)) (c_meth PySem.F.plainAttrs_str PySem.F.slot_str_join PySem.F.type_str_join mt_join gty_str gm_join c_str (c_acons (c_callTy call_list_of g_list (by rfl) Wd.b_list (by decide +kernel) (c_acons (cv 3) c_anil)) c_anil))) c_anil)))))))
  (c_last (c_ret (cv 2)))))
end Mm
set_option maxRecDepth 100000
namespace Mm
open PySem L2
theorem sc__law_lines : FnScope ["_law_plan", "_law_word_here", "_law_head", "_law_rows_here", "_law_kind"] ["_law_plan"] (defScope s__law_lines) := ⟨rfl, rfl, rfl, by decide +kernel, rfl, by decide +kernel, by decide +kernel⟩
theorem ok__law_lines {P : Program} {wd : World} {K : PySem.W.Frag} {mg : Str → Option Value} {base : Heap} {Γ : Cls'} (Wd : WdT wd K Γ mg) (G__law_rows : Df P wd K mg base Γ "_law_rows" 4 m__law_rows) {f : Addr} {fd : FuncData} (F : Fun K "_law_lines" "_law_lines" s__law_lines f fd) :
    FnOk P wd K mg base (L2.CX P wd) 5 f fd ["_law_plan"] (spM K Γ m__law_lines) := by
  have nd := sc__law_lines.nd
  exact def_ok F sc__law_lines fun cdv A outer s H E hr => (c_seq (cset 1 nd c_str)
  (c_seq (c_if (c_tcmp op_notN g_notN (c_ix (cv 0) c_int) c_non (nomark _)) (c_last (cset 1 nd (c_callTy call_str_int g_strI (by rfl) Wd.b_str (by decide +kernel) (c_acons (c_ix (cv 0) c_int) c_anil)))) c_nil)
  (c_seq (cset 2 nd (c_bin op_add4 g_add (c_bin op_add4 g_add (c_bin op_add4 g_add c_str (c_callTy call_str_int g_strI (by rfl) Wd.b_str (by decide +kernel) (c_acons (c_ix (cv 0) c_int) c_anil))) c_str) (cv 1)))
  (c_seq (cset 3 nd (c_new (c_acons (c_bin op_add4 g_add (c_bin op_add4 g_add (cv 2) c_str) (c_callTy call_str_int g_strI (by rfl) Wd.b_str (by decide +kernel) (c_acons (c_ix (cv 0) c_int) c_anil))) c_anil)))
  (c_seq (c_for (sl := [4]) (passes_of rfl) rfl (ci_seq (c_ix (cv 0) c_int)) (cgn 4 nd) (c_seq (cset 2 nd (c_bin op_add4 g_add (c_bin op_add4 g_add (c_bin op_add4 g_add c_str (c_ix (cv 4) c_int)) c_str) (c_callTy call_str_int g_strI (by rfl) Wd.b_str (by decide +kernel) (c_acons (c_ix (cv 4) c_int) c_anil))))
  (c_seq (c_expr (c_meth PySem.F.plainAttrs_list PySem.F.slot_list_append PySem.F.type_list_append mt_append gty_list gm_app (cv 3) (c_acons (c_bin op_add4 g_add (c_bin op_add4 g_add (cv 2) c_str) (c_callTy call_str_int g_strI (by rfl) Wd.b_str (by decide +kernel) (c_acons (c_ix (cv 4) c_int) c_anil))) c_anil)))
  (c_last (c_expr (c_meth PySem.F.plainAttrs_list PySem.F.slot_list_extend PySem.F.type_list_extend mt_ext2 gty_list gm_ext2 (cv 3) (c_acons (c_fn trT_ok G__law_rows go_def (hr.mono (by first | decide | omega)) (by rfl) (c_acons (c_ix (cv 4) c_int) (c_acons c_int c_anil))) c_anil)))))))
  (c_last (c_ret (cv 3))))))))

theorem sc_law : FnScope ["_law_script", "_law_plan", "_law_system_here", "_law_due", "_law_row", "_law_told"] ["_law_script"] (defScope s_law) := ⟨rfl, rfl, rfl, by decide +kernel, rfl, by decide +kernel, by decide +kernel⟩
theorem ok_law {P : Program} {wd : World} {K : PySem.W.Frag} {mg : Str → Option Value} {base : Heap} {Γ : Cls'} (Wd : WdT wd K Γ mg) (G__law_box : Df P wd K mg base Γ "_law_box" 1 m__law_box) (G__law_lines : Df P wd K mg base Γ "_law_lines" 5 m__law_lines) (G__law_system : Df P wd K mg base Γ "_law_system" 17 m__law_system) (G__law_text_plan : Df P wd K mg base Γ "_law_text_plan" 6 m__law_text_plan) (G_write_system : Df P wd K mg base Γ "write_system" 6 m_write_system) {f : Addr} {fd : FuncData} (F : Fun K "law" "law" s_law f fd) :
    FnOk P wd K mg base (L2.CX P wd) 18 f fd ["_law_script"] (spM K Γ m_law) := by
  have nd := sc_law.nd
  exact def_ok F sc_law fun cdv A outer s H E hr => (c_seq (cset 1 nd (c_fn trT_ok G__law_text_plan go_def (hr.mono (by first | decide | omega)) (by rfl) (c_acons (c_fn tr0_ok G__law_box go_def (hr.mono (by first | decide | omega)) (by rfl) (c_acons (cv 0) (c_acons c_int c_anil))) c_anil)))
  (c_seq (cset 2 nd (c_fn trT_ok G__law_system go_def (hr.mono (by first | decide | omega)) (by rfl) (c_acons (cv 1) c_anil)))
  (c_seq (cset 3 nd (c_meth PySem.F.plainAttrs_str PySem.F.slot_str_join PySem.F.type_str_join mt_join gty_str gm_join c_str (c_acons (c_lcG (own := [("_law_row", 4)]) (sl := [4]) finL_ok (by decide) rfl nd (ci_seq (c_fn trT_ok G__law_lines go_def (hr.mono (by first | decide | omega)) (by rfl) (c_acons (cv 1) c_anil))) (blkOk_by (own := [("_law_row", 4)]) (N := ["_law_script", "_law_plan", "_law_system_here", "_law_due", "_law_row", "_law_told"]) (sc := defScope s_law) (by decide +kernel)) (fun _ _ _ _ _ => (cgn 4 nd)) (fun _ _ _ _ _ => c_tsnil) (fun _ _ _ _ _ => (c_bin op_add4 g_add (cv 4) c_str))) c_anil)))
  (c_seq (cset 5 nd (c_fn trT_ok G_write_system go_def (hr.mono (by first | decide | omega)) (by rfl) (c_acons (cv 2) c_anil)))
  (c_last (c_ret (c_and (c_isiT (T := "str") Wd.nolk Wd.b_isinstance Wd.b_str (by decide +kernel) (cv 5)) (c_and (c_cmp (op_eq2 (hu64 hr)) g_eq (cv 5) (cv 3) (nomark _)) (c_one (c_cmp (op_eq2 (hu64 hr)) g_eq (c_fn trT_ok G_write_system go_def (hr.mono (by first | decide | omega)) (by rfl) (c_acons (cv 2) c_anil)) (cv 3) (nomark _)))))))))))
end Mm
set_option maxRecDepth 100000
namespace Mm
open PySem L2 StK StX
/-! a law's end: law-independent but for its level -/
def spLawR (K : PySem.W.Frag) : Sp := fun vs H Q _ => ∃ (a : Addr) (ns : List Int), vs = [.ref a] ∧ FzL K H a (ns.map V.int) ∧ ns.length ≤ 63 ∧ ∀ H', Q (.bl true) H'
theorem fz_only {K : PySem.W.Frag} {H : Hp} {a : Addr} {xs : List V} (o : Only H) (h : SqL K H a xs) : FzL K H a xs := by
  rcases h with (h | ⟨u, h⟩) | h
  · rcases o a with e | ⟨u, ys, e⟩
    · rw [h] at e; cases e
    · rw [h] at e; cases e
  · exact .inl ⟨u, h⟩
  · exact .inr fun H' => .inr h
theorem law_fn {P : Program} {wd : World} {K : PySem.W.Frag} {mg : Str → Option Value} {base : Heap} {Γ : Cls'} {k : Nat} {f : Addr} {fd : FuncData} {ps : List Str} (F : FnOk P wd K mg base (L2.CX P wd) k f fd ps (spM K Γ m_law)) : FnOk P wd K mg base (L2.CX P wd) k f fd ps (spLawR K) := by
  have i : ∀ vs H Q E, spLawR K vs H Q E → spM K Γ m_law vs H Q E := fun vs H Q E ⟨a, ns, ev, h, hl, q⟩ => by
    subst ev
    obtain ⟨S, e⟩ := law_ok ns hl
    refine ⟨⟨fun _ => 0, fun _ => False⟩, [], [.fz ns], ⟨fun k o h => (by simp at h), fun i j hi => absurd hi (Nat.not_lt_zero _), fun k hk => absurd hk (Nat.not_lt_zero _), fun a h => h.elim⟩, .one (by unfold At; exact ⟨a, rfl, h⟩), ?_⟩
    rw [e]
    intro c' H' v _ _ av
    rw [av.bl]
    exact q H'
  exact ⟨fun vs H Q E h => F.len vs H Q E (i vs H Q E h), fun A outer s H args us vs Q E hr e0 b r h => F.run A outer s H args us vs Q E hr e0 b r (i vs H Q E h)⟩
theorem walkR {l : PySem.W.OpenLaw} {q : Program} {loose : List Str} {XP : (Str → Option Value) → Heap → Prop} {YP : World → Heap → Prop} {d : DefRec} {K : Params → PySem.W.Frag} (hn : l.most = some 63) (hdf : d.params.defaults = [])
    (hY : ∀ (w : World) (h : Heap), YP w h → (K w.params).In h)
    (F : ∀ (w : World) (mg : Str → Option Value) (fa : Addr) (h : Heap), (K w.params).In h → h.Ns mainGlobals mg → mg d.name = some (.ref fa) →
      ∃ fd : FuncData, (∀ (s : Shared) (u : Value), BindsTo s fd ⟨[u], []⟩ [("_law_script", u)]) ∧ ∀ base : Heap, (K w.params).In base → base.Ns mainGlobals mg → FnOk l.prog w (K w.params) mg base (L2.CX l.prog w) 18 fa fd ["_law_script"] (spLawR (K w.params))) :
    PySem.W.WalkO q loose XP YP l.row.toRowW d [] (fun f vs => PySem.call f vs) :=
  L2.walk_of (n := 63) (k := 18) (x := "_law_script") (CX := fun w => L2.CX l.prog w) (sp := fun w => spLawR (K w.params)) hn (by decide) hdf ⟨rfl, by decide, by decide⟩ hY F (fun _ _ a ns hl o hS => ⟨a, ns, rfl, fz_only o hS, hl, fun _ => rfl⟩) fun _ _ _ _ _ ⟨_, _, _, _, _, _, _, _, _, _, _, _, z⟩ => z
/-- the two methods that call each other, n deep -/
theorem checksR {P : Program} {wd : World} {K : PySem.W.Frag} {mg : Str → Option Value} {base : Heap} {Γ : Cls'} (Wd : WdT wd K Γ mg) (G_fault_of : Df P wd K mg base Γ "fault_of" 2 m_fault_of) (G_held_after : Df P wd K mg base Γ "held_after" 1 m_held_after)
    {C fb fs : Addr} {fdb fds : FuncData} (Fb : Fun K "check_branch" "Check.check_branch" s_Check_check_branch fb fdb) (Fs : Fun K "check_statement" "Check.check_statement" s_Check_check_statement fs fds) (bb : Binds K fdb ["self", "branch", "above", "held"] []) (bs : Binds K fds ["self", "statement", "place", "held"] [])
    (gC : Γ.at_ 2 = some C) (cl : Cls K C) (mb : Meth K C "check_branch" fb) (ms : Meth K C "check_statement" fs) (nb : ("check_branch" : Str) ∉ Γ.fs 2) (ns : ("check_statement" : Str) ∉ Γ.fs 2) :
    ∀ n : Nat, Dm P wd K mg base Γ 2 "check_branch" (5 + n) (mCC n).1 ∧ Dm P wd K mg base Γ 2 "check_statement" (5 + n) (mCC n).2
  | 0 => ⟨⟨⟨C, fb, fdb, _, gC, cl, mb, def_ok (k := 4) Fb sc_Check_check_branch fun cdv A outer s H E hr => c_bads, bb⟩, nb⟩, ⟨⟨C, fs, fds, _, gC, cl, ms, def_ok (k := 4) Fs sc_Check_check_statement fun cdv A outer s H E hr => c_bads, bs⟩, ns⟩⟩
  | n + 1 => by
    obtain ⟨ib, is⟩ := checksR Wd G_fault_of G_held_after Fb Fs bb bs gC cl mb ms nb ns n
    exact ⟨⟨⟨C, fb, fdb, _, gC, cl, mb, ok_Check_check_branch Wd (by omega) is Fb, bb⟩, nb⟩, ⟨⟨C, fs, fds, _, gC, cl, ms, ok_Check_check_statement Wd (n := 5 + n) (by omega) ib G_fault_of G_held_after Fs, bs⟩, ns⟩⟩
/-- the branch that calls itself, n deep -/
theorem branchR {P : Program} {wd : World} {K : PySem.W.Frag} {mg : Str → Option Value} {base : Heap} {Γ : Cls'} (Wd : WdT wd K Γ mg) (Gd : Df P wd K mg base Γ "_law_pick" 1 m__law_pick) (Gs : Df P wd K mg base Γ "_law_word" 2 m__law_word) {f : Addr} {fd : FuncData} (F : Fun K "_law_branch" "_law_branch" s__law_branch f fd)
    (hb : Binds K fd ["_law_box_here", "_law_room", "_law_nested", "_law_held", "_law_size"] []) (hk : PySem.W.keepIn K (.ref f) = true) (hm : mg "_law_branch" = some (.ref f)) : ∀ n : Nat, Df P wd K mg base Γ "_law_branch" (2 + n) (mLB n)
  | 0 => ⟨f, fd, _, def_ok (k := 1) F sc__law_branch fun cdv A outer s H E hr => c_bads, hb, hk, hm⟩
  | n + 1 => ⟨f, fd, _, ok__law_branch Wd (n := 2 + n) (by omega) (branchR Wd Gd Gs F hb hk hm n) Gd Gs F, hb, hk, hm⟩
theorem rowsR {P : Program} {wd : World} {K : PySem.W.Frag} {mg : Str → Option Value} {base : Heap} {Γ : Cls'} (Wd : WdT wd K Γ mg) (Gi : Df P wd K mg base Γ "indented" 1 m_indented) {f : Addr} {fd : FuncData} (F : Fun K "rows_of" "rows_of" s_rows_of f fd)
    (hb : Binds K fd ["statements", "indent"] []) (hk : PySem.W.keepIn K (.ref f) = true) (hm : mg "rows_of" = some (.ref f)) : ∀ n : Nat, Df P wd K mg base Γ "rows_of" (2 + n) (mRO n)
  | 0 => ⟨f, fd, _, def_ok (k := 1) F sc_rows_of fun cdv A outer s H E hr => c_bads, hb, hk, hm⟩
  | n + 1 => ⟨f, fd, _, ok_rows_of Wd Gi (n := 2 + n) (by omega) (rowsR Wd Gi F hb hk hm n) F, hb, hk, hm⟩
theorem lrowsR {P : Program} {wd : World} {K : PySem.W.Frag} {mg : Str → Option Value} {base : Heap} {Γ : Cls'} (Wd : WdT wd K Γ mg) {f : Addr} {fd : FuncData} (F : Fun K "_law_rows" "_law_rows" s__law_rows f fd)
    (hb : Binds K fd ["_law_statements", "_law_indent"] []) (hk : PySem.W.keepIn K (.ref f) = true) (hm : mg "_law_rows" = some (.ref f)) : ∀ n : Nat, Df P wd K mg base Γ "_law_rows" (1 + n) (mLR n)
  | 0 => ⟨f, fd, _, def_ok (k := 0) F sc__law_rows fun cdv A outer s H E hr => c_bads, hb, hk, hm⟩
  | n + 1 => ⟨f, fd, _, ok__law_rows Wd (n := 1 + n) (by omega) (lrowsR Wd F hb hk hm n) F, hb, hk, hm⟩
abbrev psY : List Str := ["self", "ahead", "window", "crashes"]
theorem bindY1 (D : Addr) (doc pm cdv ct : Value) (an : Option Addr) : ∀ us rest mv ws : List Value, us.length = 1 → mv.length = 0 → ws.length = 3 →
    KwTail D (([] : List Str).zip mv) (bindArgs (PySem.W.fnOf "__init__" "System.__init__" (defArgs s_System___init__) (defBody s_System___init__) (defScope s_System___init__) .none (.ref D) doc pm an cdv ct) ⟨us ++ rest, (["ahead", "window", "crashes"] : List Str).zip ws⟩) (newTuple rest >>= fun t => pure (psY.zip (us ++ ws) ++ [(("kinds" : Str), t)]))
  | [u], [], [], [a, w, c], _, _, _ => rfl
  | [u], r :: rs, [], [a, w, c], _, _, _ => rfl
/-- a def's body, read -/
theorem body_read {K : PySem.W.Frag} {Γ : Cls'} {N ps : List Str} {b : SM} {vs : List V} {H : Hp} {Q : VK} {E : XK} (h : spM K Γ (runDef ps.length N.length b) vs H Q E) : mS ⟨K, Γ⟩ (fun C dd _ H => E C dd H) b { nx := fun _ H' => Q .non H', rt := Q } (L2.start N vs) H := by
  obtain ⟨c, S, ds, r, t, h⟩ := h
  unfold runDef at h
  by_cases hl : ds.length = ps.length
  · rw [if_pos hl, ← hl] at h
    refine ⟨c, _, S, r, envR_start t, ?_⟩
    cases hx : b (ds.map some ++ List.replicate (N.length - ds.length) none) S with
    | next env' S' => rw [hx] at h; exact fun c2 H2 s2 e2 r2 a2 => h c2 H2 .non e2 r2 .o
    | ret d S' => rw [hx] at h; exact fun c2 H2 v e2 r2 a2 => h c2 H2 v e2 r2 a2
    | ex x env' S' => rw [hx] at h; exact fun c2 H2 s2 C dd e2 r2 a2 xa => h c2 H2 C dd e2 r2 xa
    | brk env' S' => rw [hx] at h; exact h.elim
    | cnt env' S' => rw [hx] at h; exact h.elim
    | bad => rw [hx] at h; exact h.elim
  · rw [if_neg hl] at h; exact h.elim
/-- System(.., ahead=, window=, crashes=) -/
theorem sys_ks {P : Program} {wd : World} {K : PySem.W.Frag} {mg : Str → Option Value} {base : Heap} {Γ : Cls'} (Wd : WdT wd K Γ mg) (G : Df P wd K mg base Γ "fault_of_system" 3 m_fault_of_system) {C f KY : Addr} {oc doc pm cdv ct : Value} {od an : Option Addr} {osl : Array (Option Value)}
    (lk : K.lookup f = some ⟨oc, od, .func (PySem.W.fnOf "__init__" "System.__init__" (defArgs s_System___init__) (defBody s_System___init__) (defScope s_System___init__) .none (.ref KY) doc pm an cdv ct), osl⟩) (hcd : PySem.W.codeIn K cdv "System.__init__" = true)
    (gC : Γ.at_ 5 = some C) (hm : mg "System" = some (.ref C)) (M : Mk K C f) : Dks P wd K mg base Γ 5 "System" 4 m_System___init__ ["ahead", "window", "crashes"] gSystem :=
  ⟨C, f, fun ws zs => ws ++ zs, gC, hm, M,
    fn_starK (n := 1) (ks := ["ahead", "window", "crashes"]) (ps := psY) (pv := "kinds") (ms := []) (sp := spM K Γ m_System___init__) lk hcd sc_System___init__ cxUp (fun q hq => by cases hq) (fun us mv ws => us ++ ws) (fun a b c => a.append c) (fun us mv ws h1 h2 h3 => by
        rw [List.length_append, h1, h3]; rfl) (bindY1 KY doc pm cdv ct an) fun A outer s H vs Q E hr h => ⟨_, ok_System___init__ Wd G cdv f A outer s H E hr, body_read (ps := psY ++ [("kinds" : Str)]) (N := ["self", "ahead", "window", "crashes", "kinds", "why", "kind", "index"]) h⟩,
    fun c H j x v es zs a b hl => .cons a b⟩
/-- Kind(name, script, block=.., many=..) -/
theorem kind_kk {P : Program} {wd : World} {K : PySem.W.Frag} {mg : Str → Option Value} {base : Heap} {Γ : Cls'} (Wd : WdT wd K Γ mg) (G1 : Df P wd K mg base Γ "is_name" 1 m_is_name) (G2 : Df P wd K mg base Γ "is_within" 2 m_is_within) (G3 : Df P wd K mg base Γ "script_of" 14 m_script_of) {C f : Addr} {fd : FuncData}
    (F : FunD K "__init__" "Kind.__init__" (defArgs s_Kind___init__) (defBody s_Kind___init__) (defScope s_Kind___init__) [] [("block", .int 1), ("many", .int 1)] f fd) (gC : Γ.at_ 4 = some C) (hm : mg "Kind" = some (.ref C)) (M : Mk K C f) : Dkk P wd K mg base Γ 4 "Kind" 15 m_Kind___init__ 2 ["block", "many"] gKind := by
  obtain ⟨mv, hb⟩ := F.kbinds0 (ps := ["self", "name", "script", "block", "many"]) 3 ["block", "many"] [] (fun us mv ws => us ++ ws ++ mv) (by simp) (fun q hq => by cases hq) (fun r1 r2 r3 => (r1.append r3).append r2)
    (fun _ _ _ _ _ _ us mv ws h1 h2 h3 => match us, mv, ws, h1, h2, h3 with | [_, _, _], [], [_, _], _, _, _ => rfl)
  refine ⟨C, f, fd, _, _, _, gC, hm, M, ok_Kind___init__ Wd G1 G2 G3 F, hb, ?_⟩
  intro c H j x v ds es vs zs a b d l1 l2
  show Ats _ _ _ _ (x :: (ds ++ es)) ((v :: vs) ++ zs ++ [])
  rw [List.append_nil, List.cons_append]
  exact .cons a (b.app d)
end Mm
set_option maxRecDepth 100000
namespace Mm
open PySem L2 StK PyProof.Rows
def gfs : Nat → List Str := fun k => (([[], ["statements", "found", "places"], ["found"], [], ["name", "script", "block", "many"], ["kinds", "ahead", "window", "crashes", "sessions"]] : List (List Str))[k]?).getD []
abbrev Gam (C_Script C_Check C_Kind C_System : Addr) : Cls' := ⟨fun k => (([none, some C_Script, some C_Check, none, some C_Kind, some C_System] : List (Option Addr))[k]?).join, gfs, none, none⟩
theorem lookup_mem : ∀ {l : List (Str × Int)} {z : Str} {i : Int}, l.lookup z = some i → (z, i) ∈ l
  | [], z, i, h => by cases h
  | (a, b) :: l, z, i, h => by
    rw [List.lookup_cons] at h
    cases e : (z == a) with
    | true => rw [e] at h; cases h; rw [eq_of_beq e]; exact List.mem_cons_self ..
    | false => rw [e] at h; exact List.mem_cons_of_mem _ (lookup_mem h)
theorem ve_ok {CT : Addr} : PySem.HandSPX.refsVE [.ref CT, .type "ValueError", .type "Exception", .type "BaseException", .type "object"] = true := by
  show PySem.HandSPX.refsVE [.type "ValueError", .type "Exception", .type "BaseException", .type "object"] = true
  decide +kernel
theorem kit_ref {K : PySem.W.Frag} {D C : Addr} {b : Bool} (hne : (Value.ref D == Value.ref C) = false) (ic : PySem.W.isClsIn K C = true) (tC : PySem.W.typeIn K (.ref C) = some (.type "type")) (s : PySem.W.subIn K (.ref D) (.ref C) = some b) : PySem.W.kitOne K (.ref D) (.ref C) = some b := by
  have e1 : (PySem.W.clsIn K C).isSome = true := ic
  unfold PySem.W.kitOne
  rw [hne, if_neg (by decide)]
  show (if ((PySem.W.clsIn K C).isSome && PySem.W.typeIn K (.ref C) == some (.type "type")) = true then PySem.W.subIn K (.ref D) (.ref C) else none) = some b
  rw [e1, tC, if_pos (show (true && some (Value.type "type") == some (Value.type "type")) = true from by rw [beq_self_eq_true]; rfl)]
  exact s
theorem kit_no {K : PySem.W.Frag} {C : Addr} {t : String} (iC : PySem.W.isClsIn K C = true) (tC : PySem.W.typeIn K (.ref C) = some (.type "type")) (u : PySem.W.subIn K (.type t) (.ref C) = some false) : PySem.W.kitOne K (.type t) (.ref C) = some false := by
  have e1 : (PySem.W.clsIn K C).isSome = true := iC
  show (if ((PySem.W.clsIn K C).isSome && PySem.W.typeIn K (.ref C) == some (.type "type")) = true then PySem.W.subIn K (.type t) (.ref C) else none) = some false
  rw [e1, tC, if_pos (show (true && some (Value.type "type") == some (Value.type "type")) = true from by rw [beq_self_eq_true]; rfl)]
  exact u
theorem kit_me {K : PySem.W.Frag} (C : Addr) : PySem.W.kitOne K (.ref C) (.ref C) = some true := by
  unfold PySem.W.kitOne
  rw [if_pos (beq_self_eq_true _)]
theorem gl_int {K : PySem.W.Frag} {Γ : Cls'} {mg : Str → Option Value} {x : Str} {i : Int} {t : Tok} (h : mg x = some (.int i t)) : GlD K Γ mg x (.int i) := ⟨_, .int i, h, ⟨_, rfl⟩, fun c H n => .i i⟩
theorem at_tupK {K : PySem.W.Frag} {Γ : Cls'} {a : Addr} {od : Option Addr} {its : Array Value} {n : Nat} {sl : Array (Option Value)} {vs : List V} {ds : List D} (l : K.lookup a = some ⟨.type "tuple", od, .seq its n, sl⟩) (hl : its.toList.length ≤ 1000) (hv : Vals vs its.toList) (ha : ∀ c H j, Ats ⟨K, Γ⟩ c H j ds vs) : ∀ c H j, At ⟨K, Γ⟩ c H j (.tup ds) (.ref a) := fun c H j => by
  unfold At
  exact ⟨a, vs, rfl, .inr ⟨_, its, n, l, rfl, rfl, Nat.le_trans (by simpa using hl) (by decide), hv⟩, ha c H j⟩

set_option maxHeartbeats 4000000 in
theorem all_mk {l : PySem.W.OpenLaw} {w : World} {K : PySem.W.Frag} {h : Heap} {mg : Str → Option Value} {fa C_Script C_Check C_Kind C_System f_is_integer f_is_within f_is_name f_held_after f_has_form f_fault_of f_script_of f_count_of_sessions f_are_kinds f_fault_of_system f_indented f_rows_of f_write_system f__law_box f__law_pick f__law_seated f__law_system f__law_word f__law_branch f__law_text_plan f__law_rows f__law_lines f_law f_Check___init__ f_Check_check_branch f_Check_check_statement f_Script___init__ f_Script___len__ f_Kind___init__ f_System___init__ KD_Kind KD_System itITEMS : Addr} (X : K.In h) (G : h.Ns mainGlobals mg) (hfa : mg "law" = some (.ref fa))
    {tkKind_block tkKind_many tkSystem_ahead tkSystem_crashes t_LONGEST_NAME t_LONGEST_OF_MANY t_MOST_AHEAD t_MOST_BLOCK t_MOST_CRASHES t_MOST_HELD t_MOST_NESTED t_MOST_SESSIONS t_MOST_STATEMENTS t_MOST_WINDOW t_OF_BRANCHES t_OF_KINDS t_OF_SCRIPTS t_OF_WORDS ttITEMS_take ttITEMS_commit ttITEMS_rollback ttITEMS_drop ttITEMS_leave ttITEMS_lock ttITEMS_unlock ttITEMS_choose : Tok}
    {od_is_integer an_is_integer : Option Addr} {sl_is_integer : Array (Option Value)} {oc_is_integer kV_is_integer dc_is_integer pm_is_integer cd_is_integer ct_is_integer : Value}
    {od_is_within an_is_within : Option Addr} {sl_is_within : Array (Option Value)} {oc_is_within kV_is_within dc_is_within pm_is_within cd_is_within ct_is_within : Value}
    {od_is_name an_is_name : Option Addr} {sl_is_name : Array (Option Value)} {oc_is_name kV_is_name dc_is_name pm_is_name cd_is_name ct_is_name : Value}
    {od_held_after an_held_after : Option Addr} {sl_held_after : Array (Option Value)} {oc_held_after kV_held_after dc_held_after pm_held_after cd_held_after ct_held_after : Value}
    {od_has_form an_has_form : Option Addr} {sl_has_form : Array (Option Value)} {oc_has_form kV_has_form dc_has_form pm_has_form cd_has_form ct_has_form : Value}
    {od_fault_of an_fault_of : Option Addr} {sl_fault_of : Array (Option Value)} {oc_fault_of kV_fault_of dc_fault_of pm_fault_of cd_fault_of ct_fault_of : Value}
    {od_script_of an_script_of : Option Addr} {sl_script_of : Array (Option Value)} {oc_script_of kV_script_of dc_script_of pm_script_of cd_script_of ct_script_of : Value}
    {od_count_of_sessions an_count_of_sessions : Option Addr} {sl_count_of_sessions : Array (Option Value)} {oc_count_of_sessions kV_count_of_sessions dc_count_of_sessions pm_count_of_sessions cd_count_of_sessions ct_count_of_sessions : Value}
    {od_are_kinds an_are_kinds : Option Addr} {sl_are_kinds : Array (Option Value)} {oc_are_kinds kV_are_kinds dc_are_kinds pm_are_kinds cd_are_kinds ct_are_kinds : Value}
    {od_fault_of_system an_fault_of_system : Option Addr} {sl_fault_of_system : Array (Option Value)} {oc_fault_of_system kV_fault_of_system dc_fault_of_system pm_fault_of_system cd_fault_of_system ct_fault_of_system : Value}
    {od_indented an_indented : Option Addr} {sl_indented : Array (Option Value)} {oc_indented kV_indented dc_indented pm_indented cd_indented ct_indented : Value}
    {od_rows_of an_rows_of : Option Addr} {sl_rows_of : Array (Option Value)} {oc_rows_of kV_rows_of dc_rows_of pm_rows_of cd_rows_of ct_rows_of : Value}
    {od_write_system an_write_system : Option Addr} {sl_write_system : Array (Option Value)} {oc_write_system kV_write_system dc_write_system pm_write_system cd_write_system ct_write_system : Value}
    {od__law_box an__law_box : Option Addr} {sl__law_box : Array (Option Value)} {oc__law_box kV__law_box dc__law_box pm__law_box cd__law_box ct__law_box : Value}
    {od__law_pick an__law_pick : Option Addr} {sl__law_pick : Array (Option Value)} {oc__law_pick kV__law_pick dc__law_pick pm__law_pick cd__law_pick ct__law_pick : Value}
    {od__law_seated an__law_seated : Option Addr} {sl__law_seated : Array (Option Value)} {oc__law_seated kV__law_seated dc__law_seated pm__law_seated cd__law_seated ct__law_seated : Value}
    {od__law_system an__law_system : Option Addr} {sl__law_system : Array (Option Value)} {oc__law_system kV__law_system dc__law_system pm__law_system cd__law_system ct__law_system : Value}
    {od__law_word an__law_word : Option Addr} {sl__law_word : Array (Option Value)} {oc__law_word kV__law_word dc__law_word pm__law_word cd__law_word ct__law_word : Value}
    {od__law_branch an__law_branch : Option Addr} {sl__law_branch : Array (Option Value)} {oc__law_branch kV__law_branch dc__law_branch pm__law_branch cd__law_branch ct__law_branch : Value}
    {od__law_text_plan an__law_text_plan : Option Addr} {sl__law_text_plan : Array (Option Value)} {oc__law_text_plan kV__law_text_plan dc__law_text_plan pm__law_text_plan cd__law_text_plan ct__law_text_plan : Value}
    {od__law_rows an__law_rows : Option Addr} {sl__law_rows : Array (Option Value)} {oc__law_rows kV__law_rows dc__law_rows pm__law_rows cd__law_rows ct__law_rows : Value}
    {od__law_lines an__law_lines : Option Addr} {sl__law_lines : Array (Option Value)} {oc__law_lines kV__law_lines dc__law_lines pm__law_lines cd__law_lines ct__law_lines : Value}
    {od_law an_law : Option Addr} {sl_law : Array (Option Value)} {oc_law kV_law dc_law pm_law cd_law ct_law : Value}
    {od_Check___init__ an_Check___init__ : Option Addr} {sl_Check___init__ : Array (Option Value)} {oc_Check___init__ kV_Check___init__ dc_Check___init__ pm_Check___init__ cd_Check___init__ ct_Check___init__ : Value}
    {od_Check_check_branch an_Check_check_branch : Option Addr} {sl_Check_check_branch : Array (Option Value)} {oc_Check_check_branch kV_Check_check_branch dc_Check_check_branch pm_Check_check_branch cd_Check_check_branch ct_Check_check_branch : Value}
    {od_Check_check_statement an_Check_check_statement : Option Addr} {sl_Check_check_statement : Array (Option Value)} {oc_Check_check_statement kV_Check_check_statement dc_Check_check_statement pm_Check_check_statement cd_Check_check_statement ct_Check_check_statement : Value}
    {od_Script___init__ an_Script___init__ : Option Addr} {sl_Script___init__ : Array (Option Value)} {oc_Script___init__ kV_Script___init__ dc_Script___init__ pm_Script___init__ cd_Script___init__ ct_Script___init__ : Value}
    {od_Script___len__ an_Script___len__ : Option Addr} {sl_Script___len__ : Array (Option Value)} {oc_Script___len__ kV_Script___len__ dc_Script___len__ pm_Script___len__ cd_Script___len__ ct_Script___len__ : Value}
    {od_Kind___init__ an_Kind___init__ : Option Addr} {sl_Kind___init__ : Array (Option Value)} {oc_Kind___init__ dc_Kind___init__ pm_Kind___init__ cd_Kind___init__ ct_Kind___init__ : Value}
    {od_System___init__ an_System___init__ : Option Addr} {sl_System___init__ : Array (Option Value)} {oc_System___init__ dc_System___init__ pm_System___init__ cd_System___init__ ct_System___init__ : Value}
    {esITEMS : Array DictEntry} {nnITEMS : Nat}
    (aScript : PySem.W.nsIn K mainGlobals "Script" = some (some (.ref C_Script)))
    (pgScript : PySem.W.plainGet K C_Script Str.empty = true)
    (hdScript : PySem.W.hasDictIn K C_Script = true)
    (poScript : PySem.W.plainOver K C_Script = true)
    (saScript : PySem.W.findIn K (.ref C_Script) "__setattr__" = some (some (.builtin "object.__setattr__")))
    (mkScript : PySem.W.makesIn K C_Script = true)
    (kcScript : PySem.W.keepIn K (.ref C_Script) = true)
    (nScript_found : PySem.W.findIn K (.ref C_Script) "found" = some none)
    (nScript_places : PySem.W.findIn K (.ref C_Script) "places" = some none)
    (nScript_statements : PySem.W.findIn K (.ref C_Script) "statements" = some none)
    (aCheck : PySem.W.nsIn K mainGlobals "Check" = some (some (.ref C_Check)))
    (pgCheck : PySem.W.plainGet K C_Check Str.empty = true)
    (hdCheck : PySem.W.hasDictIn K C_Check = true)
    (poCheck : PySem.W.plainOver K C_Check = true)
    (saCheck : PySem.W.findIn K (.ref C_Check) "__setattr__" = some (some (.builtin "object.__setattr__")))
    (mkCheck : PySem.W.makesIn K C_Check = true)
    (kcCheck : PySem.W.keepIn K (.ref C_Check) = true)
    (nCheck_found : PySem.W.findIn K (.ref C_Check) "found" = some none)
    (aKind : PySem.W.nsIn K mainGlobals "Kind" = some (some (.ref C_Kind)))
    (pgKind : PySem.W.plainGet K C_Kind Str.empty = true)
    (hdKind : PySem.W.hasDictIn K C_Kind = true)
    (poKind : PySem.W.plainOver K C_Kind = true)
    (saKind : PySem.W.findIn K (.ref C_Kind) "__setattr__" = some (some (.builtin "object.__setattr__")))
    (mkKind : PySem.W.makesIn K C_Kind = true)
    (kcKind : PySem.W.keepIn K (.ref C_Kind) = true)
    (nKind_block : PySem.W.findIn K (.ref C_Kind) "block" = some none)
    (nKind_many : PySem.W.findIn K (.ref C_Kind) "many" = some none)
    (nKind_name : PySem.W.findIn K (.ref C_Kind) "name" = some none)
    (nKind_script : PySem.W.findIn K (.ref C_Kind) "script" = some none)
    (aSystem : PySem.W.nsIn K mainGlobals "System" = some (some (.ref C_System)))
    (pgSystem : PySem.W.plainGet K C_System Str.empty = true)
    (hdSystem : PySem.W.hasDictIn K C_System = true)
    (poSystem : PySem.W.plainOver K C_System = true)
    (saSystem : PySem.W.findIn K (.ref C_System) "__setattr__" = some (some (.builtin "object.__setattr__")))
    (mkSystem : PySem.W.makesIn K C_System = true)
    (kcSystem : PySem.W.keepIn K (.ref C_System) = true)
    (nSystem_ahead : PySem.W.findIn K (.ref C_System) "ahead" = some none)
    (nSystem_crashes : PySem.W.findIn K (.ref C_System) "crashes" = some none)
    (nSystem_kinds : PySem.W.findIn K (.ref C_System) "kinds" = some none)
    (nSystem_sessions : PySem.W.findIn K (.ref C_System) "sessions" = some none)
    (nSystem_window : PySem.W.findIn K (.ref C_System) "window" = some none)
    (cn : PySem.W.specialIn K (.builtin "object.__class__") "__get__" = some (some (.builtin "getset_descriptor.__get__")))
    (ct : PySem.W.takesIn K (.builtin "object.__class__") = some true)
    (caScript : PySem.W.findIn K (.ref C_Script) "__class__" = some (some (.builtin "object.__class__")))
    (obScript : PySem.W.mroIn K C_Script (.type "object") = some true)
    (icScript : PySem.W.isClsIn K C_Script = true)
    (tcScript : PySem.W.typeIn K (.ref C_Script) = some (.type "type"))
    (uScript_tuple : PySem.W.subIn K (.type "tuple") (.ref C_Script) = some false)
    (caKind : PySem.W.findIn K (.ref C_Kind) "__class__" = some (some (.builtin "object.__class__")))
    (obKind : PySem.W.mroIn K C_Kind (.type "object") = some true)
    (icKind : PySem.W.isClsIn K C_Kind = true)
    (tcKind : PySem.W.typeIn K (.ref C_Kind) = some (.type "type"))
    (a_is_integer : PySem.W.nsIn K mainGlobals "is_integer" = some (some (.ref f_is_integer)))
    (l_is_integer : K.lookup f_is_integer = some ⟨oc_is_integer, od_is_integer, .func (PySem.W.fnOf "is_integer" "is_integer" (defArgs s_is_integer) (defBody s_is_integer) (defScope s_is_integer) .none kV_is_integer dc_is_integer pm_is_integer an_is_integer cd_is_integer ct_is_integer), sl_is_integer⟩)
    (c_is_integer : PySem.W.codeIn K cd_is_integer "is_integer" = true)
    (k_is_integer : PySem.W.keepIn K (.ref f_is_integer) = true)
    (a_is_within : PySem.W.nsIn K mainGlobals "is_within" = some (some (.ref f_is_within)))
    (l_is_within : K.lookup f_is_within = some ⟨oc_is_within, od_is_within, .func (PySem.W.fnOf "is_within" "is_within" (defArgs s_is_within) (defBody s_is_within) (defScope s_is_within) .none kV_is_within dc_is_within pm_is_within an_is_within cd_is_within ct_is_within), sl_is_within⟩)
    (c_is_within : PySem.W.codeIn K cd_is_within "is_within" = true)
    (k_is_within : PySem.W.keepIn K (.ref f_is_within) = true)
    (a_is_name : PySem.W.nsIn K mainGlobals "is_name" = some (some (.ref f_is_name)))
    (l_is_name : K.lookup f_is_name = some ⟨oc_is_name, od_is_name, .func (PySem.W.fnOf "is_name" "is_name" (defArgs s_is_name) (defBody s_is_name) (defScope s_is_name) .none kV_is_name dc_is_name pm_is_name an_is_name cd_is_name ct_is_name), sl_is_name⟩)
    (c_is_name : PySem.W.codeIn K cd_is_name "is_name" = true)
    (k_is_name : PySem.W.keepIn K (.ref f_is_name) = true)
    (a_held_after : PySem.W.nsIn K mainGlobals "held_after" = some (some (.ref f_held_after)))
    (l_held_after : K.lookup f_held_after = some ⟨oc_held_after, od_held_after, .func (PySem.W.fnOf "held_after" "held_after" (defArgs s_held_after) (defBody s_held_after) (defScope s_held_after) .none kV_held_after dc_held_after pm_held_after an_held_after cd_held_after ct_held_after), sl_held_after⟩)
    (c_held_after : PySem.W.codeIn K cd_held_after "held_after" = true)
    (k_held_after : PySem.W.keepIn K (.ref f_held_after) = true)
    (a_has_form : PySem.W.nsIn K mainGlobals "has_form" = some (some (.ref f_has_form)))
    (l_has_form : K.lookup f_has_form = some ⟨oc_has_form, od_has_form, .func (PySem.W.fnOf "has_form" "has_form" (defArgs s_has_form) (defBody s_has_form) (defScope s_has_form) .none kV_has_form dc_has_form pm_has_form an_has_form cd_has_form ct_has_form), sl_has_form⟩)
    (c_has_form : PySem.W.codeIn K cd_has_form "has_form" = true)
    (k_has_form : PySem.W.keepIn K (.ref f_has_form) = true)
    (a_fault_of : PySem.W.nsIn K mainGlobals "fault_of" = some (some (.ref f_fault_of)))
    (l_fault_of : K.lookup f_fault_of = some ⟨oc_fault_of, od_fault_of, .func (PySem.W.fnOf "fault_of" "fault_of" (defArgs s_fault_of) (defBody s_fault_of) (defScope s_fault_of) .none kV_fault_of dc_fault_of pm_fault_of an_fault_of cd_fault_of ct_fault_of), sl_fault_of⟩)
    (c_fault_of : PySem.W.codeIn K cd_fault_of "fault_of" = true)
    (k_fault_of : PySem.W.keepIn K (.ref f_fault_of) = true)
    (a_script_of : PySem.W.nsIn K mainGlobals "script_of" = some (some (.ref f_script_of)))
    (l_script_of : K.lookup f_script_of = some ⟨oc_script_of, od_script_of, .func (PySem.W.fnOf "script_of" "script_of" (defArgs s_script_of) (defBody s_script_of) (defScope s_script_of) .none kV_script_of dc_script_of pm_script_of an_script_of cd_script_of ct_script_of), sl_script_of⟩)
    (c_script_of : PySem.W.codeIn K cd_script_of "script_of" = true)
    (k_script_of : PySem.W.keepIn K (.ref f_script_of) = true)
    (a_count_of_sessions : PySem.W.nsIn K mainGlobals "count_of_sessions" = some (some (.ref f_count_of_sessions)))
    (l_count_of_sessions : K.lookup f_count_of_sessions = some ⟨oc_count_of_sessions, od_count_of_sessions, .func (PySem.W.fnOf "count_of_sessions" "count_of_sessions" (defArgs s_count_of_sessions) (defBody s_count_of_sessions) (defScope s_count_of_sessions) .none kV_count_of_sessions dc_count_of_sessions pm_count_of_sessions an_count_of_sessions cd_count_of_sessions ct_count_of_sessions), sl_count_of_sessions⟩)
    (c_count_of_sessions : PySem.W.codeIn K cd_count_of_sessions "count_of_sessions" = true)
    (k_count_of_sessions : PySem.W.keepIn K (.ref f_count_of_sessions) = true)
    (a_are_kinds : PySem.W.nsIn K mainGlobals "are_kinds" = some (some (.ref f_are_kinds)))
    (l_are_kinds : K.lookup f_are_kinds = some ⟨oc_are_kinds, od_are_kinds, .func (PySem.W.fnOf "are_kinds" "are_kinds" (defArgs s_are_kinds) (defBody s_are_kinds) (defScope s_are_kinds) .none kV_are_kinds dc_are_kinds pm_are_kinds an_are_kinds cd_are_kinds ct_are_kinds), sl_are_kinds⟩)
    (c_are_kinds : PySem.W.codeIn K cd_are_kinds "are_kinds" = true)
    (k_are_kinds : PySem.W.keepIn K (.ref f_are_kinds) = true)
    (a_fault_of_system : PySem.W.nsIn K mainGlobals "fault_of_system" = some (some (.ref f_fault_of_system)))
    (l_fault_of_system : K.lookup f_fault_of_system = some ⟨oc_fault_of_system, od_fault_of_system, .func (PySem.W.fnOf "fault_of_system" "fault_of_system" (defArgs s_fault_of_system) (defBody s_fault_of_system) (defScope s_fault_of_system) .none kV_fault_of_system dc_fault_of_system pm_fault_of_system an_fault_of_system cd_fault_of_system ct_fault_of_system), sl_fault_of_system⟩)
    (c_fault_of_system : PySem.W.codeIn K cd_fault_of_system "fault_of_system" = true)
    (k_fault_of_system : PySem.W.keepIn K (.ref f_fault_of_system) = true)
    (a_indented : PySem.W.nsIn K mainGlobals "indented" = some (some (.ref f_indented)))
    (l_indented : K.lookup f_indented = some ⟨oc_indented, od_indented, .func (PySem.W.fnOf "indented" "indented" (defArgs s_indented) (defBody s_indented) (defScope s_indented) .none kV_indented dc_indented pm_indented an_indented cd_indented ct_indented), sl_indented⟩)
    (c_indented : PySem.W.codeIn K cd_indented "indented" = true)
    (k_indented : PySem.W.keepIn K (.ref f_indented) = true)
    (a_rows_of : PySem.W.nsIn K mainGlobals "rows_of" = some (some (.ref f_rows_of)))
    (l_rows_of : K.lookup f_rows_of = some ⟨oc_rows_of, od_rows_of, .func (PySem.W.fnOf "rows_of" "rows_of" (defArgs s_rows_of) (defBody s_rows_of) (defScope s_rows_of) .none kV_rows_of dc_rows_of pm_rows_of an_rows_of cd_rows_of ct_rows_of), sl_rows_of⟩)
    (c_rows_of : PySem.W.codeIn K cd_rows_of "rows_of" = true)
    (k_rows_of : PySem.W.keepIn K (.ref f_rows_of) = true)
    (a_write_system : PySem.W.nsIn K mainGlobals "write_system" = some (some (.ref f_write_system)))
    (l_write_system : K.lookup f_write_system = some ⟨oc_write_system, od_write_system, .func (PySem.W.fnOf "write_system" "write_system" (defArgs s_write_system) (defBody s_write_system) (defScope s_write_system) .none kV_write_system dc_write_system pm_write_system an_write_system cd_write_system ct_write_system), sl_write_system⟩)
    (c_write_system : PySem.W.codeIn K cd_write_system "write_system" = true)
    (k_write_system : PySem.W.keepIn K (.ref f_write_system) = true)
    (a__law_box : PySem.W.nsIn K mainGlobals "_law_box" = some (some (.ref f__law_box)))
    (l__law_box : K.lookup f__law_box = some ⟨oc__law_box, od__law_box, .func (PySem.W.fnOf "_law_box" "_law_box" (defArgs s__law_box) (defBody s__law_box) (defScope s__law_box) .none kV__law_box dc__law_box pm__law_box an__law_box cd__law_box ct__law_box), sl__law_box⟩)
    (c__law_box : PySem.W.codeIn K cd__law_box "_law_box" = true)
    (k__law_box : PySem.W.keepIn K (.ref f__law_box) = true)
    (a__law_pick : PySem.W.nsIn K mainGlobals "_law_pick" = some (some (.ref f__law_pick)))
    (l__law_pick : K.lookup f__law_pick = some ⟨oc__law_pick, od__law_pick, .func (PySem.W.fnOf "_law_pick" "_law_pick" (defArgs s__law_pick) (defBody s__law_pick) (defScope s__law_pick) .none kV__law_pick dc__law_pick pm__law_pick an__law_pick cd__law_pick ct__law_pick), sl__law_pick⟩)
    (c__law_pick : PySem.W.codeIn K cd__law_pick "_law_pick" = true)
    (k__law_pick : PySem.W.keepIn K (.ref f__law_pick) = true)
    (a__law_seated : PySem.W.nsIn K mainGlobals "_law_seated" = some (some (.ref f__law_seated)))
    (l__law_seated : K.lookup f__law_seated = some ⟨oc__law_seated, od__law_seated, .func (PySem.W.fnOf "_law_seated" "_law_seated" (defArgs s__law_seated) (defBody s__law_seated) (defScope s__law_seated) .none kV__law_seated dc__law_seated pm__law_seated an__law_seated cd__law_seated ct__law_seated), sl__law_seated⟩)
    (c__law_seated : PySem.W.codeIn K cd__law_seated "_law_seated" = true)
    (k__law_seated : PySem.W.keepIn K (.ref f__law_seated) = true)
    (a__law_system : PySem.W.nsIn K mainGlobals "_law_system" = some (some (.ref f__law_system)))
    (l__law_system : K.lookup f__law_system = some ⟨oc__law_system, od__law_system, .func (PySem.W.fnOf "_law_system" "_law_system" (defArgs s__law_system) (defBody s__law_system) (defScope s__law_system) .none kV__law_system dc__law_system pm__law_system an__law_system cd__law_system ct__law_system), sl__law_system⟩)
    (c__law_system : PySem.W.codeIn K cd__law_system "_law_system" = true)
    (k__law_system : PySem.W.keepIn K (.ref f__law_system) = true)
    (a__law_word : PySem.W.nsIn K mainGlobals "_law_word" = some (some (.ref f__law_word)))
    (l__law_word : K.lookup f__law_word = some ⟨oc__law_word, od__law_word, .func (PySem.W.fnOf "_law_word" "_law_word" (defArgs s__law_word) (defBody s__law_word) (defScope s__law_word) .none kV__law_word dc__law_word pm__law_word an__law_word cd__law_word ct__law_word), sl__law_word⟩)
    (c__law_word : PySem.W.codeIn K cd__law_word "_law_word" = true)
    (k__law_word : PySem.W.keepIn K (.ref f__law_word) = true)
    (a__law_branch : PySem.W.nsIn K mainGlobals "_law_branch" = some (some (.ref f__law_branch)))
    (l__law_branch : K.lookup f__law_branch = some ⟨oc__law_branch, od__law_branch, .func (PySem.W.fnOf "_law_branch" "_law_branch" (defArgs s__law_branch) (defBody s__law_branch) (defScope s__law_branch) .none kV__law_branch dc__law_branch pm__law_branch an__law_branch cd__law_branch ct__law_branch), sl__law_branch⟩)
    (c__law_branch : PySem.W.codeIn K cd__law_branch "_law_branch" = true)
    (k__law_branch : PySem.W.keepIn K (.ref f__law_branch) = true)
    (a__law_text_plan : PySem.W.nsIn K mainGlobals "_law_text_plan" = some (some (.ref f__law_text_plan)))
    (l__law_text_plan : K.lookup f__law_text_plan = some ⟨oc__law_text_plan, od__law_text_plan, .func (PySem.W.fnOf "_law_text_plan" "_law_text_plan" (defArgs s__law_text_plan) (defBody s__law_text_plan) (defScope s__law_text_plan) .none kV__law_text_plan dc__law_text_plan pm__law_text_plan an__law_text_plan cd__law_text_plan ct__law_text_plan), sl__law_text_plan⟩)
    (c__law_text_plan : PySem.W.codeIn K cd__law_text_plan "_law_text_plan" = true)
    (k__law_text_plan : PySem.W.keepIn K (.ref f__law_text_plan) = true)
    (a__law_rows : PySem.W.nsIn K mainGlobals "_law_rows" = some (some (.ref f__law_rows)))
    (l__law_rows : K.lookup f__law_rows = some ⟨oc__law_rows, od__law_rows, .func (PySem.W.fnOf "_law_rows" "_law_rows" (defArgs s__law_rows) (defBody s__law_rows) (defScope s__law_rows) .none kV__law_rows dc__law_rows pm__law_rows an__law_rows cd__law_rows ct__law_rows), sl__law_rows⟩)
    (c__law_rows : PySem.W.codeIn K cd__law_rows "_law_rows" = true)
    (k__law_rows : PySem.W.keepIn K (.ref f__law_rows) = true)
    (a__law_lines : PySem.W.nsIn K mainGlobals "_law_lines" = some (some (.ref f__law_lines)))
    (l__law_lines : K.lookup f__law_lines = some ⟨oc__law_lines, od__law_lines, .func (PySem.W.fnOf "_law_lines" "_law_lines" (defArgs s__law_lines) (defBody s__law_lines) (defScope s__law_lines) .none kV__law_lines dc__law_lines pm__law_lines an__law_lines cd__law_lines ct__law_lines), sl__law_lines⟩)
    (c__law_lines : PySem.W.codeIn K cd__law_lines "_law_lines" = true)
    (k__law_lines : PySem.W.keepIn K (.ref f__law_lines) = true)
    (a_law : PySem.W.nsIn K mainGlobals "law" = some (some (.ref f_law)))
    (l_law : K.lookup f_law = some ⟨oc_law, od_law, .func (PySem.W.fnOf "law" "law" (defArgs s_law) (defBody s_law) (defScope s_law) .none kV_law dc_law pm_law an_law cd_law ct_law), sl_law⟩)
    (c_law : PySem.W.codeIn K cd_law "law" = true)
    (k_law : PySem.W.keepIn K (.ref f_law) = true)
    (a_Check___init__ : PySem.W.findIn K (.ref C_Check) "__init__" = some (some (.ref f_Check___init__)))
    (i_Check___init__ : PySem.W.isFn K (.ref f_Check___init__) = true)
    (l_Check___init__ : K.lookup f_Check___init__ = some ⟨oc_Check___init__, od_Check___init__, .func (PySem.W.fnOf "__init__" "Check.__init__" (defArgs s_Check___init__) (defBody s_Check___init__) (defScope s_Check___init__) .none kV_Check___init__ dc_Check___init__ pm_Check___init__ an_Check___init__ cd_Check___init__ ct_Check___init__), sl_Check___init__⟩)
    (c_Check___init__ : PySem.W.codeIn K cd_Check___init__ "Check.__init__" = true)
    (k_Check___init__ : PySem.W.keepIn K (.ref f_Check___init__) = true)
    (a_Check_check_branch : PySem.W.findIn K (.ref C_Check) "check_branch" = some (some (.ref f_Check_check_branch)))
    (i_Check_check_branch : PySem.W.isFn K (.ref f_Check_check_branch) = true)
    (l_Check_check_branch : K.lookup f_Check_check_branch = some ⟨oc_Check_check_branch, od_Check_check_branch, .func (PySem.W.fnOf "check_branch" "Check.check_branch" (defArgs s_Check_check_branch) (defBody s_Check_check_branch) (defScope s_Check_check_branch) .none kV_Check_check_branch dc_Check_check_branch pm_Check_check_branch an_Check_check_branch cd_Check_check_branch ct_Check_check_branch), sl_Check_check_branch⟩)
    (c_Check_check_branch : PySem.W.codeIn K cd_Check_check_branch "Check.check_branch" = true)
    (k_Check_check_branch : PySem.W.keepIn K (.ref f_Check_check_branch) = true)
    (a_Check_check_statement : PySem.W.findIn K (.ref C_Check) "check_statement" = some (some (.ref f_Check_check_statement)))
    (i_Check_check_statement : PySem.W.isFn K (.ref f_Check_check_statement) = true)
    (l_Check_check_statement : K.lookup f_Check_check_statement = some ⟨oc_Check_check_statement, od_Check_check_statement, .func (PySem.W.fnOf "check_statement" "Check.check_statement" (defArgs s_Check_check_statement) (defBody s_Check_check_statement) (defScope s_Check_check_statement) .none kV_Check_check_statement dc_Check_check_statement pm_Check_check_statement an_Check_check_statement cd_Check_check_statement ct_Check_check_statement), sl_Check_check_statement⟩)
    (c_Check_check_statement : PySem.W.codeIn K cd_Check_check_statement "Check.check_statement" = true)
    (k_Check_check_statement : PySem.W.keepIn K (.ref f_Check_check_statement) = true)
    (a_Script___init__ : PySem.W.findIn K (.ref C_Script) "__init__" = some (some (.ref f_Script___init__)))
    (i_Script___init__ : PySem.W.isFn K (.ref f_Script___init__) = true)
    (l_Script___init__ : K.lookup f_Script___init__ = some ⟨oc_Script___init__, od_Script___init__, .func (PySem.W.fnOf "__init__" "Script.__init__" (defArgs s_Script___init__) (defBody s_Script___init__) (defScope s_Script___init__) .none kV_Script___init__ dc_Script___init__ pm_Script___init__ an_Script___init__ cd_Script___init__ ct_Script___init__), sl_Script___init__⟩)
    (c_Script___init__ : PySem.W.codeIn K cd_Script___init__ "Script.__init__" = true)
    (k_Script___init__ : PySem.W.keepIn K (.ref f_Script___init__) = true)
    (a_Script___len__ : PySem.W.findIn K (.ref C_Script) "__len__" = some (some (.ref f_Script___len__)))
    (i_Script___len__ : PySem.W.isFn K (.ref f_Script___len__) = true)
    (l_Script___len__ : K.lookup f_Script___len__ = some ⟨oc_Script___len__, od_Script___len__, .func (PySem.W.fnOf "__len__" "Script.__len__" (defArgs s_Script___len__) (defBody s_Script___len__) (defScope s_Script___len__) .none kV_Script___len__ dc_Script___len__ pm_Script___len__ an_Script___len__ cd_Script___len__ ct_Script___len__), sl_Script___len__⟩)
    (c_Script___len__ : PySem.W.codeIn K cd_Script___len__ "Script.__len__" = true)
    (k_Script___len__ : PySem.W.keepIn K (.ref f_Script___len__) = true)
    (fg_Script___len__ : PySem.W.fnIn K f_Script___len__ = true)
    (a_Kind___init__ : PySem.W.findIn K (.ref C_Kind) "__init__" = some (some (.ref f_Kind___init__)))
    (i_Kind___init__ : PySem.W.isFn K (.ref f_Kind___init__) = true)
    (l_Kind___init__ : K.lookup f_Kind___init__ = some ⟨oc_Kind___init__, od_Kind___init__, .func (PySem.W.fnOf "__init__" "Kind.__init__" (defArgs s_Kind___init__) (defBody s_Kind___init__) (defScope s_Kind___init__) .none (.ref KD_Kind) dc_Kind___init__ pm_Kind___init__ an_Kind___init__ cd_Kind___init__ ct_Kind___init__), sl_Kind___init__⟩)
    (c_Kind___init__ : PySem.W.codeIn K cd_Kind___init__ "Kind.__init__" = true)
    (k_Kind___init__ : PySem.W.keepIn K (.ref f_Kind___init__) = true)
    (a_System___init__ : PySem.W.findIn K (.ref C_System) "__init__" = some (some (.ref f_System___init__)))
    (i_System___init__ : PySem.W.isFn K (.ref f_System___init__) = true)
    (l_System___init__ : K.lookup f_System___init__ = some ⟨oc_System___init__, od_System___init__, .func (PySem.W.fnOf "__init__" "System.__init__" (defArgs s_System___init__) (defBody s_System___init__) (defScope s_System___init__) .none (.ref KD_System) dc_System___init__ pm_System___init__ an_System___init__ cd_System___init__ ct_System___init__), sl_System___init__⟩)
    (c_System___init__ : PySem.W.codeIn K cd_System___init__ "System.__init__" = true)
    (k_System___init__ : PySem.W.keepIn K (.ref f_System___init__) = true)
    (kdKind_block : PySem.W.nsIn K KD_Kind "block" = some (some (.int (1) tkKind_block)))
    (kdKind_many : PySem.W.nsIn K KD_Kind "many" = some (some (.int (1) tkKind_many)))
    (kdSystem_ahead : PySem.W.nsIn K KD_System "ahead" = some (some (.int (0) tkSystem_ahead)))
    (kdSystem_window : PySem.W.nsIn K KD_System "window" = some (some .none))
    (kdSystem_crashes : PySem.W.nsIn K KD_System "crashes" = some (some (.int (0) tkSystem_crashes)))
    (z_all : PySem.W.nsIn K mainGlobals "all" = some none)
    (z_bool : PySem.W.nsIn K mainGlobals "bool" = some none)
    (z_enumerate : PySem.W.nsIn K mainGlobals "enumerate" = some none)
    (z_int : PySem.W.nsIn K mainGlobals "int" = some none)
    (z_isinstance : PySem.W.nsIn K mainGlobals "isinstance" = some none)
    (z_len : PySem.W.nsIn K mainGlobals "len" = some none)
    (z_list : PySem.W.nsIn K mainGlobals "list" = some none)
    (z_max : PySem.W.nsIn K mainGlobals "max" = some none)
    (z_range : PySem.W.nsIn K mainGlobals "range" = some none)
    (z_set : PySem.W.nsIn K mainGlobals "set" = some none)
    (z_str : PySem.W.nsIn K mainGlobals "str" = some none)
    (z_sum : PySem.W.nsIn K mainGlobals "sum" = some none)
    (z_tuple : PySem.W.nsIn K mainGlobals "tuple" = some none)
    (z_zip : PySem.W.nsIn K mainGlobals "zip" = some none)
    (v_LONGEST_NAME : PySem.W.nsIn K mainGlobals "LONGEST_NAME" = some (some (.int 8 t_LONGEST_NAME)))
    (v_LONGEST_OF_MANY : PySem.W.nsIn K mainGlobals "LONGEST_OF_MANY" = some (some (.int 4 t_LONGEST_OF_MANY)))
    (v_MOST_AHEAD : PySem.W.nsIn K mainGlobals "MOST_AHEAD" = some (some (.int 4 t_MOST_AHEAD)))
    (v_MOST_BLOCK : PySem.W.nsIn K mainGlobals "MOST_BLOCK" = some (some (.int 3 t_MOST_BLOCK)))
    (v_MOST_CRASHES : PySem.W.nsIn K mainGlobals "MOST_CRASHES" = some (some (.int 2 t_MOST_CRASHES)))
    (v_MOST_HELD : PySem.W.nsIn K mainGlobals "MOST_HELD" = some (some (.int 3 t_MOST_HELD)))
    (v_MOST_NESTED : PySem.W.nsIn K mainGlobals "MOST_NESTED" = some (some (.int 2 t_MOST_NESTED)))
    (v_MOST_SESSIONS : PySem.W.nsIn K mainGlobals "MOST_SESSIONS" = some (some (.int 3 t_MOST_SESSIONS)))
    (v_MOST_STATEMENTS : PySem.W.nsIn K mainGlobals "MOST_STATEMENTS" = some (some (.int 8 t_MOST_STATEMENTS)))
    (v_MOST_WINDOW : PySem.W.nsIn K mainGlobals "MOST_WINDOW" = some (some (.int 8 t_MOST_WINDOW)))
    (v_OF_BRANCHES : PySem.W.nsIn K mainGlobals "OF_BRANCHES" = some (some (.int 4 t_OF_BRANCHES)))
    (v_OF_KINDS : PySem.W.nsIn K mainGlobals "OF_KINDS" = some (some (.int 2 t_OF_KINDS)))
    (v_OF_SCRIPTS : PySem.W.nsIn K mainGlobals "OF_SCRIPTS" = some (some (.int 4 t_OF_SCRIPTS)))
    (v_OF_WORDS : PySem.W.nsIn K mainGlobals "OF_WORDS" = some (some (.int 2 t_OF_WORDS)))
    (v_ITEMS : PySem.W.nsIn K mainGlobals "ITEMS" = some (some (.ref itITEMS)))
    (lkITEMS : K.lookup itITEMS = some ⟨.type "dict", none, .dict esITEMS nnITEMS, #[]⟩)
    (klITEMS : PySem.W.KeysLit w.params esITEMS.toList)
    (smITEMS : (itITEMS == sysModules) = false)
    (eITEMS_take : PySem.W.nsIn K itITEMS "take" = some (some (.int 1 ttITEMS_take)))
    (eITEMS_commit : PySem.W.nsIn K itITEMS "commit" = some (some (.int 1 ttITEMS_commit)))
    (eITEMS_rollback : PySem.W.nsIn K itITEMS "rollback" = some (some (.int 1 ttITEMS_rollback)))
    (eITEMS_drop : PySem.W.nsIn K itITEMS "drop" = some (some (.int 1 ttITEMS_drop)))
    (eITEMS_leave : PySem.W.nsIn K itITEMS "leave" = some (some (.int 1 ttITEMS_leave)))
    (eITEMS_lock : PySem.W.nsIn K itITEMS "lock" = some (some (.int 2 ttITEMS_lock)))
    (eITEMS_unlock : PySem.W.nsIn K itITEMS "unlock" = some (some (.int 2 ttITEMS_unlock)))
    (eITEMS_choose : PySem.W.nsIn K itITEMS "choose" = some (some (.int 3 ttITEMS_choose)))
    : ∃ fd : FuncData, (∀ (s : Shared) (v : Value), BindsTo s fd ⟨[v], []⟩ [("_law_script", v)]) ∧ ∀ base : Heap, K.In base → base.Ns mainGlobals mg → FnOk l.prog w K mg base (L2.CX l.prog w) 18 fa fd ["_law_script"] (spLawR K) := by
  have e := hfa.symm.trans (PySem.W.mg_of X G a_law)
  cases e
  have Cl_Script : Cls K C_Script := ⟨pgScript, hdScript, poScript, saScript⟩
  have Cl_Check : Cls K C_Check := ⟨pgCheck, hdCheck, poCheck, saCheck⟩
  have Cl_Kind : Cls K C_Kind := ⟨pgKind, hdKind, poKind, saKind⟩
  have Cl_System : Cls K C_System := ⟨pgSystem, hdSystem, poSystem, saSystem⟩
  have kgITEMS : ∀ z n, (z, n) ∈ items → KG K w itITEMS z (.int n) := by
    intro z n hm
    simp only [items, List.mem_cons, List.not_mem_nil, or_false, Prod.mk.injEq] at hm
    rcases hm with ⟨rfl, rfl⟩ | ⟨rfl, rfl⟩ | ⟨rfl, rfl⟩ | ⟨rfl, rfl⟩ | ⟨rfl, rfl⟩ | ⟨rfl, rfl⟩ | ⟨rfl, rfl⟩ | ⟨rfl, rfl⟩
    · exact ⟨⟨_, _, _, lkITEMS, klITEMS, eITEMS_take, ⟨_, rfl⟩⟩, smITEMS⟩
    · exact ⟨⟨_, _, _, lkITEMS, klITEMS, eITEMS_commit, ⟨_, rfl⟩⟩, smITEMS⟩
    · exact ⟨⟨_, _, _, lkITEMS, klITEMS, eITEMS_rollback, ⟨_, rfl⟩⟩, smITEMS⟩
    · exact ⟨⟨_, _, _, lkITEMS, klITEMS, eITEMS_drop, ⟨_, rfl⟩⟩, smITEMS⟩
    · exact ⟨⟨_, _, _, lkITEMS, klITEMS, eITEMS_leave, ⟨_, rfl⟩⟩, smITEMS⟩
    · exact ⟨⟨_, _, _, lkITEMS, klITEMS, eITEMS_lock, ⟨_, rfl⟩⟩, smITEMS⟩
    · exact ⟨⟨_, _, _, lkITEMS, klITEMS, eITEMS_unlock, ⟨_, rfl⟩⟩, smITEMS⟩
    · exact ⟨⟨_, _, _, lkITEMS, klITEMS, eITEMS_choose, ⟨_, rfl⟩⟩, smITEMS⟩
  have Wd : WdT w K (Gam C_Script C_Check C_Kind C_System) mg := ⟨PySem.W.mg_none_of X G z_all,
    PySem.W.mg_none_of X G z_bool,
    PySem.W.mg_none_of X G z_enumerate,
    PySem.W.mg_none_of X G z_int,
    PySem.W.mg_none_of X G z_isinstance,
    PySem.W.mg_none_of X G z_len,
    PySem.W.mg_none_of X G z_list,
    PySem.W.mg_none_of X G z_max,
    PySem.W.mg_none_of X G z_range,
    PySem.W.mg_none_of X G z_set,
    PySem.W.mg_none_of X G z_str,
    PySem.W.mg_none_of X G z_sum,
    PySem.W.mg_none_of X G z_tuple,
    PySem.W.mg_none_of X G z_zip,
    ⟨C_Kind, PySem.W.mg_of X G aKind, ⟨fun a r h => by
      unfold kt_Kind at h
      split at h <;> (first | cases h) <;> (rename_i e; cases e) <;> (first | fail | skip), fun k r C h g => by
      unfold kt_Kind at h
      split at h <;> (first | cases h) <;> (rename_i e; cases e)
      have e := Option.some.inj (show some C_Kind = some C from g); subst e
      exact ⟨⟨Cl_Kind, caKind, cn, ct, obKind⟩, kit_me _⟩⟩⟩,
    ⟨C_Script, PySem.W.mg_of X G aScript, ⟨fun a r h => by
      unfold kt_Script at h
      split at h <;> (first | cases h) <;> (rename_i e; cases e) <;> (first | exact kit_no icScript tcScript uScript_tuple | skip), fun k r C h g => by
      unfold kt_Script at h
      split at h <;> (first | cases h) <;> (rename_i e; cases e)
      have e := Option.some.inj (show some C_Script = some C from g); subst e
      exact ⟨⟨Cl_Script, caScript, cn, ct, obScript⟩, kit_me _⟩⟩⟩,
    ⟨fun C h => by have e := Option.some.inj (show some C_Check = some C from h); subst e; exact ⟨Cl_Check, nCheck_found⟩, rfl, by show (gfs 2).Nodup; decide +kernel, by show (gfs 2).length < 1000; decide +kernel⟩,
    ⟨fun C h => by have e := Option.some.inj (show some C_Kind = some C from h); subst e; exact ⟨Cl_Kind, nKind_block⟩, rfl, by show (gfs 4).Nodup; decide +kernel, by show (gfs 4).length < 1000; decide +kernel⟩,
    ⟨fun C h => by have e := Option.some.inj (show some C_Kind = some C from h); subst e; exact ⟨Cl_Kind, nKind_many⟩, rfl, by show (gfs 4).Nodup; decide +kernel, by show (gfs 4).length < 1000; decide +kernel⟩,
    ⟨fun C h => by have e := Option.some.inj (show some C_Kind = some C from h); subst e; exact ⟨Cl_Kind, nKind_name⟩, rfl, by show (gfs 4).Nodup; decide +kernel, by show (gfs 4).length < 1000; decide +kernel⟩,
    ⟨fun C h => by have e := Option.some.inj (show some C_Kind = some C from h); subst e; exact ⟨Cl_Kind, nKind_script⟩, rfl, by show (gfs 4).Nodup; decide +kernel, by show (gfs 4).length < 1000; decide +kernel⟩,
    ⟨fun C h => by have e := Option.some.inj (show some C_Script = some C from h); subst e; exact ⟨Cl_Script, nScript_found⟩, rfl, by show (gfs 1).Nodup; decide +kernel, by show (gfs 1).length < 1000; decide +kernel⟩,
    ⟨fun C h => by have e := Option.some.inj (show some C_Script = some C from h); subst e; exact ⟨Cl_Script, nScript_places⟩, rfl, by show (gfs 1).Nodup; decide +kernel, by show (gfs 1).length < 1000; decide +kernel⟩,
    ⟨fun C h => by have e := Option.some.inj (show some C_Script = some C from h); subst e; exact ⟨Cl_Script, nScript_statements⟩, rfl, by show (gfs 1).Nodup; decide +kernel, by show (gfs 1).length < 1000; decide +kernel⟩,
    ⟨fun C h => by have e := Option.some.inj (show some C_System = some C from h); subst e; exact ⟨Cl_System, nSystem_ahead⟩, rfl, by show (gfs 5).Nodup; decide +kernel, by show (gfs 5).length < 1000; decide +kernel⟩,
    ⟨fun C h => by have e := Option.some.inj (show some C_System = some C from h); subst e; exact ⟨Cl_System, nSystem_crashes⟩, rfl, by show (gfs 5).Nodup; decide +kernel, by show (gfs 5).length < 1000; decide +kernel⟩,
    ⟨fun C h => by have e := Option.some.inj (show some C_System = some C from h); subst e; exact ⟨Cl_System, nSystem_kinds⟩, rfl, by show (gfs 5).Nodup; decide +kernel, by show (gfs 5).length < 1000; decide +kernel⟩,
    ⟨fun C h => by have e := Option.some.inj (show some C_System = some C from h); subst e; exact ⟨Cl_System, nSystem_sessions⟩, rfl, by show (gfs 5).Nodup; decide +kernel, by show (gfs 5).length < 1000; decide +kernel⟩,
    ⟨fun C h => by have e := Option.some.inj (show some C_System = some C from h); subst e; exact ⟨Cl_System, nSystem_window⟩, rfl, by show (gfs 5).Nodup; decide +kernel, by show (gfs 5).length < 1000; decide +kernel⟩,
    gl_int (PySem.W.mg_of X G v_LONGEST_NAME),
    gl_int (PySem.W.mg_of X G v_LONGEST_OF_MANY),
    gl_int (PySem.W.mg_of X G v_MOST_AHEAD),
    gl_int (PySem.W.mg_of X G v_MOST_BLOCK),
    gl_int (PySem.W.mg_of X G v_MOST_CRASHES),
    gl_int (PySem.W.mg_of X G v_MOST_HELD),
    gl_int (PySem.W.mg_of X G v_MOST_NESTED),
    gl_int (PySem.W.mg_of X G v_MOST_SESSIONS),
    gl_int (PySem.W.mg_of X G v_MOST_STATEMENTS),
    gl_int (PySem.W.mg_of X G v_MOST_WINDOW),
    gl_int (PySem.W.mg_of X G v_OF_BRANCHES),
    gl_int (PySem.W.mg_of X G v_OF_KINDS),
    gl_int (PySem.W.mg_of X G v_OF_SCRIPTS),
    gl_int (PySem.W.mg_of X G v_OF_WORDS),
    ⟨_, PySem.W.mg_of X G v_ITEMS, ⟨_, _, lkITEMS⟩, fun z i h => kgITEMS z i (lookup_mem h)⟩,
    rfl⟩
  have F_is_integer := fun_mk (st := s_is_integer) l_is_integer c_is_integer k_is_integer
  have b_is_integer := F_is_integer.binds (ps := ["value"]) fun _ _ _ _ _ _ us hl => match us, hl with | [_], _ => rfl
  have F_is_within := fun_mk (st := s_is_within) l_is_within c_is_within k_is_within
  have b_is_within := F_is_within.binds (ps := ["value", "low", "high"]) fun _ _ _ _ _ _ us hl => match us, hl with | [_, _, _], _ => rfl
  have F_is_name := fun_mk (st := s_is_name) l_is_name c_is_name k_is_name
  have b_is_name := F_is_name.binds (ps := ["value"]) fun _ _ _ _ _ _ us hl => match us, hl with | [_], _ => rfl
  have F_held_after := fun_mk (st := s_held_after) l_held_after c_held_after k_held_after
  have b_held_after := F_held_after.binds (ps := ["word", "held"]) fun _ _ _ _ _ _ us hl => match us, hl with | [_, _], _ => rfl
  have F_has_form := fun_mk (st := s_has_form) l_has_form c_has_form k_has_form
  have b_has_form := F_has_form.binds (ps := ["statement"]) fun _ _ _ _ _ _ us hl => match us, hl with | [_], _ => rfl
  have F_fault_of := fun_mk (st := s_fault_of) l_fault_of c_fault_of k_fault_of
  have b_fault_of := F_fault_of.binds (ps := ["statement", "place", "earlier", "held"]) fun _ _ _ _ _ _ us hl => match us, hl with | [_, _, _, _], _ => rfl
  have F_script_of := fun_mk (st := s_script_of) l_script_of c_script_of k_script_of
  have b_script_of := F_script_of.binds (ps := ["script"]) fun _ _ _ _ _ _ us hl => match us, hl with | [_], _ => rfl
  have F_count_of_sessions := fun_mk (st := s_count_of_sessions) l_count_of_sessions c_count_of_sessions k_count_of_sessions
  have b_count_of_sessions := F_count_of_sessions.binds (ps := ["kinds"]) fun _ _ _ _ _ _ us hl => match us, hl with | [_], _ => rfl
  have F_are_kinds := fun_mk (st := s_are_kinds) l_are_kinds c_are_kinds k_are_kinds
  have b_are_kinds := F_are_kinds.binds (ps := ["kinds"]) fun _ _ _ _ _ _ us hl => match us, hl with | [_], _ => rfl
  have F_fault_of_system := fun_mk (st := s_fault_of_system) l_fault_of_system c_fault_of_system k_fault_of_system
  have b_fault_of_system := F_fault_of_system.binds (ps := ["kinds", "ahead", "window", "crashes"]) fun _ _ _ _ _ _ us hl => match us, hl with | [_, _, _, _], _ => rfl
  have F_indented := fun_mk (st := s_indented) l_indented c_indented k_indented
  have b_indented := F_indented.binds (ps := ["indent", "row"]) fun _ _ _ _ _ _ us hl => match us, hl with | [_, _], _ => rfl
  have F_rows_of := fun_mk (st := s_rows_of) l_rows_of c_rows_of k_rows_of
  have b_rows_of := F_rows_of.binds (ps := ["statements", "indent"]) fun _ _ _ _ _ _ us hl => match us, hl with | [_, _], _ => rfl
  have F_write_system := fun_mk (st := s_write_system) l_write_system c_write_system k_write_system
  have b_write_system := F_write_system.binds (ps := ["system"]) fun _ _ _ _ _ _ us hl => match us, hl with | [_], _ => rfl
  have F__law_box := fun_mk (st := s__law_box) l__law_box c__law_box k__law_box
  have b__law_box := F__law_box.binds (ps := ["_law_script", "_law_k"]) fun _ _ _ _ _ _ us hl => match us, hl with | [_, _], _ => rfl
  have F__law_pick := fun_mk (st := s__law_pick) l__law_pick c__law_pick k__law_pick
  have b__law_pick := F__law_pick.binds (ps := ["_law_box_here", "_law_size"]) fun _ _ _ _ _ _ us hl => match us, hl with | [_, _], _ => rfl
  have F__law_seated := fun_mk (st := s__law_seated) l__law_seated c__law_seated k__law_seated
  have b__law_seated := F__law_seated.binds (ps := ["_law_kinds", "_law_low", "_law_wide", "_law_falls"]) fun _ _ _ _ _ _ us hl => match us, hl with | [_, _, _, _], _ => rfl
  have F__law_system := fun_mk (st := s__law_system) l__law_system c__law_system k__law_system
  have b__law_system := F__law_system.binds (ps := ["_law_plan"]) fun _ _ _ _ _ _ us hl => match us, hl with | [_], _ => rfl
  have F__law_word := fun_mk (st := s__law_word) l__law_word c__law_word k__law_word
  have b__law_word := F__law_word.binds (ps := ["_law_box_here", "_law_most", "_law_last"]) fun _ _ _ _ _ _ us hl => match us, hl with | [_, _, _], _ => rfl
  have F__law_branch := fun_mk (st := s__law_branch) l__law_branch c__law_branch k__law_branch
  have b__law_branch := F__law_branch.binds (ps := ["_law_box_here", "_law_room", "_law_nested", "_law_held", "_law_size"]) fun _ _ _ _ _ _ us hl => match us, hl with | [_, _, _, _, _], _ => rfl
  have F__law_text_plan := fun_mk (st := s__law_text_plan) l__law_text_plan c__law_text_plan k__law_text_plan
  have b__law_text_plan := F__law_text_plan.binds (ps := ["_law_box_here"]) fun _ _ _ _ _ _ us hl => match us, hl with | [_], _ => rfl
  have F__law_rows := fun_mk (st := s__law_rows) l__law_rows c__law_rows k__law_rows
  have b__law_rows := F__law_rows.binds (ps := ["_law_statements", "_law_indent"]) fun _ _ _ _ _ _ us hl => match us, hl with | [_, _], _ => rfl
  have F__law_lines := fun_mk (st := s__law_lines) l__law_lines c__law_lines k__law_lines
  have b__law_lines := F__law_lines.binds (ps := ["_law_plan"]) fun _ _ _ _ _ _ us hl => match us, hl with | [_], _ => rfl
  have F_law := fun_mk (st := s_law) l_law c_law k_law
  have F_Check___init__ := fun_mk (st := s_Check___init__) l_Check___init__ c_Check___init__ k_Check___init__
  have b_Check___init__ := F_Check___init__.binds (ps := ["self"]) fun _ _ _ _ _ _ us hl => match us, hl with | [_], _ => rfl
  have F_Check_check_branch := fun_mk (st := s_Check_check_branch) l_Check_check_branch c_Check_check_branch k_Check_check_branch
  have b_Check_check_branch := F_Check_check_branch.binds (ps := ["self", "branch", "above", "held"]) fun _ _ _ _ _ _ us hl => match us, hl with | [_, _, _, _], _ => rfl
  have F_Check_check_statement := fun_mk (st := s_Check_check_statement) l_Check_check_statement c_Check_check_statement k_Check_check_statement
  have b_Check_check_statement := F_Check_check_statement.binds (ps := ["self", "statement", "place", "held"]) fun _ _ _ _ _ _ us hl => match us, hl with | [_, _, _, _], _ => rfl
  have F_Script___init__ := fun_mk (st := s_Script___init__) l_Script___init__ c_Script___init__ k_Script___init__
  have b_Script___init__ := F_Script___init__.binds (ps := ["self", "statements"]) fun _ _ _ _ _ _ us hl => match us, hl with | [_, _], _ => rfl
  have F_Script___len__ := fun_mk (st := s_Script___len__) l_Script___len__ c_Script___len__ k_Script___len__
  have b_Script___len__ := F_Script___len__.binds (ps := ["self"]) fun _ _ _ _ _ _ us hl => match us, hl with | [_], _ => rfl
  have F_Kind___init__ : FunD K "__init__" "Kind.__init__" (defArgs s_Kind___init__) (defBody s_Kind___init__) (defScope s_Kind___init__) [] [("block", .int (1)), ("many", .int (1))] f_Kind___init__ _ := ⟨⟨_, _, _, _, _, _, _, _, _, _, rfl, l_Kind___init__, c_Kind___init__, .inl ⟨rfl, rfl⟩, .inr ⟨KD_Kind, rfl, fun q hq => by
    simp only [List.mem_cons, List.not_mem_nil, or_false] at hq
    rcases hq with rfl | rfl
    · exact ⟨_, kdKind_block, ⟨_, rfl⟩⟩
    · exact ⟨_, kdKind_many, ⟨_, rfl⟩⟩⟩⟩, k_Kind___init__⟩
  refine ⟨PySem.W.fnOf "law" "law" (defArgs s_law) (defBody s_law) (defScope s_law) .none kV_law dc_law pm_law an_law cd_law ct_law, fun s v => .of_eq rfl, fun base _ _ => ?_⟩
  have G_is_integer : Df l.prog w K mg base (Gam C_Script C_Check C_Kind C_System) "is_integer" 1 m_is_integer := ⟨f_is_integer, _, _, (ok_is_integer (P := l.prog) (base := base) Wd  F_is_integer), b_is_integer, k_is_integer, PySem.W.mg_of X G a_is_integer⟩
  have G_is_within : Df l.prog w K mg base (Gam C_Script C_Check C_Kind C_System) "is_within" 2 m_is_within := ⟨f_is_within, _, _, (ok_is_within (P := l.prog) (base := base) Wd G_is_integer F_is_within), b_is_within, k_is_within, PySem.W.mg_of X G a_is_within⟩
  have G_is_name : Df l.prog w K mg base (Gam C_Script C_Check C_Kind C_System) "is_name" 1 m_is_name := ⟨f_is_name, _, _, (ok_is_name (P := l.prog) (base := base) Wd  F_is_name), b_is_name, k_is_name, PySem.W.mg_of X G a_is_name⟩
  have G_held_after : Df l.prog w K mg base (Gam C_Script C_Check C_Kind C_System) "held_after" 1 m_held_after := ⟨f_held_after, _, _, (ok_held_after (P := l.prog) (base := base) Wd  F_held_after), b_held_after, k_held_after, PySem.W.mg_of X G a_held_after⟩
  have G_has_form : Df l.prog w K mg base (Gam C_Script C_Check C_Kind C_System) "has_form" 1 m_has_form := ⟨f_has_form, _, _, (ok_has_form (P := l.prog) (base := base) Wd  F_has_form), b_has_form, k_has_form, PySem.W.mg_of X G a_has_form⟩
  have G_fault_of : Df l.prog w K mg base (Gam C_Script C_Check C_Kind C_System) "fault_of" 2 m_fault_of := ⟨f_fault_of, _, _, (ok_fault_of (P := l.prog) (base := base) Wd G_has_form G_is_name F_fault_of), b_fault_of, k_fault_of, PySem.W.mg_of X G a_fault_of⟩
  have K_Check : Dk l.prog w K mg base (Gam C_Script C_Check C_Kind C_System) 2 "Check" 1 m_Check___init__ := ⟨C_Check, f_Check___init__, _, _, rfl, PySem.W.mg_of X G aCheck, ⟨mkCheck, a_Check___init__, i_Check___init__, kcCheck⟩, (ok_Check___init__ (P := l.prog) (base := base) Wd  F_Check___init__), b_Check___init__⟩
  have GC := checksR (P := l.prog) (base := base) (Γ := (Gam C_Script C_Check C_Kind C_System)) Wd G_fault_of G_held_after F_Check_check_branch F_Check_check_statement b_Check_check_branch b_Check_check_statement rfl Cl_Check ⟨a_Check_check_branch, i_Check_check_branch, k_Check_check_branch⟩ ⟨a_Check_check_statement, i_Check_check_statement, k_Check_check_statement⟩ (by show _ ∉ gfs 2; decide +kernel) (by show _ ∉ gfs 2; decide +kernel) 6
  have G_Check_check_branch : Dm l.prog w K mg base (Gam C_Script C_Check C_Kind C_System) 2 "check_branch" 11 m_Check_check_branch := GC.1
  have G_Check_check_statement := GC.2
  have K_Script : Dk l.prog w K mg base (Gam C_Script C_Check C_Kind C_System) 1 "Script" 12 m_Script___init__ := ⟨C_Script, f_Script___init__, _, _, rfl, PySem.W.mg_of X G aScript, ⟨mkScript, a_Script___init__, i_Script___init__, kcScript⟩, (ok_Script___init__ (P := l.prog) (base := base) Wd G_Check_check_branch K_Check F_Script___init__), b_Script___init__⟩
  have O_Script___len__ : Dn' l.prog w K mg base (Gam C_Script C_Check C_Kind C_System) 1 "__len__" 1 m_Script___len__ := ⟨C_Script, f_Script___len__, _, _, rfl, ⟨a_Script___len__, i_Script___len__⟩, fg_Script___len__, (ok_Script___len__ (P := l.prog) (base := base) Wd  F_Script___len__), b_Script___len__⟩
  have G_script_of : Df l.prog w K mg base (Gam C_Script C_Check C_Kind C_System) "script_of" 14 m_script_of := ⟨f_script_of, _, _, (ok_script_of (P := l.prog) (base := base) Wd K_Script F_script_of), b_script_of, k_script_of, PySem.W.mg_of X G a_script_of⟩
  have K_Kind : Dkk l.prog w K mg base (Gam C_Script C_Check C_Kind C_System) 4 "Kind" 15 m_Kind___init__ 2 ["block", "many"] gKind := kind_kk Wd G_is_name G_is_within G_script_of F_Kind___init__ rfl (PySem.W.mg_of X G aKind) ⟨mkKind, a_Kind___init__, i_Kind___init__, kcKind⟩
  have G_count_of_sessions : Df l.prog w K mg base (Gam C_Script C_Check C_Kind C_System) "count_of_sessions" 1 m_count_of_sessions := ⟨f_count_of_sessions, _, _, (ok_count_of_sessions (P := l.prog) (base := base) Wd  F_count_of_sessions), b_count_of_sessions, k_count_of_sessions, PySem.W.mg_of X G a_count_of_sessions⟩
  have G_are_kinds : Df l.prog w K mg base (Gam C_Script C_Check C_Kind C_System) "are_kinds" 2 m_are_kinds := ⟨f_are_kinds, _, _, (ok_are_kinds (P := l.prog) (base := base) Wd G_count_of_sessions F_are_kinds), b_are_kinds, k_are_kinds, PySem.W.mg_of X G a_are_kinds⟩
  have G_fault_of_system : Df l.prog w K mg base (Gam C_Script C_Check C_Kind C_System) "fault_of_system" 3 m_fault_of_system := ⟨f_fault_of_system, _, _, (ok_fault_of_system (P := l.prog) (base := base) Wd G_are_kinds G_count_of_sessions G_is_within O_Script___len__ F_fault_of_system), b_fault_of_system, k_fault_of_system, PySem.W.mg_of X G a_fault_of_system⟩
  have K_System : Dks l.prog w K mg base (Gam C_Script C_Check C_Kind C_System) 5 "System" 4 m_System___init__ ["ahead", "window", "crashes"] gSystem := sys_ks Wd G_fault_of_system l_System___init__ c_System___init__ rfl (PySem.W.mg_of X G aSystem) ⟨mkSystem, a_System___init__, i_System___init__, kcSystem⟩
  have G_indented : Df l.prog w K mg base (Gam C_Script C_Check C_Kind C_System) "indented" 1 m_indented := ⟨f_indented, _, _, (ok_indented (P := l.prog) (base := base) Wd  F_indented), b_indented, k_indented, PySem.W.mg_of X G a_indented⟩
  have G_rows_of : Df l.prog w K mg base (Gam C_Script C_Check C_Kind C_System) "rows_of" 5 m_rows_of := rowsR (P := l.prog) (base := base) (Γ := (Gam C_Script C_Check C_Kind C_System)) Wd G_indented F_rows_of b_rows_of k_rows_of (PySem.W.mg_of X G a_rows_of) 3
  have G_write_system : Df l.prog w K mg base (Gam C_Script C_Check C_Kind C_System) "write_system" 6 m_write_system := ⟨f_write_system, _, _, (ok_write_system (P := l.prog) (base := base) Wd G_indented G_rows_of F_write_system), b_write_system, k_write_system, PySem.W.mg_of X G a_write_system⟩
  have G__law_box : Df l.prog w K mg base (Gam C_Script C_Check C_Kind C_System) "_law_box" 1 m__law_box := ⟨f__law_box, _, _, (ok__law_box (P := l.prog) (base := base) Wd  F__law_box), b__law_box, k__law_box, PySem.W.mg_of X G a__law_box⟩
  have G__law_pick : Df l.prog w K mg base (Gam C_Script C_Check C_Kind C_System) "_law_pick" 1 m__law_pick := ⟨f__law_pick, _, _, (ok__law_pick (P := l.prog) (base := base) Wd  F__law_pick), b__law_pick, k__law_pick, PySem.W.mg_of X G a__law_pick⟩
  have G__law_seated : Df l.prog w K mg base (Gam C_Script C_Check C_Kind C_System) "_law_seated" 1 m__law_seated := ⟨f__law_seated, _, _, (ok__law_seated (P := l.prog) (base := base) Wd  F__law_seated), b__law_seated, k__law_seated, PySem.W.mg_of X G a__law_seated⟩
  have G__law_system : Df l.prog w K mg base (Gam C_Script C_Check C_Kind C_System) "_law_system" 17 m__law_system := ⟨f__law_system, _, _, (ok__law_system (P := l.prog) (base := base) Wd K_Kind K_System F__law_system), b__law_system, k__law_system, PySem.W.mg_of X G a__law_system⟩
  have G__law_word : Df l.prog w K mg base (Gam C_Script C_Check C_Kind C_System) "_law_word" 2 m__law_word := ⟨f__law_word, _, _, (ok__law_word (P := l.prog) (base := base) Wd G__law_pick F__law_word), b__law_word, k__law_word, PySem.W.mg_of X G a__law_word⟩
  have G__law_branch : Df l.prog w K mg base (Gam C_Script C_Check C_Kind C_System) "_law_branch" 5 m__law_branch := branchR (P := l.prog) (base := base) (Γ := (Gam C_Script C_Check C_Kind C_System)) Wd G__law_pick G__law_word F__law_branch b__law_branch k__law_branch (PySem.W.mg_of X G a__law_branch) 3
  have G__law_text_plan : Df l.prog w K mg base (Gam C_Script C_Check C_Kind C_System) "_law_text_plan" 6 m__law_text_plan := ⟨f__law_text_plan, _, _, (ok__law_text_plan (P := l.prog) (base := base) Wd G__law_branch G__law_pick G__law_seated G__law_word F__law_text_plan), b__law_text_plan, k__law_text_plan, PySem.W.mg_of X G a__law_text_plan⟩
  have G__law_rows : Df l.prog w K mg base (Gam C_Script C_Check C_Kind C_System) "_law_rows" 4 m__law_rows := lrowsR (P := l.prog) (base := base) (Γ := (Gam C_Script C_Check C_Kind C_System)) Wd F__law_rows b__law_rows k__law_rows (PySem.W.mg_of X G a__law_rows) 3
  have G__law_lines : Df l.prog w K mg base (Gam C_Script C_Check C_Kind C_System) "_law_lines" 5 m__law_lines := ⟨f__law_lines, _, _, (ok__law_lines (P := l.prog) (base := base) Wd G__law_rows F__law_lines), b__law_lines, k__law_lines, PySem.W.mg_of X G a__law_lines⟩
  exact law_fn (ok_law (P := l.prog) (base := base) Wd G__law_box G__law_lines G__law_system G__law_text_plan G_write_system F_law)
end Mm
open PySem PySem.W PyProof.Rows
def PySem.W.Fast.tw2664264432122991104 : Nat := 0
def PySem.W.Fast.tw3951002764845617186 : Nat := 0
def PySem.W.Fast.tw2825468454069361890 : Nat := 0
def PySem.W.Fast.tw13497768095064368453 : Nat := 0
def PySem.W.Fast.tw10982828525247444965 : Nat := 0
def PySem.W.Fast.tw13378239706743593320 : Nat := 0
def PySem.W.Fast.tw8437313455103823404 : Nat := 0
def PySem.W.Fast.tw6769048837290471597 : Nat := 0
def PySem.W.Fast.tw18274684962596929710 : Nat := 0
def PySem.W.Fast.tw10997597636255625166 : Nat := 0
def PySem.W.Fast.tw14674566953352875344 : Nat := 0
def PySem.W.Fast.tw14012446989405717073 : Nat := 0
def PySem.W.Fast.tw10088049312263967988 : Nat := 0
def PySem.W.Fast.tw2923507919879985142 : Nat := 0
def PySem.W.Fast.tw10451069760394090040 : Nat := 0
def PySem.W.Fast.tw8333697317654460027 : Nat := 0
def PySem.W.Fast.tw16876932040938019999 : Nat := 0
set_option maxRecDepth 100000 in
set_option maxHeartbeats 0 in
theorem PySem.Challenge.cw_takenahead_k74_systems_are_written_holds : PySem.Challenge.rw_takenahead_k74_systems_are_written.Holds := by
  w_on; o_law; k_head; (case hw => w_witness2)
  k_fill
  refine Mm.walkR (l := PySem.Challenge.rw_takenahead_k74_systems_are_written) rfl rfl (fun w h Y => PySem.W.kIn_of Y) ?F
  case F =>
    intro w mg fa h KX G hmg
    refine' Mm.all_mk KX G hmg ?aScript ?pgScript ?hdScript ?poScript ?saScript ?mkScript ?kcScript ?nScript_found ?nScript_places ?nScript_statements ?aCheck ?pgCheck ?hdCheck ?poCheck ?saCheck ?mkCheck ?kcCheck ?nCheck_found ?aKind ?pgKind ?hdKind ?poKind ?saKind ?mkKind ?kcKind ?nKind_block ?nKind_many ?nKind_name ?nKind_script ?aSystem ?pgSystem ?hdSystem ?poSystem ?saSystem ?mkSystem ?kcSystem ?nSystem_ahead ?nSystem_crashes ?nSystem_kinds ?nSystem_sessions ?nSystem_window ?cn ?ct ?caScript ?obScript ?icScript ?tcScript ?uScript_tuple ?caKind ?obKind ?icKind ?tcKind ?a_is_integer ?l_is_integer ?c_is_integer ?k_is_integer ?a_is_within ?l_is_within ?c_is_within ?k_is_within ?a_is_name ?l_is_name ?c_is_name ?k_is_name ?a_held_after ?l_held_after ?c_held_after ?k_held_after ?a_has_form ?l_has_form ?c_has_form ?k_has_form ?a_fault_of ?l_fault_of ?c_fault_of ?k_fault_of ?a_script_of ?l_script_of ?c_script_of ?k_script_of ?a_count_of_sessions ?l_count_of_sessions ?c_count_of_sessions ?k_count_of_sessions ?a_are_kinds ?l_are_kinds ?c_are_kinds ?k_are_kinds ?a_fault_of_system ?l_fault_of_system ?c_fault_of_system ?k_fault_of_system ?a_indented ?l_indented ?c_indented ?k_indented ?a_rows_of ?l_rows_of ?c_rows_of ?k_rows_of ?a_write_system ?l_write_system ?c_write_system ?k_write_system ?a__law_box ?l__law_box ?c__law_box ?k__law_box ?a__law_pick ?l__law_pick ?c__law_pick ?k__law_pick ?a__law_seated ?l__law_seated ?c__law_seated ?k__law_seated ?a__law_system ?l__law_system ?c__law_system ?k__law_system ?a__law_word ?l__law_word ?c__law_word ?k__law_word ?a__law_branch ?l__law_branch ?c__law_branch ?k__law_branch ?a__law_text_plan ?l__law_text_plan ?c__law_text_plan ?k__law_text_plan ?a__law_rows ?l__law_rows ?c__law_rows ?k__law_rows ?a__law_lines ?l__law_lines ?c__law_lines ?k__law_lines ?a_law ?l_law ?c_law ?k_law ?a_Check___init__ ?i_Check___init__ ?l_Check___init__ ?c_Check___init__ ?k_Check___init__ ?a_Check_check_branch ?i_Check_check_branch ?l_Check_check_branch ?c_Check_check_branch ?k_Check_check_branch ?a_Check_check_statement ?i_Check_check_statement ?l_Check_check_statement ?c_Check_check_statement ?k_Check_check_statement ?a_Script___init__ ?i_Script___init__ ?l_Script___init__ ?c_Script___init__ ?k_Script___init__ ?a_Script___len__ ?i_Script___len__ ?l_Script___len__ ?c_Script___len__ ?k_Script___len__ ?fg_Script___len__ ?a_Kind___init__ ?i_Kind___init__ ?l_Kind___init__ ?c_Kind___init__ ?k_Kind___init__ ?a_System___init__ ?i_System___init__ ?l_System___init__ ?c_System___init__ ?k_System___init__ ?kdKind_block ?kdKind_many ?kdSystem_ahead ?kdSystem_window ?kdSystem_crashes ?z_all ?z_bool ?z_enumerate ?z_int ?z_isinstance ?z_len ?z_list ?z_max ?z_range ?z_set ?z_str ?z_sum ?z_tuple ?z_zip ?v_LONGEST_NAME ?v_LONGEST_OF_MANY ?v_MOST_AHEAD ?v_MOST_BLOCK ?v_MOST_CRASHES ?v_MOST_HELD ?v_MOST_NESTED ?v_MOST_SESSIONS ?v_MOST_STATEMENTS ?v_MOST_WINDOW ?v_OF_BRANCHES ?v_OF_KINDS ?v_OF_SCRIPTS ?v_OF_WORDS ?v_ITEMS ?lkITEMS ?klITEMS ?smITEMS ?eITEMS_take ?eITEMS_commit ?eITEMS_rollback ?eITEMS_drop ?eITEMS_leave ?eITEMS_lock ?eITEMS_unlock ?eITEMS_choose
    (case aScript => k_is)
    (case pgScript => k_is)
    (case hdScript => k_is)
    (case poScript => k_is)
    (case saScript => k_is)
    (case mkScript => k_is)
    (case kcScript => k_is)
    (case nScript_found => k_is)
    (case nScript_places => k_is)
    (case nScript_statements => k_is)
    (case aCheck => k_is)
    (case pgCheck => k_is)
    (case hdCheck => k_is)
    (case poCheck => k_is)
    (case saCheck => k_is)
    (case mkCheck => k_is)
    (case kcCheck => k_is)
    (case nCheck_found => k_is)
    (case aKind => k_is)
    (case pgKind => k_is)
    (case hdKind => k_is)
    (case poKind => k_is)
    (case saKind => k_is)
    (case mkKind => k_is)
    (case kcKind => k_is)
    (case nKind_block => k_is)
    (case nKind_many => k_is)
    (case nKind_name => k_is)
    (case nKind_script => k_is)
    (case aSystem => k_is)
    (case pgSystem => k_is)
    (case hdSystem => k_is)
    (case poSystem => k_is)
    (case saSystem => k_is)
    (case mkSystem => k_is)
    (case kcSystem => k_is)
    (case nSystem_ahead => k_is)
    (case nSystem_crashes => k_is)
    (case nSystem_kinds => k_is)
    (case nSystem_sessions => k_is)
    (case nSystem_window => k_is)
    (case cn => k_is)
    (case ct => k_is)
    (case caScript => k_is)
    (case obScript => k_is)
    (case icScript => k_is)
    (case tcScript => k_is)
    (case uScript_tuple => k_is)
    (case caKind => k_is)
    (case obKind => k_is)
    (case icKind => k_is)
    (case tcKind => k_is)
    (case a_is_integer => k_is)
    (case l_is_integer => k_is)
    (case c_is_integer => k_is)
    (case k_is_integer => k_is)
    (case a_is_within => k_is)
    (case l_is_within => k_is)
    (case c_is_within => k_is)
    (case k_is_within => k_is)
    (case a_is_name => k_is)
    (case l_is_name => k_is)
    (case c_is_name => k_is)
    (case k_is_name => k_is)
    (case a_held_after => k_is)
    (case l_held_after => k_is)
    (case c_held_after => k_is)
    (case k_held_after => k_is)
    (case a_has_form => k_is)
    (case l_has_form => k_is)
    (case c_has_form => k_is)
    (case k_has_form => k_is)
    (case a_fault_of => k_is)
    (case l_fault_of => k_is)
    (case c_fault_of => k_is)
    (case k_fault_of => k_is)
    (case a_script_of => k_is)
    (case l_script_of => k_is)
    (case c_script_of => k_is)
    (case k_script_of => k_is)
    (case a_count_of_sessions => k_is)
    (case l_count_of_sessions => k_is)
    (case c_count_of_sessions => k_is)
    (case k_count_of_sessions => k_is)
    (case a_are_kinds => k_is)
    (case l_are_kinds => k_is)
    (case c_are_kinds => k_is)
    (case k_are_kinds => k_is)
    (case a_fault_of_system => k_is)
    (case l_fault_of_system => k_is)
    (case c_fault_of_system => k_is)
    (case k_fault_of_system => k_is)
    (case a_indented => k_is)
    (case l_indented => k_is)
    (case c_indented => k_is)
    (case k_indented => k_is)
    (case a_rows_of => k_is)
    (case l_rows_of => k_is)
    (case c_rows_of => k_is)
    (case k_rows_of => k_is)
    (case a_write_system => k_is)
    (case l_write_system => k_is)
    (case c_write_system => k_is)
    (case k_write_system => k_is)
    (case a__law_box => k_is)
    (case l__law_box => k_is)
    (case c__law_box => k_is)
    (case k__law_box => k_is)
    (case a__law_pick => k_is)
    (case l__law_pick => k_is)
    (case c__law_pick => k_is)
    (case k__law_pick => k_is)
    (case a__law_seated => k_is)
    (case l__law_seated => k_is)
    (case c__law_seated => k_is)
    (case k__law_seated => k_is)
    (case a__law_system => k_is)
    (case l__law_system => k_is)
    (case c__law_system => k_is)
    (case k__law_system => k_is)
    (case a__law_word => k_is)
    (case l__law_word => k_is)
    (case c__law_word => k_is)
    (case k__law_word => k_is)
    (case a__law_branch => k_is)
    (case l__law_branch => k_is)
    (case c__law_branch => k_is)
    (case k__law_branch => k_is)
    (case a__law_text_plan => k_is)
    (case l__law_text_plan => k_is)
    (case c__law_text_plan => k_is)
    (case k__law_text_plan => k_is)
    (case a__law_rows => k_is)
    (case l__law_rows => k_is)
    (case c__law_rows => k_is)
    (case k__law_rows => k_is)
    (case a__law_lines => k_is)
    (case l__law_lines => k_is)
    (case c__law_lines => k_is)
    (case k__law_lines => k_is)
    (case a_law => k_is)
    (case l_law => k_is)
    (case c_law => k_is)
    (case k_law => k_is)
    (case a_Check___init__ => k_is)
    (case i_Check___init__ => k_is)
    (case l_Check___init__ => k_is)
    (case c_Check___init__ => k_is)
    (case k_Check___init__ => k_is)
    (case a_Check_check_branch => k_is)
    (case i_Check_check_branch => k_is)
    (case l_Check_check_branch => k_is)
    (case c_Check_check_branch => k_is)
    (case k_Check_check_branch => k_is)
    (case a_Check_check_statement => k_is)
    (case i_Check_check_statement => k_is)
    (case l_Check_check_statement => k_is)
    (case c_Check_check_statement => k_is)
    (case k_Check_check_statement => k_is)
    (case a_Script___init__ => k_is)
    (case i_Script___init__ => k_is)
    (case l_Script___init__ => k_is)
    (case c_Script___init__ => k_is)
    (case k_Script___init__ => k_is)
    (case a_Script___len__ => k_is)
    (case i_Script___len__ => k_is)
    (case l_Script___len__ => k_is)
    (case c_Script___len__ => k_is)
    (case k_Script___len__ => k_is)
    (case fg_Script___len__ => k_is)
    (case a_Kind___init__ => k_is)
    (case i_Kind___init__ => k_is)
    (case l_Kind___init__ => k_is)
    (case c_Kind___init__ => k_is)
    (case k_Kind___init__ => k_is)
    (case a_System___init__ => k_is)
    (case i_System___init__ => k_is)
    (case l_System___init__ => k_is)
    (case c_System___init__ => k_is)
    (case k_System___init__ => k_is)
    (case kdKind_block => k_is)
    (case kdKind_many => k_is)
    (case kdSystem_ahead => k_is)
    (case kdSystem_window => k_is)
    (case kdSystem_crashes => k_is)
    (case z_all => k_is)
    (case z_bool => k_is)
    (case z_enumerate => k_is)
    (case z_int => k_is)
    (case z_isinstance => k_is)
    (case z_len => k_is)
    (case z_list => k_is)
    (case z_max => k_is)
    (case z_range => k_is)
    (case z_set => k_is)
    (case z_str => k_is)
    (case z_sum => k_is)
    (case z_tuple => k_is)
    (case z_zip => k_is)
    (case v_LONGEST_NAME => k_is)
    (case v_LONGEST_OF_MANY => k_is)
    (case v_MOST_AHEAD => k_is)
    (case v_MOST_BLOCK => k_is)
    (case v_MOST_CRASHES => k_is)
    (case v_MOST_HELD => k_is)
    (case v_MOST_NESTED => k_is)
    (case v_MOST_SESSIONS => k_is)
    (case v_MOST_STATEMENTS => k_is)
    (case v_MOST_WINDOW => k_is)
    (case v_OF_BRANCHES => k_is)
    (case v_OF_KINDS => k_is)
    (case v_OF_SCRIPTS => k_is)
    (case v_OF_WORDS => k_is)
    (case v_ITEMS => k_is)
    (case lkITEMS => k_is)
    (case klITEMS => (repeat (first | exact trivial | refine ⟨⟨_, _, rfl, rfl⟩, ?_⟩)))
    (case smITEMS => first | rfl | decide)
    (case eITEMS_take => k_is)
    (case eITEMS_commit => k_is)
    (case eITEMS_rollback => k_is)
    (case eITEMS_drop => k_is)
    (case eITEMS_leave => k_is)
    (case eITEMS_lock => k_is)
    (case eITEMS_unlock => k_is)
    (case eITEMS_choose => k_is)
