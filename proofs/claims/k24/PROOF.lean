import PyProof.Rows.All
import Wide.All
import OpenK.AllK
import Wide.FinOn
import HandS.ForMost
import HandS.Exc
import HandS.Lambda
import HandS.TupAny
import HandS.TupMul
import HandS.Deep
import HandS.Wide
import HandS.IsInst
import HandS.TupLen
import HandS.TupLe
import HandS.Conv
import HandS.More
import HandS.OwnEq
import KE.GoesMore
import HandS.Zip
import HandS.ExcOwn
import HandS.WordsExc
import HandS.Defaults
import HandS.ExcInit
import HandS.ExcField
import HandS.ExcIs
import HandS.DeepEq
import KE.KExcIs
import PyProof.NeKinds
import HandS.MakeKwOnly
import HandS.Star
import KE.KStar
import HandS.Strs
import HandS.SortKw
import PyProof.MinMaxWalk
import PyProof.WalkInts
import KE.KMinKey
import HandS.Flow
import HandS.AnyAll
import PyProof.AutoSeq1
import HandS.DictTup
import HandS.DictComp
import HandS.Style
import PyProof.Rows.StrMeet
import PyProof.RulesAssignMore
import HandS.TryOnly
import HandS.Iter
import KE.SortKeyHeap
import KE.SortUse
import PyProof.Straight
import HandS.Text
import HandS.FStr
import HandS.Property
import HandS.SetFor
import KE.DataEq
import HandS.EndOwn
import HandS.GenYield
import HandS.GenList
import PyProof.ForAny
import HandS.Ends
import HandS.Walk
import PySem.Challenge.RW_takenahead_k24_start_and_measures
set_option Elab.async false
set_option linter.all false
set_option maxRecDepth 100000
/-! Plain data for the values of a program: trees D, a store of what changes, and what it means that a heap holds them. -/
namespace Mm
open PySem L2
inductive D where
  | non | bl (b : Bool) | int (i : Int) | str (x : Str)
  | tup (ds : List D) | lst (ds : List D) | dic (ks vs : List D) | obj (c : Nat) (ds : List D)
  | fz (ns : List Int) | loc (n : Nat) | oth (v : V) | ttp (ds : List D) | xn (k : Nat) (ds : List D)
  deriving Inhabited
inductive SO where
  | lst (ds : List D) | dic (ks vs : List D) | ins (c : Nat) (ds : List D)
  deriving Inhabited
structure Exn where
  c : Nat
  ds : List D
inductive R (α : Type) where
  | ok (a : α) (S : List SO) | ex (x : Exn) (S : List SO) | bad
def R.bind {α β : Type} (r : R α) (f : α → List SO → R β) : R β := match r with
  | .ok a S => f a S
  | .ex x S => .ex x S
  | .bad => .bad
@[simp] theorem R.bind_ok {α β : Type} (a : α) (S : List SO) (f : α → List SO → R β) : (R.ok a S).bind f = f a S := rfl
@[simp] theorem R.bind_ex {α β : Type} (x : Exn) (S : List SO) (f : α → List SO → R β) : (R.ex x S : R α).bind f = .ex x S := rfl
@[simp] theorem R.bind_bad {α β : Type} (f : α → List SO → R β) : (R.bad : R α).bind f = .bad := rfl
abbrev Env := List (Option D)
abbrev Sto := List SO
abbrev EM := Env → Sto → R D
/-- where the store's places stand in the heap; what is never changed any more -/
structure Cn where
  ρ : Nat → Addr
  F : Addr → Prop
/-- the classes: where they stand, their fields in the order in which they are set -/
structure Cls' where
  at_ : Nat → Option Addr
  fs : Nat → List Str
  /-- the error that is handled: it, and its dict -/
  ex : Option (Addr × Addr)
  /-- the dict that is walked, and must not change -/
  lk : Option Addr := none
  /-- the tables of code objects that are known -/
  tb : List (Addr × Str) := []
/-- what is fixed: the written part, the classes -/
structure Wn where
  K : PySem.W.Frag
  Γ : Cls'
def isOth : V → Bool
  | .byt _ => true
  | .flt _ => true
  | .ty _ => true
  | _ => false
def keyD : Key → D
  | .inl i => .int i
  | .inr x => .str x
/-- a list of ints that nobody can change: frozen, or written in the text -/
def FzL (K : PySem.W.Frag) (H : Hp) (a : Addr) (xs : List V) : Prop := (∃ o, H a = some (.frz o (.lst xs))) ∨ ∀ H', SqL K H' a xs
theorem FzL.sq {K : PySem.W.Frag} {H : Hp} {a : Addr} {xs : List V} (h : FzL K H a xs) : SqL K H a xs := by
  rcases h with h | h
  · exact .inl (.inr h)
  · exact h H
/-- what stands at a, or stands there locked -/
def DkA (w : Wn) (H : Hp) (a : Addr) (o : HO) : Prop := H a = some o ∨ (w.Γ.lk = some a ∧ ∃ od, H a = some (.frz od o))
theorem DkA.rd {w : Wn} {H : Hp} {a : Addr} {o : HO} (h : DkA w H a o) : Rd H a o := by
  rcases h with h | ⟨_, od, h⟩
  · exact .inl h
  · exact .inr ⟨od, h⟩
theorem DkA.ex {w : Wn} {H : Hp} {a : Addr} {o : HO} (hl : w.Γ.lk = none) (h : DkA w H a o) : H a = some o := by
  rcases h with h | ⟨e, od, h⟩
  · exact h
  · rw [hl] at e; cases e
section
variable (w : Wn) (c : Cn) (H : Hp) (n : Nat)
mutual
def At : D → V → Prop
  | .non, v => v = .non
  | .bl b, v => v = .bl b
  | .int i, v => v = .int i
  | .str x, v => v = .str x
  | .tup ds, v => ∃ a vs, v = .ref a ∧ SqT w.K H a vs ∧ Ats ds vs
  | .ttp ds, v => ∃ a vs, v = .ref a ∧ H a = some (.tup vs) ∧ Ats ds vs
  | .lst ds, v => ∃ a vs, v = .ref a ∧ c.F a ∧ H a = some (.lst vs) ∧ Ats ds vs
  | .dic ks ds, v => ∃ a vs, v = .ref a ∧ c.F a ∧ ((∃ kk : List Key, DkA w H a (.dK (kk.zip vs)) ∧ kk.length = vs.length ∧ ks = kk.map keyD) ∨ (∃ kk : List (List Key), DkA w H a (.dT (kk.zip vs)) ∧ kk.length = vs.length ∧ ks = .non :: kk.map fun k => .tup (k.map keyD))) ∧ Ats ds vs
  | .obj k ds, v => ∃ a vs C dx, v = .ref a ∧ c.F a ∧ w.Γ.at_ k = some C ∧ vs.length ≤ (w.Γ.fs k).length ∧ H a = some (.ins C dx ((w.Γ.fs k).zip vs)) ∧ Ats ds vs
  | .fz ns, v => ∃ a, v = .ref a ∧ FzL w.K H a (ns.map V.int)
  | .loc k, v => k < n ∧ v = .ref (c.ρ k)
  | .oth u, v => v = u ∧ isOth u = true
  | .xn k ds, v => ∃ a dd C vs, v = .ref a ∧ w.Γ.ex = some (a, dd) ∧ w.Γ.at_ k = some C ∧ vs.length ≤ (w.Γ.fs k).length ∧ H dd = some (.xd ((w.Γ.fs k).zip vs)) ∧ Ats ds vs
def Ats : List D → List V → Prop
  | [], vs => vs = []
  | d :: ds, vs => ∃ v r, vs = v :: r ∧ At d v ∧ Ats ds r
end
def OAt (a : Addr) : SO → Prop
  | .lst ds => ∃ vs, H a = some (.lst vs) ∧ Ats w c H n ds vs
  | .dic ks ds => ∃ vs, ((∃ kk : List Key, DkA w H a (.dK (kk.zip vs)) ∧ kk.length = vs.length ∧ ks = kk.map keyD) ∨ (∃ kk : List (List Key), DkA w H a (.dT (kk.zip vs)) ∧ kk.length = vs.length ∧ ks = .non :: kk.map fun k => .tup (k.map keyD))) ∧ Ats w c H n ds vs
  | .ins k ds => ∃ vs C dx, w.Γ.at_ k = some C ∧ vs.length ≤ (w.Γ.fs k).length ∧ H a = some (.ins C dx ((w.Γ.fs k).zip vs)) ∧ Ats w c H n ds vs
end
structure Rep (w : Wn) (c : Cn) (H : Hp) (S : Sto) : Prop where
  obj : ∀ k o, S[k]? = some o → OAt w c H S.length (c.ρ k) o
  inj : ∀ k m, k < S.length → m < S.length → c.ρ k = c.ρ m → k = m
  live : ∀ k, k < S.length → ¬ c.F (c.ρ k)
  fro : ∀ a, c.F a → ∃ u, H a = some u
  tab : LamX.Tabs w.Γ.tb H
/-- what values lean on is kept -/
structure ExtA (c : Cn) (H : Hp) (n : Nat) (c' : Cn) (H' : Hp) (n' : Nat) : Prop where
  le : n ≤ n'
  rho : ∀ k, k < n → c'.ρ k = c.ρ k
  fro : ∀ a, c.F a → c'.F a
  tup : ∀ a xs, H a = some (.tup xs) → H' a = some (.tup xs)
  frz : ∀ a o u, H a = some (.frz o u) → H' a = some (.frz o u)
  xd : ∀ a u, H a = some (.xd u) → H' a = some (.xd u)
  keepG : ∀ a o, c.F a → H a = some o → (∀ ps, o ≠ .tbl ps) → H' a = some o
structure Ext (c : Cn) (H : Hp) (n : Nat) (c' : Cn) (H' : Hp) (n' : Nat) : Prop where
  le : n ≤ n'
  rho : ∀ k, k < n → c'.ρ k = c.ρ k
  fro : ∀ a, c.F a → c'.F a
  tup : ∀ a xs, H a = some (.tup xs) → H' a = some (.tup xs)
  frz : ∀ a o u, H a = some (.frz o u) → H' a = some (.frz o u)
  xd : ∀ a u, H a = some (.xd u) → H' a = some (.xd u)
  keep : ∀ a o, H a = some o → (∀ ps, o ≠ .tbl ps) → (∀ k, k < n → c.ρ k ≠ a) → H' a = some o
  keepG : ∀ a o, c.F a → H a = some o → (∀ ps, o ≠ .tbl ps) → H' a = some o
  new : ∀ k, n ≤ k → k < n' → H (c'.ρ k) = none
  there : ∀ a o, H a = some o → ∃ o', H' a = some o'
  nF : ∀ a, c'.F a → c.F a ∨ H a = none
theorem Ext.A {c c' : Cn} {H H' : Hp} {n n' : Nat} (e : Ext c H n c' H' n') : ExtA c H n c' H' n' := ⟨e.le, e.rho, e.fro, e.tup, e.frz, e.xd, e.keepG⟩
theorem ExtA.keepF {c c' : Cn} {H H' : Hp} {n n' : Nat} (e : ExtA c H n c' H' n') (a : Addr) (o : HO) (f : c.F a) (h : H a = some o) (t : ∀ ps, o ≠ .tbl ps := by intro ps z; cases z) : H' a = some o := e.keepG a o f h t
theorem Ext.keepF {c c' : Cn} {H H' : Hp} {n n' : Nat} (e : Ext c H n c' H' n') (a : Addr) (o : HO) (f : c.F a) (h : H a = some o) (t : ∀ ps, o ≠ .tbl ps := by intro ps z; cases z) : H' a = some o := e.keepG a o f h t
theorem Ext.refl {c : Cn} {H : Hp} {n : Nat} : Ext c H n c H n := ⟨Nat.le_refl _, fun _ _ => rfl, fun _ h => h, fun _ _ h => h, fun _ _ _ h => h, fun _ _ h => h, fun _ _ h _ _ => h, fun _ _ _ h _ => h, fun k a b => absurd b (Nat.not_lt.mpr a), fun _ o h => ⟨o, h⟩, fun _ h => .inl h⟩
theorem Ext.trans {c c1 c2 : Cn} {H H1 H2 : Hp} {n n1 n2 : Nat} (a : Ext c H n c1 H1 n1) (b : Ext c1 H1 n1 c2 H2 n2) : Ext c H n c2 H2 n2 where
  le := Nat.le_trans a.le b.le
  rho := fun k h => (b.rho k (Nat.lt_of_lt_of_le h a.le)).trans (a.rho k h)
  fro := fun x h => b.fro x (a.fro x h)
  tup := fun x xs h => b.tup x xs (a.tup x xs h)
  frz := fun x o u h => b.frz x o u (a.frz x o u h)
  xd := fun x u h => b.xd x u (a.xd x u h)
  keep := fun x o h t q => b.keep x o (a.keep x o h t q) t fun k hk => by
      by_cases hn : k < n
      · rw [a.rho k hn]; exact q k hn
      · intro e
        have := a.new k (Nat.le_of_not_lt hn) hk
        rw [e, h] at this; cases this
  keepG := fun x o f h t => b.keepG x o (a.fro x f) (a.keepG x o f h t) t
  new := fun k h1 h2 => by
      by_cases hn : k < n1
      · rw [b.rho k hn]; exact a.new k h1 hn
      · have q := b.new k (Nat.le_of_not_lt hn) h2
        cases e : H (c2.ρ k) with
        | none => rfl
        | some o =>
          obtain ⟨o', e'⟩ := a.there _ o e
          rw [q] at e'; cases e'
  there := fun x o h => by
      obtain ⟨o', e⟩ := a.there x o h
      exact b.there x o' e
  nF := fun x h => by
      rcases b.nF x h with h | h
      · exact a.nF x h
      · right
        cases e : H x with
        | none => rfl
        | some o =>
          obtain ⟨o', e'⟩ := a.there _ o e
          rw [h] at e'; cases e'
section
variable {w : Wn} {c c' : Cn} {H H' : Hp} {n n' : Nat}
theorem ExtA.sqT (e : ExtA c H n c' H' n') {K : PySem.W.Frag} {a : Addr} {xs : List V} (h : SqT K H a xs) : SqT K H' a xs := by
  rcases h with (h | ⟨o, h⟩) | h
  · exact .inl (.inl (e.tup _ _ h))
  · exact .inl (.inr ⟨o, e.frz _ _ _ h⟩)
  · exact .inr h
theorem Ext.sqT (e : Ext c H n c' H' n') {K : PySem.W.Frag} {a : Addr} {xs : List V} (h : SqT K H a xs) : SqT K H' a xs := e.A.sqT h
theorem ExtA.fzL (e : ExtA c H n c' H' n') {K : PySem.W.Frag} {a : Addr} {xs : List V} (h : FzL K H a xs) : FzL K H' a xs := by
  rcases h with ⟨o, h⟩ | h
  · exact .inl ⟨o, e.frz _ _ _ h⟩
  · exact .inr h
theorem ExtA.dkA (e : ExtA c H n c' H' n') {a : Addr} {o : HO} (f : c.F a) (h : DkA w H a o) (t : ∀ ps, o ≠ .tbl ps := by intro ps z; cases z) : DkA w H' a o := by
  rcases h with h | ⟨l, od, h⟩
  · exact .inl (e.keepF _ _ f h t)
  · exact .inr ⟨l, od, e.keepF _ _ f h⟩
mutual
theorem At.monoA (e : ExtA c H n c' H' n') : ∀ (d : D) (v : V), At w c H n d v → At w c' H' n' d v
  | .non, v, h => h
  | .bl b, v, h => h
  | .int i, v, h => h
  | .str x, v, h => h
  | .tup ds, v, h => by
    unfold At at h ⊢
    obtain ⟨a, vs, r, s, t⟩ := h
    exact ⟨a, vs, r, e.sqT s, Ats.monoA e ds vs t⟩
  | .ttp ds, v, h => by
    unfold At at h ⊢
    obtain ⟨a, vs, r, s, t⟩ := h
    exact ⟨a, vs, r, e.tup _ _ s, Ats.monoA e ds vs t⟩
  | .lst ds, v, h => by
    unfold At at h ⊢
    obtain ⟨a, vs, r, f, s, t⟩ := h
    exact ⟨a, vs, r, e.fro _ f, e.keepF _ _ f s, Ats.monoA e ds vs t⟩
  | .dic ks ds, v, h => by
    unfold At at h ⊢
    obtain ⟨a, vs, r, f, s, t⟩ := h
    refine ⟨a, vs, r, e.fro _ f, ?_, Ats.monoA e ds vs t⟩
    rcases s with ⟨kk, s⟩ | ⟨kk, s⟩
    · exact .inl ⟨kk, e.dkA f s.1, s.2⟩
    · exact .inr ⟨kk, e.dkA f s.1, s.2⟩
  | .obj k ds, v, h => by
    unfold At at h ⊢
    obtain ⟨a, vs, C, dx, r, f, g, l, s, t⟩ := h
    exact ⟨a, vs, C, dx, r, e.fro _ f, g, l, e.keepF _ _ f s, Ats.monoA e ds vs t⟩
  | .fz ns, v, h => by
    unfold At at h ⊢
    obtain ⟨a, r, s⟩ := h
    exact ⟨a, r, e.fzL s⟩
  | .loc k, v, h => by
    unfold At at h ⊢
    exact ⟨Nat.lt_of_lt_of_le h.1 e.le, by rw [e.rho k h.1]; exact h.2⟩
  | .oth u, v, h => h
  | .xn k ds, v, h => by
    unfold At at h ⊢
    obtain ⟨a, dd, C, vs, r, x, g, l, s, t⟩ := h
    exact ⟨a, dd, C, vs, r, x, g, l, e.xd _ _ s, Ats.monoA e ds vs t⟩
theorem Ats.monoA (e : ExtA c H n c' H' n') : ∀ (ds : List D) (vs : List V), Ats w c H n ds vs → Ats w c' H' n' ds vs
  | [], vs, h => h
  | d :: ds, vs, h => by
    unfold Ats at h ⊢
    obtain ⟨v, r, q, a, b⟩ := h
    exact ⟨v, r, q, At.monoA e d v a, Ats.monoA e ds r b⟩
end
theorem At.mono (e : Ext c H n c' H' n') (d : D) (v : V) (h : At w c H n d v) : At w c' H' n' d v := At.monoA e.A d v h
theorem Ats.mono (e : Ext c H n c' H' n') (ds : List D) (vs : List V) (h : Ats w c H n ds vs) : Ats w c' H' n' ds vs := Ats.monoA e.A ds vs h
theorem Ats.len : ∀ {ds : List D} {vs : List V}, Ats w c H n ds vs → vs.length = ds.length
  | [], vs, h => by unfold Ats at h; rw [h]; rfl
  | d :: ds, vs, h => by
    unfold Ats at h
    obtain ⟨v, r, q, a, b⟩ := h
    rw [q, List.length_cons, List.length_cons, Ats.len b]
theorem Ats.get : ∀ {ds : List D} {vs : List V} {i : Nat} {d : D}, Ats w c H n ds vs → ds[i]? = some d → ∃ v, vs[i]? = some v ∧ At w c H n d v
  | [], vs, i, d, h, e => by simp at e
  | d :: ds, vs, i, d', h, e => by
    unfold Ats at h
    obtain ⟨v, r, q, a, b⟩ := h
    subst q
    cases i with
    | zero => cases e; exact ⟨v, rfl, a⟩
    | succ i => exact Ats.get (i := i) b (by simpa using e)
theorem Ats.nil : Ats w c H n [] [] := by unfold Ats; rfl
theorem Ats.cons {d : D} {ds : List D} {v : V} {vs : List V} (a : At w c H n d v) (b : Ats w c H n ds vs) : Ats w c H n (d :: ds) (v :: vs) := by
  unfold Ats; exact ⟨v, vs, rfl, a, b⟩
theorem Ats.app : ∀ {ds es : List D} {vs ws : List V}, Ats w c H n ds vs → Ats w c H n es ws → Ats w c H n (ds ++ es) (vs ++ ws)
  | [], es, vs, ws, h, g => by unfold Ats at h; rw [h]; exact g
  | d :: ds, es, vs, ws, h, g => by
    unfold Ats at h
    obtain ⟨v, r, q, a, b⟩ := h
    rw [q]
    exact .cons a (Ats.app b g)
theorem Ats.one {d : D} {v : V} (a : At w c H n d v) : Ats w c H n [d] [v] := .cons a .nil
theorem Ats.drop : ∀ {ds : List D} {vs : List V} (k : Nat), Ats w c H n ds vs → Ats w c H n (ds.drop k) (vs.drop k)
  | ds, vs, 0, h => h
  | [], vs, k + 1, h => by unfold Ats at h; rw [h]; exact .nil
  | d :: ds, vs, k + 1, h => by
    unfold Ats at h
    obtain ⟨v, r, q, a, b⟩ := h
    rw [q]; exact Ats.drop k b
theorem Ats.take : ∀ {ds : List D} {vs : List V} (k : Nat), Ats w c H n ds vs → Ats w c H n (ds.take k) (vs.take k)
  | ds, vs, 0, h => by simp [Ats]
  | [], vs, k + 1, h => by unfold Ats at h; rw [h]; exact .nil
  | d :: ds, vs, k + 1, h => by
    unfold Ats at h
    obtain ⟨v, r, q, a, b⟩ := h
    rw [q]; exact .cons a (Ats.take k b)
theorem Ats.set {d : D} {v : V} (x : At w c H n d v) : ∀ {ds : List D} {vs : List V} (k : Nat), Ats w c H n ds vs → Ats w c H n (ds.set k d) (vs.set k v)
  | [], vs, k, h => by unfold Ats at h; rw [h]; simp [Ats]
  | d :: ds, vs, k, h => by
    unfold Ats at h
    obtain ⟨v, r, q, a, b⟩ := h
    rw [q]
    cases k with
    | zero => exact .cons x b
    | succ k => exact .cons a (Ats.set x k b)
theorem Ats.uncons {d : D} {ds : List D} {vs : List V} (h : Ats w c H n (d :: ds) vs) : ∃ v r, vs = v :: r ∧ At w c H n d v ∧ Ats w c H n ds r := by unfold Ats at h; exact h
theorem Ats.unnil {vs : List V} (h : Ats w c H n [] vs) : vs = [] := by unfold Ats at h; exact h
theorem OAt.monoA (e : ExtA c H n c' H' n') {a : Addr} (ka : ∀ o, H a = some o → H' a = some o) : ∀ {o : SO}, OAt w c H n a o → OAt w c' H' n' a o
  | .lst ds, h => by
    obtain ⟨vs, g, t⟩ := h
    exact ⟨vs, ka _ g, Ats.monoA e _ _ t⟩
  | .dic ks ds, h => by
    obtain ⟨vs, g, t⟩ := h
    refine ⟨vs, ?_, Ats.monoA e _ _ t⟩
    rcases g with ⟨kk, s⟩ | ⟨kk, s⟩
    · exact .inl ⟨kk, s.1.imp (ka _) (fun ⟨l, od, z⟩ => ⟨l, od, ka _ z⟩), s.2⟩
    · exact .inr ⟨kk, s.1.imp (ka _) (fun ⟨l, od, z⟩ => ⟨l, od, ka _ z⟩), s.2⟩
  | .ins k ds, h => by
    obtain ⟨vs, C, dx, g, l, s, t⟩ := h
    exact ⟨vs, C, dx, g, l, ka _ s, Ats.monoA e _ _ t⟩
theorem OAt.mono (e : Ext c H n c' H' n') {a : Addr} (ka : ∀ o, H a = some o → H' a = some o) {o : SO} (h : OAt w c H n a o) : OAt w c' H' n' a o := OAt.monoA e.A ka h
theorem OAt.some {a : Addr} : ∀ {o : SO}, OAt w c H n a o → ∃ u, H a = .some u ∧ (Mut (.some u) ∨ w.Γ.lk = .some a)
  | .lst ds, h => by
    obtain ⟨vs, g, t⟩ := h
    exact ⟨_, g, .inl trivial⟩
  | .dic ks ds, h => by
    obtain ⟨vs, g, t⟩ := h
    rcases g with ⟨kk, s⟩ | ⟨kk, s⟩
    · rcases s.1 with z | ⟨l, od, z⟩
      · exact ⟨_, z, .inl trivial⟩
      · exact ⟨_, z, .inr l⟩
    · rcases s.1 with z | ⟨l, od, z⟩
      · exact ⟨_, z, .inl trivial⟩
      · exact ⟨_, z, .inr l⟩
  | .ins k ds, h => by
    obtain ⟨vs, C, dx, g, l, s, t⟩ := h
    exact ⟨_, s, .inl trivial⟩
end
section
variable {w : Wn} {c c' : Cn} {H H' : Hp} {S : Sto}
theorem tabs_upd {T : List (Addr × Str)} {p : Addr} {o : HO} (t : LamX.Tabs T H) (hp : ∀ u, H p = some u → (∀ ps, u ≠ .tbl ps) ∧ ∀ φ, u ≠ .ext φ) : LamX.Tabs T (upd H p o) := fun x hx => by
  obtain ⟨ps, h1, h2, h3⟩ := t x hx
  have n1 : x.1 ≠ p := fun e => (hp _ (e ▸ h1)).1 ps rfl
  refine ⟨ps, by rw [upd_ne n1]; exact h1, h2, fun pos cv hc => ?_⟩
  obtain ⟨c0, e1, e2⟩ := h3 pos cv hc
  have n2 : c0 ≠ p := fun e => (hp _ (e ▸ e2)).2 _ rfl
  exact ⟨c0, e1, by rw [upd_ne n2]; exact e2⟩
theorem tabs_new {T : List (Addr × Str)} {p : Addr} {o : HO} (t : LamX.Tabs T H) (hp : H p = none) : LamX.Tabs T (upd H p o) := tabs_upd t fun u e => by rw [hp] at e; cases e
theorem OAt.nx {a : Addr} {n : Nat} : ∀ {o : SO}, OAt w c H n a o → ∀ u : HO, H a = Option.some u → (∀ ps, u ≠ HO.tbl ps) ∧ ∀ φ, u ≠ HO.ext φ
  | .lst ds, h, u, e => by
    obtain ⟨vs, g, t⟩ := h
    rw [g] at e; cases e
    exact ⟨fun _ z => (nomatch z), fun _ z => (nomatch z)⟩
  | .dic ks ds, h, u, e => by
    obtain ⟨vs, g, t⟩ := h
    rcases g with ⟨kk, s⟩ | ⟨kk, s⟩ <;> rcases s.1 with z | ⟨l, od, z⟩ <;> (rw [z] at e; cases e; exact ⟨fun _ z => (nomatch z), fun _ z => (nomatch z)⟩)
  | .ins k ds, h, u, e => by
    obtain ⟨vs, C, dx, g, l, s, t⟩ := h
    rw [s] at e; cases e
    exact ⟨fun _ z => (nomatch z), fun _ z => (nomatch z)⟩
theorem Rep.get (r : Rep w c H S) {k : Nat} {o : SO} (h : S[k]? = some o) : OAt w c H S.length (c.ρ k) o := r.obj k o h
theorem Rep.lt {k : Nat} {o : SO} (h : S[k]? = some o) : k < S.length := (List.getElem?_eq_some_iff.mp h).1
theorem Rep.some (r : Rep w c H S) {k : Nat} (h : k < S.length) : ∃ u, H (c.ρ k) = .some u ∧ (Mut (.some u) ∨ w.Γ.lk = .some (c.ρ k)) := (r.obj k _ (List.getElem?_eq_getElem h)).some
theorem Rep.ne (r : Rep w c H S) {a : Addr} (h : H a = none) {k : Nat} (hk : k < S.length) : c.ρ k ≠ a := fun e => by
  obtain ⟨u, q, _⟩ := r.some hk
  rw [e, h] at q; cases q
theorem Rep.nF (r : Rep w c H S) {a : Addr} (h : H a = none) : ¬ c.F a := fun f => by
  obtain ⟨u, q⟩ := r.fro a f
  rw [h] at q; cases q
/-- the heap grows by a new object that is neither a place of the store nor unchangeable by name: a tuple, or anything else -/
theorem Ext.grow {n : Nat} {p : Addr} {o : HO} (hp : H p = none) : Ext c H n c (upd H p o) n :=
  ⟨Nat.le_refl _, fun _ _ => rfl, fun _ h => h, fun a xs h => by rw [upd_ne (ne_of_none h hp)]; exact h, fun a o u h => by rw [upd_ne (ne_of_none h hp)]; exact h, fun a u h => by rw [upd_ne (ne_of_none h hp)]; exact h, fun a u h _ _ => by rw [upd_ne (ne_of_none h hp)]; exact h,
    fun a u _ h _ => by rw [upd_ne (ne_of_none h hp)]; exact h, fun k a b => absurd b (Nat.not_lt.mpr a), fun a u h => ⟨u, by rw [upd_ne (ne_of_none h hp)]; exact h⟩, fun _ h => .inl h⟩
theorem Rep.grow (r : Rep w c H S) {p : Addr} {o : HO} (hp : H p = none) : Rep w c (upd H p o) S :=
  ⟨fun k u h => (r.obj k u h).mono (Ext.grow hp) fun x hx => by rw [upd_ne (ne_of_none hx hp)]; exact hx, r.inj, r.live, fun a f => by
    obtain ⟨u, q⟩ := r.fro a f
    exact ⟨u, by rw [upd_ne (ne_of_none q hp)]; exact q⟩, tabs_new r.tab hp⟩
/-- what stands at p is not changed any more -/
def Cn.fr (c : Cn) (p : Addr) : Cn := { c with F := fun a => c.F a ∨ a = p }
theorem Ext.fr {n : Nat} {p : Addr} {o : HO} (hp : H p = none) : Ext c H n (c.fr p) (upd H p o) n :=
  let e := Ext.grow (c := c) (n := n) (o := o) hp
  ⟨e.le, fun _ _ => rfl, fun _ h => .inl h, e.tup, e.frz, e.xd, e.keep, e.keepG, e.new, e.there, fun a h => by
    rcases h with h | h
    · exact .inl h
    · right; rw [h]; exact hp⟩
theorem Rep.fr (r : Rep w c H S) {p : Addr} {o : HO} (hp : H p = none) : Rep w (c.fr p) (upd H p o) S :=
  ⟨fun k u h => (r.obj k u h).mono (Ext.fr hp) fun x hx => by rw [upd_ne (ne_of_none hx hp)]; exact hx, r.inj, fun k hk f => by
    rcases f with f | f
    · exact r.live k hk f
    · exact r.ne hp hk f, fun a f => by
    rcases f with f | f
    · obtain ⟨u, q⟩ := r.fro a f
      exact ⟨u, by rw [upd_ne (ne_of_none q hp)]; exact q⟩
    · rw [f]; exact ⟨o, upd_same⟩, tabs_new r.tab hp⟩
/-- a new place of the store -/
def Cn.nw (c : Cn) (n : Nat) (p : Addr) : Cn := { c with ρ := fun k => if k = n then p else c.ρ k }
theorem Cn.nw_at {n : Nat} {p : Addr} : (c.nw n p).ρ n = p := if_pos rfl
theorem Cn.nw_ne {n k : Nat} {p : Addr} (h : k ≠ n) : (c.nw n p).ρ k = c.ρ k := if_neg h
theorem Ext.nw {n : Nat} {p : Addr} {o : HO} (hp : H p = none) : Ext c H n (c.nw n p) (upd H p o) (n + 1) :=
  let e := Ext.grow (c := c) (n := n) (o := o) hp
  ⟨Nat.le_succ _, fun k h => Cn.nw_ne (Nat.ne_of_lt h), fun _ h => h, e.tup, e.frz, e.xd, e.keep, e.keepG, fun k h1 h2 => by
    have : k = n := by omega
    rw [this, Cn.nw_at]; exact hp, e.there, fun a h => .inl h⟩
theorem Rep.nw (r : Rep w c H S) {p : Addr} {o : HO} {so : SO} (hp : H p = none) (q : OAt w (c.nw S.length p) (upd H p o) (S.length + 1) p so) : Rep w (c.nw S.length p) (upd H p o) (S ++ [so]) := by
  have e : Ext c H S.length (c.nw S.length p) (upd H p o) (S.length + 1) := Ext.nw hp
  refine ⟨fun k u h => ?_, fun k m hk hm he => ?_, fun k hk f => ?_, fun a f => ?_, tabs_new r.tab hp⟩
  · rw [List.length_append, List.length_singleton]
    by_cases hk : k < S.length
    · rw [List.getElem?_append_left hk] at h
      have := (r.obj k u h).mono e fun x hx => by rw [upd_ne (ne_of_none hx hp)]; exact hx
      rw [Cn.nw_ne (Nat.ne_of_lt hk)]
      exact this
    · have hl := Rep.lt h
      rw [List.length_append, List.length_singleton] at hl
      have ek : k = S.length := by omega
      subst ek
      rw [List.getElem?_append_right (Nat.le_refl _)] at h
      simp at h
      subst h
      rw [Cn.nw_at]
      exact q
  · rw [List.length_append, List.length_singleton] at hk hm
    by_cases h1 : k = S.length
    · by_cases h2 : m = S.length
      · rw [h1, h2]
      · rw [h1, Cn.nw_at, Cn.nw_ne h2] at he
        exact absurd he.symm (r.ne hp (by omega))
    · by_cases h2 : m = S.length
      · rw [h2, Cn.nw_at, Cn.nw_ne h1] at he
        exact absurd he (r.ne hp (by omega))
      · rw [Cn.nw_ne h1, Cn.nw_ne h2] at he
        exact r.inj k m (by omega) (by omega) he
  · rw [List.length_append, List.length_singleton] at hk
    by_cases h1 : k = S.length
    · rw [h1, Cn.nw_at] at f
      exact r.nF hp f
    · rw [Cn.nw_ne h1] at f
      exact r.live k (by omega) f
  · obtain ⟨u, q⟩ := r.fro a f
    exact ⟨u, by rw [upd_ne (ne_of_none q hp)]; exact q⟩
/-- what stands at a place of the store is changed -/
theorem Ext.wr (r : Rep w c H S) {k : Nat} {o : HO} (hk : k < S.length) (hm : ∃ u, H (c.ρ k) = .some u ∧ Mut (.some u)) : Ext c H S.length c (upd H (c.ρ k) o) S.length := by
  obtain ⟨u, q, m⟩ := hm
  have nm : ∀ a x, H a = .some x → ¬ Mut (.some x) → a ≠ c.ρ k := fun a x h z e => by
    rw [e, q] at h; cases h; exact z m
  refine ⟨Nat.le_refl _, fun _ _ => rfl, fun _ h => h, fun a xs h => ?_, fun a x y h => ?_, fun a x h => ?_, fun a x h _ hn => ?_, fun a x f h _ => ?_, fun k a b => absurd b (Nat.not_lt.mpr a), fun a x h => ?_, fun _ h => .inl h⟩
  · rw [upd_ne (nm a _ h fun z => z)]; exact h
  · rw [upd_ne (nm a _ h fun z => z)]; exact h
  · rw [upd_ne (nm a _ h fun z => z)]; exact h
  · rw [upd_ne fun e => hn k hk e.symm]; exact h
  · rw [upd_ne fun e => r.live k hk (by rw [← e]; exact f)]; exact h
  · by_cases e : a = c.ρ k
    · rw [e]; exact ⟨o, upd_same⟩
    · exact ⟨x, by rw [upd_ne e]; exact h⟩
theorem Rep.wr (r : Rep w c H S) {k : Nat} {o : HO} {so : SO} (hk : k < S.length) (hm : ∃ u, H (c.ρ k) = .some u ∧ Mut (.some u)) (q : OAt w c (upd H (c.ρ k) o) S.length (c.ρ k) so) : Rep w c (upd H (c.ρ k) o) (S.set k so) := by
  have e : Ext c H S.length c (upd H (c.ρ k) o) S.length := Ext.wr r hk hm
  refine ⟨fun m u h => ?_, fun i j hi hj => ?_, fun i hi => ?_, fun a f => ?_, tabs_upd r.tab (r.obj k _ (List.getElem?_eq_getElem hk)).nx⟩
  · rw [List.length_set]
    by_cases hm : m = k
    · subst hm
      rw [List.getElem?_set_self hk] at h
      cases h; exact q
    · rw [List.getElem?_set_ne (Ne.symm hm)] at h
      refine (r.obj m u h).mono e fun x hx => ?_
      rw [upd_ne fun z => hm (r.inj m k (Rep.lt h) hk z)]; exact hx
  · rw [List.length_set] at hi hj; exact r.inj i j hi hj
  · rw [List.length_set] at hi; exact r.live i hi
  · obtain ⟨u, q⟩ := r.fro a f
    exact e.there a u q
/-- a list that stands neither in the store nor under what is unchangeable is changed -/
theorem ExtA.side {n : Nat} {p : Addr} {xs ys : List V} (hp : H p = .some (.lst xs)) (hf : ¬ c.F p) : ExtA c H n c (upd H p (.lst ys)) n :=
  ⟨Nat.le_refl _, fun _ _ => rfl, fun _ h => h, fun a us h => by rw [upd_ne (ne_of h hp fun z => nomatch z)]; exact h, fun a o u h => by rw [upd_ne (ne_of h hp fun z => nomatch z)]; exact h, fun a u h => by rw [upd_ne (ne_of h hp fun z => nomatch z)]; exact h, fun a o f h _ => by
    rw [upd_ne fun e => hf (by rw [← e]; exact f)]; exact h⟩
theorem Rep.side (r : Rep w c H S) {p : Addr} {xs ys : List V} (hp : H p = .some (.lst xs)) (hf : ¬ c.F p) (hn : ∀ k, k < S.length → c.ρ k ≠ p) : Rep w c (upd H p (.lst ys)) S :=
  ⟨fun k o h => (r.obj k o h).monoA (ExtA.side hp hf) fun u hu => by rw [upd_ne (hn k (Rep.lt h))]; exact hu, r.inj, r.live, fun a f => by
    obtain ⟨u, q⟩ := r.fro a f
    exact ⟨u, by rw [upd_ne fun e => hf (by rw [← e]; exact f)]; exact q⟩, tabs_upd r.tab fun u e => by rw [hp] at e; cases e; exact ⟨fun _ z => (nomatch z), fun _ z => (nomatch z)⟩⟩
/-- seen from a time when nothing stood there -/
theorem Ext.side {c0 : Cn} {H0 : Hp} {n0 n : Nat} {p : Addr} {o u : HO} (e : Ext c0 H0 n0 c H n) (h0 : H0 p = none) (hp : H p = .some u) : Ext c0 H0 n0 c (upd H p o) n :=
  ⟨e.le, e.rho, e.fro, fun a xs h => by rw [upd_ne (ne_of_none h h0)]; exact e.tup a xs h, fun a x y h => by rw [upd_ne (ne_of_none h h0)]; exact e.frz a x y h, fun a x h => by rw [upd_ne (ne_of_none h h0)]; exact e.xd a x h, fun a x h t q => by rw [upd_ne (ne_of_none h h0)]; exact e.keep a x h t q,
    fun a x f h t => by rw [upd_ne (ne_of_none h h0)]; exact e.keepG a x f h t, e.new, fun a x h => by
      obtain ⟨x', q⟩ := e.there a x h
      exact ⟨x', by rw [upd_ne (ne_of_none h h0)]; exact q⟩, e.nF⟩
end
end Mm
set_option maxRecDepth 100000
/-! Expressions over the plain data. -/
namespace Mm
open PySem L2
abbrev TM := Env → Sto → R Bool
abbrev AM := Env → Sto → R (List D)
section
variable (w : Wn) (W : WX)
def XAt (c : Cn) (H : Hp) (n : Nat) (x : Exn) (C : Value) (dd : Option Addr) : Prop :=
  ∃ (a d : Addr) (vs : List V), w.Γ.at_ x.c = some a ∧ C = .ref a ∧ dd = some d ∧ vs.length ≤ (w.Γ.fs x.c).length ∧ H d = some (.xd ((w.Γ.fs x.c).zip vs)) ∧ Ats w c H n x.ds vs
/-- what an outcome asks: of each value and heap that may have come of it -/
def Po {α β : Type} (rel : Cn → Hp → Nat → α → β → Prop) (σ : St) (c : Cn) (H : Hp) (n : Nat) (r : R α) (Q : β → Hp → Prop) : Prop := match r with
  | .ok d S => ∀ c' H' v, Ext c H n c' H' S.length → Rep w c' H' S → rel c' H' S.length d v → Q v H'
  | .ex x S => ∀ c' H' C dd, Ext c H n c' H' S.length → Rep w c' H' S → XAt w c' H' S.length x C dd → W C dd σ H'
  | .bad => False
def relB (_ : Cn) (_ : Hp) (_ : Nat) (b v : Bool) : Prop := v = b
abbrev PoE := Po w W (At w)
abbrev PoA := Po w W (Ats w)
abbrev PoT := Po w W relB
def EnvR (c : Cn) (H : Hp) (n : Nat) (σ : List (Option V)) (env : Env) : Prop := σ.length = env.length ∧ ∀ (i : Nat) (d : D), env[i]? = some (some d) → ∃ v : V, σ[i]? = some (some v) ∧ At w c H n d v
def mG {α β : Type} (rel : Cn → Hp → Nat → α → β → Prop) (m : Env → Sto → R α) (σ : St) (H : Hp) (Q : β → Hp → Prop) : Prop :=
  ∃ c env S, Rep w c H S ∧ EnvR w c H S.length σ env ∧ Po w W rel σ c H S.length (m env S) Q
def mE (m : EM) : TE := fun σ H Q => mG w W (At w) m σ H Q
def mA (m : AM) : TA := fun σ H Q => mG w W (Ats w) m σ H Q
def mT (m : TM) : TT := fun σ H Q => mG w W relB m σ H Q
end
abbrev CE (Γ : Cls') (X : Cx) (W : WX) (e : Expr) (m : EM) : Prop := PE X e (mE ⟨X.K, Γ⟩ W m)
abbrev CA (Γ : Cls') (X : Cx) (W : WX) (es : List Expr) (m : AM) : Prop := PA X es (mA ⟨X.K, Γ⟩ W m)
abbrev CT (Γ : Cls') (X : Cx) (W : WX) (e : Expr) (m : TM) : Prop := PT X e (mT ⟨X.K, Γ⟩ W m)
theorem PE.weak {X : Cx} {e : Expr} {t t' : TE} (h : PE X e t) (i : ∀ σ H Q, t' σ H Q → t σ H Q) : PE X e t' := ⟨fun pins s σ H Q I q => h.run pins s σ H Q I (i σ H Q q)⟩
theorem PA.weak {X : Cx} {e : List Expr} {t t' : TA} (h : PA X e t) (i : ∀ σ H Q, t' σ H Q → t σ H Q) : PA X e t' := ⟨fun pos pins s σ H Q I q => h.run pos pins s σ H Q I (i σ H Q q)⟩
theorem PT.weak {X : Cx} {e : Expr} {t t' : TT} (h : PT X e t) (i : ∀ σ H Q, t' σ H Q → t σ H Q) : PT X e t' := ⟨fun pins s σ H Q I q => h.run pins s σ H Q I (i σ H Q q)⟩
theorem PW.weak {X : Cx} {e : Expr} {t t' : TT} (h : PW X e t) (i : ∀ σ H Q, t' σ H Q → t σ H Q) : PW X e t' := ⟨fun wh pins s σ H Q I q => h.run wh pins s σ H Q I (i σ H Q q)⟩
section
variable {w : Wn} {W : WX} {σ : St} {c c' : Cn} {H H' : Hp} {n n' : Nat} {S : Sto} {env : Env}
theorem EnvR.mono (e : Ext c H n c' H' n') (h : EnvR w c H n σ env) : EnvR w c' H' n' σ env := ⟨h.1, fun i d q => by
  obtain ⟨v, a, b⟩ := h.2 i d q
  exact ⟨v, a, b.mono e⟩⟩
theorem EnvR.get {i : Nat} {d : D} (h : EnvR w c H n σ env) (q : env[i]? = some (some d)) : ∃ v, σ[i]? = some (some v) ∧ At w c H n d v := h.2 i d q
theorem EnvR.set {i : Nat} {d : D} {v : V} (h : EnvR w c H n σ env) (a : At w c H n d v) : EnvR w c H n (σ.set i (some v)) (env.set i (some d)) := by
  refine ⟨by rw [List.length_set, List.length_set]; exact h.1, fun j d' q => ?_⟩
  by_cases e : j = i
  · subst e
    by_cases hl : j < env.length
    · rw [List.getElem?_set_self hl] at q
      cases q
      exact ⟨v, List.getElem?_set_self (by rw [h.1]; exact hl), a⟩
    · rw [List.getElem?_eq_none (by rw [List.length_set]; omega)] at q; cases q
  · rw [List.getElem?_set_ne (Ne.symm e)] at q ⊢
    exact h.2 j d' q
theorem Po.mono {α β : Type} {rel : Cn → Hp → Nat → α → β → Prop} {r : R α} {Q : β → Hp → Prop} (e : Ext c H n c' H' n') (h : Po w W rel σ c H n r Q) : Po w W rel σ c' H' n' r Q := by
  cases r with
  | ok d S => exact fun c2 H2 v e2 r2 a => h c2 H2 v (e.trans e2) r2 a
  | ex x S => exact fun c2 H2 C dd e2 r2 a => h c2 H2 C dd (e.trans e2) r2 a
  | bad => exact h.elim
theorem Po.imp {α β : Type} {rel : Cn → Hp → Nat → α → β → Prop} {r : R α} {Q Q' : β → Hp → Prop} (h : Po w W rel σ c H n r Q) (i : ∀ v H, Q v H → Q' v H) : Po w W rel σ c H n r Q' := by
  cases r with
  | ok d S => exact fun c2 H2 v e2 r2 a => i _ _ (h c2 H2 v e2 r2 a)
  | ex x S => exact h
  | bad => exact h.elim
/-- one part, then the rest -/
theorem Po.bind {α β γ δ : Type} {rel : Cn → Hp → Nat → α → β → Prop} {rel2 : Cn → Hp → Nat → γ → δ → Prop} {r : R α} {f : α → Sto → R γ} {Q : δ → Hp → Prop} (h : Po w W rel2 σ c H n (r.bind f) Q) :
    Po w W rel σ c H n r fun v H1 => ∃ c1 S1 d, Ext c H n c1 H1 S1.length ∧ Rep w c1 H1 S1 ∧ rel c1 H1 S1.length d v ∧ Po w W rel2 σ c1 H1 S1.length (f d S1) Q := by
  cases r with
  | ok d S => exact fun c2 H2 v e2 r2 a => ⟨c2, S, d, e2, r2, a, Po.mono e2 h⟩
  | ex x S => exact h
  | bad => exact h.elim
/-! ## ends -/
theorem fin_ok {d : D} {v : V} {Q : VK} (h : PoE w W σ c H S.length (.ok d S) Q) (r : Rep w c H S) (a : At w c H S.length d v) : Q v H := h c H v Ext.refl r a
theorem fin_tup {ds : List D} {vs : List V} {Q : VK} (h : PoE w W σ c H S.length (.ok (.tup ds) S) Q) (r : Rep w c H S) (a : Ats w c H S.length ds vs) {p : Addr} (hp : H p = none) : Q (.ref p) (upd H p (.tup vs)) := by
  refine h c _ (.ref p) (Ext.grow hp) (r.grow hp) ?_
  unfold At
  exact ⟨p, vs, rfl, SqT.of upd_same, a.mono (Ext.grow hp)⟩
theorem fin_lst {ds : List D} {vs : List V} {Q : VK} (h : PoE w W σ c H S.length (.ok (.lst ds) S) Q) (r : Rep w c H S) (a : Ats w c H S.length ds vs) {p : Addr} (hp : H p = none) : Q (.ref p) (upd H p (.lst vs)) := by
  refine h (c.fr p) _ (.ref p) (Ext.fr hp) (r.fr hp) ?_
  unfold At
  exact ⟨p, vs, rfl, .inr rfl, upd_same, a.mono (Ext.fr hp)⟩
theorem fin_new {ds : List D} {vs : List V} {Q : VK} (h : PoE w W σ c H S.length (.ok (.loc S.length) (S ++ [.lst ds])) Q) (r : Rep w c H S) (a : Ats w c H S.length ds vs) {p : Addr} (hp : H p = none) : Q (.ref p) (upd H p (.lst vs)) := by
  have hl : (S ++ [SO.lst ds]).length = S.length + 1 := by rw [List.length_append]; rfl
  refine h (c.nw S.length p) _ (.ref p) (by rw [hl]; exact Ext.nw hp) (r.nw hp ⟨vs, upd_same, a.mono (Ext.nw hp)⟩) ?_
  unfold At
  exact ⟨by rw [hl]; exact Nat.lt_succ_self _, by rw [Cn.nw_at]⟩
/-! ## a list: unchangeable, or in the store -/
def lstOf (S : Sto) : D → Option (List D)
  | .lst ds => some ds
  | .loc k => match S[k]? with
    | some (.lst ds) => some ds
    | _ => none
  | _ => none
@[simp] theorem lstOf_lst (S : Sto) (ds : List D) : lstOf S (.lst ds) = some ds := rfl
theorem lstOf_at {x : D} {v : V} {ds : List D} (r : Rep w c H S) (a : At w c H S.length x v) (h : lstOf S x = some ds) : ∃ p vs, v = .ref p ∧ H p = some (.lst vs) ∧ Ats w c H S.length ds vs := by
  cases x with
  | lst es =>
    cases h
    unfold At at a
    obtain ⟨p, vs, e, f, g, t⟩ := a
    exact ⟨p, vs, e, g, t⟩
  | loc k =>
    unfold At at a
    change (match S[k]? with
      | some (.lst ds) => some ds
      | _ => none) = some ds at h
    cases hk : S[k]? with
    | none => rw [hk] at h; cases h
    | some o =>
      rw [hk] at h
      cases o with
      | lst es =>
        cases h
        obtain ⟨vs, g, t⟩ := r.get hk
        exact ⟨_, vs, a.2, g, t⟩
      | _ => cases h
  | _ => cases h
def tupOf : D → Option (List D)
  | .tup ds => some ds
  | _ => none
/-- a list or a tuple, read -/
def seqOf (S : Sto) (d : D) : Option (List D) := match d with
  | .tup ds => some ds
  | .ttp ds => some ds
  | .fz ns => some (ns.map .int)
  | d => lstOf S d
@[simp] theorem seqOf_ttp (S : Sto) (ds : List D) : seqOf S (.ttp ds) = some ds := rfl
@[simp] theorem seqOf_tup (S : Sto) (ds : List D) : seqOf S (.tup ds) = some ds := rfl
@[simp] theorem seqOf_lst (S : Sto) (ds : List D) : seqOf S (.lst ds) = some ds := rfl
@[simp] theorem seqOf_fz (S : Sto) (ns : List Int) : seqOf S (.fz ns) = some (ns.map .int) := rfl
theorem ats_ints : ∀ ns : List Int, Ats w c H n (ns.map .int) (ns.map V.int)
  | [] => .nil
  | i :: r => .cons (by unfold At; rfl) (ats_ints r)
theorem seqOf_at {x : D} {v : V} {ds : List D} (r : Rep w c H S) (a : At w c H S.length x v) (h : seqOf S x = some ds) : ∃ p vs, v = .ref p ∧ (SqL w.K H p vs ∨ SqT w.K H p vs) ∧ Ats w c H S.length ds vs := by
  have go : lstOf S x = some ds → ∃ p vs, v = .ref p ∧ (SqL w.K H p vs ∨ SqT w.K H p vs) ∧ Ats w c H S.length ds vs := fun h => by
    obtain ⟨p, vs, e, g, t⟩ := lstOf_at r a h
    exact ⟨p, vs, e, .inl (SqL.of g), t⟩
  cases x with
  | tup es =>
    cases h
    unfold At at a
    obtain ⟨p, vs, e, g, t⟩ := a
    exact ⟨p, vs, e, .inr g, t⟩
  | ttp es =>
    cases h
    unfold At at a
    obtain ⟨p, vs, e, g, t⟩ := a
    exact ⟨p, vs, e, .inr (SqT.of g), t⟩
  | fz ns =>
    cases h
    unfold At at a
    obtain ⟨p, e, g⟩ := a
    exact ⟨p, _, e, .inl g.sq, ats_ints ns⟩
  | lst es => exact go h
  | loc k => exact go h
  | _ => cases h
end
/-! ## the parts -/
section
variable {Γ : Cls'} {X : Cx} {W : WX}
def e_k (d : D) : EM := fun _ S => .ok d S
def e_v (i : Nat) : EM := fun env S => match env[i]? with
  | some (some d) => .ok d S
  | _ => .bad
@[simp] theorem e_k_eq (d : D) (env : Env) (S : Sto) : e_k d env S = .ok d S := rfl
theorem c_int {i : Int} {j pos} : CE Γ X W (.Constant (.int i) j pos) (e_k (.int i)) := PE.weak pe_int fun σ H Q ⟨c, env, S, r, ev, h⟩ => fin_ok h r (by unfold At; rfl)
theorem c_bl {b : Bool} {j pos} : CE Γ X W (.Constant (.bool b) j pos) (e_k (.bl b)) := PE.weak pe_bl fun σ H Q ⟨c, env, S, r, ev, h⟩ => fin_ok h r (by unfold At; rfl)
theorem c_non {j pos} : CE Γ X W (.Constant .none j pos) (e_k .non) := PE.weak pe_non fun σ H Q ⟨c, env, S, r, ev, h⟩ => fin_ok h r (by unfold At; rfl)
theorem c_str {x : Str} {j pos} : CE Γ X W (.Constant (.str x) j pos) (e_k (.str x)) := PE.weak pe_str fun σ H Q ⟨c, env, S, r, ev, h⟩ => fin_ok h r (by unfold At; rfl)
theorem c_var {i : Nat} {x : Str} {pos : Pos} (hN : X.N[i]? = some x) (hv : Vis X.env.scope x) (hd : (x == ("__debug__" : Str)) = false := by decide) (hcd : (x == ("__classdict__" : Str)) = false := by decide) : CE Γ X W (.Name x pos) (e_v i) :=
  PE.weak (pe_var hN hv hd hcd) fun σ H Q ⟨c, env, S, r, ev, h⟩ => by
    change PoE _ W σ c H S.length (match env[i]? with
      | some (some d) => .ok d S
      | _ => .bad) Q at h
    cases he : env[i]? with
    | none => rw [he] at h; exact h.elim
    | some o =>
      cases o with
      | none => rw [he] at h; exact h.elim
      | some d =>
        rw [he] at h
        obtain ⟨v, q, a⟩ := ev.get he
        exact ⟨v, q, fin_ok h r a⟩
/-- two operands and what is made of them -/
def e_op (g : D → D → Sto → R D) (ma mb : EM) : EM := fun env S => (ma env S).bind fun x S1 => (mb env S1).bind fun y S2 => g x y S2
/-- g is what f does -/
def GOp (Γ : Cls') (X : Cx) (g : D → D → Sto → R D) (r : R2) : Prop := ∀ (W : WX) (σ : St) (c : Cn) (H : Hp) (S : Sto) (x y : D) (v u : V) (Q : VK), Rep ⟨X.K, Γ⟩ c H S → At ⟨X.K, Γ⟩ c H S.length x v → At ⟨X.K, Γ⟩ c H S.length y u → PoE ⟨X.K, Γ⟩ W σ c H S.length (g x y S) Q → r v u H Q
variable {a b : Expr} {ma mb : EM} {pos : Pos}
theorem c_bin {op : Operator} {r : R2} {g : D → D → Sto → R D} (ho : OpR X (binaryOp op) r) (hg : GOp Γ X g r) (ha : CE Γ X W a ma) (hb : CE Γ X W b mb) : CE Γ X W (.BinOp a op b pos) (e_op g ma mb) := by
  refine PE.weak (pe_op ho ha hb) fun σ H Q ⟨c, env, S, r, ev, h⟩ => ?_
  refine ⟨c, env, S, r, ev, (Po.bind h).imp fun v H1 ⟨c1, S1, d1, e1, r1, a1, h1⟩ => ?_⟩
  refine ⟨c1, env, S1, r1, ev.mono e1, (Po.bind h1).imp fun u H2 ⟨c2, S2, d2, e2, r2, a2, h2⟩ => ?_⟩
  exact hg W σ c2 H2 S2 d1 d2 v u Q r2 (a1.mono e2) a2 h2
end
end Mm
set_option maxRecDepth 100000
/-! Operators over the plain data. -/
namespace Mm
open PySem L2
section
variable {w : Wn} {W : WX} {σ : St} {c c' : Cn} {H H' : Hp} {n n' : Nat} {S : Sto} {env : Env}
/-! ## as data -/
mutual
def pyD : D → Option PyData
  | .non => some .none
  | .bl b => some (.bool b)
  | .int i => some (.int i)
  | .str x => some (.str x)
  | .lst ds => (pyDs ds).map .list
  | .tup ds => (pyDs ds).map .tuple
  | _ => none
def pyDs : List D → Option (List PyData)
  | [] => some []
  | d :: r => (pyD d).bind fun p => (pyDs r).map fun q => p :: q
end
mutual
theorem pyD_at : ∀ (d : D) (v : V) (p : PyData), At w c H n d v → pyD d = some p → Dp w.K H v p
  | .non, v, p, a, h => by unfold At at a; unfold pyD at h; cases h; rw [a]; exact .non
  | .bl b, v, p, a, h => by unfold At at a; unfold pyD at h; cases h; rw [a]; exact .bl b
  | .int i, v, p, a, h => by unfold At at a; unfold pyD at h; cases h; rw [a]; exact .int i
  | .str x, v, p, a, h => by unfold At at a; unfold pyD at h; cases h; rw [a]; exact .str x
  | .lst ds, v, p, a, h => by
    unfold At at a; unfold pyD at h
    obtain ⟨q, vs, e, f, g, t⟩ := a
    cases hq : pyDs ds with
    | none => rw [hq] at h; cases h
    | some ps => rw [hq] at h; cases h; rw [e]; exact .lst (SqL.of g) (pyDs_at ds vs ps t hq)
  | .tup ds, v, p, a, h => by
    unfold At at a; unfold pyD at h
    obtain ⟨q, vs, e, g, t⟩ := a
    cases hq : pyDs ds with
    | none => rw [hq] at h; cases h
    | some ps => rw [hq] at h; cases h; rw [e]; exact .tup g (pyDs_at ds vs ps t hq)
  | .dic _ _, _, _, _, h => by unfold pyD at h; cases h
  | .obj _ _, _, _, _, h => by unfold pyD at h; cases h
  | .fz _, _, _, _, h => by unfold pyD at h; cases h
  | .loc _, _, _, _, h => by unfold pyD at h; cases h
  | .oth _, _, _, _, h => by unfold pyD at h; cases h
  | .ttp _, _, _, _, h => by unfold pyD at h; cases h
  | .xn _ _, _, _, _, h => by unfold pyD at h; cases h
theorem pyDs_at : ∀ (ds : List D) (vs : List V) (ps : List PyData), Ats w c H n ds vs → pyDs ds = some ps → DpAll w.K H vs ps
  | [], vs, ps, a, h => by unfold Ats at a; unfold pyDs at h; cases h; rw [a]; exact .nil
  | d :: r, vs, ps, a, h => by
    unfold Ats at a; unfold pyDs at h
    obtain ⟨v, vr, e, a1, a2⟩ := a
    cases h1 : pyD d with
    | none => rw [h1] at h; cases h
    | some p =>
      rw [h1] at h
      cases h2 : pyDs r with
      | none => rw [h2] at h; cases h
      | some q => rw [h2] at h; cases h; rw [e]; exact .cons (pyD_at d v p a1 h1) (pyDs_at r vr q a2 h2)
end
def pyOf (S : Sto) (d : D) : Option PyData := match d with
  | .loc k => match S[k]? with
    | some (.lst ds) => (pyDs ds).map .list
    | _ => none
  | d => pyD d
theorem pyOf_at {d : D} {v : V} {p : PyData} (r : Rep w c H S) (a : At w c H S.length d v) (h : pyOf S d = some p) : Dp w.K H v p := by
  cases d with
  | loc k =>
    unfold At at a
    change (match S[k]? with
      | some (.lst ds) => (pyDs ds).map .list
      | _ => none) = some p at h
    cases hk : S[k]? with
    | none => rw [hk] at h; cases h
    | some o =>
      rw [hk] at h
      cases o with
      | lst es =>
        obtain ⟨vs, g, t⟩ := r.get hk
        rw [a.2]
        cases hq : pyDs es with
        | none => simp only [hq] at h; cases h
        | some ps => simp only [hq] at h; cases h; exact .lst (SqL.of g) (pyDs_at es vs ps t hq)
      | _ => cases h
  | _ => exact pyD_at _ v p a h
/-! ## what operators do -/
def R.if {α : Type} (b : Prop) [Decidable b] (r : R α) : R α := if b then r else .bad
@[simp] theorem R.if_pos {α : Type} {b : Prop} [Decidable b] {r : R α} (h : b) : R.if b r = r := _root_.if_pos h
theorem Po.if {α β : Type} {rel : Cn → Hp → Nat → α → β → Prop} {b : Prop} [Decidable b] {r : R α} {Q : β → Hp → Prop} (h : Po w W rel σ c H n (R.if b r) Q) : b ∧ Po w W rel σ c H n r Q := by
  unfold R.if at h
  by_cases hb : b
  · rw [_root_.if_pos hb] at h; exact ⟨hb, h⟩
  · rw [if_neg hb] at h; exact h.elim
def addL (S : Sto) (x y : D) : R D := match lstOf S x, lstOf S y with
  | some a, some b => .if (a.length + b.length ≤ sizeLine) (.ok (.lst (a ++ b)) S)
  | _, _ => .bad
def addD (x y : D) (S : Sto) : R D := match x, y with
  | .int i, .int j => .ok (.int (i + j)) S
  | .str a, .str b => .if (a.length + b.length ≤ sizeLine) (.ok (.str (a ++ b)) S)
  | .tup a, .tup b => .if (a.length + b.length ≤ sizeLine) (.ok (.tup (a ++ b)) S)
  | .lst a, y => addL S (.lst a) y
  | .loc a, y => addL S (.loc a) y
  | _, _ => .bad
def rAdd4 (K : PySem.W.Frag) : R2 := fun x y H Q => (((∃ i j, x = .int i ∧ y = .int j ∧ Q (.int (i + j)) H) ∨ (∃ i j, x = .str i ∧ y = .str j ∧ i.length + j.length ≤ sizeLine ∧ Q (.str (i ++ j)) H)) ∨ rCatA K x y H Q) ∨ rCat x y H Q
theorem op_add4 {X : Cx} : OpR X (binaryOp .Add) (rAdd4 X.K) := ((op_add.or op_add_str).or op_catA).or op_cat
theorem At.int {i : Int} {v : V} (h : At w c H n (.int i) v) : v = .int i := by unfold At at h; exact h
theorem At.str {i : Str} {v : V} (h : At w c H n (.str i) v) : v = .str i := by unfold At at h; exact h
theorem At.bl {i : Bool} {v : V} (h : At w c H n (.bl i) v) : v = .bl i := by unfold At at h; exact h
theorem At.non {v : V} (h : At w c H n .non v) : v = .non := by unfold At at h; exact h
theorem At.tup {ds : List D} {v : V} (h : At w c H n (.tup ds) v) : ∃ a vs, v = .ref a ∧ SqT w.K H a vs ∧ Ats w c H n ds vs := by unfold At at h; exact h
theorem At.i (i : Int) : At w c H n (.int i) (.int i) := by unfold At; rfl
theorem At.b (b : Bool) : At w c H n (.bl b) (.bl b) := by unfold At; rfl
theorem At.s (x : Str) : At w c H n (.str x) (.str x) := by unfold At; rfl
theorem At.o : At w c H n .non .non := by unfold At; rfl
theorem addL_at {x y : D} {v u : V} {Q : VK} (r : Rep w c H S) (a : At w c H S.length x v) (b : At w c H S.length y u) (h : PoE w W σ c H S.length (addL S x y) Q) : rCat v u H Q := by
  unfold addL at h
  cases hx : lstOf S x with
  | none => rw [hx] at h; exact h.elim
  | some as =>
    cases hy : lstOf S y with
    | none => rw [hx, hy] at h; exact h.elim
    | some bs =>
      rw [hx, hy] at h
      obtain ⟨hl, h⟩ := Po.if h
      obtain ⟨p, vs, rfl, g, t⟩ := lstOf_at r a hx
      obtain ⟨q, us, rfl, g', t'⟩ := lstOf_at r b hy
      exact ⟨p, q, vs, us, rfl, rfl, g, g', by rw [t.len, t'.len]; exact hl, fun z hz => fin_lst h r (t.app t') hz⟩
theorem g_add {Γ : Cls'} {X : Cx} : GOp Γ X addD (rAdd4 X.K) := by
  intro W σ c H S x y v u Q r a b h
  cases x with
  | int i =>
    cases y with
    | int j => exact .inl (.inl (.inl ⟨i, j, a.int, b.int, fin_ok h r (.i _)⟩))
    | _ => exact h.elim
  | str i =>
    cases y with
    | str j =>
      obtain ⟨hl, h⟩ := Po.if h
      exact .inl (.inl (.inr ⟨i, j, a.str, b.str, hl, fin_ok h r (.s _)⟩))
    | _ => exact h.elim
  | tup i =>
    cases y with
    | tup j =>
      obtain ⟨hl, h⟩ := Po.if h
      have a' := a
      have b' := b
      obtain ⟨p, vs, rfl, g, t⟩ := a.tup
      obtain ⟨q, us, rfl, g', t'⟩ := b.tup
      refine .inl (.inr ⟨p, q, vs, us, rfl, rfl, g, g', by rw [t.len, t'.len]; exact hl, fun e => ?_, fun _ e => ?_, fun _ _ z hz => fin_tup h r (t.app t') hz⟩)
      · have : i = [] := by
          have := t.len; rw [e] at this; exact List.length_eq_zero_iff.mp this.symm
        subst this
        exact fin_ok h r b'
      · have : j = [] := by
          have := t'.len; rw [e] at this; exact List.length_eq_zero_iff.mp this.symm
        subst this
        exact fin_ok h r (by rw [List.append_nil]; exact a')
    | _ => exact h.elim
  | lst i => exact .inr (addL_at r a b h)
  | loc k => exact .inr (addL_at r a b h)
  | _ => exact h.elim
@[simp] theorem addD_int (i j : Int) (S : Sto) : addD (.int i) (.int j) S = .ok (.int (i + j)) S := rfl
@[simp] theorem addD_str (i j : Str) (S : Sto) : addD (.str i) (.str j) S = .if (i.length + j.length ≤ sizeLine) (.ok (.str (i ++ j)) S) := rfl
@[simp] theorem addD_tup (i j : List D) (S : Sto) : addD (.tup i) (.tup j) S = .if (i.length + j.length ≤ sizeLine) (.ok (.tup (i ++ j)) S) := rfl
@[simp] theorem addD_ll (i j : List D) (S : Sto) : addD (.lst i) (.lst j) S = .if (i.length + j.length ≤ sizeLine) (.ok (.lst (i ++ j)) S) := rfl
/-- two ints -/
def intD (C : Int → Int → Prop) [∀ i j, Decidable (C i j)] (f : Int → Int → D) (x y : D) (S : Sto) : R D := match x, y with
  | .int i, .int j => .if (C i j) (.ok (f i j) S)
  | _, _ => .bad
def intD0 (f : Int → Int → D) (x y : D) (S : Sto) : R D := match x, y with
  | .int i, .int j => .ok (f i j) S
  | _, _ => .bad
@[simp] theorem intD_int (C : Int → Int → Prop) [∀ i j, Decidable (C i j)] (f : Int → Int → D) (i j : Int) (S : Sto) : intD C f (.int i) (.int j) S = .if (C i j) (.ok (f i j) S) := rfl
@[simp] theorem intD0_int (f : Int → Int → D) (i j : Int) (S : Sto) : intD0 f (.int i) (.int j) S = .ok (f i j) S := rfl
def DV : D → Option V
  | .int i => some (.int i)
  | .bl b => some (.bl b)
  | .str x => some (.str x)
  | .non => some .non
  | _ => none
theorem DV.at {d : D} {v : V} (h : DV d = some v) : At w c H n d v := by
  cases d with
  | int i => cases h; exact .i _
  | bl i => cases h; exact .b _
  | str i => cases h; exact .s _
  | non => cases h; exact .o
  | _ => cases h
theorem g_int {Γ : Cls'} {X : Cx} {C : Int → Int → Prop} [∀ i j, Decidable (C i j)] {f : Int → Int → D} {fv : Int → Int → V} (hf : ∀ i j, DV (f i j) = some (fv i j)) : GOp Γ X (intD C f) (rI C fv) := by
  intro W σ c H S x y v u Q r a b h
  cases x with
  | int i =>
    cases y with
    | int j =>
      obtain ⟨hl, h⟩ := Po.if h
      exact ⟨i, j, a.int, b.int, hl, fin_ok h r (DV.at (hf i j))⟩
    | _ => exact h.elim
  | _ => cases y <;> exact h.elim
theorem g_int0 {Γ : Cls'} {X : Cx} {f : Int → Int → D} {fv : Int → Int → V} (hf : ∀ i j, DV (f i j) = some (fv i j)) : GOp Γ X (intD0 f) (rI0 fv) := by
  intro W σ c H S x y v u Q r a b h
  cases x with
  | int i =>
    cases y with
    | int j => exact ⟨i, j, a.int, b.int, fin_ok h r (DV.at (hf i j))⟩
    | _ => exact h.elim
  | _ => cases y <;> exact h.elim
instance : ∀ i j, Decidable (CDiv i j) := fun _ _ => inferInstanceAs (Decidable (_ ∧ _))
instance : ∀ i j, Decidable (CPow i j) := fun _ _ => inferInstanceAs (Decidable (_ ∧ _ ∧ _))
instance : ∀ i j, Decidable (CMul i j) := fun _ _ => inferInstanceAs (Decidable (_ ∨ _))
instance : ∀ i j, Decidable (CMulW i j) := fun _ _ => inferInstanceAs (Decidable (_ < _))
def repD (x y : D) (S : Sto) : R D := match y with
  | .int k => match lstOf S x with
    | some a => .if (-(2 ^ 63) ≤ k ∧ k < 2 ^ 63 ∧ a.length * k.toNat ≤ sizeLine) (.ok (.lst (List.replicate k.toNat a).flatten) S)
    | none => .bad
  | _ => .bad
def mulD (x y : D) (S : Sto) : R D := match x, y with
  | .int i, .int j => .if (CMul i j ∨ CMulW i j) (.ok (.int (i * j)) S)
  | x, y => repD x y S
@[simp] theorem mulD_int (i j : Int) (S : Sto) : mulD (.int i) (.int j) S = .if (CMul i j ∨ CMulW i j) (.ok (.int (i * j)) S) := rfl
def rMul3 : R2 := fun x y H Q => ((rI CMul fun i j => .int (i * j)) x y H Q ∨ (rI CMulW fun i j => .int (i * j)) x y H Q) ∨ rRep x y H Q
theorem op_mul3 {X : Cx} : OpR X (binaryOp .Mult) rMul3 := (op_mul.or op_mulW).or op_rep
theorem ats_rep {ds : List D} {vs : List V} (t : Ats w c H n ds vs) : ∀ k, Ats w c H n (List.replicate k ds).flatten (List.replicate k vs).flatten
  | 0 => .nil
  | k + 1 => by rw [List.replicate_succ, List.replicate_succ, List.flatten_cons, List.flatten_cons]; exact t.app (ats_rep t k)
theorem g_mul {Γ : Cls'} {X : Cx} : GOp Γ X mulD rMul3 := by
  intro W σ c H S x y v u Q r a b h
  have go : PoE ⟨X.K, Γ⟩ W σ c H S.length (repD x y S) Q → rMul3 v u H Q := fun h => by
    unfold repD at h
    cases y with
    | int k =>
      dsimp only at h
      cases hx : lstOf S x with
      | none => rw [hx] at h; exact h.elim
      | some as =>
        rw [hx] at h
        obtain ⟨⟨k1, k2, hl⟩, h⟩ := Po.if h
        obtain ⟨p, vs, rfl, g, t⟩ := lstOf_at r a hx
        exact .inr ⟨p, k, vs, rfl, b.int, g, k1, k2, by rw [t.len]; exact hl, fun z hz => fin_lst h r (ats_rep t _) hz⟩
    | _ => exact h.elim
  cases x with
  | int i =>
    cases y with
    | int j =>
      obtain ⟨hl, h⟩ := Po.if h
      rcases hl with hl | hl
      · exact .inl (.inl ⟨i, j, a.int, b.int, hl, fin_ok h r (.i _)⟩)
      · exact .inl (.inr ⟨i, j, a.int, b.int, hl, fin_ok h r (.i _)⟩)
    | _ => exact go h
  | _ => exact go h
/-! ## comparisons -/
def eqD (neg : Bool) (x y : D) (S : Sto) : R D := match x, y with
  | .int i, .int j => .ok (.bl (neg ^^ decide (i = j))) S
  | .str i, .str j => .ok (.bl (neg ^^ decide (i = j))) S
  | x, y => match pyOf S x, pyOf S y with
    | some p, some q => .if (SeqAt.shaped p = true ∧ SeqAt.shaped q = true) (.ok (.bl (neg ^^ PyData.eqv p q)) S)
    | _, _ => .bad
@[simp] theorem eqD_int (neg : Bool) (i j : Int) (S : Sto) : eqD neg (.int i) (.int j) S = .ok (.bl (neg ^^ decide (i = j))) S := rfl
@[simp] theorem eqD_str (neg : Bool) (i j : Str) (S : Sto) : eqD neg (.str i) (.str j) S = .ok (.bl (neg ^^ decide (i = j))) S := rfl
def rEq2 (K : PySem.W.Frag) : R2 := fun x y H Q => rEq x y H Q ∨ rEqD K x y H Q
def rNe2 (K : PySem.W.Frag) : R2 := fun x y H Q => rNe x y H Q ∨ rNeD K x y H Q
theorem op_eq2 {X : Cx} (hu : X.A.units + 64 < cLine) : OpR X (compareOp .Eq) (rEq2 X.K) := op_eq.or (op_eqD hu)
theorem op_ne2 {X : Cx} (hu : X.A.units + 64 < cLine) : OpR X (compareOp .NotEq) (rNe2 X.K) := op_ne.or (op_neD hu)
theorem dint {i j : Int} : decide (V.int i = V.int j) = decide (i = j) := by by_cases h : i = j <;> simp [h]
theorem dstr {i j : Str} : decide (V.str i = V.str j) = decide (i = j) := by by_cases h : i = j <;> simp [h]
theorem eqD_at {neg : Bool} {x y : D} {v u : V} {Q : VK} (r : Rep w c H S) (a : At w c H S.length x v) (b : At w c H S.length y u) (h : PoE w W σ c H S.length (eqD neg x y S) Q) :
    (scal v u = true ∧ Q (.bl (neg ^^ decide (v = u))) H) ∨ ∃ d e, Dp w.K H v d ∧ Dp w.K H u e ∧ SeqAt.shaped d = true ∧ SeqAt.shaped e = true ∧ Q (.bl (neg ^^ PyData.eqv d e)) H := by
  have go : PoE w W σ c H S.length (match pyOf S x, pyOf S y with
    | some p, some q => .if (SeqAt.shaped p = true ∧ SeqAt.shaped q = true) (.ok (.bl (neg ^^ PyData.eqv p q)) S)
    | _, _ => .bad) Q → ((scal v u = true ∧ Q (.bl (neg ^^ decide (v = u))) H) ∨ ∃ d e, Dp w.K H v d ∧ Dp w.K H u e ∧ SeqAt.shaped d = true ∧ SeqAt.shaped e = true ∧ Q (.bl (neg ^^ PyData.eqv d e)) H) := fun h => by
    cases hx : pyOf S x with
    | none => rw [hx] at h; exact h.elim
    | some p =>
      cases hy : pyOf S y with
      | none => rw [hx, hy] at h; exact h.elim
      | some q =>
        rw [hx, hy] at h
        obtain ⟨⟨s1, s2⟩, h⟩ := Po.if h
        exact .inr ⟨p, q, pyOf_at r a hx, pyOf_at r b hy, s1, s2, fin_ok h r (.b _)⟩
  cases x with
  | int i =>
    cases y with
    | int j =>
      left
      have e1 := a.int; have e2 := b.int
      subst e1; subst e2
      refine ⟨rfl, ?_⟩
      rw [dint]
      exact fin_ok h r (.b _)
    | _ => exact go h
  | str i =>
    cases y with
    | str j =>
      left
      have e1 := a.str; have e2 := b.str
      subst e1; subst e2
      refine ⟨rfl, ?_⟩
      rw [dstr]
      exact fin_ok h r (.b _)
    | _ => exact go h
  | _ => exact go h
theorem g_eq {Γ : Cls'} {X : Cx} : GOp Γ X (eqD false) (rEq2 X.K) := by
  intro W σ c H S x y v u Q r a b h
  rcases eqD_at r a b h with ⟨h1, h2⟩ | ⟨d, e, h1, h2, h3, h4, h5⟩
  · exact .inl ⟨h1, by simpa using h2⟩
  · exact .inr ⟨d, e, h1, h2, h3, h4, by simpa using h5⟩
theorem g_ne {Γ : Cls'} {X : Cx} : GOp Γ X (eqD true) (rNe2 X.K) := by
  intro W σ c H S x y v u Q r a b h
  rcases eqD_at r a b h with ⟨h1, h2⟩ | ⟨d, e, h1, h2, h3, h4, h5⟩
  · exact .inl ⟨h1, by simpa using h2⟩
  · exact .inr ⟨d, e, h1, h2, h3, h4, by simpa using h5⟩
def isNon : D → Bool
  | .non => true
  | _ => false
def isD (neg : Bool) (x y : D) (S : Sto) : R D := match y with
  | .non => .ok (.bl (neg ^^ isNon x)) S
  | _ => .bad
@[simp] theorem isD_non (neg : Bool) (x : D) (S : Sto) : isD neg x .non S = .ok (.bl (neg ^^ isNon x)) S := rfl
theorem isNon_at {x : D} {v : V} (a : At w c H n x v) : decide (v = .non) = isNon x := by
  cases x with
  | non => rw [a.non]; rfl
  | int i => rw [a.int]; rfl
  | str i => rw [a.str]; rfl
  | bl i => rw [a.bl]; rfl
  | tup ds => unfold At at a; obtain ⟨p, vs, rfl, _⟩ := a; rfl
  | ttp ds => unfold At at a; obtain ⟨p, vs, rfl, _⟩ := a; rfl
  | lst ds => unfold At at a; obtain ⟨p, vs, rfl, _⟩ := a; rfl
  | dic ds => unfold At at a; obtain ⟨p, vs, rfl, _⟩ := a; rfl
  | obj ds => unfold At at a; obtain ⟨p, vs, C, dx, rfl, _⟩ := a; rfl
  | fz ds => unfold At at a; obtain ⟨p, rfl, _⟩ := a; rfl
  | loc k => unfold At at a; rw [a.2]; rfl
  | xn k ds => unfold At at a; obtain ⟨p, dd, C, vs, rfl, _⟩ := a; rfl
  | oth u =>
    unfold At at a
    obtain ⟨rfl, n⟩ := a
    cases v <;> first | rfl | cases n
end
end Mm
set_option maxRecDepth 100000
/-! More expressions over the plain data. -/
namespace Mm
open PySem L2
section
variable {w : Wn} {W : WX} {σ : St} {c c' : Cn} {H H' : Hp} {n n' : Nat} {S : Sto} {env : Env}
variable {Γ : Cls'} {X : Cx} {a b e : Expr} {ma mb : EM} {pos : Pos}
theorem c_cmp {op : CmpOp} {r : R2} {g : D → D → Sto → R D} (ho : OpR X (compareOp op) r) (hg : GOp Γ X g r) (ha : CE Γ X W a ma) (hb : CE Γ X W b mb) (hm : behindInMarks op b = false) : CE Γ X W (.Compare a [op] [b] pos) (e_op g ma mb) := by
  refine PE.weak (pe_cmpR ho ha hb hm) fun σ H Q ⟨c, env, S, r, ev, h⟩ => ?_
  refine ⟨c, env, S, r, ev, (Po.bind h).imp fun v H1 ⟨c1, S1, d1, e1, r1, a1, h1⟩ => ?_⟩
  refine ⟨c1, env, S1, r1, ev.mono e1, (Po.bind h1).imp fun u H2 ⟨c2, S2, d2, e2, r2, a2, h2⟩ => ?_⟩
  exact hg W σ c2 H2 S2 d1 d2 v u Q r2 (a1.mono e2) a2 h2
/-- a value's truth -/
def truD (S : Sto) (d : D) : Option Bool := match d with
  | .bl b => some b
  | .non => some false
  | .int i => some (i != 0)
  | .str x => if x.length ≤ sizeLine then some ((x.length : Int) != 0) else none
  | d => (seqOf S d).map fun ds => !ds.isEmpty
@[simp] theorem truD_bl (S : Sto) (b : Bool) : truD S (.bl b) = some b := rfl
@[simp] theorem truD_int (S : Sto) (i : Int) : truD S (.int i) = some (i != 0) := rfl
@[simp] theorem truD_tup (S : Sto) (ds : List D) : truD S (.tup ds) = some (!ds.isEmpty) := rfl
@[simp] theorem truD_lst (S : Sto) (ds : List D) : truD S (.lst ds) = some (!ds.isEmpty) := rfl
@[simp] theorem truD_non (S : Sto) : truD S .non = some false := rfl
theorem isEmpty_eq {α β : Type} {x : List α} {y : List β} (h : x.length = y.length) : x.isEmpty = y.isEmpty := by
  cases x <;> cases y <;> simp_all
theorem truD_at {d : D} {v : V} {k : Bool} (r : Rep w c H S) (a : At w c H S.length d v) (h : truD S d = some k) : TruV w.K v H k := by
  have go : ∀ ds, seqOf S d = some ds → k = !ds.isEmpty → TruV w.K v H k := fun ds h e => by
    obtain ⟨p, vs, rfl, g, t⟩ := seqOf_at r a h
    rw [← isEmpty_eq t.len] at e
    rcases g with g | g
    · exact .inl ⟨vs, g, e⟩
    · exact .inr (.inl ⟨vs, g, e⟩)
  have go2 : (seqOf S d).map (fun ds => !ds.isEmpty) = some k → TruV w.K v H k := fun h => by
    cases hs : seqOf S d with
    | none => rw [hs] at h; cases h
    | some ds => rw [hs] at h; cases h; exact go ds hs rfl
  cases d with
  | bl b => cases h; rw [a.bl]; rfl
  | non => cases h; rw [a.non]; rfl
  | int i => cases h; rw [a.int]; rfl
  | str x =>
    change (if x.length ≤ sizeLine then some ((x.length : Int) != 0) else none) = some k at h
    by_cases hl : x.length ≤ sizeLine
    · rw [if_pos hl] at h; cases h; rw [a.str]; exact ⟨hl, rfl⟩
    · rw [if_neg hl] at h; cases h
  | tup ds => exact go2 h
  | ttp ds => exact go2 h
  | lst ds => exact go2 h
  | fz ns => exact go2 h
  | loc k => exact go2 h
  | dic ks ds => cases h
  | obj k ds => cases h
  | oth u => cases h
  | xn k ds => cases h
def R.ofO {α : Type} (o : Option α) (S : Sto) : R α := match o with
  | some a => .ok a S
  | none => .bad
@[simp] theorem R.ofO_some {α : Type} (a : α) (S : Sto) : R.ofO (some a) S = .ok a S := rfl
theorem Po.ofO {α β : Type} {rel : Cn → Hp → Nat → α → β → Prop} {o : Option α} {Q : β → Hp → Prop} (h : Po w W rel σ c H n (R.ofO o S) Q) : ∃ a, o = some a ∧ Po w W rel σ c H n (.ok a S) Q := by
  cases o with
  | none => exact h.elim
  | some a => exact ⟨a, rfl, h⟩
def t_v (m : EM) : TM := fun env S => (m env S).bind fun d S1 => .ofO (truD S1 d) S1
theorem c_tru (ha : CE Γ X W a ma) (he : ∀ whole, isTrue a X.env whole = (do let v ← whole; standAt a.pos; holding [v] (truthy v)) := by intro _; rfl) : CT Γ X W a (t_v ma) := by
  refine PT.weak (pt_truth ha he) fun σ H Q ⟨c, env, S, r, ev, h⟩ => ?_
  refine ⟨c, env, S, r, ev, (Po.bind h).imp fun v H1 ⟨c1, S1, d1, e1, r1, a1, h1⟩ => ?_⟩
  obtain ⟨k, hk, h1⟩ := Po.ofO h1
  exact ⟨k, truD_at r1 a1 hk, h1 c1 H1 k Ext.refl r1 rfl⟩
/-- a comparison whose answer is a bool, as a test -/
def blD : D → Option Bool
  | .bl b => some b
  | _ => none
def t_b (m : EM) : TM := fun env S => (m env S).bind fun d S1 => .ofO (blD d) S1
@[simp] theorem blD_bl (b : Bool) : blD (.bl b) = some b := rfl
theorem tB_ok {m : EM} {σ : St} {H : Hp} {Q : Bool → Hp → Prop} (h : mT w W (t_b m) σ H Q) : mE w W m σ H fun x H' => ∃ k, x = .bl k ∧ Q k H' := by
  obtain ⟨c, env, S, r, ev, h⟩ := h
  refine ⟨c, env, S, r, ev, (Po.bind h).imp fun v H1 ⟨c1, S1, d1, e1, r1, a1, h1⟩ => ?_⟩
  obtain ⟨k, hk, h1⟩ := Po.ofO h1
  cases d1 with
  | bl b =>
    cases hk
    exact ⟨_, a1.bl, h1 c1 H1 _ Ext.refl r1 rfl⟩
  | _ => cases hk
theorem c_tcmp {op : CmpOp} {r : R2} {g : D → D → Sto → R D} (ho : OpR X (compareOp op) r) (hg : GOp Γ X g r) (ha : CE Γ X W a ma) (hb : CE Γ X W b mb) (hm : behindInMarks op b = false) : CT Γ X W (.Compare a [op] [b] pos) (t_b (e_op g ma mb)) := by
  refine PT.weak (pt_cmpR ho ha hb hm) fun σ H Q h => ?_
  obtain ⟨c, env, S, r, ev, h⟩ := tB_ok h
  refine ⟨c, env, S, r, ev, (Po.bind h).imp fun v H1 ⟨c1, S1, d1, e1, r1, a1, h1⟩ => ?_⟩
  refine ⟨c1, env, S1, r1, ev.mono e1, (Po.bind h1).imp fun u H2 ⟨c2, S2, d2, e2, r2, a2, h2⟩ => ?_⟩
  exact hg W σ c2 H2 S2 d1 d2 v u _ r2 (a1.mono e2) a2 h2
/-! ## and, or, not, if -/
def t_and (p q : TM) : TM := fun env S => (p env S).bind fun k S1 => if k = true then q env S1 else .ok false S1
def t_or (p q : TM) : TM := fun env S => (p env S).bind fun k S1 => if k = true then .ok true S1 else q env S1
def t_not (p : TM) : TM := fun env S => (p env S).bind fun k S1 => .ok (!k) S1
def e_and (p q : EM) : EM := fun env S => (p env S).bind fun d S1 => match d with
  | .bl true => q env S1
  | .bl false => .ok (.bl false) S1
  | _ => .bad
def e_or (p q : EM) : EM := fun env S => (p env S).bind fun d S1 => match d with
  | .bl true => .ok (.bl true) S1
  | .bl false => q env S1
  | _ => .bad
def e_not (p : EM) : EM := fun env S => (p env S).bind fun d S1 => match d with
  | .bl k => .ok (.bl (!k)) S1
  | _ => .bad
def e_if (t : TM) (p q : EM) : EM := fun env S => (t env S).bind fun k S1 => if k = true then p env S1 else q env S1
variable {pm qm : TM} {rest : List Expr}
abbrev CW (Γ : Cls') (X : Cx) (W : WX) (e : Expr) (m : TM) : Prop := PW X e (mT ⟨X.K, Γ⟩ W m)
theorem c_wand1 (ha : CT Γ X W a pm) : CW Γ X W (.BoolOp .And [a] pos) pm := pw_and1 ha
theorem c_wor1 (ha : CT Γ X W a pm) : CW Γ X W (.BoolOp .Or [a] pos) pm := pw_or1 ha
theorem c_wand (ha : CT Γ X W a pm) (hb : CW Γ X W (.BoolOp .And (b :: rest) pos) qm) : CW Γ X W (.BoolOp .And (a :: b :: rest) pos) (t_and pm qm) := by
  refine PW.weak (pw_and ha hb) fun σ H Q ⟨c, env, S, r, ev, h⟩ => ?_
  refine ⟨c, env, S, r, ev, (Po.bind h).imp fun k H1 ⟨c1, S1, d1, e1, r1, a1, h1⟩ => ?_⟩
  cases (show k = d1 from a1)
  cases k with
  | true => exact ⟨c1, env, S1, r1, ev.mono e1, h1⟩
  | false => exact h1 c1 H1 false Ext.refl r1 rfl
theorem c_wor (ha : CT Γ X W a pm) (hb : CW Γ X W (.BoolOp .Or (b :: rest) pos) qm) : CW Γ X W (.BoolOp .Or (a :: b :: rest) pos) (t_or pm qm) := by
  refine PW.weak (pw_or ha hb) fun σ H Q ⟨c, env, S, r, ev, h⟩ => ?_
  refine ⟨c, env, S, r, ev, (Po.bind h).imp fun k H1 ⟨c1, S1, d1, e1, r1, a1, h1⟩ => ?_⟩
  cases (show k = d1 from a1)
  cases k with
  | false => exact ⟨c1, env, S1, r1, ev.mono e1, h1⟩
  | true => exact h1 c1 H1 true Ext.refl r1 rfl
theorem c_wt (h : CW Γ X W e pm) : CT Γ X W e pm := h.pt
theorem c_tnot (ha : CT Γ X W a pm) : CT Γ X W (.UnaryOp .Not a pos) (t_not pm) := by
  refine PT.weak (pt_not ha) fun σ H Q ⟨c, env, S, r, ev, h⟩ => ?_
  refine ⟨c, env, S, r, ev, (Po.bind h).imp fun k H1 ⟨c1, S1, d1, e1, r1, a1, h1⟩ => ?_⟩
  cases (show k = d1 from a1)
  exact h1 c1 H1 _ Ext.refl r1 rfl
theorem c_one {op} (ha : CE Γ X W a ma) : CE Γ X W (.BoolOp op [a] pos) ma := pe_one ha
theorem c_and (ha : CE Γ X W a ma) (hb : CE Γ X W (.BoolOp .And (b :: rest) pos) mb) : CE Γ X W (.BoolOp .And (a :: b :: rest) pos) (e_and ma mb) := by
  refine PE.weak (pe_and ha hb) fun σ H Q ⟨c, env, S, r, ev, h⟩ => ?_
  refine ⟨c, env, S, r, ev, (Po.bind h).imp fun v H1 ⟨c1, S1, d1, e1, r1, a1, h1⟩ => ?_⟩
  cases d1 with
  | bl k =>
    refine ⟨k, a1.bl, ?_⟩
    cases k with
    | true => exact ⟨c1, env, S1, r1, ev.mono e1, h1⟩
    | false => exact fin_ok h1 r1 (.b _)
  | _ => exact h1.elim
theorem c_ifx {t : Expr} (ht : CT Γ X W t pm) (ha : CE Γ X W a ma) (hb : CE Γ X W b mb) : CE Γ X W (.IfExp t a b pos) (e_if pm ma mb) := by
  refine PE.weak (pe_ifExp ht ha hb) fun σ H Q ⟨c, env, S, r, ev, h⟩ => ?_
  refine ⟨c, env, S, r, ev, (Po.bind h).imp fun k H1 ⟨c1, S1, d1, e1, r1, a1, h1⟩ => ?_⟩
  cases (show k = d1 from a1)
  cases k with
  | true => exact ⟨c1, env, S1, r1, ev.mono e1, h1⟩
  | false => exact ⟨c1, env, S1, r1, ev.mono e1, h1⟩
/-! ## arguments, displays -/
def a_nil : AM := fun _ S => .ok [] S
def a_cons (m : EM) (r : AM) : AM := fun env S => (m env S).bind fun d S1 => (r env S1).bind fun ds S2 => .ok (d :: ds) S2
variable {es : List Expr} {am : AM}
theorem c_anil : CA Γ X W [] a_nil := PA.weak pa_nil fun σ H Q ⟨c, env, S, r, ev, h⟩ => h c H [] Ext.refl r .nil
theorem c_acons (ha : CE Γ X W e ma) (hr : CA Γ X W es am) (hs : starEach (e :: es) X.env = (false, eval e X.env) :: starEach es X.env := by rfl) : CA Γ X W (e :: es) (a_cons ma am) := by
  refine PA.weak (pa_cons ha hr hs) fun σ H Q ⟨c, env, S, r, ev, h⟩ => ?_
  refine ⟨c, env, S, r, ev, (Po.bind h).imp fun v H1 ⟨c1, S1, d1, e1, r1, a1, h1⟩ => ?_⟩
  refine ⟨c1, env, S1, r1, ev.mono e1, (Po.bind h1).imp fun u H2 ⟨c2, S2, d2, e2, r2, a2, h2⟩ => ?_⟩
  exact h2 c2 H2 _ Ext.refl r2 (.cons (a1.mono e2) a2)
def e_tup (m : AM) : EM := fun env S => (m env S).bind fun ds S1 => .if (ds.length ≤ 1000) (.ok (.tup ds) S1)
/-- an unchangeable list -/
def e_lst (m : AM) : EM := fun env S => (m env S).bind fun ds S1 => .if (ds.length ≤ 1000) (.ok (.lst ds) S1)
/-- a new place of the store -/
def e_new (m : AM) : EM := fun env S => (m env S).bind fun ds S1 => .if (ds.length ≤ 1000) (.ok (.loc S1.length) (S1 ++ [.lst ds]))
theorem line1000 : 1000 ≤ sizeLine := by rw [sizeLine_eq]; decide
theorem c_tup {k} (h : CA Γ X W es am) : CE Γ X W (.Tuple es k pos) (e_tup am) := by
  refine PE.weak (pe_tup h) fun σ H Q ⟨c, env, S, r, ev, h⟩ => ?_
  refine ⟨c, env, S, r, ev, (Po.bind h).imp fun vs H1 ⟨c1, S1, ds, e1, r1, a1, h1⟩ => ?_⟩
  obtain ⟨hl, h1⟩ := Po.if h1
  exact ⟨by rw [a1.len]; exact Nat.le_trans hl line1000, fun p hp => fin_tup h1 r1 a1 hp⟩
theorem c_lst (h : CA Γ X W es am) : CE Γ X W (.List es pos) (e_lst am) := by
  refine PE.weak (pe_lst h) fun σ H Q ⟨c, env, S, r, ev, h⟩ => ?_
  refine ⟨c, env, S, r, ev, (Po.bind h).imp fun vs H1 ⟨c1, S1, ds, e1, r1, a1, h1⟩ => ?_⟩
  obtain ⟨hl, h1⟩ := Po.if h1
  exact ⟨by rw [a1.len]; exact Nat.le_trans hl line1000, fun p hp => fin_lst h1 r1 a1 hp⟩
theorem c_new (h : CA Γ X W es am) : CE Γ X W (.List es pos) (e_new am) := by
  refine PE.weak (pe_lst h) fun σ H Q ⟨c, env, S, r, ev, h⟩ => ?_
  refine ⟨c, env, S, r, ev, (Po.bind h).imp fun vs H1 ⟨c1, S1, ds, e1, r1, a1, h1⟩ => ?_⟩
  obtain ⟨hl, h1⟩ := Po.if h1
  exact ⟨by rw [a1.len]; exact Nat.le_trans hl line1000, fun p hp => fin_new h1 r1 a1 hp⟩
/-! ## a[i], a[i:j] -/
def ixD (x y : D) (S : Sto) : R D := match x, y with
  | .str z, .int i => .if (z.length ≤ sizeLine) (.ofO ((atI z.cps.toList i).map fun k => .str ⟨#[k]⟩) S)
  | x, .int i => .ofO ((seqOf S x).bind fun ds => atI ds i) S
  | _, _ => .bad
@[simp] theorem ixD_tup (ds : List D) (i : Int) (S : Sto) : ixD (.tup ds) (.int i) S = .ofO (atI ds i) S := rfl
@[simp] theorem ixD_lst (ds : List D) (i : Int) (S : Sto) : ixD (.lst ds) (.int i) S = .ofO (atI ds i) S := rfl
@[simp] theorem ixD_fz (ns : List Int) (i : Int) (S : Sto) : ixD (.fz ns) (.int i) S = .ofO (atI (ns.map D.int) i) S := rfl
@[simp] theorem ixD_str (z : Str) (i : Int) (S : Sto) : ixD (.str z) (.int i) S = .if (z.length ≤ sizeLine) (.ofO ((atI z.cps.toList i).map fun k => .str ⟨#[k]⟩) S) := rfl
def rIx3 (K : PySem.W.Frag) : R2 := fun x y H Q => (rIxL K x y H Q ∨ rIxT K x y H Q) ∨ rIxS x y H Q
theorem ix3 : IxR X (rIx3 X.K) := (ix_list.or ix_tup).or ix_str
theorem Ats.atI {ds : List D} {vs : List V} {i : Int} {d : D} (t : Ats w c H n ds vs) (h : L2.atI ds i = some d) : ∃ v, L2.atI vs i = some v ∧ At w c H n d v := by
  unfold L2.atI at h ⊢
  rw [t.len]
  cases hj : ixN ds.length i with
  | none => rw [hj] at h; cases h
  | some j =>
    rw [hj] at h
    exact t.get h
theorem g_ix : GOp Γ X ixD (rIx3 X.K) := by
  intro W σ c H S x y v u Q r a b h
  have go : ∀ i, y = .int i → PoE ⟨X.K, Γ⟩ W σ c H S.length (.ofO ((seqOf S x).bind fun ds => L2.atI ds i) S) Q → rIx3 X.K v u H Q := fun i e h' => by
    subst e
    obtain ⟨d, hd, h⟩ := Po.ofO h'
    cases hx : seqOf S x with
    | none => rw [hx] at hd; cases hd
    | some ds =>
      rw [hx] at hd
      obtain ⟨p, vs, rfl, g, t⟩ := seqOf_at r a hx
      obtain ⟨z, hz, az⟩ := t.atI hd
      rcases g with g | g
      · exact .inl (.inl ⟨p, vs, i, z, rfl, b.int, g, hz, fin_ok h r az⟩)
      · exact .inl (.inr ⟨p, vs, i, z, rfl, b.int, g, hz, fin_ok h r az⟩)
  cases y with
  | int i =>
    cases x with
    | str z =>
      change PoE ⟨X.K, Γ⟩ W σ c H S.length (.if (z.length ≤ sizeLine) (.ofO ((L2.atI z.cps.toList i).map fun k => .str ⟨#[k]⟩) S)) Q at h
      obtain ⟨hl, h⟩ := Po.if h
      obtain ⟨d, hd, h⟩ := Po.ofO h
      cases hk : L2.atI z.cps.toList i with
      | none => rw [hk] at hd; cases hd
      | some k =>
        rw [hk] at hd
        cases hd
        exact .inr ⟨z, i, k, a.str, b.int, hl, hk, fin_ok h r (.s _)⟩
    | tup _ => exact go i rfl h
    | lst _ => exact go i rfl h
    | fz _ => exact go i rfl h
    | loc _ => exact go i rfl h
    | non => exact go i rfl h
    | bl _ => exact go i rfl h
    | int _ => exact go i rfl h
    | dic _ _ => exact go i rfl h
    | obj _ _ => exact go i rfl h
    | oth _ => exact go i rfl h
    | ttp _ => exact go i rfl h
    | xn _ _ => exact go i rfl h
  | _ => cases x <;> exact h.elim
theorem c_ix (ha : CE Γ X W a ma) (hb : CE Γ X W b mb) (hs : PlainIx b := by exact fun _ _ => rfl) : CE Γ X W (.Subscript a b pos) (e_op ixD ma mb) := by
  refine PE.weak (pe_ix ix3 ha hb hs) fun σ H Q ⟨c, env, S, r, ev, h⟩ => ?_
  refine ⟨c, env, S, r, ev, (Po.bind h).imp fun v H1 ⟨c1, S1, d1, e1, r1, a1, h1⟩ => ?_⟩
  refine ⟨c1, env, S1, r1, ev.mono e1, (Po.bind h1).imp fun u H2 ⟨c2, S2, d2, e2, r2, a2, h2⟩ => ?_⟩
  exact g_ix W σ c2 H2 S2 d1 d2 v u Q r2 (a1.mono e2) a2 h2
abbrev OM := Env → Sto → R (Option Int)
def relO (_ : Cn) (_ : Hp) (_ : Nat) (x v : Option Int) : Prop := v = x
def mO (w : Wn) (W : WX) (m : OM) : TO := fun σ H Q => mG w W relO m σ H Q
abbrev CO (Γ : Cls') (X : Cx) (W : WX) (e : Option Expr) (m : OM) : Prop := PO X e (mO ⟨X.K, Γ⟩ W m)
def o_none : OM := fun _ S => .ok none S
def o_some (m : EM) : OM := fun env S => (m env S).bind fun d S1 => match d with
  | .int i => .ok (some i) S1
  | _ => .bad
theorem PO.weak {e : Option Expr} {t t' : TO} (h : PO X e t) (i : ∀ σ H Q, t' σ H Q → t σ H Q) : PO X e t' := ⟨fun pins s σ H Q I q => h.run pins s σ H Q I (i σ H Q q)⟩
theorem c_onone : CO Γ X W none o_none := PO.weak po_none fun σ H Q ⟨c, env, S, r, ev, h⟩ => h c H none Ext.refl r rfl
theorem c_osome (ha : CE Γ X W a ma) : CO Γ X W (some a) (o_some ma) := by
  refine PO.weak (po_some ha) fun σ H Q ⟨c, env, S, r, ev, h⟩ => ?_
  refine ⟨c, env, S, r, ev, (Po.bind h).imp fun v H1 ⟨c1, S1, d1, e1, r1, a1, h1⟩ => ?_⟩
  cases d1 with
  | int i => exact ⟨i, a1.int, h1 c1 H1 _ Ext.refl r1 rfl⟩
  | _ => exact h1.elim
def cutD (ds : List D) (lo hi : Option Int) : List D := (ds.drop (HT.sIx ds.length 0 lo)).take (HT.sIx ds.length ds.length hi - HT.sIx ds.length 0 lo)
theorem Ats.cut {ds : List D} {vs : List V} (t : Ats w c H n ds vs) (lo hi : Option Int) : Ats w c H n (cutD ds lo hi) (cutV vs lo hi) := by
  unfold cutD cutV
  rw [t.len]
  exact (t.drop _).take _
def slD (x : D) (lo hi : Option Int) (S : Sto) : R D := match x with
  | .tup ds => .ok (.tup (cutD ds lo hi)) S
  | .str z => .if (z.length ≤ sizeLine) (.ok (.str (cutS z lo hi)) S)
  | x => match lstOf S x with
    | some ds => .ok (.lst (cutD ds lo hi)) S
    | none => .bad
@[simp] theorem slD_tup (ds : List D) (lo hi : Option Int) (S : Sto) : slD (.tup ds) lo hi S = .ok (.tup (cutD ds lo hi)) S := rfl
@[simp] theorem slD_lst (ds : List D) (lo hi : Option Int) (S : Sto) : slD (.lst ds) lo hi S = .ok (.lst (cutD ds lo hi)) S := rfl
@[simp] theorem slD_str (z : Str) (lo hi : Option Int) (S : Sto) : slD (.str z) lo hi S = .if (z.length ≤ sizeLine) (.ok (.str (cutS z lo hi)) S) := rfl
def e_sl (m : EM) (l h : OM) : EM := fun env S => (m env S).bind fun d S1 => (l env S1).bind fun lo S2 => (h env S2).bind fun hi S3 => slD d lo hi S3
theorem sl3 : SlR X (fun x lo hi H Q => (rSlL X.K x lo hi H Q ∨ rSlA X.K x lo hi H Q) ∨ rSlS x lo hi H Q) := (sl_list.or sl_tupA).or sl_str
theorem c_sl {lo hi : Option Expr} {lm hm : OM} {p2 : Pos} (ha : CE Γ X W a ma) (hl : CO Γ X W lo lm) (hh : CO Γ X W hi hm) : CE Γ X W (.Subscript a (.Slice lo hi none p2) pos) (e_sl ma lm hm) := by
  refine PE.weak (pe_slice sl3 ha hl hh) fun σ H Q ⟨c, env, S, r, ev, h⟩ => ?_
  refine ⟨c, env, S, r, ev, (Po.bind h).imp fun v H1 ⟨c1, S1, d1, e1, r1, a1, h1⟩ => ?_⟩
  refine ⟨c1, env, S1, r1, ev.mono e1, (Po.bind h1).imp fun u H2 ⟨c2, S2, d2, e2, r2, a2, h2⟩ => ?_⟩
  refine ⟨c2, env, S2, r2, (ev.mono e1).mono e2, (Po.bind h2).imp fun u3 H3 ⟨c3, S3, d3, e3, r3, a3, h3⟩ => ?_⟩
  cases (show u = d2 from a2)
  cases (show u3 = d3 from a3)
  have ax := (a1.mono e2).mono e3
  have go : (match lstOf S3 d1 with
    | some ds => R.ok (.lst (cutD ds u u3)) S3
    | none => .bad) = slD d1 u u3 S3 → (rSlL X.K v u u3 H3 Q ∨ rSlA X.K v u u3 H3 Q) ∨ rSlS v u u3 H3 Q := fun e => by
    cases hx : lstOf S3 d1 with
    | none => rw [hx] at e; rw [← e] at h3; exact h3.elim
    | some ds =>
      rw [hx] at e; rw [← e] at h3
      obtain ⟨p, vs, rfl, g, t⟩ := lstOf_at r3 ax hx
      exact .inl (.inl ⟨p, vs, rfl, SqL.of g, fun z hz => fin_lst h3 r3 (t.cut _ _) hz⟩)
  cases d1 with
  | tup ds =>
    have ax' := ax
    obtain ⟨p, vs, rfl, g, t⟩ := ax.tup
    refine .inl (.inr ⟨p, vs, rfl, g, fun hw => ?_, fun _ z hz => fin_tup h3 r3 (t.cut _ _) hz⟩)
    have e : cutD ds u u3 = ds := by
      unfold cutD
      rw [t.len] at hw
      rw [hw.1, hw.2, List.drop_zero, Nat.sub_zero, List.take_length]
    refine fin_ok h3 r3 ?_
    rw [e]; exact ax'
  | str z =>
    obtain ⟨hl, h3⟩ := Po.if h3
    exact .inr ⟨z, ax.str, hl, fin_ok h3 r3 (.s _)⟩
  | lst ds => exact go rfl
  | loc k => exact go rfl
  | non => exact go rfl
  | bl _ => exact go rfl
  | int _ => exact go rfl
  | dic _ _ => exact go rfl
  | obj _ _ => exact go rfl
  | fz _ => exact go rfl
  | oth _ => exact go rfl
  | ttp _ => exact go rfl
  | xn _ _ => exact go rfl
/-! ## calls of what is built in -/
def e_call (g : List D → Sto → R D) (m : AM) : EM := fun env S => (m env S).bind fun ds S1 => g ds S1
def GCall (Γ : Cls') (X : Cx) (g : List D → Sto → R D) (r : List V → Hp → VK → Prop) : Prop := ∀ (W : WX) (σ : St) (c : Cn) (H : Hp) (S : Sto) (ds : List D) (vs : List V) (Q : VK), Rep ⟨X.K, Γ⟩ c H S → Ats ⟨X.K, Γ⟩ c H S.length ds vs → PoE ⟨X.K, Γ⟩ W σ c H S.length (g ds S) Q → r vs H Q
theorem c_callB {id : String} {x : Str} {p : Pos} {r : List V → Hp → VK → Prop} {g : List D → Sto → R D} (hc : CallR X (.builtin id) r) (hg : GCall Γ X g r) (hgl : Gl X x) (hm : X.mg x = none) (hv : bootBuiltins x = some (.builtin id)) (ha : CA Γ X W (e :: es) am) (hn : x ≠ "__name__" := by decide) (hdb : (x == ("__debug__" : Str)) = false := by decide)
    (he : starEach (e :: es) X.env = (false, eval e X.env) :: starEach es X.env := by rfl) (hpl : (backTo pos (starEach es X.env)).any (·.1) = false := by rfl) : CE Γ X W (.Call (.Name x p) (e :: es) [] pos) (e_call g am) := by
  refine PE.weak (pe_callB hc hgl hm hv ha hn hdb he hpl) fun σ H Q ⟨c, env, S, r, ev, h⟩ => ?_
  exact ⟨c, env, S, r, ev, (Po.bind h).imp fun vs H1 ⟨c1, S1, ds, e1, r1, a1, h1⟩ => hg W σ c1 H1 S1 ds vs Q r1 a1 h1⟩
theorem c_callTy {T : String} {x : Str} {p : Pos} {r : List V → Hp → VK → Prop} {g : List D → Sto → R D} (hc : CallR X (.type T) r) (hg : GCall Γ X g r) (hgl : Gl X x) (hm : X.mg x = none) (hv : bootBuiltins x = some (.type T)) (ha : CA Γ X W (e :: es) am) (hn : x ≠ "__name__" := by decide) (hdb : (x == ("__debug__" : Str)) = false := by decide)
    (he : starEach (e :: es) X.env = (false, eval e X.env) :: starEach es X.env := by rfl) (hpl : (backTo pos (starEach es X.env)).any (·.1) = false := by rfl) : CE Γ X W (.Call (.Name x p) (e :: es) [] pos) (e_call g am) := by
  refine PE.weak (pe_callTy hc hgl hm hv ha hn hdb he hpl) fun σ H Q ⟨c, env, S, r, ev, h⟩ => ?_
  exact ⟨c, env, S, r, ev, (Po.bind h).imp fun vs H1 ⟨c1, S1, ds, e1, r1, a1, h1⟩ => hg W σ c1 H1 S1 ds vs Q r1 a1 h1⟩
theorem Ats.un1 {d : D} {vs : List V} (h : Ats w c H n [d] vs) : ∃ v, vs = [v] ∧ At w c H n d v := by
  obtain ⟨v, r, rfl, a, b⟩ := h.uncons
  rw [b.unnil]
  exact ⟨v, rfl, a⟩
theorem Ats.un2 {d d' : D} {vs : List V} (h : Ats w c H n [d, d'] vs) : ∃ v v', vs = [v, v'] ∧ At w c H n d v ∧ At w c H n d' v' := by
  obtain ⟨v, r, rfl, a, b⟩ := h.uncons
  obtain ⟨v', rfl, b'⟩ := b.un1
  exact ⟨v, v', rfl, a, b'⟩
def f1 (g : D → Sto → R D) (ds : List D) (S : Sto) : R D := match ds with
  | [x] => g x S
  | _ => .bad
def f2 (g : D → D → Sto → R D) (ds : List D) (S : Sto) : R D := match ds with
  | [x, y] => g x y S
  | _ => .bad
@[simp] theorem f1_eq (g : D → Sto → R D) (x : D) (S : Sto) : f1 g [x] S = g x S := rfl
@[simp] theorem f2_eq (g : D → D → Sto → R D) (x y : D) (S : Sto) : f2 g [x, y] S = g x y S := rfl
theorem GCall.one {g : D → Sto → R D} {r : List V → Hp → VK → Prop} (h : ∀ (W : WX) (σ : St) (c : Cn) (H : Hp) (S : Sto) (d : D) (v : V) (Q : VK), Rep ⟨X.K, Γ⟩ c H S → At ⟨X.K, Γ⟩ c H S.length d v → PoE ⟨X.K, Γ⟩ W σ c H S.length (g d S) Q → r [v] H Q) : GCall Γ X (f1 g) r := by
  intro W σ c H S ds vs Q rp a q
  cases ds with
  | nil => exact q.elim
  | cons x rs =>
    cases rs with
    | nil =>
      obtain ⟨v, rfl, a'⟩ := a.un1
      exact h W σ c H S x v Q rp a' q
    | cons y rs => exact q.elim
theorem GCall.two {g : D → D → Sto → R D} {r : List V → Hp → VK → Prop} (h : ∀ (W : WX) (σ : St) (c : Cn) (H : Hp) (S : Sto) (d e : D) (v u : V) (Q : VK), Rep ⟨X.K, Γ⟩ c H S → At ⟨X.K, Γ⟩ c H S.length d v → At ⟨X.K, Γ⟩ c H S.length e u → PoE ⟨X.K, Γ⟩ W σ c H S.length (g d e S) Q → r [v, u] H Q) : GCall Γ X (f2 g) r := by
  intro W σ c H S ds vs Q rp a q
  cases ds with
  | nil => exact q.elim
  | cons x rs =>
    cases rs with
    | nil => exact q.elim
    | cons y rs =>
      cases rs with
      | nil =>
        obtain ⟨v, v', rfl, a', b'⟩ := a.un2
        exact h W σ c H S x y v v' Q rp a' b' q
      | cons z rs => exact q.elim
def lenD (x : D) (S : Sto) : R D := match x with
  | .str z => .if (z.length ≤ sizeLine) (.ok (.int z.length) S)
  | x => .ofO ((seqOf S x).map fun ds => D.int ds.length) S
@[simp] theorem lenD_tup (ds : List D) (S : Sto) : lenD (.tup ds) S = .ok (.int ds.length) S := rfl
@[simp] theorem lenD_lst (ds : List D) (S : Sto) : lenD (.lst ds) S = .ok (.int ds.length) S := rfl
@[simp] theorem lenD_fz (ds : List Int) (S : Sto) : lenD (.fz ds) S = .ok (.int ds.length) S := by
  show R.ok (D.int ((ds.map D.int).length : Int)) S = _
  rw [List.length_map]
@[simp] theorem lenD_str (z : Str) (S : Sto) : lenD (.str z) S = .if (z.length ≤ sizeLine) (.ok (.int z.length) S) := rfl
theorem g_len : GCall Γ X (f1 lenD) (fun xs H Q => ∃ x n, xs = [x] ∧ LenV X.K x H n ∧ Q (.int n) H) := by
  refine .one fun W σ c H S x v Q r a h => ?_
  have go : PoE ⟨X.K, Γ⟩ W σ c H S.length (.ofO ((seqOf S x).map fun ds => D.int ds.length) S) Q → ∃ y n, [v] = [y] ∧ LenV X.K y H n ∧ Q (.int n) H := fun h => by
    obtain ⟨d, hd, h⟩ := Po.ofO h
    cases hx : seqOf S x with
    | none => rw [hx] at hd; cases hd
    | some ds =>
      rw [hx] at hd
      cases hd
      obtain ⟨p, vs, rfl, g, t⟩ := seqOf_at r a hx
      refine ⟨.ref p, ds.length, rfl, ?_, fin_ok h r (.i _)⟩
      rcases g with g | g
      · exact .inl ⟨vs, g, t.len.symm⟩
      · exact .inr ⟨vs, g, t.len.symm⟩
  cases x with
  | str z =>
    obtain ⟨hl, h⟩ := Po.if h
    exact ⟨v, z.length, rfl, by rw [a.str]; exact ⟨hl, rfl⟩, fin_ok h r (.i _)⟩
  | _ => exact go h
def intcD (x : D) (S : Sto) : R D := match x with
  | .int i => .ok (.int i) S
  | .bl k => .ok (.int (if k then 1 else 0)) S
  | _ => .bad
@[simp] theorem intcD_i (i : Int) (S : Sto) : intcD (.int i) S = .ok (.int i) S := rfl
@[simp] theorem intcD_b (k : Bool) (S : Sto) : intcD (.bl k) S = .ok (.int (if k then 1 else 0)) S := rfl
theorem g_intc : GCall Γ X (f1 intcD) (fun xs H Q => (∃ i, xs = [.int i] ∧ Q (.int i) H) ∨ ∃ k, xs = [.bl k] ∧ Q (.int (if k then 1 else 0)) H) := by
  refine .one fun W σ c H S x v Q r a h => ?_
  cases x with
  | int i => exact .inl ⟨i, by rw [a.int], fin_ok h r (.i _)⟩
  | bl k => exact .inr ⟨k, by rw [a.bl], fin_ok h r (.i _)⟩
  | _ => exact h.elim
theorem g_int2 {f : Int → Int → Int} : GCall Γ X (f2 (intD0 fun i j => .int (f i j))) (fun xs H Q => ∃ i j, xs = [.int i, .int j] ∧ Q (.int (f i j)) H) := by
  refine .two fun W σ c H S x y v u Q r a b h => ?_
  cases x with
  | int i =>
    cases y with
    | int j => exact ⟨i, j, by rw [a.int, b.int], fin_ok h r (.i _)⟩
    | _ => exact h.elim
  | _ => cases y <;> exact h.elim
def tupleD (x : D) (S : Sto) : R D := .ofO ((seqOf S x).map D.tup) S
def listD (x : D) (S : Sto) : R D := .ofO ((seqOf S x).map D.lst) S
/-- list(x) as a new place of the store -/
def listN (x : D) (S : Sto) : R D := match seqOf S x with
  | some ds => .ok (.loc S.length) (S ++ [SO.lst ds])
  | none => .bad
@[simp] theorem tupleD_t (ds : List D) (S : Sto) : tupleD (.tup ds) S = .ok (.tup ds) S := rfl
@[simp] theorem tupleD_l (ds : List D) (S : Sto) : tupleD (.lst ds) S = .ok (.tup ds) S := rfl
@[simp] theorem listD_t (ds : List D) (S : Sto) : listD (.tup ds) S = .ok (.lst ds) S := rfl
@[simp] theorem listD_l (ds : List D) (S : Sto) : listD (.lst ds) S = .ok (.lst ds) S := rfl
@[simp] theorem listN_t (ds : List D) (S : Sto) : listN (.tup ds) S = .ok (.loc S.length) (S ++ [.lst ds]) := rfl
@[simp] theorem listN_l (ds : List D) (S : Sto) : listN (.lst ds) S = .ok (.loc S.length) (S ++ [.lst ds]) := rfl
theorem seqO {f : List D → D} {x : D} {v : V} {Q : VK} (r : Rep w c H S) (a : At w c H S.length x v) (h : PoE w W σ c H S.length (.ofO ((seqOf S x).map f) S) Q) :
    ∃ p vs ds, v = .ref p ∧ (SqL w.K H p vs ∨ SqT w.K H p vs) ∧ Ats w c H S.length ds vs ∧ PoE w W σ c H S.length (.ok (f ds) S) Q := by
  obtain ⟨d, hd, h⟩ := Po.ofO h
  cases hx : seqOf S x with
  | none => rw [hx] at hd; cases hd
  | some ds =>
    rw [hx] at hd
    cases hd
    obtain ⟨p, vs, rfl, g, t⟩ := seqOf_at r a hx
    exact ⟨p, vs, ds, rfl, g, t, h⟩
theorem g_tuple : GCall Γ X (f1 tupleD) (fun xs H Q => ∃ p ys, xs = [.ref p] ∧ ((SqL X.K H p ys ∧ ∀ l, H l = none → Q (.ref l) (upd H l (.tup ys))) ∨ (SqT X.K H p ys ∧ Q (.ref p) H))) := by
  refine .one fun W σ c H S x v Q r a h => ?_
  obtain ⟨p, vs, ds, rfl, g, t, h⟩ := seqO r a h
  refine ⟨p, vs, rfl, ?_⟩
  rcases g with g | g
  · exact .inl ⟨g, fun l hl => fin_tup h r t hl⟩
  · exact .inr ⟨g, fin_ok h r (by unfold At; exact ⟨p, vs, rfl, g, t⟩)⟩
end
end Mm
set_option maxRecDepth 100000
/-! Statements over the plain data. -/
namespace Mm
open PySem L2
inductive RS where
  | next (env : Env) (S : Sto) | ret (d : D) (S : Sto) | brk (env : Env) (S : Sto) | cnt (env : Env) (S : Sto) | ex (x : Exn) (env : Env) (S : Sto) | bad
abbrev SM := Env → Sto → RS
def R.toS {α : Type} (r : R α) (env : Env) (f : α → Sto → RS) : RS := match r with
  | .ok a S => f a S
  | .ex x S => .ex x env S
  | .bad => .bad
@[simp] theorem R.toS_ok {α : Type} (a : α) (S : Sto) (env : Env) (f : α → Sto → RS) : (R.ok a S).toS env f = f a S := rfl
@[simp] theorem R.toS_ex {α : Type} (x : Exn) (S : Sto) (env : Env) (f : α → Sto → RS) : (R.ex x S : R α).toS env f = .ex x env S := rfl
@[simp] theorem R.toS_bad {α : Type} (env : Env) (f : α → Sto → RS) : (R.bad : R α).toS env f = .bad := rfl
def RS.bind (r : RS) (f : Env → Sto → RS) : RS := match r with
  | .next env S => f env S
  | r => r
@[simp] theorem RS.bind_next (env : Env) (S : Sto) (f : Env → Sto → RS) : (RS.next env S).bind f = f env S := rfl
@[simp] theorem RS.bind_ret (d : D) (S : Sto) (f : Env → Sto → RS) : (RS.ret d S).bind f = .ret d S := rfl
@[simp] theorem RS.bind_brk (env : Env) (S : Sto) (f : Env → Sto → RS) : (RS.brk env S).bind f = .brk env S := rfl
@[simp] theorem RS.bind_cnt (env : Env) (S : Sto) (f : Env → Sto → RS) : (RS.cnt env S).bind f = .cnt env S := rfl
@[simp] theorem RS.bind_ex (x : Exn) (env : Env) (S : Sto) (f : Env → Sto → RS) : (RS.ex x env S).bind f = .ex x env S := rfl
@[simp] theorem RS.bind_bad (f : Env → Sto → RS) : RS.bad.bind f = .bad := rfl
def RS.if (b : Prop) [Decidable b] (r : RS) : RS := if b then r else .bad
@[simp] theorem RS.if_pos {b : Prop} [Decidable b] {r : RS} (h : b) : RS.if b r = r := _root_.if_pos h
section
variable (w : Wn) (W : WX)
def PoS (c : Cn) (H : Hp) (n : Nat) (r : RS) (Dn : Ends) : Prop := match r with
  | .next env S => ∀ c' H' σ', Ext c H n c' H' S.length → Rep w c' H' S → EnvR w c' H' S.length σ' env → Dn.nx σ' H'
  | .brk env S => ∀ c' H' σ', Ext c H n c' H' S.length → Rep w c' H' S → EnvR w c' H' S.length σ' env → Dn.bk σ' H'
  | .cnt env S => ∀ c' H' σ', Ext c H n c' H' S.length → Rep w c' H' S → EnvR w c' H' S.length σ' env → Dn.ct σ' H'
  | .ret d S => ∀ c' H' v, Ext c H n c' H' S.length → Rep w c' H' S → At w c' H' S.length d v → Dn.rt v H'
  | .ex x env S => ∀ c' H' σ' C dd, Ext c H n c' H' S.length → Rep w c' H' S → EnvR w c' H' S.length σ' env → XAt w c' H' S.length x C dd → W C dd σ' H'
  | .bad => False
def mS (m : SM) : TS := fun Dn σ H => ∃ c env S, Rep w c H S ∧ EnvR w c H S.length σ env ∧ PoS w W c H S.length (m env S) Dn
end
abbrev CS (Γ : Cls') (X : Cx) (W : WX) (st : Stmt) (m : SM) : Prop := PS X st (mS ⟨X.K, Γ⟩ W m)
abbrev CSs (Γ : Cls') (X : Cx) (W : WX) (st : List Stmt) (m : SM) : Prop := PSs X st (mS ⟨X.K, Γ⟩ W m)
theorem PS.weak {X : Cx} {st : Stmt} {t t' : TS} (h : PS X st t) (i : ∀ D σ H, t' D σ H → t D σ H) : PS X st t' := ⟨fun pins s σ H D I q => h.run pins s σ H D I (i D σ H q)⟩
theorem PSs.weak {X : Cx} {st : List Stmt} {t t' : TS} (h : PSs X st t) (i : ∀ D σ H, t' D σ H → t D σ H) : PSs X st t' := ⟨fun pins s σ H D I q => h.run pins s σ H D I (i D σ H q)⟩
section
variable {w : Wn} {W : WX} {σ : St} {c c' : Cn} {H H' : Hp} {n n' : Nat} {S : Sto} {env : Env}
variable {Γ : Cls'} {X : Cx} {a b e : Expr} {ma mb : EM} {pos : Pos} {Dn : Ends}
theorem PoS.mono {r : RS} (e : Ext c H n c' H' n') (h : PoS w W c H n r Dn) : PoS w W c' H' n' r Dn := by
  cases r with
  | next env S => exact fun c2 H2 s e2 r2 a => h c2 H2 s (e.trans e2) r2 a
  | brk env S => exact fun c2 H2 s e2 r2 a => h c2 H2 s (e.trans e2) r2 a
  | cnt env S => exact fun c2 H2 s e2 r2 a => h c2 H2 s (e.trans e2) r2 a
  | ret d S => exact fun c2 H2 v e2 r2 a => h c2 H2 v (e.trans e2) r2 a
  | ex x env S => exact fun c2 H2 s C dd e2 r2 a b => h c2 H2 s C dd (e.trans e2) r2 a b
  | bad => exact h.elim
theorem PoS.if {p : Prop} [Decidable p] {r : RS} (h : PoS w W c H n (.if p r) Dn) : p ∧ PoS w W c H n r Dn := by
  unfold RS.if at h
  by_cases hb : p
  · rw [_root_.if_pos hb] at h; exact ⟨hb, h⟩
  · rw [if_neg hb] at h; exact h.elim
theorem PoS.part {α β : Type} {rel : Cn → Hp → Nat → α → β → Prop} {r : R α} {f : α → Sto → RS} (ev : EnvR w c H n σ env) (h : PoS w W c H n (r.toS env f) Dn) :
    Po w W rel σ c H n r fun v H1 => ∃ c1 S1 d, Ext c H n c1 H1 S1.length ∧ Rep w c1 H1 S1 ∧ rel c1 H1 S1.length d v ∧ EnvR w c1 H1 S1.length σ env ∧ PoS w W c1 H1 S1.length (f d S1) Dn := by
  cases r with
  | ok d S => exact fun c2 H2 v e2 r2 a => ⟨c2, S, d, e2, r2, a, ev.mono e2, PoS.mono e2 h⟩
  | ex x S => exact fun c2 H2 C dd e2 r2 a => h c2 H2 σ C dd e2 r2 (ev.mono e2) a
  | bad => exact h.elim
theorem PoS.seq {r : RS} {f : SM} (h : PoS w W c H n (r.bind f) Dn) : PoS w W c H n r { Dn with nx := mS w W f Dn } := by
  cases r with
  | next env S => exact fun c2 H2 s e2 r2 a => ⟨c2, env, S, r2, a, PoS.mono e2 h⟩
  | brk env S => exact h
  | cnt env S => exact h
  | ret d S => exact h
  | ex x env S => exact h
  | bad => exact h.elim
def s_nil : SM := fun env S => .next env S
def s_seq (m f : SM) : SM := fun env S => (m env S).bind f
variable {st : Stmt} {sts : List Stmt} {m f : SM}
theorem c_nil : CSs Γ X W [] s_nil := PSs.weak pss_nil fun Dn σ H ⟨c, env, S, r, ev, h⟩ => h c H σ Ext.refl r ev
theorem c_seq (h1 : CS Γ X W st m) (h2 : CSs Γ X W sts f) : CSs Γ X W (st :: sts) (s_seq m f) := PSs.weak (pss_cons h1 h2) fun Dn σ H ⟨c, env, S, r, ev, h⟩ => ⟨c, env, S, r, ev, PoS.seq h⟩
theorem c_last (h1 : CS Γ X W st m) : CSs Γ X W [st] m := pss_one h1
def s_pass : SM := fun env S => .next env S
def s_brk : SM := fun env S => .brk env S
def s_cnt : SM := fun env S => .cnt env S
/-- code that is not reached -/
def s_bad : SM := fun _ _ => .bad
theorem c_bad : CS Γ X W st s_bad := PS.weak ps_never fun Dn σ H ⟨c, env, S, r, ev, h⟩ => h
theorem c_bads : CSs Γ X W sts s_bad := PSs.weak pss_never fun Dn σ H ⟨c, env, S, r, ev, h⟩ => h
def s_ex (m : EM) : SM := fun env S => (m env S).toS env fun _ S1 => .next env S1
def s_ret (m : EM) : SM := fun env S => (m env S).toS env fun d S1 => .ret d S1
def s_set (i : Nat) (m : EM) : SM := fun env S => (m env S).toS env fun d S1 => .next (env.set i (some d)) S1
def s_if (t : TM) (p q : SM) : SM := fun env S => (t env S).toS env fun k S1 => if k = true then p env S1 else q env S1
theorem c_expr (he : CE Γ X W e ma) (hs : swapsWith e none pos.line X.env = pure false := by rfl) : CS Γ X W (.Expr e pos) (s_ex ma) := by
  refine PS.weak (ps_expr he hs) fun Dn σ H ⟨c, env, S, r, ev, h⟩ => ?_
  exact ⟨c, env, S, r, ev, (PoS.part ev h).imp fun v H1 ⟨c1, S1, d1, e1, r1, a1, ev1, h1⟩ => h1 c1 H1 σ Ext.refl r1 ev1⟩
theorem c_ret (he : CE Γ X W e ma) : CS Γ X W (.Return (some e) pos) (s_ret ma) := by
  refine PS.weak (ps_ret he) fun Dn σ H ⟨c, env, S, r, ev, h⟩ => ?_
  exact ⟨c, env, S, r, ev, (PoS.part ev h).imp fun v H1 ⟨c1, S1, d1, e1, r1, a1, ev1, h1⟩ => h1 c1 H1 v Ext.refl r1 a1⟩
theorem c_set {i : Nat} {x : Str} {pos' : Pos} (hN : X.N.Nodup) (hi : X.N[i]? = some x) (hx : Loc X.env.scope x) (he : CE Γ X W e ma) (hs : swapsWith e (some (.Name x pos')) pos.line X.env = pure false := by rfl) (hf : X.fn x = true ∨ X.env.scope.names.lookup x = some .local := by first | exact .inl rfl | exact .inr rfl | assumption) :
    CS Γ X W (.Assign [.Name x pos'] e pos) (s_set i ma) := by
  refine PS.weak (ps_set hN hi hx he hs hf) fun Dn σ H ⟨c, env, S, r, ev, h⟩ => ?_
  exact ⟨c, env, S, r, ev, (PoS.part ev h).imp fun v H1 ⟨c1, S1, d1, e1, r1, a1, ev1, h1⟩ => h1 c1 H1 _ Ext.refl r1 (ev1.set a1)⟩
theorem c_if {t : Expr} {pm : TM} {as bs : List Stmt} {p q : SM} (ht : CT Γ X W t pm) (ha : CSs Γ X W as p) (hb : CSs Γ X W bs q) : CS Γ X W (.If t as bs pos) (s_if pm p q) := by
  refine PS.weak (ps_if ht ha hb) fun Dn σ H ⟨c, env, S, r, ev, h⟩ => ?_
  refine ⟨c, env, S, r, ev, (PoS.part ev h).imp fun k H1 ⟨c1, S1, d1, e1, r1, a1, ev1, h1⟩ => ?_⟩
  cases (show k = d1 from a1)
  cases k with
  | true => exact ⟨c1, env, S1, r1, ev1, h1⟩
  | false => exact ⟨c1, env, S1, r1, ev1, h1⟩
/-! ## targets -/
abbrev GM := D → Env → Option Env
abbrev GMs := List D → Env → Option Env
def Bt (sl : List Nat) (σ σ' : List (Option V)) : Prop := σ'.length = σ.length ∧ ∀ j : Nat, j ∉ sl → σ'[j]? = σ[j]?
def mTg (w : Wn) (sl : List Nat) (g : GM) : TG := fun v σ H Q => ∃ c env S d env', Rep w c H S ∧ EnvR w c H S.length σ env ∧ At w c H S.length d v ∧ g d env = some env' ∧ ∀ σ', EnvR w c H S.length σ' env' → Bt sl σ σ' → Q σ' H
def mTgs (w : Wn) (sl : List Nat) (g : GMs) : TGs := fun vs σ H Q => ∃ c env S ds env', Rep w c H S ∧ EnvR w c H S.length σ env ∧ Ats w c H S.length ds vs ∧ g ds env = some env' ∧ ∀ σ', EnvR w c H S.length σ' env' → Bt sl σ σ' → Q σ' H
abbrev CG (Γ : Cls') (X : Cx) (tg : Expr) (sl : List Nat) (g : GM) : Prop := PG X tg (mTg ⟨X.K, Γ⟩ sl g)
abbrev CGs (Γ : Cls') (X : Cx) (tg : List Expr) (sl : List Nat) (g : GMs) : Prop := PGs X tg (mTgs ⟨X.K, Γ⟩ sl g)
def g_name (i : Nat) : GM := fun d env => some (env.set i (some d))
def g_nil : GMs := fun ds env => match ds with
  | [] => some env
  | _ => none
def g_cons (g : GM) (gs : GMs) : GMs := fun ds env => match ds with
  | d :: r => (g d env).bind fun env1 => gs r env1
  | [] => none
def g_tup (gs : GMs) : GM := fun d env => match d with
  | .tup ds => gs ds env
  | _ => none
theorem PG.weak {tg : Expr} {t t' : TG} (h : PG X tg t) (i : ∀ v σ H Q, t' v σ H Q → t v σ H Q) : PG X tg t' := ⟨fun pins s σ H v u Q I r q => h.run pins s σ H v u Q I r (i v σ H Q q)⟩
theorem PGs.weak {tg : List Expr} {t t' : TGs} (h : PGs X tg t) (i : ∀ v σ H Q, t' v σ H Q → t v σ H Q) : PGs X tg t' := ⟨fun pins s σ H v u Q I r q => h.run pins s σ H v u Q I r (i v σ H Q q)⟩
theorem c_gname {i : Nat} {x : Str} (hN : X.N.Nodup) (hi : X.N[i]? = some x) (hx : Loc X.env.scope x) (hf : X.fn x = true ∨ X.env.scope.names.lookup x = some .local := by first | exact .inl rfl | exact .inr rfl | assumption) : CG Γ X (.Name x pos) [i] (g_name i) :=
  PG.weak (pg_name hN hi hx hf) fun v σ H Q ⟨c, env, S, d, env', r, ev, a, g, q⟩ => by
    cases g
    exact q _ (ev.set a) ⟨List.length_set, fun j hj => List.getElem?_set_ne fun e => hj (by simp [e])⟩
theorem c_gnil : CGs Γ X [] [] g_nil := PGs.weak pgs_nil fun vs σ H Q ⟨c, env, S, ds, env', r, ev, a, g, q⟩ => by
  cases ds with
  | nil => cases g; exact ⟨a.unnil, q σ ev ⟨rfl, fun _ _ => rfl⟩⟩
  | cons d r => cases g
theorem c_gcons {tg : Expr} {tgs : List Expr} {g : GM} {gs : GMs} {sl sls : List Nat} (h1 : CG Γ X tg sl g) (h2 : CGs Γ X tgs sls gs) (hs : (assignEach (tg :: tgs) X.env).map (·.2) = assign tg X.env :: (assignEach tgs X.env).map (·.2) := by rfl) : CGs Γ X (tg :: tgs) (sl ++ sls) (g_cons g gs) :=
  PGs.weak (pgs_cons h1 h2 hs) fun vs σ H Q ⟨c, env, S, ds, env', r, ev, a, g', q⟩ => by
    cases ds with
    | nil => cases g'
    | cons d rs =>
      obtain ⟨v, vr, rfl, a1, a2⟩ := a.uncons
      change (g d env).bind (fun env1 => gs rs env1) = some env' at g'
      cases hg : g d env with
      | none => rw [hg] at g'; cases g'
      | some env1 =>
        rw [hg] at g'
        exact ⟨v, vr, rfl, c, env, S, d, env1, r, ev, a1, hg, fun σ1 ev1 b1 => ⟨c, env1, S, rs, env', r, ev1, a2, g', fun σ2 ev2 b2 => q σ2 ev2 ⟨b2.1.trans b1.1, fun j hj => (b2.2 j fun z => hj (List.mem_append_right _ z)).trans (b1.2 j fun z => hj (List.mem_append_left _ z))⟩⟩⟩
/-- gs takes k values -/
def Takes' (k : Nat) (gs : GMs) : Prop := ∀ ds env env', gs ds env = some env' → ds.length = k
theorem takes_nil : Takes' 0 g_nil := fun ds env env' h => by cases ds with
  | nil => rfl
  | cons d r => cases h
theorem takes_cons {k : Nat} {g : GM} {gs : GMs} (h : Takes' k gs) : Takes' (k + 1) (g_cons g gs) := fun ds env env' q => by
  cases ds with
  | nil => cases q
  | cons d r =>
    change (g d env).bind (fun env1 => gs r env1) = some env' at q
    cases hg : g d env with
    | none => rw [hg] at q; cases q
    | some env1 => rw [hg] at q; rw [List.length_cons, h r env1 env' q]
theorem c_gtup {es : List Expr} {k n : Nat} {gs : GMs} {sls : List Nat} (hc : X.calm = true) (h : CGs Γ X es sls gs) (ht : Takes' n gs) (hn : (assignEach es X.env).length = n := by rfl) (hst : (assignEach es X.env).findIdx? (·.1) = none := by rfl) : CG Γ X (.Tuple es k pos) sls (g_tup gs) :=
  PG.weak (pg_tup (n := n) hc h hn hst) fun v σ H Q ⟨c, env, S, d, env', r, ev, a, g, q⟩ => by
    cases d with
    | tup ds =>
      obtain ⟨p, vs, rfl, s, t⟩ := a.tup
      exact ⟨p, vs, rfl, s, by rw [t.len]; exact ht ds env env' g, c, env, S, ds, env', r, ev, t, g, q⟩
    | _ => cases g
def s_asg (m : EM) (g : GM) : SM := fun env S => (m env S).toS env fun d S1 => match g d env with
  | some env1 => .next env1 S1
  | none => .bad
/-! ## o[i] = v -/
def setL (S : Sto) (x y z : D) : Option Sto := match x, y with
  | .loc k, .int i => match S[k]? with
    | some (.lst ds) => (ixN ds.length i).map fun j => S.set k (.lst (ds.set j z))
    | _ => none
  | _, _ => none
def s_put (mv mo mi : EM) : SM := fun env S => (mv env S).toS env fun z S1 => (mo env S1).toS env fun x S2 => (mi env S2).toS env fun y S3 => match setL S3 x y z with
  | some S4 => .next env S4
  | none => .bad
theorem c_put {o i : Expr} {mo mi : EM} {p0 : Pos} (he : CE Γ X W e ma) (ho : CE Γ X W o mo) (hi : CE Γ X W i mi) (hs : swapsWithSole [.Subscript o i p0] e pos.line X.env = pure false := by rfl) (hw : swappedStores [.Subscript o i p0] e X.env = pure none := by rfl)
    (h1 : (assignEach [.Subscript o i p0] X.env).map (·.2) = [assign (.Subscript o i p0) X.env] := by rfl)
    (h2 : ∀ v, assign (.Subscript o i p0) X.env v = (do
      let ov ← holding [v] (eval o X.env)
      let iv ← holding [v, ov] (eval i X.env)
      standAt p0
      holding [v, ov, iv] (setItem ov iv v)
      release [v, ov, iv] []) := by intro _; rfl) : CS Γ X W (.Assign [.Subscript o i p0] e pos) (s_put ma mo mi) := by
  refine PS.weak (ps_asg he (pg_sub ho hi set_list h2) hs hw h1) fun Dn σ H ⟨c, env, S, r, ev, h⟩ => ?_
  refine ⟨c, env, S, r, ev, (PoS.part ev h).imp fun v H1 ⟨c1, S1, d1, e1, r1, a1, ev1, h1⟩ => ?_⟩
  refine ⟨c1, env, S1, r1, ev1, (PoS.part ev1 h1).imp fun v2 H2 ⟨c2, S2, d2, e2, r2, a2, ev2, h2⟩ => ?_⟩
  refine ⟨c2, env, S2, r2, ev2, (PoS.part ev2 h2).imp fun v3 H3 ⟨c3, S3, d3, e3, r3, a3, ev3, h3⟩ => ?_⟩
  cases hs : setL S3 d2 d3 d1 with
  | none => simp only [hs] at h3; exact h3.elim
  | some S4 =>
    simp only [hs] at h3
    cases d2 with
    | loc k =>
      cases d3 with
      | int i =>
        unfold setL at hs
        cases hk : S3[k]? with
        | none => simp only [hk] at hs; cases hs
        | some o =>
          cases o with
          | lst ds =>
            simp only [hk] at hs
            cases hj : ixN ds.length i with
            | none => rw [hj] at hs; cases hs
            | some j =>
              rw [hj] at hs
              cases hs
              have ak := a2.mono e3
              unfold At at ak
              obtain ⟨vs, g, t⟩ := r3.get hk
              have az := (a1.mono e2).mono e3
              refine ⟨c3.ρ k, vs, i, j, ak.2, a3.int, g, by rw [t.len]; exact hj, ?_⟩
              have ex := Ext.wr r3 (o := .lst (vs.set j v)) ak.1 ⟨_, g, trivial⟩
              have rr := Rep.wr r3 (o := .lst (vs.set j v)) (so := .lst (ds.set j d1)) ak.1 ⟨_, g, trivial⟩ ⟨_, upd_same, (t.set az j).mono ex⟩
              have hl : (S3.set k (.lst (ds.set j d1))).length = S3.length := List.length_set
              exact h3 c3 _ σ (by rw [hl]; exact ex) rr (by rw [hl]; exact ev3.mono ex)
          | _ => simp only [hk] at hs; cases hs
      | _ => cases hs
    | _ => cases hs
/-! ## o.m(e), o.m() of what is built in -/
def e_meth (ty : D → Sto → Bool) (g : D → List D → Sto → R D) (mo : EM) (m : AM) : EM := fun env S => (mo env S).bind fun x S1 => .if (ty x S1 = true) ((m env S1).bind fun ds S2 => g x ds S2)
def GTy (T : String) (ty : D → Sto → Bool) : Prop := ∀ (w : Wn) (c : Cn) (H : Hp) (S : Sto) (x : D) (v : V), Rep w c H S → At w c H S.length x v → ty x S = true → tyV w.K T v H
def GMt (Γ : Cls') (X : Cx) (g : D → List D → Sto → R D) (r : V → List V → Hp → VK → Prop) : Prop := ∀ (W : WX) (σ : St) (c : Cn) (H : Hp) (S : Sto) (x : D) (v : V) (ds : List D) (vs : List V) (Q : VK), Rep ⟨X.K, Γ⟩ c H S → At ⟨X.K, Γ⟩ c H S.length x v → Ats ⟨X.K, Γ⟩ c H S.length ds vs → PoE ⟨X.K, Γ⟩ W σ c H S.length (g x ds S) Q → r v vs H Q
theorem c_meth {T id : String} {name : Str} {o : Expr} {es : List Expr} {apos cpos : Pos} {r : V → List V → Hp → VK → Prop} {ty : D → Sto → Bool} {g : D → List D → Sto → R D} {mo : EM} {am : AM} (pa : PlainAttrs T) (slot : Slot T name id) (hty : typeOf (.builtin id) = pure (.type "method_descriptor")) (hm : MtR X id r) (ht : GTy T ty) (hg : GMt Γ X g r)
    (ho : CE Γ X W o mo) (ha : CA Γ X W (e :: es) am)
    (hbase : attributeBase o name X.env (eval o X.env) = eval o X.env := by rfl)
    (hfew : ((backTo cpos (starEach (e :: es) X.env)).all (fun x => !x.1) && (backToKw cpos (keywordEach [] X.env)).all (fun x => x.1.isSome)
      && decide ((e :: es).length + ([] : List Keyword).length + (if ([] : List Keyword).isEmpty then 0 else 1) < 30)) = true := by rfl)
    (hline : (apos.endLine == cpos.line) = true := by rfl) (hs : starEach (e :: es) X.env = (false, eval e X.env) :: starEach es X.env := by rfl) (hplain : (backTo cpos (starEach es X.env)).any (·.1) = false := by rfl) :
    CE Γ X W (.Call (.Attribute o name apos) (e :: es) [] cpos) (e_meth ty g mo am) := by
  refine PE.weak (pe_bm pa slot hty hm ho ha hbase hfew hline hs hplain) fun σ H Q ⟨c, env, S, r, ev, h⟩ => ?_
  refine ⟨c, env, S, r, ev, (Po.bind h).imp fun v H1 ⟨c1, S1, d1, e1, r1, a1, h1⟩ => ?_⟩
  obtain ⟨hty, h1⟩ := Po.if h1
  refine ⟨ht _ c1 H1 S1 d1 v r1 a1 hty, c1, env, S1, r1, ev.mono e1, (Po.bind h1).imp fun vs H2 ⟨c2, S2, ds, e2, r2, a2, h2⟩ => ?_⟩
  exact hg W σ c2 H2 S2 d1 v ds vs Q r2 (a1.mono e2) a2 h2
def tyL (x : D) (S : Sto) : Bool := (lstOf S x).isSome
theorem gty_list : GTy "list" tyL := by
  intro w c H S x v r a h
  cases hx : lstOf S x with
  | none => unfold tyL at h; rw [hx] at h; cases h
  | some ds =>
    obtain ⟨p, vs, rfl, g, t⟩ := lstOf_at r a hx
    exact .inl ⟨rfl, vs, SqL.of g⟩
@[simp] theorem tyL_lst (ds : List D) (S : Sto) : tyL (.lst ds) S = true := rfl
def appD (x : D) (ds : List D) (S : Sto) : R D := match x, ds with
  | .loc k, [y] => match S[k]? with
    | some (.lst es) => .if (es.length < sizeLine) (.ok .non (S.set k (.lst (es ++ [y]))))
    | _ => .bad
  | _, _ => .bad
theorem appD_loc {S : Sto} {k : Nat} {es : List D} {y : D} (h : S[k]? = some (.lst es)) : appD (.loc k) [y] S = .if (es.length < sizeLine) (.ok .non (S.set k (.lst (es ++ [y])))) := by
  unfold appD; simp only [h]
def extD (x : D) (ds : List D) (S : Sto) : R D := match x, ds with
  | .loc k, [y] => match S[k]?, lstOf S y with
    | some (.lst es), some fs => .if (es.length + fs.length ≤ sizeLine) (.ok .non (S.set k (.lst (es ++ fs))))
    | _, _ => .bad
  | _, _ => .bad
theorem wr_end {k : Nat} {es : List D} {us : List V} {Q : VK} {d : D} {v : V} (hd : DV d = some v) (r : Rep w c H S) (hk : k < S.length) (hm : ∃ u, H (c.ρ k) = .some u ∧ Mut (.some u)) (t : Ats w c H S.length es us) (h : PoE w W σ c H S.length (.ok d (S.set k (.lst es))) Q) : Q v (upd H (c.ρ k) (.lst us)) := by
  have ex := Ext.wr r (o := .lst us) hk hm
  have rr := Rep.wr r (o := .lst us) (so := .lst es) hk hm ⟨_, upd_same, t.mono ex⟩
  have hl : (S.set k (.lst es)).length = S.length := List.length_set
  exact h c _ v (by rw [hl]; exact ex) rr (DV.at hd)
theorem gm_app : GMt Γ X appD rAppend := by
  intro W σ c H S x v ds vs Q r a t h
  cases x with
  | loc k =>
    cases ds with
    | nil => exact h.elim
    | cons y rs =>
      cases rs with
      | nil =>
        obtain ⟨u, rfl, ay⟩ := t.un1
        cases hk : S[k]? with
        | none => unfold appD at h; simp only [hk] at h; exact h.elim
        | some o =>
          cases o with
          | lst es =>
            rw [appD_loc hk] at h
            obtain ⟨hl, h⟩ := Po.if h
            unfold At at a
            obtain ⟨us, g, te⟩ := r.get hk
            exact ⟨c.ρ k, us, u, a.2, rfl, g, by rw [te.len]; exact hl, wr_end rfl r a.1 ⟨_, g, trivial⟩ (te.app (.one ay)) h⟩
          | _ => unfold appD at h; simp only [hk] at h; exact h.elim
      | cons z rs => exact h.elim
  | _ => exact h.elim
end
end Mm
set_option maxRecDepth 100000
namespace Tk
open PySem L2
/-! ## heaps -/
/-- all but what stands at p is as it was -/
def Kp (p : Addr) (H H' : Hp) : Prop := ∀ b o, H b = some o → b ≠ p → H' b = some o
theorem Kp.refl (p : Addr) (H : Hp) : Kp p H H := fun _ _ e _ => e
theorem Kp.trans {p : Addr} {H H1 H2 : Hp} (a : Kp p H H1) (b : Kp p H1 H2) : Kp p H H2 := fun c o e n => b c o (a c o e n) n
theorem Kp.upd {p : Addr} {H : Hp} {o : HO} : Kp p H (L2.upd H p o) := fun c u e n => by rw [upd_ne n]; exact e
theorem Kp.new {p q : Addr} {H H' : Hp} {o : HO} (a : Kp p H H') (n : H' q = none) : Kp p H (L2.upd H' q o) := fun c u e m => by
  rw [upd_ne (ne_of_none (a c u e m) n)]; exact a c u e m
/-- the pool: three whole numbers -/
def PoolAt (H : Hp) (p : Addr) : Prop := ∃ a b c : Int, H p = some (.lst [.int a, .int b, .int c])
theorem Kp.tup {p q : Addr} {H H' : Hp} {xs : List V} {ys : List V} (k : Kp p H H') (hp : H p = some (.lst ys)) (h : H q = some (.tup xs)) : H' q = some (.tup xs) :=
  k q _ h (ne_of h hp (by intro z; cases z))
/-! ## numbers -/
/-! ## texts -/
def Low (z : Str) : Prop := ∀ c ∈ z.cps.toList, 97 ≤ c ∧ c ≤ 122
def IsName (z : Str) : Prop := 1 ≤ z.length ∧ z.length ≤ 8 ∧ Low z
abbrev alpha : Str := "abcdefghijklmnopqrstuvwxyz"
theorem alpha_all : ∀ n : Fin 26, atI alpha.cps.toList ((n.val : Nat) : Int) = some (97 + n.val) := by decide +kernel
theorem alpha_at {i : Int} (h0 : 0 ≤ i) (h1 : i < 26) : ∃ c, atI alpha.cps.toList i = some c ∧ 97 ≤ c ∧ c ≤ 122 := by
  have e : i = ((i.toNat : Nat) : Int) := by omega
  have q := alpha_all ⟨i.toNat, by omega⟩
  rw [e]
  exact ⟨_, q, by simp, by simp; omega⟩
theorem low_nil : Low ("" : Str) := fun c h => by cases h
theorem low_app {x y : Str} (a : Low x) (b : Low y) : Low (x ++ y) := fun c h => by
  have h' : c ∈ (x.cps ++ y.cps).toList := h
  rw [Array.toList_append] at h'
  rcases List.mem_append.mp h' with q | q
  · exact a c q
  · exact b c q
theorem low_one {c : Nat} (h : 97 ≤ c ∧ c ≤ 122) : Low ⟨#[c]⟩ := fun d q => by
  have e : d = c := by simpa using q
  rw [e]; exact h
theorem low_cut {x : Str} (a : Low x) (lo hi : Option Int) : Low (cutS x lo hi) := fun c h => by
  have h' : c ∈ ((x.cps.toList.drop (HT.sIx x.length 0 lo)).take (HT.sIx x.length x.length hi - HT.sIx x.length 0 lo)) := by simpa [cutS] using h
  exact a c (List.mem_of_mem_drop (List.mem_of_mem_take h'))
theorem len_app (x y : Str) : (x ++ y).length = x.length + y.length := by
  show (x.cps ++ y.cps).size = _
  rw [Array.size_append]; rfl
theorem len_one (c : Nat) : (⟨#[c]⟩ : Str).length = 1 := rfl
theorem len_cut_lo (x : Str) (k : Nat) (h : k ≤ x.length) : (cutS x none (some (k : Int))).length = k := by
  have e : x.cps.toList.length = x.length := by simp [Str.length]
  show (((x.cps.toList.drop (HT.sIx x.length 0 none)).take (HT.sIx x.length x.length (some (k : Int)) - HT.sIx x.length 0 none)).toArray).size = k
  rw [HT.sIx_nat, HT.sIx_none, List.size_toArray, List.length_take, List.length_drop, e]
  omega
theorem len_cut_hi (x : Str) (k : Nat) (h : k ≤ x.length) : (cutS x (some (k : Int)) none).length = x.length - k := by
  have e : x.cps.toList.length = x.length := by simp [Str.length]
  show (((x.cps.toList.drop (HT.sIx x.length 0 (some (k : Int)))).take (HT.sIx x.length x.length none - HT.sIx x.length 0 (some (k : Int)))).toArray).size = _
  rw [HT.sIx_nat, HT.sIx_none, List.size_toArray, List.length_take, List.length_drop, e]
  omega
theorem isName_mk {b : Str} {c : Nat} {k : Int} (hb : Low b) (hl : b.length ≤ 7) (hc : 97 ≤ c ∧ c ≤ 122) (h0 : 0 ≤ k) (h1 : k ≤ b.length) :
    IsName (cutS b none (some k) ++ ⟨#[c]⟩ ++ cutS b (some k) none) := by
  obtain ⟨n, rfl⟩ : ∃ n : Nat, k = (n : Int) := ⟨k.toNat, by omega⟩
  have hn : n ≤ b.length := by omega
  refine ⟨?_, ?_, low_app (low_app (low_cut hb _ _) (low_one hc)) (low_cut hb _ _)⟩
  · rw [len_app, len_app, len_one]; omega
  · rw [len_app, len_app, len_one, len_cut_lo b n hn, len_cut_hi b n hn]; omega
/-- the list of the three names -/
def NamesAt (H : Hp) (q : Addr) : Prop := ∃ x y z : Str, H q = some (.lst [.str x, .str y, .str z]) ∧ IsName x ∧ IsName y ∧ IsName z
/-! ## statements -/
inductive Wd | take | commit | rollback | drop | leave
  deriving DecidableEq
def Wd.s : Wd → Str
  | .take => "take" | .commit => "commit" | .rollback => "rollback" | .drop => "drop" | .leave => "leave"
def Wd.held : Wd → Int → Int
  | .take, h => h + 1 | .commit, _ => 0 | .rollback, _ => 0 | .leave, _ => 0 | .drop, h => h
/-- lock (true), unlock -/
def lockS (b : Bool) : Str := if b then "lock" else "unlock"
inductive Stm
  | one (w : Wd)
  | nam (b : Bool) (n : Str)
  | ch (y n : List Stm)
mutual
def Stm.d : Stm → PyData
  | .one w => .tuple [.str w.s]
  | .nam b n => .tuple [.str (lockS b), .str n]
  | .ch y n => .tuple [.str "choose", .tuple (dAll y), .tuple (dAll n)]
def dAll : List Stm → List PyData
  | [] => []
  | s :: r => s.d :: dAll r
end
mutual
def Stm.cnt : Stm → Nat
  | .one _ => 1
  | .nam _ _ => 1
  | .ch y n => 1 + cntAll y + cntAll n
def cntAll : List Stm → Nat
  | [] => 0
  | s :: r => s.cnt + cntAll r
end
mutual
def Stm.held : Stm → Int → Int
  | .one w, h => w.held h
  | .nam _ _, h => h
  | .ch y n, h => max (heldAll y h) (heldAll n h)
def heldAll : List Stm → Int → Int
  | [], h => h
  | s :: r, h => heldAll r (s.held h)
end
mutual
/-- s is a good statement inside of d chooses, when h numbers are held -/
def Stm.ok : Nat → Stm → Int → Prop
  | _, .one w, h => w = .take → h ≠ 3
  | _, .nam _ n, _ => IsName n
  | d, .ch y n, h => d < 2 ∧ okAll (d + 1) y h ∧ okAll (d + 1) n h
def okAll : Nat → List Stm → Int → Prop
  | _, [], _ => True
  | d, s :: r, h => s.ok d h ∧ okAll d r (s.held h)
end
mutual
/-- the value v is the statement s -/
def Stm.at : Hp → V → Stm → Prop
  | H, v, .one w => ∃ a, v = .ref a ∧ H a = some (.tup [.str w.s])
  | H, v, .nam b n => ∃ a, v = .ref a ∧ H a = some (.tup [.str (lockS b), .str n])
  | H, v, .ch y n => ∃ a b c xs ys, v = .ref a ∧ H a = some (.tup [.str "choose", .ref b, .ref c]) ∧ H b = some (.tup xs) ∧ atAll H xs y ∧ H c = some (.tup ys) ∧ atAll H ys n
def atAll : Hp → List V → List Stm → Prop
  | _, xs, [] => xs = []
  | H, xs, s :: r => ∃ v vs, xs = v :: vs ∧ s.at H v ∧ atAll H vs r
end
/-- tuples stay -/
def TK (H H' : Hp) : Prop := ∀ a xs, H a = some (.tup xs) → H' a = some (.tup xs)
theorem TK.refl (H : Hp) : TK H H := fun _ _ h => h
theorem TK.trans {H H1 H2 : Hp} (a : TK H H1) (b : TK H1 H2) : TK H H2 := fun c o h => b c o (a c o h)
theorem Kp.tk {p : Addr} {H H' : Hp} {ys : List V} (k : Kp p H H') (hp : H p = some (.lst ys)) : TK H H' := fun a xs h => k.tup hp h
mutual
theorem Stm.at_keep {H H' : Hp} (k : TK H H') : ∀ (s : Stm) (v : V), s.at H v → s.at H' v
  | .one w, v, h => by
    unfold Stm.at at h ⊢
    obtain ⟨a, e, h⟩ := h
    exact ⟨a, e, k _ _ h⟩
  | .nam b n, v, h => by
    unfold Stm.at at h ⊢
    obtain ⟨a, e, h⟩ := h
    exact ⟨a, e, k _ _ h⟩
  | .ch y n, v, h => by
    unfold Stm.at at h ⊢
    obtain ⟨a, b, c, xs, ys, e, h1, h2, h3, h4, h5⟩ := h
    exact ⟨a, b, c, xs, ys, e, k _ _ h1, k _ _ h2, atAll_keep k y xs h3, k _ _ h4, atAll_keep k n ys h5⟩
theorem atAll_keep {H H' : Hp} (k : TK H H') : ∀ (B : List Stm) (xs : List V), atAll H xs B → atAll H' xs B
  | [], xs, h => h
  | s :: r, xs, h => by
    unfold atAll at h ⊢
    obtain ⟨v, vs, e, h1, h2⟩ := h
    exact ⟨v, vs, e, Stm.at_keep k s v h1, atAll_keep k r vs h2⟩
end
theorem cnt_pos (s : Stm) : 1 ≤ s.cnt := by
  cases s <;> rw [Stm.cnt] <;> omega
theorem len_le_cnt : ∀ (B : List Stm), B.length ≤ cntAll B
  | [] => Nat.zero_le _
  | s :: r => by
    have := cnt_pos s
    have := len_le_cnt r
    rw [cntAll, List.length_cons]; omega
/-! ## what the draws stand on: the pool p, the box b (what is left, what is held), the names q -/
def BoxAt (H : Hp) (b : Addr) (k h : Int) : Prop := H b = some (.lst [.int k, .int h, .int 3])
structure Dr (H : Hp) (p b q : Addr) (k h : Int) : Prop where
  pool : PoolAt H p
  box : BoxAt H b k h
  names : NamesAt H q
  npb : p ≠ b
  npq : p ≠ q
  nbq : b ≠ q
def K2 (p b : Addr) (H H' : Hp) : Prop := ∀ a o, H a = some o → a ≠ p → a ≠ b → H' a = some o
theorem K2.refl (p b : Addr) (H : Hp) : K2 p b H H := fun _ _ e _ _ => e
theorem K2.trans {p b : Addr} {H H1 H2 : Hp} (x : K2 p b H H1) (y : K2 p b H1 H2) : K2 p b H H2 := fun c o e n m => y c o (x c o e n m) n m
theorem Kp.k2 {p b : Addr} {H H' : Hp} (k : Kp p H H') : K2 p b H H' := fun a o e n _ => k a o e n
theorem K2.upd {p b : Addr} {H : Hp} {o : HO} : K2 p b H (L2.upd H b o) := fun a u e _ n => by rw [upd_ne n]; exact e
theorem K2.new {p b q : Addr} {H H' : Hp} {o : HO} (k : K2 p b H H') (n : H' q = none) : K2 p b H (L2.upd H' q o) := fun c u e m m' => by
  rw [upd_ne (ne_of_none (k c u e m m') n)]; exact k c u e m m'
theorem Dr.tk {H H' : Hp} {p b q : Addr} {k h : Int} (D : Dr H p b q k h) (x : K2 p b H H') : TK H H' := fun a xs e => by
  obtain ⟨_, _, _, hp⟩ := D.pool
  exact x a _ e (ne_of e hp (by intro z; cases z)) (ne_of e D.box (by intro z; cases z))
theorem Dr.put {H : Hp} {p b q : Addr} {k h k' h' : Int} (D : Dr H p b q k h) : Dr (L2.upd H b (.lst [.int k', .int h', .int 3])) p b q k' h' := by
  obtain ⟨a1, a2, a3, hq, n1, n2, n3⟩ := D.names
  obtain ⟨x, y, z, hp⟩ := D.pool
  exact ⟨⟨x, y, z, by rw [upd_ne D.npb]; exact hp⟩, upd_same, ⟨a1, a2, a3, by rw [upd_ne D.nbq.symm]; exact hq, n1, n2, n3⟩, D.npb, D.npq, D.nbq⟩
theorem Dr.new {H : Hp} {p b q a : Addr} {o : HO} {k h : Int} (D : Dr H p b q k h) (n : H a = none) : Dr (L2.upd H a o) p b q k h := by
  obtain ⟨a1, a2, a3, hq, n1, n2, n3⟩ := D.names
  obtain ⟨x, y, z, hp⟩ := D.pool
  exact ⟨⟨x, y, z, by rw [upd_ne (ne_of_none hp n)]; exact hp⟩, by unfold BoxAt; rw [upd_ne (ne_of_none D.box n)]; exact D.box, ⟨a1, a2, a3, by rw [upd_ne (ne_of_none hq n)]; exact hq, n1, n2, n3⟩, D.npb, D.npq, D.nbq⟩
end Tk
set_option maxRecDepth 100000
/-! Own rules: enumerate over a tuple; .get of a written dict; o[i], x in o, len(o) by the text's own methods. -/
namespace PySem
section
variable {prog : Program} {w : World} {A : Around} {E : Value → Shared → Prop} {s : Shared}
abbrev tkE (j : Addr) : Obj := { cls := .type "enumerate", data := .fields #[.none, .bool false, .ref j, rawInt 0, .none, .none] }
theorem tk_new {v : Value} {o : Obj} {T : Heap → Prop} (B : Begins v o T) :
    Meets (Builtin.«enumerate.__new__» ⟨[.type "enumerate", v], []⟩) (fun _ R s => T s.heap ∧ R (.ok (.ret (.ref (s.heap.push o).objs.size))) { s with heap := (s.heap.push o).push (tkE s.heap.objs.size) }) :=
  .of_wp fun prog w A R s h => by
    obtain ⟨hp, g, d, tk, os⟩ := s
    obtain ⟨h1, h⟩ := h
    have hz := sub_enumerate
    have it1 : ∀ {A' : Around} {E' : Value → Shared → Prop} {Q' : Value → Shared → Prop}, Q' (.ref hp.objs.size) ⟨hp.push o, g, d, tk, os⟩ → wpAny (model prog w) A' (pyIter v) Q' E' ⟨hp, g, d, tk, os⟩ := fun z => B.iter prog w _ _ ⟨hp, g, d, tk, os⟩ _ h1 z
    wp_walk using it1
    refine wpAny_stack_any fun _ => wpAny_pure ?_
    split
    · rename_i c _ _ _ _ _
      cases (c == Value.type "enumerate") <;> (wp_walk using it1; exact ⟨_, rfl, h⟩)
    · wp_walk using it1
      exact ⟨_, rfl, h⟩
theorem tk_enum {v : Value} {o : Obj} {T : Heap → Prop} {Q : Value → Shared → Prop} (B : Begins v o T) (h1 : T s.heap)
    (h : ∀ h', IsEnum h' (s.heap.objs.size + 1) s.heap.objs.size 0 .none → h'.get? s.heap.objs.size = some o → (∀ b u, s.heap.get? b = some u → h'.get? b = some u) → Q (.ref (s.heap.objs.size + 1)) { s with heap := h' }) :
    wpAny (model prog w) A (call (.type "enumerate") [v]) Q E s := by
  have z1 : (s.heap.push o).objs.size = s.heap.objs.size + 1 := Heap.size_push ..
  refine callType_new F.called_enumerate (by decide) (F.typeCall_enumerate_1 _) (F.newCall_enumerate_1 _) (fun obj => F.args_object_init_2 obj _) F.entry_enumerate_new (tk_new B) (And.intro h1 ?_)
  show _ ∧ _
  rw [z1]
  have q : ((s.heap.push o).push (tkE s.heap.objs.size)).get? (s.heap.push o).objs.size = some (tkE s.heap.objs.size) := Heap.get?_push_size _ rfl
  rw [z1] at q
  exact And.intro ⟨_, q, rfl⟩ (h _ q (Heap.get?_push_of_some _ (Heap.get?_push_size _ B.free)) fun b u y => Heap.get?_push_of_some _ (Heap.get?_push_of_some _ y))
end
end PySem
namespace L2
open PySem PySem.Spec PyProof.Rows
/-- the tuple at a, each item in a new pair with its number -/
def IteT (K : PySem.W.Frag) (a : Addr) : It where
  go := fun i H => ∃ (xs : List V) (x : V), SqT K H a xs ∧ xs[i]? = some x
  yld := fun i H v H' => ∃ T x, v = .ref T ∧ H T = none ∧ H' = upd H T (.tup [.int (i : Nat), x]) ∧ ∀ xs, SqT K H a xs → xs[i]? = some x
  stop := fun i H => ∃ xs : List V, SqT K H a xs ∧ xs.length = i
theorem tk_turn {P : Program} {w : World} {K : PySem.W.Frag} {elts : List Expr} {kk : Nat} {tp : Pos} (a e j : Addr) (n1 : a ≠ j) (n2 : e ≠ a) (n3 : e ≠ j) :
    Turn P w K (.Tuple elts kk tp) (IteT K a) [e, j] e (fun i h => (∃ old, IsEnum h e j ((i : Nat) : Int) old) ∧ h.IsTupleIter j a i) := by
  have two : ∀ b, b ∈ [e, j] → b = e ∨ b = j := fun b hb => by simpa using hb
  refine { mem := by simp, obj := ?_, keep := ?_, item := ?_, done := ?_, self := fun A i s Q E st h => wpAny_pyIter_enum st.1.choose_spec h }
  · intro i h st b hb
    obtain ⟨⟨old, he⟩, ⟨o, ho, _, hd⟩⟩ := st
    rcases two b hb with rfl | rfl
    · exact ⟨_, he, fun v q => nomatch q⟩
    · exact ⟨o, ho, fun v q => by rw [hd] at q; cases q⟩
  · intro i h h' st k
    obtain ⟨⟨old, he⟩, hi⟩ := st
    exact ⟨⟨old, k e (by simp) _ he⟩, hi.at fun o q => k j (by simp) o q⟩
  · intro X hP hw hK hc i pins s σ H E I hf st hg
    subst hP hw hK
    obtain ⟨⟨old, he⟩, hj⟩ := st
    obtain ⟨xs, x, hq, hx⟩ := hg
    obtain ⟨its, rv, p, hz⟩ := I.tuple hq
    obtain ⟨u, hu, ru⟩ := rv.get hx
    have szE : e < s.heap.objs.size := Heap.lt_size he
    have szJ : j < s.heap.objs.size := by obtain ⟨_, q, _⟩ := hj; exact Heap.lt_size q
    have hu2 : its.toArray[i]? = some u := by simpa using hu
    have hlt : i < its.toArray.size := by
      rcases Nat.lt_or_ge i its.toArray.size with z | z
      · exact z
      · rw [Array.getElem?_eq_none z] at hu2; cases hu2
    refine wpAny_pyNext_enum_itemD (Draws.tuple (show X.A.in1.handled = none from I.ok.hd hc) j a n1 its.toArray) he ⟨hj, p⟩ hlt n3 (fun z => by
      rcases List.mem_cons.mp z with z | z
      · exact n3 z
      · exact n2 (by simpa using z)) (fun y h' tk py ho st' hT hsz hk => ?_)
    have ey : y = u := Option.some.inj (py.symm.trans hu2)
    subst ey
    refine ⟨_, rfl, wpAny_letOwnedTupleGo_enum (s := { s with heap := h', toks := tk + 1 }) ho fun h'' he' sb => ?_⟩
    have gT : h''.get? s.heap.objs.size = some { cls := .type "tuple", data := .seq #[.int i tk, y] } := (sb.2 _ (Nat.ne_of_gt szE)).trans hT
    have nw : ObjOk X.prog X.w (upd H s.heap.objs.size (.tup [.int (i : Nat), x])) h'' s.heap.objs.size (.tup [.int (i : Nat), x]) :=
      ⟨by show 2 ≤ sizeLine; decide, [.int i tk, y], .cons ⟨_, rfl⟩ (.cons ru .nil), _, gT, rfl, _, rfl⟩
    have I1 : Inv X pins σ (upd H s.heap.objs.size (.tup [.int (i : Nat), x])) { s with heap := h'', toks := tk + 1 } :=
      I.turnedNew (ch := [e, j]) (fun b ob hb q => (sb.2 b fun z => hb (by simp [z])).trans (hk b ob (fun z => hb (by simp [z])) (fun z => hb (by simp [z])) q)) hf (Nat.le_refl _) nw
    refine ⟨.ref s.heap.objs.size, _, I1, rfl, ⟨_, x, rfl, I.hok.fresh (Nat.le_refl _), rfl, fun ys hy => by rw [I.tuple_inj hy hq]; exact hx⟩, ⟨⟨y, ?_⟩, st'.1.at fun o q => (sb.2 j n3.symm).trans q⟩, fun b hb => ?_⟩
    · have e1 : (i : Int) + 1 = ((i + 1 : Nat) : Int) := by omega
      rw [← e1]
      exact he'
    · have lb : b < s.heap.objs.size := by
        rcases two b hb with rfl | rfl
        · exact szE
        · exact szJ
      rw [upd_ne (Nat.ne_of_lt lb)]
      exact (hf b hb).1
  · intro X hP hw hK hc i pins s σ H E I hf st hg
    subst hP hw hK
    obtain ⟨⟨old, he⟩, hj⟩ := st
    obtain ⟨xs, hq, hx⟩ := hg
    obtain ⟨its, rv, p, hz⟩ := I.tuple hq
    obtain ⟨f0, f1, f2, f3, f4, f5⟩ := hf j (by simp)
    have hl : i = its.toArray.size := by rw [List.size_toArray, ← rv.length]; exact hx.symm
    subst hl
    exact wpAny_pyNext_enum_endD (Draws.tuple (show X.A.in1.handled = none from I.ok.hd hc) j a n1 its.toArray) he ⟨hj, p⟩ fun h' eb => ⟨rfl, I.turned (t' := s.toks) (fun b o hb q => eb b o hb q) f0 f1 f3 f4 f5⟩
/-- for i, x in enumerate(t), t a tuple -/
def iEnumT (K : PySem.W.Frag) (ta : TA) : TI := fun σ H R => ta σ H fun vs H1 => ∃ a xs, vs = [.ref a] ∧ SqT K H1 a xs ∧ R (IteT K a) H1
/-! ### the text's own methods by signs -/
section
variable {X : Cx} {CX : CXT} {k n : Nat} {C f : Addr} {fd : FuncData} {ps : List Str} {sp : Sp} {E : XK}
/-- a def called somewhere below the running body -/
theorem tk_run {A : Around} {pins : List (Addr × Obj)} {σ : St} {H : Hp} {s : Shared} {Q : VK} {us : List Value} {vs : List V} (sb : Sub X k A) (F : FnOk X.prog X.w X.K X.mg X.base CX k f fd ps sp) (hb : Binds X.K fd ps []) (hx : Passes CX X E)
    (I : Inv X pins σ H s) (r : Vals vs us) (h : sp vs H Q E) : wpAny (model X.prog X.w) A (call (.ref f) us) (EP X pins σ Q) X.xe s := by
  have e := I.env0
  have e0 : Env0 X.prog X.w X.K X.mg X.base A X.stack s H := ⟨by rw [sb.fr]; exact e.frames, e.mod, e.bs, e.bsz, e.funs, e.frf, e.hok, e.bare⟩
  have hl : us.length = ps.length := r.length.symm.trans (F.len _ _ _ _ h)
  have bd := hb s us I.kIn (by simpa using hl)
  refine wpAny_call (codeAny_mono (F.run A X.stack s H ⟨us, []⟩ us vs Q E sb.room e0 (by simpa using bd) r h) fun res s' hq => ?_)
  match res, hq with
  | .error e, hq => exact hx pins σ H s e s' I hq
  | .ok (.ret u), hq => exact I.after hq
/-- what stands in the class C as the method m -/
structure OwnM (K : PySem.W.Frag) (C : Addr) (m : Str) (f : Addr) : Prop where
  at_ : PySem.W.findIn K (.ref C) m = some (some (.ref f))
  fn : PySem.W.isFn K (.ref f) = true
theorem ownInst {pins : List (Addr × Obj)} {σ : St} {H : Hp} {s : Shared} {a dx : Addr} {fs : List (Str × V)} (I : Inv X pins σ H s) (ha : H a = some (.ins C dx fs)) : ∃ ox od, PySem.W.InstAt s.heap a ox C od := by
  obtain ⟨mA, J, _⟩ := ins_get I.hok ha
  obtain ⟨od, J, _⟩ := J.look
  exact ⟨_, _, J⟩
def rOwn2 (C : Addr) (sp : Sp) (E : XK) : R2 := fun x y H Q => ∃ a dx fs, x = .ref a ∧ H a = some (.ins C dx fs) ∧ sp [.ref a, y] H Q E
def rOwnIn (C : Addr) (sp : Sp) (E : XK) (neg : Bool) : R2 := fun y x H Q => ∃ a dx fs, x = .ref a ∧ H a = some (.ins C dx fs) ∧ sp [.ref a, y] H (fun v H' => ∃ c, v = .bl c ∧ Q (.bl (if neg then !c else c)) H') E
/-- len(o) by the class's own __len__ -/
theorem call_lenOwn (M : OwnM X.K C "__len__" f) (F : FnOk X.prog X.w X.K X.mg X.base CX k f fd ps sp) (hr : Room (k + 1) X.A) (hb : Binds X.K fd ps []) (hx : Passes CX X E) :
    CallR X (.builtin "len") (fun xs H Q => ∃ a dx fs, xs = [.ref a] ∧ H a = some (.ins C dx fs) ∧ sp [.ref a] H (fun v H' => ∃ i : Int, v = .int i ∧ 0 ≤ i ∧ i < 2 ^ 63 ∧ Q v H') E) := by
  intro pins s σ H xs us Q I r h
  obtain ⟨p, dx, fs, rfl, hp, q⟩ := h
  obtain ⟨u, rfl, rx⟩ := vals1 r
  obtain rfl : u = Value.ref p := rx
  obtain ⟨ox, od, J⟩ := ownInst I hp
  obtain ⟨m, hF⟩ := I.fr
  refine PySem.W.len_K hF I.ok.mod.kin J M.at_ M.fn (thn (tk_run ⟨hr.in1, rfl⟩ F hb hx I (.cons (show RelV (.ref p) (.ref p) from rfl) .nil) q) fun r s' hq => ?_)
  obtain ⟨z, H', I', rz, i, rfl, i0, i1, q'⟩ := hq
  obtain ⟨t, rfl⟩ := rz
  refine ⟨⟨i0, i1⟩, ⟨.int i, H', I'.tok _, ⟨_, rfl⟩, q'⟩⟩
end
/-! ### .get of a written dict -/
def KG (K : PySem.W.Frag) (w : World) (a : Addr) (x : Str) (v : V) : Prop := KDct K w a x v ∧ (a == sysModules) = false
def tKGet (K : PySem.W.Frag) (w : World) (td ty : TE) : TE := fun σ H Q => td σ H fun x H1 => ty σ H1 fun y H2 => ∃ a z v, x = .ref a ∧ y = .str z ∧ KG K w a z v ∧ Q v H2
theorem pe_kget {X : Cx} {o e : Expr} {td ty : TE} {apos cpos : Pos} (ho : PE X o td) (he : PE X e ty) (hd : ∀ σ H Q, td σ H Q → td σ H fun x H1 => (∃ a oc es n, x = V.ref a ∧ X.K.lookup a = some oc ∧ oc = ⟨.type "dict", none, .dict es n, #[]⟩) ∧ Q x H1) (m : M1 X o "get" apos e cpos) :
    PE X (.Call (.Attribute o "get" apos) [e] [] cpos) (tKGet X.K X.w td ty) := by
  refine ⟨fun pins s σ H Q I h => ?_⟩
  refine wpAny_Call_method m.base m.few m.line PySem.F.plainAttrs_dict PySem.F.slot_dict_get PySem.F.type_dict_get (thn (ho.run pins s σ H _ I (hd _ _ _ h)) fun u s1 q0 => ?_)
  obtain ⟨x, H1, I1, rx, ⟨a, oc, es, n, rfl, lk, rfl⟩, q1⟩ := q0
  obtain rfl : u = Value.ref a := rx
  have ga := I1.kIn _ _ lk
  refine ⟨⟨_, ga, rfl⟩, fun b q => by cases q; exact ⟨_, ga, rfl⟩, ?_⟩
  rw [m.trees]
  refine Calls.callWith_builtin rfl (Calls.evalArgs_plain (Calls.spliced_cons (thn (he.run pins s1 σ H1 _ I1 q1) fun iv s2 q2 => Calls.spliced_nil ?_)))
  obtain ⟨y, H2, I2, ry, a', z, v, ea, rfl, ⟨⟨es', n', u0, hl, hk, e1, ru⟩, hs⟩, q2⟩ := q2
  cases ea
  obtain ⟨t, rfl⟩ := ry
  have mo := PySem.W.mapOf_K (prog := X.prog) (w := X.w) I2.kIn hl hk
  refine call_meetsIn PySem.F.slot_dict_get mo.typeIs PySem.F.entry_dict_get (PySem.F.args_dict_get_2 _ _) (meets_dict_get (strKind X.prog X.w) a (strKind_is X.prog X.w z t) hs) ⟨_, mo, ?_⟩
  rw [PySem.W.find_K hl e1]
  exact ⟨v, H2, I2.tok _, ru, q2⟩
end L2
set_option maxRecDepth 100000
/-! What is walked; loops; comprehensions. -/
namespace L2
open PySem PySem.Spec PyProof.Rows
/-- a list or a tuple is walked -/
def iSeq (K : PySem.W.Frag) (tl : TE) : TI := fun σ H R => tl σ H fun x H1 => (∃ a, x = .ref a ∧ (∃ xs, SqL K H1 a xs) ∧ R (Itl K a) H1) ∨ ∃ a, x = .ref a ∧ (∃ xs, SqT K H1 a xs) ∧ R (Itt K a) H1
theorem pi_seq {X : Cx} {tg l : Expr} {tl : TE} (hl : PE X l tl) : PI X tg l (iSeq X.K tl) := by
  refine ⟨fun pins s σ H R I h => ?_⟩
  refine thn (hl.run pins s σ H _ I h) fun v s1 ⟨x, H1, I1, r1, q1⟩ => ?_
  rcases q1 with ⟨a, e, ⟨xs, hq⟩, q⟩ | ⟨a, e, ⟨xs, hq⟩, q⟩
  · subst e
    cases r1
    obtain ⟨its, rv, p, hz⟩ := I1.list hq
    refine wpAny_pyIter_list p.isList ?_
    refine ⟨s1.heap.objs.size, [s1.heap.objs.size], _, _, H1, rfl, I1.kept (t' := s1.toks) fun b o e => Heap.get?_push_of_some _ e, turn_list a _, ⟨_, Heap.get?_push_size _ rfl, rfl, rfl⟩, fun b hb => ?_, q⟩
    have e : b = s1.heap.objs.size := by simpa using hb
    subst e
    exact I1.fpOk (Nat.le_refl _) (I1.hok.fresh (Nat.le_refl _))
  · subst e
    cases r1
    obtain ⟨its, rv, p, hz⟩ := I1.tuple hq
    refine wpAny_pyIter_tuple (show s1.heap.IsTuple a its.toArray from p) ?_
    refine ⟨s1.heap.objs.size, [s1.heap.objs.size], _, _, H1, rfl, I1.kept (t' := s1.toks) fun b o e => Heap.get?_push_of_some _ e, turn_tuple a _, ⟨_, Heap.get?_push_size _ rfl, rfl, rfl⟩, fun b hb => ?_, q⟩
    have e : b = s1.heap.objs.size := by simpa using hb
    subst e
    exact I1.fpOk (Nat.le_refl _) (I1.hok.fresh (Nat.le_refl _))
def iEnumA (K : PySem.W.Frag) (ta : TA) : TI := fun σ H R => ta σ H fun vs H1 => ∃ a xs, vs = [.ref a] ∧ ((SqL K H1 a xs ∧ R (Ite K a) H1) ∨ (SqT K H1 a xs ∧ R (IteT K a) H1))
theorem pi_enumA {X : Cx} {e : Expr} {ta : TA} {p pos tpos : Pos} {elts : List Expr} {kk : Nat} (hg : Gl X "enumerate") (hm : X.mg "enumerate" = none) (ha : PA X [e] ta) (hs : starEach [e] X.env = [(false, eval e X.env)] := by rfl) :
    PI X (.Tuple elts kk tpos) (.Call (.Name "enumerate" p) [e] [] pos) (iEnumA X.K ta) := by
  refine ⟨fun pins s σ H R I h => ?_⟩
  refine Call_ (ld_blt I hg hm boot_enumerate (PyProof.Rows.callWith_type1 (thn (ha.run pos pins s σ H _ I h) fun us s1 ⟨vs, H1, I1, r1, q1⟩ => ?_) hs rfl))
  obtain ⟨a, xs, ex, q1⟩ := q1
  subst ex
  cases r1 with
  | cons r rr =>
    cases rr
    cases r
    rcases q1 with ⟨hq, q⟩ | ⟨hq, q⟩
    · obtain ⟨its, rv, p', hz⟩ := I1.list hq
      refine call_enumerate_list p'.isList fun h' he hit hsz hk => wpAny_pyIter_enum he ?_
      have I2 : Inv X pins σ H1 { s1 with heap := h' } := I1.kept (t' := s1.toks) hk
      refine ⟨s1.heap.objs.size + 1, [s1.heap.objs.size + 1, s1.heap.objs.size], _, _, H1, rfl, I2, turn_enum a (s1.heap.objs.size + 1) s1.heap.objs.size, ⟨⟨.none, he⟩, hit, Nat.succ_ne_self _⟩, fun b hb => ?_, q⟩
      have e' : b = s1.heap.objs.size + 1 ∨ b = s1.heap.objs.size := by simpa using hb
      have hle : s1.heap.objs.size ≤ b := by
        rcases e' with z | z
        · rw [z]; exact Nat.le_add_right _ _
        · rw [z]; exact Nat.le_refl _
      exact I1.fpOk hle (I1.hok.fresh hle)
    · obtain ⟨its, rv, p', hz⟩ := I1.tuple hq
      have la : a < s1.heap.objs.size := by obtain ⟨_, z, _⟩ := p'; exact Heap.lt_size z
      refine tk_enum (begins_tuple a its.toArray) p' fun h' he hit hk => wpAny_pyIter_enum he ?_
      have I2 : Inv X pins σ H1 { s1 with heap := h' } := I1.kept (t' := s1.toks) hk
      refine ⟨s1.heap.objs.size + 1, [s1.heap.objs.size + 1, s1.heap.objs.size], _, _, H1, rfl, I2, tk_turn a (s1.heap.objs.size + 1) s1.heap.objs.size (Nat.ne_of_lt la) (Nat.ne_of_gt (Nat.lt_succ_of_lt la)) (Nat.succ_ne_self _), ⟨⟨.none, he⟩, ⟨_, hit, rfl, rfl⟩⟩, fun b hb => ?_, q⟩
      have two : b = s1.heap.objs.size + 1 ∨ b = s1.heap.objs.size := by simpa using hb
      have le : s1.heap.objs.size ≤ b := two.elim (fun z => z ▸ Nat.le_succ _) (fun z => z ▸ Nat.le_refl _)
      exact I1.fpOk le (I1.hok.fresh le)
end L2
namespace Mm
open PySem L2
abbrev Its := List D × Option (Nat × List D)
abbrev IM := Env → Sto → R Its
/-- a list in the store that is walked is as it was -/
def Stay (S : Sto) (it : Its) : Prop := ∀ k es, it.2 = some (k, es) → S[k]? = some (.lst es)
@[simp] theorem stay_none (S : Sto) (ds : List D) : Stay S (ds, none) := fun k es h => by cases h
theorem stay_some {S : Sto} {ds es : List D} {k : Nat} (h : S[k]? = some (.lst es)) : Stay S (ds, some (k, es)) := fun j fs e => by cases e; exact h
section
variable (w : Wn)
def Wk (c : Cn) (H : Hp) (n : Nat) (it : Its) (J : It) : Prop := ∀ c1 H1 S, ExtA c H n c1 H1 S.length → Rep w c1 H1 S → Stay S it → ∀ i,
  (∀ d, it.1[i]? = some d → J.go i H1 ∧ ∀ x H2, J.yld i H1 x H2 → Ext c1 H1 S.length c1 H2 S.length ∧ Rep w c1 H2 S ∧ At w c1 H2 S.length d x) ∧ (i = it.1.length → J.stop i H1)
end
def mI (w : Wn) (W : WX) (m : IM) : TI := fun σ H R => mG w W (Wk w) m σ H R
abbrev CI (Γ : Cls') (X : Cx) (W : WX) (tg iter : Expr) (m : IM) : Prop := PI X tg iter (mI ⟨X.K, Γ⟩ W m)
theorem PI.weak {X : Cx} {tg e : Expr} {t t' : TI} (h : PI X tg e t) (i : ∀ σ H Q, t' σ H Q → t σ H Q) : PI X tg e t' := ⟨fun pins s σ H Q I q => h.run pins s σ H Q I (i σ H Q q)⟩
section
variable {w : Wn} {W : WX} {σ : St} {c c' : Cn} {H H' : Hp} {n n' : Nat} {S : Sto} {env : Env}
variable {Γ : Cls'} {X : Cx} {a b e tg : Expr} {ma mb : EM} {pos : Pos} {Dn : Ends}
/-- the items of a value, and where they stand if they stand in the store -/
def itsOf (S : Sto) (d : D) : Option Its := match d with
  | .tup ds => some (ds, none)
  | .lst ds => some (ds, none)
  | .fz ns => some (ns.map .int, none)
  | .loc k => match S[k]? with
    | some (.lst ds) => some (ds, some (k, ds))
    | _ => none
  | _ => none
@[simp] theorem itsOf_tup (S : Sto) (ds : List D) : itsOf S (.tup ds) = some (ds, none) := rfl
@[simp] theorem itsOf_lst (S : Sto) (ds : List D) : itsOf S (.lst ds) = some (ds, none) := rfl
/-- what a value's items are at any later time -/
def Later (w : Wn) (c : Cn) (H : Hp) (n : Nat) (it : Its) (P : Hp → List V → Prop) : Prop := ∀ c1 H1 S1, ExtA c H n c1 H1 S1.length → Rep w c1 H1 S1 → Stay S1 it → ∃ vs, P H1 vs ∧ Ats w c1 H1 S1.length it.1 vs
theorem its_at {d : D} {v : V} {it : Its} (r : Rep w c H S) (at_ : At w c H S.length d v) (h : itsOf S d = some it) :
    Stay S it ∧ ∃ p, v = .ref p ∧ (Later w c H S.length it (fun H vs => SqL w.K H p vs) ∨ Later w c H S.length it (fun H vs => SqT w.K H p vs)) := by
  cases d with
  | tup ds =>
    cases h
    obtain ⟨p, vs, rfl, g, t⟩ := at_.tup
    exact ⟨stay_none _ _, p, rfl, .inr fun c1 H1 S1 e _ _ => ⟨vs, e.sqT g, Ats.monoA e _ _ t⟩⟩
  | lst ds =>
    cases h
    unfold At at at_
    obtain ⟨p, vs, rfl, f, g, t⟩ := at_
    exact ⟨stay_none _ _, p, rfl, .inl fun c1 H1 S1 e _ _ => ⟨vs, SqL.of (e.keepF _ _ f g), Ats.monoA e _ _ t⟩⟩
  | fz ns =>
    cases h
    unfold At at at_
    obtain ⟨p, rfl, g⟩ := at_
    exact ⟨stay_none _ _, p, rfl, .inl fun c1 H1 S1 e _ _ => ⟨_, (e.fzL g).sq, ats_ints ns⟩⟩
  | loc k =>
    unfold itsOf at h
    cases hk : S[k]? with
    | none => simp only [hk] at h; cases h
    | some o =>
      cases o with
      | lst ds =>
        simp only [hk] at h
        cases h
        unfold At at at_
        refine ⟨stay_some hk, c.ρ k, at_.2, .inl fun c1 H1 S1 e r1 st => ?_⟩
        obtain ⟨vs1, g1, t1⟩ := r1.get (st k _ rfl)
        rw [e.rho k at_.1] at g1
        exact ⟨vs1, SqL.of g1, t1⟩
      | _ => simp only [hk] at h; cases h
  | _ => cases h
theorem Later.wkL {it : Its} {p : Addr} (l : Later w c H n it (fun H vs => SqL w.K H p vs)) : Wk w c H n it (Itl w.K p) := by
  intro c1 H1 S e r st i
  obtain ⟨vs, g, t⟩ := l c1 H1 S e r st
  refine ⟨fun d hd => ?_, fun hi => ⟨vs, g, by rw [t.len, hi]; exact Nat.le_refl _⟩⟩
  obtain ⟨v, hv, a⟩ := t.get hd
  exact ⟨⟨vs, v, g, hv⟩, fun x H2 ⟨e2, q⟩ => by
    have := q vs g
    rw [hv] at this; cases this
    rw [e2]
    exact ⟨Ext.refl, r, a⟩⟩
theorem Later.wkT {it : Its} {p : Addr} (l : Later w c H n it (fun H vs => SqT w.K H p vs)) : Wk w c H n it (Itt w.K p) := by
  intro c1 H1 S e r st i
  obtain ⟨vs, g, t⟩ := l c1 H1 S e r st
  refine ⟨fun d hd => ?_, fun hi => ⟨vs, g, by rw [t.len, hi]; exact Nat.le_refl _⟩⟩
  obtain ⟨v, hv, a⟩ := t.get hd
  exact ⟨⟨vs, v, g, hv⟩, fun x H2 ⟨e2, q⟩ => by
    have := q vs g
    rw [hv] at this; cases this
    rw [e2]
    exact ⟨Ext.refl, r, a⟩⟩
/-- numbered -/
def numD (k : Nat) : List D → List D
  | [] => []
  | d :: r => .tup [.int k, d] :: numD (k + 1) r
theorem numD_len : ∀ (k : Nat) (ds : List D), (numD k ds).length = ds.length
  | k, [] => rfl
  | k, d :: r => by unfold numD; rw [List.length_cons, List.length_cons, numD_len]
theorem numD_get : ∀ (k : Nat) (ds : List D) (i : Nat), (numD k ds)[i]? = (ds[i]?).map fun d => .tup [.int ((k + i : Nat) : Int), d]
  | k, [], i => by simp [numD]
  | k, d :: r, 0 => by unfold numD; rfl
  | k, d :: r, i + 1 => by
    unfold numD
    rw [List.getElem?_cons_succ, List.getElem?_cons_succ, numD_get, Nat.add_assoc, Nat.add_comm 1 i]
theorem tup_new {p : Addr} {ds : List D} {vs : List V} (r : Rep w c H S) (hp : H p = none) (t : Ats w c H S.length ds vs) : Ext c H S.length c (upd H p (.tup vs)) S.length ∧ Rep w c (upd H p (.tup vs)) S ∧ At w c (upd H p (.tup vs)) S.length (.tup ds) (.ref p) := by
  refine ⟨Ext.grow hp, r.grow hp, ?_⟩
  unfold At
  exact ⟨p, vs, rfl, SqT.of upd_same, t.mono (Ext.grow hp)⟩
theorem Later.wkE {it : Its} {p : Addr} (l : Later w c H n it (fun H vs => SqL w.K H p vs)) : Wk w c H n (numD 0 it.1, it.2) (Ite w.K p) := by
  intro c1 H1 S e r st i
  obtain ⟨vs, g, t⟩ := l c1 H1 S e r st
  refine ⟨fun d hd => ?_, fun hi => ⟨vs, g, by rw [t.len]; rw [numD_len] at hi; rw [hi]; exact Nat.le_refl _⟩⟩
  change (numD 0 it.1)[i]? = some d at hd
  rw [numD_get] at hd
  cases hi : it.1[i]? with
  | none => rw [hi] at hd; cases hd
  | some d' =>
    rw [hi] at hd
    cases hd
    obtain ⟨v, hv, a⟩ := t.get hi
    refine ⟨⟨vs, v, g, hv⟩, ?_⟩
    rintro x H2 ⟨T, y, rfl, hT, rfl, q⟩
    have := q vs g
    rw [hv] at this; cases this
    rw [Nat.zero_add]
    exact tup_new r hT (.cons (.i _) (.one a))
theorem Later.wkET {it : Its} {p : Addr} (l : Later w c H n it (fun H vs => SqT w.K H p vs)) : Wk w c H n (numD 0 it.1, it.2) (IteT w.K p) := by
  intro c1 H1 S e r st i
  obtain ⟨vs, g, t⟩ := l c1 H1 S e r st
  refine ⟨fun d hd => ?_, fun hi => ⟨vs, g, by rw [t.len]; rw [numD_len] at hi; exact hi.symm⟩⟩
  change (numD 0 it.1)[i]? = some d at hd
  rw [numD_get] at hd
  cases hi : it.1[i]? with
  | none => rw [hi] at hd; cases hd
  | some d' =>
    rw [hi] at hd
    cases hd
    obtain ⟨v, hv, a⟩ := t.get hi
    refine ⟨⟨vs, v, g, hv⟩, ?_⟩
    rintro x H2 ⟨T, y, rfl, hT, rfl, q⟩
    have := q vs g
    rw [hv] at this; cases this
    rw [Nat.zero_add]
    exact tup_new r hT (.cons (.i _) (.one a))
/-- two lists side by side -/
def zipD : List D → List D → List D
  | x :: r, y :: s => .tup [x, y] :: zipD r s
  | _, _ => []
/-- lo, lo + 1, .. -/
def rngD (lo : Int) : Nat → List D
  | 0 => []
  | k + 1 => .int lo :: rngD (lo + 1) k
theorem rngD_len : ∀ (lo : Int) (k : Nat), (rngD lo k).length = k
  | lo, 0 => rfl
  | lo, k + 1 => by unfold rngD; rw [List.length_cons, rngD_len]
theorem rngD_get : ∀ (lo : Int) (k i : Nat) (d : D), (rngD lo k)[i]? = some d → i < k ∧ d = .int (lo + i)
  | lo, 0, i, d, h => by unfold rngD at h; simp at h
  | lo, k + 1, 0, d, h => by unfold rngD at h; cases h; exact ⟨Nat.succ_pos _, by simp⟩
  | lo, k + 1, i + 1, d, h => by
    unfold rngD at h
    rw [List.getElem?_cons_succ] at h
    obtain ⟨h1, h2⟩ := rngD_get _ _ _ _ h
    exact ⟨Nat.succ_lt_succ h1, by rw [h2]; congr 1; omega⟩
theorem wkR {lo : Int} {k : Nat} : Wk w c H n (rngD lo k, none) (Itr lo k) := by
  intro c1 H1 S e r st i
  refine ⟨fun d hd => ?_, fun hi => ?_⟩
  · obtain ⟨h1, rfl⟩ := rngD_get _ _ _ _ hd
    refine ⟨h1, ?_⟩
    rintro x H2 ⟨rfl, rfl⟩
    exact ⟨Ext.refl, r, .i _⟩
  · change i = (rngD lo k).length at hi
    rw [rngD_len] at hi
    exact Nat.le_of_eq hi.symm
/-! ## what is walked -/
def i_seq (m : EM) : IM := fun env S => (m env S).bind fun d S1 => .ofO (itsOf S1 d) S1
def i_rng1 (m : EM) : IM := fun env S => (m env S).bind fun d S1 => match d with
  | .int j => .if (-(2 ^ 62) ≤ j ∧ j < 2 ^ 62) (.ok (rngD 0 j.toNat, none) S1)
  | _ => .bad
def i_rng2 (m m2 : EM) : IM := fun env S => (m env S).bind fun d S1 => (m2 env S1).bind fun e S2 => match d, e with
  | .int i, .int j => .if (-(2 ^ 62) ≤ i ∧ i < 2 ^ 62 ∧ -(2 ^ 62) ≤ j ∧ j < 2 ^ 62) (.ok (rngD i (j - i).toNat, none) S2)
  | _, _ => .bad
def i_enum (m : EM) : IM := fun env S => (m env S).bind fun d S1 => (R.ofO (itsOf S1 d) S1).bind fun it S2 => .ok (numD 0 it.1, it.2) S2
def zipO : D → D → Option (List D × List D)
  | .lst xs, .lst ys => some (xs, ys)
  | .tup xs, .tup ys => some (xs, ys)
  | _, _ => none
def i_zip (m m2 : EM) : IM := fun env S => (m env S).bind fun d S1 => (m2 env S1).bind fun e S2 => (R.ofO (zipO d e) S2).bind fun p S3 => .ok (zipD p.1 p.2, none) S3
theorem ci_seq (he : CE Γ X W e ma) : CI Γ X W tg e (i_seq ma) := by
  refine PI.weak (pi_seq he) fun σ H R ⟨c, env, S, r, ev, h⟩ => ?_
  refine ⟨c, env, S, r, ev, (Po.bind h).imp fun v H1 ⟨c1, S1, d1, e1, r1, a1, h1⟩ => ?_⟩
  obtain ⟨it, hit, h1⟩ := Po.ofO h1
  obtain ⟨st, p, rfl, l | l⟩ := its_at r1 a1 hit
  · obtain ⟨vs, g, _⟩ := l c1 H1 S1 Ext.refl.A r1 st
    exact .inl ⟨p, rfl, ⟨vs, g⟩, h1 c1 H1 _ Ext.refl r1 l.wkL⟩
  · obtain ⟨vs, g, _⟩ := l c1 H1 S1 Ext.refl.A r1 st
    exact .inr ⟨p, rfl, ⟨vs, g⟩, h1 c1 H1 _ Ext.refl r1 l.wkT⟩
theorem ci_enum {p tpos : Pos} {elts : List Expr} {kk : Nat} (hg : Gl X "enumerate") (hm : X.mg "enumerate" = none) (he : CE Γ X W e ma) (hs : starEach [e] X.env = [(false, eval e X.env)] := by rfl) (hs2 : starEach [e] X.env = (false, eval e X.env) :: starEach [] X.env := by rfl) :
    CI Γ X W (.Tuple elts kk tpos) (.Call (.Name "enumerate" p) [e] [] pos) (i_enum ma) := by
  refine PI.weak (pi_enumA hg hm (pa_cons he pa_nil hs2) hs) fun σ H R ⟨c, env, S, r, ev, h⟩ => ?_
  refine ⟨c, env, S, r, ev, (Po.bind h).imp fun v H1 ⟨c1, S1, d1, e1, r1, a1, h1⟩ => ?_⟩
  show ∃ a xs, [v] = [V.ref a] ∧ _
  cases hit : itsOf S1 d1 with
  | none => rw [hit] at h1; exact h1.elim
  | some it =>
    rw [hit] at h1
    obtain ⟨st, p, rfl, l | l⟩ := its_at r1 a1 hit
    · obtain ⟨vs, g, _⟩ := l c1 H1 S1 Ext.refl.A r1 st
      exact ⟨p, vs, rfl, .inl ⟨g, h1 c1 H1 _ Ext.refl r1 l.wkE⟩⟩
    · obtain ⟨vs, g, _⟩ := l c1 H1 S1 Ext.refl.A r1 st
      exact ⟨p, vs, rfl, .inr ⟨g, h1 c1 H1 _ Ext.refl r1 l.wkET⟩⟩
theorem ci_rng1 {p : Pos} (hg : Gl X "range") (hm : X.mg "range" = none) (he : CE Γ X W e ma) (hs : starEach [e] X.env = [(false, eval e X.env)] := by rfl) (hs2 : starEach [e] X.env = (false, eval e X.env) :: starEach [] X.env := by rfl) : CI Γ X W tg (.Call (.Name "range" p) [e] [] pos) (i_rng1 ma) := by
  refine PI.weak (pi_range1 hg hm (pa_cons he pa_nil hs2) hs) fun σ H R ⟨c, env, S, r, ev, h⟩ => ?_
  refine ⟨c, env, S, r, ev, (Po.bind h).imp fun v H1 ⟨c1, S1, d1, e1, r1, a1, h1⟩ => ?_⟩
  show ∃ j : Int, [v] = [V.int j] ∧ _
  cases d1 with
  | int j =>
    obtain ⟨hb, h1⟩ := Po.if h1
    exact ⟨j, by rw [a1.int], hb.1, hb.2, h1 c1 H1 _ Ext.refl r1 wkR⟩
  | _ => exact h1.elim
/-! ## loops -/
open Classical in
noncomputable def loopS (g : GM) (body : SM) (st : Option (Nat × List D)) : List D → SM
  | [], env, S => .if (Stay S ([], st)) (.next env S)
  | d :: r, env, S => .if (Stay S ([], st)) (match g d env with
    | none => .bad
    | some env1 => match body env1 S with
      | .next env2 S2 => loopS g body st r env2 S2
      | .cnt env2 S2 => loopS g body st r env2 S2
      | .brk env2 S2 => .next env2 S2
      | x => x)
noncomputable def s_for (im : IM) (g : GM) (body : SM) : SM := fun env S => (im env S).toS env fun it S1 => loopS g body it.2 it.1 env S1
theorem Stay.of {it : Its} {ds : List D} (h : Stay S it) : Stay S (ds, it.2) := fun k es e => h k es e
open Classical in
theorem c_for {iter : Expr} {body : List Stmt} {im : IM} {g : GM} {m : SM} {sl : List Nat} (hp : PassesOwn (model X.prog X.w) X.A X.env X.xe) (hc : X.calm = true) (hi : CI Γ X W tg iter im) (hg : CG Γ X tg sl g) (hb : CSs Γ X W body m)
    (hs : ∀ x, foldedSetIterable iter X.env x = pure x := by intro _; rfl) : CS Γ X W (.For tg iter body [] pos) (s_for im g m) := by
  refine PS.weak (ps_for hp hc hi hg hb hs) fun Dn σ H ⟨c, env, S, r, ev, h⟩ => ?_
  refine ⟨c, env, S, r, ev, (PoS.part ev h).imp fun J H1 ⟨c1, S1, it, e1, r1, wk, ev1, h1⟩ => ?_⟩
  refine ⟨fun i m' σ' H' => ∃ c2 env2 S2, Ext c1 H1 S1.length c2 H' S2.length ∧ Rep ⟨X.K, Γ⟩ c2 H' S2 ∧ EnvR ⟨X.K, Γ⟩ c2 H' S2.length σ' env2 ∧ m' = it.1.length - i ∧ i ≤ it.1.length ∧ PoS ⟨X.K, Γ⟩ W c2 H' S2.length (loopS g m it.2 (it.1.drop i) env2 S2) Dn,
    ⟨it.1.length, c1, env, S1, Ext.refl, r1, ev1, by simp, Nat.zero_le _, h1⟩, ?_⟩
  rintro i m' σ' H' ⟨c2, env2, S2, e2, r2, ev2, rfl, hi, h2⟩
  by_cases hlt : i < it.1.length
  · right
    have hd : it.1.drop i = it.1[i] :: it.1.drop (i + 1) := List.drop_eq_getElem_cons hlt
    rw [hd] at h2
    unfold loopS at h2
    obtain ⟨st, h2⟩ := PoS.if h2
    obtain ⟨w1, _⟩ := wk c2 H' S2 e2.A r2 (Stay.of (ds := it.1) st) i
    obtain ⟨go, yl⟩ := w1 it.1[i] (List.getElem?_eq_getElem hlt)
    refine ⟨go, fun σ3 H3 => ∃ c3 env3 S3, Ext c1 H1 S1.length c3 H3 S3.length ∧ Rep ⟨X.K, Γ⟩ c3 H3 S3 ∧ EnvR ⟨X.K, Γ⟩ c3 H3 S3.length σ3 env3 ∧ PoS ⟨X.K, Γ⟩ W c3 H3 S3.length (loopS g m it.2 (it.1.drop (i + 1)) env3 S3) Dn,
      fun σ3 H3 ⟨c3, env3, S3, e3, r3, ev3, h3⟩ => ⟨it.1.length - (i + 1), by omega, c3, env3, S3, e3, r3, ev3, rfl, hlt, h3⟩, fun x H3 y => ?_⟩
    obtain ⟨ey, ry, ay⟩ := yl x H3 y
    have h3 := PoS.mono ey h2
    cases hg : g it.1[i] env2 with
    | none => rw [hg] at h3; exact h3.elim
    | some env3 =>
      rw [hg] at h3
      refine ⟨c2, env2, S2, it.1[i], env3, ry, ev2.mono ey, ay, hg, fun σ3 ev3 _ => ⟨c2, env3, S2, ry, ev3, ?_⟩⟩
      change PoS ⟨X.K, Γ⟩ W c2 H3 S2.length (match m env3 S2 with
        | .next env2 S2 => loopS g m it.2 (it.1.drop (i + 1)) env2 S2
        | .cnt env2 S2 => loopS g m it.2 (it.1.drop (i + 1)) env2 S2
        | .brk env2 S2 => .next env2 S2
        | x => x) Dn at h3
      have e23 := e2.trans ey
      cases hm : m env3 S2 with
      | next env4 S4 =>
        rw [hm] at h3
        exact fun c4 H4 σ4 e4 r4 ev4 => ⟨c4, env4, S4, e23.trans e4, r4, ev4, PoS.mono e4 h3⟩
      | cnt env4 S4 =>
        rw [hm] at h3
        exact fun c4 H4 σ4 e4 r4 ev4 => ⟨c4, env4, S4, e23.trans e4, r4, ev4, PoS.mono e4 h3⟩
      | brk env4 S4 => rw [hm] at h3; exact h3
      | ret d S4 => rw [hm] at h3; exact h3
      | ex x env4 S4 => rw [hm] at h3; exact h3
      | bad => rw [hm] at h3; exact h3.elim
  · left
    have e : i = it.1.length := by omega
    subst e
    rw [List.drop_length] at h2
    unfold loopS at h2
    obtain ⟨st, h2⟩ := PoS.if h2
    obtain ⟨_, w2⟩ := wk c2 H' S2 e2.A r2 (Stay.of (ds := it.1) st) it.1.length
    exact ⟨w2 rfl, h2 c2 H' σ' Ext.refl r2 ev2⟩
end
end Mm
set_option maxRecDepth 100000
/-! Defs of the text as functions on plain data; a call's leavings; comprehensions. -/
namespace Mm
open PySem L2
abbrev FM := List D → Sto → R D
/-- what a def promises -/
def spM (K : PySem.W.Frag) (Γ : Cls') (m : FM) : Sp := fun vs H Q E => ∃ c S ds, Rep ⟨K, Γ⟩ c H S ∧ Ats ⟨K, Γ⟩ c H S.length ds vs ∧ PoE ⟨K, Γ⟩ (fun C dd _ H => E C dd H) [] c H S.length (m ds S) Q
def endF (r : RS) : R D := match r with
  | .ret d S => .ok d S
  | .next _ S => .ok .non S
  | .ex x _ S => .ex x S
  | _ => .bad
@[simp] theorem endF_ret (d : D) (S : Sto) : endF (.ret d S) = .ok d S := rfl
@[simp] theorem endF_next (env : Env) (S : Sto) : endF (.next env S) = .ok .non S := rfl
@[simp] theorem endF_ex (x : Exn) (env : Env) (S : Sto) : endF (.ex x env S) = .ex x S := rfl
@[simp] theorem endF_bad : endF .bad = .bad := rfl
/-- a def of np parameters and nl names -/
def runDef (np nl : Nat) (b : SM) : FM := fun ds S => if ds.length = np then endF (b (ds.map some ++ List.replicate (nl - np) none) S) else .bad
section
variable {w : Wn} {W : WX} {σ : St} {c c' : Cn} {H H' : Hp} {n n' : Nat} {S : Sto} {env : Env}
variable {Γ : Cls'} {X : Cx} {a b e tg : Expr} {es : List Expr} {ma mb : EM} {am : AM} {pos : Pos} {Dn : Ends}
theorem Po.wish {α β : Type} {rel : Cn → Hp → Nat → α → β → Prop} {W' : WX} {σ' : St} {r : R α} {Q : β → Hp → Prop} (h : Po w W rel σ c H n r Q) (i : ∀ C dd H, W C dd σ H → W' C dd σ' H) : Po w W' rel σ' c H n r Q := by
  cases r with
  | ok d S => exact h
  | ex x S => exact fun c2 H2 C dd e2 r2 a => i _ _ _ (h c2 H2 C dd e2 r2 a)
  | bad => exact h.elim
theorem envR_start {N : List Str} {ds : List D} {vs : List V} (t : Ats w c H n ds vs) : EnvR w c H n (L2.start N vs) (ds.map some ++ List.replicate (N.length - ds.length) none) := by
  unfold L2.start
  refine ⟨by rw [List.length_append, List.length_append, List.length_map, List.length_map, List.length_replicate, List.length_replicate, t.len], fun i d h => ?_⟩
  by_cases hi : i < ds.length
  · rw [List.getElem?_append_left (by rw [List.length_map]; exact hi), List.getElem?_map] at h
    cases hd : ds[i]? with
    | none => rw [hd] at h; cases h
    | some d' =>
      rw [hd] at h; cases h
      obtain ⟨v, hv, a⟩ := t.get hd
      exact ⟨v, by rw [List.getElem?_append_left (by rw [List.length_map, t.len]; exact hi), List.getElem?_map, hv]; rfl, a⟩
  · rw [List.getElem?_append_right (by rw [List.length_map]; omega)] at h
    have := List.mem_of_getElem? h
    rw [List.mem_replicate] at this
    cases this.2
/-- THE RULE of a def: its body's parts, put together -/
theorem def_ok {P : Program} {wd : World} {K : PySem.W.Frag} {mg : Str → Option Value} {base : Heap} {x qual : Str} {st : Stmt} {f : Addr} {fd : FuncData} {N ps : List Str} {k : Nat} {b : SM} (F : Fun K x qual st f fd) (Sc : FnScope N ps (defScope st))
    (hb : ∀ (cdv : Value) (A : Around) (outer : List PySem.Env) (s : Shared) (H : Hp) (E : XK), Room k (A.deeper (PyProof.Rows.envOfC qual (defScope st) s.heap.objs.size f cdv)) → CSs Γ (cxOf (L2.CX P wd) P wd K mg base N qual (defScope st) f cdv A outer s H E) (fun C dd _ H => E C dd H) (defBody st) b) :
    FnOk P wd K mg base (L2.CX P wd) (k + 1) f fd ps (spM K Γ (runDef ps.length N.length b)) := by
  refine F.okX Sc (fun vs H Q E ⟨c, S, ds, r, t, h⟩ => ?_) (fun cdv A outer s H vs Q E hr ⟨c, S, ds, r, t, h⟩ => ⟨_, hb cdv A outer s H E hr, ?_⟩)
  · unfold runDef at h
    by_cases hl : ds.length = ps.length
    · rw [t.len]; exact hl
    · rw [if_neg hl] at h; exact h.elim
  · unfold runDef at h
    by_cases hl : ds.length = ps.length
    · rw [if_pos hl, ← hl] at h
      refine ⟨c, _, S, r, envR_start t, ?_⟩
      cases hx : b (ds.map some ++ List.replicate (N.length - ds.length) none) S with
      | next env' S' => rw [hx] at h; exact fun c2 H2 s2 e2 r2 a2 => h c2 H2 .non e2 r2 .o
      | ret d S' => rw [hx] at h; exact fun c2 H2 v e2 r2 a2 => h c2 H2 v e2 r2 a2
      | ex x env' S' => rw [hx] at h; exact fun c2 H2 s2 C dd e2 r2 a2 xa => h c2 H2 C dd e2 r2 xa
      | brk env' S' => rw [hx] at h; exact h.elim
      | cnt env' S' => rw [hx] at h; exact h.elim
      | bad => rw [hx] at h; exact h.elim
    · rw [if_neg hl] at h; exact h.elim
/-- a def that stands under its name -/
structure Df (P : Program) (wd : World) (K : PySem.W.Frag) (mg : Str → Option Value) (base : Heap) (Γ : Cls') (x : Str) (k : Nat) (m : FM) : Prop where
  ex : ∃ (f : Addr) (fd : FuncData) (ps : List Str), FnOk P wd K mg base (L2.CX P wd) k f fd ps (spM K Γ m) ∧ Binds K fd ps [] ∧ PySem.W.keepIn K (.ref f) = true ∧ mg x = some (.ref f)
/-- what is raised goes where it is wished -/
def Goes (X : Cx) (W : WX) : Prop := ∀ σ, PassesAt (L2.CX X.prog X.w) X σ (WE W σ)
theorem goes_of (tk : Takes X W) : Goes X W := fun σ => passAt tk σ
theorem goes_not : Goes X (fun _ _ _ _ => False) := fun σ pins H s e s' I h => by
  obtain ⟨a, B, H', cls, d, _, _, _, _, _, _, _, z⟩ := h
  exact z.elim
/-! ## behind a call the store's new places are dropped -/
mutual
def D.lo (n : Nat) : D → Bool
  | .loc k => decide (k < n)
  | .tup ds => los n ds
  | .ttp ds => los n ds
  | .xn _ ds => los n ds
  | .lst ds => los n ds
  | .dic _ ds => los n ds
  | .obj _ ds => los n ds
  | _ => true
def los (n : Nat) : List D → Bool
  | [] => true
  | d :: r => d.lo n && los n r
end
def SO.lo (n : Nat) : SO → Bool
  | .lst ds => los n ds
  | .dic _ ds => los n ds
  | .ins _ ds => los n ds
mutual
def rsv (n : Nat) (S : Sto) : Nat → D → Option D
  | 0, _ => none
  | f + 1, .loc k => if k < n then some (.loc k) else match S[k]? with
    | some (.lst ds) => (rsvs n S f ds).map .lst
    | some (.dic ks ds) => (rsvs n S f ds).map (.dic ks)
    | some (.ins c ds) => (rsvs n S f ds).map (.obj c)
    | none => none
  | f + 1, .tup ds => (rsvs n S f ds).map .tup
  | f + 1, .ttp ds => (rsvs n S f ds).map .ttp
  | f + 1, .xn k ds => (rsvs n S f ds).map (.xn k)
  | f + 1, .lst ds => (rsvs n S f ds).map .lst
  | f + 1, .dic ks ds => (rsvs n S f ds).map (.dic ks)
  | f + 1, .obj c ds => (rsvs n S f ds).map (.obj c)
  | f + 1, d => some d
def rsvs (n : Nat) (S : Sto) : Nat → List D → Option (List D)
  | _, [] => some []
  | f, d :: r => (rsv n S f d).bind fun d' => (rsvs n S f r).map fun r' => d' :: r'
end
def rsvD (n : Nat) (S : Sto) (d : D) : Option D := if d.lo n = true then some d else rsv n S 12 d
def Tr (n : Nat) (S S' : Sto) : Prop := ∀ k, k < n → S'[k]? = S[k]? ∨ ∃ o, S'[k]? = some o ∧ o.lo n = true
open Classical in
noncomputable def trunc (S : Sto) (r : R D) : R D := match r with
  | .ok d S' => .if (Tr S.length S S') (.ofO (rsvD S.length S' d) (S'.take S.length))
  | .ex x S' => .if (Tr S.length S S' ∧ los S.length x.ds = true) (.ex x (S'.take S.length))
  | .bad => .bad
/-- the places from n on are not changed any more -/
def Cn.cut (c : Cn) (n n' : Nat) : Cn := { c with F := fun a => c.F a ∨ ∃ k, n ≤ k ∧ k < n' ∧ c.ρ k = a }
mutual
theorem At.fcut {m : Nat} : ∀ (d : D) (v : V), At w c H n' d v → d.lo m = true → At w (c.cut m n') H m d v
  | .non, v, h, _ => h
  | .bl b, v, h, _ => h
  | .int i, v, h, _ => h
  | .str x, v, h, _ => h
  | .tup ds, v, h, q => by
    unfold At at h ⊢; unfold D.lo at q
    obtain ⟨a, vs, r, s, t⟩ := h
    exact ⟨a, vs, r, s, Ats.fcut ds vs t q⟩
  | .ttp ds, v, h, q => by
    unfold At at h ⊢; unfold D.lo at q
    obtain ⟨a, vs, r, s, t⟩ := h
    exact ⟨a, vs, r, s, Ats.fcut ds vs t q⟩
  | .lst ds, v, h, q => by
    unfold At at h ⊢; unfold D.lo at q
    obtain ⟨a, vs, r, f, s, t⟩ := h
    exact ⟨a, vs, r, .inl f, s, Ats.fcut ds vs t q⟩
  | .dic ks ds, v, h, q => by
    unfold At at h ⊢; unfold D.lo at q
    obtain ⟨a, vs, r, f, s, t⟩ := h
    exact ⟨a, vs, r, .inl f, s, Ats.fcut ds vs t q⟩
  | .obj k ds, v, h, q => by
    unfold At at h ⊢; unfold D.lo at q
    obtain ⟨a, vs, C, dx, r, f, g, l, s, t⟩ := h
    exact ⟨a, vs, C, dx, r, .inl f, g, l, s, Ats.fcut ds vs t q⟩
  | .fz ns, v, h, q => by
    unfold At at h ⊢
    exact h
  | .loc k, v, h, q => by
    unfold At at h ⊢; unfold D.lo at q
    exact ⟨of_decide_eq_true q, h.2⟩
  | .oth u, v, h, _ => h
  | .xn k ds, v, h, q => by
    unfold At at h ⊢; unfold D.lo at q
    obtain ⟨a, dd, C, vs, r, x, g, l, s, t⟩ := h
    exact ⟨a, dd, C, vs, r, x, g, l, s, Ats.fcut ds vs t q⟩
theorem Ats.fcut {m : Nat} : ∀ (ds : List D) (vs : List V), Ats w c H n' ds vs → los m ds = true → Ats w (c.cut m n') H m ds vs
  | [], vs, h, q => h
  | d :: ds, vs, h, q => by
    unfold Ats at h ⊢; unfold los at q
    rw [Bool.and_eq_true] at q
    obtain ⟨v, r, e, a, b⟩ := h
    exact ⟨v, r, e, At.fcut d v a q.1, Ats.fcut ds r b q.2⟩
end
mutual
theorem At.lo : ∀ (d : D) (v : V), At w c H n d v → d.lo n = true
  | .non, v, h => rfl
  | .bl b, v, h => rfl
  | .int i, v, h => rfl
  | .str x, v, h => rfl
  | .tup ds, v, h => by
    unfold At at h; unfold D.lo
    obtain ⟨a, vs, r, s, t⟩ := h
    exact Ats.los ds vs t
  | .ttp ds, v, h => by
    unfold At at h; unfold D.lo
    obtain ⟨a, vs, r, s, t⟩ := h
    exact Ats.los ds vs t
  | .lst ds, v, h => by
    unfold At at h; unfold D.lo
    obtain ⟨a, vs, r, f, s, t⟩ := h
    exact Ats.los ds vs t
  | .dic ks ds, v, h => by
    unfold At at h; unfold D.lo
    obtain ⟨a, vs, r, f, s, t⟩ := h
    exact Ats.los ds vs t
  | .obj k ds, v, h => by
    unfold At at h; unfold D.lo
    obtain ⟨a, vs, C, dx, r, f, g, l, s, t⟩ := h
    exact Ats.los ds vs t
  | .fz ns, v, h => rfl
  | .loc k, v, h => by
    unfold At at h; unfold D.lo
    exact decide_eq_true h.1
  | .oth u, v, h => rfl
  | .xn k ds, v, h => by
    unfold At at h; unfold D.lo
    obtain ⟨a, dd, C, vs, r, x, g, l, s, t⟩ := h
    exact Ats.los ds vs t
theorem Ats.los : ∀ (ds : List D) (vs : List V), Ats w c H n ds vs → los n ds = true
  | [], vs, h => rfl
  | d :: ds, vs, h => by
    unfold Ats at h; unfold los
    obtain ⟨v, r, e, a, b⟩ := h
    rw [At.lo d v a, Ats.los ds r b]; rfl
end
theorem OAt.lo {a : Addr} : ∀ {o : SO}, OAt w c H n a o → o.lo n = true
  | .lst ds, ⟨vs, g, t⟩ => Ats.los ds vs t
  | .dic ks ds, ⟨vs, g, t⟩ => Ats.los ds vs t
  | .ins k ds, ⟨vs, C, dx, g, l, s, t⟩ => Ats.los ds vs t
mutual
theorem rsv_at {m : Nat} (r : Rep w c H S) : ∀ (f : Nat) (d d' : D) (v : V), At w c H S.length d v → rsv m S f d = some d' → At w (c.cut m S.length) H m d' v
  | 0, d, d', v, h, q => by unfold rsv at q; cases q
  | f + 1, .non, d', v, h, q => by unfold rsv at q; cases q; exact h
  | f + 1, .bl b, d', v, h, q => by unfold rsv at q; cases q; exact h
  | f + 1, .int i, d', v, h, q => by unfold rsv at q; cases q; exact h
  | f + 1, .str x, d', v, h, q => by unfold rsv at q; cases q; exact h
  | f + 1, .oth u, d', v, h, q => by unfold rsv at q; cases q; exact h
  | f + 1, .xn k ds, d', v, h, q => by
    unfold rsv at q; unfold At at h
    obtain ⟨a, dd, C, vs, e, x, g, l, s, t⟩ := h
    cases hd : rsvs m S f ds with
    | none => rw [hd] at q; cases q
    | some es =>
      rw [hd] at q; cases q
      unfold At
      exact ⟨a, dd, C, vs, e, x, g, l, s, rsvs_at r f ds es vs t hd⟩
  | f + 1, .fz ns, d', v, h, q => by
    unfold rsv at q; cases q
    unfold At at h ⊢
    exact h
  | f + 1, .tup ds, d', v, h, q => by
    unfold rsv at q; unfold At at h
    obtain ⟨a, vs, e, s, t⟩ := h
    cases hd : rsvs m S f ds with
    | none => rw [hd] at q; cases q
    | some es =>
      rw [hd] at q; cases q
      unfold At
      exact ⟨a, vs, e, s, rsvs_at r f ds es vs t hd⟩
  | f + 1, .ttp ds, d', v, h, q => by
    unfold rsv at q; unfold At at h
    obtain ⟨a, vs, e, s, t⟩ := h
    cases hd : rsvs m S f ds with
    | none => rw [hd] at q; cases q
    | some es =>
      rw [hd] at q; cases q
      unfold At
      exact ⟨a, vs, e, s, rsvs_at r f ds es vs t hd⟩
  | f + 1, .lst ds, d', v, h, q => by
    unfold rsv at q; unfold At at h
    obtain ⟨a, vs, e, g, s, t⟩ := h
    cases hd : rsvs m S f ds with
    | none => rw [hd] at q; cases q
    | some es =>
      rw [hd] at q; cases q
      unfold At
      exact ⟨a, vs, e, .inl g, s, rsvs_at r f ds es vs t hd⟩
  | f + 1, .dic ks ds, d', v, h, q => by
    unfold rsv at q; unfold At at h
    obtain ⟨a, vs, e, g, s, t⟩ := h
    cases hd : rsvs m S f ds with
    | none => rw [hd] at q; cases q
    | some es =>
      rw [hd] at q; cases q
      unfold At
      exact ⟨a, vs, e, .inl g, s, rsvs_at r f ds es vs t hd⟩
  | f + 1, .obj k ds, d', v, h, q => by
    unfold rsv at q; unfold At at h
    obtain ⟨a, vs, C, dx, e, g, g2, l, s, t⟩ := h
    cases hd : rsvs m S f ds with
    | none => rw [hd] at q; cases q
    | some es =>
      rw [hd] at q; cases q
      unfold At
      exact ⟨a, vs, C, dx, e, .inl g, g2, l, s, rsvs_at r f ds es vs t hd⟩
  | f + 1, .loc k, d', v, h, q => by
    unfold rsv at q; unfold At at h
    by_cases hk : k < m
    · rw [if_pos hk] at q; cases q
      unfold At
      exact ⟨hk, h.2⟩
    · rw [if_neg hk] at q
      have fz : (c.cut m S.length).F (c.ρ k) := .inr ⟨k, Nat.le_of_not_lt hk, h.1, rfl⟩
      cases ho : S[k]? with
      | none => rw [ho] at q; cases q
      | some o =>
        rw [ho] at q
        have oa := r.get ho
        cases o with
        | lst ds =>
          obtain ⟨vs, g, t⟩ := oa
          cases hd : rsvs m S f ds with
          | none => simp only [hd] at q; cases q
          | some es =>
            simp only [hd] at q; cases q
            unfold At
            exact ⟨_, vs, h.2, fz, g, rsvs_at r f ds es vs t hd⟩
        | dic ks ds =>
          obtain ⟨vs, g, t⟩ := oa
          cases hd : rsvs m S f ds with
          | none => simp only [hd] at q; cases q
          | some es =>
            simp only [hd] at q; cases q
            unfold At
            exact ⟨_, vs, h.2, fz, g, rsvs_at r f ds es vs t hd⟩
        | ins cn ds =>
          obtain ⟨vs, C, dx, g, l, s, t⟩ := oa
          cases hd : rsvs m S f ds with
          | none => simp only [hd] at q; cases q
          | some es =>
            simp only [hd] at q; cases q
            unfold At
            exact ⟨_, vs, C, dx, h.2, fz, g, l, s, rsvs_at r f ds es vs t hd⟩
theorem rsvs_at {m : Nat} (r : Rep w c H S) : ∀ (f : Nat) (ds es : List D) (vs : List V), Ats w c H S.length ds vs → rsvs m S f ds = some es → Ats w (c.cut m S.length) H m es vs
  | f, [], es, vs, h, q => by unfold rsvs at q; cases q; exact h
  | f, d :: ds, es, vs, h, q => by
    unfold rsvs at q; unfold Ats at h
    obtain ⟨v, vr, e, a, b⟩ := h
    cases h1 : rsv m S f d with
    | none => rw [h1] at q; cases q
    | some d' =>
      rw [h1] at q
      cases h2 : rsvs m S f ds with
      | none => rw [h2] at q; cases q
      | some r' =>
        rw [h2] at q; cases q
        rw [e]
        exact .cons (rsv_at r f d d' v a h1) (rsvs_at r f ds r' vr b h2)
end
theorem cut_ok {S' : Sto} (r : Rep w c H S) (e : Ext c H S.length c' H' S'.length) (r' : Rep w c' H' S') (tr : Tr S.length S S') :
    Ext c H S.length (c'.cut S.length S'.length) H' (S'.take S.length).length ∧ Rep w (c'.cut S.length S'.length) H' (S'.take S.length) := by
  have hl : (S'.take S.length).length = S.length := by rw [List.length_take]; exact Nat.min_eq_left e.le
  rw [hl]
  refine ⟨⟨Nat.le_refl _, e.rho, fun a f => .inl (e.fro a f), e.tup, e.frz, e.xd, e.keep, e.keepG, fun k a b => absurd b (Nat.not_lt.mpr a), e.there, fun a f => ?_⟩, fun k o h => ?_, fun i j hi hj q => ?_, fun k hk f => ?_, fun a f => ?_, r'.tab⟩
  · rcases f with f | ⟨k, k1, k2, rfl⟩
    · exact e.nF a f
    · exact .inr (e.new k k1 k2)
  · rw [hl]
    have hk : k < S.length := by rw [← hl]; exact Rep.lt h
    rw [List.getElem?_take_of_lt hk] at h
    have oa := r'.get h
    have ob : o.lo S.length = true := by
      rcases tr k hk with t | ⟨o', t, b⟩
      · rw [h] at t
        exact (r.get t.symm).lo
      · rw [h] at t; cases t; exact b
    show OAt w _ H' S.length (c'.ρ k) o
    cases o with
    | lst ds => obtain ⟨vs, g, t⟩ := oa; exact ⟨vs, g, t.fcut _ _ ob⟩
    | dic ks ds => obtain ⟨vs, g, t⟩ := oa; exact ⟨vs, g, t.fcut _ _ ob⟩
    | ins k ds => obtain ⟨vs, C, dx, g, l, s, t⟩ := oa; exact ⟨vs, C, dx, g, l, s, t.fcut _ _ ob⟩
  · rw [hl] at hi hj
    exact r'.inj i j (Nat.lt_of_lt_of_le hi e.le) (Nat.lt_of_lt_of_le hj e.le) q
  · rw [hl] at hk
    rcases f with f | ⟨j, j1, j2, q⟩
    · exact r'.live k (Nat.lt_of_lt_of_le hk e.le) f
    · have := r'.inj j k j2 (Nat.lt_of_lt_of_le hk e.le) q
      omega
  · rcases f with f | ⟨j, j1, j2, rfl⟩
    · exact r'.fro a f
    · obtain ⟨u, q, _⟩ := r'.some j2
      exact ⟨u, q⟩
open Classical in
theorem trunc_ok {r : R D} {Q : VK} (rp : Rep w c H S) (h : PoE w W σ c H S.length (trunc S r) Q) : PoE w W σ c H S.length r Q := by
  cases r with
  | ok d S' =>
    obtain ⟨tr, h⟩ := Po.if h
    obtain ⟨d', hd, h⟩ := Po.ofO h
    intro c' H' v e' r' a'
    obtain ⟨e2, r2⟩ := cut_ok rp e' r' tr
    have hl : (S'.take S.length).length = S.length := by rw [List.length_take]; exact Nat.min_eq_left e'.le
    refine h _ H' v e2 r2 ?_
    rw [hl]
    unfold rsvD at hd
    by_cases hb : d.lo S.length = true
    · rw [if_pos hb] at hd; cases hd
      exact a'.fcut _ _ hb
    · rw [if_neg hb] at hd
      exact rsv_at r' 12 d d' v a' hd
  | ex x S' =>
    obtain ⟨⟨tr, hb⟩, h⟩ := Po.if h
    intro c' H' C dd e' r' xa
    obtain ⟨e2, r2⟩ := cut_ok rp e' r' tr
    have hl : (S'.take S.length).length = S.length := by rw [List.length_take]; exact Nat.min_eq_left e'.le
    refine h _ H' C dd e2 r2 ?_
    rw [hl]
    obtain ⟨p, q, vs, h1, h2, h3, h4, h5, h6⟩ := xa
    exact ⟨p, q, vs, h1, h2, h3, h4, h5, h6.fcut _ _ hb⟩
  | bad => exact h.elim
/-- what is done behind a call -/
abbrev TrF := Sto → R D → R D
def tr0 : TrF := fun _ r => r
def TrOk (tr : TrF) : Prop := ∀ (w : Wn) (W : WX) (σ : St) (c : Cn) (H : Hp) (S : Sto) (r : R D) (Q : VK), Rep w c H S → PoE w W σ c H S.length (tr S r) Q → PoE w W σ c H S.length r Q
theorem tr0_ok : TrOk tr0 := fun _ _ _ _ _ _ _ _ _ h => h
theorem trT_ok : TrOk trunc := fun _ _ _ _ _ _ _ _ rp h => trunc_ok rp h
@[simp] theorem tr0_eq (S : Sto) (r : R D) : tr0 S r = r := rfl
def e_fn (tr : TrF) (m : FM) (am : AM) : EM := fun env S => (am env S).bind fun ds S1 => tr S1 (m ds S1)
theorem c_fn {x : Str} {k : Nat} {m : FM} {p : Pos} {tr : TrF} (ht : TrOk tr) (G : Df X.prog X.w X.K X.mg X.base Γ x k m) (go : Goes X W) (hr : Room k X.A) (hg : Gl X x) (ha : CA Γ X W (e :: es) am) (hdb : (x == ("__debug__" : Str)) = false := by decide) (he : starEach (e :: es) X.env = (false, eval e X.env) :: starEach es X.env := by rfl) (hpl : (backTo pos (starEach es X.env)).any (·.1) = false := by rfl) :
    CE Γ X W (.Call (.Name x p) (e :: es) [] pos) (e_fn tr m am) := by
  obtain ⟨f, fd, ps, F, hb, hk, hm⟩ := G.ex
  refine PE.weak (pe_callS (E := fun σ => WE W σ) F hr hg hm hk hb go ha hdb he hpl) fun σ H Q ⟨c, env, S, r, ev, h⟩ => ?_
  refine ⟨c, env, S, r, ev, (Po.bind h).imp fun vs H1 ⟨c1, S1, ds, e1, r1, a1, h1⟩ => ?_⟩
  exact ⟨c1, S1, ds, r1, a1, (ht _ _ _ _ _ _ _ _ r1 h1).wish fun _ _ _ z => z⟩
end
end Mm
set_option maxRecDepth 100000
/-! Comprehensions over the plain data. -/
namespace Mm
open PySem L2
section
variable {w : Wn} {W : WX} {σ : St} {c c' : Cn} {H H' : Hp} {n n' : Nat} {S : Sto} {env : Env}
variable {Γ : Cls'} {X : Cx} {a b e tg : Expr} {es : List Expr} {ma mb : EM} {am : AM} {pos : Pos} {Dn : Ends}
def wipeE (env : Env) : List Nat → Env
  | [] => env
  | v :: vs => (wipeE env vs).set v none
theorem wipe_get (σ : St) : ∀ (vs : List Nat) (j : Nat), (wipe σ vs)[j]? = if j ∈ vs ∧ j < σ.length then some none else σ[j]?
  | [], j => by simp [wipe]
  | v :: vs, j => by
    unfold wipe
    by_cases e : j = v
    · subst e
      by_cases hl : j < σ.length
      · rw [List.getElem?_set_self (by rw [wipe_length]; exact hl), if_pos ⟨List.mem_cons_self, hl⟩]
      · rw [if_neg fun z => hl z.2, List.getElem?_eq_none (by rw [List.length_set, wipe_length]; omega), List.getElem?_eq_none (by omega)]
    · rw [List.getElem?_set_ne (Ne.symm e), wipe_get σ vs j]
      by_cases h : j ∈ vs ∧ j < σ.length
      · rw [if_pos h, if_pos ⟨List.mem_cons_of_mem _ h.1, h.2⟩]
      · rw [if_neg h, if_neg fun z => h ⟨by
          rcases List.mem_cons.mp z.1 with q | q
          · exact absurd q e
          · exact q, z.2⟩]
theorem R.bind_assoc {α β γ : Type} (r : R α) (f : α → Sto → R β) (g : β → Sto → R γ) : (r.bind f).bind g = r.bind fun a S => (f a S).bind g := by cases r <;> rfl
theorem EnvR.none {i : Nat} (h : EnvR w c H n σ env) : EnvR w c H n (σ.set i none) (env.set i none) := by
  refine ⟨by rw [List.length_set, List.length_set]; exact h.1, fun j d' q => ?_⟩
  by_cases e : j = i
  · subst e
    by_cases hl : j < env.length
    · rw [List.getElem?_set_self hl] at q; cases q
    · rw [List.getElem?_eq_none (by rw [List.length_set]; omega)] at q; cases q
  · rw [List.getElem?_set_ne (Ne.symm e)] at q ⊢
    exact h.2 j d' q
theorem EnvR.wipe (h : EnvR w c H n σ env) : ∀ vs : List Nat, EnvR w c H n (L2.wipe σ vs) (wipeE env vs)
  | [] => h
  | v :: vs => (EnvR.wipe h vs).none
theorem wipe_bt {σ σ' : St} {sl vs : List Nat} (b : Bt sl (wipe σ vs) σ') (hs : ∀ j ∈ sl, j ∈ vs) : wipe σ' vs = wipe σ vs := by
  refine List.ext_getElem? fun j => ?_
  have hl := b.1
  rw [wipe_length] at hl
  rw [wipe_get]
  by_cases h : j ∈ vs ∧ j < σ.length
  · rw [if_pos ⟨h.1, by rw [hl]; exact h.2⟩, wipe_get, if_pos h]
  · rw [if_neg fun z => h ⟨z.1, by rw [← hl]; exact z.2⟩]
    by_cases hj : j ∈ vs
    · have : ¬ j < σ.length := fun z => h ⟨hj, z⟩
      rw [List.getElem?_eq_none (by omega), List.getElem?_eq_none (by rw [wipe_length]; omega)]
    · exact b.2 j fun z => hj (hs j z)
/-- no error comes out -/
abbrev W0 : WX := fun _ _ _ _ => False
def R.nox {α : Type} (r : R α) : R α := match r with
  | .ok a S => .ok a S
  | _ => .bad
@[simp] theorem R.nox_ok {α : Type} (a : α) (S : Sto) : (R.ok a S).nox = .ok a S := rfl
theorem Po.nox {α β γ δ : Type} {rel : Cn → Hp → Nat → α → β → Prop} {rel2 : Cn → Hp → Nat → γ → δ → Prop} {r : R α} {f : α → Sto → R γ} {Q : δ → Hp → Prop} {σ' : St} {c0 : Cn} {H0 : Hp} {n0 : Nat} (e0 : Ext c0 H0 n0 c H n) (h : Po w W rel2 σ c0 H0 n0 (r.nox.bind f) Q) :
    Po w W0 rel σ' c H n r fun v H1 => ∃ c1 S1 d, Ext c H n c1 H1 S1.length ∧ Ext c0 H0 n0 c1 H1 S1.length ∧ Rep w c1 H1 S1 ∧ rel c1 H1 S1.length d v ∧ Po w W rel2 σ c0 H0 n0 (f d S1) Q := by
  cases r with
  | ok d S => exact fun c2 H2 v e2 r2 a => ⟨c2, S, d, e2, e0.trans e2, r2, a, h⟩
  | ex x S => exact h.elim
  | bad => exact h.elim
open Classical in
noncomputable def lcM (g : GM) (t : TM) (m : EM) (env : Env) (st : Option (Nat × List D)) : List D → List D → Sto → R (List D)
  | [], acc, S => .if (Stay S ([], st)) (.ok acc S)
  | d :: r, acc, S => .if (Stay S ([], st)) (match g d env with
    | none => .bad
    | some env1 => (t env1 S).nox.bind fun k S1 => if k = true then (m env1 S1).nox.bind fun y S2 => .if (acc.length < sizeLine) (lcM g t m env st r (acc ++ [y]) S2) else lcM g t m env st r acc S1)
noncomputable def e_lcG (vs : List Nat) (im : IM) (g : GM) (t : TM) (m : EM) (fin : List D → Sto → R D) : EM := fun env S => (im env S).bind fun it S1 => (lcM g t m (wipeE env vs) it.2 it.1 [] S1).bind fin
def finL (ds : List D) (S : Sto) : R D := .ok (.lst ds) S
def finN (ds : List D) (S : Sto) : R D := .ok (.loc S.length) (S ++ [.lst ds])
@[simp] theorem finL_eq (ds : List D) (S : Sto) : finL ds S = .ok (.lst ds) S := rfl
@[simp] theorem finN_eq (ds : List D) (S : Sto) : finN ds S = .ok (.loc S.length) (S ++ [.lst ds]) := rfl
noncomputable def e_lc (vs : List Nat) (im : IM) (g : GM) (t : TM) (m : EM) : EM := e_lcG vs im g t m finL
noncomputable def e_lcN (vs : List Nat) (im : IM) (g : GM) (t : TM) (m : EM) : EM := e_lcG vs im g t m finN
def t_yes : TM := fun _ S => .ok true S
@[simp] theorem t_yes_eq (env : Env) (S : Sto) : t_yes env S = .ok true S := rfl
abbrev CTs (Γ : Cls') (X : Cx) (W : WX) (es : List Expr) (m : TM) : Prop := PTs X es (mT ⟨X.K, Γ⟩ W m)
theorem PTs.weak {es : List Expr} {t t' : TT} (h : PTs X es t) (i : ∀ σ H Q, t' σ H Q → t σ H Q) : PTs X es t' := ⟨fun pins s σ H Q I q => h.run pins s σ H Q I (i σ H Q q)⟩
theorem c_tsnil : CTs Γ X W [] t_yes := PTs.weak pts_nil fun σ H Q ⟨c, env, S, r, ev, h⟩ => h c H true Ext.refl r rfl
/-- what fin makes of the new list at p -/
def FinOk (fin : List D → Sto → R D) : Prop := ∀ (w : Wn) (W : WX) (σ : St) (c : Cn) (H : Hp) (S : Sto) (ds : List D) (us : List V) (p : Addr) (Q : VK), Rep w c H S → Ats w c H S.length ds us → H p = some (.lst us) → (∀ k, k < S.length → c.ρ k ≠ p) → ¬ c.F p →
  ∀ (c0 : Cn) (H0 : Hp) (n0 : Nat), Ext c0 H0 n0 c H S.length → H0 p = none → PoE w W σ c0 H0 n0 (fin ds S) Q → Q (.ref p) H
theorem finL_ok : FinOk finL := by
  intro w W σ c H S ds us p Q r t hp hn hf c0 H0 n0 e h0 h
  have eA : ExtA c H S.length (c.fr p) H S.length := ⟨Nat.le_refl _, fun _ _ => rfl, fun _ z => .inl z, fun _ _ z => z, fun _ _ _ z => z, fun _ _ z => z, fun _ _ _ z _ => z⟩
  refine h (c.fr p) H (.ref p) ⟨e.le, e.rho, fun a f => .inl (e.fro a f), e.tup, e.frz, e.xd, e.keep, e.keepG, e.new, e.there, fun a f => ?_⟩ ⟨fun k o q => (r.obj k o q).monoA eA fun _ z => z, r.inj, fun k hk f => ?_, fun a f => ?_, r.tab⟩ ?_
  · rcases f with f | rfl
    · exact e.nF a f
    · exact .inr h0
  · rcases f with f | f
    · exact r.live k hk f
    · exact hn k hk f
  · rcases f with f | rfl
    · exact r.fro a f
    · exact ⟨_, hp⟩
  · unfold At
    exact ⟨p, us, rfl, .inr rfl, hp, Ats.monoA eA _ _ t⟩
/-- the list p aside of the store -/
structure Side (c : Cn) (H : Hp) (n : Nat) (p : Addr) : Prop where
  out : ∀ k, k < n → c.ρ k ≠ p
  nF : ¬ c.F p
theorem Side.step {p : Addr} {u : HO} (s : Side c H n p) (hp : H p = some u) (e : Ext c H n c' H' n') (ht : ∀ ps, u ≠ .tbl ps := by intro ps h; cases h) : Side c' H' n' p ∧ H' p = some u := by
  refine ⟨⟨fun k hk q => ?_, fun f => ?_⟩, e.keep p u hp ht s.out⟩
  · by_cases h : k < n
    · rw [e.rho k h] at q; exact s.out k h q
    · have := e.new k (Nat.le_of_not_lt h) hk
      rw [q, hp] at this; cases this
  · rcases e.nF p f with f | f
    · exact s.nF f
    · rw [hp] at f; cases f
open Classical in
/-- the reading of a comprehension out of its parts -/
theorem lc_read {vs : List Nat} {im : IM} {g : GM} {t : TM} {m : EM} {fin : List D → Sto → R D} {sl : List Nat} {Q : VK} (hf : FinOk fin) (hsl : ∀ j ∈ sl, j ∈ vs) (h : mE w W (e_lcG vs im g t m fin) σ H Q) :
    tLc (mI w W im) (mTg w sl g) (mT w W0 t) (mE w W0 m) vs σ H Q := by
  obtain ⟨c, env, S, r, ev, h⟩ := h
  refine ⟨c, env, S, r, ev, (Po.bind h).imp fun J H1 ⟨c1, S1, it, e1, r1, wk, h1⟩ p hp => ?_⟩
  have ev1 := (ev.mono e1).wipe vs
  have ex0 : Ext c1 H1 S1.length c1 (upd H1 p (.lst [])) S1.length := Ext.grow hp
  refine ⟨fun i m' H' => ∃ c2 S2 acc us, Ext c1 H1 S1.length c2 H' S2.length ∧ Rep w c2 H' S2 ∧ EnvR w c2 H' S2.length (wipe σ vs) (wipeE env vs) ∧ Side c2 H' S2.length p ∧ H' p = some (.lst us) ∧ Ats w c2 H' S2.length acc us ∧ m' = it.1.length - i ∧ i ≤ it.1.length ∧
      PoE w W σ c1 H1 S1.length ((lcM g t m (wipeE env vs) it.2 (it.1.drop i) acc S2).bind fin) Q,
    ⟨it.1.length, c1, S1, [], [], ex0, r1.grow hp, ev1.mono ex0, ⟨fun k hk => r1.ne hp hk, r1.nF hp⟩, upd_same, .nil, by simp, Nat.zero_le _, h1⟩, ?_⟩
  rintro i m' H' ⟨c2, S2, acc, us, e2, r2, ev2, sd, hpl, ta, rfl, hi, h2⟩
  by_cases hlt : i < it.1.length
  · right
    have hd : it.1.drop i = it.1[i] :: it.1.drop (i + 1) := List.drop_eq_getElem_cons hlt
    rw [hd] at h2
    unfold lcM at h2
    by_cases st : Stay S2 ([], it.2)
    · rw [R.if_pos st] at h2
      obtain ⟨w1, _⟩ := wk c2 H' S2 e2.A r2 (Stay.of (ds := it.1) st) i
      obtain ⟨go, yl⟩ := w1 it.1[i] (List.getElem?_eq_getElem hlt)
      refine ⟨go, fun H3 => ∃ c3 S3 acc us, Ext c1 H1 S1.length c3 H3 S3.length ∧ Rep w c3 H3 S3 ∧ EnvR w c3 H3 S3.length (wipe σ vs) (wipeE env vs) ∧ Side c3 H3 S3.length p ∧ H3 p = some (.lst us) ∧ Ats w c3 H3 S3.length acc us ∧
          PoE w W σ c1 H1 S1.length ((lcM g t m (wipeE env vs) it.2 (it.1.drop (i + 1)) acc S3).bind fin) Q,
        fun H3 ⟨c3, S3, acc, us, q1, q2, q3, q4, q5, q6, q7⟩ => ⟨it.1.length - (i + 1), by omega, c3, S3, acc, us, q1, q2, q3, q4, q5, q6, rfl, hlt, q7⟩, fun x H3 y => ?_⟩
      obtain ⟨ey, ry, ay⟩ := yl x H3 y
      cases hg : g it.1[i] (wipeE env vs) with
      | none => rw [hg] at h2; exact h2.elim
      | some env3 =>
        rw [hg] at h2
        have ev3 := ev2.mono ey
        refine ⟨c2, wipeE env vs, S2, it.1[i], env3, ry, ev3, ay, hg, fun σ3 evx bt => ⟨wipe_bt bt hsl, ?_⟩⟩
        obtain ⟨sd3, hp3⟩ := sd.step hpl ey
        have e23 := e2.trans ey
        have ta3 := ta.mono ey
        rw [R.bind_assoc] at h2
        refine ⟨c2, env3, S2, ry, evx, (Po.nox e23 h2).imp fun b H4 ⟨c4, S4, b', e4, e14, r4, eb, h4⟩ => ?_⟩
        cases (show b = b' from eb)
        obtain ⟨sd4, hp4⟩ := sd3.step hp3 e4
        cases b with
        | false => exact ⟨c4, S4, acc, us, e14, r4, ev3.mono e4, sd4, hp4, ta3.mono e4, h4⟩
        | true =>
          rw [if_pos rfl]
          rw [if_pos rfl, R.bind_assoc] at h4
          refine ⟨c4, env3, S4, r4, evx.mono e4, (Po.nox e14 h4).imp fun v H5 ⟨c5, S5, d5, e5, e15, r5, a5, h5⟩ => ?_⟩
          obtain ⟨sd5, hp5⟩ := sd4.step hp4 e5
          by_cases hl : acc.length < sizeLine
          · rw [R.if_pos hl] at h5
            have ta5 := (ta3.mono e4).mono e5
            have sA := ExtA.side (n := S5.length) (ys := us ++ [v]) hp5 sd5.nF
            refine ⟨us, hp5, by rw [ta5.len]; exact hl, c5, S5, acc ++ [d5], us ++ [v], e15.side hp hp5, r5.side hp5 sd5.nF sd5.out, ?_, ⟨sd5.out, sd5.nF⟩, upd_same, Ats.monoA sA _ _ (ta5.app (.one a5)), h5⟩
            have ev5 := (ev3.mono e4).mono e5
            exact ⟨ev5.1, fun j d q => (ev5.2 j d q).imp fun v z => ⟨z.1, At.monoA sA _ _ z.2⟩⟩
          · unfold R.if at h5
            rw [if_neg hl] at h5
            exact h5.elim
    · unfold R.if at h2
      rw [if_neg st] at h2
      exact h2.elim
  · left
    have e : i = it.1.length := by omega
    subst e
    rw [List.drop_length] at h2
    unfold lcM at h2
    by_cases st : Stay S2 ([], it.2)
    · rw [R.if_pos st] at h2
      obtain ⟨_, w2⟩ := wk c2 H' S2 e2.A r2 (Stay.of (ds := it.1) st) it.1.length
      exact ⟨w2 rfl, hf w W σ c2 H' S2 acc us p Q r2 ta hpl sd.out sd.nF c1 H1 S1.length e2 hp h2⟩
    · unfold R.if at h2
      rw [if_neg st] at h2
      exact h2.elim
theorem c_lcG {elt tg iter : Expr} {ifs : List Expr} {scope : Scope} {own : List (Str × Nat)} {im : IM} {g : GM} {t : TM} {m : EM} {fin : List D → Sto → R D} {sl : List Nat} (hf : FinOk fin) (hsl : ∀ j ∈ sl, j ∈ own.map (·.2)) (hc : X.calm = true) (hN : X.N.Nodup) (hi : CI Γ X W tg iter im) (ok : BlkOk X.N X.env.scope scope own)
    (hg : ∀ (s : Shared) (H : Hp) (C : Addr) (cl : List (Str × Addr)) (fp : List Addr), CG Γ (X.blk s H scope (compEnvC scope cl C X.env) fp) tg sl g) (ht : ∀ (s : Shared) (H : Hp) (C : Addr) (cl : List (Str × Addr)) (fp : List Addr), CTs Γ (X.blk s H scope (compEnvC scope cl C X.env) fp) W0 ifs t)
    (he : ∀ (s : Shared) (H : Hp) (C : Addr) (cl : List (Str × Addr)) (fp : List Addr), CE Γ (X.blk s H scope (compEnvC scope cl C X.env) fp) W0 elt m) (hs : ∀ x, foldedSetIterable iter X.env x = pure x := by intro _; rfl) :
    CE Γ X W (.ListComp elt [⟨tg, iter, ifs, 0⟩] scope pos) (e_lcG (own.map (·.2)) im g t m fin) :=
  PE.weak (pe_lc hc hN hi ok hg ht he hs) fun σ H Q h => lc_read hf hsl h
theorem c_setlcG {i : Nat} {y : Str} {py spos : Pos} {elt tg iter : Expr} {ifs : List Expr} {scope : Scope} {own : List (Str × Nat)} {im : IM} {g : GM} {t : TM} {m : EM} {fin : List D → Sto → R D} {sl : List Nat} (hf : FinOk fin) (hsl : ∀ j ∈ sl, j ∈ own.map (·.2)) (hc : X.calm = true) (hN : X.N.Nodup) (hy : X.N[i]? = some y) (hyl : X.env.scope.names.lookup y = some .local)
    (hsw : swapsWith (.ListComp elt [⟨tg, iter, ifs, 0⟩] scope pos) (some (.Name y py)) spos.line X.env = pure true) (hi : CI Γ X W tg iter im) (ok : BlkOk X.N X.env.scope scope own)
    (hg : ∀ (s : Shared) (H : Hp) (C : Addr) (cl : List (Str × Addr)) (fp : List Addr), CG Γ (X.blk s H scope (compEnvC scope cl C X.env) fp) tg sl g) (ht : ∀ (s : Shared) (H : Hp) (C : Addr) (cl : List (Str × Addr)) (fp : List Addr), CTs Γ (X.blk s H scope (compEnvC scope cl C X.env) fp) W0 ifs t)
    (he : ∀ (s : Shared) (H : Hp) (C : Addr) (cl : List (Str × Addr)) (fp : List Addr), CE Γ (X.blk s H scope (compEnvC scope cl C X.env) fp) W0 elt m) (hs : ∀ x, foldedSetIterable iter X.env x = pure x := by intro _; rfl) :
    CS Γ X W (.Assign [.Name y py] (.ListComp elt [⟨tg, iter, ifs, 0⟩] scope pos) spos) (s_set i (e_lcG (own.map (·.2)) im g t m fin)) := by
  refine PS.weak (ps_setLc (g := mTg ⟨X.K, Γ⟩ sl g) (tt := mT ⟨X.K, Γ⟩ W0 t) (te := mE ⟨X.K, Γ⟩ W0 m) hc hN hy hyl hsw hi ok hg ht he hs) fun Dn σ H ⟨c, env, S, r, ev, h⟩ => ?_
  refine lc_read (W := W) hf hsl ⟨c, env, S, r, ev, (PoS.part ev h).imp fun v H1 ⟨c1, S1, d1, e1, r1, a1, ev1, h1⟩ => h1 c1 H1 _ Ext.refl r1 (ev1.set a1)⟩
end
end Mm
set_option maxRecDepth 100000
/-! from TkS -/
namespace PySem
open PySem.W
section
variable {prog : Program} {w : World} {A : Around} {E : Value → Shared → Prop} {s : Shared} {K : Frag} {x C f : Addr} {ox : Obj} {od : Option Obj} {b tb : Value}
end
end PySem
namespace L2
open PySem PySem.Spec PyProof.Rows
/-- what must stand in the class C for == and != by its own __eq__ -/
structure OwnEq (K : PySem.W.Frag) (C f : Addr) : Prop where
  eq : PySem.W.findIn K (.ref C) "__eq__" = some (some (.ref f))
  fn : PySem.W.isFn K (.ref f) = true
  ne : PySem.W.findIn K (.ref C) "__ne__" = some (some (.builtin "object.__ne__"))
  ob : PySem.W.mroIn K C (.type "object") = some true
def rOwnCmp (C : Addr) (sp : Sp) (E : XK) (neg : Bool) : R2 := fun x y H Q => ∃ a b dx dy fs gs, x = .ref a ∧ y = .ref b ∧ H a = some (.ins C dx fs) ∧ H b = some (.ins C dy gs) ∧ sp [.ref a, .ref b] H (fun v H' => ∃ c, v = .bl c ∧ Q (.bl (if neg then !c else c)) H') E
section
variable {X : Cx} {CX : CXT} {k : Nat} {C f : Addr} {fd : FuncData} {ps : List Str} {sp : Sp} {E : XK}
end
end L2
/-! from k03/TkX -/
namespace L2
open PySem PySem.Spec PyProof.Rows
/-! ### a class's own methods, where an error may come out -/
section
variable {X : Cx} {CX : CXT} {k n : Nat} {C f : Addr} {fd : FuncData} {ps : List Str} {sp : Sp} {E : St → XK}
/-- o[i] by the class's own __getitem__, which may raise -/
def tIxS (C : Addr) (sp : Sp) (E : St → XK) (ta tb : TE) : TE := fun σ H Q => ta σ H fun x H1 => tb σ H1 fun y H2 => rOwn2 C sp (E σ) x y H2 Q
end
/-! ### an error class with one field -/
structure Ecl (K : PySem.W.Frag) (mg : Str → Option Value) (nm f : Str) (C fI : Addr) : Prop where
  gC : mg nm = some (.ref C)
  ox : OexC K C
  iC : PySem.W.findIn K (.ref C) "__init__" = some (some (.ref fI))
  tI : PySem.W.typeIn K (.ref fI) = some (.type "function")
  noF : PySem.W.findIn K (.ref C) f = some none
  xf : XfC K C
  cl : (PySem.W.clsIn K C).isSome = true
  ha : PySem.W.findIn K (.ref C) "__class__" = some (some (.builtin "object.__class__"))
  hn : PySem.W.specialIn K (.builtin "object.__class__") "__get__" = some (some (.builtin "getset_descriptor.__get__"))
  ht : PySem.W.takesIn K (.builtin "object.__class__") = some true
  hm : PySem.W.mroIn K C (.type "object") = some true
  te : PySem.W.exmOne K (.ref C) (.ref C) = some true
/-- what such an __init__ promises -/
def spEI (C : Addr) (f : Str) : Sp := fun vs H Q _ => ∃ (a : Addr) (v : V), vs = [.ref a, v] ∧ H a = some (exo a C none) ∧ ∀ dx, H dx = none → dx ≠ a → Q .non (upd (upd H dx (exd dx [(f, v)])) a (exo a C (some dx)))
/-- raise C(e) -/
theorem ps_raise1 {X : Cx} {W : WX} {nm f : Str} {C fI : Addr} {fd : FuncData} {ps : List Str} {e : Expr} {es : List Expr} {ta : TA} {p pos ppos : Pos} (hc : X.calm = true) (tk : Takes X W) (T : Ecl X.K X.mg nm f C fI) (F1 : FnOk X.prog X.w X.K X.mg X.base CX0 1 fI fd ps (spEI C f)) (hr : Room 2 X.A) (hb : Binds X.K fd ps [])
    (hg : Gl X nm) (ha : PA X (e :: es) ta) (hdb : (nm == ("__debug__" : Str)) = false := by decide) (he : starEach (e :: es) X.env = (false, eval e X.env) :: starEach es X.env := by rfl) (hpl : (backTo pos (starEach es X.env)).any (·.1) = false := by rfl) :
    PS X (.Raise (some (.Call (.Name nm p) (e :: es) [] pos)) none ppos) (fun _ σ H => tMkO C (spEI C f) [] ta σ H fun cls d H' => W cls d σ H') :=
  ps_raise (pos := ppos) hc tk (pmk_oex T.ox T.iC T.tI F1 hr hb .nil pass0 hg T.gC ha hdb he hpl)
theorem made1 {C : Addr} {f : Str} {v : V} {H1 : Hp} {Q : XK} (q : ∀ d, H1 d = none → Q (.ref C) (some d) (upd H1 d (.xd [(f, v)]))) : [v].length ≤ 1000 ∧ ∀ a, H1 a = none → spEI C f (.ref a :: ([v] ++ [])) (upd H1 a (exo a C none))
    (fun v H2 => v = .non ∧ ∃ (d : Addr) (fs : List (Str × V)), H2 a = some (exo a C (some d)) ∧ H2 d = some (exd d fs) ∧ H1 d = none ∧ Q (.ref C) (some d) (upd (del H2 a) d (.xd fs))) (fun _ _ _ => False) := by
  refine ⟨(by show 1 ≤ 1000; decide), fun a ha => ⟨a, v, rfl, upd_same, fun dx hd ne => ⟨rfl, dx, _, upd_same, by rw [upd_ne ne, upd_same], by rw [upd_ne ne] at hd; exact hd, ?_⟩⟩⟩
  have hd' : H1 dx = none := by rw [upd_ne ne] at hd; exact hd
  have e : upd (del (upd (upd (upd H1 a (exo a C none)) dx (exd dx [(f, v)])) a (exo a C (some dx))) a) dx (.xd [(f, v)]) = upd H1 dx (.xd [(f, v)]) := by
    funext b
    by_cases h1 : b = dx
    · rw [h1, upd_same, upd_same]
    · rw [upd_ne h1, upd_ne h1]
      by_cases h2 : b = a
      · rw [h2, del_same, ha]
      · rw [del_ne h2, upd_ne h2, upd_ne h1, upd_ne h2]
  rw [e]
  exact q dx hd'
/-- isinstance(e, c), e the caught error with its dict -/
def rIsX (K : PySem.W.Frag) (a : Addr) (cls : Value) (d : Option Addr) (D : Addr) : List V → Hp → VK → Prop := fun xs H Q => ∃ (c : V) (cv : Value) (b : Bool) (dd : Addr) (fs : List (Str × V)), cls = .ref D ∧ d = some dd ∧ H dd = some (.xd fs) ∧ xs = [.ref a, c] ∧ (∀ u, RelV c u → u = cv) ∧ PySem.W.kitOne K (.ref D) cv = some b ∧ Q (.bl b) H
theorem call_isX {X : Cx} {a D : Addr} {cls : Value} {d : Option Addr} {nm f : Str} {fI : Addr} {mg : Str → Option Value} {oe : Obj} {pn : List (Addr × Obj)} (T : Ecl X.K mg nm f D fI) (hz : Zc cls d oe) (hf : ∃ vs, oe.data = .fields vs) :
    CallR (X.suite a ((a, oe) :: pn)) (.builtin "isinstance") (rIsX X.K a cls d D) := by
  rintro pins s σ H xs us Q I r ⟨c, cv, b, dd, fs, rfl, rfl, ea, rfl, hcv, e, q⟩
  obtain ⟨u1, u2, rfl, r1, r2⟩ : ∃ u1 u2, us = [u1, u2] ∧ RelV (.ref a) u1 ∧ RelV c u2 := by
    cases r with
    | cons p1 t1 => cases t1 with
      | cons p2 t2 => cases t2; exact ⟨_, _, rfl, p1, p2⟩
  obtain rfl : u1 = Value.ref a := r1
  rw [hcv u2 r2]
  have own := (I.pin (a, oe) (List.mem_append_left _ List.mem_cons_self)).1
  obtain ⟨vs, isF⟩ := hf
  obtain ⟨mA, named, _⟩ := show ObjOk X.prog X.w H s.heap dd (.xd fs) from I.hok dd _ ea
  obtain ⟨od, at_, _⟩ := lookIn_ns named
  have J : PySem.W.InstAt s.heap a oe D (some od) := by
    refine ⟨own, hz.1, ?_, by rw [hz.2]; exact at_⟩
    unfold PySem.W.notCls
    rw [isF] <;> rfl
  have kit := PySem.W.kitx_exc (x := a) (ox := oe) (od := some od) T.cl T.xf.ga T.xf.gg T.xf.exC T.ha T.hn T.ht T.hm
  exact PySem.W.kia_one kit I.kIn J e (fun z => nomatch z) fun tk => ⟨.bl b, H, I.kept (t' := tk) fun _ _ z => z, rfl, q⟩
/-- x == x, for data and for empty dicts -/
def Slf (K : PySem.W.Frag) (H : Hp) (v : V) : Prop := (∃ d, Dp K H v d ∧ SeqAt.shaped d = true ∧ PyData.eqv d d = true) ∨ ∃ a, v = .ref a ∧ H a = some (.dK [])
def rSlf (K : PySem.W.Frag) : R2 := fun x y H Q => x = y ∧ Slf K H x ∧ Q (.bl true) H
end L2
/-! from k02/TkDe -/
namespace L2
open PySem PySem.Spec PyProof.Rows
/-- what an __init__(self, place, why) of an error class promises -/
def spEI2 (C : Addr) : Sp := fun vs H Q _ => ∃ (a : Addr) (v w : V), vs = [.ref a, v, w] ∧ H a = some (exo a C none) ∧ ∀ dx, H dx = none → dx ≠ a → Q .non (upd (upd (upd H dx (exd dx [("place", v)])) a (exo a C (some dx))) dx (exd dx [("why", w), ("place", v)]))
end L2
/-! from k02/TkMX -/
namespace L2
open PySem PySem.Spec PyProof.Rows
section
variable {X : Cx} {CX : CXT} {k : Nat} {f C : Addr} {fd : FuncData} {ps : List Str} {sp : Sp} {E : St → XK} {m : Str} {pos apos : Pos} {e o : Expr} {es : List Expr} {ta : TE} {t : TA}
/-- o.m(e, ..), where an error may come out, as the wish at these slots says -/
def tMethXS (C : Addr) (m : Str) (sp : Sp) (E : St → XK) (ta : TE) (t : TA) : TE := fun σ H Q => ta σ H fun x H1 => ∃ a dx fs, x = .ref a ∧ H1 a = some (.ins C dx fs) ∧ fs.lookup m = none ∧ t σ H1 fun vs H2 => sp (x :: vs) H2 Q (E σ)
abbrev mcall (X : Cx) (o : Expr) (m : Str) (apos pos : Pos) (es : List Expr) (pl : Sem Bool) : Sem Value := (do let ov ← eval o X.env; standAt apos.atName; let (g, one) ← holding [ov] (getMethod ov m pl); callWith pos g one (backTo pos (starEach es X.env)) (backToKw pos (keywordEach [] X.env)))
theorem pe_methXS {pl : Sem Bool} (he : PE X o ta) (c : Cls X.K C) (hm : Meth X.K C m f) (F : FnOk X.prog X.w X.K X.mg X.base CX k f fd ps sp) (hr : Room k X.A) (hb : Binds X.K fd ps []) (hx : ∀ σ, PassesAt CX X σ (E σ)) (ha : PA X (e :: es) t)
    (ht : eval (.Call (.Attribute o m apos) (e :: es) [] pos) X.env = mcall X o m apos pos (e :: es) pl := by rfl) (h1 : starEach (e :: es) X.env = (false, eval e X.env) :: starEach es X.env := by rfl) (h2 : (backTo pos (starEach es X.env)).any (·.1) = false := by rfl) :
    PE X (.Call (.Attribute o m apos) (e :: es) [] pos) (tMethXS C m sp E ta t) := by
  constructor
  intro pins s σ H Q I h
  refine PySem.W.methodCall_KW (pl := pl) (thn (he.run pins s σ H _ I h) fun u s1 q => ?_) ht
  obtain ⟨_, H1, I1, ru, a, dx, fs, rfl, ea, l, q⟩ := q
  have eu : u = Value.ref a := ru
  subst eu
  refine getmeth_ok I1 ea c hm l (PySem.W.callWith_K (first := [.ref a]) (h₀ := X.base) I.ok.mod.kin hm.kp (thn (ha.run pos pins s1 σ H1 _ I1 q) fun us s2 q2 => ?_) h1 h2)
  obtain ⟨vs, H2, I2, r, q2⟩ := q2
  exact ⟨I2.kIn, run_fnS (us := .ref a :: us) (vs := .ref a :: vs) F hr hb (hx σ) I2 (.cons rfl r) q2⟩
end
end L2
/-! from k02/TkNS -/
namespace L2
open PySem PySem.Spec PyProof.Rows
/-- a != b, two tuples of the very same items -/
def rNeS (K : PySem.W.Frag) : R2 := fun x y H Q => ∃ (a b : Addr) (xs : List V), x = .ref a ∧ y = .ref b ∧ SqT K H a xs ∧ SqT K H b xs ∧ (∀ v ∈ xs, flatB v = true ∨ ∃ c, v = .ref c) ∧ Q (.bl false) H
/-! ### C(e, ..) where an error may come out of its __init__, as the wish at these slots says -/
def tMakeS (C : Addr) (sp : Sp) (E : St → XK) (t : TA) : TE := fun σ H Q => t σ H fun vs H1 => ∀ x dx, H1 x = none → H1 dx = none → dx ≠ x → sp (.ref x :: vs) (upd (upd H1 dx (.own x)) x (.ins C dx [])) (fun v H2 => v = .non ∧ Q (.ref x) H2) (E σ)
theorem pe_makeS {X : Cx} {CX : CXT} {k : Nat} {C f : Addr} {fd : FuncData} {ps : List Str} {sp : Sp} {E : St → XK} {x : Str} {p pos : Pos} {e : Expr} {es : List Expr} {t : TA} (M : Mk X.K C f) (F : FnOk X.prog X.w X.K X.mg X.base CX k f fd ps sp) (hr : Room (k + 1) X.A) (hg : Gl X x) (hm : X.mg x = some (.ref C)) (hb : Binds X.K fd ps []) (hx : ∀ σ, PassesAt CX X σ (E σ))
    (ha : PA X (e :: es) t) (hdb : (x == ("__debug__" : Str)) = false := by decide) (he : starEach (e :: es) X.env = (false, eval e X.env) :: starEach es X.env := by rfl) (hpl : (backTo pos (starEach es X.env)).any (·.1) = false := by rfl) :
    PE X (.Call (.Name x p) (e :: es) [] pos) (tMakeS C sp E t) := by
  constructor
  intro pins s σ H Q I h
  refine wpAny_Call_Name_kw (ld_glob I hg hm ?_ hdb)
  refine PySem.W.callWith_K (h₀ := X.base) I.ok.mod.kin M.kp (thn (ha.run pos pins s σ H _ I h) fun us s1 z => ?_) he hpl
  obtain ⟨vs, H1, J, r, q⟩ := z
  refine ⟨J.kIn, ?_⟩
  have q1 := q (s1.heap.objs.size + 1) s1.heap.objs.size (J.hok.fresh (Nat.le_succ _)) (J.hok.fresh (Nat.le_refl _)) (Nat.ne_of_lt (Nat.lt_succ_self _))
  have J2 := Inv.made (C := C) J
  have rr : Vals (V.ref (s1.heap.objs.size + 1) :: vs) (Value.ref (s1.heap.objs.size + 1) :: us) := .cons rfl r
  have hl : (Value.ref (s1.heap.objs.size + 1) :: us ++ []).length = ps.length := by
    rw [List.append_nil, ← rr.length]; exact F.len _ _ _ _ q1
  have bd := hb _ (Value.ref (s1.heap.objs.size + 1) :: us) J2.kIn hl
  rw [List.append_nil] at bd
  refine wpAny_call (make_map (f := f) J.kIn M.makes M.init (beq_iff_eq.mp M.fn) (codeAny_mono (F.run _ X.stack _ _ ⟨Value.ref (s1.heap.objs.size + 1) :: us, []⟩ _ _ _ (E σ) (hr.make C us []) (J2.env0.make C us []) bd rr q1) fun res s' hq => ?_))
  match res, hq with
  | .error err, hq => exact hx σ pins _ _ err s' J2 hq
  | .ok (.ret u), hq =>
    obtain ⟨v, H', J3, rv, ev, q3⟩ := J2.after hq
    subst ev
    exact ⟨rv, ⟨V.ref (s1.heap.objs.size + 1), H', J3, rfl, q3⟩⟩
end L2
/-! from k06/TkKS -/
namespace L2
open PySem PySem.Spec PyProof.Rows
/-- C(e, .., k = v, ..), where an error may come out of its __init__, as the wish at these slots says -/
def tMakeKS (C : Addr) (n m : Nat) (sp : Sp) (gV : List V → List V → List V) (E : St → XK) (t tk : TA) : TE := fun σ H Q => t σ H fun vs H1 => tk σ H1 fun zs H2 => vs.length = n ∧ zs.length = m ∧ ∀ x dx, H2 x = none → H2 dx = none → dx ≠ x →
  sp (gV (.ref x :: vs) zs) (upd (upd H2 dx (.own x)) x (.ins C dx [])) (fun v H3 => v = .non ∧ Q (.ref x) H3) (E σ)
section
variable {X : Cx} {CX : CXT} {k n : Nat} {f C : Addr} {fd : FuncData} {ps ks : List Str} {sp : Sp} {E : St → XK} {x : Str} {p pos : Pos} {e : Expr} {es : List Expr} {kws : List Keyword} {t tk : TA} {g : List Value → List Value → List Value} {gV : List V → List V → List V}
theorem run_makeKS {pins : List (Addr × Obj)} {σ : St} {H : Hp} {s : Shared} {Q : VK} {us ws : List Value} {vs zs : List V} {E : XK} (M : Mk X.K C f) (F : FnOk X.prog X.w X.K X.mg X.base CX k f fd ps sp) (hr : Room (k + 1) X.A) (hb : KBn X.K fd ps (n + 1) ks g gV) (hx : PassesAt CX X σ E)
    (I : Inv X pins σ H s) (r : Vals vs us) (rz : Vals zs ws) (l1 : vs.length = n) (l2 : zs.length = ks.length)
    (h : ∀ x dx, H x = none → H dx = none → dx ≠ x → sp (gV (.ref x :: vs) zs) (upd (upd H dx (.own x)) x (.ins C dx [])) (fun v H2 => v = .non ∧ Q (.ref x) H2) E) :
    wpAny (model X.prog X.w) X.A (call (.ref C) us (ks.zip ws)) (EP X pins σ Q) X.xe s := by
  have hq := h (s.heap.objs.size + 1) s.heap.objs.size (I.hok.fresh (Nat.le_succ _)) (I.hok.fresh (Nat.le_refl _)) (Nat.ne_of_lt (Nat.lt_succ_self _))
  have I2 := Inv.made (C := C) I
  have r1 : Vals (V.ref (s.heap.objs.size + 1) :: vs) (Value.ref (s.heap.objs.size + 1) :: us) := .cons rfl r
  have r2 := hb.rel r1 rz
  have n1 : (Value.ref (s.heap.objs.size + 1) :: us).length = n + 1 := by
    rw [List.length_cons, ← r.length, l1]
  refine wpAny_call (make_map (f := f) I.kIn M.makes M.init (beq_iff_eq.mp M.fn) (codeAny_mono (F.run _ X.stack _ _ ⟨Value.ref (s.heap.objs.size + 1) :: us, ks.zip ws⟩ (g (Value.ref (s.heap.objs.size + 1) :: us) ws) _ _ E (hr.make C us (ks.zip ws))
    (I2.env0.make C us (ks.zip ws)) (hb.to _ (Value.ref (s.heap.objs.size + 1) :: us) ws I2.kIn n1 (rz.length.symm.trans l2)) r2 hq) fun r s' hq' => ?_))
  cases r with
  | error e => exact hx pins _ _ e s' I2 hq'
  | ok fl =>
    cases fl with
    | ret u =>
      obtain ⟨v, H', I3, rv, ev, q3⟩ := I2.after hq'
      subst ev
      exact ⟨rv, ⟨V.ref (s.heap.objs.size + 1), H', I3, rfl, q3⟩⟩
    | next => exact False.elim hq'
    | brk => exact False.elim hq'
    | cont => exact False.elim hq'
theorem pe_makeKS (M : Mk X.K C f) (F : FnOk X.prog X.w X.K X.mg X.base CX k f fd ps sp) (hr : Room (k + 1) X.A) (hg : Gl X x) (hm : X.mg x = some (.ref C)) (hb : KBn X.K fd ps (n + 1) ks g gV) (hx : ∀ σ, PassesAt CX X σ (E σ)) (ha : PA X (e :: es) t) (hkw : PK X kws tk)
    (hall : (backToKw pos (keywordEach kws X.env)).all (·.1.isSome) = true := by rfl) (hks : (backToKw pos (keywordEach kws X.env)).filterMap (·.1) = ks := by rfl) (hdb : (x == ("__debug__" : Str)) = false := by decide)
    (he : starEach (e :: es) X.env = (false, eval e X.env) :: starEach es X.env := by rfl) (hpl : ((backTo pos (starEach (e :: es) X.env)).any (·.1) || (backToKw pos (keywordEach kws X.env)).any (·.1.isNone)) = false := by rfl) :
    PE X (.Call (.Name x p) (e :: es) kws pos) (tMakeKS C n ks.length sp gV E t tk) := by
  refine ⟨fun pins s σ H Q I h => ?_⟩
  refine wpAny_Call_Name_kw (ld_glob I hg hm ?_ hdb)
  refine PySem.W.callWith_KW (h₀ := X.base) I.ok.mod.kin M.kp hall (thn (ha.run pos pins s σ H _ I h) fun us s1 ⟨vs, H1, I1, r, q⟩ => ?_) hpl he
  refine thn (hkw.run pos pins s1 σ H1 _ I1 q) fun ws s2 ⟨zs, H2, I2, rz, l1, l2, q2⟩ => ⟨I2.kIn, ?_⟩
  rw [hks]
  exact run_makeKS M F hr hb (hx σ) I2 r rz l1 l2 q2
end
end L2
/-! from k07/TkSK -/
namespace StK
open PySem PySem.Spec PyProof.Rows L2 StX
/-- what the reading of defaults leaves to do -/
def KwTail {α : Type} (D : Addr) : List (Str × Value) → Sem α → Sem α → Prop
  | [], t, r => t = r
  | q :: l, t, r => ∃ (β γ : Type) (k1 : Option Value → Sem β) (k2 : β → Sem γ) (k3 : γ → Sem α) (a : β), t = ((nsGet D q.1 >>= k1) >>= k2) >>= k3 ∧ k1 (some q.2) = pure a ∧ KwTail D l (k2 a >>= k3) r
theorem KwTail.wp {α : Type} {K : PySem.W.Frag} {M : Model} {A : Around} {s : Shared} {D : Addr} {Q : α → Shared → Prop} {E : Value → Shared → Prop} (X : K.In s.heap) : ∀ {l : List (Str × Value)} {t r : Sem α}, (∀ q ∈ l, PySem.W.nsIn K D q.1 = some (some q.2)) → KwTail D l t r → wpAny M A r Q E s → wpAny M A t Q E s
  | [], t, r, _, e, h => by
    rw [show t = r from e]; exact h
  | q :: l, t, r, hl, e, h => by
    obtain ⟨β, γ, k1, k2, k3, a, e1, e2, e3⟩ := e
    have l1 : PySem.W.Looks M s.heap (nsGet D q.1 >>= k1) a := (PySem.W.looks_nsIn X (hl q (List.mem_cons_self ..))).andThen (PySem.W.Looks.of_pure e2)
    rw [e1, bind_assoc]
    exact wpAny_bind (l1.here (KwTail.wp X (fun p hp => hl p (List.mem_cons_of_mem _ hp)) e3 h))
/-- a def that is called with the keywords ks -/
def FnRK (P : Program) (w : World) (K : PySem.W.Frag) (mg : Str → Option Value) (base : Heap) (CX : CXT) (k : Nat) (f : Addr) (ks : List Str) (sp : List V → Sp) : Prop :=
  ∀ (A : Around) (outer : List Env) (s : Shared) (H : Hp) (us ws : List Value) (vs zs : List V) (Q : VK) (E : XK), Room k A → Env0 P w K mg base A outer s H → Vals vs us → Vals zs ws → zs.length = ks.length → sp zs vs H Q E →
    codeAny (model P w) A (.call (.ref f) ⟨us, ks.zip ws⟩) (CR CX outer P w H s Q E) s
section
variable {CX : CXT} {P : Program} {w : World} {K : PySem.W.Frag} {mg : Str → Option Value} {base : Heap} {k n : Nat} {f D : Addr} {name qual : Str} {params : Arguments} {body : List Stmt} {scope : Scope} {doc pm cdv ct oc : Value} {an od : Option Addr}
  {osl : Array (Option Value)} {N ps ks : List Str} {ms : List (Str × V)} {sp : Sp} {pv : Str}
theorem fn_starK (lk : K.lookup f = some ⟨oc, od, .func (PySem.W.fnOf name qual params body scope .none (.ref D) doc pm an cdv ct), osl⟩) (hcd : PySem.W.codeIn K cdv qual = true) (S : FnScope N (ps ++ [pv]) scope) (hCX : CXUp CX)
    (hms : ∀ q ∈ ms, ∃ u, PySem.W.nsIn K D q.1 = some (some u) ∧ RelV q.2 u) (g : {α : Type} → List α → List α → List α → List α)
    (hrel : ∀ {vs mz zs : List V} {us mv ws : List Value}, Vals vs us → Vals mz mv → Vals zs ws → Vals (g vs mz zs) (g us mv ws))
    (hlen : ∀ {α : Type} (us mv ws : List α), us.length = n → mv.length = ms.length → ws.length = ks.length → (g us mv ws).length = ps.length)
    (hb : ∀ us rest mv ws : List Value, us.length = n → mv.length = ms.length → ws.length = ks.length → KwTail D ((ms.map (·.1)).zip mv) (bindArgs (PySem.W.fnOf name qual params body scope .none (.ref D) doc pm an cdv ct) ⟨us ++ rest, ks.zip ws⟩) (newTuple rest >>= fun t => pure (ps.zip (g us mv ws) ++ [(pv, t)])))
    (hbody : ∀ (A : Around) (outer : List Env) (s : Shared) (H : Hp) (vs : List V) (Q : VK) (E : XK), Room k (A.deeper (envOfC qual scope s.heap.objs.size f cdv)) → sp vs H Q E →
      ∃ t, PSs (cxOf CX P w K mg base N qual scope f cdv A outer s H E) body t ∧ t { nx := fun _ H' => Q .non H', rt := Q } (start N vs) H) :
    FnRK P w K mg base CX (k + 1) f ks (fun zs vs H Q E => ∃ ws rest, vs = ws ++ rest ∧ ws.length = n ∧ rest.length ≤ sizeLine ∧ ∀ p, H p = Option.none → sp (g ws (ms.map (·.2)) zs ++ [V.ref p]) (upd H p (.tup rest)) Q E) := by
  intro A outer s H us wz vs zs Q E hr e0 r rz hz hsp
  obtain ⟨ws, rest, ev, hl, hs, hq⟩ := hsp
  subst ev
  obtain ⟨u1, u2, eu, r1, r2⟩ := vals_split r
  subst eu
  obtain ⟨mv, ml, rm, hks⟩ := kwd_vals hms
  have KX : K.In s.heap := e0.mod.kin.keeps fun b o e => (e0.bs b o e).1
  have hn : H s.heap.objs.size = Option.none := e0.hok.fresh (Nat.le_refl _)
  have hl1 : u1.length = n := by rw [← r1.length]; exact hl
  have hl2 : u2.length ≤ sizeLine := by rw [← r2.length]; exact hs
  have hlz : wz.length = ks.length := by rw [← rz.length]; exact hz
  have rg := hrel r1 rm rz
  have lg : (g u1 mv wz).length = ps.length := hlen _ _ _ hl1 ml hlz
  have lg' : (g ws (ms.map (·.2)) zs).length = ps.length := by rw [rg.length]; exact lg
  refine run_bnd lk hcd S hr e0 (G := fun xs H2 => ∃ p, H p = Option.none ∧ xs = g ws (ms.map (·.2)) zs ++ [V.ref p] ∧ H2 = upd H p (.tup rest)) (fun A' Ex Q' h => ?_) fun s2 H2 xs ⟨p, hp, ex, eH⟩ hr' => ?_
  · refine KwTail.wp KX hks (hb u1 u2 mv wz hl1 ml hlz) ?_
    refine wpAny_bind (wpAny_newTuple (wpAny_pure ?_) hl2)
    have new : ObjOk P w (upd H s.heap.objs.size (.tup rest)) (s.heap.push ({ cls := .type "tuple", data := .seq u2.toArray } : Obj)) s.heap.objs.size (.tup rest) := ⟨hs, u2, r2, ⟨_, Heap.get?_push_size _ rfl, rfl, _, rfl⟩⟩
    have un := un_laid (fs := frs outer) (s := s) (o := ({ cls := .type "tuple", data := .seq u2.toArray } : Obj)) (u := .tup rest) hn
    have z := h _ _ (g ws (ms.map (·.2)) zs ++ [V.ref s.heap.objs.size]) (g u1 mv wz ++ [Value.ref s.heap.objs.size]) (env0_laid e0 new) un rfl (fun e s' => hCX outer s H _ _ E e s' un (fun b o q => Heap.get?_push_of_some _ q) rfl) (rg.append (.cons rfl .nil))
      (by rw [List.length_append, List.length_append, lg'] <;> rfl) ⟨_, hn, rfl, rfl⟩
    rw [List.zip_append lg.symm] at z
    exact z
  · subst ex eH
    exact hbody A outer s2 _ _ Q E hr' (hq p hp)
end
/-! ### C(e, .., k = v, ..) of such an __init__, where an error may come out -/
def tMakeRK (C : Addr) (m : Nat) (sp : List V → Sp) (E : L2.St → XK) (t tk : TA) : TE := fun σ H Q => t σ H fun vs H1 => tk σ H1 fun zs H2 => zs.length = m ∧ ∀ x dx, H2 x = none → H2 dx = none → dx ≠ x →
  sp zs (V.ref x :: vs) (upd (upd H2 dx (.own x)) x (.ins C dx [])) (fun v H3 => v = .non ∧ Q (.ref x) H3) (E σ)
section
variable {X : Cx} {CX : CXT} {k : Nat} {f C : Addr} {ks : List Str} {sp : List V → Sp} {E : L2.St → XK} {x : Str} {p pos : Pos} {e : Expr} {es : List Expr} {kws : List Keyword} {t tk : TA}
theorem run_makeRK {pins : List (Addr × Obj)} {σ : L2.St} {H : Hp} {s : Shared} {Q : VK} {us ws : List Value} {vs zs : List V} {E : XK} (M : Mk X.K C f) (F : FnRK X.prog X.w X.K X.mg X.base CX k f ks sp) (hr : Room (k + 1) X.A) (hx : PassesAt CX X σ E)
    (I : Inv X pins σ H s) (r : Vals vs us) (rz : Vals zs ws) (l2 : zs.length = ks.length)
    (h : ∀ x dx, H x = none → H dx = none → dx ≠ x → sp zs (V.ref x :: vs) (upd (upd H dx (.own x)) x (.ins C dx [])) (fun v H2 => v = .non ∧ Q (.ref x) H2) E) :
    wpAny (model X.prog X.w) X.A (call (.ref C) us (ks.zip ws)) (EP X pins σ Q) X.xe s := by
  have hq := h (s.heap.objs.size + 1) s.heap.objs.size (I.hok.fresh (Nat.le_succ _)) (I.hok.fresh (Nat.le_refl _)) (Nat.ne_of_lt (Nat.lt_succ_self _))
  have I2 := Inv.made (C := C) I
  have r1 : Vals (V.ref (s.heap.objs.size + 1) :: vs) (Value.ref (s.heap.objs.size + 1) :: us) := .cons rfl r
  refine wpAny_call (make_map (f := f) I.kIn M.makes M.init (beq_iff_eq.mp M.fn) (codeAny_mono (F _ X.stack _ _ (Value.ref (s.heap.objs.size + 1) :: us) ws _ _ _ E (hr.make C us (ks.zip ws)) (I2.env0.make C us (ks.zip ws)) r1 rz l2 hq) fun r s' hq' => ?_))
  cases r with
  | error e => exact hx pins _ _ e s' I2 hq'
  | ok fl =>
    cases fl with
    | ret u =>
      obtain ⟨v, H', I3, rv, ev, q3⟩ := I2.after hq'
      subst ev
      exact ⟨rv, ⟨V.ref (s.heap.objs.size + 1), H', I3, rfl, q3⟩⟩
    | next => exact False.elim hq'
    | brk => exact False.elim hq'
    | cont => exact False.elim hq'
theorem pe_makeRK (M : Mk X.K C f) (F : FnRK X.prog X.w X.K X.mg X.base CX k f ks sp) (hr : Room (k + 1) X.A) (hg : Gl X x) (hm : X.mg x = some (.ref C)) (hx : ∀ σ, PassesAt CX X σ (E σ)) (ha : PA X (e :: es) t) (hkw : PK X kws tk)
    (hall : (backToKw pos (keywordEach kws X.env)).all (·.1.isSome) = true := by rfl) (hks : (backToKw pos (keywordEach kws X.env)).filterMap (·.1) = ks := by rfl) (hdb : (x == ("__debug__" : Str)) = false := by decide)
    (he : starEach (e :: es) X.env = (false, eval e X.env) :: starEach es X.env := by rfl) (hpl : ((backTo pos (starEach (e :: es) X.env)).any (·.1) || (backToKw pos (keywordEach kws X.env)).any (·.1.isNone)) = false := by rfl) :
    PE X (.Call (.Name x p) (e :: es) kws pos) (tMakeRK C ks.length sp E t tk) := by
  refine ⟨fun pins s σ H Q I h => ?_⟩
  refine wpAny_Call_Name_kw (ld_glob I hg hm ?_ hdb)
  refine PySem.W.callWith_KW (h₀ := X.base) I.ok.mod.kin M.kp hall (thn (ha.run pos pins s σ H _ I h) fun us s1 ⟨vs, H1, I1, r, q⟩ => ?_) hpl he
  refine thn (hkw.run pos pins s1 σ H1 _ I1 q) fun ws s2 ⟨zs, H2, I2, rz, l2, q2⟩ => ⟨I2.kIn, ?_⟩
  rw [hks]
  exact run_makeRK M F hr (hx σ) I2 r rz l2 q2
end
end StK
/-! from k09/TkRS -/
namespace PySem.W
open PySem
section
variable {M : Model} {A : Around} {E : Value → Shared → Prop} {s : Shared}
end
end PySem.W
namespace StK
open PySem PySem.Spec PyProof.Rows L2 StX
def tMakeRS (K : PySem.W.Frag) (C : Addr) (m : Nat) (sp : List V → Sp) (E : L2.St → XK) (te : TE) (tk : TA) : TE := fun σ H Q => te σ H fun y H1 => tk σ H1 fun zs H2 => zs.length = m ∧ ∃ a xs, y = V.ref a ∧ (SqT K H2 a xs ∨ SqL K H2 a xs) ∧ ∀ x dx, H2 x = none → H2 dx = none → dx ≠ x →
  sp zs (V.ref x :: xs) (upd (upd H2 dx (.own x)) x (.ins C dx [])) (fun v H3 => v = .non ∧ Q (.ref x) H3) (E σ)
section
variable {X : Cx} {CX : CXT} {k : Nat} {f C : Addr} {ks : List Str} {sp : List V → Sp} {E : L2.St → XK} {x : Str} {p sp_ pos : Pos} {e : Expr} {kws : List Keyword} {te : TE} {tk : TA}
end
end StK
/-! from k09/TkMN -/
namespace L2
open PySem PySem.Spec PyProof.Rows
def tMethN (C : Addr) (m : Str) (nk : Nat) (sp : Sp) (gV : List V → List V → List V) (E : St → XK) (ta : TE) (tk : TA) : TE := fun σ H Q => ta σ H fun x H1 => ∃ a dx fs, x = .ref a ∧ H1 a = some (.ins C dx fs) ∧ fs.lookup m = none ∧
  tk σ H1 fun zs H2 => zs.length = nk ∧ sp (gV [.ref a] zs) H2 Q (E σ)
section
variable {X : Cx} {CX : CXT} {k n : Nat} {f C : Addr} {fd : FuncData} {ps ks : List Str} {sp : Sp} {E : St → XK} {x m : Str} {p pos apos : Pos} {o : Expr} {kws : List Keyword} {ta : TE} {tk : TA} {g : List Value → List Value → List Value} {gV : List V → List V → List V}
end
end L2
/-! from k08/TkTE -/
namespace TE8
open PySem PySem.SeqAt
open AutoSeq1 (wpAny_loadPart')
open MeetsSeq MeetsSeq2 MeetsSeq3 SeqRoads2
section
variable {prog : Program} {w : World} {A : Around} {R : Result → Shared → Prop}
end
section
variable {prog : Program} {w : World} {A : Around} {E : Value → Shared → Prop} {s : Shared}
end
end TE8
namespace L2
open PySem PySem.Spec PyProof.Rows
/-- two instances of C, which c says to be equal or not -/
def DEqB (C : Addr) (sp : Sp) (E : XK) (c : Bool) (x y : V) (H : Hp) : Prop := ∃ a b dx dy fs gs, x = .ref a ∧ y = .ref b ∧ H a = some (.ins C dx fs) ∧ H b = some (.ins C dy gs) ∧ (a = b → c = true) ∧ sp [.ref a, .ref b] H (fun v H' => v = .bl c ∧ Ext H H') E
/-- item by item, in every later heap -/
inductive PrsB (D : Bool → V → V → Hp → Prop) (H : Hp) : List Bool → List V → List V → Prop
  | nil : PrsB D H [] [] []
  | cons {c : Bool} {x y : V} {cs : List Bool} {xs ys : List V} (h : ∀ H', Ext H H' → D c x y H') (t : PrsB D H cs xs ys) : PrsB D H (c :: cs) (x :: xs) (y :: ys)
section
variable {D : Bool → V → V → Hp → Prop} {H : Hp} {cs : List Bool} {xs ys : List V}
theorem PrsB.len (p : PrsB D H cs xs ys) : xs.length = ys.length ∧ cs.length = xs.length := by
  induction p with
  | nil => exact ⟨rfl, rfl⟩
  | cons _ _ ih => exact ⟨by rw [List.length_cons, List.length_cons, ih.1], by rw [List.length_cons, List.length_cons, ih.2]⟩
theorem PrsB.at : ∀ {cs : List Bool} {xs ys : List V} {i : Nat}, PrsB D H cs xs ys → i < xs.length → ∃ c x y, cs[i]? = some c ∧ xs[i]? = some x ∧ ys[i]? = some y ∧ ∀ H', Ext H H' → D c x y H'
  | _, _, _, 0, .cons h _, _ => ⟨_, _, _, rfl, rfl, rfl, h⟩
  | _, _, _, i + 1, .cons _ t, l => PrsB.at (i := i) t (Nat.lt_of_succ_lt_succ l)
end
def rTupB (K : PySem.W.Frag) (C : Addr) (sp : Sp) (E : XK) : R2 := fun x y H Q => ∃ a b xs ys cs, x = .ref a ∧ y = .ref b ∧ SqT K H a xs ∧ SqT K H b ys ∧ PrsB (DEqB C sp E) H cs xs ys ∧ ∀ H', Ext H H' → Q (.bl (cs.all id)) H'
section
variable {X : Cx} {CX : CXT} {k : Nat} {C f : Addr} {fd : FuncData} {ps : List Str} {sp : Sp} {E : XK}
end
end L2
/-! from k07/TkLS -/
namespace LenS
open PySem PySem.Spec PyProof.Rows
/-- how many unlike ones stand in front -/
def many (xs : List Str) : Nat → Nat
  | 0 => 0
  | i + 1 => if (xs.take i).any (· == xs.getD i Str.empty) then many xs i else many xs i + 1
theorem many_le (xs : List Str) : ∀ i, many xs i ≤ i
  | 0 => Nat.le_refl _
  | i + 1 => by
    have := many_le xs i
    unfold many
    split <;> omega
theorem took {xs : List Str} {i : Nat} (h : i < xs.length) (z : Str) : ((xs.take i).any (· == z) || decide (z = xs.getD i Str.empty)) = (xs.take (i + 1)).any (· == z) := by
  have e : xs.getD i Str.empty = xs[i] := by rw [List.getD_eq_getElem?_getD, List.getElem?_eq_getElem h]; rfl
  rw [List.take_add_one, List.getElem?_eq_getElem h, List.any_append, e]
  congr 1
  show decide (z = xs[i]) = ([xs[i]].any (· == z))
  by_cases c : z = xs[i]
  · rw [decide_eq_true c, ← c]; simp
  · rw [decide_eq_false c]
    have : (xs[i] == z) = false := beq_eq_false_iff_ne.mpr fun q => c q.symm
    simp [this]
def upto (xs : List Str) (i : Nat) : Str → Bool := fun z => (xs.take i).any (· == z)
section
variable {prog : Program} {w : World} {A : Around} {I S : Addr} {fp wr : List Addr} {G : Array GenState → Array GenState → Prop} {P : Nat → Value → Prop} {St : Nat → Shared → Prop} {xs : List Str} {R : Result → Shared → Prop}
theorem fill {n : Nat} (hn : n = xs.length) (W : WalksS prog w A.in1 I fp wr G n P St) (out : S ∉ fp) (few : xs.length + 1 < scanBound) (val : ∀ i v, P i v → ∃ t, v = .str (xs.getD i Str.empty) t) (m : Nat) :
    ∀ (i : Nat) (s : Shared), xs.length - i = m → i ≤ xs.length → St i s → s.heap.SetOf (strKind prog w) S (upto xs i) (many xs i) →
      (∀ s', Moved (S :: wr) G s s' → s'.heap.SetOf (strKind prog w) S (upto xs xs.length) (many xs xs.length) → R (.ok (.ret .none)) s') → codeAny (model prog w) A (.builtin "set.update.loop" ⟨[.ref S, .ref I], []⟩) R s := by
  subst hn
  have notw : S ∉ wr := fun h => out (W.sub _ h)
  have wider : ∀ b ∈ wr, b ∈ S :: wr := fun b => List.mem_cons_of_mem _
  have carry : ∀ {s s' : Shared} {f : Str → Bool} {k : Nat}, Moved wr G s s' → s.heap.SetOf (strKind prog w) S f k → s'.heap.SetOf (strKind prog w) S f k := fun mv h => by
    obtain ⟨o, a, b, c, there, more⟩ := h
    exact ⟨o, a, b, c, mv.heap S _ notw there, more⟩
  induction m with
  | zero =>
    intro i s hm hi now have_ last
    obtain rfl : i = xs.length := by omega
    refine codeAny_builtin F.entry_set_update_loop ?_
    rw [Around.under_plainId F.plain_set_update_loop _]
    exact wpAny_bind (W.done s _ _ now fun s' mv => wpAny_pure (last s' (mv.mono wider) (carry mv have_)))
  | succ m ih =>
    intro i s hm hi now have_ last
    have lt : i < xs.length := by omega
    refine codeAny_builtin F.entry_set_update_loop ?_
    rw [Around.under_plainId F.plain_set_update_loop _]
    refine wpAny_bind (W.item i s _ _ lt now fun v s' pv now' mv => ?_)
    obtain ⟨t, rfl⟩ := val i v pv
    refine wpAny_bind (wpAny_holding ?_)
    unfold setAdd
    refine wpAny_holding (wpAny_bind ((strKind prog w).pyHash (k := xs.getD i Str.empty) (strKind_is _ _ _ _) ?_))
    refine wpAny_setAddHashed_of (knd := strKind prog w) (s := { s' with toks := s'.toks + 1 }) (strKind_is _ _ _ _) rfl (carry (s' := s') mv have_) (by have := many_le xs i; omega) fun h2 same put => ?_
    have put2 : h2.SetOf (strKind prog w) S (upto xs (i + 1)) (many xs (i + 1)) := SetOf_congr put (fun z => took lt z) rfl
    refine wpAny_pure ⟨plainId_quiet F.plain_set_update_loop _, ih (i + 1) _ (by omega) lt (W.frame _ s' _ _ now' (Nat.le_succ _) fun b hb o e => ?_) put2 fun s3 mv3 end_ => ?_⟩
    · rw [same.2 b fun z => out (z ▸ hb)]; exact e
    · refine last s3 (Moved.trans W.gtrans ((mv.mono wider).then_heap (Nat.le_succ _) fun b o nb e => ?_) mv3) end_
      rw [same.2 b fun z => nb (z ▸ List.mem_cons_self)]; exact e
variable {E : Value → Shared → Prop} {s : Shared}
set_option maxHeartbeats 3200000 in
theorem make {l : Addr} {items : Array Value} {Q : Value → Shared → Prop} (calm : A.handled = none) (at_ : s.heap.IsList l items) (are : StrsAre items.toList xs) (few : xs.length + 1 < scanBound)
    (h : ∀ (h' : Heap) (tk : Nat), h'.SetOf (strKind prog w) s.heap.objs.size (upto xs xs.length) (many xs xs.length) → (∀ b o, b < s.heap.objs.size → s.heap.get? b = some o → h'.get? b = some o) → Q (.ref s.heap.objs.size) { s with heap := h', toks := tk }) :
    wpAny (model prog w) A (call (.type "set") [.ref l]) Q E s := by
  obtain ⟨c, tl, hmro⟩ := PySem.F.called_set.mro
  obtain ⟨made, sub, notT, canC⟩ := And.intro PySem.F.called_set.made (And.intro PySem.F.called_set.sub (And.intro PySem.F.called_set.notType PySem.F.called_set.canCreate))
  have one := PySem.F.typeCall_set_1 (.ref l)
  refine wpAny_call (codeAny_of_tree (wpAny_pure (a := _) ⟨Code.quiet_builtin _ (by decide +kernel), codeAny_builtin PySem.F.entry_type_call ?_⟩))
  rw [Around.under_plain (weight_type_call_type "set" [.ref l] []) rfl]
  repeat (any_goals (first | assumption | wp_step))
  let new : Obj := { cls := .type "set", dict := none, data := .set #[] 0 (.fresh 0 0 true) }
  let Made : Value → Shared → Prop := fun v s1 => ∃ led : Bool, v = .ref s.heap.objs.size ∧ s1 = { s with heap := s.heap.push { cls := .type "set", dict := none, data := .set #[] 0 (.fresh 0 0 led) } }
  let Full : Value → Shared → Prop := fun v s2 => v = .none ∧ ∃ h' tk, s2 = { s with heap := h', toks := tk } ∧ h'.SetOf (strKind prog w) s.heap.objs.size (upto xs xs.length) (many xs xs.length) ∧ ∀ b o, b < s.heap.objs.size → s.heap.get? b = some o → h'.get? b = some o
  refine codeAny_mono (code_set_new_1 (.ref l) (E := E) (Q₁ := Made) fun led => ⟨led, rfl, rfl⟩) fun r s1 hr => ?_
  match r, hr with
  | .error _, hr => exact hr
  | .ok .next, hr => exact hr.elim
  | .ok .brk, hr => exact hr.elim
  | .ok .cont, hr => exact hr.elim
  | .ok (.ret obj), hr =>
    obtain ⟨led, rfl, rfl⟩ := hr
    have there : (s.heap.push { cls := .type "set", dict := none, data := .set #[] 0 (.fresh 0 0 led) }).get? s.heap.objs.size = some { cls := .type "set", dict := none, data := .set #[] 0 (.fresh 0 0 led) } := Heap.get?_push_size _ rfl
    have typed : Shared.TypeIs { s with heap := s.heap.push { cls := .type "set", dict := none, data := .set #[] 0 (.fresh 0 0 led) } } (.ref s.heap.objs.size) "set" := ⟨_, there, rfl⟩
    have look := PySem.F.called_set.init.lookup
    have bind_ := PySem.F.called_set.init.bind (.ref s.heap.objs.size)
    repeat (any_goals (first | assumption | wp_step))
    refine codeAny_mono (codeAny_call_builtin (R := wants Full E) PySem.F.called_set.init.plain PySem.F.entry_set_init (check_set_init_1 typed ?_)) fun r2 s2 hr2 => ?_
    · obtain ⟨⟨oc, od, odata, osl⟩, lo, lc, ln, ld⟩ := at_
      simp only at lc ld
      subst lc ld
      have lo2 : (s.heap.push { cls := .type "set", dict := none, data := .set #[] 0 (.fresh 0 0 led) }).get? l = some { cls := .type "list", dict := od, data := .seq items ln, slots := osl } := Heap.get?_push_of_some _ lo
      have at2 : (s.heap.push { cls := .type "set", dict := none, data := .set #[] 0 (.fresh 0 0 led) }).IsList l items := ⟨_, lo2, rfl, ln, rfl⟩
      have n1 := PySem.F.sub_list_set
      have n2 := PySem.F.sub_list_frozenset
      have n3 : (Value.type "list" == Value.type "dict") = false := by decide
      unfold Builtin.«set.__init__» noKeywords Builtin.Frozenset.updateFrom
      generalize walk : pyIter = PI
      wp_walk
      subst walk
      refine wpAny_pyIter_list at2 (wpAny_bind (wpAny_runValue ?_))
      have below : l < s.heap.objs.size := Heap.lt_size lo
      have hh3 : A.in1.in1.in1.handled = none := by simp [calm]
      have sz : (s.heap.push { cls := .type "set", dict := none, data := .set #[] 0 (.fresh 0 0 led) }).objs.size = s.heap.objs.size + 1 := Heap.size_push ..
      have len : items.size = xs.length := by rw [← StrsAre.len_eq are, Array.length_toList]
      have far : l ≠ (s.heap.push { cls := .type "set", dict := none, data := .set #[] 0 (.fresh 0 0 led) }).objs.size := by
        rw [sz]
        exact Nat.ne_of_lt (Nat.lt_succ_of_lt below)
      have out : s.heap.objs.size ∉ [(s.heap.push { cls := .type "set", dict := none, data := .set #[] 0 (.fresh 0 0 led) }).objs.size, l] := by
        rw [sz]
        intro z
        simp only [List.mem_cons, List.not_mem_nil, or_false] at z
        exact z.elim (fun e => absurd e (Nat.ne_of_lt (Nat.lt_succ_self _))) fun e => absurd e (Nat.ne_of_gt below)
      refine fill len ((Walks.list hh3 _ l far items).toS) out few (fun i v hv => SS.strs_at are i v (by rw [Array.getElem?_toList]; exact hv)) _ 0 _ rfl (Nat.zero_le _) ⟨⟨_, Heap.get?_push_size _ rfl, rfl, rfl⟩, at2.push _⟩ ?_ ?_
      · have get_ := Heap.get?_push_of_some { cls := .type "list_iterator", data := .fields #[.ref l, .int 0 0] } there
        exact SetOf_congr ((setObjOf_fresh (knd := strKind prog w) led).setOf get_ (by unfold scanBound; omega)) (fun _ => rfl) rfl
      · rintro ⟨h', g', d', tk', os'⟩ mv done_
        obtain rfl : g' = s.gens := mv.gens
        obtain rfl : d' = s.drawn := mv.drawn
        obtain rfl : os' = s.os := mv.os
        refine wpAny_pure (wpAny_pure ⟨rfl, h', tk', rfl, done_, fun b o hb e => ?_⟩)
        refine mv.heap b o (fun z => ?_) (Heap.get?_push_of_some _ (Heap.get?_push_of_some _ e))
        simp only [List.mem_cons, List.not_mem_nil, or_false] at z
        rw [sz] at z
        exact z.elim (fun e => absurd e (Nat.ne_of_lt hb)) fun e => absurd e (Nat.ne_of_lt (Nat.lt_succ_of_lt hb))
    · match r2, hr2 with
      | .error _, hr2 => exact hr2
      | .ok .next, hr2 => exact hr2.elim
      | .ok .brk, hr2 => exact hr2.elim
      | .ok .cont, hr2 => exact hr2.elim
      | .ok (.ret v), hr2 =>
        obtain ⟨rfl, h', tk, rfl, full, keep⟩ := hr2
        repeat (any_goals (first | assumption | wp_step))
        exact h _ _ full keep
end
end LenS
namespace L2
open PySem PySem.Spec PyProof.Rows
theorem strs_vals : ∀ {ys : List Str} {us : List Value}, Vals (ys.map V.str) us → StrsAre us ys
  | [], _, .nil => .nil
  | y :: ys, _, .cons r t => by
    obtain ⟨k, rfl⟩ := r
    exact .cons y k (strs_vals t)
/-- len(set(xs)), xs a list of texts -/
def tLenS (K : PySem.W.Frag) (ta : TE) : TE := fun σ H Q => ta σ H fun x H1 => ∃ l, ∃ xs : List Str, x = .ref l ∧ SqL K H1 l (xs.map V.str) ∧ xs.length ≤ 100 ∧ Q (.int (LenS.many xs xs.length : Nat)) H1
theorem pe_lenS {X : Cx} {a : Expr} {ta : TE} {p p2 q pos : Pos} (hg : Gl X "len") (hm : X.mg "len" = none) (hg2 : Gl X "set") (hm2 : X.mg "set" = none) (ha : PE X a ta) (hc : X.calm = true := by rfl)
    (na : starEach [a] X.env = (false, eval a X.env) :: starEach [] X.env := by rfl) : PE X (.Call (.Name "len" p) [.Call (.Name "set" p2) [a] [] q] [] pos) (tLenS X.K ta) := by
  refine ⟨fun pins s σ H Q I h => ?_⟩
  refine Call_ (ld_blt I hg hm boot_len (callWith_builtin1 (args_cons ?_ rfl) rfl rfl))
  refine Call_ (ld_blt I hg2 hm2 boot_set (callWith_type1 (args_cons (thn (ha.run pins s σ H _ I h) fun v s1 ⟨x, H1, I1, r1, q1⟩ => args_nil ?_) na) na rfl))
  obtain ⟨l, xs, rfl, hq, few, q1⟩ := q1
  cases r1
  obtain ⟨its, r, pl, _⟩ := I1.list hq
  refine LenS.make (I1.ok.hd hc) pl.isList (by simpa using strs_vals r) (by unfold scanBound; omega) fun h' tk full keep => args_nil ?_
  obtain ⟨o, es, ep, t, ho, hex, hd, _, _, _, hf, hn⟩ := full
  have I2 : Inv X pins σ H1 { s1 with heap := h', toks := tk } := I1.kept fun b o e => keep b o (Heap.lt_size e) e
  have le := LenS.many_le xs xs.length
  exact call_len_set ho hex hd hf (by rw [hn]; omega) ⟨.int (LenS.many xs xs.length : Nat), H1, I2.tok _, ⟨_, by rw [hn]⟩, q1⟩
end L2
/-! from k03/TkV -/
namespace L2
open PySem PySem.Spec PyProof.Rows
/-! ### try with several clauses that name their error; one of them takes it -/
abbrev Cl := Value × Nat × (Addr → Value → Option Addr → TS)
/-- behind a clause its name is gone -/
def Ends.gone (D : Ends) (i : Nat) : Ends := { nx := fun σ H => D.nx (σ.set i none) H, rt := D.rt, bk := fun σ H => D.bk (σ.set i none) H, ct := fun σ H => D.ct (σ.set i none) H }
def wCl (K : PySem.W.Frag) (D : Ends) : List Cl → WX
  | [] => fun _ _ _ _ => False
  | k :: r => fun cls d σ H => (PySem.W.exmOne K cls k.1 = some true ∧ ∀ a, H a = none → k.2.2 a cls d (D.gone k.2.1) (σ.set k.2.1 (some (.ref a))) H) ∨ (PySem.W.exmOne K cls k.1 = some false ∧ wCl K D r cls d σ H)
inductive ClOk (X : Cx) : List ExceptHandler → List Cl → Prop
  | nil : ClOk X [] []
  | cons {x n : Str} {c : Value} {i : Nat} {ts : Addr → Value → Option Addr → TS} {b : Stmt} {bs : List Stmt} {p p' : Pos} {hs : List ExceptHandler} {l : List Cl} (hc : Names X x c) (hi : X.N[i]? = some n) (hl : X.env.kindOf n = some .local)
      (su : ∀ (a : Addr) (oe : Obj) (cls : Value) (d : Option Addr) (pn : List (Addr × Obj)), Zc cls d oe → (∃ vs, oe.data = .fields vs) → PSs (X.suite a ((a, oe) :: pn)) (b :: bs) (ts a cls d)) (r : ClOk X hs l) :
      ClOk X (.ExceptHandler (some (.Name x p)) (some n) (b :: bs) p' :: hs) ((c, i, ts) :: l)
section
variable {X : Cx}
/-- a caught error, while the clauses are asked -/
structure Caught (X : Cx) (pins : List (Addr × Obj)) (a : Addr) (G : Heap) (s0 s3 : Shared) (σ : St) (H : Hp) (cls : Value) (d : Option Addr) : Prop where
  inv : Inv X pins σ H s0
  nb : ∀ b o, s0.heap.get? b = some o → b ∉ frs X.stack → G.get? b = some o
  up : s0.heap.UpToSlots s3.heap
  fl : HandSPX.FlyingZ G (X.env :: X.outer) a (Zc cls d) s3.heap
  na : H a = none
  os : s3.os = s0.os
  ag : AllBare s3.gens
variable {pins : List (Addr × Obj)} {a : Addr} {G : Heap} {s0 s3 : Shared} {σ : St} {H : Hp} {cls : Value} {d : Option Addr}
theorem Caught.stand (C : Caught X pins a G s0 s3 σ H cls d) (hf : X.env.frame = some X.env.locals) : ∃ oe, Zc cls d oe ∧ (∃ vs, oe.data = .fields vs) ∧ s3.heap.get? a = some oe ∧ Inv X pins σ H s3 ∧ Inv (X.suite a ((a, oe) :: (X.pn ++ pins))) [] σ H s3 := by
  obtain ⟨oe, vs, e1, e2, e3⟩ := C.fl.there
  have nf : a ∉ frs (X.env :: X.outer) := fun m => by
    obtain ⟨_, o2, e4, q⟩ := C.fl.2.2.1.mem m
    have e5 := e1.symm.trans e4
    injection e5 with e5
    exact q _ (e5 ▸ e3)
  have J := C.inv.landed C.nb C.fl.1 C.up C.os C.ag
  refine ⟨oe, e2, ⟨vs, e3⟩, e1, J, J.suite e1 e3 C.na (fun z => nf ?_) (fun m => nf ?_)⟩
  · exact List.mem_filterMap.mpr ⟨X.env, List.mem_cons_self, by rw [hf, z]⟩
  · obtain ⟨v, hv, q⟩ := List.mem_filterMap.mp m
    exact List.mem_filterMap.mpr ⟨v, List.mem_cons_of_mem _ hv, q⟩
theorem Caught.on (C : Caught X pins a G s0 s3 σ H cls d) {h4 : Heap} (f : HandSPX.FlyingZ G (X.env :: X.outer) a (Zc cls d) h4) (u : s3.heap.UpToSlots h4) : Caught X pins a G s0 { s3 with heap := h4 } σ H cls d :=
  ⟨C.inv, C.nb, C.up.trans u, f, C.na, C.os, C.ag⟩
theorem handle_cl {D : Ends} (hf : X.env.frame = some X.env.locals) (nd : X.N.Nodup) : ∀ {hs : List ExceptHandler} {l : List Cl}, ClOk X hs l → ∀ {s3 : Shared}, Caught X pins a G s0 s3 σ H cls d → wCl X.K D l cls d σ H →
    wpAny (model X.prog X.w) X.A (handleBy (.ref a) X.env hs) (SP X pins D) X.xe s3 := by
  intro hs l ok
  induction ok with
  | nil => intro s3 _ w; exact w.elim
  | @cons x n c i ts b bs p p' hs l hc hi hl su r ih =>
    intro s3 C w
    obtain ⟨oe, z, hv, e1, J, S⟩ := C.stand hf
    refine wpAny_handleBy_cons (codeAny_handlers_test ?_) (fun q => nomatch q)
    have ty : PySem.W.Looks (model X.prog X.w) s3.heap (typeOf (.ref a)) cls := fun A Q E s k q => wpAny_typeOf_ref (k _ _ e1) (by rw [z.1]; exact q)
    have ask : ∀ {Q : Value → Shared → Prop} {E : Value → Shared → Prop}, Q c s3 → wpAny (model X.prog X.w) (X.A.mark (some (.ref a))) (eval (.Name x p) X.env) Q E s3 := fun {Q E} q => by
      obtain ⟨g1, g2, g3 | ⟨g3, g4, g5⟩⟩ := hc
      · exact ld_glob (X := X.suite a ((a, oe) :: (X.pn ++ pins))) S g1 g3 q g2
      · exact ld_blt (X := X.suite a ((a, oe) :: (X.pn ++ pins))) S g1 g3 g4 q g5 g2
    rcases w with ⟨yes, go⟩ | ⟨no, w⟩
    · refine ask ((PySem.W.exm_one (M := model X.prog X.w) J.kIn ty yes).here (codeAny_handlers_suite_as (HandSPX.lands_againZ C.fl fun h4 f u => ?_)))
      obtain ⟨oe4, z4, hv4, e4, J4, S4⟩ := (C.on f u).stand hf
      refine store_ok (X := X.suite a ((a, oe4) :: (X.pn ++ pins))) (v := .ref a) S4 nd hi (.inl hl) rfl (fun s5 S5 => ?_) (.inr hl)
      have last : ∀ {σ6 : St} {H6 : Hp} {s6 : Shared} {Q : Shared → Prop}, Inv (X.suite a ((a, oe4) :: (X.pn ++ pins))) [] σ6 H6 s6 → (∀ s7, Inv X pins (σ6.set i none) H6 s7 → Q s7) →
          wpAny (model X.prog X.w) X.A (do bindName X.env n .none; unbindBehindTheSuite X.env n p') (fun _ s7 => Q s7) X.xe s6 := fun {σ6 H6 s6 Q} T q => gone_ok (T.unsuite J.ok) nd hi hl q
      refine wpAny_mono ((su a oe4 cls d (X.pn ++ pins) z4 hv4).run [] s5 _ H (D.gone i) S5 (go a C.na)) (fun f6 s6 q6 => ?_) (fun _ _ y => False.elim y)
      match f6, q6 with
      | .next, ⟨_, _, T, y⟩ => exact last T fun _ I7 => ⟨_, _, I7, y⟩
      | .brk, ⟨_, _, T, y⟩ => exact last T fun _ I7 => ⟨_, _, I7, y⟩
      | .cont, ⟨_, _, T, y⟩ => exact last T fun _ I7 => ⟨_, _, I7, y⟩
      | .ret _, ⟨_, _, _, T, rv, y⟩ => exact last T fun _ I7 => ⟨_, _, _, I7, rv, y⟩
    · exact ask ((PySem.W.exm_one (M := model X.prog X.w) J.kIn ty no).here (ih C w))
theorem ps_try_cl {body : List Stmt} {h : ExceptHandler} {hs : List ExceptHandler} {l : List Cl} {pos : Pos} {tb : WX → TS} (st : X.stack = X.env :: X.outer) (hf : X.env.frame = some X.env.locals) (nd : X.N.Nodup)
    (hb : ∀ (W : WX) (pn : List (Addr × Obj)) (xe : Value → Shared → Prop), Takes (X.tr pn xe) W → PassesOwn (model X.prog X.w) X.A X.env xe → PSs (X.tr pn xe) body (tb W)) (ok : ClOk X (h :: hs) l) :
    PS X (.Try body (h :: hs) [] [] pos) (fun D σ H => tb (wCl X.K D l) D σ H) := by
  refine ⟨fun pins s σ H D I r => wpAny_Try_except ?_⟩
  refine wpAny_mono ((hb (wCl X.K D l) (X.pn ++ pins) _ (fun u s1 xx => ?_) PassesOwn.looking).run [] s σ H D (I.toTry _) r) (fun f s1 q => ?_) (fun _ _ y => y)
  · obtain ⟨a, G, s0, pins1, σ1, H1, cls, d, rfl, I1, nb, up, sky, na, os, ag, w⟩ := xx
    have fr : X.A.frames = some (X.env :: X.outer) := by rw [I.ok.frames, st]
    have sky1 : Sky G (X.env :: X.outer) a (Zc cls d) X.env.locals s1.heap := by rw [← st]; exact sky
    exact Sky.land Zc.steady fr hf sky1 fun h3 f3 u3 => handle_cl hf nd ok ⟨I1.ofTry I.ok, nb, up.trans u3, f3, na, os, ag⟩ w
  · match f, q with
    | .next, ⟨_, _, I1, y⟩ => exact wpAny_execs_nil ⟨_, _, I1.ofTry I.ok, y⟩
    | .brk, ⟨_, _, I1, y⟩ => exact ⟨_, _, I1.ofTry I.ok, y⟩
    | .cont, ⟨_, _, I1, y⟩ => exact ⟨_, _, I1.ofTry I.ok, y⟩
    | .ret _, ⟨_, _, _, I1, rv, y⟩ => exact ⟨_, _, _, I1.ofTry I.ok, rv, y⟩
end
end L2
set_option maxRecDepth 100000
/-! Objects over the plain data: fields, methods, a new object. -/
namespace Mm
open PySem L2
/-! ## fields -/
theorem lookup_zip {α : Type} : ∀ {fs : List Str} {xs : List α} {i : Nat} {f : Str} {x : α}, fs.Nodup → fs[i]? = some f → xs[i]? = some x → (fs.zip xs).lookup f = some x
  | [], xs, i, f, x, nd, h1, h2 => by simp at h1
  | g :: fs, [], i, f, x, nd, h1, h2 => by simp at h2
  | g :: fs, y :: xs, 0, f, x, nd, h1, h2 => by
    have e1 : g = f := Option.some.inj h1
    have e2 : y = x := Option.some.inj h2
    subst e1; subst e2
    rw [List.zip_cons_cons, List.lookup_cons_self]
  | g :: fs, y :: xs, i + 1, f, x, nd, h1, h2 => by
    rw [List.zip_cons_cons]
    have nd' := List.nodup_cons.mp nd
    have hm : f ∈ fs := List.mem_of_getElem? (i := i) h1
    have ne : (f == g) = false := beq_eq_false_iff_ne.mpr fun e => nd'.1 (e ▸ hm)
    rw [List.lookup_cons, ne]
    exact lookup_zip (i := i) nd'.2 h1 h2
theorem lookup_not {α : Type} : ∀ {fs : List Str} {xs : List α} {f : Str}, f ∉ fs → (fs.zip xs).lookup f = none
  | [], xs, f, h => rfl
  | g :: fs, [], f, h => rfl
  | g :: fs, y :: xs, f, h => by
    have ne : (f == g) = false := beq_eq_false_iff_ne.mpr fun e => h (by rw [e]; exact List.mem_cons_self)
    rw [List.zip_cons_cons, List.lookup_cons, ne]
    exact lookup_not fun z => h (List.mem_cons_of_mem _ z)
theorem putF_zip {v : V} : ∀ {fs : List Str} {xs : List V} {i : Nat} {f : Str}, fs.Nodup → fs[i]? = some f → i ≤ xs.length → putF f v (fs.zip xs) = fs.zip (if i < xs.length then xs.set i v else xs ++ [v])
  | [], xs, i, f, nd, h1, h2 => by simp at h1
  | g :: fs, [], 0, f, nd, h1, h2 => by
    have e1 : g = f := Option.some.inj h1
    subst e1
    cases fs <;> rfl
  | g :: fs, [], i + 1, f, nd, h1, h2 => by simp at h2
  | g :: fs, y :: xs, 0, f, nd, h1, h2 => by
    have e1 : g = f := Option.some.inj h1
    subst e1
    rw [List.zip_cons_cons, if_pos (by simp), List.set_cons_zero, List.zip_cons_cons]
    show (if g = g then (g, v) :: fs.zip xs else (g, y) :: putF g v (fs.zip xs)) = _
    rw [if_pos rfl]
  | g :: fs, y :: xs, i + 1, f, nd, h1, h2 => by
    have nd' := List.nodup_cons.mp nd
    have hm : f ∈ fs := List.mem_of_getElem? (i := i) h1
    have ne : g ≠ f := fun e => nd'.1 (by rw [e]; exact hm)
    rw [List.zip_cons_cons]
    show (if g = f then (g, v) :: fs.zip xs else (g, y) :: putF f v (fs.zip xs)) = _
    rw [if_neg ne, putF_zip (i := i) nd'.2 h1 (by simpa using h2)]
    by_cases hi : i < xs.length
    · rw [if_pos hi, if_pos (by simpa using hi), List.set_cons_succ, List.zip_cons_cons]
    · rw [if_neg hi, if_neg (by simpa using hi), List.cons_append, List.zip_cons_cons]
/-- the field f stands at place i of the class k -/
structure HasF (K : PySem.W.Frag) (Γ : Cls') (k i : Nat) (f : Str) : Prop where
  ok : ∀ C, Γ.at_ k = some C → Cls K C ∧ NoAttr K C f
  at_ : (Γ.fs k)[i]? = some f
  nd : (Γ.fs k).Nodup
  few : (Γ.fs k).length < 1000
section
variable {w : Wn} {W : WX} {σ : St} {c c' : Cn} {H H' : Hp} {n n' : Nat} {S : Sto} {env : Env}
variable {Γ : Cls'} {X : Cx} {a b e o tg : Expr} {es : List Expr} {ma mb mo : EM} {am : AM} {pos : Pos} {Dn : Ends}
/-- an instance: unchangeable, or in the store -/
def insOf (S : Sto) (d : D) : Option (Nat × List D) := match d with
  | .obj k ds => some (k, ds)
  | .loc j => match S[j]? with
    | some (.ins k ds) => some (k, ds)
    | _ => none
  | _ => none
@[simp] theorem insOf_obj (S : Sto) (k : Nat) (ds : List D) : insOf S (.obj k ds) = some (k, ds) := rfl
theorem insOf_loc {S : Sto} {j k : Nat} {ds : List D} (h : S[j]? = some (.ins k ds)) : insOf S (.loc j) = some (k, ds) := by
  unfold insOf; simp only [h]
theorem insOf_at {d : D} {v : V} {k : Nat} {ds : List D} (r : Rep w c H S) (at_ : At w c H S.length d v) (h : insOf S d = some (k, ds)) :
    ∃ p vs C dx, v = .ref p ∧ w.Γ.at_ k = some C ∧ vs.length ≤ (w.Γ.fs k).length ∧ H p = some (.ins C dx ((w.Γ.fs k).zip vs)) ∧ Ats w c H S.length ds vs := by
  cases d with
  | obj k' es =>
    cases h
    unfold At at at_
    obtain ⟨p, vs, C, dx, e, f, g, l, s, t⟩ := at_
    exact ⟨p, vs, C, dx, e, g, l, s, t⟩
  | loc j =>
    unfold insOf at h
    cases hj : S[j]? with
    | none => simp only [hj] at h; cases h
    | some o =>
      cases o with
      | ins k' es =>
        simp only [hj] at h
        cases h
        unfold At at at_
        obtain ⟨vs, C, dx, g, l, s, t⟩ := r.get hj
        exact ⟨_, vs, C, dx, at_.2, g, l, s, t⟩
      | _ => simp only [hj] at h; cases h
  | _ => cases h
/-- cs: the classes that may stand there, and the field's place in each -/
def fldD (cs : List (Nat × Nat)) (d : D) (S : Sto) : Option D := (insOf S d).bind fun p => (cs.lookup p.1).bind fun i => p.2[i]?
def e_fld (cs : List (Nat × Nat)) (m : EM) : EM := fun env S => (m env S).bind fun d S1 => .ofO (fldD cs d S1) S1
theorem mem_of_lookup {α β : Type} [BEq α] [LawfulBEq α] {k : α} {v : β} : ∀ {l : List (α × β)}, l.lookup k = some v → (k, v) ∈ l
  | [], h => by cases h
  | (j, u) :: r, h => by
    rw [List.lookup_cons] at h
    cases e : (k == j) with
    | true =>
      rw [e] at h; cases h
      rw [eq_of_beq e]; exact List.mem_cons_self
    | false => rw [e] at h; exact List.mem_cons_of_mem _ (mem_of_lookup h)
theorem c_fld {cs : List (Nat × Nat)} {f : Str} (hF : ∀ p ∈ cs, HasF X.K Γ p.1 p.2 f) (he : CE Γ X W e ma) (hb : attributeBase e f X.env (eval e X.env) = eval e X.env := by rfl) : CE Γ X W (.Attribute e f pos) (e_fld cs ma) := by
  refine PE.weak (pe_fld he hb) fun σ H Q ⟨c, env, S, r, ev, h⟩ => ?_
  refine ⟨c, env, S, r, ev, (Po.bind h).imp fun v H1 ⟨c1, S1, d1, e1, r1, a1, h1⟩ => ?_⟩
  obtain ⟨y, hy, h1⟩ := Po.ofO h1
  unfold fldD at hy
  cases hi : insOf S1 d1 with
  | none => rw [hi] at hy; cases hy
  | some p =>
    obtain ⟨k, ds⟩ := p
    rw [hi] at hy
    cases hl : cs.lookup k with
    | none => simp only [Option.bind_some, hl] at hy; cases hy
    | some i =>
      simp only [Option.bind_some, hl] at hy
      obtain ⟨q, vs, C, dx, rfl, g, l, s, t⟩ := insOf_at r1 a1 hi
      have F := hF (k, i) (mem_of_lookup hl)
      obtain ⟨u, hu, au⟩ := t.get hy
      exact ⟨q, C, dx, _, u, rfl, s, (F.ok C g).1, (F.ok C g).2, lookup_zip F.nd F.at_ hu, fin_ok h1 r1 au⟩
/-- o.f = e -/
def setF (cs : List (Nat × Nat)) (d z : D) (S : Sto) : Option Sto := match d with
  | .loc j => match S[j]? with
    | some (.ins k ds) => (cs.lookup k).bind fun i => if i < ds.length then some (S.set j (.ins k (ds.set i z))) else if i = ds.length then some (S.set j (.ins k (ds ++ [z]))) else none
    | _ => none
  | _ => none
theorem setF_at {cs : List (Nat × Nat)} {f : Str} {d z : D} {v u : V} {S' : Sto} (hF : ∀ p ∈ cs, HasF w.K w.Γ p.1 p.2 f) (r : Rep w c H S) (a1 : At w c H S.length d v) (a2 : At w c H S.length z u) (h : setF cs d z S = some S') :
    ∃ p C dx fs k, v = .ref p ∧ (∃ i, (k, i) ∈ cs) ∧ w.Γ.at_ k = some C ∧ H p = some (.ins C dx fs) ∧ Cls w.K C ∧ NoAttr w.K C f ∧ fs.length < 1000 ∧ S'.length = S.length ∧ Ext c H S.length c (upd H p (.ins C dx (putF f u fs))) S.length ∧ Rep w c (upd H p (.ins C dx (putF f u fs))) S' := by
  cases d with
  | loc j =>
    unfold setF at h
    cases hj : S[j]? with
    | none => simp only [hj] at h; cases h
    | some ob =>
      cases ob with
      | ins k ds =>
        simp only [hj] at h
        cases hl : cs.lookup k with
        | none => rw [hl] at h; cases h
        | some i =>
          rw [hl, Option.bind_some] at h
          unfold At at a1
          obtain ⟨vs, C, dx, g, l, s, t⟩ := r.get hj
          have F := hF (k, i) (mem_of_lookup hl)
          have few : ((w.Γ.fs k).zip vs).length < 1000 := by rw [List.length_zip]; exact Nat.lt_of_le_of_lt (Nat.min_le_left _ _) F.few
          refine ⟨c.ρ j, C, dx, _, k, a1.2, ⟨i, mem_of_lookup hl⟩, g, s, (F.ok C g).1, (F.ok C g).2, few, ?_⟩
          have fin : ∀ ds', (ds' = if i < ds.length then ds.set i z else ds ++ [z]) → i ≤ ds.length → S' = S.set j (.ins k ds') →
              S'.length = S.length ∧ Ext c H S.length c (upd H (c.ρ j) (.ins C dx (putF f u ((w.Γ.fs k).zip vs)))) S.length ∧ Rep w c (upd H (c.ρ j) (.ins C dx (putF f u ((w.Γ.fs k).zip vs)))) S' := fun ds' e hi es => by
            have il : i < (w.Γ.fs k).length := (List.getElem?_eq_some_iff.mp F.at_).1
            have ex := Ext.wr r (o := .ins C dx (putF f u ((w.Γ.fs k).zip vs))) a1.1 ⟨_, s, trivial⟩
            subst es
            refine ⟨List.length_set, ex, Rep.wr r a1.1 ⟨_, s, trivial⟩ ⟨if i < vs.length then vs.set i u else vs ++ [u], C, dx, g, ?_, ?_, ?_⟩⟩
            · split
              · rw [List.length_set]; exact l
              · rename_i hn
                rw [List.length_append, List.length_singleton]
                have := t.len; omega
            · rw [upd_same, putF_zip F.nd F.at_ (by rw [t.len]; exact hi)]
            · rw [e, t.len]
              split
              · exact (t.set a2 i).mono ex
              · exact (t.app (.one a2)).mono ex
          by_cases h1 : i < ds.length
          · rw [if_pos h1] at h
            exact fin _ (by rw [if_pos h1]) (Nat.le_of_lt h1) (Option.some.inj h).symm
          · rw [if_neg h1] at h
            by_cases h2 : i = ds.length
            · rw [if_pos h2] at h
              exact fin _ (by rw [if_neg h1]) (Nat.le_of_eq h2) (Option.some.inj h).symm
            · rw [if_neg h2] at h; cases h
      | _ => simp only [hj] at h; cases h
  | _ => cases h
def s_fld (cs : List (Nat × Nat)) (mo mv : EM) : SM := fun env S => (mv env S).toS env fun z S1 => (mo env S1).toS env fun d S2 => match setF cs d z S2 with
  | some S3 => .next env S3
  | none => .bad
theorem c_sfld {cs : List (Nat × Nat)} {f : Str} {p' : Pos} (hF : ∀ p ∈ cs, HasF X.K Γ p.1 p.2 f) (ho : CE Γ X W o mo) (hv : CE Γ X W e ma) (hs : swapsWith e (some (.Attribute o f p')) pos.line X.env = pure false := by rfl) : CS Γ X W (.Assign [.Attribute o f p'] e pos) (s_fld cs mo ma) := by
  refine PS.weak (ps_fld ho hv hs) fun Dn σ H ⟨c, env, S, r, ev, h⟩ => ?_
  refine ⟨c, env, S, r, ev, (PoS.part ev h).imp fun v H1 ⟨c1, S1, d1, e1, r1, a1, ev1, h1⟩ => ?_⟩
  refine ⟨c1, env, S1, r1, ev1, (PoS.part ev1 h1).imp fun v2 H2 ⟨c2, S2, d2, e2, r2, a2, ev2, h2⟩ => ?_⟩
  cases hs : setF cs d2 d1 S2 with
  | none => simp only [hs] at h2; exact h2.elim
  | some S3 =>
    simp only [hs] at h2
    obtain ⟨p, C, dx, fs, _, rfl, _, _, s, cl, na, few, hl, ex, rr⟩ := setF_at hF r2 a2 (a1.mono e2) hs
    exact ⟨p, C, dx, fs, rfl, s, cl, na, few, h2 c2 _ σ (by rw [hl]; exact ex) rr (by rw [hl]; exact ev2.mono ex)⟩
/-- o.f op= e, two ints, o of the class k -/
def s_fldaug (k i : Nat) (g : Int → Int → Int) (mo mv : EM) : SM := fun env S => (mo env S).toS env fun d S1 => (R.ofO (fldD [(k, i)] d S1) S1).toS env fun x S2 => (mv env S2).toS env fun y S3 => match x, y with
  | .int i1, .int j1 => match setF [(k, i)] d (.int (g i1 j1)) S3 with
    | some S4 => .next env S4
    | none => .bad
  | _, _ => .bad
/-! ## methods -/
/-- the class k has the method x, which is m -/
structure Dm (P : Program) (wd : World) (K : PySem.W.Frag) (mg : Str → Option Value) (base : Heap) (Γ : Cls') (k : Nat) (x : Str) (lv : Nat) (m : FM) : Prop where
  ex : ∃ (C f : Addr) (fd : FuncData) (ps : List Str), Γ.at_ k = some C ∧ Cls K C ∧ Meth K C x f ∧ FnOk P wd K mg base (L2.CX P wd) lv f fd ps (spM K Γ m) ∧ Binds K fd ps []
  nf : x ∉ Γ.fs k
def isI (k : Nat) (d : D) (S : Sto) : Prop := ∃ ds, insOf S d = some (k, ds)
theorem isI_loc {k j : Nat} {ds : List D} {S : Sto} (h : S[j]? = some (.ins k ds)) : isI k (.loc j) S := ⟨ds, insOf_loc h⟩
open Classical in
noncomputable def e_mth (tr : TrF) (k : Nat) (m : FM) (mo : EM) (am : AM) : EM := fun env S => (mo env S).bind fun d S1 => .if (isI k d S1) ((am env S1).bind fun ds S2 => tr S2 (m (d :: ds) S2))
open Classical in
theorem mth_read {k : Nat} {x : Str} {m : FM} {C : Addr} {tr : TrF} {σ : St} {H : Hp} {Q : VK} (ht : TrOk tr) (gC : Γ.at_ k = some C) (nf : x ∉ Γ.fs k) (h : mE ⟨X.K, Γ⟩ W (e_mth tr k m mo am) σ H Q) : tMethXS C x (spM X.K Γ m) (fun σ => WE W σ) (mE ⟨X.K, Γ⟩ W mo) (mA ⟨X.K, Γ⟩ W am) σ H Q := by
  obtain ⟨c, env, S, r, ev, h⟩ := h
  refine ⟨c, env, S, r, ev, (Po.bind h).imp fun v H1 ⟨c1, S1, d1, e1, r1, a1, h1⟩ => ?_⟩
  obtain ⟨⟨ds, hi⟩, h1⟩ := Po.if h1
  obtain ⟨p, vs, C', dx, rfl, g, l, s, t⟩ := insOf_at r1 a1 hi
  rw [gC] at g; cases g
  refine ⟨p, dx, _, rfl, s, lookup_not nf, c1, env, S1, r1, ev.mono e1, (Po.bind h1).imp fun us H2 ⟨c2, S2, es, e2, r2, a2, h2⟩ => ?_⟩
  exact ⟨c2, S2, d1 :: es, r2, .cons (a1.mono e2) a2, (ht _ _ _ _ _ _ _ _ r2 h2).wish fun _ _ _ z => z⟩
theorem c_mth {k lv : Nat} {x : Str} {m : FM} {apos : Pos} {pl : Sem Bool} {tr : TrF} (tok : TrOk tr) (G : Dm X.prog X.w X.K X.mg X.base Γ k x lv m) (go : Goes X W) (hr : Room lv X.A) (ho : CE Γ X W o mo) (ha : CA Γ X W (e :: es) am)
    (ht : eval (.Call (.Attribute o x apos) (e :: es) [] pos) X.env = mcall X o x apos pos (e :: es) pl := by rfl) (h1 : starEach (e :: es) X.env = (false, eval e X.env) :: starEach es X.env := by rfl) (h2 : (backTo pos (starEach es X.env)).any (·.1) = false := by rfl) :
    CE Γ X W (.Call (.Attribute o x apos) (e :: es) [] pos) (e_mth tr k m mo am) := by
  obtain ⟨C, f, fd, ps, gC, cl, me, F, hb⟩ := G.ex
  exact PE.weak (pe_methXS (E := fun σ => WE W σ) ho cl me F hr hb go ha ht h1 h2) fun σ H Q h => mth_read tok gC G.nf h
end
end Mm
namespace L2
open PySem PySem.Spec PyProof.Rows
section
variable {X : Cx} {CX : CXT} {k : Nat} {f C : Addr} {fd : FuncData} {ps : List Str} {sp : Sp} {E : St → XK} {m x : Str} {pos apos p : Pos} {o : Expr} {ta : TE}
/-- C(), where an error may come out of its __init__ -/
theorem pe_makeS0 (M : Mk X.K C f) (F : FnOk X.prog X.w X.K X.mg X.base CX k f fd ps sp) (hr : Room (k + 1) X.A) (hg : Gl X x) (hm : X.mg x = some (.ref C)) (hb : Binds X.K fd ps []) (hx : ∀ σ, PassesAt CX X σ (E σ))
    (hdb : (x == ("__debug__" : Str)) = false := by decide) : PE X (.Call (.Name x p) [] [] pos) (tMakeS C sp E tNil) := by
  constructor
  intro pins s σ H Q I q
  refine wpAny_Call_Name_kw (ld_glob I hg hm ?_ hdb)
  refine PySem.W.callWith_K0 I.kIn M.kp ?_
  have q1 := q (s.heap.objs.size + 1) s.heap.objs.size (I.hok.fresh (Nat.le_succ _)) (I.hok.fresh (Nat.le_refl _)) (Nat.ne_of_lt (Nat.lt_succ_self _))
  have J2 := Inv.made (C := C) I
  have rr : Vals (V.ref (s.heap.objs.size + 1) :: []) (Value.ref (s.heap.objs.size + 1) :: []) := .cons rfl .nil
  have hl : (Value.ref (s.heap.objs.size + 1) :: [] ++ []).length = ps.length := by
    rw [List.append_nil, ← rr.length]; exact F.len _ _ _ _ q1
  have bd := hb _ (Value.ref (s.heap.objs.size + 1) :: []) J2.kIn hl
  rw [List.append_nil] at bd
  refine wpAny_call (make_map (f := f) I.kIn M.makes M.init (beq_iff_eq.mp M.fn) (codeAny_mono (F.run _ X.stack _ _ ⟨Value.ref (s.heap.objs.size + 1) :: [], []⟩ _ _ _ (E σ) (hr.make C [] []) (J2.env0.make C [] []) bd rr q1) fun res s' hq => ?_))
  match res, hq with
  | .error err, hq => exact hx σ pins _ _ err s' J2 hq
  | .ok (.ret u), hq =>
    obtain ⟨v, H', J3, rv, ev, q3⟩ := J2.after hq
    subst ev
    exact ⟨rv, ⟨V.ref (s.heap.objs.size + 1), H', J3, rfl, q3⟩⟩
end
end L2
namespace Mm
open PySem L2
section
variable {w : Wn} {W : WX} {σ : St} {c c' : Cn} {H H' : Hp} {n n' : Nat} {S : Sto} {env : Env}
variable {Γ : Cls'} {X : Cx} {a b e o tg : Expr} {es : List Expr} {ma mb mo : EM} {am : AM} {pos : Pos} {Dn : Ends}
theorem ca_nil_read {Q : List V → Hp → Prop} (h : mA w W a_nil σ H Q) : tNil σ H Q := by
  obtain ⟨c, env, S, r, ev, h⟩ := h
  exact h c H [] Ext.refl r .nil
theorem mE.imp {m : EM} {Q Q' : VK} (i : ∀ v H, Q v H → Q' v H) (h : mE w W m σ H Q) : mE w W m σ H Q' := by
  obtain ⟨c, env, S, r, ev, h⟩ := h
  exact ⟨c, env, S, r, ev, h.imp i⟩
/-! ## a new object -/
/-- the class k stands under its name; its __init__ is m -/
structure Dk (P : Program) (wd : World) (K : PySem.W.Frag) (mg : Str → Option Value) (base : Heap) (Γ : Cls') (k : Nat) (x : Str) (lv : Nat) (m : FM) : Prop where
  ex : ∃ (C f : Addr) (fd : FuncData) (ps : List Str), Γ.at_ k = some C ∧ mg x = some (.ref C) ∧ Mk K C f ∧ FnOk P wd K mg base (L2.CX P wd) lv f fd ps (spM K Γ m) ∧ Binds K fd ps []
def mkD (k : Nat) (m : FM) (ds : List D) (S : Sto) : R D := (m (.loc S.length :: ds) (S ++ [.ins k []])).bind fun d S2 => match d with
  | .non => .ok (.loc S.length) S2
  | _ => .bad
def e_mk (tr : TrF) (k : Nat) (m : FM) (am : AM) : EM := fun env S => (am env S).bind fun ds S1 => tr S1 (mkD k m ds S1)
/-- a new instance without fields -/
theorem mk_start {k : Nat} {C x dx : Addr} {ds : List D} {vs : List V} (r : Rep w c H S) (gC : w.Γ.at_ k = some C) (t : Ats w c H S.length ds vs) (hx : H x = none) (hd : H dx = none) (ne : dx ≠ x) :
    Ext c H S.length (c.nw S.length x) (upd (upd H dx (.own x)) x (.ins C dx [])) (S ++ [SO.ins k []]).length ∧ Rep w (c.nw S.length x) (upd (upd H dx (.own x)) x (.ins C dx [])) (S ++ [.ins k []]) ∧
      Ats w (c.nw S.length x) (upd (upd H dx (.own x)) x (.ins C dx [])) (S ++ [SO.ins k []]).length (.loc S.length :: ds) (.ref x :: vs) := by
  have hl : (S ++ [SO.ins k []]).length = S.length + 1 := by rw [List.length_append]; rfl
  have e1 : Ext c H S.length c (upd H dx (.own x)) S.length := Ext.grow hd
  have r1 : Rep w c (upd H dx (.own x)) S := r.grow hd
  have hx1 : (upd H dx (.own x)) x = none := by rw [upd_ne (Ne.symm ne)]; exact hx
  have e2 : Ext c (upd H dx (.own x)) S.length (c.nw S.length x) (upd (upd H dx (.own x)) x (.ins C dx [])) (S.length + 1) := Ext.nw hx1
  rw [hl]
  refine ⟨e1.trans e2, r1.nw hx1 ⟨[], C, dx, gC, Nat.zero_le _, by rw [upd_same, List.zip_nil_right], .nil⟩, .cons ?_ (t.mono (e1.trans e2))⟩
  unfold At
  exact ⟨Nat.lt_succ_self _, by rw [Cn.nw_at]⟩
theorem mk_read {k : Nat} {m : FM} {C : Addr} {tr : TrF} {σ : St} {H : Hp} {Q : VK} (ht : TrOk tr) (gC : Γ.at_ k = some C) (h : mE ⟨X.K, Γ⟩ W (e_mk tr k m am) σ H Q) : tMakeS C (spM X.K Γ m) (fun σ => WE W σ) (mA ⟨X.K, Γ⟩ W am) σ H Q := by
  obtain ⟨c, env, S, r, ev, h⟩ := h
  refine ⟨c, env, S, r, ev, (Po.bind h).imp fun vs H1 ⟨c1, S1, ds, e1, r1, a1, h1⟩ x dx hx hd ne => ?_⟩
  obtain ⟨e2, r2, t2⟩ := mk_start (w := ⟨X.K, Γ⟩) r1 gC a1 hx hd ne
  have h2 := Po.mono e2 (ht _ _ _ _ _ _ _ _ r1 h1)
  refine ⟨_, _, _, r2, t2, ?_⟩
  refine Po.wish ((Po.bind h2).imp fun v H3 ⟨c3, S3, d3, e3, r3, a3, h3⟩ => ?_) fun _ _ _ z => z
  cases d3 with
  | non =>
    refine ⟨a3.non, h3 c3 H3 _ Ext.refl r3 ?_⟩
    have hl : (S1 ++ [SO.ins k []]).length = S1.length + 1 := by rw [List.length_append]; rfl
    unfold At
    have hlt : S1.length < (S1 ++ [SO.ins k []]).length := by rw [hl]; exact Nat.lt_succ_self _
    exact ⟨Nat.lt_of_lt_of_le hlt e3.le, by rw [e3.rho _ hlt, Cn.nw_at]⟩
  | _ => exact h3.elim
theorem c_mk {k lv : Nat} {x : Str} {m : FM} {p : Pos} {tr : TrF} (tok : TrOk tr) (G : Dk X.prog X.w X.K X.mg X.base Γ k x lv m) (go : Goes X W) (hr : Room (lv + 1) X.A) (hg : Gl X x) (ha : CA Γ X W (e :: es) am)
    (hdb : (x == ("__debug__" : Str)) = false := by decide) (he : starEach (e :: es) X.env = (false, eval e X.env) :: starEach es X.env := by rfl) (hpl : (backTo pos (starEach es X.env)).any (·.1) = false := by rfl) : CE Γ X W (.Call (.Name x p) (e :: es) [] pos) (e_mk tr k m am) := by
  obtain ⟨C, f, fd, ps, gC, hm, M, F, hb⟩ := G.ex
  exact PE.weak (pe_makeS (E := fun σ => WE W σ) M F hr hg hm hb go ha hdb he hpl) fun σ H Q h => mk_read tok gC h
theorem tMakeS_nil {C : Addr} {sp : Sp} {E : St → XK} {Q : VK} (h : tMakeS C sp E (mA w W a_nil) σ H Q) : tMakeS C sp E tNil σ H Q := ca_nil_read h
theorem c_mk0 {k lv : Nat} {x : Str} {m : FM} {p : Pos} {tr : TrF} (tok : TrOk tr) (G : Dk X.prog X.w X.K X.mg X.base Γ k x lv m) (go : Goes X W) (hr : Room (lv + 1) X.A) (hg : Gl X x) (hdb : (x == ("__debug__" : Str)) = false := by decide) : CE Γ X W (.Call (.Name x p) [] [] pos) (e_mk tr k m a_nil) := by
  obtain ⟨C, f, fd, ps, gC, hm, M, F, hb⟩ := G.ex
  exact PE.weak (pe_makeS0 (E := fun σ => WE W σ) M F hr hg hm hb go hdb) fun σ H Q h => tMakeS_nil (mk_read tok gC h)
/-! ## a class's own operators -/
/-- the class k has its own operator x, which is m -/
structure Dn' (P : Program) (wd : World) (K : PySem.W.Frag) (mg : Str → Option Value) (base : Heap) (Γ : Cls') (k : Nat) (x : Str) (lv : Nat) (m : FM) : Prop where
  ex : ∃ (C f : Addr) (fd : FuncData) (ps : List Str), Γ.at_ k = some C ∧ OwnM K C x f ∧ PySem.W.fnIn K f = true ∧ FnOk P wd K mg base (L2.CX P wd) lv f fd ps (spM K Γ m) ∧ Binds K fd ps []
open Classical in
noncomputable def e_own2 (tr : TrF) (k : Nat) (m : FM) (ma mb : EM) : EM := fun env S => (ma env S).bind fun x S1 => (mb env S1).bind fun y S2 => .if (isI k x S2) (tr S2 (m [x, y] S2))
open Classical in
/-- y in x by x's own __contains__; neg: not in. No error comes out -/
noncomputable def e_ownIn (tr : TrF) (neg : Bool) (k : Nat) (m : FM) (ma mb : EM) : EM := fun env S => (ma env S).bind fun y S1 => (mb env S1).bind fun x S2 => .if (isI k x S2) ((tr S2 (m [x, y] S2)).nox.bind fun d S3 => match d with
  | .bl b => .ok (.bl (neg ^^ b)) S3
  | _ => .bad)
end
end Mm
set_option maxRecDepth 100000
/-! Short words for what a program says. -/
namespace Mm
open PySem L2
section
variable {w : Wn} {W : WX} {σ : St} {c c' : Cn} {H H' : Hp} {n n' : Nat} {S : Sto} {env : Env}
variable {Γ : Cls'} {X : Cx} {a b e o tg : Expr} {es : List Expr} {ma mb mo : EM} {am : AM} {pos : Pos} {Dn : Ends}
abbrev subD := intD0 fun i j => .int (i - j)
abbrev modD := intD (fun _ j => 0 < j) fun i j => .int (i % j)
abbrev divD := intD CDiv fun i j => .int (i / j)
abbrev powD := intD CPow fun i j => .int (i ^ j.toNat)
abbrev ltD := intD0 fun i j => .bl (decide (i < j))
abbrev leD := intD0 fun i j => .bl (decide (i ≤ j))
abbrev gtD := intD0 fun i j => .bl (decide (j < i))
abbrev geD := intD0 fun i j => .bl (decide (j ≤ i))
abbrev max2D := intD0 fun i j => .int (if j > i then j else i)
abbrev min2D := intD0 fun i j => .int (if j < i then j else i)
theorem g_sub : GOp Γ X subD (rI0 fun i j => .int (i - j)) := g_int0 fun _ _ => rfl
theorem g_mod : GOp Γ X modD (rI (fun _ j => 0 < j) fun i j => .int (i % j)) := g_int fun _ _ => rfl
theorem g_div : GOp Γ X divD (rI CDiv fun i j => .int (i / j)) := g_int fun _ _ => rfl
theorem g_pow : GOp Γ X powD (rI CPow fun i j => .int (i ^ j.toNat)) := g_int fun _ _ => rfl
theorem g_lt : GOp Γ X ltD (rI0 fun i j => .bl (decide (i < j))) := g_int0 fun _ _ => rfl
theorem g_le : GOp Γ X leD (rI0 fun i j => .bl (decide (i ≤ j))) := g_int0 fun _ _ => rfl
theorem g_gt : GOp Γ X gtD (rI0 fun i j => .bl (decide (j < i))) := g_int0 fun _ _ => rfl
theorem g_max2 : GCall Γ X (f2 max2D) (fun xs H Q => ∃ i j, xs = [.int i, .int j] ∧ Q (.int (if j > i then j else i)) H) := g_int2
theorem g_notN : GOp Γ X (isD true) (fun x y H Q => y = .non ∧ Q (.bl (!decide (x = .non))) H) := by
  intro W σ c H S x y v u Q r a b h
  cases y with
  | non => exact ⟨b.non, by rw [isNon_at a]; simpa using fin_ok h r (.b _)⟩
  | _ => exact h.elim
def negD (x : D) (S : Sto) : R D := match x with
  | .int i => .ok (.int (-i)) S
  | _ => .bad
@[simp] theorem negD_int (i : Int) (S : Sto) : negD (.int i) S = .ok (.int (-i)) S := rfl
def e_neg (m : EM) : EM := fun env S => (m env S).bind negD
/-! ## x in xs, the items as data -/
def inD (neg : Bool) (x y : D) (S : Sto) : R D := match pyOf S x, (seqOf S y).bind pyDs with
  | some p, some ps => .if (SeqAt.shaped p = true ∧ SeqAt.shaped (.list ps) = true) (.ok (.bl (neg ^^ ps.any fun z => PyData.eqv z p)) S)
  | _, _ => .bad
/-! ## names -/
theorem cv (i : Nat) {x : Str} {pos : Pos} (hN : X.N[i]? = some x := by rfl) (hv : Vis X.env.scope x := by first | exact Or.inl rfl | exact Or.inr (Or.inl rfl) | exact Or.inr (Or.inr rfl)) (hd : (x == ("__debug__" : Str)) = false := by decide)
    (hcd : (x == ("__classdict__" : Str)) = false := by decide) : CE Γ X W (.Name x pos) (e_v i) := c_var hN hv hd hcd
theorem cgn (i : Nat) {x : Str} {pos : Pos} (hN : X.N.Nodup) (hi : X.N[i]? = some x := by rfl) (hx : Loc X.env.scope x := by first | exact Or.inl rfl | exact Or.inr rfl) (hf : X.fn x = true ∨ X.env.scope.names.lookup x = some .local := by first | exact .inl rfl | exact .inr rfl) : CG Γ X (.Name x pos) [i] (g_name i) := c_gname hN hi hx hf
theorem cset (i : Nat) {x : Str} {pos pos' : Pos} (hN : X.N.Nodup) (he : CE Γ X W e ma) (hi : X.N[i]? = some x := by rfl) (hx : Loc X.env.scope x := by first | exact Or.inl rfl | exact Or.inr rfl) (hs : swapsWith e (some (.Name x pos')) pos.line X.env = pure false := by rfl) (hf : X.fn x = true ∨ X.env.scope.names.lookup x = some .local := by first | exact .inl rfl | exact .inr rfl) :
    CS Γ X W (.Assign [.Name x pos'] e pos) (s_set i ma) := c_set hN hi hx he hs hf
theorem hF1 {K : PySem.W.Frag} {p : Nat × Nat} {f : Str} (h : HasF K Γ p.1 p.2 f) : ∀ q ∈ [p], HasF K Γ q.1 q.2 f := fun q hq => by rw [List.mem_singleton.mp hq]; exact h
theorem hF2 {K : PySem.W.Frag} {p p2 : Nat × Nat} {f : Str} (h : HasF K Γ p.1 p.2 f) (h2 : HasF K Γ p2.1 p2.2 f) : ∀ q ∈ [p, p2], HasF K Γ q.1 q.2 f := fun q hq => by
  rcases List.mem_cons.mp hq with rfl | hq
  · exact h
  · rw [List.mem_singleton.mp hq]; exact h2
theorem hu64 {k : Nat} {A : Around} (hr : Room k A) : A.units + 64 < cLine := by have := hr.un; omega
theorem go_def {P : Program} {wd : World} {K : PySem.W.Frag} {mg : Str → Option Value} {base : Heap} {N : List Str} {qual : Str} {sc : Scope} {f : Addr} {cd : Value} {A : Around} {outer : List PySem.Env} {s : Shared} {H : Hp} {E : XK} :
    Goes (cxOf (L2.CX P wd) P wd K mg base N qual sc f cd A outer s H E) (fun C dd _ H => E C dd H) := goes_of (takes_of rfl rfl rfl rfl)
end
/-! ## what a term means: the parts' own equations -/
@[simp] theorem e_op_eq (g : D → D → Sto → R D) (ma mb : EM) (env : Env) (S : Sto) : e_op g ma mb env S = (ma env S).bind fun x S1 => (mb env S1).bind fun y S2 => g x y S2 := rfl
@[simp] theorem e_v_eq (i : Nat) (env : Env) (S : Sto) : e_v i env S = match env[i]? with
  | some (some d) => .ok d S
  | _ => .bad := rfl
@[simp] theorem a_nil_eq (env : Env) (S : Sto) : a_nil env S = .ok [] S := rfl
@[simp] theorem a_cons_eq (m : EM) (r : AM) (env : Env) (S : Sto) : a_cons m r env S = (m env S).bind fun d S1 => (r env S1).bind fun ds S2 => .ok (d :: ds) S2 := rfl
@[simp] theorem e_tup_eq (m : AM) (env : Env) (S : Sto) : e_tup m env S = (m env S).bind fun ds S1 => .if (ds.length ≤ 1000) (.ok (.tup ds) S1) := rfl
@[simp] theorem e_lst_eq (m : AM) (env : Env) (S : Sto) : e_lst m env S = (m env S).bind fun ds S1 => .if (ds.length ≤ 1000) (.ok (.lst ds) S1) := rfl
@[simp] theorem e_new_eq (m : AM) (env : Env) (S : Sto) : e_new m env S = (m env S).bind fun ds S1 => .if (ds.length ≤ 1000) (.ok (.loc S1.length) (S1 ++ [.lst ds])) := rfl
@[simp] theorem e_call_eq (g : List D → Sto → R D) (m : AM) (env : Env) (S : Sto) : e_call g m env S = (m env S).bind fun ds S1 => g ds S1 := rfl
@[simp] theorem e_fn_eq (tr : TrF) (m : FM) (am : AM) (env : Env) (S : Sto) : e_fn tr m am env S = (am env S).bind fun ds S1 => tr S1 (m ds S1) := rfl
@[simp] theorem e_sl_eq (m : EM) (l h : OM) (env : Env) (S : Sto) : e_sl m l h env S = (m env S).bind fun d S1 => (l env S1).bind fun lo S2 => (h env S2).bind fun hi S3 => slD d lo hi S3 := rfl
@[simp] theorem o_none_eq (env : Env) (S : Sto) : o_none env S = .ok none S := rfl
@[simp] theorem o_some_eq (m : EM) (env : Env) (S : Sto) : o_some m env S = (m env S).bind fun d S1 => match d with
  | .int i => .ok (some i) S1
  | _ => .bad := rfl
@[simp] theorem s_seq_eq (m f : SM) (env : Env) (S : Sto) : s_seq m f env S = (m env S).bind f := rfl
@[simp] theorem s_nil_eq (env : Env) (S : Sto) : s_nil env S = .next env S := rfl
@[simp] theorem s_set_eq (i : Nat) (m : EM) (env : Env) (S : Sto) : s_set i m env S = (m env S).toS env fun d S1 => .next (env.set i (some d)) S1 := rfl
@[simp] theorem s_ret_eq (m : EM) (env : Env) (S : Sto) : s_ret m env S = (m env S).toS env fun d S1 => .ret d S1 := rfl
@[simp] theorem s_ex_eq (m : EM) (env : Env) (S : Sto) : s_ex m env S = (m env S).toS env fun _ S1 => .next env S1 := rfl
@[simp] theorem s_if_eq (t : TM) (p q : SM) (env : Env) (S : Sto) : s_if t p q env S = (t env S).toS env fun k S1 => if k = true then p env S1 else q env S1 := rfl
@[simp] theorem s_asg_eq (m : EM) (g : GM) (env : Env) (S : Sto) : s_asg m g env S = (m env S).toS env fun d S1 => match g d env with
  | some env1 => .next env1 S1
  | none => .bad := rfl
@[simp] theorem s_put_eq (mv mo mi : EM) (env : Env) (S : Sto) : s_put mv mo mi env S = (mv env S).toS env fun z S1 => (mo env S1).toS env fun x S2 => (mi env S2).toS env fun y S3 => match setL S3 x y z with
  | some S4 => .next env S4
  | none => .bad := rfl
@[simp] theorem s_for_eq (im : IM) (g : GM) (body : SM) (env : Env) (S : Sto) : s_for im g body env S = (im env S).toS env fun it S1 => loopS g body it.2 it.1 env S1 := rfl
@[simp] theorem t_v_eq (m : EM) (env : Env) (S : Sto) : t_v m env S = (m env S).bind fun d S1 => .ofO (truD S1 d) S1 := rfl
@[simp] theorem t_b_eq (m : EM) (env : Env) (S : Sto) : t_b m env S = (m env S).bind fun d S1 => .ofO (blD d) S1 := rfl
@[simp] theorem t_and_eq (p q : TM) (env : Env) (S : Sto) : t_and p q env S = (p env S).bind fun k S1 => if k = true then q env S1 else .ok false S1 := rfl
@[simp] theorem t_or_eq (p q : TM) (env : Env) (S : Sto) : t_or p q env S = (p env S).bind fun k S1 => if k = true then .ok true S1 else q env S1 := rfl
@[simp] theorem t_not_eq (p : TM) (env : Env) (S : Sto) : t_not p env S = (p env S).bind fun k S1 => .ok (!k) S1 := rfl
@[simp] theorem e_if_eq (t : TM) (p q : EM) (env : Env) (S : Sto) : e_if t p q env S = (t env S).bind fun k S1 => if k = true then p env S1 else q env S1 := rfl
@[simp] theorem i_seq_eq (m : EM) (env : Env) (S : Sto) : i_seq m env S = (m env S).bind fun d S1 => .ofO (itsOf S1 d) S1 := rfl
@[simp] theorem e_meth_eq (ty : D → Sto → Bool) (g : D → List D → Sto → R D) (mo : EM) (m : AM) (env : Env) (S : Sto) : e_meth ty g mo m env S = (mo env S).bind fun x S1 => .if (ty x S1 = true) ((m env S1).bind fun ds S2 => g x ds S2) := rfl
@[simp] theorem e_fld_eq (cs : List (Nat × Nat)) (m : EM) (env : Env) (S : Sto) : e_fld cs m env S = (m env S).bind fun d S1 => .ofO (fldD cs d S1) S1 := rfl
@[simp] theorem s_fld_eq (cs : List (Nat × Nat)) (mo mv : EM) (env : Env) (S : Sto) : s_fld cs mo mv env S = (mv env S).toS env fun z S1 => (mo env S1).toS env fun d S2 => match setF cs d z S2 with
  | some S3 => .next env S3
  | none => .bad := rfl
@[simp] theorem g_name_eq (i : Nat) (d : D) (env : Env) : g_name i d env = some (env.set i (some d)) := rfl
@[simp] theorem e_lcG_eq (vs : List Nat) (im : IM) (g : GM) (t : TM) (m : EM) (fin : List D → Sto → R D) (env : Env) (S : Sto) : e_lcG vs im g t m fin env S = (im env S).bind fun it S1 => (lcM g t m (wipeE env vs) it.2 it.1 [] S1).bind fin := rfl
@[simp] theorem e_not_eq (p : EM) (env : Env) (S : Sto) : e_not p env S = (p env S).bind fun d S1 => match d with
  | .bl k => .ok (.bl (!k)) S1
  | _ => .bad := rfl
@[simp] theorem e_and_eq (p q : EM) (env : Env) (S : Sto) : e_and p q env S = (p env S).bind fun d S1 => match d with
  | .bl true => q env S1
  | .bl false => .ok (.bl false) S1
  | _ => .bad := rfl
@[simp] theorem e_or_eq (p q : EM) (env : Env) (S : Sto) : e_or p q env S = (p env S).bind fun d S1 => match d with
  | .bl true => .ok (.bl true) S1
  | .bl false => q env S1
  | _ => .bad := rfl
theorem runDef_eq {np nl : Nat} {b : SM} {ds : List D} {S : Sto} (h : ds.length = np) : runDef np nl b ds S = endF (b (ds.map some ++ List.replicate (nl - np) none) S) := if_pos h
/-! ## places of the store, read and written -/
@[simp] theorem lstOf_loc' (S : Sto) (k : Nat) : lstOf S (.loc k) = match S[k]? with
  | some (.lst ds) => some ds
  | _ => none := rfl
@[simp] theorem seqOf_loc' (S : Sto) (k : Nat) : seqOf S (.loc k) = match S[k]? with
  | some (.lst ds) => some ds
  | _ => none := rfl
@[simp] theorem ixD_loc' (S : Sto) (k : Nat) (i : Int) : ixD (.loc k) (.int i) S = .ofO ((seqOf S (.loc k)).bind fun ds => atI ds i) S := rfl
@[simp] theorem lenD_loc' (S : Sto) (k : Nat) : lenD (.loc k) S = .ofO ((seqOf S (.loc k)).map fun ds => D.int ds.length) S := rfl
@[simp] theorem truD_loc' (S : Sto) (k : Nat) : truD S (.loc k) = (seqOf S (.loc k)).map fun ds => !ds.isEmpty := rfl
@[simp] theorem tyL_loc' (S : Sto) (k : Nat) : tyL (.loc k) S = (seqOf S (.loc k)).isSome := rfl
@[simp] theorem appD_loc' (S : Sto) (k : Nat) (y : D) : appD (.loc k) [y] S = match S[k]? with
  | some (.lst es) => .if (es.length < sizeLine) (.ok .non (S.set k (.lst (es ++ [y]))))
  | _ => .bad := rfl
@[simp] theorem extD_loc' (S : Sto) (k : Nat) (y : D) : extD (.loc k) [y] S = match S[k]?, lstOf S y with
  | some (.lst es), some fs => .if (es.length + fs.length ≤ sizeLine) (.ok .non (S.set k (.lst (es ++ fs))))
  | _, _ => .bad := rfl
@[simp] theorem setL_loc' (S : Sto) (k : Nat) (i : Int) (z : D) : setL S (.loc k) (.int i) z = match S[k]? with
  | some (.lst ds) => (ixN ds.length i).map fun j => S.set k (.lst (ds.set j z))
  | _ => none := rfl
@[simp] theorem itsOf_loc' (S : Sto) (k : Nat) : itsOf S (.loc k) = match S[k]? with
  | some (.lst ds) => some (ds, some (k, ds))
  | _ => none := rfl
@[simp] theorem insOf_loc' (S : Sto) (k : Nat) : insOf S (.loc k) = match S[k]? with
  | some (.ins c ds) => some (c, ds)
  | _ => none := rfl
@[simp] theorem tupleD_loc' (S : Sto) (k : Nat) : tupleD (.loc k) S = .ofO ((seqOf S (.loc k)).map D.tup) S := rfl
@[simp] theorem listD_loc' (S : Sto) (k : Nat) : listD (.loc k) S = .ofO ((seqOf S (.loc k)).map D.lst) S := rfl
@[simp] theorem listN_loc' (S : Sto) (k : Nat) : listN (.loc k) S = match S[k]? with
  | some (.lst ds) => .ok (.loc S.length) (S ++ [.lst ds])
  | _ => .bad := by
  unfold listN
  rw [seqOf_loc']
  cases S[k]? with
  | none => rfl
  | some o => cases o <;> rfl
@[simp] theorem addD_locl (S : Sto) (k : Nat) (y : D) : addD (.loc k) y S = match lstOf S (.loc k), lstOf S y with
  | some a, some b => .if (a.length + b.length ≤ sizeLine) (.ok (.lst (a ++ b)) S)
  | _, _ => .bad := by cases y <;> rfl
@[simp] theorem addD_lstl (S : Sto) (a : List D) (k : Nat) : addD (.lst a) (.loc k) S = match lstOf S (.loc k) with
  | some b => .if (a.length + b.length ≤ sizeLine) (.ok (.lst (a ++ b)) S)
  | _ => .bad := by
  show addL S (.lst a) (.loc k) = _
  unfold addL
  rw [lstOf_lst]
  cases lstOf S (.loc k) <;> rfl
@[simp] theorem endF_ite (c : Prop) [Decidable c] (x y : RS) : endF (if c then x else y) = if c then endF x else endF y := by split <;> rfl
@[simp] theorem R.ofO_none {α : Type} (S : Sto) : R.ofO (none : Option α) S = .bad := rfl
@[simp] theorem atI_lit0 {α : Type} (x : α) (xs : List α) : atI (x :: xs) 0 = some x := by
  unfold atI ixN; simp
theorem atI_k {α : Type} (k : Nat) (xs : List α) : atI xs ((k : Nat) : Int) = xs[k]? := by
  cases h : xs[k]? with
  | some v => exact atI_nat h
  | none =>
    have := List.getElem?_eq_none_iff.mp h
    unfold atI ixN
    rw [if_pos (by omega), if_neg (by omega)]; rfl
@[simp] theorem atI_lit1 {α : Type} (xs : List α) : atI xs 1 = xs[1]? := atI_k 1 xs
@[simp] theorem atI_lit2 {α : Type} (xs : List α) : atI xs 2 = xs[2]? := atI_k 2 xs
@[simp] theorem atI_lit3 {α : Type} (xs : List α) : atI xs 3 = xs[3]? := atI_k 3 xs
@[simp] theorem atI_lit4 {α : Type} (xs : List α) : atI xs 4 = xs[4]? := atI_k 4 xs
@[simp] theorem atI_lit5 {α : Type} (xs : List α) : atI xs 5 = xs[5]? := atI_k 5 xs
@[simp] theorem atI_lit6 {α : Type} (xs : List α) : atI xs 6 = xs[6]? := atI_k 6 xs
@[simp] theorem atI_lit7 {α : Type} (xs : List α) : atI xs 7 = xs[7]? := atI_k 7 xs
@[simp] theorem atI_lit8 {α : Type} (xs : List α) : atI xs 8 = xs[8]? := atI_k 8 xs
@[simp] theorem atI_lit9 {α : Type} (xs : List α) : atI xs 9 = xs[9]? := atI_k 9 xs
theorem set_get {S : Sto} {p : Nat} {a : SO} (h : S[p]? = some a) (o : SO) : (S.set p o)[p]? = some o := List.getElem?_set_self (Rep.lt h)
theorem set_set (S : Sto) (p : Nat) (a b : SO) : (S.set p a).set p b = S.set p b := List.set_set ..
end Mm
set_option maxRecDepth 100000
/-! Constants of the module, isinstance, chains, all / any / sum / max / sorted, loops by test, range as a value. -/
namespace Mm
open PySem L2
section
variable {w : Wn} {W : WX} {σ : St} {c c' : Cn} {H H' : Hp} {n n' : Nat} {S : Sto} {env : Env}
variable {Γ : Cls'} {X : Cx} {a b e o tg : Expr} {es : List Expr} {ma mb mo : EM} {am : AM} {pos : Pos} {Dn : Ends}
/-- the module's name x holds d -/
structure GlD (K : PySem.W.Frag) (Γ : Cls') (mg : Str → Option Value) (x : Str) (d : D) : Prop where
  ex : ∃ u v, mg x = some u ∧ RelV v u ∧ ∀ c H n, At ⟨K, Γ⟩ c H n d v
theorem c_gl {x : Str} {d : D} (G : GlD X.K Γ X.mg x d) (hg : Gl X x := by rfl) (hd : (x == ("__debug__" : Str)) = false := by decide) : CE Γ X W (.Name x pos) (e_k d) := by
  obtain ⟨u, v, hm, rv, a⟩ := G.ex
  exact PE.weak (pe_glob hg hm rv hd) fun σ H Q ⟨c, env, S, r, ev, h⟩ => fin_ok h r (a c H S.length)
/-- a part that is not reached -/
def e_bad : EM := fun _ _ => .bad
@[simp] theorem e_bad_eq (env : Env) (S : Sto) : e_bad env S = .bad := rfl
def t_bad : TM := fun _ _ => .bad
@[simp] theorem t_bad_eq (env : Env) (S : Sto) : t_bad env S = .bad := rfl
@[simp] theorem s_bad_eq (env : Env) (S : Sto) : s_bad env S = .bad := rfl
/-! ## isinstance -/
abbrev Ty := String ⊕ Nat
def tyOf (S : Sto) (d : D) : Option Ty := match d with
  | .non => some (.inl "NoneType")
  | .bl _ => some (.inl "bool")
  | .int _ => some (.inl "int")
  | .str _ => some (.inl "str")
  | .tup _ => some (.inl "tuple")
  | .ttp _ => some (.inl "tuple")
  | .lst _ => some (.inl "list")
  | .fz _ => some (.inl "list")
  | .dic _ _ => some (.inl "dict")
  | .obj k _ => some (.inr k)
  | .loc j => match S[j]? with
    | some (.lst _) => some (.inl "list")
    | some (.dic _ _) => some (.inl "dict")
    | some (.ins k _) => some (.inr k)
    | none => none
  | .oth _ => none
  | .xn _ _ => none
@[simp] theorem tyOf_non (S : Sto) : tyOf S .non = some (.inl "NoneType") := rfl
@[simp] theorem tyOf_bl (S : Sto) (b : Bool) : tyOf S (.bl b) = some (.inl "bool") := rfl
@[simp] theorem tyOf_int (S : Sto) (i : Int) : tyOf S (.int i) = some (.inl "int") := rfl
@[simp] theorem tyOf_str (S : Sto) (x : Str) : tyOf S (.str x) = some (.inl "str") := rfl
@[simp] theorem tyOf_tup (S : Sto) (ds : List D) : tyOf S (.tup ds) = some (.inl "tuple") := rfl
@[simp] theorem tyOf_lst (S : Sto) (ds : List D) : tyOf S (.lst ds) = some (.inl "list") := rfl
@[simp] theorem tyOf_obj (S : Sto) (k : Nat) (ds : List D) : tyOf S (.obj k ds) = some (.inr k) := rfl
@[simp] theorem tyOf_loc (S : Sto) (j : Nat) : tyOf S (.loc j) = match S[j]? with
    | some (.lst _) => some (.inl "list")
    | some (.dic _ _) => some (.inl "dict")
    | some (.ins k _) => some (.inr k)
    | none => none := rfl
/-- what isinstance must know of a class of the text -/
structure InsC (K : PySem.W.Frag) (C : Addr) : Prop where
  cl : Cls K C
  ha : PySem.W.findIn K (.ref C) "__class__" = some (some (.builtin "object.__class__"))
  hn : PySem.W.specialIn K (.builtin "object.__class__") "__get__" = some (some (.builtin "getset_descriptor.__get__"))
  ht : PySem.W.takesIn K (.builtin "object.__class__") = some true
  hm : PySem.W.mroIn K C (.type "object") = some true
structure KitOk (K : PySem.W.Frag) (Γ : Cls') (u : Value) (kt : Ty → Option Bool) : Prop where
  b : ∀ a r, kt (.inl a) = some r → PySem.W.kitOne K (.type a) u = some r
  o : ∀ k r C, kt (.inr k) = some r → Γ.at_ k = some C → InsC K C ∧ PySem.W.kitOne K (.ref C) u = some r
def ktB (T : String) : Ty → Option Bool := fun t => match t with
  | .inl a => kitB a T
  | .inr _ => none
theorem ktB_ok {K : PySem.W.Frag} {T : String} : KitOk K Γ (.type T) (ktB T) := ⟨fun a r h => kit_ty h, fun k r C h => by cases h⟩
theorem sqT_ty {K : PySem.W.Frag} {p : Addr} {xs : List V} (h : SqT K H p xs) : TyX K H (.ref p) (.type "tuple") := by
  rcases h with (h | ⟨o, h⟩) | ⟨o, its, n, h, hc, _⟩
  · exact .base (.tup h)
  · exact .fTuple h
  · exact .kTuple h hc
theorem sqL_ty {K : PySem.W.Frag} {p : Addr} {xs : List V} (h : SqL K H p xs) : TyX K H (.ref p) (.type "list") := by
  rcases h with (h | ⟨o, h⟩) | ⟨o, its, n, h, hc, _⟩
  · exact .base (.lst h)
  · exact .base (.frz h)
  · exact .kList h hc
theorem dic_ty {K : PySem.W.Frag} {p : Addr} {vs : List V} {P Q : List Key → Prop} {P' Q' : List (List Key) → Prop} (h : (∃ kk : List Key, H p = some (.dK (kk.zip vs)) ∧ P kk ∧ Q kk) ∨ (∃ kk : List (List Key), H p = some (.dT (kk.zip vs)) ∧ P' kk ∧ Q' kk)) : TyX K H (.ref p) (.type "dict") := by
  rcases h with ⟨kk, h, _⟩ | ⟨kk, h, _⟩
  · exact .base (.dK h)
  · exact .base (.dT h)
theorem dkA_ex {w : Wn} {p : Addr} {vs : List V} {P Q : List Key → Prop} {P' Q' : List (List Key) → Prop} (hl : w.Γ.lk = none) (h : (∃ kk : List Key, DkA w H p (.dK (kk.zip vs)) ∧ P kk ∧ Q kk) ∨ (∃ kk : List (List Key), DkA w H p (.dT (kk.zip vs)) ∧ P' kk ∧ Q' kk)) : (∃ kk : List Key, H p = some (.dK (kk.zip vs)) ∧ P kk ∧ Q kk) ∨ (∃ kk : List (List Key), H p = some (.dT (kk.zip vs)) ∧ P' kk ∧ Q' kk) := by
  rcases h with ⟨kk, h, q⟩ | ⟨kk, h, q⟩
  · exact .inl ⟨kk, h.ex hl, q⟩
  · exact .inr ⟨kk, h.ex hl, q⟩
theorem tyOf_at {d : D} {v : V} {t : Ty} (hl : w.Γ.lk = none) (r : Rep w c H S) (at_ : At w c H S.length d v) (h : tyOf S d = some t) :
    (∃ s, t = .inl s ∧ TyX w.K H v (.type s)) ∨ ∃ k C dx fs p, t = .inr k ∧ v = .ref p ∧ w.Γ.at_ k = some C ∧ H p = some (.ins C dx fs) := by
  cases d with
  | non => cases h; rw [at_.non]; exact .inl ⟨_, rfl, .base .non⟩
  | bl b => cases h; rw [at_.bl]; exact .inl ⟨_, rfl, .base (.bl _)⟩
  | int b => cases h; rw [at_.int]; exact .inl ⟨_, rfl, .base (.int _)⟩
  | str b => cases h; rw [at_.str]; exact .inl ⟨_, rfl, .base (.str _)⟩
  | tup ds =>
    cases h
    obtain ⟨p, vs, rfl, g, _⟩ := at_.tup
    exact .inl ⟨_, rfl, sqT_ty g⟩
  | ttp ds =>
    cases h
    unfold At at at_
    obtain ⟨p, vs, rfl, g, _⟩ := at_
    exact .inl ⟨_, rfl, .base (.tup g)⟩
  | lst ds =>
    cases h
    unfold At at at_
    obtain ⟨p, vs, rfl, f, g, _⟩ := at_
    exact .inl ⟨_, rfl, .base (.lst g)⟩
  | fz ns =>
    cases h
    unfold At at at_
    obtain ⟨p, rfl, g⟩ := at_
    exact .inl ⟨_, rfl, sqL_ty g.sq⟩
  | dic ks ds =>
    cases h
    unfold At at at_
    obtain ⟨p, vs, rfl, f, g, _⟩ := at_
    exact .inl ⟨_, rfl, dic_ty (dkA_ex hl g)⟩
  | obj k ds =>
    cases h
    unfold At at at_
    obtain ⟨p, vs, C, dx, rfl, f, g, l, s, _⟩ := at_
    exact .inr ⟨k, C, dx, _, p, rfl, rfl, g, s⟩
  | loc j =>
    rw [tyOf_loc] at h
    unfold At at at_
    obtain ⟨hj, rfl⟩ := at_
    cases ho : S[j]? with
    | none => rw [ho] at h; cases h
    | some o =>
      rw [ho] at h
      have oa := r.get ho
      cases o with
      | lst ds => cases h; obtain ⟨vs, g, _⟩ := oa; exact .inl ⟨_, rfl, .base (.lst g)⟩
      | dic ks ds => cases h; obtain ⟨vs, g, _⟩ := oa; exact .inl ⟨_, rfl, dic_ty (dkA_ex hl g)⟩
      | ins k ds => cases h; obtain ⟨vs, C, dx, g, l, s, _⟩ := oa; exact .inr ⟨k, C, dx, _, _, rfl, rfl, g, s⟩
  | oth u => cases h
  | xn k ds => cases h
def isiD (kt : Ty → Option Bool) (d : D) (S : Sto) : R D := .ofO (((tyOf S d).bind kt).map D.bl) S
def e_isi (kt : Ty → Option Bool) (m : EM) : EM := fun env S => (m env S).bind (isiD kt)
@[simp] theorem e_isi_eq (kt : Ty → Option Bool) (m : EM) (env : Env) (S : Sto) : e_isi kt m env S = (m env S).bind (isiD kt) := rfl
theorem isi_read {kt : Ty → Option Bool} {u : Value} {cv : V} {Q : VK} (hl : w.Γ.lk = none) (kk : KitOk w.K w.Γ u kt) (hc : ClsV cv u) (h : mE w W (e_isi kt ma) σ H Q) : tCB (rIsi w.K) (tCons (mE w W ma) (tCons (tC cv) tNil)) σ H Q := by
  obtain ⟨c, env, S, r, ev, h⟩ := h
  refine ⟨c, env, S, r, ev, (Po.bind h).imp fun v H1 ⟨c1, S1, d1, e1, r1, a1, h1⟩ => ?_⟩
  obtain ⟨y, hy, h1⟩ := Po.ofO h1
  cases ht : tyOf S1 d1 with
  | none => rw [ht] at hy; cases hy
  | some t =>
    rw [ht, Option.bind_some] at hy
    cases hk : kt t with
    | none => rw [hk] at hy; cases hy
    | some bb =>
      rw [hk] at hy; cases hy
      have q := fin_ok h1 r1 (.b bb)
      rcases tyOf_at hl r1 a1 ht with ⟨s, rfl, tx⟩ | ⟨k, C, dx, fs, p, rfl, rfl, g, hs⟩
      · exact ⟨v, cv, _, u, bb, rfl, hc, tx, kk.b _ _ hk, q⟩
      · obtain ⟨ic, ko⟩ := kk.o _ _ _ hk g
        exact ⟨_, cv, _, u, bb, rfl, hc, .base (.ins hs ic.cl ic.ha ic.hn ic.ht ic.hm), ko, q⟩
theorem c_isiT {T : String} {x : Str} {p q : Pos} (hl : Γ.lk = none) (hm : X.mg "isinstance" = none) (hT : X.mg x = none) (hb : bootBuiltins x = some (.type T)) (he : CE Γ X W e ma) (hg : Gl X "isinstance" := by rfl) (hgT : Gl X x := by rfl) (hn : x ≠ "__name__" := by decide) (hdb : (x == ("__debug__" : Str)) = false := by decide)
    (h1 : starEach [e, .Name x q] X.env = (false, eval e X.env) :: starEach [.Name x q] X.env := by rfl) (h2 : starEach [.Name x q] X.env = (false, eval (.Name x q) X.env) :: starEach [] X.env := by rfl) (hpl : (backTo pos (starEach [.Name x q] X.env)).any (·.1) = false := by rfl) :
    CE Γ X W (.Call (.Name "isinstance" p) [e, .Name x q] [] pos) (e_isi (ktB T) ma) :=
  PE.weak (pe_callB call_isi hg hm (by decide +kernel) (pa_cons he (pa_cons (pe_bltn (v := .ty T) hgT hT hb rfl hn hdb) pa_nil h2) h1) (by decide) (by decide) h1 hpl) fun σ H Q h => isi_read hl ktB_ok (.ty T) h
/-- the class's name -/
theorem c_isiC {C : Addr} {x : Str} {kt : Ty → Option Bool} {p q : Pos} (hl : Γ.lk = none) (hm : X.mg "isinstance" = none) (hC : X.mg x = some (.ref C)) (kk : KitOk X.K Γ (.ref C) kt) (he : CE Γ X W e ma) (hg : Gl X "isinstance" := by rfl) (hgT : Gl X x := by rfl) (hdb : (x == ("__debug__" : Str)) = false := by decide)
    (h1 : starEach [e, .Name x q] X.env = (false, eval e X.env) :: starEach [.Name x q] X.env := by rfl) (h2 : starEach [.Name x q] X.env = (false, eval (.Name x q) X.env) :: starEach [] X.env := by rfl) (hpl : (backTo pos (starEach [.Name x q] X.env)).any (·.1) = false := by rfl) :
    CE Γ X W (.Call (.Name "isinstance" p) [e, .Name x q] [] pos) (e_isi kt ma) :=
  PE.weak (pe_callB call_isi hg hm (by decide +kernel) (pa_cons he (pa_cons (pe_glob (v := .ref C) hgT hC rfl hdb) pa_nil h2) h1) (by decide) (by decide) h1 hpl) fun σ H Q h => isi_read hl kk (.own C) h
/-! ## a <= b <= c -/
def e_chain (g g' : D → D → Sto → R D) (ma mb mc : EM) : EM := fun env S => (ma env S).bind fun x S1 => (mb env S1).bind fun y S2 => (g x y S2).bind fun z S3 => match z with
  | .bl true => (mc env S3).bind fun u S4 => g' y u S4
  | .bl false => .ok (.bl false) S3
  | _ => .bad
@[simp] theorem e_chain_eq (g g' : D → D → Sto → R D) (ma mb mc : EM) (env : Env) (S : Sto) : e_chain g g' ma mb mc env S = (ma env S).bind fun x S1 => (mb env S1).bind fun y S2 => (g x y S2).bind fun z S3 => match z with
  | .bl true => (mc env S3).bind fun u S4 => g' y u S4
  | .bl false => .ok (.bl false) S3
  | _ => .bad := rfl
variable {op op' : CmpOp} {r r' : R2} {g g' : D → D → Sto → R D} {cc : Expr} {mc : EM}
theorem chain_read {Q : VK} (hg : GOp Γ X g r) (hg' : GOp Γ X g' r') (h : mE ⟨X.K, Γ⟩ W (e_chain g g' ma mb mc) σ H Q) : tChain r r' (mE ⟨X.K, Γ⟩ W ma) (mE ⟨X.K, Γ⟩ W mb) (mE ⟨X.K, Γ⟩ W mc) σ H Q := by
  obtain ⟨c, env, S, rp, ev, h⟩ := h
  refine ⟨c, env, S, rp, ev, (Po.bind h).imp fun v H1 ⟨c1, S1, d1, e1, r1, a1, h1⟩ => ?_⟩
  refine ⟨c1, env, S1, r1, ev.mono e1, (Po.bind h1).imp fun u H2 ⟨c2, S2, d2, e2, r2, a2, h2⟩ => ?_⟩
  refine hg W σ c2 H2 S2 d1 d2 v u _ r2 (a1.mono e2) a2 ((Po.bind h2).imp fun z H3 ⟨c3, S3, d3, e3, r3, a3, h3⟩ => ?_)
  cases d3 with
  | bl k =>
    refine ⟨k, a3.bl, ?_⟩
    cases k with
    | true => exact ⟨c3, env, S3, r3, ((ev.mono e1).mono e2).mono e3, (Po.bind h3).imp fun u4 H4 ⟨c4, S4, d4, e4, r4, a4, h4⟩ => hg' W σ c4 H4 S4 d2 d4 u u4 Q r4 ((a2.mono e3).mono e4) a4 h4⟩
    | false => exact fin_ok h3 r3 (.b _)
  | _ => exact h3.elim
theorem c_chain (ho : OpR X (compareOp op) r) (hg : GOp Γ X g r) (ho' : OpR X (compareOp op') r') (hg' : GOp Γ X g' r') (ha : CE Γ X W a ma) (hb : CE Γ X W b mb) (hc : CE Γ X W cc mc) (hl : lastMarks [op, op'] [b, cc] = false := by rfl) : CE Γ X W (.Compare a [op, op'] [b, cc] pos) (e_chain g g' ma mb mc) :=
  PE.weak (pe_chain ho ho' ha hb hc hl) fun σ H Q h => chain_read hg hg' h
theorem c_tchain (ho : OpR X (compareOp op) r) (hg : GOp Γ X g r) (ho' : OpR X (compareOp op') r') (hg' : GOp Γ X g' r') (ha : CE Γ X W a ma) (hb : CE Γ X W b mb) (hc : CE Γ X W cc mc) (hl : lastMarks [op, op'] [b, cc] = false := by rfl) : CT Γ X W (.Compare a [op, op'] [b, cc] pos) (t_b (e_chain g g' ma mb mc)) :=
  PT.weak (pt_chain ho ho' ha hb hc hl) fun σ H Q h => chain_read hg hg' (tB_ok h)
/-! ## lists of one kind -/
def blO : D → Option Bool
  | .bl b => some b
  | _ => none
def inO : D → Option Int
  | .int i => some i
  | _ => none
def stO : D → Option Str
  | .str x => some x
  | _ => none
def allO {α : Type} (f : D → Option α) : List D → Option (List α)
  | [] => some []
  | d :: r => (f d).bind fun x => (allO f r).map fun y => x :: y
@[simp] theorem allO_nil {α : Type} (f : D → Option α) : allO f [] = some [] := rfl
@[simp] theorem allO_cons {α : Type} (f : D → Option α) (d : D) (r : List D) : allO f (d :: r) = (f d).bind fun x => (allO f r).map fun y => x :: y := rfl
@[simp] theorem inO_int (i : Int) : inO (.int i) = some i := rfl
@[simp] theorem stO_str (i : Str) : stO (.str i) = some i := rfl
@[simp] theorem blO_bl (i : Bool) : blO (.bl i) = some i := rfl
theorem allO_map {α : Type} {f : D → Option α} {g : α → D} (h : ∀ x, f (g x) = some x) : ∀ xs : List α, allO f (xs.map g) = some xs
  | [] => rfl
  | x :: r => by rw [List.map_cons, allO_cons, h, Option.bind_some, allO_map h r]; rfl
theorem allO_at {α : Type} {f : D → Option α} {fv : α → V} (hf : ∀ d x v, f d = some x → At w c H n d v → v = fv x) : ∀ {ds : List D} {xs : List α} {vs : List V}, allO f ds = some xs → Ats w c H n ds vs → vs = xs.map fv
  | [], xs, vs, h, a => by cases h; exact a.unnil
  | d :: r, xs, vs, h, a => by
    rw [allO_cons] at h
    obtain ⟨v, vr, rfl, a1, a2⟩ := a.uncons
    cases hx : f d with
    | none => rw [hx] at h; cases h
    | some x =>
      rw [hx, Option.bind_some] at h
      cases hr : allO f r with
      | none => rw [hr] at h; cases h
      | some rs => rw [hr] at h; cases h; rw [List.map_cons, hf d x v hx a1, allO_at hf hr a2]
theorem inO_at {d : D} {i : Int} {v : V} (h : inO d = some i) (a : At w c H n d v) : v = .int i := by
  cases d with
  | int j => cases h; exact a.int
  | _ => cases h
theorem stO_at {d : D} {i : Str} {v : V} (h : stO d = some i) (a : At w c H n d v) : v = .str i := by
  cases d with
  | str j => cases h; exact a.str
  | _ => cases h
theorem blO_at {d : D} {i : Bool} {v : V} (h : blO d = some i) (a : At w c H n d v) : v = .bl i := by
  cases d with
  | bl j => cases h; exact a.bl
  | _ => cases h
theorem lstO {α : Type} {f : D → Option α} {fv : α → V} (hf : ∀ {c : Cn} {H : Hp} {n : Nat} d x v, f d = some x → At w c H n d v → v = fv x) {d : D} {v : V} {xs : List α} (r : Rep w c H S) (a : At w c H S.length d v) (h : (lstOf S d).bind (allO f) = some xs) : ∃ p, v = .ref p ∧ SqL w.K H p (xs.map fv) := by
  cases hl : lstOf S d with
  | none => rw [hl] at h; cases h
  | some ds =>
    rw [hl, Option.bind_some] at h
    obtain ⟨p, vs, rfl, g, t⟩ := lstOf_at r a hl
    rw [allO_at (f := f) (fv := fv) (fun d x v => hf d x v) h t] at g
    exact ⟨p, rfl, SqL.of g⟩
def allD (x : D) (S : Sto) : R D := .ofO (((lstOf S x).bind (allO blO)).map fun bs => D.bl (bs.all id)) S
def anyD (x : D) (S : Sto) : R D := .ofO (((lstOf S x).bind (allO blO)).map fun bs => D.bl (bs.any id)) S
def sumD (x : D) (S : Sto) : R D := .ofO (((lstOf S x).bind (allO inO)).map fun bs => D.int bs.sum) S
theorem Po.ofM {α β : Type} {o : Option α} {f : α → β} {rel : Cn → Hp → Nat → β → V → Prop} {Q : V → Hp → Prop} (h : Po w W rel σ c H n (R.ofO (o.map f) S) Q) : ∃ x, o = some x ∧ Po w W rel σ c H n (.ok (f x) S) Q := by
  obtain ⟨y, hy, h⟩ := Po.ofO h
  cases o with
  | none => cases hy
  | some x => cases hy; exact ⟨x, rfl, h⟩
theorem g_all : GCall Γ X (f1 allD) (rAll X.K) := by
  refine .one fun W σ c H S x v Q r a h => ?_
  obtain ⟨bs, hb, h⟩ := Po.ofM h
  obtain ⟨p, rfl, g⟩ := lstO (fv := V.bl) (fun d x v h a => blO_at h a) r a hb
  exact ⟨p, bs, rfl, g, fin_ok h r (.b _)⟩
theorem g_sum : GCall Γ X (f1 sumD) (rSum X.K) := by
  refine .one fun W σ c H S x v Q r a h => ?_
  obtain ⟨bs, hb, h⟩ := Po.ofM h
  obtain ⟨p, rfl, g⟩ := lstO (fv := V.int) (fun d x v h a => inO_at h a) r a hb
  exact ⟨p, bs, rfl, g, fin_ok h r (.i _)⟩
/-- the greatest -/
def maxL : List Int → Int
  | [] => 0
  | [x] => x
  | x :: y :: r => max x (maxL (y :: r))
theorem maxL_mem : ∀ {ns : List Int}, ns ≠ [] → maxL ns ∈ ns
  | [], h => absurd rfl h
  | [x], _ => by simp [maxL]
  | x :: y :: r, _ => by
    have ih := maxL_mem (ns := y :: r) (by simp)
    unfold maxL
    by_cases hx : x ≤ maxL (y :: r)
    · rw [Int.max_eq_right hx]; exact List.mem_cons_of_mem _ ih
    · rw [Int.max_eq_left (by omega)]; exact List.mem_cons_self
theorem maxL_le : ∀ {ns : List Int} {y : Int}, y ∈ ns → y ≤ maxL ns
  | [], y, h => by cases h
  | [x], y, h => by simp at h; simp [maxL, h]
  | x :: z :: r, y, h => by
    unfold maxL
    rcases List.mem_cons.mp h with rfl | h
    · exact Int.le_max_left _ _
    · exact Int.le_trans (maxL_le h) (Int.le_max_right _ _)
theorem maxL_uniq {ns : List Int} {m : Int} (h : m ∈ ns) (g : ∀ y ∈ ns, y ≤ m) : m = maxL ns := Int.le_antisymm (maxL_le h) (g _ (maxL_mem fun e => by rw [e] at h; cases h))
def maxD (x : D) (S : Sto) : R D := .ofO (((lstOf S x).bind (allO inO)).bind fun ns => if 0 < ns.length then some (D.int (maxL ns)) else none) S
theorem g_max : GCall Γ X (f1 maxD) (rMax X.K) := by
  refine .one fun W σ c H S x v Q r a h => ?_
  obtain ⟨y, hy, h⟩ := Po.ofO h
  cases hb : (lstOf S x).bind (allO inO) with
  | none => rw [hb] at hy; cases hy
  | some ns =>
    rw [hb, Option.bind_some] at hy
    by_cases hn : 0 < ns.length
    · rw [if_pos hn] at hy; cases hy
      obtain ⟨p, rfl, g⟩ := lstO (fv := V.int) (fun d x v h a => inO_at h a) r a hb
      exact ⟨p, ns, rfl, g, hn, fun m hm hg => by rw [maxL_uniq hm hg]; exact fin_ok h r (.i _)⟩
    · rw [if_neg hn] at hy; cases hy
/-- max(.., default=None) -/
def maxdD (x : D) (S : Sto) : R D := .ofO (((lstOf S x).bind (allO inO)).map fun ns => if ns = [] then D.non else D.int (maxL ns)) S
/-- sorted ints -/
def sortI (ns : List Int) : List Int := ns.mergeSort fun x y => decide (x ≤ y)
def sortD (x : D) (S : Sto) : R D := .ofO (((lstOf S x).bind (allO inO)).map fun ns => D.lst ((sortI ns).map D.int)) S
/-! ## max(.., default=None) -/
/-! ## a range as a tuple, as a list -/
def rgD (f : List D → D) (x y : D) (S : Sto) : R D := match x, y with
  | .int i, .int j => .if (-(2 ^ 62) ≤ i ∧ i < 2 ^ 62 ∧ -(2 ^ 62) ≤ j ∧ j < 2 ^ 62 ∧ (j - i).toNat ≤ 2 ^ 24) (.ok (f (rngD i (j - i).toNat)) S)
  | _, _ => .bad
@[simp] theorem rgD_int (f : List D → D) (i j : Int) (S : Sto) : rgD f (.int i) (.int j) S = .if (-(2 ^ 62) ≤ i ∧ i < 2 ^ 62 ∧ -(2 ^ 62) ≤ j ∧ j < 2 ^ 62 ∧ (j - i).toNat ≤ 2 ^ 24) (.ok (f (rngD i (j - i).toNat)) S) := rfl
/-! ## t1 = t2 = e -/
def s_asg2 (m : EM) (g1 g2 : GM) : SM := fun env S => (m env S).toS env fun d S1 => match (g1 d env).bind (g2 d) with
  | some env1 => .next env1 S1
  | none => .bad
@[simp] theorem s_asg2_eq (m : EM) (g1 g2 : GM) (env : Env) (S : Sto) : s_asg2 m g1 g2 env S = (m env S).toS env fun d S1 => match (g1 d env).bind (g2 d) with
  | some env1 => .next env1 S1
  | none => .bad := rfl
/-- x, y = a, b -/
def s_par (i j : Nat) (m : AM) : SM := fun env S => (m env S).toS env fun ds S1 => match ds with
  | [x, y] => .next ((env.set i (some x)).set j (some y)) S1
  | _ => .bad
@[simp] theorem s_par_eq (i j : Nat) (m : AM) (env : Env) (S : Sto) : s_par i j m env S = (m env S).toS env fun ds S1 => match ds with
  | [x, y] => .next ((env.set i (some x)).set j (some y)) S1
  | _ => .bad := rfl
/-! ## while -/
def whileS (t : TM) (body : SM) : Nat → SM
  | 0 => fun _ _ => .bad
  | f + 1 => fun env S => (t env S).toS env fun k S1 => if k = true then (match body env S1 with
      | .next env2 S2 => whileS t body f env2 S2
      | .cnt env2 S2 => whileS t body f env2 S2
      | .brk env2 S2 => .next env2 S2
      | x => x) else .next env S1
/-! ## texts walked, compared -/
def i_str (m : EM) : IM := fun env S => (m env S).bind fun d S1 => match d with
  | .str x => .ok (x.cps.toList.map fun k => .str ⟨#[k]⟩, none) S1
  | _ => .bad
def strLeD (x y : D) (S : Sto) : R D := match x, y with
  | .str i, .str j => .ok (.bl (!decide (j.cps.toList < i.cps.toList))) S
  | _, _ => .bad
@[simp] theorem strLeD_eq (i j : Str) (S : Sto) : strLeD (.str i) (.str j) S = .ok (.bl (!decide (j.cps.toList < i.cps.toList))) S := rfl
theorem g_strLe : GOp Γ X strLeD (fun x y H Q => ∃ i j, x = .str i ∧ y = .str j ∧ Q (.bl (!decide (j.cps.toList < i.cps.toList))) H) := by
  intro W σ c H S x y v u Q r a b h
  cases x with
  | str i =>
    cases y with
    | str j => exact ⟨i, j, a.str, b.str, fin_ok h r (.b _)⟩
    | _ => exact h.elim
  | _ => exact h.elim
/-! ## x in xs -/
def rIn3 (K : PySem.W.Frag) : R2 := fun x y H Q => rIn K false x y H Q ∨ rInD K x y H Q
def rNi3 (K : PySem.W.Frag) : R2 := fun x y H Q => rIn K true x y H Q ∨ rNotInD K x y H Q
/-- plain values -/
def flD : D → Option V := DV
def inF (neg : Bool) (x y : D) (S : Sto) : R D := match DV x, (seqOf S y).bind (allO DV) with
  | some p, some ps => .ok (.bl (neg ^^ inV p ps)) S
  | _, _ => .bad
theorem DV_at {d : D} {u v : V} (h : DV d = some u) (a : At w c H n d v) : v = u ∧ flatV u = true := by
  cases d with
  | int i => cases h; exact ⟨a.int, rfl⟩
  | bl i => cases h; exact ⟨a.bl, rfl⟩
  | str i => cases h; exact ⟨a.str, rfl⟩
  | non => cases h; exact ⟨a.non, rfl⟩
  | _ => cases h
theorem DV_all : ∀ {ds : List D} {ps vs : List V}, allO DV ds = some ps → Ats w c H n ds vs → vs = ps ∧ ps.all flatV = true
  | [], ps, vs, h, a => by cases h; exact ⟨a.unnil, rfl⟩
  | d :: r, ps, vs, h, a => by
    rw [allO_cons] at h
    obtain ⟨v, vr, rfl, a1, a2⟩ := a.uncons
    cases hx : DV d with
    | none => rw [hx] at h; cases h
    | some x =>
      rw [hx, Option.bind_some] at h
      cases hr : allO DV r with
      | none => rw [hr] at h; cases h
      | some rs =>
        rw [hr] at h; cases h
        obtain ⟨e1, f1⟩ := DV_at hx a1
        obtain ⟨e2, f2⟩ := DV_all hr a2
        exact ⟨by rw [e1, e2], by rw [List.all_cons, f1, f2]; rfl⟩
theorem inF_at {neg : Bool} {x y : D} {v u : V} {Q : VK} (r : Rep w c H S) (a : At w c H S.length x v) (b : At w c H S.length y u) (h : PoE w W σ c H S.length (inF neg x y S) Q) : rIn w.K neg v u H Q := by
  unfold inF at h
  cases hx : DV x with
  | none => rw [hx] at h; exact h.elim
  | some p =>
    cases hs : seqOf S y with
    | none => rw [hx, hs] at h; exact h.elim
    | some ds =>
      cases ha : allO DV ds with
      | none => rw [hx, hs, Option.bind_some, ha] at h; exact h.elim
      | some ps =>
        rw [hx, hs, Option.bind_some, ha] at h
        obtain ⟨q, vs, rfl, g, t⟩ := seqOf_at r b hs
        obtain ⟨e1, f1⟩ := DV_at hx a
        obtain ⟨e2, f2⟩ := DV_all ha t
        subst e1; subst e2
        refine ⟨q, vs, rfl, g, f1, f2, ?_⟩
        have := fin_ok h r (.b _)
        cases neg <;> simpa using this
theorem g_inF : GOp Γ X (inF false) (rIn X.K false) := fun W σ c H S x y v u Q r a b h => inF_at (w := ⟨X.K, Γ⟩) r a b h
end
end Mm
set_option maxRecDepth 100000
/-! A list extended by a tuple; dicts. -/
namespace L2
open PySem PySem.Spec PyProof.Rows
/-- xs.extend(ys), ys a list or a tuple -/
def rExtT (K : PySem.W.Frag) : V → List V → Hp → VK → Prop := fun x vs H Q => rExtend x vs H Q ∨ ∃ l b xs zs, x = V.ref l ∧ vs = [V.ref b] ∧ H l = some (HO.lst xs) ∧ SqT K H b zs ∧ xs.length + zs.length ≤ sizeLine ∧ Q V.non (upd H l (HO.lst (xs ++ zs)))
/-! ## keys that are any tuple -/
/-- what the dict at a holds at the key y; the key may be a written tuple -/
def DGetK (K : PySem.W.Frag) (H : Hp) (a : Addr) (y : V) (r : Option V) : Prop :=
  (∃ kvs k, Rd H a (.dK kvs) ∧ y = kV k ∧ r = valV kvs k) ∨ ∃ kvs k b, Rd H a (.dT kvs) ∧ y = .ref b ∧ SqT K H b (k.map kV) ∧ r = valV kvs k
section
variable {X : Cx} {pins : List (Addr × Obj)} {σ : St} {H : Hp} {s : Shared} {a : Addr} {y v : V} {u r : Value} {o : Option V}
/-- y in d -/
def rDIn (K : PySem.W.Frag) : R2 := fun y x H Q => ∃ a o, x = .ref a ∧ DGetK K H a y o ∧ Q (.bl o.isSome) H
/-- d[y] -/
def tDGetK (K : PySem.W.Frag) (td ty : TE) : TE := fun σ H Q => td σ H fun x H1 => ty σ H1 fun y H2 => ∃ a v, x = .ref a ∧ DGetK K H2 a y (some v) ∧ Q v H2
end
end L2
namespace Mm
open PySem L2
section
variable {w : Wn} {W : WX} {σ : St} {c c' : Cn} {H H' : Hp} {n n' : Nat} {S : Sto} {env : Env}
variable {Γ : Cls'} {X : Cx} {a b e o tg : Expr} {es : List Expr} {ma mb mo : EM} {am : AM} {pos : Pos} {Dn : Ends}
/-! ## xs.extend(ys) -/
def ext2D (x : D) (ds : List D) (S : Sto) : R D := match x, ds with
  | .loc k, [.tup fs] => match S[k]? with
    | some (.lst es) => .if (es.length + fs.length ≤ sizeLine) (.ok .non (S.set k (.lst (es ++ fs))))
    | _ => .bad
  | x, ds => extD x ds S
@[simp] theorem ext2D_tup (S : Sto) (k : Nat) (fs : List D) : ext2D (.loc k) [.tup fs] S = match S[k]? with
    | some (.lst es) => .if (es.length + fs.length ≤ sizeLine) (.ok .non (S.set k (.lst (es ++ fs))))
    | _ => .bad := rfl
@[simp] theorem ext2D_lst (S : Sto) (k : Nat) (fs : List D) : ext2D (.loc k) [.lst fs] S = extD (.loc k) [.lst fs] S := rfl
@[simp] theorem ext2D_loc (S : Sto) (k j : Nat) : ext2D (.loc k) [.loc j] S = extD (.loc k) [.loc j] S := rfl
/-! ## dicts -/
def unK : D → Option Key
  | .int i => some (.inl i)
  | .str x => some (.inr x)
  | _ => none
def unT : D → Option (List Key)
  | .tup ds => allO unK ds
  | _ => none
/-- a tracked tuple's keys -/
def unR : D → Option (List Key)
  | .ttp ds => allO unK ds
  | _ => none
def kkO (ks : List D) : Option (List Key) := allO unK ks
def ktO : List D → Option (List (List Key))
  | .non :: r => allO unT r
  | _ => none
abbrev tupD (k : List Key) : D := .tup (k.map keyD)
theorem unK_key (k : Key) : unK (keyD k) = some k := by cases k <;> rfl
theorem unT_key (k : List Key) : unT (tupD k) = some k := allO_map unK_key k
theorem kkO_map (kk : List Key) : kkO (kk.map keyD) = some kk := allO_map unK_key kk
theorem ktO_map (kk : List (List Key)) : ktO (.non :: kk.map tupD) = some kk := allO_map (g := tupD) unT_key kk
theorem kkO_non (ks : List D) : kkO (.non :: ks) = none := rfl
theorem unK_inv {d : D} {k : Key} (h : unK d = some k) : d = keyD k := by
  cases d with
  | int i => cases h; rfl
  | str i => cases h; rfl
  | _ => cases h
theorem allK_inv : ∀ {ds : List D} {k : List Key}, allO unK ds = some k → ds = k.map keyD
  | [], k, h => by cases h; rfl
  | d :: r, k, h => by
    rw [allO_cons] at h
    cases hx : unK d with
    | none => rw [hx] at h; cases h
    | some x =>
      rw [hx, Option.bind_some] at h
      cases hr : allO unK r with
      | none => rw [hr] at h; cases h
      | some rs => rw [hr] at h; cases h; rw [List.map_cons, unK_inv hx, allK_inv hr]
theorem unR_inv {d : D} {k : List Key} (h : unR d = some k) : d = .ttp (k.map keyD) := by
  cases d with
  | ttp ds => exact congrArg D.ttp (allK_inv h)
  | _ => cases h
theorem keyD_at {k : Key} {v : V} (a : At w c H n (keyD k) v) : v = kV k := by
  cases k with
  | inl i => exact a.int
  | inr i => exact a.str
theorem keysD_at : ∀ {k : List Key} {vs : List V}, Ats w c H n (k.map keyD) vs → vs = k.map kV
  | [], vs, a => a.unnil
  | k :: r, vs, a => by
    obtain ⟨v, vr, rfl, a1, a2⟩ := a.uncons
    rw [keyD_at a1, keysD_at a2]; rfl
def dicOf (S : Sto) (d : D) : Option (List D × List D) := match d with
  | .dic ks ds => some (ks, ds)
  | .loc j => match S[j]? with
    | some (.dic ks ds) => some (ks, ds)
    | _ => none
  | _ => none
@[simp] theorem dicOf_dic (S : Sto) (ks ds : List D) : dicOf S (.dic ks ds) = some (ks, ds) := rfl
@[simp] theorem dicOf_loc (S : Sto) (j : Nat) : dicOf S (.loc j) = match S[j]? with
    | some (.dic ks ds) => some (ks, ds)
    | _ => none := rfl
theorem dicOf_at {d : D} {v : V} {ks ds : List D} (r : Rep w c H S) (at_ : At w c H S.length d v) (h : dicOf S d = some (ks, ds)) :
    ∃ p vs, v = .ref p ∧ Ats w c H S.length ds vs ∧ ((∃ kk : List Key, DkA w H p (.dK (kk.zip vs)) ∧ kk.length = vs.length ∧ ks = kk.map keyD) ∨ (∃ kk : List (List Key), DkA w H p (.dT (kk.zip vs)) ∧ kk.length = vs.length ∧ ks = .non :: kk.map tupD)) := by
  cases d with
  | dic ks' ds' =>
    cases h
    unfold At at at_
    obtain ⟨p, vs, rfl, f, g, t⟩ := at_
    exact ⟨p, vs, rfl, t, g⟩
  | loc j =>
    rw [dicOf_loc] at h
    cases hj : S[j]? with
    | none => rw [hj] at h; cases h
    | some ob =>
      cases ob with
      | dic ks' ds' =>
        rw [hj] at h
        cases h
        unfold At at at_
        obtain ⟨vs, g, t⟩ := r.get hj
        refine ⟨_, vs, at_.2, t, ?_⟩
        rcases g with ⟨kk, g⟩ | ⟨kk, g⟩
        · exact .inl ⟨kk, g.1, g.2⟩
        · exact .inr ⟨kk, g.1, g.2⟩
      | _ => rw [hj] at h; cases h
  | _ => cases h
/-- what stands at the key k -/
def getDs {κ : Type} [DecidableEq κ] (kk : List κ) (ds : List D) (k : κ) : Option D := ((kk.zip ds).find? fun p => decide (p.1 = k)).map (·.2)
/-- d[y] as it is looked up: none where it is not a key, or not there -/
def dgetO (p : List D × List D) (y : D) : Option (Option D) := match kkO p.1 with
  | some kk => (unK y).map fun k => getDs kk p.2 k
  | none => match ktO p.1 with
    | some kk => (unT y).map fun k => getDs kk p.2 k
    | none => none
def dgetD (x y : D) (S : Sto) : R D := .ofO (((dicOf S x).bind fun p => dgetO p y).bind id) S
def dinD (neg : Bool) (y x : D) (S : Sto) : R D := .ofO (((dicOf S x).bind fun p => dgetO p y).map fun r => D.bl (neg ^^ r.isSome)) S
/-! ## {} -/
def e_dnew (ks : List D) : EM := fun _ S => .ok (.loc S.length) (S ++ [.dic ks []])
@[simp] theorem e_dnew_eq (ks : List D) (env : Env) (S : Sto) : e_dnew ks env S = .ok (.loc S.length) (S ++ [.dic ks []]) := rfl
theorem fin_dnew {ks : List D} {o : HO} {Q : VK} (h : PoE w W σ c H S.length (.ok (.loc S.length) (S ++ [.dic ks []])) Q) (r : Rep w c H S) {p : Addr} (hp : H p = none) (hq : ∀ c n, OAt w c (upd H p o) n p (.dic ks [])) : Q (.ref p) (upd H p o) := by
  have hl : (S ++ [SO.dic ks []]).length = S.length + 1 := by rw [List.length_append]; rfl
  refine h (c.nw S.length p) _ (.ref p) (by rw [hl]; exact Ext.nw hp) (r.nw hp (hq _ _)) ?_
  unfold At
  exact ⟨by rw [hl]; exact Nat.lt_succ_self _, by rw [Cn.nw_at]⟩
theorem c_dnewT : CE Γ X W (.Dict [] [] pos) (e_dnew [.non]) := PE.weak pe_dnewT fun σ H Q ⟨c, env, S, r, ev, h⟩ p hp => fin_dnew h r hp fun c n => ⟨[], .inr ⟨[], .inl upd_same, rfl, rfl⟩, .nil⟩
/-! ## d[y] = v -/
def putDs {κ : Type} [DecidableEq κ] (kk : List κ) (ds : List D) (k : κ) (z : D) : List κ × List D :=
  if (kk.any fun x => decide (x = k)) = true then (kk, List.zipWith (fun k' d => if k' = k then z else d) kk ds) else (kk ++ [k], ds ++ [z])
theorem any_zip {κ : Type} (p : κ → Bool) : ∀ {kk : List κ} {vs : List V}, kk.length = vs.length → ((kk.zip vs).any fun kv => p kv.1) = kk.any p
  | [], vs, h => rfl
  | k :: r, [], h => by simp at h
  | k :: r, v :: vs, h => by rw [List.zip_cons_cons, List.any_cons, List.any_cons, any_zip p (by simpa using h)]
theorem map_zip {κ : Type} [DecidableEq κ] (k : κ) (z : V) : ∀ {kk : List κ} {vs : List V}, kk.length = vs.length → ((kk.zip vs).map fun kv => if kv.1 = k then (kv.1, z) else kv) = kk.zip (List.zipWith (fun k' d => if k' = k then z else d) kk vs)
  | [], vs, h => rfl
  | k' :: r, [], h => by simp at h
  | k' :: r, v :: vs, h => by
    rw [List.zip_cons_cons, List.map_cons, map_zip k z (by simpa using h), List.zipWith_cons_cons, List.zip_cons_cons]
    by_cases e : k' = k
    · simp [e]
    · simp [e]
theorem zip_snoc {κ : Type} (k : κ) (z : V) : ∀ {kk : List κ} {vs : List V}, kk.length = vs.length → kk.zip vs ++ [(k, z)] = (kk ++ [k]).zip (vs ++ [z])
  | [], [], h => rfl
  | [], v :: vs, h => by simp at h
  | k :: r, [], h => by simp at h
  | k :: r, v :: vs, h => by
    rw [List.zip_cons_cons, List.cons_append, zip_snoc _ z (by simpa using h)]; rfl
theorem ats_zipW {κ : Type} [DecidableEq κ] {k : κ} {z : D} {u : V} (az : At w c H n z u) : ∀ {kk : List κ} {ds : List D} {vs : List V}, Ats w c H n ds vs → Ats w c H n (List.zipWith (fun k' d => if k' = k then z else d) kk ds) (List.zipWith (fun k' d => if k' = k then u else d) kk vs)
  | [], ds, vs, t => .nil
  | k' :: r, [], vs, t => by rw [t.unnil]; exact .nil
  | k' :: r, d :: ds, vs, t => by
    obtain ⟨v, vr, rfl, a1, a2⟩ := t.uncons
    rw [List.zipWith_cons_cons, List.zipWith_cons_cons]
    refine .cons ?_ (ats_zipW az a2)
    by_cases e : k' = k
    · rw [if_pos e, if_pos e]; exact az
    · rw [if_neg e, if_neg e]; exact a1
/-- the store's dict behind it -/
theorem put_zip {κ : Type} [DecidableEq κ] {k : κ} {z : D} {u : V} {kk : List κ} {ds : List D} {vs : List V} (az : At w c H n z u) (t : Ats w c H n ds vs) (hl : kk.length = vs.length) :
    ∃ us, putK (kk.zip vs) k u = (putDs kk ds k z).1.zip us ∧ (putDs kk ds k z).1.length = us.length ∧ Ats w c H n (putDs kk ds k z).2 us := by
  unfold putK putDs
  rw [any_zip (fun x => decide (x = k)) hl]
  by_cases e : (kk.any fun x => decide (x = k)) = true
  · rw [if_pos e, if_pos e]
    exact ⟨_, map_zip k u hl, by rw [List.length_zipWith, hl]; simp, ats_zipW az t⟩
  · rw [if_neg e, if_neg e]
    exact ⟨vs ++ [u], zip_snoc k u hl, by simp [hl], t.app (.one az)⟩
def dputO (ks ds : List D) (y z : D) : Option (List D × List D) := match kkO ks with
  | some kk => (unK y).bind fun k => if kk.length < sizeLine then some ((putDs kk ds k z).1.map keyD, (putDs kk ds k z).2) else none
  | none => match ktO ks with
    | some kk => (unR y).bind fun k => if kk.length < sizeLine then some (.non :: (putDs kk ds k z).1.map tupD, (putDs kk ds k z).2) else none
    | none => none
def dput (S : Sto) (x y z : D) : Option Sto := match x with
  | .loc j => match S[j]? with
    | some (.dic ks ds) => (dputO ks ds y z).map fun p => S.set j (.dic p.1 p.2)
    | _ => none
  | _ => none
@[simp] theorem dput_loc (S : Sto) (j : Nat) (y z : D) : dput S (.loc j) y z = match S[j]? with
    | some (.dic ks ds) => (dputO ks ds y z).map fun p => S.set j (.dic p.1 p.2)
    | _ => none := rfl
def s_dput (mv mo mi : EM) : SM := fun env S => (mv env S).toS env fun z S1 => (mo env S1).toS env fun x S2 => (mi env S2).toS env fun y S3 => match dput S3 x y z with
  | some S4 => .next env S4
  | none => .bad
@[simp] theorem s_dput_eq (mv mo mi : EM) (env : Env) (S : Sto) : s_dput mv mo mi env S = (mv env S).toS env fun z S1 => (mo env S1).toS env fun x S2 => (mi env S2).toS env fun y S3 => match dput S3 x y z with
  | some S4 => .next env S4
  | none => .bad := rfl
theorem dput_at {S' : Sto} {x y z : D} {v u t : V} (lk : w.Γ.lk = none) (r : Rep w c H S) (ax : At w c H S.length x v) (ay : At w c H S.length y u) (az : At w c H S.length z t) (h : dput S x y z = some S') :
    ∃ p H', v = .ref p ∧ DPut H p u t H' ∧ S'.length = S.length ∧ Ext c H S.length c H' S.length ∧ Rep w c H' S' := by
  cases x with
  | loc j =>
    rw [dput_loc] at h
    cases hj : S[j]? with
    | none => rw [hj] at h; cases h
    | some ob =>
      cases ob with
      | dic ks ds =>
        rw [hj] at h
        obtain ⟨p, hp, rfl⟩ := Option.map_eq_some_iff.mp h
        unfold At at ax
        obtain ⟨vs, g, ta⟩ := r.get hj
        unfold dputO at hp
        rcases g with ⟨kk, hq, hl, hk⟩ | ⟨kk, hq, hl, hk⟩
        · have hq := hq.ex lk
          rw [hk, kkO_map] at hp
          dsimp only at hp
          cases hy : unK y with
          | none => rw [hy] at hp; cases hp
          | some k =>
            rw [hy, Option.bind_some] at hp
            by_cases hz : kk.length < sizeLine
            · rw [if_pos hz] at hp; cases hp
              have ey := unK_inv hy
              subst ey
              obtain ⟨us, e1, e2, e3⟩ := put_zip (k := k) (kk := kk) az ta hl
              have ex := Ext.wr r (o := .dK (putK (kk.zip vs) k t)) ax.1 ⟨_, hq, trivial⟩
              refine ⟨c.ρ j, _, ax.2, .inl ⟨_, k, hq, keyD_at ay, by rw [List.length_zip]; omega, rfl⟩, List.length_set, ex, Rep.wr r ax.1 ⟨_, hq, trivial⟩ ⟨us, .inl ⟨_, .inl (by rw [upd_same, e1]), e2, rfl⟩, e3.mono ex⟩⟩
            · rw [if_neg hz] at hp; cases hp
        · have hq := hq.ex lk
          rw [hk, kkO_non] at hp
          dsimp only at hp
          rw [ktO_map] at hp
          dsimp only at hp
          cases hy : unR y with
          | none => rw [hy] at hp; cases hp
          | some k =>
            rw [hy, Option.bind_some] at hp
            by_cases hz : kk.length < sizeLine
            · rw [if_pos hz] at hp; cases hp
              have ey := unR_inv hy
              subst ey
              obtain ⟨us, e1, e2, e3⟩ := put_zip (k := k) (kk := kk) az ta hl
              have ex := Ext.wr r (o := .dT (putK (kk.zip vs) k t)) ax.1 ⟨_, hq, trivial⟩
              unfold At at ay
              obtain ⟨b, xs, rfl, hb, tk⟩ := ay
              rw [keysD_at tk] at hb
              refine ⟨c.ρ j, _, ax.2, .inr ⟨_, k, b, hq, rfl, hb, by rw [List.length_zip]; omega, rfl⟩, List.length_set, ex, Rep.wr r ax.1 ⟨_, hq, trivial⟩ ⟨us, .inr ⟨_, .inl (by rw [upd_same, e1]), e2, rfl⟩, e3.mono ex⟩⟩
            · rw [if_neg hz] at hp; cases hp
      | _ => rw [hj] at h; cases h
  | _ => cases h
theorem c_dput {o i : Expr} {mo mi : EM} {p0 : Pos} (lk : Γ.lk = none) (hu : X.A.units + 1 < cLine) (he : CE Γ X W e ma) (ho : CE Γ X W o mo) (hi : CE Γ X W i mi) (hs : swapsWith e (some (.Subscript o i p0)) pos.line X.env = pure false := by rfl) : CS Γ X W (.Assign [.Subscript o i p0] e pos) (s_dput ma mo mi) := by
  refine PS.weak (ps_dput hu ho hi he hs) fun Dn σ H ⟨c, env, S, r, ev, h⟩ => ?_
  refine ⟨c, env, S, r, ev, (PoS.part ev h).imp fun v H1 ⟨c1, S1, d1, e1, r1, a1, ev1, h1⟩ => ?_⟩
  refine ⟨c1, env, S1, r1, ev1, (PoS.part ev1 h1).imp fun v2 H2 ⟨c2, S2, d2, e2, r2, a2, ev2, h2⟩ => ?_⟩
  refine ⟨c2, env, S2, r2, ev2, (PoS.part ev2 h2).imp fun v3 H3 ⟨c3, S3, d3, e3, r3, a3, ev3, h3⟩ => ?_⟩
  cases hs : dput S3 d2 d3 d1 with
  | none => simp only [hs] at h3; exact h3.elim
  | some S4 =>
    simp only [hs] at h3
    obtain ⟨p, H', rfl, g, hl, ex, rr⟩ := dput_at (w := ⟨X.K, Γ⟩) lk r3 (a2.mono e3) a3 ((a1.mono e2).mono e3) hs
    exact ⟨p, H', rfl, g, h3 c3 H' σ (by rw [hl]; exact ex) rr (by rw [hl]; exact ev3.mono ex)⟩
/-! ## tracked tuples -/
def e_ttp (m : AM) : EM := fun env S => (m env S).bind fun ds S1 => .if (ds.length ≤ 1000) (.ok (.ttp ds) S1)
@[simp] theorem e_ttp_eq (m : AM) (env : Env) (S : Sto) : e_ttp m env S = (m env S).bind fun ds S1 => .if (ds.length ≤ 1000) (.ok (.ttp ds) S1) := rfl
theorem fin_ttp {ds : List D} {vs : List V} {Q : VK} (h : PoE w W σ c H S.length (.ok (.ttp ds) S) Q) (r : Rep w c H S) (a : Ats w c H S.length ds vs) {p : Addr} (hp : H p = none) : Q (.ref p) (upd H p (.tup vs)) := by
  refine h c _ (.ref p) (Ext.grow hp) (r.grow hp) ?_
  unfold At
  exact ⟨p, vs, rfl, upd_same, a.mono (Ext.grow hp)⟩
theorem c_ttp {k : Nat} (ha : CA Γ X W es am) : CE Γ X W (.Tuple es k pos) (e_ttp am) := by
  refine PE.weak (pe_tup ha) fun σ H Q ⟨c, env, S, r, ev, h⟩ => ?_
  refine ⟨c, env, S, r, ev, (Po.bind h).imp fun vs H1 ⟨c1, S1, ds, e1, r1, a1, h1⟩ => ?_⟩
  obtain ⟨hl, h1⟩ := Po.if h1
  exact ⟨by rw [a1.len]; exact Nat.le_trans hl (by decide), fun p hp => fin_ttp h1 r1 a1 hp⟩
def addT (x y : D) (S : Sto) : R D := match x, y with
  | .ttp a, .ttp b => .if (a.length + b.length ≤ sizeLine) (.ok (.ttp (a ++ b)) S)
  | _, _ => .bad
@[simp] theorem addT_eq (i j : List D) (S : Sto) : addT (.ttp i) (.ttp j) S = .if (i.length + j.length ≤ sizeLine) (.ok (.ttp (i ++ j)) S) := rfl
theorem g_addT : GOp Γ X addT (rAdd4 X.K) := by
  intro W σ c H S x y v u Q r a b h
  cases x with
  | ttp i =>
    cases y with
    | ttp j =>
      obtain ⟨hl, h⟩ := Po.if h
      have a' := a
      have b' := b
      unfold At at a b
      obtain ⟨p, vs, rfl, g, t⟩ := a
      obtain ⟨q, us, rfl, g', t'⟩ := b
      refine .inl (.inr ⟨p, q, vs, us, rfl, rfl, SqT.of g, SqT.of g', by rw [t.len, t'.len]; exact hl, fun e => ?_, fun _ e => ?_, fun _ _ z hz => fin_ttp h r (t.app t') hz⟩)
      · have : i = [] := by
          have := t.len; rw [e] at this; exact List.length_eq_zero_iff.mp this.symm
        subst this
        exact fin_ok h r b'
      · have : j = [] := by
          have := t'.len; rw [e] at this; exact List.length_eq_zero_iff.mp this.symm
        subst this
        exact fin_ok h r (by rw [List.append_nil]; exact a')
    | _ => exact h.elim
  | _ => exact h.elim
/-- a tracked tuple as any other -/
def looseD (d : D) : D := match d with
  | .ttp ds => .tup ds
  | d => d
/-! ## len(d), list(d) -/
def rLen2 : List V → Hp → VK → Prop := fun xs H Q => (∃ a kvs, xs = [.ref a] ∧ H a = some (.dK kvs) ∧ Q (.int kvs.length) H) ∨ rLenT xs H Q
theorem call_lenD2 : CallR X (.builtin "len") rLen2 := by
  intro pins s σ H xs us Q I rx h
  rcases h with h | h
  · exact call_lenD pins s σ H xs us Q I rx h
  · exact call_len_dT pins s σ H xs us Q I rx h
def dlenD (x : D) (S : Sto) : R D := .ofO ((dicOf S x).map fun p => D.int p.2.length) S
theorem g_dlen (lk : Γ.lk = none) : GCall Γ X (f1 dlenD) rLen2 := by
  refine .one fun W σ c H S x v Q r a h => ?_
  obtain ⟨p, hp, h⟩ := Po.ofM h
  obtain ⟨q, vs, rfl, t, g⟩ := dicOf_at (ks := p.1) (ds := p.2) r a hp
  have q1 := fin_ok h r (.i _)
  rcases g with ⟨kk, hq, hl, hk⟩ | ⟨kk, hq, hl, hk⟩
  · exact .inl ⟨q, _, rfl, hq.ex lk, by rw [List.length_zip, hl, Nat.min_self, t.len]; exact q1⟩
  · exact .inr ⟨q, _, rfl, hq.ex lk, by rw [List.length_zip, hl, Nat.min_self, t.len]; exact q1⟩
def rListD2 : List V → Hp → VK → Prop := fun xs H Q => rListD xs H Q ∨ ∃ d kvs, xs = [.ref d] ∧ Rd H d (.dT kvs) ∧ ∀ (p : Addr) (bs : List Addr), H p = none → IsKeys H kvs bs → Q (.ref p) (upd H p (.lst (bs.map V.ref)))
theorem call_listD2 (hc : X.calm = true) : CallR X (.type "list") rListD2 := by
  intro pins s σ H xs us Q I rx h
  rcases h with h | h
  · exact call_list_dK hc pins s σ H xs us Q I rx h
  · exact call_list_dT hc pins s σ H xs us Q I rx h
def keysO (ks : List D) : Option (List D) := match kkO ks with
  | some kk => some (kk.map keyD)
  | none => (ktO ks).map fun kk => kk.map tupD
def dlistD (x : D) (S : Sto) : R D := .ofO (((dicOf S x).bind fun p => keysO p.1).map D.lst) S
theorem ats_keys : ∀ kk : List Key, Ats w c H n (kk.map keyD) (kk.map kV)
  | [] => .nil
  | .inl i :: r => .cons (.i _) (ats_keys r)
  | .inr i :: r => .cons (.s _) (ats_keys r)
theorem ats_tkeys : ∀ {kk : List (List Key)} {vs : List V} {bs : List Addr}, kk.length = vs.length → IsKeys H (kk.zip vs) bs → Ats w c H n (kk.map tupD) (bs.map V.ref)
  | [], vs, bs, h, k => by cases k; exact .nil
  | k :: r, [], bs, h, q => by simp at h
  | k :: r, v :: vs, bs, h, q => by
    rw [List.zip_cons_cons] at q
    cases q with
    | cons a b =>
      refine .cons ?_ (ats_tkeys (by simpa using h) b)
      unfold At
      exact ⟨_, _, rfl, SqT.of a, ats_keys _⟩
theorem zip_fst {α β : Type} : ∀ {xs : List α} {ys : List β}, xs.length = ys.length → (xs.zip ys).map (·.1) = xs
  | [], ys, h => rfl
  | x :: r, [], h => by simp at h
  | x :: r, y :: s, h => by rw [List.zip_cons_cons, List.map_cons, zip_fst (by simpa using h)]
theorem g_dlist (lk : Γ.lk = none) : GCall Γ X (f1 dlistD) rListD2 := by
  refine .one fun W σ c H S x v Q r a h => ?_
  obtain ⟨ds, hd, h⟩ := Po.ofM h
  cases hp : dicOf S x with
  | none => rw [hp] at hd; cases hd
  | some p =>
    rw [hp, Option.bind_some] at hd
    obtain ⟨q, vs, rfl, t, g⟩ := dicOf_at (ks := p.1) (ds := p.2) r a hp
    unfold keysO at hd
    rcases g with ⟨kk, hq, hl, hk⟩ | ⟨kk, hq, hl, hk⟩
    · rw [hk, kkO_map] at hd
      cases hd
      refine .inl ⟨q, _, rfl, hq.ex lk, fun z hz => ?_⟩
      rw [show (kk.zip vs).map (fun kv => kV kv.1) = kk.map kV from by rw [show (kk.zip vs).map (fun kv => kV kv.1) = ((kk.zip vs).map (·.1)).map kV from by rw [List.map_map]; rfl, zip_fst hl]]
      exact fin_lst h r (ats_keys kk) hz
    · rw [hk, kkO_non] at hd
      dsimp only at hd
      rw [ktO_map] at hd
      cases hd
      exact .inr ⟨q, _, rfl, hq.rd, fun z bs hz hb => fin_lst h r (ats_tkeys hl hb) hz⟩
end
end Mm
set_option maxRecDepth 100000
/-! A dict comprehension of two clauses; comprehensions of two clauses over plain data. -/
namespace L2
open PySem PySem.Spec PyProof.Rows
section
variable {kx vx t0 i0 t1 i1 : Expr} {f0 f1 : List Expr} {sc : Scope} {pos : Pos}
abbrev dcE (kx vx t0 i0 t1 i1 : Expr) (f0 f1 : List Expr) (sc : Scope) (pos : Pos) : Expr := .DictComp kx vx [⟨t0, i0, f0, 0⟩, ⟨t1, i1, f1, 0⟩] sc pos
abbrev tests (fs : List Expr) (env : Env) : Sem Bool := forIn fs true fun c r => if r = true then do let ok ← isTrue c env (eval c env); pure (ForInStep.yield ok) else pure (ForInStep.yield r)
variable {prog : Program} {w : World} {A : Around} {R : Result → Shared → Prop} {s : Shared} {it : Value} {D : Addr} {env : Env}
abbrev er (prog : Program) (w : World) (A : Around) (env : Env) (R : Result → Shared → Prop) : Value → Shared → Prop := notedBy (model prog w) A env fun e s' => R (.error e) s'
end
end L2
namespace L2
open PySem PySem.Spec PyProof.Rows
/-- two clauses; st: what a turn of the second does to the new object at D, o0: what is new. vs: the block's names, vs1: the second target's -/
def tC2 (o0 : HO) (wi : TI) (g : TG) (tt : TT) (wi1 : TI) (g1 : TG) (tt1 : TT) (st : Addr → St → Hp → (Hp → Prop) → Prop) (vs vs1 : List Nat) : TE := fun σ H Q => wi σ H fun J H1 => ∀ D, H1 D = none → ∃ W : Nat → Nat → Hp → Prop, (∃ m, W 0 m (upd H1 D o0)) ∧ ∀ i m H, W i m H →
  (J.stop i H ∧ Q (.ref D) H) ∨ (J.go i H ∧ ∃ Nx : Hp → Prop, (∀ H', Nx H' → ∃ m', m' < m ∧ W (i + 1) m' H') ∧ ∀ x H', J.yld i H x H' → g x (wipe σ vs) H' fun σ2 H2 => wipe σ2 vs = wipe σ vs ∧ tt σ2 H2 fun b H3 =>
    if b = true then wi1 σ2 H3 fun J1 H4 => ∃ W1 : Nat → Nat → Hp → Prop, (∃ m, W1 0 m H4) ∧ ∀ j k H, W1 j k H →
      (J1.stop j H ∧ Nx H) ∨ (J1.go j H ∧ ∃ Nx1 : Hp → Prop, (∀ H', Nx1 H' → ∃ k', k' < k ∧ W1 (j + 1) k' H') ∧ ∀ x H', J1.yld j H x H' → g1 x (wipe σ2 vs1) H' fun σ3 H5 => wipe σ3 vs1 = wipe σ2 vs1 ∧ tt1 σ3 H5 fun b H6 =>
        if b = true then st D σ3 H6 Nx1 else Nx1 H6)
    else Nx H3)
def stL (te : TE) : Addr → St → Hp → (Hp → Prop) → Prop := fun D σ H N => te σ H fun y H7 => ∃ acc, H7 D = some (.lst acc) ∧ acc.length < sizeLine ∧ N (upd H7 D (.lst (acc ++ [y])))
def stD (tk tv : TE) : Addr → St → Hp → (Hp → Prop) → Prop := fun D σ H N => tk σ H fun y H1 => tv σ H1 fun z H2 => ∃ kvs k, y = kV k ∧ H2 D = some (.dK kvs) ∧ kvs.length < sizeLine ∧ N (upd H2 D (.dK (putK kvs k z)))
section
variable {X : Cx} {pins : List (Addr × Obj)} {s : Shared} {σ : St} {H : Hp} {Q : VK} {kx vx tg iter tg1 iter1 : Expr} {ifs ifs1 : List Expr} {scope : Scope} {own : List (Str × Nat)} {vs1 : List Nat} {pos pos' : Pos} {wi wi1 : TI} {g g1 : TG} {tt tt1 : TT} {tk tv : TE}
/-- all blocks of the comprehension -/
abbrev Blk (X : Cx) (scope : Scope) (P : Cx → Prop) : Prop := ∀ (s : Shared) (H : Hp) (C : Addr) (cl : List (Str × Addr)) (fp : List Addr), P (X.blk s H scope (compEnvC scope cl C X.env) fp)
end
end L2
set_option maxRecDepth 100000
/-! Comprehensions of two clauses over plain data. -/
namespace Mm
open PySem L2
section
variable {w : Wn} {W : WX} {σ : St} {c c' : Cn} {H H' : Hp} {n n' : Nat} {S : Sto} {env : Env}
variable {Γ : Cls'} {X : Cx} {a b e tg : Expr} {es : List Expr} {ma mb : EM} {am : AM} {pos : Pos} {Dn : Ends}
/-- from one heap to the next while the object at D is put together -/
structure Stp (D : Addr) (c : Cn) (H : Hp) (n : Nat) (c' : Cn) (H' : Hp) (n' : Nat) : Prop where
  A : ExtA c H n c' H' n'
  far : ∀ c0 H0 n0, Ext c0 H0 n0 c H n → H0 D = none → Ext c0 H0 n0 c' H' n'
theorem Stp.of {D : Addr} (e : Ext c H n c' H' n') : Stp D c H n c' H' n' := ⟨e.A, fun c0 H0 n0 z _ => z.trans e⟩
theorem ExtA.trans {c c1 c2 : Cn} {H H1 H2 : Hp} {n n1 n2 : Nat} (a : ExtA c H n c1 H1 n1) (b : ExtA c1 H1 n1 c2 H2 n2) : ExtA c H n c2 H2 n2 :=
  ⟨Nat.le_trans a.le b.le, fun k h => (b.rho k (Nat.lt_of_lt_of_le h a.le)).trans (a.rho k h), fun x h => b.fro x (a.fro x h), fun x xs h => b.tup x xs (a.tup x xs h), fun x o u h => b.frz x o u (a.frz x o u h), fun x u h => b.xd x u (a.xd x u h), fun x o f h t => b.keepG x o (a.fro x f) (a.keepG x o f h t) t⟩
theorem Stp.trans {D : Addr} {c c1 c2 : Cn} {H H1 H2 : Hp} {n n1 n2 : Nat} (a : Stp D c H n c1 H1 n1) (b : Stp D c1 H1 n1 c2 H2 n2) : Stp D c H n c2 H2 n2 := ⟨a.A.trans b.A, fun c0 H0 n0 z h => b.far _ _ _ (a.far _ _ _ z h) h⟩
theorem EnvR.monoA (e : ExtA c H n c' H' n') (h : EnvR w c H n σ env) : EnvR w c' H' n' σ env := ⟨h.1, fun i d q => by
  obtain ⟨v, a, b⟩ := h.2 i d q
  exact ⟨v, a, At.monoA e d v b⟩⟩
/-- something that is put together at D -/
structure AccT (α : Type) where
  rel : Wn → Cn → Hp → Nat → α → HO → Prop
  mono : ∀ {w c H n c' H' n' a o}, ExtA c H n c' H' n' → rel w c H n a o → rel w c' H' n' a o
  nt : ∀ {w c H n a o}, rel w c H n a o → ∀ ps, o ≠ HO.tbl ps
def accL : AccT (List D) := ⟨fun w c H n ds o => ∃ us, o = .lst us ∧ Ats w c H n ds us, fun e ⟨us, h, t⟩ => ⟨us, h, Ats.monoA e _ _ t⟩, fun ⟨us, h, t⟩ ps z => by rw [h] at z; cases z⟩
def accD : AccT (List Key × List D) := ⟨fun w c H n a o => ∃ us, o = .dK (a.1.zip us) ∧ a.1.length = us.length ∧ Ats w c H n a.2 us, fun e ⟨us, h, l, t⟩ => ⟨us, h, l, Ats.monoA e _ _ t⟩, fun ⟨us, h, l, t⟩ ps z => by rw [h] at z; cases z⟩
variable {α : Type} {T : AccT α}
/-- what stands around D -/
structure Arnd (w : Wn) (T : AccT α) (D : Addr) (c : Cn) (H : Hp) (S : Sto) (acc : α) : Prop where
  rep : Rep w c H S
  side : Side c H S.length D
  at_ : ∃ o, H D = some o ∧ T.rel w c H S.length acc o
theorem Arnd.step {D : Addr} {S' : Sto} {acc : α} (a : Arnd w T D c H S acc) (e : Ext c H S.length c' H' S'.length) (r : Rep w c' H' S') : Arnd w T D c' H' S' acc := by
  obtain ⟨o, ho, t⟩ := a.at_
  obtain ⟨s, h⟩ := a.side.step ho e (T.nt t)
  exact ⟨r, s, o, h, T.mono e.A t⟩
/-- one thing is added -/
abbrev AddM (α : Type) := α → Env → Sto → R α
def StepOk (w : Wn) (T : AccT α) (add : AddM α) (st : Addr → St → Hp → (Hp → Prop) → Prop) : Prop := ∀ (c : Cn) (H : Hp) (S : Sto) (σ : St) (env : Env) (D : Addr) (acc acc' : α) (S' : Sto), Arnd w T D c H S acc → EnvR w c H S.length σ env → add acc env S = .ok acc' S' →
  ∀ N : Hp → Prop, (∀ c' H', Stp D c H S.length c' H' S'.length → Arnd w T D c' H' S' acc' → N H') → st D σ H N
open Classical in
noncomputable def inM (g : GM) (t : TM) (add : AddM α) (env : Env) (st : Option (Nat × List D)) : List D → α → Sto → R α
  | [], acc, S => .if (Stay S ([], st)) (.ok acc S)
  | d :: r, acc, S => .if (Stay S ([], st)) (match g d env with
    | none => .bad
    | some env1 => (t env1 S).nox.bind fun k S1 => if k = true then (add acc env1 S1).nox.bind fun acc1 S2 => inM g t add env st r acc1 S2 else inM g t add env st r acc S1)
open Classical in
noncomputable def outM (g : GM) (t : TM) (im : IM) (g1 : GM) (t1 : TM) (add : AddM α) (vs1 : List Nat) (env : Env) (st : Option (Nat × List D)) : List D → α → Sto → R α
  | [], acc, S => .if (Stay S ([], st)) (.ok acc S)
  | d :: r, acc, S => .if (Stay S ([], st)) (match g d env with
    | none => .bad
    | some env1 => (t env1 S).nox.bind fun k S1 => if k = true then (im env1 S1).nox.bind fun it S2 => (inM g1 t1 add (wipeE env1 vs1) it.2 it.1 acc S2).nox.bind fun acc1 S3 => outM g t im g1 t1 add vs1 env st r acc1 S3 else outM g t im g1 t1 add vs1 env st r acc S1)
noncomputable def e_c2 (vs vs1 : List Nat) (im : IM) (g : GM) (t : TM) (im1 : IM) (g1 : GM) (t1 : TM) (add : AddM α) (a0 : α) (fin : α → Sto → R D) : EM := fun env S => (im env S).bind fun it S1 => (outM g t im1 g1 t1 add vs1 (wipeE env vs) it.2 it.1 a0 S1).nox.bind fin
@[simp] theorem e_c2_eq (vs vs1 : List Nat) (im : IM) (g : GM) (t : TM) (im1 : IM) (g1 : GM) (t1 : TM) (add : AddM α) (a0 : α) (fin : α → Sto → R D) (env : Env) (S : Sto) : e_c2 vs vs1 im g t im1 g1 t1 add a0 fin env S = (im env S).bind fun it S1 => (outM g t im1 g1 t1 add vs1 (wipeE env vs) it.2 it.1 a0 S1).nox.bind fin := rfl
theorem nox_ok {α : Type} {r : R α} {β : Type} {f : α → Sto → R β} {b : β} {S' : Sto} (h : r.nox.bind f = .ok b S') : ∃ a S1, r = .ok a S1 ∧ f a S1 = .ok b S' := by
  cases r with
  | ok a S1 => exact ⟨a, S1, rfl, h⟩
  | ex x S1 => cases h
  | bad => cases h
theorem if_ok' {α : Type} {p : Prop} [Decidable p] {r : R α} {a : α} {S' : Sto} (h : R.if p r = .ok a S') : p ∧ r = .ok a S' := by
  unfold R.if at h
  by_cases hp : p
  · rw [_root_.if_pos hp] at h; exact ⟨hp, h⟩
  · rw [if_neg hp] at h; cases h
/-- a result that is none but ok, read as a promise -/
theorem Po.of_ok {α β : Type} {rel : Cn → Hp → Nat → α → β → Prop} {r : R α} {d : α} {S' : Sto} {Q : β → Hp → Prop} (h : r = .ok d S') (q : ∀ c' H' v, Ext c H n c' H' S'.length → Rep w c' H' S' → rel c' H' S'.length d v → Q v H') : Po w W rel σ c H n r Q := by
  rw [h]; exact q
def FinA (T : AccT α) (fin : α → Sto → R D) : Prop := ∀ (w : Wn) (W : WX) (σ : St) (c : Cn) (H : Hp) (S : Sto) (acc : α) (p : Addr) (Q : VK), Arnd w T p c H S acc →
  ∀ (c0 : Cn) (H0 : Hp) (n0 : Nat), Ext c0 H0 n0 c H S.length → H0 p = none → PoE w W σ c0 H0 n0 (fin acc S) Q → Q (.ref p) H
theorem finA_L {fin : List D → Sto → R D} (h : FinOk fin) : FinA accL fin := by
  intro w W σ c H S acc p Q a c0 H0 n0 e h0 q
  obtain ⟨o, ho, us, rfl, t⟩ := a.at_
  exact h w W σ c H S acc us p Q a.rep t ho a.side.out a.side.nF c0 H0 n0 e h0 q
def finDL (a : List Key × List D) (S : Sto) : R D := .ok (.dic (a.1.map keyD) a.2) S
@[simp] theorem finDL_eq (a : List Key × List D) (S : Sto) : finDL a S = .ok (.dic (a.1.map keyD) a.2) S := rfl
open Classical in
theorem c2_read {vs vs1 sl sl1 : List Nat} {im im1 : IM} {g g1 : GM} {t t1 : TM} {add : AddM α} {a0 : α} {o0 : HO} {fin : α → Sto → R D} {st : Addr → St → Hp → (Hp → Prop) → Prop} {Q : VK} (hf : FinA T fin) (hst : StepOk w T add st) (h0 : ∀ c H n, T.rel w c H n a0 o0) (hsl : ∀ j ∈ sl, j ∈ vs) (hsl1 : ∀ j ∈ sl1, j ∈ vs1)
    (h : mE w W (e_c2 vs vs1 im g t im1 g1 t1 add a0 fin) σ H Q) : tC2 o0 (mI w W im) (mTg w sl g) (mT w W0 t) (mI w W0 im1) (mTg w sl1 g1) (mT w W0 t1) st vs vs1 σ H Q := by
  obtain ⟨c, env, S, r, ev, h⟩ := h
  refine ⟨c, env, S, r, ev, (Po.bind h).imp fun J H1 ⟨c1, S1, it, e1, r1, wk, h1⟩ D hD => ?_⟩
  have ev1 := (ev.mono e1).wipe vs
  cases ho : outM g t im1 g1 t1 add vs1 (wipeE env vs) it.2 it.1 a0 S1 with
  | ex x SF => rw [ho] at h1; exact h1.elim
  | bad => rw [ho] at h1; exact h1.elim
  | ok accF SF =>
  rw [ho, R.nox_ok, R.bind_ok] at h1
  have ex0 : Ext c1 H1 S1.length c1 (upd H1 D o0) S1.length := Ext.grow hD
  refine ⟨fun i m' H' => ∃ c2 S2 acc, Stp D c1 H1 S1.length c2 H' S2.length ∧ Arnd w T D c2 H' S2 acc ∧ EnvR w c2 H' S2.length (wipe σ vs) (wipeE env vs) ∧ m' = it.1.length - i ∧ i ≤ it.1.length ∧ outM g t im1 g1 t1 add vs1 (wipeE env vs) it.2 (it.1.drop i) acc S2 = .ok accF SF,
    ⟨it.1.length, c1, S1, a0, .of ex0, ⟨r1.grow hD, ⟨fun k hk => r1.ne hD hk, r1.nF hD⟩, o0, upd_same, h0 _ _ _⟩, ev1.mono ex0, by simp, Nat.zero_le _, ho⟩, ?_⟩
  rintro i m' H' ⟨c2, S2, acc, s2, ar, ev2, rfl, hi, h2⟩
  have e2 := s2.far c1 H1 S1.length Ext.refl hD
  by_cases hlt : i < it.1.length
  · right
    have hd : it.1.drop i = it.1[i] :: it.1.drop (i + 1) := List.drop_eq_getElem_cons hlt
    rw [hd] at h2
    unfold outM at h2
    obtain ⟨sy, h2⟩ := if_ok' h2
    obtain ⟨w1, _⟩ := wk c2 H' S2 s2.A ar.rep (Stay.of (ds := it.1) sy) i
    obtain ⟨go, yl⟩ := w1 it.1[i] (List.getElem?_eq_getElem hlt)
    refine ⟨go, fun H3 => ∃ c3 S3 acc, Stp D c1 H1 S1.length c3 H3 S3.length ∧ Arnd w T D c3 H3 S3 acc ∧ EnvR w c3 H3 S3.length (wipe σ vs) (wipeE env vs) ∧ outM g t im1 g1 t1 add vs1 (wipeE env vs) it.2 (it.1.drop (i + 1)) acc S3 = .ok accF SF,
      fun H3 ⟨c3, S3, acc, q1, q2, q3, q4⟩ => ⟨it.1.length - (i + 1), by omega, c3, S3, acc, q1, q2, q3, rfl, hlt, q4⟩, fun x H3 y => ?_⟩
    obtain ⟨ey, ry, ay⟩ := yl x H3 y
    cases hg : g it.1[i] (wipeE env vs) with
    | none => rw [hg] at h2; cases h2
    | some env3 =>
      rw [hg] at h2
      obtain ⟨k, S4, ht, h2⟩ := nox_ok h2
      refine ⟨c2, wipeE env vs, S2, it.1[i], env3, ry, ev2.mono ey, ay, hg, fun σ3 evx bt => ⟨wipe_bt bt hsl, c2, env3, S2, ry, evx, Po.of_ok ht fun c4 H4 b e4 r4 eb => ?_⟩⟩
      cases (show b = k from eb)
      have s4 : Stp D c2 H' S2.length c4 H4 S4.length := .of (ey.trans e4)
      have ar4 := (ar.step ey ry).step e4 r4
      have ev4 := ev2.mono (ey.trans e4)
      cases k with
      | false => exact ⟨c4, S4, acc, s2.trans s4, ar4, ev4, h2⟩
      | true =>
        rw [if_pos rfl]
        rw [if_pos rfl] at h2
        obtain ⟨it1, S5, hi1, h2⟩ := nox_ok h2
        obtain ⟨acc6, S6, h6, h2⟩ := nox_ok h2
        refine ⟨c4, env3, S4, r4, evx.mono e4, Po.of_ok hi1 fun c5 H5 J1 e5 r5 wk1 => ?_⟩
        have s5 := s2.trans (s4.trans (.of e5))
        have ar5 := ar4.step e5 r5
        have ev5 := ev4.mono e5
        have evi := ((evx.mono e4).mono e5).wipe vs1
        refine ⟨fun j k H' => ∃ c6 S' acc, Stp D c5 H5 S5.length c6 H' S'.length ∧ Arnd w T D c6 H' S' acc ∧ k = it1.1.length - j ∧ j ≤ it1.1.length ∧ inM g1 t1 add (wipeE env3 vs1) it1.2 (it1.1.drop j) acc S' = .ok acc6 S6,
          ⟨it1.1.length, c5, S5, acc, .of Ext.refl, ar5, by simp, Nat.zero_le _, h6⟩, ?_⟩
        rintro j k H7 ⟨c7, S7, acc7, s7, ar7, rfl, hj, h7⟩
        by_cases hlt1 : j < it1.1.length
        · right
          have hd1 : it1.1.drop j = it1.1[j] :: it1.1.drop (j + 1) := List.drop_eq_getElem_cons hlt1
          rw [hd1] at h7
          unfold inM at h7
          obtain ⟨sy1, h7⟩ := if_ok' h7
          obtain ⟨w3, _⟩ := wk1 c7 H7 S7 s7.A ar7.rep (Stay.of (ds := it1.1) sy1) j
          obtain ⟨go1, yl1⟩ := w3 it1.1[j] (List.getElem?_eq_getElem hlt1)
          refine ⟨go1, fun H8 => ∃ c8 S8 acc, Stp D c5 H5 S5.length c8 H8 S8.length ∧ Arnd w T D c8 H8 S8 acc ∧ inM g1 t1 add (wipeE env3 vs1) it1.2 (it1.1.drop (j + 1)) acc S8 = .ok acc6 S6,
            fun H8 ⟨c8, S8, acc8, q1, q2, q3⟩ => ⟨it1.1.length - (j + 1), by omega, c8, S8, acc8, q1, q2, rfl, hlt1, q3⟩, fun x1 H8 y1 => ?_⟩
          obtain ⟨ey1, ry1, ay1⟩ := yl1 x1 H8 y1
          cases hg1 : g1 it1.1[j] (wipeE env3 vs1) with
          | none => rw [hg1] at h7; cases h7
          | some env5 =>
            rw [hg1] at h7
            obtain ⟨k1, S9, ht1, h7⟩ := nox_ok h7
            refine ⟨c7, wipeE env3 vs1, S7, it1.1[j], env5, ry1, (evi.monoA s7.A).mono ey1, ay1, hg1, fun σ5 evy bt1 => ⟨wipe_bt bt1 hsl1, c7, env5, S7, ry1, evy, Po.of_ok ht1 fun c9 H9 b1 e9 r9 eb1 => ?_⟩⟩
            cases (show b1 = k1 from eb1)
            have s9 := s7.trans (.of (ey1.trans e9))
            have ar9 := (ar7.step ey1 ry1).step e9 r9
            cases k1 with
            | false => exact ⟨c9, S9, acc7, s9, ar9, h7⟩
            | true =>
              rw [if_pos rfl]
              rw [if_pos rfl] at h7
              obtain ⟨acc10, S10, h10, h7⟩ := nox_ok h7
              exact hst c9 H9 S9 σ5 env5 D acc7 acc10 S10 ar9 (evy.mono e9) h10 _ fun c' H' sx arx => ⟨c', S10, acc10, s9.trans sx, arx, h7⟩
        · left
          have e : j = it1.1.length := by omega
          subst e
          rw [List.drop_length] at h7
          unfold inM at h7
          obtain ⟨sy1, h7⟩ := if_ok' h7
          rw [R.ok.injEq] at h7
          obtain ⟨rfl, rfl⟩ := h7
          obtain ⟨_, w4⟩ := wk1 c7 H7 S7 s7.A ar7.rep (Stay.of (ds := it1.1) sy1) it1.1.length
          exact ⟨w4 rfl, c7, S7, acc7, s5.trans s7, ar7, ev5.monoA s7.A, h2⟩
  · left
    have e : i = it.1.length := by omega
    subst e
    rw [List.drop_length] at h2
    unfold outM at h2
    obtain ⟨sy, h2⟩ := if_ok' h2
    rw [R.ok.injEq] at h2
    obtain ⟨rfl, rfl⟩ := h2
    obtain ⟨_, w2⟩ := wk c2 H' S2 s2.A ar.rep (Stay.of (ds := it.1) sy) it.1.length
    exact ⟨w2 rfl, hf w W σ c2 H' S2 acc D Q ar c1 H1 S1.length e2 hD h1⟩
/-- a list's next item -/
def addL2 (m : EM) : AddM (List D) := fun acc env S => (m env S).nox.bind fun y S1 => .if (acc.length < sizeLine) (.ok (acc ++ [y]) S1)
def addD2 (mk mv : EM) : AddM (List Key × List D) := fun acc env S => (mk env S).nox.bind fun k S1 => (mv env S1).nox.bind fun z S2 => (R.ofO (unK k) S2).bind fun key S3 => .if (acc.1.length < sizeLine) (.ok (putDs acc.1 acc.2 key z) S3)
@[simp] theorem addL2_eq (m : EM) (acc : List D) (env : Env) (S : Sto) : addL2 m acc env S = (m env S).nox.bind fun y S1 => .if (acc.length < sizeLine) (.ok (acc ++ [y]) S1) := rfl
@[simp] theorem addD2_eq (mk mv : EM) (acc : List Key × List D) (env : Env) (S : Sto) : addD2 mk mv acc env S = (mk env S).nox.bind fun k S1 => (mv env S1).nox.bind fun z S2 => (R.ofO (unK k) S2).bind fun key S3 => .if (acc.1.length < sizeLine) (.ok (putDs acc.1 acc.2 key z) S3) := rfl
/-- the object at D is changed -/
theorem Ext.sideO {c0 : Cn} {H0 : Hp} {n0 n : Nat} {p : Addr} {o u : HO} (e : Ext c0 H0 n0 c H n) (h0 : H0 p = none) (hp : H p = .some u) : Ext c0 H0 n0 c (upd H p o) n := e.side h0 hp
theorem ExtA.sideO {n : Nat} {p : Addr} {o u : HO} (hp : H p = .some u) (m : Mut (.some u)) (hf : ¬ c.F p) : ExtA c H n c (upd H p o) n :=
  ⟨Nat.le_refl _, fun _ _ => rfl, fun _ h => h, fun a us h => by rw [upd_ne fun e => by rw [e, hp] at h; cases h; exact m]; exact h, fun a x y h => by rw [upd_ne fun e => by rw [e, hp] at h; cases h; exact m]; exact h, fun a x h => by rw [upd_ne fun e => by rw [e, hp] at h; cases h; exact m]; exact h, fun a o f h _ => by
    rw [upd_ne fun e => hf (by rw [← e]; exact f)]; exact h⟩
theorem Rep.sideO (r : Rep w c H S) {p : Addr} {o u : HO} (hp : H p = .some u) (m : Mut (.some u)) (hf : ¬ c.F p) (hn : ∀ k, k < S.length → c.ρ k ≠ p) (hx : ∀ φ, u ≠ .ext φ := by intro φ h; cases h) : Rep w c (upd H p o) S :=
  ⟨fun k ob h => (r.obj k ob h).monoA (ExtA.sideO hp m hf) fun x hx => by rw [upd_ne (hn k (Rep.lt h))]; exact hx, r.inj, r.live, fun a f => by
    obtain ⟨x, q⟩ := r.fro a f
    exact ⟨x, by rw [upd_ne fun e => hf (by rw [← e]; exact f)]; exact q⟩, tabs_upd r.tab fun v e => by rw [hp] at e; cases e; exact ⟨fun ps z => by rw [z] at m; exact m, hx⟩⟩
theorem stepL {m : EM} : StepOk w accL (addL2 m) (stL (mE w W0 m)) := by
  intro c H S σ env D acc acc' S' ar ev h N nx
  obtain ⟨y, S1, hm, h⟩ := nox_ok h
  obtain ⟨hl, h⟩ := if_ok' h
  cases h
  refine ⟨c, env, S, ar.rep, ev, Po.of_ok hm fun c1 H1 v e1 r1 a1 => ?_⟩
  have a2 := ar.step e1 r1
  obtain ⟨o, ho, us, rfl, t⟩ := a2.at_
  have mu : Mut (some (HO.lst us)) := trivial
  refine ⟨us, ho, by rw [t.len]; exact hl, nx c1 _ ⟨e1.A.trans (ExtA.sideO ho mu a2.side.nF), fun c0 H0 n0 z h0 => (z.trans e1).side h0 ho⟩ ⟨r1.sideO ho mu a2.side.nF a2.side.out, ⟨a2.side.out, a2.side.nF⟩, _, upd_same, us ++ [v], rfl, ?_⟩⟩
  have sA := ExtA.sideO (c := c1) (n := S'.length) (o := .lst (us ++ [v])) ho mu a2.side.nF
  exact (Ats.monoA sA _ _ t).app (.one (At.monoA sA _ _ a1))
theorem c_lc2 {elt tg1 iter iter1 : Expr} {ifs ifs1 : List Expr} {scope : Scope} {own : List (Str × Nat)} {vs1 : List Nat} {im im1 : IM} {g g1 : GM} {t t1 : TM} {m : EM} {fin : List D → Sto → R D} {sl sl1 : List Nat} (hf : FinOk fin) (hsl : ∀ j ∈ sl, j ∈ own.map (·.2)) (hsl1 : ∀ j ∈ sl1, j ∈ vs1) (hv : ∀ i ∈ vs1, i ∈ own.map (·.2)) (hc : X.calm = true) (hN : X.N.Nodup) (hi : CI Γ X W tg iter im) (ok : BlkOk X.N X.env.scope scope own)
    (hg : Blk X scope fun Y => CG Γ Y tg sl g) (ht : Blk X scope fun Y => CTs Γ Y W0 ifs t) (hi1 : Blk X scope fun Y => CI Γ Y W0 tg1 iter1 im1) (hg1 : Blk X scope fun Y => CG Γ Y tg1 sl1 g1) (ht1 : Blk X scope fun Y => CTs Γ Y W0 ifs1 t1) (he : Blk X scope fun Y => CE Γ Y W0 elt m)
    (hs : ∀ x, foldedSetIterable iter X.env x = pure x := by intro _; rfl) (hs1 : ∀ env x, foldedSetIterable iter1 env x = pure x := by intro _ _; rfl) :
    CE Γ X W (.ListComp elt [⟨tg, iter, ifs, 0⟩, ⟨tg1, iter1, ifs1, 0⟩] scope pos) (e_c2 (own.map (·.2)) vs1 im g t im1 g1 t1 (addL2 m) [] fin) :=
  PE.weak (pe_lc2 hc hN hi ok hv hg ht hi1 hg1 ht1 he hs hs1) fun σ H Q h => c2_read (T := accL) (o0 := .lst []) (finA_L hf) stepL (fun _ _ _ => ⟨[], rfl, .nil⟩) hsl hsl1 h
end
end Mm
set_option maxRecDepth 100000
/-! Calls with keywords, of any many values; try without an error; dicts that are equal; the letters of a text. -/
namespace Mm
open PySem L2
section
variable {w : Wn} {W : WX} {σ : St} {c c' : Cn} {H H' : Hp} {n n' : Nat} {S : Sto} {env : Env}
variable {Γ : Cls'} {X : Cx} {a b e tg : Expr} {es : List Expr} {ma mb : EM} {am km : AM} {pos : Pos} {Dn : Ends} {kws : List Keyword}
theorem PK.weak {kws : List Keyword} {t t' : TA} (h : PK X kws t) (i : ∀ σ H Q, t' σ H Q → t σ H Q) : PK X kws t' := ⟨fun pos pins s σ H Q I q => h.run pos pins s σ H Q I (i σ H Q q)⟩
abbrev CK (Γ : Cls') (X : Cx) (W : WX) (kws : List Keyword) (m : AM) : Prop := PK X kws (mA ⟨X.K, Γ⟩ W m)
theorem c_knil : CK Γ X W [] a_nil := PK.weak pk_nil fun σ H Q h => ca_nil_read h
theorem cons_read {Q : List V → Hp → Prop} (h : mA w W (a_cons ma am) σ H Q) : tCons (mE w W ma) (mA w W am) σ H Q := by
  obtain ⟨c, env, S, r, ev, h⟩ := h
  refine ⟨c, env, S, r, ev, (Po.bind h).imp fun v H1 ⟨c1, S1, d1, e1, r1, a1, h1⟩ => ?_⟩
  refine ⟨c1, env, S1, r1, ev.mono e1, (Po.bind h1).imp fun vs H2 ⟨c2, S2, ds, e2, r2, a2, h2⟩ => ?_⟩
  exact h2 c2 H2 _ Ext.refl r2 (.cons (a1.mono e2) a2)
theorem c_kcons {nm : Option Str} {kpos : Pos} (he : CE Γ X W e ma) (hk : CK Γ X W kws am) : CK Γ X W (⟨nm, e, kpos⟩ :: kws) (a_cons ma am) := PK.weak (pk_cons he hk) fun σ H Q h => cons_read h
/-! ## a new object, keywords -/
def mkDk (k : Nat) (m : FM) (f : D → List D) (S : Sto) : R D := (m (f (.loc S.length)) (S ++ [.ins k []])).bind fun d S2 => match d with
  | .non => .ok (.loc S.length) S2
  | _ => .bad
def e_mkk (tr : TrF) (k : Nat) (m : FM) (g : D → List D → List D → List D) (n nk : Nat) (am km : AM) : EM := fun env S => (am env S).bind fun ds S1 => (km env S1).bind fun es S2 => .if (ds.length = n ∧ es.length = nk) (tr S2 (mkDk k m (fun x => g x ds es) S2))
@[simp] theorem e_mkk_eq (tr : TrF) (k : Nat) (m : FM) (g : D → List D → List D → List D) (n nk : Nat) (am km : AM) (env : Env) (S : Sto) : e_mkk tr k m g n nk am km env S = (am env S).bind fun ds S1 => (km env S1).bind fun es S2 => .if (ds.length = n ∧ es.length = nk) (tr S2 (mkDk k m (fun x => g x ds es) S2)) := rfl
/-- the class k stands under its name; its __init__ is m; n values and the keywords ks, put in order by g -/
structure Dkk (P : Program) (wd : World) (K : PySem.W.Frag) (mg : Str → Option Value) (base : Heap) (Γ : Cls') (k : Nat) (x : Str) (lv : Nat) (m : FM) (n : Nat) (ks : List Str) (g : D → List D → List D → List D) : Prop where
  ex : ∃ (C f : Addr) (fd : FuncData) (ps : List Str) (g0 : List Value → List Value → List Value) (gV : List V → List V → List V), Γ.at_ k = some C ∧ mg x = some (.ref C) ∧ Mk K C f ∧ FnOk P wd K mg base (L2.CX P wd) lv f fd ps (spM K Γ m) ∧ KBn K fd ps (n + 1) ks g0 gV ∧
    ∀ (c : Cn) (H : Hp) (j : Nat) (x : D) (v : V) (ds es : List D) (vs zs : List V), At ⟨K, Γ⟩ c H j x v → Ats ⟨K, Γ⟩ c H j ds vs → Ats ⟨K, Γ⟩ c H j es zs → ds.length = n → es.length = ks.length → Ats ⟨K, Γ⟩ c H j (g x ds es) (gV (v :: vs) zs)
/-- the end of a new object's __init__ -/
theorem mk_end {k : Nat} {C x dx : Addr} {m : FM} {f : D → List D} {us : List V} {tr : TrF} {Q : VK} (ht : TrOk tr) (r : Rep ⟨X.K, Γ⟩ c H S) (gC : Γ.at_ k = some C) (hx : H x = none) (hd : H dx = none) (ne : dx ≠ x)
    (ha : ∀ (c' : Cn) (H' : Hp) (j : Nat), Ext c H S.length c' H' j → At ⟨X.K, Γ⟩ c' H' j (.loc S.length) (.ref x) → Ats ⟨X.K, Γ⟩ c' H' j (f (.loc S.length)) us) (h : PoE ⟨X.K, Γ⟩ W σ c H S.length (tr S (mkDk k m f S)) Q) :
    spM X.K Γ m us (upd (upd H dx (.own x)) x (.ins C dx [])) (fun v H3 => v = .non ∧ Q (.ref x) H3) fun C dd H => W C dd σ H := by
  obtain ⟨e2, r2, t2⟩ := mk_start (w := ⟨X.K, Γ⟩) (ds := []) (vs := []) r gC .nil hx hd ne
  obtain ⟨_, _, he, al, _⟩ := t2.uncons
  cases he
  have h2 := Po.mono e2 (ht _ _ _ _ _ _ _ _ r h)
  refine ⟨_, _, _, r2, ha _ _ _ e2 al, ?_⟩
  refine Po.wish ((Po.bind h2).imp fun v H3 ⟨c3, S3, d3, e3, r3, a3, h3⟩ => ?_) fun _ _ _ z => z
  cases d3 with
  | non =>
    refine ⟨a3.non, h3 c3 H3 _ Ext.refl r3 ?_⟩
    have hl : (S ++ [SO.ins k []]).length = S.length + 1 := by rw [List.length_append]; rfl
    unfold At
    have hlt : S.length < (S ++ [SO.ins k []]).length := by rw [hl]; exact Nat.lt_succ_self _
    exact ⟨Nat.lt_of_lt_of_le hlt e3.le, by rw [e3.rho _ hlt, Cn.nw_at]⟩
  | _ => exact h3.elim
theorem c_mkk {k lv n : Nat} {x : Str} {m : FM} {p : Pos} {tr : TrF} {ks : List Str} {g : D → List D → List D → List D} (tok : TrOk tr) (G : Dkk X.prog X.w X.K X.mg X.base Γ k x lv m n ks g) (go : Goes X W) (hr : Room (lv + 1) X.A) (hg : Gl X x) (ha : CA Γ X W (e :: es) am) (hk : CK Γ X W kws km)
    (hall : (backToKw pos (keywordEach kws X.env)).all (·.1.isSome) = true := by rfl) (hks : (backToKw pos (keywordEach kws X.env)).filterMap (·.1) = ks := by rfl) (hdb : (x == ("__debug__" : Str)) = false := by decide)
    (he : starEach (e :: es) X.env = (false, eval e X.env) :: starEach es X.env := by rfl) (hpl : ((backTo pos (starEach (e :: es) X.env)).any (·.1) || (backToKw pos (keywordEach kws X.env)).any (·.1.isNone)) = false := by rfl) : CE Γ X W (.Call (.Name x p) (e :: es) kws pos) (e_mkk tr k m g n ks.length am km) := by
  obtain ⟨C, f, fd, ps, g0, gV, gC, hm, M, F, hb, hrel⟩ := G.ex
  refine PE.weak (pe_makeKS (E := fun σ => WE W σ) M F hr hg hm hb go ha hk hall hks hdb he hpl) fun σ H Q ⟨c, env, S, r, ev, h⟩ => ?_
  refine ⟨c, env, S, r, ev, (Po.bind h).imp fun vs H1 ⟨c1, S1, ds, e1, r1, a1, h1⟩ => ?_⟩
  refine ⟨c1, env, S1, r1, ev.mono e1, (Po.bind h1).imp fun zs H2 ⟨c2, S2, ds2, e2, r2, a2, h2⟩ => ?_⟩
  obtain ⟨⟨l1, l2⟩, h2⟩ := Po.if h2
  refine ⟨by rw [a1.len]; exact l1, by rw [a2.len]; exact l2, fun x dx hx hd ne => ?_⟩
  exact mk_end tok r2 gC hx hd ne (fun c' H' j ex al => hrel c' H' j _ _ _ _ _ _ al ((a1.mono e2).mono ex) (a2.mono ex) l1 l2) h2
/-! ## any many values, keywords -/
def e_mks (tr : TrF) (k : Nat) (m : FM) (g : D → List D → List D) (nk : Nat) (am km : AM) : EM := fun env S => (am env S).bind fun ds S1 => (km env S1).bind fun es S2 => .if (ds.length ≤ 1000 ∧ es.length = nk) (tr S2 (mkDk k m (fun x => g x es ++ [.tup ds]) S2))
@[simp] theorem e_mks_eq (tr : TrF) (k : Nat) (m : FM) (g : D → List D → List D) (nk : Nat) (am km : AM) (env : Env) (S : Sto) : e_mks tr k m g nk am km env S = (am env S).bind fun ds S1 => (km env S1).bind fun es S2 => .if (ds.length ≤ 1000 ∧ es.length = nk) (tr S2 (mkDk k m (fun x => g x es ++ [.tup ds]) S2)) := rfl
structure Dks (P : Program) (wd : World) (K : PySem.W.Frag) (mg : Str → Option Value) (base : Heap) (Γ : Cls') (k : Nat) (x : Str) (lv : Nat) (m : FM) (ks : List Str) (g : D → List D → List D) : Prop where
  ex : ∃ (C f : Addr) (gV : List V → List V → List V), Γ.at_ k = some C ∧ mg x = some (.ref C) ∧ Mk K C f ∧ StK.FnRK P wd K mg base (L2.CX P wd) lv f ks (fun zs vs H Q E => ∃ ws rest, vs = ws ++ rest ∧ ws.length = 1 ∧ rest.length ≤ sizeLine ∧ ∀ p, H p = none → spM K Γ m (gV ws zs ++ [V.ref p]) (upd H p (.tup rest)) Q E) ∧
    ∀ (c : Cn) (H : Hp) (j : Nat) (x : D) (v : V) (es : List D) (zs : List V), At ⟨K, Γ⟩ c H j x v → Ats ⟨K, Γ⟩ c H j es zs → es.length = ks.length → Ats ⟨K, Γ⟩ c H j (g x es) (gV [v] zs)
theorem c_mks {k lv : Nat} {x : Str} {m : FM} {p : Pos} {tr : TrF} {ks : List Str} {g : D → List D → List D} (tok : TrOk tr) (G : Dks X.prog X.w X.K X.mg X.base Γ k x lv m ks g) (go : Goes X W) (hr : Room (lv + 1) X.A) (hg : Gl X x) (ha : CA Γ X W (e :: es) am) (hk : CK Γ X W kws km)
    (hall : (backToKw pos (keywordEach kws X.env)).all (·.1.isSome) = true := by rfl) (hks : (backToKw pos (keywordEach kws X.env)).filterMap (·.1) = ks := by rfl) (hdb : (x == ("__debug__" : Str)) = false := by decide)
    (he : starEach (e :: es) X.env = (false, eval e X.env) :: starEach es X.env := by rfl) (hpl : ((backTo pos (starEach (e :: es) X.env)).any (·.1) || (backToKw pos (keywordEach kws X.env)).any (·.1.isNone)) = false := by rfl) : CE Γ X W (.Call (.Name x p) (e :: es) kws pos) (e_mks tr k m g ks.length am km) := by
  obtain ⟨C, f, gV, gC, hm, M, F, hrel⟩ := G.ex
  refine PE.weak (StK.pe_makeRK (E := fun σ => WE W σ) M F hr hg hm go ha hk hall hks hdb he hpl) fun σ H Q ⟨c, env, S, r, ev, h⟩ => ?_
  refine ⟨c, env, S, r, ev, (Po.bind h).imp fun vs H1 ⟨c1, S1, ds, e1, r1, a1, h1⟩ => ?_⟩
  refine ⟨c1, env, S1, r1, ev.mono e1, (Po.bind h1).imp fun zs H2 ⟨c2, S2, ds2, e2, r2, a2, h2⟩ => ?_⟩
  obtain ⟨⟨l1, l2⟩, h2⟩ := Po.if h2
  refine ⟨by rw [a2.len]; exact l2, fun x dx hx hd ne => ⟨[.ref x], vs, rfl, rfl, by rw [a1.len]; exact Nat.le_trans l1 (by decide), fun q hq => ?_⟩⟩
  obtain ⟨e3, r3, t3⟩ := mk_start (w := ⟨X.K, Γ⟩) (ds := []) (vs := []) r2 gC .nil hx hd ne
  obtain ⟨_, _, hE, al, _⟩ := t3.uncons
  cases hE
  have e4 := e3.trans (Ext.grow (o := .tup vs) (n := (S2 ++ [SO.ins k []]).length) (c := c2.nw S2.length x) hq)
  have h3 := Po.mono e4 (tok _ _ _ _ _ _ _ _ r2 h2)
  have al4 := al.mono (Ext.grow (o := .tup vs) hq)
  have at_ : At ⟨X.K, Γ⟩ (c2.nw S2.length x) (upd (upd (upd H2 dx (.own x)) x (.ins C dx [])) q (.tup vs)) (S2 ++ [SO.ins k []]).length (.tup ds) (.ref q) := by
    unfold At
    exact ⟨q, vs, rfl, SqT.of upd_same, (a1.mono e2).mono e4⟩
  refine ⟨_, _, _, r3.grow (o := .tup vs) hq, (hrel _ _ _ _ _ _ _ al4 (a2.mono e4) l2).app (.one at_), ?_⟩
  refine Po.wish ((Po.bind h3).imp fun v H3 ⟨c3, S3, d3, e5, r5, a5, h5⟩ => ?_) fun _ _ _ z => z
  cases d3 with
  | non =>
    refine ⟨a5.non, h5 c3 H3 _ Ext.refl r5 ?_⟩
    unfold At at al4
    unfold At
    exact ⟨Nat.lt_of_lt_of_le al4.1 e5.le, by rw [e5.rho _ al4.1]; exact al4.2⟩
  | _ => exact h5.elim
def s_nox (m : SM) : SM := fun env S => match m env S with
  | .ex _ _ _ => .bad
  | r => r
@[simp] theorem s_nox_eq (m : SM) (env : Env) (S : Sto) : s_nox m env S = match m env S with
  | .ex _ _ _ => .bad
  | r => r := rfl
theorem c_tryNo {body : List Stmt} {h0 : ExceptHandler} {hs : List ExceptHandler} {m : SM} (hb : CSs Γ X.nox W0 body m) : CS Γ X W (.Try body (h0 :: hs) [] [] pos) (s_nox m) := by
  refine PS.weak (ps_try_thru0 hb) fun Dn σ H ⟨c, env, S, r, ev, h⟩ => ⟨c, env, S, r, ev, ?_⟩
  unfold s_nox at h
  cases hm : m env S with
  | ex x env1 S1 => rw [hm] at h; exact h.elim
  | next env1 S1 => rw [hm] at h; exact h
  | ret d S1 => rw [hm] at h; exact h
  | brk env1 S1 => rw [hm] at h; exact h
  | cnt env1 S1 => rw [hm] at h; exact h
  | bad => rw [hm] at h; exact h.elim
/-! ## dicts that are equal -/
def sameDs (p q : List D × List D) : Bool := match kkO p.1, kkO q.1 with
  | some kk, some ll => p.2.length == q.2.length && (kk.zip p.2).all fun kd => match getDs ll q.2 kd.1 with
    | some z => match DV kd.2, DV z with
      | some u, some v => decide (u = v)
      | _, _ => false
    | none => false
  | _, _ => false
def dneD (x y : D) (S : Sto) : R D := match dicOf S x, dicOf S y with
  | some p, some q => .if (sameDs p q = true) (.ok (.bl false) S)
  | _, _ => .bad
/-! ## letters -/
@[simp] theorem i_str_eq (m : EM) (env : Env) (S : Sto) : i_str m env S = (m env S).bind fun d S1 => match d with
  | .str x => .ok (x.cps.toList.map fun k => .str ⟨#[k]⟩, none) S1
  | _ => .bad := rfl
theorem ci_str (he : CE Γ X W e ma) : CI Γ X W tg e (i_str ma) := by
  refine PI.weak (pi_str he) fun σ H R ⟨c, env, S, r, ev, h⟩ => ?_
  refine ⟨c, env, S, r, ev, (Po.bind h).imp fun v H1 ⟨c1, S1, d1, e1, r1, a1, h1⟩ => ?_⟩
  cases d1 with
  | str x =>
    refine ⟨x, a1.str, h1 c1 H1 _ Ext.refl r1 ?_⟩
    intro c2 H2 S2 e2 r2 st i
    refine ⟨fun d hd => ?_, fun hi => ?_⟩
    · rw [List.getElem?_map] at hd
      cases hx : x.cps.toList[i]? with
      | none => rw [hx] at hd; cases hd
      | some k =>
        rw [hx] at hd
        cases hd
        have hi : i < x.cps.size := by
          have := (List.getElem?_eq_some_iff.mp hx).1
          simpa using this
        refine ⟨hi, ?_⟩
        rintro y H3 ⟨rfl, k', hk, rfl⟩
        have : x.cps[i]? = some k := by rw [← Array.getElem?_toList]; exact hx
        rw [this] at hk; cases hk
        exact ⟨Ext.refl, r2, .s _⟩
    · rw [List.length_map] at hi
      show x.cps.size ≤ i
      simp at hi; omega
  | _ => exact h1.elim
end
end Mm
set_option maxRecDepth 100000
/-! A written dict of numbers; defs of keyword parameters; short words. -/
namespace Mm
open PySem L2
section
variable {w : Wn} {W : WX} {σ : St} {c c' : Cn} {H H' : Hp} {n n' : Nat} {S : Sto} {env : Env}
variable {Γ : Cls'} {X : Cx} {a b e tg : Expr} {es : List Expr} {ma mb mo : EM} {am km : AM} {pos : Pos} {Dn : Ends} {kws : List Keyword}
/-- the module's name x holds a written dict: the numbers of these words -/
structure Kd (K : PySem.W.Frag) (wd : World) (mg : Str → Option Value) (x : Str) (tb : List (Str × Int)) : Prop where
  ex : ∃ it, mg x = some (.ref it) ∧ (∃ es n, K.lookup it = some ⟨.type "dict", none, .dict es n, #[]⟩) ∧ ∀ z i, tb.lookup z = some i → KG K wd it z (.int i)
def kgetD (tb : List (Str × Int)) (y : D) (S : Sto) : R D := match y with
  | .str z => .ofO ((tb.lookup z).map D.int) S
  | _ => .bad
@[simp] theorem kgetD_str (tb : List (Str × Int)) (z : Str) (S : Sto) : kgetD tb (.str z) S = .ofO ((tb.lookup z).map D.int) S := rfl
def e_kget (tb : List (Str × Int)) (m : EM) : EM := fun env S => (m env S).bind (kgetD tb)
@[simp] theorem e_kget_eq (tb : List (Str × Int)) (m : EM) (env : Env) (S : Sto) : e_kget tb m env S = (m env S).bind (kgetD tb) := rfl
theorem c_kget {tb : List (Str × Int)} {x : Str} {p apos cpos : Pos} (G : Kd X.K X.w X.mg x tb) (he : CE Γ X W e ma) (hg : Gl X x := by rfl) (hd : (x == ("__debug__" : Str)) = false := by decide) (h1 : M1 X (.Name x p) "get" apos e cpos := by exact ⟨rfl, rfl, rfl, rfl⟩) : CE Γ X W (.Call (.Attribute (.Name x p) "get" apos) [e] [] cpos) (e_kget tb ma) := by
  obtain ⟨it, hm, ⟨es, nn, lk⟩, hk⟩ := G.ex
  refine PE.weak (pe_kget (pe_glob (v := .ref it) hg hm rfl hd) he (fun σ H Q h => ⟨⟨it, _, es, nn, rfl, lk, rfl⟩, h⟩) h1) fun σ H Q ⟨c, env, S, r, ev, h⟩ => ?_
  refine ⟨c, env, S, r, ev, (Po.bind h).imp fun v H1 ⟨c1, S1, d1, e1, r1, a1, h1⟩ => ?_⟩
  cases d1 with
  | str z =>
    obtain ⟨i, hi, h1⟩ := Po.ofM h1
    exact ⟨it, z, .int i, rfl, a1.str, hk z i hi, fin_ok h1 r1 (.i _)⟩
  | _ => exact h1.elim
/-- a def with keyword-only parameters -/
theorem def_okD {P : Program} {wd : World} {K : PySem.W.Frag} {mg : Str → Option Value} {base : Heap} {x qual : Str} {params : Arguments} {body : List Stmt} {scope : Scope} {dvs : List V} {kws : List (Str × V)} {f : Addr} {fd : FuncData} {N ps : List Str} {k : Nat} {b : SM} (F : FunD K x qual params body scope dvs kws f fd) (Sc : FnScope N ps scope)
    (hb : ∀ (cdv : Value) (A : Around) (outer : List PySem.Env) (s : Shared) (H : Hp) (E : XK), Room k (A.deeper (PyProof.Rows.envOfC qual scope s.heap.objs.size f cdv)) → CSs Γ (cxOf (L2.CX P wd) P wd K mg base N qual scope f cdv A outer s H E) (fun C dd _ H => E C dd H) body b) :
    FnOk P wd K mg base (L2.CX P wd) (k + 1) f fd ps (spM K Γ (runDef ps.length N.length b)) := by
  refine F.ok Sc (fun vs H Q E ⟨c, S, ds, r, t, h⟩ => ?_) (fun cdv A outer s H vs Q E hr ⟨c, S, ds, r, t, h⟩ => ⟨_, hb cdv A outer s H E hr, ?_⟩)
  · unfold runDef at h
    by_cases hl : ds.length = ps.length
    · rw [t.len]; exact hl
    · rw [if_neg hl] at h; exact h.elim
  · unfold runDef at h
    by_cases hl : ds.length = ps.length
    · rw [if_pos hl, ← hl] at h
      refine ⟨c, _, S, r, envR_start t, ?_⟩
      cases hx : b (ds.map some ++ List.replicate (N.length - ds.length) none) S with
      | next env' S' => rw [hx] at h; exact fun c2 H2 s2 e2 r2 a2 => h c2 H2 .non e2 r2 .o
      | ret d S' => rw [hx] at h; exact fun c2 H2 v e2 r2 a2 => h c2 H2 v e2 r2 a2
      | ex x env' S' => rw [hx] at h; exact fun c2 H2 s2 C dd e2 r2 a2 xa => h c2 H2 C dd e2 r2 xa
      | brk env' S' => rw [hx] at h; exact h.elim
      | cnt env' S' => rw [hx] at h; exact h.elim
      | bad => rw [hx] at h; exact h.elim
    · rw [if_neg hl] at h; exact h.elim
theorem hu1 {k : Nat} {A : Around} (hr : Room k A) : A.units + 1 < cLine := by have := hu64 hr; omega
/-- the class's name, for isinstance -/
structure KcOk (K : PySem.W.Frag) (Γ : Cls') (mg : Str → Option Value) (x : Str) (kt : Ty → Option Bool) : Prop where
  ex : ∃ C, mg x = some (.ref C) ∧ KitOk K Γ (.ref C) kt
theorem c_isiK {x : Str} {kt : Ty → Option Bool} {p q : Pos} (hl : Γ.lk = none) (hm : X.mg "isinstance" = none) (G : KcOk X.K Γ X.mg x kt) (he : CE Γ X W e ma) (hg : Gl X "isinstance" := by rfl) (hgT : Gl X x := by rfl) (hdb : (x == ("__debug__" : Str)) = false := by decide)
    (h1 : starEach [e, .Name x q] X.env = (false, eval e X.env) :: starEach [.Name x q] X.env := by rfl) (h2 : starEach [.Name x q] X.env = (false, eval (.Name x q) X.env) :: starEach [] X.env := by rfl) (hpl : (backTo pos (starEach [.Name x q] X.env)).any (·.1) = false := by rfl) :
    CE Γ X W (.Call (.Name "isinstance" p) [e, .Name x q] [] pos) (e_isi kt ma) := by
  obtain ⟨C, hC, kk⟩ := G.ex
  exact c_isiC hl hm hC kk he hg hgT hdb h1 h2 hpl
/-- len(set(xs)), texts -/
def lensD (x : D) (S : Sto) : R D := .ofO (((lstOf S x).bind (allO stO)).bind fun xs => if xs.length ≤ 100 then some (D.int (LenS.many xs xs.length : Nat)) else none) S
def e_lens (m : EM) : EM := fun env S => (m env S).bind lensD
@[simp] theorem e_lens_eq (m : EM) (env : Env) (S : Sto) : e_lens m env S = (m env S).bind lensD := rfl
theorem c_lens {p p2 q : Pos} (hg : Gl X "len") (hm : X.mg "len" = none) (hg2 : Gl X "set") (hm2 : X.mg "set" = none) (ha : CE Γ X W a ma) (hc : X.calm = true := by rfl) (na : starEach [a] X.env = (false, eval a X.env) :: starEach [] X.env := by rfl) : CE Γ X W (.Call (.Name "len" p) [.Call (.Name "set" p2) [a] [] q] [] pos) (e_lens ma) := by
  refine PE.weak (pe_lenS hg hm hg2 hm2 ha hc na) fun σ H Q ⟨c, env, S, r, ev, h⟩ => ?_
  refine ⟨c, env, S, r, ev, (Po.bind h).imp fun v H1 ⟨c1, S1, d1, e1, r1, a1, h1⟩ => ?_⟩
  obtain ⟨y, hy, h1⟩ := Po.ofO h1
  cases hb : (lstOf S1 d1).bind (allO stO) with
  | none => rw [hb] at hy; cases hy
  | some xs =>
    rw [hb, Option.bind_some] at hy
    by_cases hl : xs.length ≤ 100
    · rw [if_pos hl] at hy; cases hy
      obtain ⟨l, rfl, g⟩ := lstO (fv := V.str) (fun d x v h a => stO_at h a) r1 a1 hb
      exact ⟨l, xs, rfl, g, hl, fin_ok h1 r1 (.i _)⟩
    · rw [if_neg hl] at hy; cases hy
/-- not x, x of any kind -/
def e_nott (m : EM) : EM := fun env S => (m env S).bind fun d S1 => .ofO ((truD S1 d).map fun k => D.bl (!k)) S1
@[simp] theorem e_nott_eq (m : EM) (env : Env) (S : Sto) : e_nott m env S = (m env S).bind fun d S1 => .ofO ((truD S1 d).map fun k => D.bl (!k)) S1 := rfl
theorem c_nott (ha : CE Γ X W a ma) : CE Γ X W (.UnaryOp .Not a pos) (e_nott ma) := by
  refine PE.weak (pe_notT ha) fun σ H Q ⟨c, env, S, r, ev, h⟩ => ?_
  refine ⟨c, env, S, r, ev, (Po.bind h).imp fun v H1 ⟨c1, S1, d1, e1, r1, a1, h1⟩ => ?_⟩
  obtain ⟨k, hk, h1⟩ := Po.ofM h1
  exact ⟨k, truD_at r1 a1 hk, fin_ok h1 r1 (.b _)⟩
end
end Mm
set_option maxRecDepth 100000
/-! [*xs, y]; sorted texts; min; an own __len__. -/
namespace Mm
open PySem L2 StX
section
variable {w : Wn} {W : WX} {σ : St} {c c' : Cn} {H H' : Hp} {n n' : Nat} {S : Sto} {env : Env}
variable {Γ : Cls'} {X : Cx} {a b e tg : Expr} {es : List Expr} {ma mb mo : EM} {am km : AM} {pos : Pos} {Dn : Ends} {kws : List Keyword}
/-! ## *xs among the items -/
def a_star (m : EM) (r : AM) : AM := fun env S => (m env S).bind fun d S1 => match seqOf S1 d with
  | some xs => (r env S1).bind fun ds S2 => .ok (xs ++ ds) S2
  | none => .bad
@[simp] theorem a_star_eq (m : EM) (r : AM) (env : Env) (S : Sto) : a_star m r env S = (m env S).bind fun d S1 => match seqOf S1 d with
  | some xs => (r env S1).bind fun ds S2 => .ok (xs ++ ds) S2
  | none => .bad := rfl
/-! ## sorted texts -/
def leS (x y : Str) : Bool := !decide (y.cps.toList < x.cps.toList)
def sortS (xs : List Str) : List Str := xs.mergeSort leS
def sortSD (x : D) (S : Sto) : R D := .ofO (((lstOf S x).bind (allO stO)).bind fun ns => if ns.length < 64 then some (D.lst ((sortS ns).map D.str)) else none) S
/-! ## min -/
def minL : List Int → Int
  | [] => 0
  | [x] => x
  | x :: y :: r => min x (minL (y :: r))
def minD (x : D) (S : Sto) : R D := .ofO (((lstOf S x).bind (allO inO)).bind fun ns => if 0 < ns.length then some (D.int (minL ns)) else none) S
/-! ## len(x) by an own __len__ -/
theorem pass_no {P : Program} {w : World} {X : Cx} : Passes (L2.CX P w) X (fun _ _ _ => False) := fun pins σ H s e s' I h => by
  obtain ⟨a, B, H', cls, d, _, _, _, _, _, _, _, z⟩ := h
  exact z.elim
open Classical in
noncomputable def lenOwnD (k : Nat) (m : FM) (d : D) (S : Sto) : R D := .if (isI k d S) ((m [d] S).nox.bind fun y S1 => match y with
  | .int i => .if (0 ≤ i ∧ i < 2 ^ 63) (.ok (.int i) S1)
  | _ => .bad)
open Classical in
@[simp] theorem lenOwnD_eq (k : Nat) (m : FM) (d : D) (S : Sto) : lenOwnD k m d S = .if (isI k d S) ((m [d] S).nox.bind fun y S1 => match y with
  | .int i => .if (0 ≤ i ∧ i < 2 ^ 63) (.ok (.int i) S1)
  | _ => .bad) := rfl
open Classical in
theorem c_lenOwn {k lv : Nat} {m : FM} {p : Pos} (G : Dn' X.prog X.w X.K X.mg X.base Γ k "__len__" lv m) (hr : Room (lv + 1) X.A) (hg : Gl X "len") (hm : X.mg "len" = none) (ha : CE Γ X W a ma)
    (he : starEach (a :: []) X.env = (false, eval a X.env) :: starEach [] X.env := by rfl) (hpl : (backTo pos (starEach [] X.env)).any (·.1) = false := by rfl) : CE Γ X W (.Call (.Name "len" p) [a] [] pos) (e_call (f1 (lenOwnD k m)) (a_cons ma a_nil)) := by
  obtain ⟨C, f, fd, ps, gC, M, hf, F, hb⟩ := G.ex
  refine c_callB (call_lenOwn M F hr hb pass_no) (.one fun W σ c H S x v Q r a h => ?_) hg hm PySem.boot_len (c_acons ha c_anil he) (he := he) (hpl := hpl)
  obtain ⟨⟨ds, hi⟩, h⟩ := Po.if h
  obtain ⟨q, vs, C', dx, rfl, g, l, s, t⟩ := insOf_at r a hi
  rw [gC] at g; cases g
  refine ⟨q, dx, _, rfl, s, c, S, [x], r, .one a, (Po.nox Ext.refl h).imp fun v H1 ⟨c1, S1, d1, e1, e2, r1, a1, h1⟩ => ?_⟩
  cases d1 with
  | int i =>
    obtain ⟨⟨i0, i1⟩, h1⟩ := Po.if h1
    exact ⟨i, a1.int, i0, i1, h1 c1 H1 v e2 r1 a1⟩
  | _ => exact h1.elim
/-! ## x, y, z = a, b, c -/
def s_par3 (i j l : Nat) (m : AM) : SM := fun env S => (m env S).toS env fun ds S1 => match ds with
  | [x, y, z] => .next (((env.set i (some x)).set j (some y)).set l (some z)) S1
  | _ => .bad
@[simp] theorem s_par3_eq (i j l : Nat) (m : AM) (env : Env) (S : Sto) : s_par3 i j l m env S = (m env S).toS env fun ds S1 => match ds with
  | [x, y, z] => .next (((env.set i (some x)).set j (some y)).set l (some z)) S1
  | _ => .bad := rfl
end
end Mm
set_option maxRecDepth 100000
/-! Errors over the plain data: raise, try with named clauses, what a clause reads of its error. -/
namespace Mm
open PySem L2
/-! ## no caught error in a value -/
mutual
def D.nxn : D → Bool
  | .tup ds => nxns ds
  | .ttp ds => nxns ds
  | .lst ds => nxns ds
  | .dic _ ds => nxns ds
  | .obj _ ds => nxns ds
  | .xn _ _ => false
  | _ => true
def nxns : List D → Bool
  | [] => true
  | d :: r => d.nxn && nxns r
end
def SO.nxn : SO → Bool
  | .lst ds => nxns ds
  | .dic _ ds => nxns ds
  | .ins _ ds => nxns ds
def Cls'.on (Γ : Cls') (a dd : Addr) : Cls' := { Γ with ex := some (a, dd) }
section
variable {K : PySem.W.Frag} {Γ Γ' : Cls'} {c : Cn} {H : Hp} {n : Nat}
mutual
theorem At.nxn (hx : Γ.ex = none) : ∀ (d : D) (v : V), At ⟨K, Γ⟩ c H n d v → d.nxn = true
  | .non, v, h => rfl
  | .bl b, v, h => rfl
  | .int i, v, h => rfl
  | .str x, v, h => rfl
  | .tup ds, v, h => by
    unfold At at h; unfold D.nxn
    obtain ⟨a, vs, r, s, t⟩ := h
    exact Ats.nxn hx ds vs t
  | .ttp ds, v, h => by
    unfold At at h; unfold D.nxn
    obtain ⟨a, vs, r, s, t⟩ := h
    exact Ats.nxn hx ds vs t
  | .lst ds, v, h => by
    unfold At at h; unfold D.nxn
    obtain ⟨a, vs, r, f, s, t⟩ := h
    exact Ats.nxn hx ds vs t
  | .dic ks ds, v, h => by
    unfold At at h; unfold D.nxn
    obtain ⟨a, vs, r, f, s, t⟩ := h
    exact Ats.nxn hx ds vs t
  | .obj k ds, v, h => by
    unfold At at h; unfold D.nxn
    obtain ⟨a, vs, C, dx, r, f, g, l, s, t⟩ := h
    exact Ats.nxn hx ds vs t
  | .fz ns, v, h => rfl
  | .loc k, v, h => rfl
  | .oth u, v, h => rfl
  | .xn k ds, v, h => by
    unfold At at h
    obtain ⟨a, dd, C, vs, r, x, _⟩ := h
    rw [show Γ.ex = _ from x] at hx; cases hx
theorem Ats.nxn (hx : Γ.ex = none) : ∀ (ds : List D) (vs : List V), Ats ⟨K, Γ⟩ c H n ds vs → nxns ds = true
  | [], vs, h => rfl
  | d :: ds, vs, h => by
    unfold Ats at h; unfold nxns
    obtain ⟨v, r, e, a, b⟩ := h
    rw [At.nxn hx d v a, Ats.nxn hx ds r b]; rfl
end
mutual
theorem At.sw (e1 : Γ'.at_ = Γ.at_) (e2 : Γ'.fs = Γ.fs) (e3 : Γ'.lk = Γ.lk) : ∀ (d : D) (v : V), d.nxn = true → At ⟨K, Γ⟩ c H n d v → At ⟨K, Γ'⟩ c H n d v
  | .non, v, _, h => h
  | .bl b, v, _, h => h
  | .int i, v, _, h => h
  | .str x, v, _, h => h
  | .tup ds, v, q, h => by
    unfold At at h ⊢; unfold D.nxn at q
    obtain ⟨a, vs, r, s, t⟩ := h
    exact ⟨a, vs, r, s, Ats.sw e1 e2 e3 ds vs q t⟩
  | .ttp ds, v, q, h => by
    unfold At at h ⊢; unfold D.nxn at q
    obtain ⟨a, vs, r, s, t⟩ := h
    exact ⟨a, vs, r, s, Ats.sw e1 e2 e3 ds vs q t⟩
  | .lst ds, v, q, h => by
    unfold At at h ⊢; unfold D.nxn at q
    obtain ⟨a, vs, r, f, s, t⟩ := h
    exact ⟨a, vs, r, f, s, Ats.sw e1 e2 e3 ds vs q t⟩
  | .dic ks ds, v, q, h => by
    unfold At at h ⊢; unfold D.nxn at q
    obtain ⟨a, vs, r, f, s, t⟩ := h
    refine ⟨a, vs, r, f, ?_, Ats.sw e1 e2 e3 ds vs q t⟩
    rcases s with ⟨kk, s⟩ | ⟨kk, s⟩
    · exact .inl ⟨kk, s.1.imp id (fun z => ⟨e3 ▸ z.1, z.2⟩), s.2⟩
    · exact .inr ⟨kk, s.1.imp id (fun z => ⟨e3 ▸ z.1, z.2⟩), s.2⟩
  | .obj k ds, v, q, h => by
    unfold At at h ⊢; unfold D.nxn at q
    obtain ⟨a, vs, C, dx, r, f, g, l, s, t⟩ := h
    refine ⟨a, vs, C, dx, r, f, ?_, ?_, ?_, Ats.sw e1 e2 e3 ds vs q t⟩
    · show Γ'.at_ k = _; rw [e1]; exact g
    · show vs.length ≤ (Γ'.fs k).length; rw [e2]; exact l
    · show H a = some (.ins C dx ((Γ'.fs k).zip vs)); rw [e2]; exact s
  | .fz ns, v, _, h => by
    unfold At at h ⊢
    exact h
  | .loc k, v, _, h => h
  | .oth u, v, _, h => h
  | .xn k ds, v, q, h => by cases q
theorem Ats.sw (e1 : Γ'.at_ = Γ.at_) (e2 : Γ'.fs = Γ.fs) (e3 : Γ'.lk = Γ.lk) : ∀ (ds : List D) (vs : List V), nxns ds = true → Ats ⟨K, Γ⟩ c H n ds vs → Ats ⟨K, Γ'⟩ c H n ds vs
  | [], vs, _, h => h
  | d :: ds, vs, q, h => by
    unfold Ats at h ⊢; unfold nxns at q
    rw [Bool.and_eq_true] at q
    obtain ⟨v, r, e, a, b⟩ := h
    exact ⟨v, r, e, At.sw e1 e2 e3 d v q.1 a, Ats.sw e1 e2 e3 ds r q.2 b⟩
end
theorem OAt.nxn (hx : Γ.ex = none) {a : Addr} : ∀ {o : SO}, OAt ⟨K, Γ⟩ c H n a o → o.nxn = true
  | .lst ds, ⟨vs, g, t⟩ => Ats.nxn hx ds vs t
  | .dic ks ds, ⟨vs, g, t⟩ => Ats.nxn hx ds vs t
  | .ins k ds, ⟨vs, C, dx, g, l, s, t⟩ => Ats.nxn hx ds vs t
theorem OAt.sw (e1 : Γ'.at_ = Γ.at_) (e2 : Γ'.fs = Γ.fs) (e3 : Γ'.lk = Γ.lk) {a : Addr} : ∀ {o : SO}, o.nxn = true → OAt ⟨K, Γ⟩ c H n a o → OAt ⟨K, Γ'⟩ c H n a o
  | .lst ds, q, ⟨vs, g, t⟩ => ⟨vs, g, Ats.sw e1 e2 e3 ds vs q t⟩
  | .dic ks ds, q, ⟨vs, g, t⟩ => ⟨vs, by
    rcases g with ⟨kk, s⟩ | ⟨kk, s⟩
    · exact .inl ⟨kk, s.1.imp id (fun z => ⟨e3 ▸ z.1, z.2⟩), s.2⟩
    · exact .inr ⟨kk, s.1.imp id (fun z => ⟨e3 ▸ z.1, z.2⟩), s.2⟩, Ats.sw e1 e2 e3 ds vs q t⟩
  | .ins k ds, q, ⟨vs, C, dx, g, l, s, t⟩ => ⟨vs, C, dx, by show Γ'.at_ k = _; rw [e1]; exact g, by show vs.length ≤ (Γ'.fs k).length; rw [e2]; exact l, by show H a = Option.some (HO.ins C dx ((Γ'.fs k).zip vs)); rw [e2]; exact s, Ats.sw e1 e2 e3 ds vs q t⟩
theorem Rep.sw (e1 : Γ'.at_ = Γ.at_) (e2 : Γ'.fs = Γ.fs) (e3 : Γ'.lk = Γ.lk) {S : Sto} (q : ∀ o ∈ S, o.nxn = true) (r : Rep ⟨K, Γ⟩ c H S) (e4 : Γ'.tb = Γ.tb := by rfl) : Rep ⟨K, Γ'⟩ c H S :=
  ⟨fun k o h => (r.obj k o h).sw e1 e2 e3 (q o (List.mem_of_getElem? h)), r.inj, r.live, r.fro, by show LamX.Tabs Γ'.tb H; rw [e4]; exact r.tab⟩
theorem Rep.nxn (hx : Γ.ex = none) {S : Sto} (r : Rep ⟨K, Γ⟩ c H S) : ∀ o ∈ S, o.nxn = true := fun o h => by
  obtain ⟨k, hk⟩ := List.getElem?_of_mem h
  exact (r.obj k o hk).nxn hx
end
/-! ## raise -/
/-- the error class k with the one field f -/
structure Xk (P : Program) (wd : World) (K : PySem.W.Frag) (mg : Str → Option Value) (base : Heap) (Γ : Cls') (k : Nat) (nm f : Str) : Prop where
  ex : ∃ (C fI : Addr) (fd : FuncData), Γ.at_ k = some C ∧ Γ.fs k = [f] ∧ Ecl K mg nm f C fI ∧ FnOk P wd K mg base CX0 1 fI fd ["self", f] (spEI C f) ∧ Binds K fd ["self", f] []
def s_raise1 (k : Nat) (m : EM) : SM := fun env S => (m env S).toS env fun d S1 => .ex ⟨k, [d]⟩ env S1
@[simp] theorem s_raise1_eq (k : Nat) (m : EM) (env : Env) (S : Sto) : s_raise1 k m env S = (m env S).toS env fun d S1 => .ex ⟨k, [d]⟩ env S1 := rfl
section
variable {w : Wn} {W : WX} {σ : St} {c c' : Cn} {H H' : Hp} {n n' : Nat} {S : Sto} {env : Env}
variable {Γ : Cls'} {X : Cx} {e : Expr} {ma : EM} {pos p ppos p' : Pos} {nm f : Str} {k : Nat}
theorem c_raise1 (T : Xk X.prog X.w X.K X.mg X.base Γ k nm f) (hc : X.calm = true) (tk : Takes X W) (hr : Room 2 X.A) (hg : Gl X nm) (he : CE Γ X W e ma) (hdb : (nm == ("__debug__" : Str)) = false := by decide)
    (hst : starEach [e] X.env = [(false, eval e X.env)] := by rfl) : CS Γ X W (.Raise (some (.Call (.Name nm p) [e] [] pos)) none ppos) (s_raise1 k ma) := by
  obtain ⟨C, fI, fd, gC, fC, E, F1, hb⟩ := T.ex
  refine PS.weak (ps_raise1 (ta := tCons (mE ⟨X.K, Γ⟩ W ma) tNil) hc tk E F1 hr hb hg (pa_cons he pa_nil hst) hdb hst rfl) fun Dn σ H ⟨c, env, S, r, ev, h⟩ => ?_
  refine ⟨c, env, S, r, ev, (PoS.part ev h).imp fun v H1 ⟨c1, S1, d1, e1, r1, a1, ev1, h1⟩ => ?_⟩
  refine (made1 (C := C) (f := f) (v := v) (H1 := H1) (Q := fun cls d H' => W cls d σ H') fun d hd => ?_ :)
  refine h1 c1 _ σ _ _ (Ext.grow hd) (r1.grow hd) (ev1.mono (Ext.grow hd)) ⟨C, d, [v], gC, rfl, rfl, ?_, ?_, .one (a1.mono (Ext.grow hd))⟩
  · show 1 ≤ (Γ.fs k).length; rw [fC]; exact Nat.le_refl 1
  · show _ = some (HO.xd ((Γ.fs k).zip [v])); rw [fC, upd_same]; rfl
/-! ## what a clause reads of its error -/
def e_xf (k : Nat) (m : EM) : EM := fun env S => (m env S).bind fun d S1 => match d with
  | .xn j ds => .if (j = k) (.ofO ds[0]? S1)
  | _ => .bad
theorem e_xf_eq (k : Nat) (m : EM) (env : Env) (S : Sto) : e_xf k m env S = (m env S).bind fun d S1 => match d with
  | .xn j ds => .if (j = k) (.ofO ds[0]? S1)
  | _ => .bad := rfl
theorem c_xf {a dd C : Addr} {oe : Obj} {pn : List (Addr × Obj)} (T : Xk X.prog X.w X.K X.mg X.base Γ k nm f) (gC : Γ.at_ k = some C) (hz : Zc (.ref C) (some dd) oe) (hf : ∃ vs, oe.data = .fields vs) (he : CE (Γ.on a dd) (X.suite a ((a, oe) :: pn)) W e ma) (hb : attributeBase e f X.env (eval e X.env) = eval e X.env := by rfl) :
    CE (Γ.on a dd) (X.suite a ((a, oe) :: pn)) W (.Attribute e f pos) (e_xf k ma) := by
  obtain ⟨C', fI, fd, gC', fC, E, F1, hb1⟩ := T.ex
  rw [gC] at gC'; cases gC'
  refine PE.weak (pe_xf E.xf E.noF hz hf he hb) fun σ H Q ⟨c, env, S, r, ev, h⟩ => ?_
  refine ⟨c, env, S, r, ev, (Po.bind h).imp fun v H1 ⟨c1, S1, d1, e1, r1, a1, h1⟩ => ?_⟩
  cases d1 with
  | xn j ds =>
    obtain ⟨hj, h2⟩ := Po.if h1
    obtain ⟨x, hx, h3⟩ := Po.ofO h2
    subst hj
    unfold At at a1
    obtain ⟨a', dd', C', vs, rfl, ex, g, l, s, t⟩ := a1
    have ex' : some (a, dd) = some (a', dd') := ex
    injection ex' with ex'
    injection ex' with ea ed
    subst ea; subst ed
    have fs : (Γ.on a dd).fs j = [f] := fC
    obtain ⟨v0, hv0, av⟩ := t.get hx
    have s' : H1 dd = some (.xd (([f] : List Str).zip vs)) := by rw [← fs]; exact s
    refine ⟨rfl, rfl, dd, _, v0, rfl, s', ?_, fin_ok h3 r1 av⟩
    cases vs with
    | nil => cases hv0
    | cons u r => cases hv0; rw [List.zip_cons_cons, List.lookup_cons_self]
  | _ => exact h1.elim
/-- isinstance(e, C2), e the caught error -/
def e_xis (k : Nat) (b : Bool) (m : EM) : EM := fun env S => (m env S).bind fun d S1 => match d with
  | .xn j _ => .if (j = k) (.ok (.bl b) S1)
  | _ => .bad
theorem e_xis_eq (k : Nat) (b : Bool) (m : EM) (env : Env) (S : Sto) : e_xis k b m env S = (m env S).bind fun d S1 => match d with
  | .xn j _ => .if (j = k) (.ok (.bl b) S1)
  | _ => .bad := rfl
/-- the class nm2 stands under its name; instances of the class k: b -/
def XisOk (K : PySem.W.Frag) (Γ : Cls') (mg : Str → Option Value) (k : Nat) (nm2 : Str) (b : Bool) : Prop := ∃ (cv : Value) (v2 : V), ((mg nm2 = some cv) ∨ (mg nm2 = none ∧ bootBuiltins nm2 = some cv ∧ nm2 ≠ "__name__")) ∧ RelV v2 cv ∧ (∀ u, RelV v2 u → u = cv) ∧ ∀ C, Γ.at_ k = some C → PySem.W.kitOne K (.ref C) cv = some b
theorem c_xis {a dd C : Addr} {oe : Obj} {pn : List (Addr × Obj)} {nm2 : Str} {b : Bool} {p1 p2 : Pos} (T : Xk X.prog X.w X.K X.mg X.base Γ k nm f) (gC : Γ.at_ k = some C) (hz : Zc (.ref C) (some dd) oe) (hf : ∃ vs, oe.data = .fields vs) (hi : X.mg "isinstance" = none) (hgi : Gl X "isinstance") (G2 : XisOk X.K Γ X.mg k nm2 b) (hg2 : Gl X nm2) (he : CE (Γ.on a dd) (X.suite a ((a, oe) :: pn)) W e ma)
    (hd2 : (nm2 == ("__debug__" : Str)) = false := by decide) (hst : starEach [e, .Name nm2 p2] X.env = (false, eval e X.env) :: starEach [.Name nm2 p2] X.env := by rfl) :
    CE (Γ.on a dd) (X.suite a ((a, oe) :: pn)) W (.Call (.Name "isinstance" p1) [e, .Name nm2 p2] [] pos) (e_xis k b ma) := by
  obtain ⟨C', fI, fd, gC', fC, E, F1, hb1⟩ := T.ex
  rw [gC] at gC'; cases gC'
  obtain ⟨cv, v2, hm, rv, un, kit⟩ := G2
  have p2' : PE (X.suite a ((a, oe) :: pn)) (.Name nm2 p2) (tC v2) := by
    rcases hm with hm | ⟨hm, hv, hn⟩
    · exact pe_glob hg2 hm rv hd2
    · exact pe_bltn hg2 hm hv rv hn hd2
  refine PE.weak (pe_callB (X := X.suite a ((a, oe) :: pn)) (call_isX E hz hf) hgi hi (by decide +kernel) (pa_cons he (pa_cons p2' pa_nil) hst) (by decide) (by decide) hst rfl) fun σ H Q ⟨c, env, S, r, ev, h⟩ => ?_
  refine ⟨c, env, S, r, ev, (Po.bind h).imp fun v H1 ⟨c1, S1, d1, e1, r1, a1, h1⟩ => ?_⟩
  cases d1 with
  | xn j ds =>
    obtain ⟨hj, h2⟩ := Po.if h1
    subst hj
    unfold At at a1
    obtain ⟨a', dd', C', vs, rfl, ex, g, l, s, t⟩ := a1
    have ex' : some (a, dd) = some (a', dd') := ex
    injection ex' with ex'
    injection ex' with ea ed
    subst ea; subst ed
    exact ⟨v2, cv, b, dd, _, rfl, rfl, s, rfl, un, kit C gC, fin_ok h2 r1 (.b b)⟩
  | _ => exact h1.elim
/-! ## try with named clauses -/
structure Clm where
  /-- the one class that comes here -/
  k : Nat
  /-- of an error of a class: whether the clause takes it -/
  mt : Nat → Option Bool
  i : Nat
  h : SM
open Classical in
noncomputable def endH (i : Nat) (S : Sto) (r : RS) : RS := match r with
  | .next env S' => .if (S' = S ∧ ∀ d, some d ∈ env.set i none → d.nxn = true) (.next (env.set i none) S')
  | .brk env S' => .if (S' = S ∧ ∀ d, some d ∈ env.set i none → d.nxn = true) (.brk (env.set i none) S')
  | .cnt env S' => .if (S' = S ∧ ∀ d, some d ∈ env.set i none → d.nxn = true) (.cnt (env.set i none) S')
  | .ret d S' => .if (S' = S ∧ d.nxn = true) (.ret d S')
  | _ => .bad
noncomputable def runCl (x : Exn) (env : Env) (S : Sto) : List Clm → RS
  | [] => .bad
  | q :: r => match q.mt x.c with
    | some true => .if (x.c = q.k) (endH q.i S (q.h (env.set q.i (some (.xn x.c x.ds))) S))
    | some false => runCl x env S r
    | none => .bad
noncomputable def s_try (b : SM) (l : List Clm) : SM := fun env S => match b env S with
  | .ex x env1 S1 => runCl x env1 S1 l
  | r => r
theorem EnvR.sw {K : PySem.W.Frag} {Γ Γ' : Cls'} (e1 : Γ'.at_ = Γ.at_) (e2 : Γ'.fs = Γ.fs) (e3 : Γ'.lk = Γ.lk) (q : ∀ d, some d ∈ env → d.nxn = true) (h : EnvR ⟨K, Γ⟩ c H n σ env) : EnvR ⟨K, Γ'⟩ c H n σ env := ⟨h.1, fun i d hd => by
  obtain ⟨v, hv, av⟩ := h.2 i d hd
  exact ⟨v, hv, At.sw e1 e2 e3 d v (q d (List.mem_of_getElem? hd)) av⟩⟩
theorem EnvR.nxn {K : PySem.W.Frag} (hx : Γ.ex = Option.none) (h : EnvR ⟨K, Γ⟩ c H n σ env) : ∀ d, some d ∈ env → d.nxn = true := fun d hd => by
  obtain ⟨i, hi⟩ := List.getElem?_of_mem hd
  obtain ⟨v, hv, av⟩ := h.2 i d hi
  exact At.nxn hx d v av
theorem EnvR.gone {w : Wn} {i : Nat} (h : EnvR w c H n σ env) : EnvR w c H n (σ.set i Option.none) (env.set i Option.none) := by
  refine ⟨by rw [List.length_set, List.length_set]; exact h.1, fun j d q => ?_⟩
  by_cases e : i = j
  · subst e
    by_cases hl : i < env.length
    · rw [List.getElem?_set_self hl] at q; cases q
    · rw [List.getElem?_eq_none (by rw [List.length_set]; omega)] at q; cases q
  · rw [List.getElem?_set_ne e] at q ⊢
    exact h.2 j d q
open Classical in
/-- a clause's suite, seen from within -/
theorem end_read {K : PySem.W.Frag} (hx : Γ.ex = none) {a dd : Addr} {i : Nat} {r : RS} {Dn : Ends} (rp : Rep ⟨K, Γ⟩ c H S) (h : PoS ⟨K, Γ⟩ W c H S.length (endH i S r) Dn) : PoS ⟨K, Γ.on a dd⟩ (fun _ _ _ _ => False) c H S.length r (Dn.gone i) := by
  have nS := rp.nxn hx
  cases r with
  | next env2 S2 =>
    obtain ⟨⟨eS, q⟩, h⟩ := PoS.if h
    subst eS
    exact fun c2 H2 σ2 e2 r2 ev2 => h c2 H2 _ e2 (r2.sw (Γ := Γ.on a dd) (Γ' := Γ) rfl rfl rfl nS) (ev2.gone.sw (Γ := Γ.on a dd) (Γ' := Γ) rfl rfl rfl q)
  | brk env2 S2 =>
    obtain ⟨⟨eS, q⟩, h⟩ := PoS.if h
    subst eS
    exact fun c2 H2 σ2 e2 r2 ev2 => h c2 H2 _ e2 (r2.sw (Γ := Γ.on a dd) (Γ' := Γ) rfl rfl rfl nS) (ev2.gone.sw (Γ := Γ.on a dd) (Γ' := Γ) rfl rfl rfl q)
  | cnt env2 S2 =>
    obtain ⟨⟨eS, q⟩, h⟩ := PoS.if h
    subst eS
    exact fun c2 H2 σ2 e2 r2 ev2 => h c2 H2 _ e2 (r2.sw (Γ := Γ.on a dd) (Γ' := Γ) rfl rfl rfl nS) (ev2.gone.sw (Γ := Γ.on a dd) (Γ' := Γ) rfl rfl rfl q)
  | ret d S2 =>
    obtain ⟨⟨eS, q⟩, h⟩ := PoS.if h
    subst eS
    exact fun c2 H2 v e2 r2 a2 => h c2 H2 v e2 (r2.sw (Γ := Γ.on a dd) (Γ' := Γ) rfl rfl rfl nS) (At.sw (Γ := Γ.on a dd) (Γ' := Γ) rfl rfl rfl d v q a2)
  | ex x env S2 => exact h.elim
  | bad => exact h.elim
/-- the clauses of a try -/
inductive CH (Γ : Cls') (X : Cx) : List ExceptHandler → List Clm → Prop
  | nil : CH Γ X [] []
  | cons {nm n : Str} {q : Clm} {C0 : Addr} {b : Stmt} {bs : List Stmt} {p p' : Pos} {hs : List ExceptHandler} {l : List Clm} (hN : Names X nm (.ref C0)) (hm : ∀ k b C, Γ.at_ k = some C → q.mt k = some b → PySem.W.exmOne X.K (.ref C) (.ref C0) = some b) (hi : X.N[q.i]? = some n) (hl : X.env.kindOf n = some .local)
      (hh : ∀ (a dd C : Addr) (oe : Obj) (pn : List (Addr × Obj)), Γ.at_ q.k = some C → Zc (.ref C) (some dd) oe → (∃ vs, oe.data = .fields vs) → CSs (Γ.on a dd) (X.suite a ((a, oe) :: pn)) (fun _ _ _ _ => False) (b :: bs) q.h) (r : CH Γ X hs l) :
      CH Γ X (.ExceptHandler (some (.Name nm p)) (some n) (b :: bs) p' :: hs) (q :: l)
open Classical in
/-- what stands for the clauses below -/
theorem CH.cl {hs : List ExceptHandler} {l : List Clm} (h : CH Γ X hs l) (hx : Γ.ex = none) : ∃ L : List Cl, ClOk X hs L ∧ ∀ (Dn : Ends) (x : Exn) (c : Cn) (H : Hp) (S : Sto) (env : Env) (σ : St) (cv : Value) (d : Option Addr), Rep ⟨X.K, Γ⟩ c H S → EnvR ⟨X.K, Γ⟩ c H S.length σ env → XAt ⟨X.K, Γ⟩ c H S.length x cv d → PoS ⟨X.K, Γ⟩ W c H S.length (runCl x env S l) Dn → wCl X.K Dn L cv d σ H := by
  induction h with
  | nil => exact ⟨[], .nil, fun Dn x c H S env σ cv d r ev xa h => h.elim⟩
  | @cons nm n q C0 b bs p p' hs l hN hm hi hl hh r ih =>
    obtain ⟨L, ok, go⟩ := ih
    refine ⟨(.ref C0, q.i, fun a cls d => fun Dn σ H => ∃ C dd, cls = .ref C ∧ d = some dd ∧ Γ.at_ q.k = some C ∧ mS ⟨X.K, Γ.on a dd⟩ (fun _ _ _ _ => False) q.h Dn σ H) :: L, .cons hN hi hl (fun a oe cls d pn hz hf => ⟨fun pins s σ H D I ⟨C, dd, e1, e2, g, h⟩ => ?_⟩) ok, fun Dn x c H S env σ cv d rp ev xa h => ?_⟩
    · subst e1; subst e2
      exact (hh a dd C oe pn g hz hf).run pins s σ H D I h
    · unfold runCl at h
      obtain ⟨C, dd, vs, g, e1, e2, l1, s, t⟩ := xa
      subst e1; subst e2
      cases hq : q.mt x.c with
      | none => rw [hq] at h; exact h.elim
      | some bb =>
        rw [hq] at h
        cases bb with
        | true =>
          obtain ⟨ek, h⟩ := PoS.if h
          refine .inl ⟨hm _ _ _ g hq, fun a ha => ⟨C, dd, rfl, rfl, by rw [← ek]; exact g, c, _, S, rp.sw (Γ := Γ) (Γ' := Γ.on a dd) rfl rfl rfl (rp.nxn hx), ?_, end_read hx rp h⟩⟩
          refine (ev.sw (Γ := Γ) (Γ' := Γ.on a dd) rfl rfl rfl (ev.nxn hx)).set ?_
          unfold At
          exact ⟨a, dd, C, vs, rfl, rfl, g, l1, s, Ats.sw (Γ := Γ) (Γ' := Γ.on a dd) rfl rfl rfl _ _ (Ats.nxn hx _ _ t) t⟩
        | false => exact .inr ⟨hm _ _ _ g hq, go Dn x c H S env σ _ _ rp ev ⟨C, dd, vs, g, rfl, rfl, l1, s, t⟩ h⟩
theorem c_try {body : List Stmt} {h0 : ExceptHandler} {hs : List ExceptHandler} {b : SM} {l : List Clm} (hx : Γ.ex = none) (st : X.stack = X.env :: X.outer) (hf : X.env.frame = some X.env.locals) (nd : X.N.Nodup)
    (hb : ∀ (W : WX) (pn : List (Addr × Obj)) (xe : Value → Shared → Prop), Takes (X.tr pn xe) W → PassesOwn (model X.prog X.w) X.A X.env xe → CSs Γ (X.tr pn xe) W body b) (hh : CH Γ X (h0 :: hs) l) : CS Γ X W (.Try body (h0 :: hs) [] [] pos) (s_try b l) := by
  obtain ⟨L, ok, go⟩ := hh.cl (W := W) hx
  refine PS.weak (ps_try_cl (tb := fun W' => mS ⟨X.K, Γ⟩ W' b) st hf nd hb ok) fun Dn σ H ⟨c, env, S, r, ev, h⟩ => ?_
  refine ⟨c, env, S, r, ev, ?_⟩
  unfold s_try at h
  cases hm : b env S with
  | ex x env1 S1 =>
    rw [hm] at h
    exact fun c2 H2 σ2 C dd e2 r2 ev2 xa => go Dn x c2 H2 S1 env1 σ2 C dd r2 ev2 xa (PoS.mono e2 h)
  | next env1 S1 => rw [hm] at h; exact h
  | ret d S1 => rw [hm] at h; exact h
  | brk env1 S1 => rw [hm] at h; exact h
  | cnt env1 S1 => rw [hm] at h; exact h
  | bad => rw [hm] at h; exact h.elim
/-! ## except C: without a name -/
def s_tryO (mt : Nat → Option Bool) (b hm : SM) : SM := fun env S => match b env S with
  | .ex x env1 S1 => match mt x.c with
    | some true => hm env1 S1
    | _ => .bad
  | r => r
end
end Mm
namespace Mm
open PySem L2
section
variable {W : WX} {Γ : Cls'} {X : Cx} {pos p p' : Pos} {nm n : Str}
/-- the class nm stands under its name; mt: of the errors of the classes, which it takes -/
def MtOk (K : PySem.W.Frag) (Γ : Cls') (mg : Str → Option Value) (nm : Str) (mt : Nat → Option Bool) : Prop := ∃ C0, mg nm = some (.ref C0) ∧ ∀ k b C, Γ.at_ k = some C → mt k = some b → PySem.W.exmOne K (.ref C) (.ref C0) = some b
theorem CHc {q : Clm} {b : Stmt} {bs : List Stmt} {hs : List ExceptHandler} {l : List Clm} (M : MtOk X.K Γ X.mg nm q.mt) (hg : Gl X nm) (hi : X.N[q.i]? = some n) (hl : X.env.kindOf n = some .local)
    (hh : ∀ (a dd C : Addr) (oe : Obj) (pn : List (Addr × Obj)), Γ.at_ q.k = some C → Zc (.ref C) (some dd) oe → (∃ vs, oe.data = .fields vs) → CSs (Γ.on a dd) (X.suite a ((a, oe) :: pn)) (fun _ _ _ _ => False) (b :: bs) q.h) (r : CH Γ X hs l) (hd : (nm == ("__debug__" : Str)) = false := by decide) :
    CH Γ X (.ExceptHandler (some (.Name nm p)) (some n) (b :: bs) p' :: hs) (q :: l) := by
  obtain ⟨C0, hm, hx⟩ := M
  exact .cons ⟨hg, hd, .inl hm⟩ hx hi hl hh r
end
end Mm
set_option maxRecDepth 100000
/-! == of two empty dicts too -/
namespace Mm
open PySem L2
section
variable {w : Wn} {W : WX} {σ : St} {c c' : Cn} {H H' : Hp} {n n' : Nat} {S : Sto} {env : Env}
variable {Γ : Cls'} {X : Cx}
/-- room enough for ==, in a clause's suite too -/
theorem huS {k : Nat} {A A' : Around} (hr : Room k A) (h : A'.units = A.units := by rfl) : A'.units + 64 < cLine := by rw [h]; exact hu64 hr
def emptyD (S : Sto) (d : D) : Bool := match dicOf S d with
  | some ([], []) => true
  | _ => false
def eqZ (x y : D) (S : Sto) : R D := if emptyD S x && emptyD S y then .ok (.bl true) S else eqD false x y S
def rEqZ (K : PySem.W.Frag) : R2 := fun x y H Q => rEq2 K x y H Q ∨ rEqV K x y H Q
end
end Mm
set_option maxRecDepth 100000
/-! a tuple times an int of 1 or more. -/
namespace L2
open PySem PySem.Spec PyProof.Rows PySem.W
theorem tuple_mul1 (l : Addr) (items : Array Value) (n : Nat) (dd : Option Addr) (sl : Array (Option Value)) (u : Tok) :
    Meets (Builtin.«tuple.__mul__» ⟨[.ref l, .int 1 u], []⟩) (fun _ R s => s.heap.get? l = some { cls := .type "tuple", dict := dd, data := .seq items n, slots := sl } ∧ R (.ok (.ret (Value.ref l))) s) :=
  .of_wp fun prog w A R s h => by
    obtain ⟨hp, g, d, tk, os⟩ := s
    obtain ⟨hl, h⟩ := h
    have f1 := AutoSeq1.idx_int
    have c0 : (decide ((1 : Int) < -(2 ^ 63)) || decide ((1 : Int) ≥ 2 ^ 63)) = false := by decide
    have c1 : (items.isEmpty || (1 : Int) == 1) = true := by simp
    wp_walk using wpAny_loadPart' hl
    repeat (first
      | (refine wpAny_ite_false (decide_eq_false (by rw [c0]; exact Bool.false_ne_true)) ?_; wp_walk using wpAny_loadPart' hl)
      | (refine wpAny_ite_true (decide_eq_true c1) ?_; wp_walk using wpAny_loadPart' hl))
    exact ⟨_, rfl, h⟩
def rRepOne (K : PySem.W.Frag) : R2 := fun x y H Q => ∃ l xs, x = .ref l ∧ y = .int 1 ∧ SqT K H l xs ∧ Q x H
theorem op_repOne {X : Cx} : OpR X (binaryOp .Mult) (rRepOne X.K) := by
  intro pins s σ H x y v u Q I rx ry h
  obtain ⟨l, xs, rfl, rfl, hT, q⟩ := h
  cases rx
  obtain ⟨t, rfl⟩ := ry
  obtain ⟨its, r, ⟨⟨cls, dd, data, sl⟩, ho, hc, n, hd⟩, hs⟩ := I.tuple hT
  simp only at hc hd
  subst hc hd
  refine wpAny_binaryOp_repeat_ref (T := "tuple") (U := "int") (by decide) ⟨_, ho, rfl⟩ (fun s' => typeIs_int s' 1 t) noFill_tuple_mul F.fills_int_mul F.slot_int_rmul repeat_tuple F.slot_int_index.lookup
    (call_meets F.slot_int_rmul (typeIs_int s 1 t) F.entry_int_rmul (F.args_int_rmul_2 _ _) (int_rmul_tuple 1 t l its.toArray n dd sl)
      ⟨ho, rfl, ⟨_, ho, rfl⟩, call_meets F.slot_tuple_mul ⟨_, ho, rfl⟩ F.entry_tuple_mul (F.args_tuple_mul_2 _ _) (tuple_mul1 l its.toArray n dd sl t) ⟨ho, ?_⟩⟩)
  exact ⟨.ref l, _, I, rfl, q⟩
def rMulT (K : PySem.W.Frag) : R2 := fun x y H Q => rRepT K x y H Q ∨ rRepOne K x y H Q
theorem op_mulT {X : Cx} : OpR X (binaryOp .Mult) (rMulT X.K) := op_repT.or op_repOne
end L2
namespace Mm
open PySem PySem.Spec PyProof.Rows PySem.W L2
/-- a tuple times an int -/
def mulTD (x y : D) (S : Sto) : R D := match x, y with
  | .tup ds, .int k => .if (ds ≠ [] ∧ ds.length ≤ 1000 ∧ 1 ≤ k ∧ k ≤ 1000) (.ok (.tup (List.replicate k.toNat ds).flatten) S)
  | _, _ => .bad
@[simp] theorem mulTD_eq (ds : List D) (k : Int) (S : Sto) : mulTD (.tup ds) (.int k) S = .if (ds ≠ [] ∧ ds.length ≤ 1000 ∧ 1 ≤ k ∧ k ≤ 1000) (.ok (.tup (List.replicate k.toNat ds).flatten) S) := rfl
theorem g_mulT {Γ : Cls'} {X : Cx} : GOp Γ X mulTD (rMulT X.K) := by
  intro W σ c H S x y v u Q r a b h
  cases x with
  | tup ds =>
    cases y with
    | int k =>
      obtain ⟨⟨hn, hl, h1, h2⟩, h⟩ := Po.if h
      have a' := a
      obtain ⟨p, vs, rfl, g, t⟩ := a.tup
      by_cases hk : k = 1
      · subst hk
        have e : (List.replicate (1 : Int).toNat ds).flatten = ds := by simp
        rw [e] at h
        exact .inr ⟨p, vs, rfl, b.int, g, fin_ok h r a'⟩
      · refine .inl ⟨p, k, vs, rfl, b.int, g, fun e => hn ?_, by omega, h2, by rw [t.len]; exact hl, fun z hz => fin_tup h r (ats_rep t _) hz⟩
        have := t.len
        rw [e] at this
        exact List.eq_nil_of_length_eq_zero this.symm
    | _ => exact h.elim
  | _ => cases y <;> exact h.elim
end Mm
set_option maxRecDepth 100000
/-! Generators whose first turn raises: a generator def's call, a loop over it in a generator, list(..). -/
namespace L2
open PySem PySem.Spec PyProof.Rows GenW
section
variable {M : Model} {A : Around} {R : GenEnd} {Y : Protocol} {n : Nat} {s₀ s : Shared} {c : Code} {fs : List Frame} {env : Env}
  {K : Flow → Sem PySem.Fin} {J : Value → Sem PySem.Fin} {gd : Bool → Bool} {lv : List Value → List Value}
/-- what a loop's code does with an error of its own -/
abbrev lostBy (env : Env) (e : Value) : Sem PySem.Fin := (do noteFrame e env; theTreesLotGoes e : Sem Unit).wrap (fun _ => .raise e) .raise id id
theorem seg_For {target iter : Expr} {body orelse : List Stmt} {pos : Pos}
    (h : wpAny M (A.over c fs) (eval iter env) (fun x s1 => wpAny M (A.over c fs) (pyIter x) (fun it s2 => ∀ p, Seg M A R Y n s₀ (.forLoop target it body orelse env) (M.den (.forLoop target it body orelse env))
      (.ret (fun r => ((match r with | .ok f => (.pure f : Sem Flow) | .error e => .raise e).onRaise (cameBack env)).wrap K J gd lv) none (gd false) (lv []) c p [] :: fs) s2) (fun x s' => Seg M A R Y n s₀ c (J x) fs s') s1) (fun x s' => Seg M A R Y n s₀ c (J x) fs s') s)
    (hs : ∀ x, foldedSetIterable iter env x = pure x := by intro _; rfl) :
    Seg M A R Y n s₀ c ((exec (.For target iter body orelse pos) env).wrap K J gd lv) fs s := by
  rw [exec_For]
  refine seg_bind_wrap (wpAny_standAt ?_)
  refine seg_bind_wrap (wpAny_mono h (fun x s1 h1 => ?_) fun _ _ h' => h')
  refine seg_bind_wrap (wpAny_of_eq (hs x) ?_)
  refine seg_bind_wrap (wpAny_standAt ?_)
  refine seg_bind_wrap (wpAny_holding (wpAny_mono h1 (fun it s2 h2 => ?_) fun _ _ h' => h'))
  exact seg_call h2
end
section
variable {prog : Program} {w : World} {A : Around} {R : GenEnd} {Y : Protocol} {n : Nat} {s₀ s : Shared} {fs : List Frame} {env : Env}
theorem seg_forLoop {target : Expr} {it : Value} {body orelse : List Stmt} {Q1 : Value → Shared → Prop}
    (hq : ∀ x s', Q1 x s' → Seg (model prog w) A R Y n s₀ (.forLoop target it body orelse env) (lostBy env x) fs s')
    (h : wpAny (model prog w) (A.over (.forLoop target it body orelse env) fs) (pyNext it) (fun r s1 => match r with
        | none => Seg (model prog w) A R Y n s₀ (.forLoop target it body orelse env) (.pure (.again (.block orelse env))) fs s1
        | some v => wpAny (model prog w) (A.over (.forLoop target it body orelse env) fs) (letOwnedTupleGo target it v) (fun _ s2 => wpAny (model prog w) (A.over (.forLoop target it body orelse env) fs) (assign target env v) (fun _ s3 =>
          Seg (model prog w) A R Y n s₀ (.forLoop target it body orelse env) ((execs body env).wrap (fun f => match f with
            | .next | .cont => .pure (.again (.forLoop target it body orelse env))
            | .brk => .pure (.done .next)
            | .ret v => .pure (.done (.ret v))) (lostBy env) id id) fs s3) Q1 s2) Q1 s1) Q1 s) :
    Seg (model prog w) A R Y n s₀ (.forLoop target it body orelse env) ((model prog w).den (.forLoop target it body orelse env)) fs s := by
  show Seg _ A R Y n s₀ _ ((forTurn target it body orelse env).onRaise (fun x => do noteFrame x env; theTreesLotGoes x)) fs s
  have e : ∀ x, ((do noteFrame x env; theTreesLotGoes x : Sem Unit).bind fun _ => (Sem.raise x : Sem PySem.Fin)) = lostBy env x := fun x => Sem.bind_eq_wrap _ _
  rw [Sem.onRaise_eq_wrap, Sem.wrap_congr _ id id (K := Sem.pure) (K' := Sem.pure) (fun _ => rfl) e]
  unfold forTurn
  refine seg_bind_wrap (wpAny_standAt ?_)
  refine seg_bind_wrap (wpAny_onRaise (wpAny_mono h (fun r s1 h1 => ?_) fun x s' h' => wpAny_standAt (hq x s' h')))
  cases r with
  | none => exact h1
  | some v =>
    refine seg_bind_wrap (wpAny_mono h1 (fun _ s2 h2 => ?_) hq)
    refine seg_bind_wrap (wpAny_mono h2 (fun _ s3 h3 => ?_) hq)
    show Seg _ A R Y n s₀ _ (((execs body env) >>= _).wrap _ _ _ _) fs s3
    rw [Sem.bind_eq_wrap', Sem.wrap_wrap]
    have ew := Sem.wrap_congr (execs body env) (fun g => id (id g)) (fun l => id (id l)) (K := fun a => Sem.wrap Sem.pure (lostBy env) id id (match a with
            | Flow.next => again (.forLoop target it body orelse env)
            | Flow.cont => again (.forLoop target it body orelse env)
            | Flow.brk => pure (Fin.done Flow.next)
            | Flow.ret v => pure (Fin.done (Flow.ret v)))) (K' := fun f => match f with
            | .next | .cont => .pure (.again (.forLoop target it body orelse env))
            | .brk => .pure (.done .next)
            | .ret v => .pure (.done (.ret v))) (H := fun e => Sem.wrap Sem.pure (lostBy env) id id (Sem.raise e)) (H' := lostBy env) (fun f => by cases f <;> rfl) (fun e => rfl)
    refine Eq.mpr (congrArg (fun t => Seg (model prog w) A R Y n s₀ _ t fs s3) ew) ?_
    exact h3
end
/-- what such a call gives: a generator that has not begun, and whose first turn raises -/
def GMadeX (P : Program) (w : World) (k : Nat) (outer : List Env) (H : Hp) (s : Shared) (E : XK) (u : Value) (s' : Shared) : Prop :=
  ∃ (a : Addr) (g : Nat) (c : Code), u = .ref a ∧ s.heap.objs.size ≤ a ∧ a < s'.heap.objs.size ∧ s'.heap.IsGen a g ∧ s'.gens[g]? = some (.fresh c) ∧ s'.os = s.os ∧ AllBare s'.gens ∧ s'.heap.NoLimit ∧ (∀ b o, s.heap.get? b = some o → s'.heap.get? b = some o) ∧
    ∀ (A : Around) (n : Nat) (s2 : Shared), Room k A → A.frames = some outer → (∀ b o, s'.heap.get? b = some o → s2.heap.get? b = some o) → s2.os = s.os → AllBare s2.gens →
      Seg (model P w) A (fun _ _ r s1 => ∃ e, r = .error e ∧ CX P w outer H s E e s1 ∧ s1.heap.IsGen a g) (fun _ _ _ _ _ => False) n s2 c ((model P w).den c) [] s2
abbrev SpX := List V → Hp → XK → Prop
structure GFnX (P : Program) (w : World) (K : PySem.W.Frag) (mg : Str → Option Value) (base : Heap) (k : Nat) (f : Addr) (fd : FuncData) (ps : List Str) (sp : SpX) : Prop where
  len : ∀ vs H E, sp vs H E → vs.length = ps.length
  run : ∀ (A : Around) (outer : List Env) (s : Shared) (H : Hp) (args : Args) (us : List Value) (vs : List V) (E : XK), Room k A → Env0 P w K mg base A outer s H → BindsTo s fd args (ps.zip us) → Vals vs us → sp vs H E →
    codeAny (model P w) A (.call (.ref f) args) (fun r s' => match r with | .ok (.ret u) => GMadeX P w k outer H s E u s' | _ => False) s
theorem gfnx_of {P : Program} {w : World} {K : PySem.W.Frag} {mg : Str → Option Value} {base : Heap} {k : Nat} {f : Addr} {name qual : Str} {params : Arguments} {st : Stmt} {rest : List Stmt} {scope : Scope} {dV kV doc pm cdv ct oc : Value} {an od : Option Addr}
    {osl : Array (Option Value)} {N ps : List Str} {sp : SpX} (lk : K.lookup f = some ⟨oc, od, .func (PySem.W.fnOf name qual params (st :: rest) scope dV kV doc pm an cdv ct), osl⟩) (hcd : PySem.W.codeIn K cdv qual = true) (S : GScope N ps scope)
    (len : ∀ vs H E, sp vs H E → vs.length = ps.length)
    (hbody : ∀ (A : Around) (outer : List Env) (s : Shared) (H : Hp) (vs : List V) (E : XK) (pn : List (Addr × Obj)), Room k (A.deeper (envOfC qual scope s.heap.objs.size f cdv)) → sp vs H E →
      ∃ t, PS (gcxOf P w K mg base N qual scope f cdv A outer s H E pn) st t ∧ t { nx := fun _ _ => False, rt := fun _ _ => False } (start N vs) H) :
    GFnX P w K mg base (k + 1) f (PySem.W.fnOf name qual params (st :: rest) scope dV kV doc pm an cdv ct) ps sp := by
  refine ⟨len, fun A outer s H args us vs E hr e0 hb r hsp => ?_⟩
  have hl := len _ _ _ hsp
  have KX : K.In s.heap := e0.mod.kin.keeps fun b o e => (e0.bs b o e).1
  have lim : s.heap.NoLimit := e0.mod.nolimit.keeps fun b o e => (e0.bs b o e).1
  have hkind : ∀ y ∈ ps.zip us, scope.names.lookup y.1 = some .local ∨ (scope.names.lookup y.1 = some .cell ∧ ((cellsFrom (s.heap.objs.size + 1) scope.names []).lookup y.1).isSome = true) := fun ⟨n, v⟩ hy => by
    rcases S.par n (List.of_mem_zip hy).1 with q | q
    · exact .inl q
    · exact .inr ⟨q, PySem.W.cellsFrom_some _ _ _ (.inl q)⟩
  refine codeAny_call_generator hr.depth (KX _ _ lk) rfl S.co S.gen rfl (PySem.W.codeRec_of KX hcd) (hb _ _ _ _ ?_)
  refine wpAny_newFunctionEnv_cells S.kind hkind fun env he s1 x => ?_
  subst he
  have lim1 : s1.heap.NoLimit := lim.keeps x.toInCall.keep
  refine ⟨lim1, ?_⟩
  obtain ⟨_, _, es1, _⟩ := x.done
  have os1 : s1.os = s.os := by rw [es1]
  have gen1 : s1.gens = s.gens := by rw [es1]
  have lt1 : s.heap.objs.size < s1.heap.objs.size := x.toInCall.ns.lt
  have up : ∀ (go : Obj) (h : Heap), ∀ b o, s1.heap.get? b = some o → (s1.heap.push go).get? b = some o := fun go _ b o e => Heap.get?_push_of_some _ e
  have key : ∀ (go : Obj) (nm qn : Value) (tk2 : Nat), go.cls = .type "generator" → go.data = .fields #[.int s1.gens.size 0, nm, qn] → go.slots = #[] → (s1.heap.push go).get? s1.heap.objs.size = some go →
      GMadeX P w (k + 1) outer H s E (.ref s1.heap.objs.size) { s1 with gens := s1.gens.push (.fresh (.func (st :: rest) (envOfC qual scope s.heap.objs.size f cdv))), toks := tk2, heap := s1.heap.push go } := by
    intro go nm qn tk2 c1 c2 c3 self
    have isg : ∀ h : Heap, h.get? s1.heap.objs.size = some go → h.IsGen s1.heap.objs.size s1.gens.size := fun h e => ⟨go, nm, qn, e, c1, c2, c3⟩
    refine ⟨_, _, _, rfl, Nat.le_of_lt lt1, ?_, isg _ self, Array.getElem?_push_size .., os1, AllBare.push (by rw [gen1]; exact e0.bare) rfl, lim1.keeps (up go s1.heap), fun b o e => up go s1.heap b o (x.toInCall.keep b o e), ?_⟩
    · show _ < (s1.heap.push go).objs.size
      rw [Heap.size_push]; exact Nat.lt_succ_self _
    intro B n s2 hB fB k2 o2 b2
    have eB : Env0 P w K mg base B outer s H := ⟨fB, e0.mod, e0.bs, e0.bsz, e0.funs, e0.frf, e0.hok, e0.bare⟩
    obtain ⟨t, ht, q⟩ := hbody B outer s H vs E [(s1.heap.objs.size, go)] (hB.deeper _) hsp
    have I1 : Inv (gcxOf P w K mg base N qual scope f cdv B outer s H E []) [] (start N vs) H s1 := inv_startG S hB.hd eB hl r x
    have kk : ∀ b o, s1.heap.get? b = some o → s2.heap.get? b = some o := fun b o e => k2 b o (up go s1.heap b o e)
    have I2 : Inv (gcxOf P w K mg base N qual scope f cdv B outer s H E []) [] (start N vs) H s2 := I1.call' (ch := []) (o2.trans os1.symm) (Un.kept kk) (I1.hok.kept kk) b2 fun b z => by simp at z
    have at2 : s2.heap.get? s1.heap.objs.size = some go := k2 _ go self
    have I3 : Inv (gcxOf P w K mg base N qual scope f cdv B outer s H E [(s1.heap.objs.size, go)]) [] (start N vs) H s2 := Inv.pinnedG I2 fun p hp => by
      rw [List.append_nil, List.mem_singleton] at hp
      rw [hp]
      exact ⟨at2, I1.hok.fresh (Nat.le_refl _), Nat.ne_of_gt lt1, I1.nofs (Nat.le_refl _), fun v z => by rw [c2] at z; cases z⟩
    refine seg_func (seg_execs_cons (seg_wrap ?_))
    rw [over_func]
    refine wpAny_mono (ht.run [] s2 (start N vs) H { nx := fun _ _ => False, rt := fun _ _ => False } I3 q) (fun fl s3 hs => ?_) fun e s3 hx => ?_
    · cases fl with
      | next => obtain ⟨_, _, _, z⟩ := hs; exact z.elim
      | brk => obtain ⟨_, _, _, z⟩ := hs; exact z.elim
      | cont => obtain ⟨_, _, _, z⟩ := hs; exact z.elim
      | ret u => obtain ⟨_, _, _, _, _, z⟩ := hs; exact z.elim
    · refine seg_wrap ?_
      rw [over_func]
      refine wpAny_mono (show wpAny (model P w) (B.deeper (envOfC qual scope s.heap.objs.size f cdv)) (leaving (envOfC qual scope s.heap.objs.size f cdv) e) (fun _ s4 => CX P w outer H s E e s4 ∧ ∀ p ∈ [(s1.heap.objs.size, go)], s4.heap.get? p.1 = some p.2) (fun _ _ => False) s3 from hx) (fun _ s4 z => ?_) fun _ _ z => z.elim
      exact seg_end (.error e) ⟨e, rfl, z.1, isg _ (z.2 _ (List.mem_singleton.mpr rfl))⟩
  exact key _ _ _ _ rfl rfl rfl (Heap.get?_push_size _ rfl)
section
variable {X : Cx} {k : Nat} {f : Addr} {fd : FuncData} {ps : List Str} {sp : SpX} {x : Str} {p pos pos' : Pos}
theorem run_gfnx {pins : List (Addr × Obj)} {σ : L2.St} {H : Hp} {s : Shared} {us : List Value} {vs : List V} {E : XK} {E1 : Value → Shared → Prop} (F : GFnX X.prog X.w X.K X.mg X.base k f fd ps sp) (hr : Room k X.A) (hb : Binds X.K fd ps [])
    (I : Inv X pins σ H s) (r : Vals vs us) (h : sp vs H E) : wpAny (model X.prog X.w) X.A (call (.ref f) us) (fun u s' => GMadeX X.prog X.w k X.stack H s E u s') E1 s := by
  have hl2 : us.length = ps.length := by rw [← r.length]; exact F.len _ _ _ h
  have hb' := hb s us I.kIn (by rw [List.append_nil]; exact hl2)
  rw [List.append_nil] at hb'
  refine wpAny_call (codeAny_mono (F.run X.A X.stack s H ⟨us, []⟩ us vs E hr I.env0 hb' r h) fun r s' hq => ?_)
  cases r with
  | error e => exact False.elim hq
  | ok fl =>
    cases fl with
    | ret u => exact hq
    | next => exact False.elim hq
    | brk => exact False.elim hq
    | cont => exact False.elim hq
/-- the error of the first turn, behind it -/
theorem ex_gen {pins : List (Addr × Obj)} {σ : L2.St} {H : Hp} {sc s' : Shared} {E : XK} {e : Value} {g : Nat} (I : Inv X pins σ H sc) (hx : PassesAt (CX X.prog X.w) X σ E) (hns : NoStop X.K E) (hc : CX X.prog X.w X.stack H sc E e s') :
    NotStop (model X.prog X.w) e s'.heap ∧ X.xe e (s'.setGen g .finished) := by
  have kin : X.K.In s'.heap := by
    obtain ⟨a, B, H', cls, d, _, fl, _, ub, _⟩ := id hc
    refine I.ok.mod.kin.keeps fun b o eb => fl.1 b o (ub.keep b o (I.bs b o eb).1 (I.bs b o eb).2 fun hm => ?_)
    rcases List.mem_cons.mp (I.stkSub b hm) with z | z
    · have h1 := Heap.lt_size eb
      have h2 := Nat.le_trans I.ok.bsz I.ok.above
      rw [z] at h1
      exact absurd (Nat.lt_of_lt_of_le h1 h2) (Nat.lt_irrefl _)
    · exact I.ok.nofr eb z
  refine ⟨notStop_of hns kin hc, hx pins H sc e _ I ?_⟩
  obtain ⟨a, B, H', cls, d, z1, fl, z2, ub, z3, z4, z5, z6⟩ := hc
  exact ⟨a, B, H', cls, d, z1, fl, z2, ub, z3, z4, allBare_setGen z5 rfl, z6⟩
/-- such a generator is asked for an item -/
theorem next_genX {pins : List (Addr × Obj)} {σ : L2.St} {H : Hp} {sc s : Shared} {E : XK} {a : Addr} {g : Nat} {c : Code} {B : Around} {Q : Option Value → Shared → Prop} (I : Inv X pins σ H sc) (hx : PassesAt (CX X.prog X.w) X σ E) (hns : NoStop X.K E) (hh : B.handled = none) (hd : B.depth < recursionLimit) (hr : Room k B.in1) (fr : B.frames = some X.stack)
    (hg : s.heap.IsGen a g) (hgs : s.gens[g]? = some (.fresh c)) (hos : s.os = sc.os) (hb : AllBare s.gens) (hl : s.heap.NoLimit)
    (wake : ∀ (A : Around) (n : Nat) (s2 : Shared), Room k A → A.frames = some X.stack → (∀ b o, s.heap.get? b = some o → s2.heap.get? b = some o) → s2.os = sc.os → AllBare s2.gens →
      Seg (model X.prog X.w) A (fun _ _ r s1 => ∃ e, r = .error e ∧ CX X.prog X.w X.stack H sc E e s1 ∧ s1.heap.IsGen a g) (fun _ _ _ _ _ => False) n s2 c ((model X.prog X.w).den c) [] s2) :
    wpAny (model X.prog X.w) B (pyNext (.ref a)) Q X.xe s := by
  refine next_genG (n := 0) (gs := .fresh c) (F := fun _ _ _ => False) (Er := fun e s1 => CX X.prog X.w X.stack H sc E e s1 ∧ s1.heap.IsGen a g) (Y := fun _ _ _ _ _ => False) hh hl hd hg hgs ⟨rfl, ?_⟩ (fun _ _ _ _ z => z.elim) (fun _ z => z.elim) fun e s1 he => ?_
  · exact seg_imp (fun _ _ r s1 ⟨e, er, h⟩ => .inr ⟨e, er, h⟩) (fun _ _ _ _ _ _ _ z => z) 0 (wake B.in1 0 _ hr fr (fun b o e => e) hos (allBare_setGen hb rfl))
  · obtain ⟨n1, n2⟩ := ex_gen (g := g) I hx hns he.1
    exact ⟨he.2, n1, n2⟩
/-- a loop in a generator over such a generator -/
theorem gs_forX {tg e : Expr} {es : List Expr} {t : TA} {body : List Stmt} {E : XK} (F : GFnX X.prog X.w X.K X.mg X.base k f fd ps sp) (hr : Room (k + 3) X.A) (hp : PassesOwn (model X.prog X.w) X.A X.env X.xe) (hg : Gl X x) (hm : X.mg x = some (.ref f)) (hk : PySem.W.keepIn X.K (.ref f) = true) (hb : Binds X.K fd ps [])
    (ha : PA X (e :: es) t) (hx : ∀ σ, PassesAt (CX X.prog X.w) X σ E) (hns : NoStop X.K E) (hdb : (x == ("__debug__" : Str)) = false := by decide) (he : starEach (e :: es) X.env = (false, eval e X.env) :: starEach es X.env := by rfl) (hpl : (backTo pos' (starEach es X.env)).any (·.1) = false := by rfl)
    (hs : ∀ v, foldedSetIterable (.Call (.Name x p) (e :: es) [] pos') X.env v = pure v := by intro _; rfl) : GS X (.For tg (.Call (.Name x p) (e :: es) [] pos') body [] pos) (fun _ _ σ H => t σ H fun vs H1 => sp vs H1 E) := by
  refine ⟨fun A S ip R n ys s₀ c fs K J gd lv s σ H D G hn k' hI ht => ?_⟩
  obtain ⟨acc, cc, r, I⟩ := hI
  refine seg_For ?_ hs
  rw [G.over]
  refine wpAny_mono (Q := fun u s1 => ∃ H1 sc, Inv X ((S, lstObj acc cc) :: ip) σ H1 sc ∧ GMadeX X.prog X.w k X.stack H1 sc E u s1) ?_ (fun u s1 ⟨H1, sc, I1, hG⟩ => ?_) fun y s' hx' => k'.exc n s₀ y s' hx'
  · refine wpAny_Call_Name_kw (ld_glob I hg hm ?_ hdb)
    refine PySem.W.callWith_K (h₀ := X.base) I.ok.mod.kin hk (thn (ha.run pos' _ s σ H _ I ht) fun us s1 ⟨vs, H1, I1, rv, q⟩ => ⟨I1.kIn, ?_⟩) he hpl
    exact wpAny_mono (run_gfnx (E1 := X.xe) F (hr.mono (by omega)) hb I1 rv q) (fun u s2 h => ⟨H1, s1, I1, h⟩) fun _ _ h => h
  obtain ⟨a, g, cg, rfl, ha1, ha2, hgn, hgs, hos, hb2, hl, hkp, wake⟩ := hG
  refine wpAny_pyIter_gen hgn ?_
  intro p0
  have gl := fun (kk : Result → Sem PySem.Fin) => gc_loop (k := kk) (c' := .forLoop tg (.ref a) body [] X.env) (l := lv []) (kp := []) (p := p0) G rfl rfl
  have ee : ∀ (y : Value) (s' : Shared), X.xe y s' → Seg (model X.prog X.w) A R (GY X S) n s₀ (.forLoop tg (.ref a) body [] X.env) (lostBy X.env y)
      (.ret (fun r => ((match r with | .ok f => (.pure f : Sem Flow) | .error e => .raise e).onRaise (cameBack X.env)).wrap K J gd lv) none (gd false) (lv []) c p0 [] :: fs) s' := fun y s' hy => by
    refine seg_wrap ?_
    rw [(gl _).over]
    refine wpAny_bind (wpAny_mono (hp y s' hy) (fun _ s'' hcb => wpAny_theTreesLotGoes ?_) fun z s'' hcb => ?_)
    · exact seg_leaf (.error y) (seg_cameBack G k' hcb)
    · exact seg_leaf (.error z) (seg_cameBack G k' hcb)
  refine seg_forLoop (Q1 := X.xe) (fun y s' hy => ee y s' hy) ?_
  rw [(gl _).over]
  exact next_genX (k := k) I1 (hx σ) hns hr.hd (by have := hr.dp; omega) ⟨hr.hd, by have := hr.dp; show X.A.depth + 3 * k + 5 < _; omega, by have := hr.un; show X.A.units + 1 + 16 * k + 200 < _; omega⟩ I1.ok.frames hgn hgs hos hb2 hl wake
end
end L2
namespace Mm
open PySem L2
/-- only that error comes out -/
def genM (m : FM) (k0 : Nat) : FM := fun ds S => match m ds S with
  | .ex x S' => if x.c = k0 then .ex x S' else .bad
  | _ => .bad
theorem genM_ex {m : FM} {k0 : Nat} {ds : List D} {S S' : Sto} {x : Exn} (h : m ds S = .ex x S') (hk : x.c = k0) : genM m k0 ds S = .ex x S' := by
  unfold genM
  rw [h]
  exact if_pos hk
theorem genM_cases {m : FM} {k0 : Nat} (ds : List D) (S : Sto) : (∃ x S', m ds S = .ex x S' ∧ x.c = k0 ∧ genM m k0 ds S = .ex x S') ∨ genM m k0 ds S = .bad := by
  cases e : m ds S with
  | ex x S' =>
    by_cases hk : x.c = k0
    · exact .inl ⟨x, S', rfl, hk, genM_ex e hk⟩
    · refine .inr ?_
      unfold genM
      rw [e]
      exact if_neg hk
  | ok d S' => refine .inr ?_; unfold genM; rw [e]
  | bad => refine .inr ?_; unfold genM; rw [e]
abbrev spGM (K : PySem.W.Frag) (Γ : Cls') (m : FM) (k0 : Nat) : SpX := fun vs H E => spM K Γ (genM m k0) vs H (fun _ _ => False) E
structure DgX (P : Program) (wd : World) (K : PySem.W.Frag) (mg : Str → Option Value) (base : Heap) (Γ : Cls') (x : Str) (k : Nat) (m : FM) (k0 : Nat) : Prop where
  ex : ∃ (f : Addr) (fd : FuncData) (ps : List Str), GFnX P wd K mg base k f fd ps (spGM K Γ m k0) ∧ Binds K fd ps [] ∧ PySem.W.keepIn K (.ref f) = true ∧ mg x = some (.ref f)
structure Dg (P : Program) (wd : World) (K : PySem.W.Frag) (mg : Str → Option Value) (base : Heap) (Γ : Cls') (x : Str) (k : Nat) (m : FM) (k0 : Nat) : Prop where
  ex : ∃ (f : Addr) (fd : FuncData) (ps : List Str), GFn P wd K mg base k f fd ps (fun vs H _ E => spGM K Γ m k0 vs H E) ∧ Binds K fd ps [] ∧ PySem.W.keepIn K (.ref f) = true ∧ mg x = some (.ref f)
/-- the error of this class ends no iterator -/
structure NoSt (K : PySem.W.Frag) (Γ : Cls') (k0 : Nat) : Prop where
  ex : ∃ C0, Γ.at_ k0 = some C0 ∧ PySem.W.subIn K (.ref C0) (.type "StopIteration") = some false
section
variable {P : Program} {wd : World} {K : PySem.W.Frag} {mg : Str → Option Value} {base : Heap} {Γ : Cls'} {m : FM} {k0 k : Nat}
theorem spGM_only {vs : List V} {H : Hp} {Q : VK} {E : XK} {C0 : Addr} (hC : Γ.at_ k0 = some C0) (h : spM K Γ (genM m k0) vs H Q E) : spGM K Γ m k0 vs H (fun cls d H => E cls d H ∧ cls = .ref C0) := by
  obtain ⟨c, S, ds, r, t, h⟩ := h
  refine ⟨c, S, ds, r, t, ?_⟩
  rcases genM_cases (m := m) (k0 := k0) ds S with ⟨x, S', e, hk, e2⟩ | e2
  · rw [e2] at h ⊢
    refine fun c2 H2 C dd x2 r2 a2 => ⟨h c2 H2 C dd x2 r2 a2, ?_⟩
    obtain ⟨a, d, ws, q1, q2, _⟩ := a2
    change Γ.at_ x.c = some a at q1
    rw [hk, hC] at q1
    injection q1 with q1
    rw [q2, q1]
  · rw [e2] at h; exact h.elim
theorem noStop_only {E : XK} {C0 : Addr} (hs : PySem.W.subIn K (.ref C0) (.type "StopIteration") = some false) : NoStop K (fun cls d H => E cls d H ∧ cls = .ref C0) := fun cls d H h => by rw [h.2]; exact hs
theorem passesAt_imp {X : Cx} {σ : St} {E E' : XK} (h : PassesAt (L2.CX X.prog X.w) X σ E) (i : ∀ cls d H, E' cls d H → E cls d H) : PassesAt (L2.CX X.prog X.w) X σ E' := fun pins H s e s' I ⟨a, B, H', cls, d, z1, fl, z2, ub, z3, z4, z5, z6⟩ =>
  h pins H s e s' I ⟨a, B, H', cls, d, z1, fl, z2, ub, z3, z4, z5, i _ _ _ z6⟩
/-- a generator def whose first statement raises as m says -/
theorem gfnx_ok {x qual : Str} {sD st : Stmt} {rest : List Stmt} {f : Addr} {fd : FuncData} {N ps : List Str} {b : SM} (F : Fun K x qual sD f fd) (Sc : GScope N ps (defScope sD)) (hbd : defBody sD = st :: rest)
    (hb : ∀ (cdv : Value) (A : Around) (outer : List PySem.Env) (s : Shared) (H : Hp) (E : XK) (pn : List (Addr × Obj)), Room k (A.deeper (PyProof.Rows.envOfC qual (defScope sD) s.heap.objs.size f cdv)) → CS Γ (gcxOf P wd K mg base N qual (defScope sD) f cdv A outer s H E pn) (fun C dd _ H => E C dd H) st b)
    (hm : ∀ ds S x S', m ds S = .ex x S' → ds.length = ps.length ∧ ∃ env', b (ds.map some ++ List.replicate (N.length - ds.length) none) S = .ex x env' S') : GFnX P wd K mg base (k + 1) f fd ps (spGM K Γ m k0) := by
  obtain ⟨oc, od, kV, doc, pm, an, cdv, ct, osl, rfl, lk, hcd⟩ := F.ex
  rw [hbd] at lk ⊢
  refine gfnx_of lk hcd Sc (fun vs H E ⟨c, S, ds, r, t, h⟩ => ?_) fun A outer s H vs E pn hr ⟨c, S, ds, r, t, h⟩ => ⟨_, hb cdv A outer s H E pn hr, ?_⟩
  · rcases genM_cases (m := m) (k0 := k0) ds S with ⟨x, S', e, _, _⟩ | e2
    · rw [t.len]; exact (hm _ _ _ _ e).1
    · rw [e2] at h; exact h.elim
  · rcases genM_cases (m := m) (k0 := k0) ds S with ⟨x, S', e, _, e2⟩ | e2
    · obtain ⟨_, env', eb⟩ := hm _ _ _ _ e
      refine ⟨c, _, S, r, envR_start t, ?_⟩
      rw [e2] at h
      rw [eb]
      exact fun c2 H2 s2 C dd x2 r2 a2 xa => h c2 H2 C dd x2 r2 xa
    · rw [e2] at h; exact h.elim
/-- a generator def that is one loop over such a generator -/
theorem gfn_okX {x y qual : Str} {sD : Stmt} {tg e : Expr} {es : List Expr} {body : List Stmt} {pos p' p : Pos} {f : Addr} {fd : FuncData} {N ps : List Str} {am : AM} (F : Fun K x qual sD f fd) (Sc : GScope N ps (defScope sD)) (hbd : defBody sD = [.For tg (.Call (.Name y p) (e :: es) [] p') body [] pos])
    (G : DgX P wd K mg base Γ y k m k0) (hn : NoSt K Γ k0)
    (hgl : ∀ (cdv : Value) (A : Around) (outer : List PySem.Env) (s : Shared) (H : Hp) (E : XK) (pn : List (Addr × Obj)), Gl (gcxOf P wd K mg base N qual (defScope sD) f cdv A outer s H E pn) y)
    (ha : ∀ (cdv : Value) (A : Around) (outer : List PySem.Env) (s : Shared) (H : Hp) (E : XK) (pn : List (Addr × Obj)), CA Γ (gcxOf P wd K mg base N qual (defScope sD) f cdv A outer s H E pn) (fun C dd _ H => E C dd H) (e :: es) am)
    (he : ∀ (cdv : Value) (A : Around) (outer : List PySem.Env) (s : Shared) (H : Hp) (E : XK) (pn : List (Addr × Obj)), let X := gcxOf P wd K mg base N qual (defScope sD) f cdv A outer s H E pn; starEach (e :: es) X.env = (false, eval e X.env) :: starEach es X.env ∧ (backTo p' (starEach es X.env)).any (·.1) = false ∧ ∀ v, foldedSetIterable (.Call (.Name y p) (e :: es) [] p') X.env v = pure v)
    (hdb : (y == ("__debug__" : Str)) = false)
    (hm : ∀ ds S x S', m ds S = .ex x S' → ds.length = ps.length ∧ am (ds.map some ++ List.replicate (N.length - ds.length) none) S = .ok ds S) : GFn P wd K mg base (k + 4) f fd ps (fun vs H _ E => spGM K Γ m k0 vs H E) := by
  obtain ⟨oc, od, kV, doc, pm, an, cdv, ct, osl, rfl, lk, hcd⟩ := F.ex
  obtain ⟨fy, fdy, psy, FY, by_, ky, my⟩ := G.ex
  obtain ⟨C0, hC, hs⟩ := hn.ex
  rw [hbd] at lk ⊢
  refine gfn_of lk hcd Sc (fun vs H Q E ⟨c, S, ds, r, t, h⟩ => ?_) fun A outer s H vs Q E pn hr hsp => ?_
  · rcases genM_cases (m := m) (k0 := k0) ds S with ⟨x, S', e, _, _⟩ | e2
    · rw [t.len]; exact (hm _ _ _ _ e).1
    · rw [e2] at h; exact h.elim
  · obtain ⟨h1, h2, h3⟩ := he cdv A outer s H E pn
    refine ⟨_, gss_cons (gs_forX (E := fun cls d H => E cls d H ∧ cls = .ref C0) FY hr owns_gcx (hgl cdv A outer s H E pn) my ky by_ (ha cdv A outer s H E pn) (fun σ => passesAt_imp (goes_of (W := fun C dd _ H => E C dd H) takes_gcx σ) fun _ _ _ z => z.1) (noStop_only hs) hdb h1 h2 h3) gss_nil, ?_⟩
    obtain ⟨c, S, ds, r, t, h⟩ := spGM_only hC hsp
    refine ⟨c, _, S, r, envR_start t, ?_⟩
    rcases genM_cases (m := m) (k0 := k0) ds S with ⟨x, S', e, _, e2⟩ | e2
    · rw [(hm _ _ _ _ e).2]
      exact fun c2 H2 us x2 r2 a2 => ⟨c2, S, ds, r2, a2, Po.mono x2 h⟩
    · rw [e2] at h; exact h.elim
end
section
variable {X : Cx} {Γ : Cls'} {W : WX} {m : FM} {k k0 : Nat} {e : Expr} {es : List Expr} {am : AM} {x nm : Str} {p p2 pos pos' : Pos}
/-- list(f(e, ..)), f such a generator def -/
theorem c_listX (G : Dg X.prog X.w X.K X.mg X.base Γ x k m k0) (hn : NoSt X.K Γ k0) (go : Goes X W) (hr : Room (k + 3) X.A) (hl : Gl X nm) (hml : X.mg nm = none) (hv : bootBuiltins nm = some (.type "list")) (hg : Gl X x) (ha : CA Γ X W (e :: es) am) (hnm : nm ≠ "__name__" := by decide) (hdn : (nm == ("__debug__" : Str)) = false := by decide)
    (hdb : (x == ("__debug__" : Str)) = false := by decide) (he : starEach (e :: es) X.env = (false, eval e X.env) :: starEach es X.env := by rfl) (hpl : (backTo pos' (starEach es X.env)).any (·.1) = false := by rfl)
    (hst : starEach [.Call (.Name x p2) (e :: es) [] pos'] X.env = (false, eval (.Call (.Name x p2) (e :: es) [] pos') X.env) :: starEach [] X.env := by rfl) :
    CE Γ X W (.Call (.Name nm p) [.Call (.Name x p2) (e :: es) [] pos'] [] pos) (e_fn tr0 (genM m k0) am) := by
  obtain ⟨f, fd, ps, F, hb, hk, hm⟩ := G.ex
  obtain ⟨C0, hC, hs⟩ := hn.ex
  refine ⟨fun pins s σ H Q I hq => ?_⟩
  obtain ⟨c, env, S, r, ev, h⟩ := hq
  have hq : mA ⟨X.K, Γ⟩ W am σ H fun vs H1 => spGM X.K Γ m k0 (vs ++ []) H1 (fun cls d H => WE W σ cls d H ∧ cls = .ref C0) := ⟨c, env, S, r, ev, (Po.bind h).imp fun vs H1 ⟨c1, S1, ds, e1, r1, a1, h1⟩ => by
    rw [List.append_nil]
    refine spGM_only hC (Q := Q) ⟨c1, S1, ds, r1, a1, ?_⟩
    exact h1.wish fun _ _ _ z => z⟩
  refine wpAny_Call_Name_kw (ld_blt I hl hml hv ?_ hnm hdn)
  refine PyProof.Rows.callWith_type1 ?_ hst rfl
  rw [hst]
  show wpAny _ _ (spliced ((false, eval (.Call (.Name x p2) (e :: es) [] pos') X.env) :: backTo pos (starEach [] X.env))) _ _ s
  refine Calls.spliced_cons (thn ((pgen_call (E := fun cls d H => WE W σ cls d H ∧ cls = .ref C0) (dvs := []) (ds := []) F (hr.mono (by omega)) hg hm hk hb .nil ha hdb he hpl).run pins s σ H (fun _ _ => False) I hq) fun u s1 ⟨H1, sc, ex, I1, hex, hG⟩ => ?_)
  refine Calls.spliced_nil ?_
  refine call_list_new hr I1.ok.frames hG (fun S s' acc c H' ys _ _ _ _ _ _ _ _ _ q8 => q8.elim) fun e s' g hc => ex_gen I1 (passesAt_imp (go σ) fun _ _ _ z => z.1) (noStop_only hs) hc
end
end Mm
set_option maxRecDepth 100000
namespace Mm
open PySem L2
def top (i : Nat) : Stmt := PySem.Challenge.pw_takenahead_k24_start_and_measures.main.body.getD i (.Pass ⟨0, 0, 0, 0⟩)
def items : List (Str × Int) := [("take", 1), ("commit", 1), ("rollback", 1), ("drop", 1), ("leave", 1), ("lock", 2), ("unlock", 2), ("choose", 3)]
def kt_Script : Ty → Option Bool := fun t => match t with
  | .inl "tuple" => some false
  | .inr 1 => some true
  | _ => none
def kt_Kind : Ty → Option Bool := fun t => match t with
  | .inr 4 => some true
  | _ => none
def gKind (x : D) (ds es : List D) : List D := x :: (ds ++ es)
def gSystem (x : D) (es : List D) : List D := x :: es
def mt_NoMeasure : Nat → Option Bool := fun k => match k with
  | 8 => some true
  | _ => none

structure WdT (wd : World) (K : PySem.W.Frag) (Γ : Cls') (mg : Str → Option Value) : Prop where
  b_all : mg "all" = none
  b_bool : mg "bool" = none
  b_enumerate : mg "enumerate" = none
  b_int : mg "int" = none
  b_isinstance : mg "isinstance" = none
  b_len : mg "len" = none
  b_list : mg "list" = none
  b_max : mg "max" = none
  b_range : mg "range" = none
  b_set : mg "set" = none
  b_str : mg "str" = none
  b_sum : mg "sum" = none
  b_tuple : mg "tuple" = none
  c_Kind : KcOk K Γ mg "Kind" kt_Kind
  c_Script : KcOk K Γ mg "Script" kt_Script
  f_Check_found : HasF K Γ 2 0 "found"
  f_Kind_block : HasF K Γ 4 2 "block"
  f_Kind_many : HasF K Γ 4 3 "many"
  f_Kind_name : HasF K Γ 4 0 "name"
  f_Kind_script : HasF K Γ 4 1 "script"
  f_Script_found : HasF K Γ 1 1 "found"
  f_Script_places : HasF K Γ 1 2 "places"
  f_Script_statements : HasF K Γ 1 0 "statements"
  f_System_ahead : HasF K Γ 5 1 "ahead"
  f_System_crashes : HasF K Γ 5 3 "crashes"
  f_System_kinds : HasF K Γ 5 0 "kinds"
  f_System_sessions : HasF K Γ 5 4 "sessions"
  f_System_window : HasF K Γ 5 2 "window"
  g_END : GlD K Γ mg "END" (.tup [.str "end"])
  g_FRESH : GlD K Γ mg "FRESH" (.tup [.tup [.int 0], .tup [], .tup [], .tup []])
  g_LONGEST_NAME : GlD K Γ mg "LONGEST_NAME" (.int 8)
  g_LONGEST_OF_MANY : GlD K Γ mg "LONGEST_OF_MANY" (.int 4)
  g_MEASURES : GlD K Γ mg "MEASURES" (.tup [.str "gap", .str "late", .str "spread"])
  g_MOST_AHEAD : GlD K Γ mg "MOST_AHEAD" (.int 4)
  g_MOST_BLOCK : GlD K Γ mg "MOST_BLOCK" (.int 3)
  g_MOST_CRASHES : GlD K Γ mg "MOST_CRASHES" (.int 2)
  g_MOST_HELD : GlD K Γ mg "MOST_HELD" (.int 3)
  g_MOST_NESTED : GlD K Γ mg "MOST_NESTED" (.int 2)
  g_MOST_SESSIONS : GlD K Γ mg "MOST_SESSIONS" (.int 3)
  g_MOST_STATEMENTS : GlD K Γ mg "MOST_STATEMENTS" (.int 8)
  g_MOST_WINDOW : GlD K Γ mg "MOST_WINDOW" (.int 8)
  k_ITEMS : Kd K wd mg "ITEMS" items
  noex : Γ.ex = none
  nolk : Γ.lk = none
  s_NoMeasure : NoSt K Γ 8
  t_NoMeasure : MtOk K Γ mg "NoMeasure" mt_NoMeasure
  y_NoMeasure_TakeError : XisOk K Γ mg 8 "TakeError" true
  y_NoMeasure_TooMany : XisOk K Γ mg 8 "TooMany" false
abbrev s_is_integer : Stmt := top 15
noncomputable def b_is_integer : SM := (s_ret (e_and (e_isi (ktB "int") (e_v 0)) (e_nott (e_isi (ktB "bool") (e_v 0)))))
noncomputable def m_is_integer : FM := runDef 1 1 (b_is_integer)

abbrev s_is_within : Stmt := top 16
noncomputable def b_is_within : SM := (s_ret (e_and (e_fn tr0 m_is_integer (a_cons (e_v 0) a_nil)) (e_chain leD leD (e_v 1) (e_v 0) (e_v 2))))
noncomputable def m_is_within : FM := runDef 3 3 (b_is_within)

abbrev s_is_name : Stmt := top 17
noncomputable def b_is_name : SM := (s_seq (s_if (t_or (t_not (t_v (e_isi (ktB "str") (e_v 0)))) (t_not (t_b (e_chain leD leD (e_k (.int 1)) (e_call (f1 lenD) (a_cons (e_v 0) a_nil)) (e_k (.int 8)))))) (s_ret (e_k (.bl false))) s_nil)
  (s_ret (e_call (f1 allD) (a_cons (e_lcG [1] (i_str (e_v 0)) (g_name 1) t_yes (e_chain strLeD strLeD (e_k (.str "a")) (e_v 1) (e_k (.str "z"))) finL) a_nil))))
noncomputable def m_is_name : FM := runDef 1 2 (b_is_name)

abbrev s_held_after : Stmt := top 29
noncomputable def b_held_after : SM := (s_seq (s_if (t_b (e_op (eqD false) (e_v 0) (e_k (.str "take")))) (s_ret (e_op addD (e_v 1) (e_k (.int 1)))) s_nil)
  (s_ret (e_if (t_b (e_op (inF false) (e_v 0) (e_tup (a_cons (e_k (.str "commit")) (a_cons (e_k (.str "rollback")) (a_cons (e_k (.str "leave")) a_nil)))))) (e_k (.int 0)) (e_v 1))))
noncomputable def m_held_after : FM := runDef 2 2 (b_held_after)

abbrev s_has_form : Stmt := top 30
noncomputable def b_has_form : SM := (s_seq (s_if (t_or (t_not (t_v (e_isi (ktB "tuple") (e_v 0)))) (t_not (t_v (e_v 0)))) (s_ret (e_k (.bl false))) s_nil)
  (s_seq (s_set 1 (e_op ixD (e_v 0) (e_k (.int 0))))
  (s_seq (s_if (t_or (t_not (t_v (e_isi (ktB "str") (e_v 1)))) (t_b (e_op (eqD true) (e_call (f1 lenD) (a_cons (e_v 0) a_nil)) (e_kget items (e_v 1))))) (s_ret (e_k (.bl false))) s_nil)
  (s_seq (s_if (t_b (e_op (eqD false) (e_v 1) (e_k (.str "choose")))) (s_ret (e_and (e_isi (ktB "tuple") (e_op ixD (e_v 0) (e_k (.int 1)))) (e_isi (ktB "tuple") (e_op ixD (e_v 0) (e_k (.int 2)))))) s_nil)
  (s_ret (e_k (.bl true)))))))
noncomputable def m_has_form : FM := runDef 1 2 (b_has_form)

abbrev s_fault_of : Stmt := top 28
noncomputable def b_fault_of : SM := (s_seq (s_if (t_b (e_op (eqD false) (e_v 2) (e_k (.int 8)))) (s_ret (e_k (.str "size"))) s_nil)
  (s_seq (s_if (t_not (t_v (e_fn tr0 m_has_form (a_cons (e_v 0) a_nil)))) (s_ret (e_k (.str "form"))) s_nil)
  (s_seq (s_set 4 (e_op ixD (e_v 0) (e_k (.int 0))))
  (s_seq (s_if (t_and (t_b (e_op (eqD false) (e_v 4) (e_k (.str "choose")))) (t_b (e_op (eqD false) (e_op divD (e_call (f1 lenD) (a_cons (e_v 1) a_nil)) (e_k (.int 2))) (e_k (.int 2))))) (s_ret (e_k (.str "nested"))) s_nil)
  (s_seq (s_if (t_and (t_b (e_op (inF false) (e_v 4) (e_tup (a_cons (e_k (.str "lock")) (a_cons (e_k (.str "unlock")) a_nil))))) (t_not (t_v (e_fn tr0 m_is_name (a_cons (e_op ixD (e_v 0) (e_k (.int 1))) a_nil))))) (s_ret (e_k (.str "name"))) s_nil)
  (s_seq (s_if (t_and (t_b (e_op (eqD false) (e_v 4) (e_k (.str "take")))) (t_b (e_op (eqD false) (e_v 3) (e_k (.int 3))))) (s_ret (e_k (.str "full"))) s_nil)
  (s_ret (e_k .non))))))))
noncomputable def m_fault_of : FM := runDef 4 5 (b_fault_of)

abbrev s_Check___init__ : Stmt := inClass (top 27) 0
noncomputable def b_Check___init__ : SM := (s_fld [(2, 0)] (e_v 0) (e_dnew [.non]))
noncomputable def m_Check___init__ : FM := runDef 1 1 (b_Check___init__)

abbrev s_Check_check_branch : Stmt := inClass (top 27) 1
noncomputable def b_Check_check_branch (m_Check_check_statement : FM) : SM := (s_seq (s_for (i_enum (e_v 1)) (g_tup (g_cons (g_name 4) (g_cons (g_name 5) g_nil))) (s_set 3 (e_mth tr0 2 m_Check_check_statement (e_v 0) (a_cons (e_v 5) (a_cons (e_op addT (e_v 2) (e_ttp (a_cons (e_v 4) a_nil))) (a_cons (e_v 3) a_nil))))))
  (s_ret (e_v 3)))
noncomputable def m_Check_check_branch' (m_Check_check_statement : FM) : FM := runDef 4 6 (b_Check_check_branch m_Check_check_statement)

abbrev s_Check_check_statement : Stmt := inClass (top 27) 2
noncomputable def b_Check_check_statement (m_Check_check_branch : FM) : SM := (s_seq (s_set 4 (e_fn tr0 m_fault_of (a_cons (e_v 1) (a_cons (e_v 2) (a_cons (e_call (f1 dlenD) (a_cons (e_fld [(2, 0)] (e_v 0)) a_nil)) (a_cons (e_v 3) a_nil))))))
  (s_seq (s_if (t_b (e_op (isD true) (e_v 4) (e_k .non))) s_bad s_nil)
  (s_seq (s_dput (e_v 1) (e_fld [(2, 0)] (e_v 0)) (e_v 2))
  (s_seq (s_if (t_b (e_op (eqD false) (e_op ixD (e_v 1) (e_k (.int 0))) (e_k (.str "choose")))) (s_seq (s_set 5 (e_mth tr0 2 m_Check_check_branch (e_v 0) (a_cons (e_op ixD (e_v 1) (e_k (.int 1))) (a_cons (e_op addT (e_v 2) (e_ttp (a_cons (e_k (.int 0)) a_nil))) (a_cons (e_v 3) a_nil)))))
  (s_seq (s_set 6 (e_mth tr0 2 m_Check_check_branch (e_v 0) (a_cons (e_op ixD (e_v 1) (e_k (.int 2))) (a_cons (e_op addT (e_v 2) (e_ttp (a_cons (e_k (.int 1)) a_nil))) (a_cons (e_v 3) a_nil)))))
  (s_ret (e_call (f2 max2D) (a_cons (e_v 5) (a_cons (e_v 6) a_nil)))))) s_nil)
  (s_ret (e_fn tr0 m_held_after (a_cons (e_op ixD (e_v 1) (e_k (.int 0))) (a_cons (e_v 3) a_nil))))))))
noncomputable def m_Check_check_statement' (m_Check_check_branch : FM) : FM := runDef 4 7 (b_Check_check_statement m_Check_check_branch)

noncomputable def mCC : Nat → FM × FM
  | 0 => (runDef 4 6 s_bad, runDef 4 7 s_bad)
  | n + 1 => (m_Check_check_branch' (mCC n).2, m_Check_check_statement' (mCC n).1)
noncomputable def m_Check_check_branch : FM := (mCC 6).1

abbrev s_Script___init__ : Stmt := inClass (top 24) 0
noncomputable def b_Script___init__ : SM := (s_seq (s_if (t_not (t_v (e_isi (ktB "tuple") (e_v 1)))) s_bad s_nil)
  (s_seq (s_if (t_not (t_v (e_v 1))) s_bad s_nil)
  (s_seq (s_set 2 (e_mk tr0 2 m_Check___init__ a_nil))
  (s_seq (s_ex (e_mth tr0 2 m_Check_check_branch (e_v 2) (a_cons (e_v 1) (a_cons (e_ttp a_nil) (a_cons (e_k (.int 0)) a_nil)))))
  (s_seq (s_fld [(1, 0)] (e_v 0) (e_v 1))
  (s_seq (s_fld [(1, 1)] (e_v 0) (e_fld [(1, 1), (2, 0)] (e_v 2)))
  (s_fld [(1, 2)] (e_v 0) (e_call (f1 tupleD) (a_cons (e_call (f1 dlistD) (a_cons (e_fld [(1, 1)] (e_v 0)) a_nil)) a_nil)))))))))
noncomputable def m_Script___init__ : FM := runDef 2 3 (b_Script___init__)

abbrev s_Script___len__ : Stmt := inClass (top 24) 1
noncomputable def b_Script___len__ : SM := (s_ret (e_call (f1 lenD) (a_cons (e_fld [(1, 2)] (e_v 0)) a_nil)))
noncomputable def m_Script___len__ : FM := runDef 1 1 (b_Script___len__)

abbrev s_script_of : Stmt := top 84
noncomputable def b_script_of : SM := (s_seq (s_if (t_v (e_isi kt_Script (e_v 0))) (s_ret (e_v 0)) s_nil)
  (s_nox (s_ret (e_mk trunc 1 m_Script___init__ (a_cons (e_v 0) a_nil)))))
noncomputable def m_script_of : FM := runDef 1 2 (b_script_of)

abbrev s_Kind___init__ : Stmt := inClass (top 82) 0
noncomputable def b_Kind___init__ : SM := (s_seq (s_if (t_not (t_v (e_fn tr0 m_is_name (a_cons (e_v 1) a_nil)))) s_bad s_nil)
  (s_seq (s_set 2 (e_fn tr0 m_script_of (a_cons (e_v 2) a_nil)))
  (s_seq (s_if (t_not (t_v (e_fn tr0 m_is_within (a_cons (e_v 3) (a_cons (e_k (.int 1)) (a_cons (e_k (.int 3)) a_nil)))))) s_bad s_nil)
  (s_seq (s_if (t_not (t_v (e_fn tr0 m_is_within (a_cons (e_v 4) (a_cons (e_k (.int 1)) (a_cons (e_k (.int 3)) a_nil)))))) s_bad s_nil)
  (s_seq (s_fld [(4, 0)] (e_v 0) (e_v 1))
  (s_seq (s_fld [(4, 1)] (e_v 0) (e_v 2))
  (s_seq (s_fld [(4, 2)] (e_v 0) (e_v 3))
  (s_fld [(4, 3)] (e_v 0) (e_v 4)))))))))
noncomputable def m_Kind___init__ : FM := runDef 5 5 (b_Kind___init__)

abbrev s_count_of_sessions : Stmt := top 87
noncomputable def b_count_of_sessions : SM := (s_ret (e_call (f1 sumD) (a_cons (e_lcG [1] (i_seq (e_v 0)) (g_name 1) t_yes (e_fld [(4, 3)] (e_v 1)) finL) a_nil)))
noncomputable def m_count_of_sessions : FM := runDef 1 2 (b_count_of_sessions)

abbrev s_are_kinds : Stmt := top 86
noncomputable def b_are_kinds : SM := (s_seq (s_if (t_or (t_not (t_v (e_v 0))) (t_not (t_v (e_call (f1 allD) (a_cons (e_lcG [1] (i_seq (e_v 0)) (g_name 1) t_yes (e_isi kt_Kind (e_v 1)) finL) a_nil))))) (s_ret (e_k (.bl false))) s_nil)
  (s_seq (s_if (t_b (e_op ltD (e_lens (e_lcG [1] (i_seq (e_v 0)) (g_name 1) t_yes (e_fld [(4, 0)] (e_v 1)) finL)) (e_call (f1 lenD) (a_cons (e_v 0) a_nil)))) (s_ret (e_k (.bl false))) s_nil)
  (s_ret (e_op leD (e_fn tr0 m_count_of_sessions (a_cons (e_v 0) a_nil)) (e_k (.int 3))))))
noncomputable def m_are_kinds : FM := runDef 1 2 (b_are_kinds)

abbrev s_fault_of_system : Stmt := top 85
noncomputable def b_fault_of_system : SM := (s_seq (s_if (t_not (t_v (e_fn tr0 m_are_kinds (a_cons (e_v 0) a_nil)))) (s_ret (e_k (.str "kinds"))) s_nil)
  (s_seq (s_set 4 (e_op (eqD false) (e_fn tr0 m_count_of_sessions (a_cons (e_v 0) a_nil)) (e_k (.int 3))))
  (s_seq (s_if (t_and (t_v (e_v 4)) (t_b (e_op gtD (e_call (f1 maxD) (a_cons (e_lcG [5] (i_seq (e_v 0)) (g_name 5) t_yes (e_call (f1 (lenOwnD 1 m_Script___len__)) (a_cons (e_fld [(4, 1)] (e_v 5)) a_nil)) finL) a_nil)) (e_k (.int 4))))) (s_ret (e_k (.str "size"))) s_nil)
  (s_seq (s_if (t_not (t_v (e_fn tr0 m_is_within (a_cons (e_v 1) (a_cons (e_k (.int 0)) (a_cons (e_k (.int 4)) a_nil)))))) (s_ret (e_k (.str "ahead"))) s_nil)
  (s_seq (s_set 6 (e_call (f1 maxD) (a_cons (e_lcG [5] (i_seq (e_v 0)) (g_name 5) t_yes (e_fld [(4, 2)] (e_v 5)) finL) a_nil)))
  (s_seq (s_if (t_and (t_b (e_op (isD true) (e_v 2) (e_k .non))) (t_not (t_v (e_fn tr0 m_is_within (a_cons (e_v 2) (a_cons (e_v 6) (a_cons (e_k (.int 8)) a_nil))))))) (s_ret (e_k (.str "window"))) s_nil)
  (s_seq (s_if (t_not (t_v (e_fn tr0 m_is_within (a_cons (e_v 3) (a_cons (e_k (.int 0)) (a_cons (e_k (.int 2)) a_nil)))))) (s_ret (e_k (.str "crashes"))) s_nil)
  (s_ret (e_k .non)))))))))
noncomputable def m_fault_of_system : FM := runDef 4 7 (b_fault_of_system)

abbrev s_System___init__ : Stmt := inClass (top 83) 0
noncomputable def b_System___init__ : SM := (s_seq (s_set 5 (e_fn tr0 m_fault_of_system (a_cons (e_v 4) (a_cons (e_v 1) (a_cons (e_v 2) (a_cons (e_v 3) a_nil))))))
  (s_seq (s_if (t_b (e_op (isD true) (e_v 5) (e_k .non))) s_bad s_nil)
  (s_seq (s_fld [(5, 0)] (e_v 0) (e_v 4))
  (s_seq (s_fld [(5, 1)] (e_v 0) (e_v 1))
  (s_seq (s_fld [(5, 2)] (e_v 0) (e_v 2))
  (s_seq (s_fld [(5, 3)] (e_v 0) (e_v 3))
  (s_fld [(5, 4)] (e_v 0) (e_call (f1 tupleD) (a_cons (e_c2 [6, 7] [7] (i_seq (e_v 4)) (g_name 6) t_yes (i_rng1 (e_fld [(4, 3)] (e_v 6))) (g_name 7) t_yes (addL2 (e_fld [(4, 0)] (e_v 6))) [] finL) a_nil)))))))))
noncomputable def m_System___init__ : FM := runDef 5 8 (b_System___init__)

abbrev s_is_measure : Stmt := top 18
noncomputable def b_is_measure : SM := (s_ret (e_and (e_isi (ktB "str") (e_v 0)) (e_op (inF false) (e_v 0) (e_k (.tup [.str "gap", .str "late", .str "spread"])))))
noncomputable def m_is_measure : FM := runDef 1 1 (b_is_measure)

abbrev s_check_measure : Stmt := top 55
noncomputable def b_check_measure : SM := (s_if (t_not (t_v (e_fn tr0 m_is_measure (a_cons (e_v 0) a_nil)))) (s_raise1 8 (e_v 0)) s_nil)
noncomputable def m_check_measure : FM := runDef 1 1 (b_check_measure)

abbrev s_fresh_sessions : Stmt := top 57
noncomputable def b_fresh_sessions : SM := (s_ret (e_call (f1 tupleD) (a_cons (e_lcG [1] (i_seq (e_fld [(5, 4)] (e_v 0))) (g_name 1) t_yes (e_k (.tup [.tup [.int 0], .tup [], .tup [], .tup []])) finL) a_nil)))
noncomputable def m_fresh_sessions : FM := runDef 1 2 (b_fresh_sessions)

abbrev s_start : Stmt := top 50
noncomputable def b_start : SM := (s_seq (s_ex (e_fn tr0 m_check_measure (a_cons (e_v 1) a_nil)))
  (s_ret (e_tup (a_cons (e_tup (a_cons (e_k (.str "no")) (a_cons (e_k (.str "no")) a_nil))) (a_cons (e_fld [(5, 1)] (e_v 0)) (a_cons (e_fld [(5, 3)] (e_v 0)) (a_cons (e_fn tr0 m_fresh_sessions (a_cons (e_v 0) a_nil)) a_nil)))))))
noncomputable def m_start : FM := runDef 2 2 (b_start)

abbrev s_steps : Stmt := top 51
noncomputable def b_steps : SM := (s_seq (s_ex (e_fn tr0 m_check_measure (a_cons (e_v 1) a_nil)))
  (s_seq (s_if (t_b (e_op (eqD false) (e_v 2) (e_k (.tup [.str "end"])))) (s_ret (e_lst a_nil)) s_nil)
  (s_seq s_bad
  (s_seq s_bad
  s_bad))))
noncomputable def m_steps : FM := runDef 3 5 (b_steps)

abbrev s_reach : Stmt := top 53
noncomputable def b_reach : SM := (s_ret (e_call (f1 lenD) (a_cons (e_fn tr0 (genM m_start 8) (a_cons (e_v 0) (a_cons (e_v 1) a_nil))) a_nil)))
noncomputable def m_reach : FM := runDef 2 2 (b_reach)

abbrev s__law_pool : Stmt := top 89
noncomputable def b__law_pool : SM := (s_seq (s_set 2 (e_op addD (e_v 1) (e_k (.int 1))))
  (s_seq (s_if (t_b (e_op ltD (e_v 1) (e_call (f1 lenD) (a_cons (e_v 0) a_nil)))) (s_set 2 (e_call (f1 intcD) (a_cons (e_op ixD (e_v 0) (e_v 1)) a_nil))) s_nil)
  (s_ret (e_new (a_cons (e_call (f2 max2D) (a_cons (e_k (.int 0)) (a_cons (e_op subD (e_v 2) (e_op powD (e_k (.int 10)) (e_k (.int 18)))) a_nil))) (a_cons (e_op modD (e_call (f1 intcD) (a_cons (e_v 2) a_nil)) (e_k (.int 2147483647))) (a_cons (e_k (.int 0)) a_nil)))))))
noncomputable def m__law_pool : FM := runDef 2 3 (b__law_pool)

abbrev s__law_draw : Stmt := top 90
noncomputable def b__law_draw : SM := (s_seq (s_if (t_b (e_op gtD (e_op ixD (e_v 0) (e_k (.int 0))) (e_k (.int 0)))) (s_seq (s_set 2 (e_op modD (e_call (f1 intcD) (a_cons (e_op ixD (e_v 0) (e_k (.int 0))) a_nil)) (e_v 1)))
  (s_seq (s_put (e_op divD (e_op ixD (e_v 0) (e_k (.int 0))) (e_v 1)) (e_v 0) (e_k (.int 0)))
  (s_ret (e_v 2)))) s_nil)
  (s_seq (s_put (e_op addD (e_op ixD (e_v 0) (e_k (.int 2))) (e_k (.int 1))) (e_v 0) (e_k (.int 2)))
  (s_seq (s_set 3 (e_op modD (e_call (f1 intcD) (a_cons (e_op mulD (e_op addD (e_op addD (e_op ixD (e_v 0) (e_k (.int 1))) (e_op mulD (e_k (.int 7919)) (e_op ixD (e_v 0) (e_k (.int 2))))) (e_k (.int 1))) (e_k (.int 48271))) a_nil)) (e_k (.int 2147483647))))
  (s_seq (s_set 3 (e_op modD (e_call (f1 intcD) (a_cons (e_op mulD (e_v 3) (e_op addD (e_op divD (e_v 3) (e_k (.int 1009))) (e_k (.int 69621)))) a_nil)) (e_k (.int 2147483647))))
  (s_seq (s_set 3 (e_op modD (e_call (f1 intcD) (a_cons (e_op mulD (e_v 3) (e_op addD (e_op divD (e_v 3) (e_k (.int 2003))) (e_k (.int 40692)))) a_nil)) (e_k (.int 2147483399))))
  (s_ret (e_op modD (e_call (f1 intcD) (a_cons (e_v 3) a_nil)) (e_v 1))))))))
noncomputable def m__law_draw : FM := runDef 2 4 (b__law_draw)

abbrev s__law_names : Stmt := top 91
noncomputable def b__law_names : SM := (s_seq (s_set 1 (e_k (.str "abcdefghijklmnopqrstuvwxyz")))
  (s_seq (s_set 2 (e_k (.str "")))
  (s_seq (s_for (i_rng1 (e_fn tr0 m__law_draw (a_cons (e_v 0) (a_cons (e_k (.int 8)) a_nil)))) (g_name 3) (s_set 2 (e_op addD (e_v 2) (e_op ixD (e_v 1) (e_fn tr0 m__law_draw (a_cons (e_v 0) (a_cons (e_k (.int 26)) a_nil)))))))
  (s_seq (s_set 4 (e_fn tr0 m__law_draw (a_cons (e_v 0) (a_cons (e_op addD (e_call (f1 lenD) (a_cons (e_v 2) a_nil)) (e_k (.int 1))) a_nil))))
  (s_seq (s_set 5 (e_fn tr0 m__law_draw (a_cons (e_v 0) (a_cons (e_k (.int 26)) a_nil))))
  (s_seq (s_set 6 (e_lst (a_cons (e_v 5) (a_cons (e_op modD (e_call (f1 intcD) (a_cons (e_op addD (e_op addD (e_v 5) (e_k (.int 1))) (e_fn tr0 m__law_draw (a_cons (e_v 0) (a_cons (e_k (.int 12)) a_nil)))) a_nil)) (e_k (.int 26))) (a_cons (e_op modD (e_call (f1 intcD) (a_cons (e_op addD (e_op addD (e_v 5) (e_k (.int 14))) (e_fn tr0 m__law_draw (a_cons (e_v 0) (a_cons (e_k (.int 12)) a_nil)))) a_nil)) (e_k (.int 26))) a_nil)))))
  (s_ret (e_lcG [7] (i_seq (e_v 6)) (g_name 7) t_yes (e_op addD (e_op addD (e_sl (e_v 2) o_none (o_some (e_v 4))) (e_op ixD (e_v 1) (e_v 7))) (e_sl (e_v 2) (o_some (e_v 4)) o_none)) finL))))))))
noncomputable def m__law_names : FM := runDef 1 8 (b__law_names)

abbrev s__law_simple : Stmt := top 92
noncomputable def b__law_simple : SM := (s_seq (s_set 3 (e_fn tr0 m__law_draw (a_cons (e_v 0) (a_cons (e_k (.int 13)) a_nil))))
  (s_seq (s_if (t_and (t_b (e_op ltD (e_v 3) (e_k (.int 5)))) (t_b (e_op ltD (e_op ixD (e_v 1) (e_k (.int 1))) (e_op ixD (e_v 1) (e_k (.int 2)))))) (s_seq (s_put (e_op addD (e_op ixD (e_v 1) (e_k (.int 1))) (e_k (.int 1))) (e_v 1) (e_k (.int 1)))
  (s_ret (e_tup (a_cons (e_k (.str "take")) a_nil)))) s_nil)
  (s_seq (s_if (t_b (e_op (eqD false) (e_v 3) (e_k (.int 10)))) (s_ret (e_tup (a_cons (e_k (.str "lock")) (a_cons (e_op ixD (e_v 2) (e_fn tr0 m__law_draw (a_cons (e_v 0) (a_cons (e_k (.int 2)) a_nil)))) a_nil)))) s_nil)
  (s_seq (s_if (t_b (e_op (eqD false) (e_v 3) (e_k (.int 11)))) (s_ret (e_tup (a_cons (e_k (.str "unlock")) (a_cons (e_op ixD (e_v 2) (e_fn tr0 m__law_draw (a_cons (e_v 0) (a_cons (e_k (.int 2)) a_nil)))) a_nil)))) s_nil)
  (s_seq (s_if (t_b (e_op (eqD false) (e_v 3) (e_k (.int 9)))) (s_ret (e_tup (a_cons (e_k (.str "drop")) a_nil))) s_nil)
  (s_seq (s_put (e_k (.int 0)) (e_v 1) (e_k (.int 1)))
  (s_seq (s_if (t_b (e_op (eqD false) (e_v 3) (e_k (.int 8)))) (s_ret (e_tup (a_cons (e_k (.str "rollback")) a_nil))) s_nil)
  (s_seq (s_if (t_b (e_op (eqD false) (e_v 3) (e_k (.int 12)))) (s_ret (e_tup (a_cons (e_k (.str "leave")) a_nil))) s_nil)
  (s_ret (e_tup (a_cons (e_k (.str "commit")) a_nil)))))))))))
noncomputable def m__law_simple : FM := runDef 3 4 (b__law_simple)

abbrev s__law_branch : Stmt := top 93
noncomputable def b__law_branch (m__law_branch : FM) : SM := (s_seq (s_set 5 (e_new a_nil))
  (s_seq (s_for (i_rng1 (e_v 3)) (g_name 6) (s_if (t_b (e_op gtD (e_op ixD (e_v 1) (e_k (.int 0))) (e_k (.int 0)))) (s_seq (s_put (e_op subD (e_op ixD (e_v 1) (e_k (.int 0))) (e_k (.int 1))) (e_v 1) (e_k (.int 0)))
  (s_if (t_and (t_b (e_op ltD (e_v 4) (e_k (.int 2)))) (t_b (e_op (eqD false) (e_fn tr0 m__law_draw (a_cons (e_v 0) (a_cons (e_k (.int 5)) a_nil))) (e_k (.int 0))))) (s_seq (s_set 7 (e_op ixD (e_v 1) (e_k (.int 1))))
  (s_seq (s_set 8 (e_fn trunc m__law_branch (a_cons (e_v 0) (a_cons (e_v 1) (a_cons (e_v 2) (a_cons (e_fn tr0 m__law_draw (a_cons (e_v 0) (a_cons (e_k (.int 3)) a_nil))) (a_cons (e_op addD (e_v 4) (e_k (.int 1))) a_nil)))))))
  (s_seq (s_set 9 (e_op ixD (e_v 1) (e_k (.int 1))))
  (s_seq (s_put (e_v 7) (e_v 1) (e_k (.int 1)))
  (s_seq (s_set 10 (e_fn trunc m__law_branch (a_cons (e_v 0) (a_cons (e_v 1) (a_cons (e_v 2) (a_cons (e_fn tr0 m__law_draw (a_cons (e_v 0) (a_cons (e_k (.int 3)) a_nil))) (a_cons (e_op addD (e_v 4) (e_k (.int 1))) a_nil)))))))
  (s_seq (s_put (e_call (f2 max2D) (a_cons (e_v 9) (a_cons (e_op ixD (e_v 1) (e_k (.int 1))) a_nil))) (e_v 1) (e_k (.int 1)))
  (s_ex (e_meth tyL appD (e_v 5) (a_cons (e_tup (a_cons (e_k (.str "choose")) (a_cons (e_v 8) (a_cons (e_v 10) a_nil)))) a_nil))))))))) (s_ex (e_meth tyL appD (e_v 5) (a_cons (e_fn tr0 m__law_simple (a_cons (e_v 0) (a_cons (e_v 1) (a_cons (e_v 2) a_nil)))) a_nil))))) s_nil))
  (s_ret (e_call (f1 tupleD) (a_cons (e_v 5) a_nil)))))
noncomputable def m__law_branch' (m__law_branch : FM) : FM := runDef 5 11 (b__law_branch m__law_branch)

noncomputable def mLB : Nat → FM
  | 0 => runDef 5 11 s_bad
  | n + 1 => m__law_branch' (mLB n)
noncomputable def m__law_branch : FM := mLB 3

abbrev s__law_build : Stmt := top 94
noncomputable def b__law_build : SM := (s_seq (s_set 2 (e_fn trunc m__law_names (a_cons (e_v 0) a_nil)))
  (s_seq (s_set 3 (e_new a_nil))
  (s_seq (s_for (i_rng1 (e_op addD (e_k (.int 1)) (e_call (f1 intcD) (a_cons (e_op gtD (e_fn tr0 m__law_draw (a_cons (e_v 0) (a_cons (e_k (.int 5)) a_nil))) (e_k (.int 0))) a_nil)))) (g_name 4) (s_seq (s_set 5 (e_op ixD (e_lst (a_cons (e_tup a_nil) (a_cons (e_tup (a_cons (e_tup (a_cons (e_k (.str "take")) a_nil)) a_nil)) a_nil))) (e_call (f1 intcD) (a_cons (e_op gtD (e_fn tr0 m__law_draw (a_cons (e_v 0) (a_cons (e_k (.int 3)) a_nil))) (e_k (.int 0))) a_nil))))
  (s_seq (s_set 6 (e_new (a_cons (e_op subD (e_v 1) (e_call (f1 lenD) (a_cons (e_v 5) a_nil))) (a_cons (e_call (f1 lenD) (a_cons (e_v 5) a_nil)) (a_cons (e_k (.int 3)) a_nil)))))
  (s_seq (s_set 7 (e_op addD (e_v 5) (e_fn trunc m__law_branch (a_cons (e_v 0) (a_cons (e_v 6) (a_cons (e_v 2) (a_cons (e_op addD (e_k (.int 1)) (e_fn tr0 m__law_draw (a_cons (e_v 0) (a_cons (e_op subD (e_v 1) (e_call (f1 lenD) (a_cons (e_v 5) a_nil))) a_nil)))) (a_cons (e_k (.int 0)) a_nil))))))))
  (s_ex (e_meth tyL appD (e_v 3) (a_cons (e_tup (a_cons (e_op ixD (e_v 2) (e_v 4)) (a_cons (e_v 7) (a_cons (e_op addD (e_k (.int 1)) (e_fn tr0 m__law_draw (a_cons (e_v 0) (a_cons (e_k (.int 3)) a_nil)))) (a_cons (e_op addD (e_k (.int 1)) (e_call (f1 intcD) (a_cons (e_op (eqD false) (e_fn tr0 m__law_draw (a_cons (e_v 0) (a_cons (e_k (.int 4)) a_nil))) (e_k (.int 0))) a_nil))) a_nil))))) a_nil)))))))
  (s_seq (s_if (t_and (t_b (e_op (eqD false) (e_call (f1 lenD) (a_cons (e_v 3) a_nil)) (e_k (.int 2)))) (t_or (t_b (e_op (eqD false) (e_op ixD (e_op ixD (e_v 3) (e_k (.int 0))) (e_k (.int 3))) (e_k (.int 2)))) (t_b (e_op gtD (e_v 1) (e_k (.int 4)))))) (s_put (e_op addD (e_sl (e_op ixD (e_v 3) (e_k (.int 1))) o_none (o_some (e_k (.int 3)))) (e_tup (a_cons (e_k (.int 1)) a_nil))) (e_v 3) (e_k (.int 1))) s_nil)
  (s_seq (s_if (t_and (t_b (e_op (eqD false) (e_call (f1 lenD) (a_cons (e_v 3) a_nil)) (e_k (.int 2)))) (t_b (e_op gtD (e_v 1) (e_k (.int 4))))) (s_put (e_op addD (e_sl (e_op ixD (e_v 3) (e_k (.int 0))) o_none (o_some (e_k (.int 3)))) (e_tup (a_cons (e_k (.int 1)) a_nil))) (e_v 3) (e_k (.int 0))) s_nil)
  (s_seq (s_set 8 (e_op ixD (e_lst (a_cons (e_k .non) (a_cons (e_op addD (e_k (.int 3)) (e_fn tr0 m__law_draw (a_cons (e_v 0) (a_cons (e_k (.int 6)) a_nil)))) a_nil))) (e_fn tr0 m__law_draw (a_cons (e_v 0) (a_cons (e_k (.int 2)) a_nil)))))
  (s_ret (e_lst (a_cons (e_v 3) (a_cons (e_fn tr0 m__law_draw (a_cons (e_v 0) (a_cons (e_k (.int 5)) a_nil))) (a_cons (e_v 8) (a_cons (e_fn tr0 m__law_draw (a_cons (e_v 0) (a_cons (e_k (.int 3)) a_nil))) a_nil))))))))))))
noncomputable def m__law_build : FM := runDef 2 9 (b__law_build)

abbrev s__law_system : Stmt := top 95
noncomputable def b__law_system : SM := (s_seq (s_set 1 (e_lcG [2] (i_seq (e_op ixD (e_v 0) (e_k (.int 0)))) (g_name 2) t_yes (e_mkk trunc 4 m_Kind___init__ gKind 2 2 (a_cons (e_op ixD (e_v 2) (e_k (.int 0))) (a_cons (e_op ixD (e_v 2) (e_k (.int 1))) a_nil)) (a_cons (e_op ixD (e_v 2) (e_k (.int 2))) (a_cons (e_op ixD (e_v 2) (e_k (.int 3))) a_nil))) finL))
  (s_seq (s_if (t_b (e_op (eqD false) (e_call (f1 lenD) (a_cons (e_v 1) a_nil)) (e_k (.int 1)))) (s_ret (e_mks trunc 5 m_System___init__ gSystem 3 (a_cons (e_op ixD (e_v 1) (e_k (.int 0))) a_nil) (a_cons (e_op ixD (e_v 0) (e_k (.int 1))) (a_cons (e_op ixD (e_v 0) (e_k (.int 2))) (a_cons (e_op ixD (e_v 0) (e_k (.int 3))) a_nil))))) s_nil)
  (s_ret (e_mks trunc 5 m_System___init__ gSystem 3 (a_cons (e_op ixD (e_v 1) (e_k (.int 0))) (a_cons (e_op ixD (e_v 1) (e_k (.int 1))) a_nil)) (a_cons (e_op ixD (e_v 0) (e_k (.int 1))) (a_cons (e_op ixD (e_v 0) (e_k (.int 2))) (a_cons (e_op ixD (e_v 0) (e_k (.int 3))) a_nil)))))))
noncomputable def m__law_system : FM := runDef 1 3 (b__law_system)

abbrev s__law_refused : Stmt := top 97
noncomputable def b__law_refused : SM := (s_seq (s_try (s_if (t_b (e_op (eqD false) (e_v 1) (e_k (.int 0)))) (s_ex (e_fn trunc m_start (a_cons (e_v 0) (a_cons (e_v 2) a_nil)))) (s_if (t_b (e_op (eqD false) (e_v 1) (e_k (.int 1)))) (s_ex (e_fn trunc m_steps (a_cons (e_v 0) (a_cons (e_v 2) (a_cons (e_tup (a_cons (e_k (.str "end")) a_nil)) a_nil))))) (s_if (t_b (e_op (eqD false) (e_v 1) (e_k (.int 2)))) (s_ex (e_fn tr0 m_reach (a_cons (e_v 0) (a_cons (e_v 2) a_nil)))) (s_ex (e_fn tr0 (genM m_start 8) (a_cons (e_v 0) (a_cons (e_v 2) a_nil)))))))
  [⟨8, mt_NoMeasure, 3, (s_ret (e_and (e_xis 8 true (e_v 3)) (e_and (e_nott (e_xis 8 false (e_v 3))) (e_op (eqD false) (e_xf 8 (e_v 3)) (e_v 2)))))⟩])
  (s_ret (e_k (.bl false))))
noncomputable def m__law_refused : FM := runDef 3 4 (b__law_refused)

abbrev s_law : Stmt := top 98
noncomputable def b_law : SM := (s_seq (s_for (i_rng1 (e_call (f2 max2D) (a_cons (e_k (.int 1)) (a_cons (e_call (f1 lenD) (a_cons (e_v 0) a_nil)) a_nil)))) (g_name 1) (s_seq (s_set 2 (e_fn tr0 m__law_pool (a_cons (e_v 0) (a_cons (e_v 1) a_nil))))
  (s_seq (s_set 3 (e_fn tr0 m__law_draw (a_cons (e_v 2) (a_cons (e_k (.int 14)) a_nil))))
  (s_seq (s_set 4 (e_fn tr0 m__law_draw (a_cons (e_v 2) (a_cons (e_k (.int 4)) a_nil))))
  (s_seq (s_set 5 (e_fn trunc m__law_build (a_cons (e_v 2) (a_cons (e_op addD (e_k (.int 4)) (e_op mulD (e_k (.int 4)) (e_fn tr0 m__law_draw (a_cons (e_v 2) (a_cons (e_k (.int 2)) a_nil))))) a_nil))))
  (s_seq (s_set 6 (e_fn trunc m__law_system (a_cons (e_v 5) a_nil)))
  (s_seq (s_set 7 (e_call (f1 sumD) (a_cons (e_lcG [8] (i_seq (e_op ixD (e_v 5) (e_k (.int 0)))) (g_name 8) t_yes (e_op ixD (e_v 8) (e_k (.int 3))) finL) a_nil)))
  (s_seq (s_set 9 (e_tup (a_cons (e_tup (a_cons (e_k (.str "no")) (a_cons (e_k (.str "no")) a_nil))) (a_cons (e_op ixD (e_v 5) (e_k (.int 1))) (a_cons (e_op ixD (e_v 5) (e_k (.int 3))) (a_cons (e_op mulTD (e_tup (a_cons (e_tup (a_cons (e_tup (a_cons (e_k (.int 0)) a_nil)) (a_cons (e_tup a_nil) (a_cons (e_tup a_nil) (a_cons (e_tup a_nil) a_nil))))) a_nil)) (e_v 7)) a_nil))))))
  (s_seq (s_for (i_seq (e_lst (a_cons (e_k (.str "gap")) (a_cons (e_k (.str "late")) (a_cons (e_k (.str "spread")) a_nil))))) (g_name 10) (s_if (t_or (t_b (e_op (eqD true) (e_fn trunc m_start (a_cons (e_v 6) (a_cons (e_v 10) a_nil))) (e_v 9))) (t_b (e_op (eqD true) (e_fn trunc m_steps (a_cons (e_v 6) (a_cons (e_v 10) (a_cons (e_tup (a_cons (e_k (.str "end")) a_nil)) a_nil)))) (e_lst a_nil)))) (s_ret (e_k (.bl false))) s_nil))
  (s_seq (s_set 11 (e_lst (a_cons (e_k .non) (a_cons (e_k (.int 0)) (a_cons (e_k (.str "")) (a_cons (e_k (.str "gaps")) (a_cons (e_k (.str "Gap")) (a_cons (e_k (.str "lat")) (a_cons (e_k (.str "spread ")) (a_cons (e_tup (a_cons (e_k (.str "gap")) a_nil)) (a_cons (e_lst (a_cons (e_k (.str "late")) a_nil)) (a_cons (e_k (.bl true)) (a_cons (e_k (.str "end")) (a_cons (e_k (.str "none")) (a_cons (e_k (.str "stop")) (a_cons (e_k (.int 1)) a_nil))))))))))))))))
  (s_if (t_not (t_v (e_fn tr0 m__law_refused (a_cons (e_v 6) (a_cons (e_v 4) (a_cons (e_op ixD (e_v 11) (e_v 3)) a_nil)))))) (s_ret (e_k (.bl false))) s_nil)))))))))))
  (s_ret (e_k (.bl true))))
noncomputable def m_law : FM := runDef 1 12 (b_law)

abbrev s_NoMeasure___init__ : Stmt := inClass (top 10) 0
abbrev s_explored : Stmt := top 54
abbrev s_reached : Stmt := top 52
end Mm
set_option maxRecDepth 100000
namespace Mm
open PySem L2
/-! words -/
@[simp] theorem w_take_commit : (("take" : Str) = "commit") = False := by simp only [eq_iff_iff, iff_false]; decide +kernel
@[simp] theorem w_take_rollback : (("take" : Str) = "rollback") = False := by simp only [eq_iff_iff, iff_false]; decide +kernel
@[simp] theorem w_take_drop : (("take" : Str) = "drop") = False := by simp only [eq_iff_iff, iff_false]; decide +kernel
@[simp] theorem w_take_leave : (("take" : Str) = "leave") = False := by simp only [eq_iff_iff, iff_false]; decide +kernel
@[simp] theorem w_take_lock : (("take" : Str) = "lock") = False := by simp only [eq_iff_iff, iff_false]; decide +kernel
@[simp] theorem w_take_unlock : (("take" : Str) = "unlock") = False := by simp only [eq_iff_iff, iff_false]; decide +kernel
@[simp] theorem w_take_choose : (("take" : Str) = "choose") = False := by simp only [eq_iff_iff, iff_false]; decide +kernel
@[simp] theorem w_take_crash : (("take" : Str) = "crash") = False := by simp only [eq_iff_iff, iff_false]; decide +kernel
@[simp] theorem w_commit_take : (("commit" : Str) = "take") = False := by simp only [eq_iff_iff, iff_false]; decide +kernel
@[simp] theorem w_commit_rollback : (("commit" : Str) = "rollback") = False := by simp only [eq_iff_iff, iff_false]; decide +kernel
@[simp] theorem w_commit_drop : (("commit" : Str) = "drop") = False := by simp only [eq_iff_iff, iff_false]; decide +kernel
@[simp] theorem w_commit_leave : (("commit" : Str) = "leave") = False := by simp only [eq_iff_iff, iff_false]; decide +kernel
@[simp] theorem w_commit_lock : (("commit" : Str) = "lock") = False := by simp only [eq_iff_iff, iff_false]; decide +kernel
@[simp] theorem w_commit_unlock : (("commit" : Str) = "unlock") = False := by simp only [eq_iff_iff, iff_false]; decide +kernel
@[simp] theorem w_commit_choose : (("commit" : Str) = "choose") = False := by simp only [eq_iff_iff, iff_false]; decide +kernel
@[simp] theorem w_commit_crash : (("commit" : Str) = "crash") = False := by simp only [eq_iff_iff, iff_false]; decide +kernel
@[simp] theorem w_rollback_take : (("rollback" : Str) = "take") = False := by simp only [eq_iff_iff, iff_false]; decide +kernel
@[simp] theorem w_rollback_commit : (("rollback" : Str) = "commit") = False := by simp only [eq_iff_iff, iff_false]; decide +kernel
@[simp] theorem w_rollback_drop : (("rollback" : Str) = "drop") = False := by simp only [eq_iff_iff, iff_false]; decide +kernel
@[simp] theorem w_rollback_leave : (("rollback" : Str) = "leave") = False := by simp only [eq_iff_iff, iff_false]; decide +kernel
@[simp] theorem w_rollback_lock : (("rollback" : Str) = "lock") = False := by simp only [eq_iff_iff, iff_false]; decide +kernel
@[simp] theorem w_rollback_unlock : (("rollback" : Str) = "unlock") = False := by simp only [eq_iff_iff, iff_false]; decide +kernel
@[simp] theorem w_rollback_choose : (("rollback" : Str) = "choose") = False := by simp only [eq_iff_iff, iff_false]; decide +kernel
@[simp] theorem w_rollback_crash : (("rollback" : Str) = "crash") = False := by simp only [eq_iff_iff, iff_false]; decide +kernel
@[simp] theorem w_drop_take : (("drop" : Str) = "take") = False := by simp only [eq_iff_iff, iff_false]; decide +kernel
@[simp] theorem w_drop_commit : (("drop" : Str) = "commit") = False := by simp only [eq_iff_iff, iff_false]; decide +kernel
@[simp] theorem w_drop_rollback : (("drop" : Str) = "rollback") = False := by simp only [eq_iff_iff, iff_false]; decide +kernel
@[simp] theorem w_drop_leave : (("drop" : Str) = "leave") = False := by simp only [eq_iff_iff, iff_false]; decide +kernel
@[simp] theorem w_drop_lock : (("drop" : Str) = "lock") = False := by simp only [eq_iff_iff, iff_false]; decide +kernel
@[simp] theorem w_drop_unlock : (("drop" : Str) = "unlock") = False := by simp only [eq_iff_iff, iff_false]; decide +kernel
@[simp] theorem w_drop_choose : (("drop" : Str) = "choose") = False := by simp only [eq_iff_iff, iff_false]; decide +kernel
@[simp] theorem w_drop_crash : (("drop" : Str) = "crash") = False := by simp only [eq_iff_iff, iff_false]; decide +kernel
@[simp] theorem w_leave_take : (("leave" : Str) = "take") = False := by simp only [eq_iff_iff, iff_false]; decide +kernel
@[simp] theorem w_leave_commit : (("leave" : Str) = "commit") = False := by simp only [eq_iff_iff, iff_false]; decide +kernel
@[simp] theorem w_leave_rollback : (("leave" : Str) = "rollback") = False := by simp only [eq_iff_iff, iff_false]; decide +kernel
@[simp] theorem w_leave_drop : (("leave" : Str) = "drop") = False := by simp only [eq_iff_iff, iff_false]; decide +kernel
@[simp] theorem w_leave_lock : (("leave" : Str) = "lock") = False := by simp only [eq_iff_iff, iff_false]; decide +kernel
@[simp] theorem w_leave_unlock : (("leave" : Str) = "unlock") = False := by simp only [eq_iff_iff, iff_false]; decide +kernel
@[simp] theorem w_leave_choose : (("leave" : Str) = "choose") = False := by simp only [eq_iff_iff, iff_false]; decide +kernel
@[simp] theorem w_leave_crash : (("leave" : Str) = "crash") = False := by simp only [eq_iff_iff, iff_false]; decide +kernel
@[simp] theorem w_lock_take : (("lock" : Str) = "take") = False := by simp only [eq_iff_iff, iff_false]; decide +kernel
@[simp] theorem w_lock_commit : (("lock" : Str) = "commit") = False := by simp only [eq_iff_iff, iff_false]; decide +kernel
@[simp] theorem w_lock_rollback : (("lock" : Str) = "rollback") = False := by simp only [eq_iff_iff, iff_false]; decide +kernel
@[simp] theorem w_lock_drop : (("lock" : Str) = "drop") = False := by simp only [eq_iff_iff, iff_false]; decide +kernel
@[simp] theorem w_lock_leave : (("lock" : Str) = "leave") = False := by simp only [eq_iff_iff, iff_false]; decide +kernel
@[simp] theorem w_lock_unlock : (("lock" : Str) = "unlock") = False := by simp only [eq_iff_iff, iff_false]; decide +kernel
@[simp] theorem w_lock_choose : (("lock" : Str) = "choose") = False := by simp only [eq_iff_iff, iff_false]; decide +kernel
@[simp] theorem w_lock_crash : (("lock" : Str) = "crash") = False := by simp only [eq_iff_iff, iff_false]; decide +kernel
@[simp] theorem w_unlock_take : (("unlock" : Str) = "take") = False := by simp only [eq_iff_iff, iff_false]; decide +kernel
@[simp] theorem w_unlock_commit : (("unlock" : Str) = "commit") = False := by simp only [eq_iff_iff, iff_false]; decide +kernel
@[simp] theorem w_unlock_rollback : (("unlock" : Str) = "rollback") = False := by simp only [eq_iff_iff, iff_false]; decide +kernel
@[simp] theorem w_unlock_drop : (("unlock" : Str) = "drop") = False := by simp only [eq_iff_iff, iff_false]; decide +kernel
@[simp] theorem w_unlock_leave : (("unlock" : Str) = "leave") = False := by simp only [eq_iff_iff, iff_false]; decide +kernel
@[simp] theorem w_unlock_lock : (("unlock" : Str) = "lock") = False := by simp only [eq_iff_iff, iff_false]; decide +kernel
@[simp] theorem w_unlock_choose : (("unlock" : Str) = "choose") = False := by simp only [eq_iff_iff, iff_false]; decide +kernel
@[simp] theorem w_unlock_crash : (("unlock" : Str) = "crash") = False := by simp only [eq_iff_iff, iff_false]; decide +kernel
@[simp] theorem w_choose_take : (("choose" : Str) = "take") = False := by simp only [eq_iff_iff, iff_false]; decide +kernel
@[simp] theorem w_choose_commit : (("choose" : Str) = "commit") = False := by simp only [eq_iff_iff, iff_false]; decide +kernel
@[simp] theorem w_choose_rollback : (("choose" : Str) = "rollback") = False := by simp only [eq_iff_iff, iff_false]; decide +kernel
@[simp] theorem w_choose_drop : (("choose" : Str) = "drop") = False := by simp only [eq_iff_iff, iff_false]; decide +kernel
@[simp] theorem w_choose_leave : (("choose" : Str) = "leave") = False := by simp only [eq_iff_iff, iff_false]; decide +kernel
@[simp] theorem w_choose_lock : (("choose" : Str) = "lock") = False := by simp only [eq_iff_iff, iff_false]; decide +kernel
@[simp] theorem w_choose_unlock : (("choose" : Str) = "unlock") = False := by simp only [eq_iff_iff, iff_false]; decide +kernel
@[simp] theorem w_choose_crash : (("choose" : Str) = "crash") = False := by simp only [eq_iff_iff, iff_false]; decide +kernel
@[simp] theorem w_crash_take : (("crash" : Str) = "take") = False := by simp only [eq_iff_iff, iff_false]; decide +kernel
@[simp] theorem w_crash_commit : (("crash" : Str) = "commit") = False := by simp only [eq_iff_iff, iff_false]; decide +kernel
@[simp] theorem w_crash_rollback : (("crash" : Str) = "rollback") = False := by simp only [eq_iff_iff, iff_false]; decide +kernel
@[simp] theorem w_crash_drop : (("crash" : Str) = "drop") = False := by simp only [eq_iff_iff, iff_false]; decide +kernel
@[simp] theorem w_crash_leave : (("crash" : Str) = "leave") = False := by simp only [eq_iff_iff, iff_false]; decide +kernel
@[simp] theorem w_crash_lock : (("crash" : Str) = "lock") = False := by simp only [eq_iff_iff, iff_false]; decide +kernel
@[simp] theorem w_crash_unlock : (("crash" : Str) = "unlock") = False := by simp only [eq_iff_iff, iff_false]; decide +kernel
@[simp] theorem w_crash_choose : (("crash" : Str) = "choose") = False := by simp only [eq_iff_iff, iff_false]; decide +kernel
@[simp] theorem it_take : items.lookup ("take" : Str) = some 1 := by decide +kernel
@[simp] theorem it_commit : items.lookup ("commit" : Str) = some 1 := by decide +kernel
@[simp] theorem it_rollback : items.lookup ("rollback" : Str) = some 1 := by decide +kernel
@[simp] theorem it_drop : items.lookup ("drop" : Str) = some 1 := by decide +kernel
@[simp] theorem it_leave : items.lookup ("leave" : Str) = some 1 := by decide +kernel
@[simp] theorem it_lock : items.lookup ("lock" : Str) = some 2 := by decide +kernel
@[simp] theorem it_unlock : items.lookup ("unlock" : Str) = some 2 := by decide +kernel
@[simp] theorem it_choose : items.lookup ("choose" : Str) = some 3 := by decide +kernel

theorem kitbs : kitB "int" "int" = some true ∧ kitB "int" "bool" = some false ∧ kitB "str" "str" = some true ∧ kitB "tuple" "tuple" = some true ∧ kitB "list" "list" = some true ∧ kitB "NoneType" "tuple" = some false := by decide +kernel
@[simp] theorem kb1 : ktB "int" (.inl "int") = some true := kitbs.1
@[simp] theorem kb2 : ktB "bool" (.inl "int") = some false := kitbs.2.1
@[simp] theorem kb3 : ktB "str" (.inl "str") = some true := kitbs.2.2.1
@[simp] theorem kb4 : ktB "tuple" (.inl "tuple") = some true := kitbs.2.2.2.1
@[simp] theorem kb5 : ktB "list" (.inl "list") = some true := kitbs.2.2.2.2.1
/-! loops over what does not stand in the store -/
@[simp] theorem loopS_nil (g : GM) (b : SM) (env : Env) (S : Sto) : loopS g b none [] env S = .next env S := by unfold loopS; simp
open Classical in
@[simp] theorem loopS_cons (g : GM) (b : SM) (d : D) (r : List D) (env : Env) (S : Sto) : loopS g b none (d :: r) env S = match g d env with
    | none => .bad
    | some env1 => match b env1 S with
      | .next env2 S2 => loopS g b none r env2 S2
      | .cnt env2 S2 => loopS g b none r env2 S2
      | .brk env2 S2 => .next env2 S2
      | x => x := by
  conv => lhs; unfold loopS
  rw [RS.if_pos (stay_none S [])] <;>
  (cases g d env with
  | none => rfl
  | some env1 => cases hb : b env1 S <;> simp only [hb])
@[simp] theorem lcM_nil (g : GM) (t : TM) (m : EM) (env : Env) (acc : List D) (S : Sto) : lcM g t m env none [] acc S = .ok acc S := by unfold lcM; simp
open Classical in
@[simp] theorem lcM_cons (g : GM) (t : TM) (m : EM) (env : Env) (d : D) (r acc : List D) (S : Sto) : lcM g t m env none (d :: r) acc S = match g d env with
    | none => .bad
    | some env1 => (t env1 S).nox.bind fun k S1 => if k = true then (m env1 S1).nox.bind fun y S2 => .if (acc.length < sizeLine) (lcM g t m env none r (acc ++ [y]) S2) else lcM g t m env none r acc S1 := by
  conv => lhs; unfold lcM
  rw [R.if_pos (stay_none S [])] <;> (cases g d env <;> rfl)
@[simp] theorem stay_iff (S : Sto) (xs ds : List D) (k : Nat) : Stay S (xs, some (k, ds)) ↔ S[k]? = some (.lst ds) := ⟨fun h => h k ds rfl, fun h j es e => by cases e; exact h⟩
/-! small defs -/
@[simp] theorem is_integer_i (i : Int) (S : Sto) : m_is_integer [.int i] S = .ok (.bl true) S := by
  unfold m_is_integer; rw [runDef_eq (by rfl)]; unfold b_is_integer; simp [isiD]
@[simp] theorem is_within_i (i lo hi : Int) (S : Sto) : m_is_within [.int i, .int lo, .int hi] S = .ok (.bl (decide (lo ≤ i) && decide (i ≤ hi))) S := by
  unfold m_is_within; rw [runDef_eq (by rfl)]; unfold b_is_within; simp
  by_cases h : lo ≤ i <;> simp [h]
@[simp] theorem has_form_1 (x : Str) (h : items.lookup x = some 1) (S : Sto) : m_has_form [.tup [.str x]] S = .ok (.bl true) S := by
  unfold m_has_form; rw [runDef_eq (by rfl)]; unfold b_has_form
  have hc : (x = "choose") = False := by
    simp only [eq_iff_iff, iff_false]; rintro rfl; simp at h
  simp [isiD, h, hc]
@[simp] theorem has_form_c (a b : List D) (S : Sto) : m_has_form [.tup [.str "choose", .tup a, .tup b]] S = .ok (.bl true) S := by
  unfold m_has_form; rw [runDef_eq (by rfl)]; unfold b_has_form
  simp [isiD]
end Mm
namespace Tk
open PySem L2
abbrev Pl := List Int
mutual
/-- the statements at and below the place p, in reading order -/
def Stm.walk : Stm → Pl → List (Pl × Stm)
  | .one w, p => [(p, .one w)]
  | .nam b n, p => [(p, .nam b n)]
  | .ch y n, p => (p, .ch y n) :: (walkAll y (p ++ [0]) 0 ++ walkAll n (p ++ [1]) 0)
def walkAll : List Stm → Pl → Nat → List (Pl × Stm)
  | [], _, _ => []
  | s :: r, p, i => s.walk (p ++ [(i : Int)]) ++ walkAll r p (i + 1)
end
def lk : List (Pl × Stm) → Pl → Option Stm
  | [], _ => none
  | (p, s) :: r, k => if p = k then some s else lk r k
theorem lk_app (k : Pl) : ∀ a b : List (Pl × Stm), lk (a ++ b) k = (lk a k).or (lk b k)
  | [], b => rfl
  | (p, s) :: r, b => by
    show (if p = k then some s else lk (r ++ b) k) = (if p = k then some s else lk r k).or (lk b k)
    by_cases h : p = k
    · rw [if_pos h, if_pos h]; rfl
    · rw [if_neg h, if_neg h, lk_app k r b]
def nth (B : List Stm) (j : Int) : Option Stm := if 0 ≤ j then B[j.toNat]? else none
def sub : Stm → Pl → Option Stm
  | s, [] => some s
  | .ch y n, a :: j :: q => if a = 0 then (nth y j).bind fun t => sub t q else if a = 1 then (nth n j).bind fun t => sub t q else none
  | _, _ => none
def look : List Stm → Pl → Option Stm
  | B, [] => none
  | B, j :: q => (nth B j).bind fun s => sub s q
theorem pre_ne {p q : Pl} {a b : Int} (h : a ≠ b) : ∀ r : Pl, p ++ a :: q ≠ (p ++ [b]) ++ r := fun r e => by
  rw [List.append_assoc] at e
  have := List.append_cancel_left e
  simp at this
  exact h this.1
mutual
theorem walk_none : ∀ (s : Stm) (p k : Pl), (∀ q, k ≠ p ++ q) → lk (s.walk p) k = none
  | .one w, p, k, h => by
    rw [Stm.walk, lk, if_neg (fun e => h [] (by rw [← e]; simp)), lk]
  | .nam b n, p, k, h => by
    rw [Stm.walk, lk, if_neg (fun e => h [] (by rw [← e]; simp)), lk]
  | .ch y n, p, k, h => by
    rw [Stm.walk, lk, if_neg (fun e => h [] (by rw [← e]; simp)), lk_app, walkAll_none y (p ++ [0]) 0 k (fun j q e => h (0 :: j :: q) (by rw [e]; simp)), walkAll_none n (p ++ [1]) 0 k (fun j q e => h (1 :: j :: q) (by rw [e]; simp))]
    rfl
theorem walkAll_none : ∀ (B : List Stm) (p : Pl) (i : Nat) (k : Pl), (∀ j q, k ≠ p ++ j :: q) → lk (walkAll B p i) k = none
  | [], p, i, k, h => by rw [walkAll, lk]
  | s :: r, p, i, k, h => by
    rw [walkAll, lk_app, walk_none s (p ++ [(i : Int)]) k (fun q e => h i q (by rw [e]; simp)), walkAll_none r p (i + 1) k h]
    rfl
end
theorem nth_nil (j : Int) : nth [] j = none := by
  unfold nth
  by_cases h : 0 ≤ j
  · rw [if_pos h]; rfl
  · rw [if_neg h]
theorem nth_succ (s : Stm) (r : List Stm) (j : Int) (h : j ≠ 0) : nth (s :: r) j = nth r (j - 1) := by
  unfold nth
  by_cases h0 : 0 ≤ j
  · rw [if_pos h0, if_pos (by omega)]
    have e : j.toNat = (j - 1).toNat + 1 := by omega
    rw [e, List.getElem?_cons_succ]
  · rw [if_neg h0, if_neg (by omega)]
mutual
theorem walk_lk : ∀ (s : Stm) (p q : Pl), lk (s.walk p) (p ++ q) = sub s q
  | .one w, p, [] => by rw [Stm.walk, lk, if_pos (by simp), sub]
  | .one w, p, a :: q => by
    rw [Stm.walk, lk, if_neg (fun e => by have := congrArg List.length e; simp at this), lk]
    cases q <;> rfl
  | .nam b n, p, [] => by rw [Stm.walk, lk, if_pos (by simp), sub]
  | .nam b n, p, a :: q => by
    rw [Stm.walk, lk, if_neg (fun e => by have := congrArg List.length e; simp at this), lk]
    cases q <;> rfl
  | .ch y n, p, [] => by rw [Stm.walk, lk, if_pos (by simp), sub]
  | .ch y n, p, [a] => by
    rw [Stm.walk, lk, if_neg (fun e => by have := congrArg List.length e; simp at this), lk_app, walkAll_none, walkAll_none]
    · rfl
    · intro j q e; have := congrArg List.length e; simp at this
    · intro j q e; have := congrArg List.length e; simp at this
  | .ch y n, p, a :: j :: q => by
    rw [Stm.walk, lk, if_neg (fun e => by have := congrArg List.length e; simp at this), lk_app, sub]
    by_cases h0 : a = 0
    · subst h0
      rw [if_pos rfl]
      have e : p ++ (0 : Int) :: j :: q = (p ++ [0]) ++ j :: q := by simp
      have z : lk (walkAll n (p ++ [1]) 0) (p ++ (0 : Int) :: j :: q) = none := walkAll_none n (p ++ [1]) 0 _ (fun j' q' => pre_ne (by decide) _)
      rw [z, e, walkAll_lk y (p ++ [0]) 0 j q]
      simp
    · rw [if_neg h0]
      have z : lk (walkAll y (p ++ [0]) 0) (p ++ a :: j :: q) = none := walkAll_none y (p ++ [0]) 0 _ (fun j' q' => pre_ne h0 _)
      rw [z]
      by_cases h1 : a = 1
      · subst h1
        rw [if_pos rfl]
        have e : p ++ (1 : Int) :: j :: q = (p ++ [1]) ++ j :: q := by simp
        rw [e, walkAll_lk n (p ++ [1]) 0 j q]
        simp
      · rw [if_neg h1]
        have z2 : lk (walkAll n (p ++ [1]) 0) (p ++ a :: j :: q) = none := walkAll_none n (p ++ [1]) 0 _ (fun j' q' => pre_ne h1 _)
        rw [z2]; rfl
theorem walkAll_lk : ∀ (B : List Stm) (p : Pl) (i : Nat) (j : Int) (q : Pl), lk (walkAll B p i) (p ++ j :: q) = (nth B (j - i)).bind fun s => sub s q
  | [], p, i, j, q => by rw [walkAll, lk, nth_nil]; rfl
  | s :: r, p, i, j, q => by
    rw [walkAll, lk_app]
    by_cases h : j = i
    · subst h
      have e : p ++ (i : Int) :: q = (p ++ [(i : Int)]) ++ q := by simp
      have z : lk (walkAll r p (i + 1)) (p ++ (i : Int) :: q) = none ∨ True := .inr trivial
      rw [e, walk_lk s (p ++ [(i : Int)]) q, ← e, walkAll_lk r p (i + 1) i q]
      have e1 : nth (s :: r) ((i : Int) - i) = some s := by rw [Int.sub_self]; rfl
      have e2 : nth r ((i : Int) - ((i + 1 : Nat) : Int)) = none := by unfold nth; rw [if_neg (by omega)]
      rw [e1, e2]
      simp
    · have z : lk (s.walk (p ++ [(i : Int)])) (p ++ j :: q) = none := walk_none s _ _ (fun q' => pre_ne h _)
      rw [z, walkAll_lk r p (i + 1) j q, nth_succ s r (j - i) (by omega)]
      have e : j - ((i + 1 : Nat) : Int) = j - i - 1 := by omega
      rw [e]; rfl
end
mutual
theorem walk_len : ∀ (s : Stm) (p : Pl), (s.walk p).length = s.cnt
  | .one w, p => by rw [Stm.walk, Stm.cnt]; rfl
  | .nam b n, p => by rw [Stm.walk, Stm.cnt]; rfl
  | .ch y n, p => by
    rw [Stm.walk, Stm.cnt, List.length_cons, List.length_append, walkAll_len y, walkAll_len n]; omega
theorem walkAll_len : ∀ (B : List Stm) (p : Pl) (i : Nat), (walkAll B p i).length = cntAll B
  | [], p, i => by rw [walkAll, cntAll]; rfl
  | s :: r, p, i => by rw [walkAll, cntAll, List.length_append, walk_len s, walkAll_len r]
end
/-! ## the found statements as a dict -/
def key (p : Pl) : List Key := p.map Sum.inl
theorem key_inj : ∀ {p q : Pl}, key p = key q → p = q
  | [], [], _ => rfl
  | [], _ :: _, h => by cases h
  | _ :: _, [], h => by cases h
  | a :: p, b :: q, h => by
    have h' : Sum.inl a :: key p = Sum.inl b :: key q := h
    injection h' with h1 h2
    injection h1 with h1
    rw [h1, key_inj h2]
def FRel (H : Hp) : List (List Key × V) → List (Pl × Stm) → Prop
  | [], [] => True
  | (k, v) :: r, (p, s) :: r' => k = key p ∧ s.at H v ∧ FRel H r r'
  | _, _ => False
theorem FRel.len {H : Hp} : ∀ {a : List (List Key × V)} {b : List (Pl × Stm)}, FRel H a b → a.length = b.length
  | [], [], _ => rfl
  | _ :: _, _ :: _, h => by rw [List.length_cons, List.length_cons, FRel.len h.2.2]
  | [], _ :: _, h => h.elim
  | _ :: _, [], h => h.elim
theorem FRel.keep {H H' : Hp} (k : TK H H') : ∀ {a : List (List Key × V)} {b : List (Pl × Stm)}, FRel H a b → FRel H' a b
  | [], [], _ => trivial
  | _ :: _, _ :: _, h => ⟨h.1, Stm.at_keep k _ _ h.2.1, FRel.keep k h.2.2⟩
  | [], _ :: _, h => h.elim
  | _ :: _, [], h => h.elim
theorem FRel.val {H : Hp} (p : Pl) : ∀ {a : List (List Key × V)} {b : List (Pl × Stm)}, FRel H a b → (lk b p = none → valV a (key p) = none) ∧ (∀ s, lk b p = some s → ∃ v, valV a (key p) = some v ∧ s.at H v)
  | [], [], _ => ⟨fun _ => rfl, fun s e => by cases e⟩
  | (k, v) :: r, (q, s) :: r', h => by
    obtain ⟨rfl, h1, h2⟩ := h
    by_cases e : q = p
    · subst e
      rw [lk, if_pos rfl, valV_pos (p := (key q, v)) rfl]
      exact ⟨(fun z => nomatch z), fun t z => ⟨v, rfl, Option.some.inj z ▸ h1⟩⟩
    · rw [lk, if_neg e, valV_neg (p := (key q, v)) (fun z => e (key_inj z))]
      exact FRel.val p h2
  | [], _ :: _, h => h.elim
  | _ :: _, [], h => h.elim
end Tk
namespace Tk
open PySem L2
def br (a : Int) (y n : List Stm) : List Stm := if a = 0 then y else n
/-- R is what follows the statement at p, to the end of the script -/
inductive After : List Stm → Pl → List Stm → Prop
  | here (B : List Stm) (i : Nat) : i < B.length → After B [(i : Int)] (B.drop (i + 1))
  | inn (B : List Stm) (i : Nat) (a : Int) (y n : List Stm) (q : Pl) (R : List Stm) : B[i]? = some (.ch y n) → (a = 0 ∨ a = 1) → After (br a y n) q R → After B ((i : Int) :: a :: q) (R ++ B.drop (i + 1))
theorem nth_nat (B : List Stm) (i : Nat) : nth B (i : Int) = B[i]? := by
  unfold nth
  rw [if_pos (by omega), Int.toNat_natCast]
theorem After.ne {B : List Stm} {p : Pl} {R : List Stm} (h : After B p R) : p ≠ [] := by cases h <;> simp
theorem look_in {B : List Stm} {i : Nat} {a : Int} {y n : List Stm} {q : Pl} (h : B[i]? = some (.ch y n)) (ha : a = 0 ∨ a = 1) (hq : q ≠ []) : look B ((i : Int) :: a :: q) = look (br a y n) q := by
  cases q with
  | nil => exact absurd rfl hq
  | cons j r =>
    rw [look, nth_nat, h]
    show sub (.ch y n) (a :: j :: r) = _
    rw [sub, look]
    rcases ha with rfl | rfl
    · rw [if_pos rfl]; rfl
    · rw [if_neg (by decide), if_pos rfl]; rfl
theorem look_one (B : List Stm) (i : Nat) : look B [(i : Int)] = B[i]? := by
  rw [look, nth_nat]
  cases B[i]? <;> rfl
theorem After.step {S : List Stm} {p : Pl} {R : List Stm} (h : After S p R) : ∃ q j, p = q ++ [j] ∧
    ((∃ s R', look S (q ++ [j + 1]) = some s ∧ R = s :: R' ∧ After S (q ++ [j + 1]) R') ∨
     (look S (q ++ [j + 1]) = none ∧ ((q = [] ∧ R = []) ∨ ∃ q' a, q = q' ++ [a] ∧ q' ≠ [] ∧ After S q' R))) := by
  induction h with
  | here B i hi =>
    refine ⟨[], (i : Int), rfl, ?_⟩
    have e : ([] : Pl) ++ [(i : Int) + 1] = [((i + 1 : Nat) : Int)] := by simp
    rw [e, look_one]
    cases g : B[i + 1]? with
    | none =>
      refine .inr ⟨rfl, .inl ⟨rfl, ?_⟩⟩
      rw [List.drop_eq_nil_of_le]
      exact List.getElem?_eq_none_iff.mp g
    | some s =>
      obtain ⟨lt, e1⟩ := List.getElem?_eq_some_iff.mp g
      exact .inl ⟨s, B.drop (i + 1 + 1), rfl, by rw [List.drop_eq_getElem_cons lt, e1], .here B (i + 1) lt⟩
  | inn B i a y n q R hb ha hq ih =>
    obtain ⟨q0, j, e, ih⟩ := ih
    refine ⟨(i : Int) :: a :: q0, j, by rw [e]; rfl, ?_⟩
    have le : look B (((i : Int) :: a :: q0) ++ [j + 1]) = look (br a y n) (q0 ++ [j + 1]) := look_in hb ha (by simp)
    rw [le]
    rcases ih with ⟨s, R', l, eR, af⟩ | ⟨l, ⟨rfl, eR⟩ | ⟨q', a', eq, nq, af⟩⟩
    · exact .inl ⟨s, R' ++ B.drop (i + 1), l, by rw [eR]; rfl, .inn B i a y n _ R' hb ha af⟩
    · refine .inr ⟨l, .inr ⟨[(i : Int)], a, rfl, by simp, ?_⟩⟩
      rw [eR]
      exact .here B i (List.getElem?_eq_some_iff.mp hb).1
    · refine .inr ⟨l, .inr ⟨(i : Int) :: a :: q', a', by rw [eq]; rfl, by simp, ?_⟩⟩
      exact .inn B i a y n q' R hb ha af
theorem After.first {S : List Stm} (h : S ≠ []) : look S [0] = S[0]? ∧ After S [0] (S.drop 1) :=
  ⟨look_one S 0, .here S 0 (List.length_pos_iff.mpr h)⟩
theorem okAll_get : ∀ {d : Nat} {B : List Stm} {h : Int} {i : Nat} {s : Stm}, okAll d B h → B[i]? = some s → ∃ h', s.ok d h'
  | d, [], h, i, s, _, e => by simp at e
  | d, t :: r, h, 0, s, g, e => by
    rw [okAll] at g
    have e' : t = s := Option.some.inj e
    exact ⟨h, e' ▸ g.1⟩
  | d, t :: r, h, i + 1, s, g, e => by
    rw [okAll] at g
    exact okAll_get g.2 (i := i) (s := s) e
theorem After.len {S : List Stm} {p : Pl} {R : List Stm} (h : After S p R) : ∀ (d : Nat) (k : Int), okAll d S k → d ≤ 2 → p.length + 2 * d ≤ 5 := by
  induction h with
  | here B i hi => intro d k _ hd; show 1 + 2 * d ≤ 5; omega
  | inn B i a y n q R hb ha hq ih =>
    intro d k g hd
    obtain ⟨h', o⟩ := okAll_get g hb
    rw [Stm.ok] at o
    have z : q.length + 2 * (d + 1) ≤ 5 := by
      rcases ha with rfl | rfl
      · exact ih (d + 1) h' o.2.1 (by omega)
      · exact ih (d + 1) h' o.2.2 (by omega)
    show q.length + 1 + 1 + 2 * d ≤ 5
    omega
/-! ## greater places -/
def Gt (x y : Pl) : Prop := (∃ q i j r s, x = q ++ i :: r ∧ y = q ++ j :: s ∧ j < i) ∨ ∃ c, x = y ++ c ∧ c ≠ []
end Tk
set_option maxRecDepth 100000
namespace Mm
open PySem L2
/-! places behind a store -/
@[simp] theorem ga0 (S l : Sto) : (S ++ l)[S.length]? = l[0]? := by rw [List.getElem?_append_right (Nat.le_refl _), Nat.sub_self]
@[simp] theorem gak (S l : Sto) (k : Nat) : (S ++ l)[S.length + k]? = l[k]? := by rw [List.getElem?_append_right (by omega)]; congr 1; omega
@[simp] theorem sa0 (S l : Sto) (o : SO) : (S ++ l).set S.length o = S ++ l.set 0 o := by rw [List.set_append_right _ _ (Nat.le_refl _), Nat.sub_self]
@[simp] theorem sak (S l : Sto) (k : Nat) (o : SO) : (S ++ l).set (S.length + k) o = S ++ l.set k o := by rw [List.set_append_right _ _ (by omega)]; congr 2; omega
open Classical in
theorem tr_app (S l : Sto) : Tr S.length S (S ++ l) := fun k hk => .inl (List.getElem?_append_left hk)
open Classical in
@[simp] theorem trunc_app (S l : Sto) (d : D) : trunc S (.ok d (S ++ l)) = .ofO (rsvD S.length (S ++ l) d) S := by
  unfold trunc
  dsimp only
  rw [R.if_pos (tr_app S l)]
  simp
open Classical in
@[simp] theorem trunc_self (S : Sto) (d : D) : trunc S (.ok d S) = .ofO (rsvD S.length S d) S := by
  have := trunc_app S [] d
  simpa using this
@[simp] theorem lenD_ttp (ds : List D) (S : Sto) : lenD (.ttp ds) S = .ok (.int ds.length) S := rfl
open Classical in
@[simp] theorem isI_iff (k j : Nat) (S : Sto) : isI k (.loc j) S ↔ ∃ ds, S[j]? = some (.ins k ds) := by
  unfold isI
  simp only [insOf_loc']
  constructor
  · rintro ⟨ds, h⟩
    cases ho : S[j]? with
    | none => rw [ho] at h; cases h
    | some o => cases o with
      | ins c es => rw [ho] at h; simp at h; exact ⟨es, by rw [h.1]⟩
      | _ => rw [ho] at h; cases h
  · rintro ⟨ds, h⟩
    exact ⟨ds, by rw [h]⟩
@[simp] theorem isI_ob (k j : Nat) (ds : List D) (S : Sto) : isI k (.obj j ds) S ↔ j = k := ⟨fun ⟨es, h⟩ => by cases h; rfl, fun h => ⟨ds, by rw [h]; rfl⟩⟩
open Classical in
@[simp] theorem e_mth_eq' (tr : TrF) (k : Nat) (m : FM) (mo : EM) (am : AM) (env : Env) (S : Sto) : e_mth tr k m mo am env S = (mo env S).bind fun d S1 => .if (isI k d S1) ((am env S1).bind fun ds S2 => tr S2 (m (d :: ds) S2)) := rfl
open Classical in
@[simp] theorem e_own2_eq' (tr : TrF) (k : Nat) (m : FM) (ma mb : EM) (env : Env) (S : Sto) : e_own2 tr k m ma mb env S = (ma env S).bind fun x S1 => (mb env S1).bind fun y S2 => .if (isI k x S2) (tr S2 (m [x, y] S2)) := rfl
open Classical in
@[simp] theorem e_ownIn_eq' (tr : TrF) (neg : Bool) (k : Nat) (m : FM) (ma mb : EM) (env : Env) (S : Sto) : e_ownIn tr neg k m ma mb env S = (ma env S).bind fun y S1 => (mb env S1).bind fun x S2 => .if (isI k x S2) ((tr S2 (m [x, y] S2)).nox.bind fun d S3 => match d with
  | .bl b => .ok (.bl (neg ^^ b)) S3
  | _ => .bad) := rfl
@[simp] theorem e_mk_eq' (tr : TrF) (k : Nat) (m : FM) (am : AM) (env : Env) (S : Sto) : e_mk tr k m am env S = (am env S).bind fun ds S1 => tr S1 (mkD k m ds S1) := rfl
@[simp] theorem i_enum_eq (m : EM) (env : Env) (S : Sto) : i_enum m env S = (m env S).bind fun d S1 => (R.ofO (itsOf S1 d) S1).bind fun it S2 => .ok (numD 0 it.1, it.2) S2 := rfl
@[simp] theorem i_rng1_eq (m : EM) (env : Env) (S : Sto) : i_rng1 m env S = (m env S).bind fun d S1 => match d with
  | .int j => .if (-(2 ^ 62) ≤ j ∧ j < 2 ^ 62) (.ok (rngD 0 j.toNat, none) S1)
  | _ => .bad := rfl
@[simp] theorem i_rng2_eq (m m2 : EM) (env : Env) (S : Sto) : i_rng2 m m2 env S = (m env S).bind fun d S1 => (m2 env S1).bind fun e S2 => match d, e with
  | .int i, .int j => .if (-(2 ^ 62) ≤ i ∧ i < 2 ^ 62 ∧ -(2 ^ 62) ≤ j ∧ j < 2 ^ 62) (.ok (rngD i (j - i).toNat, none) S2)
  | _, _ => .bad := rfl
@[simp] theorem numD_nil (i : Nat) : numD i [] = [] := rfl
@[simp] theorem numD_cons (i : Nat) (d : D) (r : List D) : numD i (d :: r) = .tup [.int i, d] :: numD (i + 1) r := rfl
@[simp] theorem g_tup_eq (gs : GMs) (ds : List D) (env : Env) : g_tup gs (.tup ds) env = gs ds env := rfl
@[simp] theorem g_cons_eq (g : GM) (gs : GMs) (d : D) (r : List D) (env : Env) : g_cons g gs (d :: r) env = (g d env).bind fun env1 => gs r env1 := rfl
@[simp] theorem g_nil_eq (env : Env) : g_nil [] env = some env := rfl
@[simp] theorem isNon_non : isNon .non = true := rfl
@[simp] theorem isNon_int (i : Int) : isNon (.int i) = false := rfl
@[simp] theorem isNon_str (i : Str) : isNon (.str i) = false := rfl
@[simp] theorem isNon_tup (i : List D) : isNon (.tup i) = false := rfl
@[simp] theorem isNon_obj (k : Nat) (i : List D) : isNon (.obj k i) = false := rfl
@[simp] theorem isNon_loc (k : Nat) : isNon (.loc k) = false := rfl
@[simp] theorem nlt (n k : Nat) : (n + k < n) = False := by simp
theorem mCC_s (n : Nat) : mCC (n + 1) = (m_Check_check_branch' (mCC n).2, m_Check_check_statement' (mCC n).1) := rfl
theorem cdiv2 (k : Nat) : CDiv ((k : Nat) : Int) 2 := by unfold CDiv; omega
@[simp] theorem unK_int (i : Int) : unK (.int i) = some (.inl i) := rfl
@[simp] theorem unK_str (i : Str) : unK (.str i) = some (.inr i) := rfl
@[simp] theorem unK_non : unK .non = none := rfl
@[simp] theorem unR_ttp (ds : List D) : unR (.ttp ds) = allO unK ds := rfl
@[simp] theorem unT_tup (ds : List D) : unT (.tup ds) = allO unK ds := rfl
@[simp] theorem kkO_cons (d : D) (r : List D) : kkO (d :: r) = (unK d).bind fun x => (kkO r).map fun y => x :: y := rfl
@[simp] theorem kkO_nil : kkO [] = some [] := rfl
@[simp] theorem ktO_non (r : List D) : ktO (.non :: r) = allO unT r := rfl
@[simp] theorem keyD_i (i : Int) : keyD (.inl i) = .int i := rfl
@[simp] theorem keyD_s (i : Str) : keyD (.inr i) = .str i := rfl
theorem szb : 1000 < sizeLine := by decide
@[simp] theorem szp0 : (0 < sizeLine) = True := eq_true (by have := szb; omega)
@[simp] theorem szq0 : (0 ≤ sizeLine) = True := eq_true (by have := szb; omega)
@[simp] theorem szp1 : (1 < sizeLine) = True := eq_true (by have := szb; omega)
@[simp] theorem szq1 : (1 ≤ sizeLine) = True := eq_true (by have := szb; omega)
@[simp] theorem szp2 : (2 < sizeLine) = True := eq_true (by have := szb; omega)
@[simp] theorem szq2 : (2 ≤ sizeLine) = True := eq_true (by have := szb; omega)
@[simp] theorem szp3 : (3 < sizeLine) = True := eq_true (by have := szb; omega)
@[simp] theorem szq3 : (3 ≤ sizeLine) = True := eq_true (by have := szb; omega)
@[simp] theorem szp4 : (4 < sizeLine) = True := eq_true (by have := szb; omega)
@[simp] theorem szq4 : (4 ≤ sizeLine) = True := eq_true (by have := szb; omega)
@[simp] theorem szp5 : (5 < sizeLine) = True := eq_true (by have := szb; omega)
@[simp] theorem szq5 : (5 ≤ sizeLine) = True := eq_true (by have := szb; omega)
@[simp] theorem szp6 : (6 < sizeLine) = True := eq_true (by have := szb; omega)
@[simp] theorem szq6 : (6 ≤ sizeLine) = True := eq_true (by have := szb; omega)
@[simp] theorem szp7 : (7 < sizeLine) = True := eq_true (by have := szb; omega)
@[simp] theorem szq7 : (7 ≤ sizeLine) = True := eq_true (by have := szb; omega)
@[simp] theorem szp8 : (8 < sizeLine) = True := eq_true (by have := szb; omega)
@[simp] theorem szq8 : (8 ≤ sizeLine) = True := eq_true (by have := szb; omega)
@[simp] theorem szp9 : (9 < sizeLine) = True := eq_true (by have := szb; omega)
@[simp] theorem szq9 : (9 ≤ sizeLine) = True := eq_true (by have := szb; omega)
@[simp] theorem szp10 : (10 < sizeLine) = True := eq_true (by have := szb; omega)
@[simp] theorem szq10 : (10 ≤ sizeLine) = True := eq_true (by have := szb; omega)
@[simp] theorem szp11 : (11 < sizeLine) = True := eq_true (by have := szb; omega)
@[simp] theorem szq11 : (11 ≤ sizeLine) = True := eq_true (by have := szb; omega)
@[simp] theorem szp12 : (12 < sizeLine) = True := eq_true (by have := szb; omega)
@[simp] theorem szq12 : (12 ≤ sizeLine) = True := eq_true (by have := szb; omega)
@[simp] theorem szp13 : (13 < sizeLine) = True := eq_true (by have := szb; omega)
@[simp] theorem szq13 : (13 ≤ sizeLine) = True := eq_true (by have := szb; omega)
theorem dlen_loc (S : Sto) (k : Nat) : dlenD (.loc k) S = .ofO ((dicOf S (.loc k)).map fun p => D.int p.2.length) S := rfl
theorem dlist_loc (S : Sto) (k : Nat) : dlistD (.loc k) S = .ofO (((dicOf S (.loc k)).bind fun p => keysO p.1).map D.lst) S := rfl
@[simp] theorem e_neg_eq (m : EM) (env : Env) (S : Sto) : e_neg m env S = (m env S).bind negD := rfl
section
variable {α : Type} (g : GM) (t : TM) (im : IM) (g1 : GM) (t1 : TM) (add : AddM α) (vs : List Nat) (env : Env) (so : Option (Nat × List D)) (d : D) (r : List D) (acc : α) (S : Sto)
open Classical in
@[simp] theorem inM_nil : inM g t add env none [] acc S = .ok acc S := by
  unfold inM
  exact R.if_pos (stay_none S [])
open Classical in
@[simp] theorem inM_cons : inM g t add env none (d :: r) acc S = match g d env with
    | none => .bad
    | some env1 => (t env1 S).nox.bind fun k S1 => if k = true then (add acc env1 S1).nox.bind fun acc1 S2 => inM g t add env none r acc1 S2 else inM g t add env none r acc S1 := by
  conv => lhs; unfold inM
  rw [R.if_pos (stay_none S [])] <;> (cases g d env <;> rfl)
open Classical in
theorem outM_nil (h : Stay S ([], so)) : outM g t im g1 t1 add vs env so [] acc S = .ok acc S := by
  unfold outM
  exact R.if_pos h
open Classical in
theorem outM_cons (h : Stay S ([], so)) : outM g t im g1 t1 add vs env so (d :: r) acc S = match g d env with
    | none => .bad
    | some env1 => (t env1 S).nox.bind fun k S1 => if k = true then (im env1 S1).nox.bind fun it S2 => (inM g1 t1 add (wipeE env1 vs) it.2 it.1 acc S2).nox.bind fun acc1 S3 => outM g t im g1 t1 add vs env so r acc1 S3 else outM g t im g1 t1 add vs env so r acc S1 := by
  conv => lhs; unfold outM
  rw [R.if_pos h] <;> (cases g d env <;> rfl)
end
@[simp] theorem s_fldaug_eq (k i : Nat) (g : Int → Int → Int) (mo mv : EM) (env : Env) (S : Sto) : s_fldaug k i g mo mv env S = (mo env S).toS env fun d S1 => (R.ofO (fldD [(k, i)] d S1) S1).toS env fun x S2 => (mv env S2).toS env fun y S3 => match x, y with
  | .int i1, .int j1 => match setF [(k, i)] d (.int (g i1 j1)) S3 with
    | some S4 => .next env S4
    | none => .bad
  | _, _ => .bad := rfl
theorem azs : ("a" : Str).cps.toList = [97] ∧ ("z" : Str).cps.toList = [122] := by decide +kernel
theorem le_low {c : Nat} (h : 97 ≤ c ∧ c ≤ 122) : decide (([c] : List Nat) < [97]) = false ∧ decide (([122] : List Nat) < [c]) = false := by
  constructor
  · rw [decide_eq_false_iff_not]; rw [List.cons_lt_cons_iff]; rintro (q | ⟨_, q⟩); omega; exact absurd q (List.not_lt_nil _)
  · rw [decide_eq_false_iff_not]; rw [List.cons_lt_cons_iff]; rintro (q | ⟨_, q⟩); omega; exact absurd q (List.not_lt_nil _)
theorem lc_low (S : Sto) : ∀ (cs : List Nat) (n : Nat) (z : D), (∀ c ∈ cs, 97 ≤ c ∧ c ≤ 122) → n + cs.length ≤ 100 → lcM (g_name 1) t_yes (e_chain strLeD strLeD (e_k (.str "a")) (e_v 1) (e_k (.str "z"))) [some z, none] none (cs.map fun k => .str ⟨#[k]⟩) (List.replicate n (.bl true)) S = .ok (List.replicate (n + cs.length) (.bl true)) S
  | [], n, z, h, hn => by simp
  | c :: r, n, z, h, hn => by
    have hc := le_low (h c List.mem_cons_self)
    have z1 : (n < sizeLine) = True := eq_true (by have := szb; simp at hn; omega)
    have ih := lc_low S r (n + 1) z (fun d m => h d (List.mem_cons_of_mem _ m)) (by simp at hn ⊢; omega)
    rw [List.replicate_succ'] at ih
    simp only [List.map_cons, lcM_cons]
    simp [azs, hc, z1, ih]
    omega
theorem is_name_ok {z : Str} (h : Tk.IsName z) (S : Sto) : m_is_name [.str z] S = .ok (.bl true) S := by
  obtain ⟨h1, h8, hl⟩ := h
  have z1 : (z.length ≤ sizeLine) = True := eq_true (by have := szb; omega)
  have z2 : ((1 : Int) ≤ (z.length : Int)) = True := eq_true (by omega)
  have z3 : ((z.length : Int) ≤ 8) = True := eq_true (by omega)
  have lc := lc_low S z.cps.toList 0 (.str z) hl (by have : z.cps.toList.length = z.length := by simp [Str.length]
                                                     omega)
  simp only [List.replicate_zero, Nat.zero_add] at lc
  have hb : allO blO (List.replicate z.cps.toList.length (.bl true)) = some (List.replicate z.cps.toList.length true) := by
    have := allO_map (f := blO) (g := D.bl) (fun _ => rfl) (List.replicate z.cps.toList.length true)
    rwa [List.map_replicate] at this
  have hall : (List.replicate z.cps.toList.length true).all id = true := by rw [List.all_eq_true]; intro x hx; rw [List.mem_replicate] at hx; simp [hx.2]
  simp only [m_is_name, runDef, b_is_name]
  simp [isiD, z1, z2, z3, wipeE]
  simp only [Array.length_toList] at lc hb hall
  simp [lc, allD, hb, hall]
end Mm
set_option maxRecDepth 100000
namespace Mm
open PySem L2
/-! statements -/
mutual
def sD : Tk.Stm → D
  | .one w => .tup [.str w.s]
  | .nam b n => .tup [.str (Tk.lockS b), .str n]
  | .ch y n => .tup [.str "choose", .tup (sDs y), .tup (sDs n)]
def sDs : List Tk.Stm → List D
  | [] => []
  | s :: r => sD s :: sDs r
end
theorem sDs_map : ∀ l : List Tk.Stm, sDs l = l.map sD
  | [] => by rw [sDs]; rfl
  | s :: r => by rw [sDs, sDs_map r]; rfl
theorem sDs_len (l : List Tk.Stm) : (sDs l).length = l.length := by rw [sDs_map, List.length_map]
def wd : Tk.Stm → Str
  | .one w => w.s
  | .nam b _ => Tk.lockS b
  | .ch _ _ => "choose"
abbrev plD (p : Tk.Pl) : List D := p.map .int
@[simp] theorem has_form_2 (x n : Str) (h : items.lookup x = some 2) (S : Sto) : m_has_form [.tup [.str x, .str n]] S = .ok (.bl true) S := by
  unfold m_has_form; rw [runDef_eq (by rfl)]; unfold b_has_form
  have hc : (x = "choose") = False := by
    simp only [eq_iff_iff, iff_false]; rintro rfl; simp at h
  simp [isiD, h, hc]
theorem fault_ok (s : Tk.Stm) (d : Nat) (h : Int) (hs : s.ok d h) (pl : List D) (hp : pl.length = 2 * d + 1) (n : Int) (n8 : (n = 8) = False) (S : Sto) : m_fault_of [sD s, .ttp pl, .int n, .int h] S = .ok .non S := by
  cases s with
  | one w =>
    unfold Tk.Stm.ok at hs
    cases w with
    | take =>
      have h3 : (h = 3) = False := eq_false (hs rfl)
      simp [sD, Tk.Wd.s, m_fault_of, runDef, b_fault_of, inF, DV, inV, eqV, n8, h3]
    | _ => simp [sD, Tk.Wd.s, m_fault_of, runDef, b_fault_of, inF, DV, inV, eqV, n8]
  | nam b x =>
    unfold Tk.Stm.ok at hs
    have hn := fun S => is_name_ok hs S
    cases b with
    | true => simp [sD, Tk.lockS, m_fault_of, runDef, b_fault_of, inF, DV, inV, eqV, n8, hn]
    | false => simp [sD, Tk.lockS, m_fault_of, runDef, b_fault_of, inF, DV, inV, eqV, n8, hn]
  | ch y z =>
    unfold Tk.Stm.ok at hs
    have hq : ((pl.length : Int) / 2 = 2) = False := eq_false (by rw [hp]; omega)
    simp [sD, m_fault_of, runDef, b_fault_of, inF, DV, inV, eqV, n8, hq, cdiv2]
theorem held_ok (w : Tk.Wd) (h : Int) (S : Sto) : m_held_after [.str w.s, .int h] S = .ok (.int (w.held h)) S := by
  cases w <;> simp [Tk.Wd.s, Tk.Wd.held, m_held_after, runDef, b_held_after, inF, DV, inV, eqV]
theorem held_nam (b : Bool) (h : Int) (S : Sto) : m_held_after [.str (Tk.lockS b), .int h] S = .ok (.int h) S := by
  cases b <;> simp [Tk.lockS, m_held_after, runDef, b_held_after, inF, DV, inV, eqV]
/-! the found statements -/
def kD (ks : List Tk.Pl) : List D := .non :: ks.map fun p => .tup (plD p)
theorem unK_pl (p : Tk.Pl) : allO unK (plD p) = some (Tk.key p) := by
  induction p with
  | nil => rfl
  | cons i r ih => simp only [plD, List.map_cons, allO] at ih ⊢; rw [ih]; rfl
theorem ktO_pl : ∀ ks : List Tk.Pl, allO unT (ks.map fun p => D.tup (plD p)) = some (ks.map Tk.key)
  | [] => rfl
  | p :: r => by
    rw [List.map_cons, allO, unT_tup, unK_pl, Option.bind_some, ktO_pl r]; rfl
theorem key_inj {p q : Tk.Pl} (h : Tk.key p = Tk.key q) : p = q := by
  unfold Tk.key at h
  induction p generalizing q with
  | nil => cases q with
    | nil => rfl
    | cons _ _ => cases h
  | cons a r ih => cases q with
    | nil => cases h
    | cons b t =>
      rw [List.map_cons, List.map_cons] at h
      injection h with h1 h2
      rw [Sum.inl.inj h1, ih h2]
theorem dputO_new (ks : List Tk.Pl) (vs : List D) (p : Tk.Pl) (z : D) (hp : p ∉ ks) (hl : ks.length ≤ 1000) : dputO (kD ks) vs (.ttp (plD p)) z = some (kD (ks ++ [p]), vs ++ [z]) := by
  have h1 : ((ks.map Tk.key).any fun x => decide (x = Tk.key p)) = false := by
    rw [List.any_eq_false]
    intro x hx e
    obtain ⟨q, hq, rfl⟩ := List.mem_map.mp hx
    exact hp (by rw [← key_inj (of_decide_eq_true e)]; exact hq)
  have h2 : (ks.map Tk.key).length < sizeLine := by rw [List.length_map]; have := szb; omega
  have h3 : ((ks ++ [p]).map Tk.key).map tupD = (ks ++ [p]).map fun q => .tup (plD q) := by
    rw [List.map_map]
    refine List.map_congr_left fun q _ => ?_
    show tupD (Tk.key q) = _
    unfold tupD Tk.key
    rw [List.map_map]; rfl
  unfold dputO kD
  rw [show kkO (D.non :: ks.map fun p => D.tup (plD p)) = none from rfl]
  dsimp only
  rw [ktO_non, ktO_pl]
  dsimp only
  rw [unR_ttp, unK_pl, Option.bind_some, if_pos h2]
  unfold putDs
  rw [h1]
  simp only [Bool.false_eq_true, if_false]
  rw [← h3]
  simp only [List.map_append, List.map_cons, List.map_nil]
end Mm
set_option maxRecDepth 100000
namespace Mm
open PySem L2
mutual
theorem walk_pre : ∀ (s : Tk.Stm) (p : Tk.Pl) (x : Tk.Pl × Tk.Stm), x ∈ s.walk p → ∃ q, x.1 = p ++ q
  | .one w, p, x, h => by rw [Tk.Stm.walk, List.mem_singleton] at h; rw [h]; exact ⟨[], (List.append_nil _).symm⟩
  | .nam b n, p, x, h => by rw [Tk.Stm.walk, List.mem_singleton] at h; rw [h]; exact ⟨[], (List.append_nil _).symm⟩
  | .ch y n, p, x, h => by
    rw [Tk.Stm.walk] at h
    rcases List.mem_cons.mp h with h | h
    · rw [h]; exact ⟨[], (List.append_nil _).symm⟩
    · rcases List.mem_append.mp h with h | h
      · obtain ⟨j, q, _, e⟩ := walkAll_pre y _ 0 x h
        exact ⟨0 :: j :: q, by rw [e]; simp⟩
      · obtain ⟨j, q, _, e⟩ := walkAll_pre n _ 0 x h
        exact ⟨1 :: j :: q, by rw [e]; simp⟩
theorem walkAll_pre : ∀ (B : List Tk.Stm) (p : Tk.Pl) (i : Nat) (x : Tk.Pl × Tk.Stm), x ∈ Tk.walkAll B p i → ∃ (j : Nat) (q : Tk.Pl), i ≤ j ∧ x.1 = p ++ (j : Int) :: q
  | [], p, i, x, h => by rw [Tk.walkAll] at h; cases h
  | s :: r, p, i, x, h => by
    rw [Tk.walkAll] at h
    rcases List.mem_append.mp h with h | h
    · obtain ⟨q, e⟩ := walk_pre s _ x h
      exact ⟨i, q, Nat.le_refl _, by rw [e]; simp⟩
    · obtain ⟨j, q, l, e⟩ := walkAll_pre r p (i + 1) x h
      exact ⟨j, q, by omega, e⟩
end
abbrev plcs (l : List (Tk.Pl × Tk.Stm)) : List Tk.Pl := l.map (·.1)
abbrev stms (l : List (Tk.Pl × Tk.Stm)) : List D := l.map fun x => sD x.2
theorem pl_snoc (p : Tk.Pl) (i : Int) : plD (p ++ [i]) = plD p ++ [.int i] := by simp [plD]
theorem set_self {T : Sto} {f : Nat} {a : SO} (h : T[f]? = some a) : T.set f a = T := by
  obtain ⟨h1, rfl⟩ := List.getElem?_eq_some_iff.mp h
  exact List.set_getElem_self h1
theorem get_ne {T : Sto} {c f : Nat} {a o : SO} (n : f ≠ c) (h : T[c]? = some o) : (T.set f a)[c]? = some o := by rw [List.getElem?_set_ne n]; exact h
theorem get_eq {T : Sto} {f : Nat} {a o : SO} (h : T[f]? = some o) : (T.set f a)[f]? = some a := List.getElem?_set_self (Rep.lt h)
theorem dic_loc {T : Sto} {f : Nat} {ks ds : List D} (h : T[f]? = some (.dic ks ds)) : dicOf T (.loc f) = some (ks, ds) := by rw [dicOf_loc, h]
theorem fld_at {T : Sto} {k c i : Nat} {ds : List D} {x : D} (h : T[c]? = some (.ins k ds)) (hi : ds[i]? = some x) : fldD [(k, i)] (.loc c) T = some x := by
  unfold fldD
  rw [insOf_loc h]
  simp [List.lookup, hi]
abbrev Tst (T : Sto) (c f : Nat) (ks : List Tk.Pl) (vs : List D) : Prop := T[c]? = some (.ins 2 [.loc f]) ∧ T[f]? = some (.dic (kD ks) vs)
theorem Tst.step {T : Sto} {c f : Nat} {ks : List Tk.Pl} {vs : List D} (h : Tst T c f ks vs) (ks' : List Tk.Pl) (vs' : List D) : Tst (T.set f (.dic (kD ks') vs')) c f ks' vs' := by
  refine ⟨get_ne (fun e => ?_) h.1, get_eq h.2⟩
  have h1 := h.1
  rw [← e, h.2] at h1
  exact nomatch h1
theorem isI_at {T : Sto} {k c : Nat} {ds : List D} (h : T[c]? = some (.ins k ds)) : isI k (.loc c) T := isI_loc h
/-- the body of the loop over a branch -/
noncomputable def cbB (m : FM) : SM := s_set 3 (e_mth tr0 2 m (e_v 0) (a_cons (e_v 5) (a_cons (e_op addT (e_v 2) (e_ttp (a_cons (e_v 4) a_nil))) (a_cons (e_v 3) a_nil))))
mutual
theorem chk_stm (c f : Nat) : ∀ (s : Tk.Stm) (d : Nat) (h : Int) (n : Nat) (p : Tk.Pl) (ks : List Tk.Pl) (vs : List D) (T : Sto), s.ok d h → p.length = 2 * d + 1 → d ≤ 2 → 2 * (2 - d) + 1 ≤ n → vs.length = ks.length → ks.length + s.cnt ≤ 8 → (∀ q, p ++ q ∉ ks) → Tst T c f ks vs →
    (mCC n).2 [.loc c, sD s, .ttp (plD p), .int h] T = .ok (.int (s.held h)) (T.set f (.dic (kD (ks ++ plcs (s.walk p))) (vs ++ stms (s.walk p))))
  | s, d, h, 0, p, ks, vs, T, hs, hp, hd, hn, hl, hc, hf, t => by omega
  | .one w, d, h, n + 1, p, ks, vs, T, hs, hp, hd, hn, hl, hc, hf, t => by
    have n8 : ((vs.length : Int) = 8) = False := eq_false (by rw [Tk.Stm.cnt] at hc; omega)
    have hF := fun S => fault_ok (.one w) d h hs (plD p) (by simp [hp]) vs.length n8 S
    have hP := dputO_new ks vs p (sD (.one w)) (by have := hf []; simpa using this) (by rw [Tk.Stm.cnt] at hc; omega)
    have hch : (w.s = "choose") = False := by cases w <;> simp [Tk.Wd.s]
    simp only [sD, plD] at hF hP
    simp [mCC_s, m_Check_check_statement', runDef, b_Check_check_statement, sD, fld_at t.1, dlen_loc, dic_loc t.2, hF, t.2, hP, hch, held_ok, Tk.Stm.walk, Tk.Stm.held]
  | .nam b x, d, h, n + 1, p, ks, vs, T, hs, hp, hd, hn, hl, hc, hf, t => by
    have n8 : ((vs.length : Int) = 8) = False := eq_false (by rw [Tk.Stm.cnt] at hc; omega)
    have hF := fun S => fault_ok (.nam b x) d h hs (plD p) (by simp [hp]) vs.length n8 S
    have hP := dputO_new ks vs p (sD (.nam b x)) (by have := hf []; simpa using this) (by rw [Tk.Stm.cnt] at hc; omega)
    have hch : (Tk.lockS b = "choose") = False := by cases b <;> simp [Tk.lockS]
    simp only [sD, plD] at hF hP
    simp [mCC_s, m_Check_check_statement', runDef, b_Check_check_statement, sD, fld_at t.1, dlen_loc, dic_loc t.2, hF, t.2, hP, hch, held_nam, Tk.Stm.walk, Tk.Stm.held]
  | .ch y z, d, h, n + 1, p, ks, vs, T, hs, hp, hd, hn, hl, hc, hf, t => by
    have n8 : ((vs.length : Int) = 8) = False := eq_false (by rw [Tk.Stm.cnt] at hc; omega)
    have hF := fun S => fault_ok (.ch y z) d h hs (plD p) (by simp [hp]) vs.length n8 S
    have hP := dputO_new ks vs p (sD (.ch y z)) (by have := hf []; simpa using this) (by rw [Tk.Stm.cnt] at hc; omega)
    rw [Tk.Stm.ok] at hs
    rw [Tk.Stm.cnt] at hc
    simp only [sD, plD] at hF hP
    have t1 := t.step (ks ++ [p]) (vs ++ [sD (.ch y z)])
    have e1 := chk_all c f y (d + 1) h n (p ++ [0]) (ks ++ [p]) (vs ++ [sD (.ch y z)]) _ hs.2.1 (by simp [hp]; omega) (by omega) (by omega) (by simp [hl]) (by simp; omega) (fun j q _ hm => by
      rcases List.mem_append.mp hm with hm | hm
      · exact hf (0 :: j :: q) (by simpa using hm)
      · rw [List.mem_singleton] at hm
        have := congrArg List.length hm
        simp at this) t1
    have t2 := t1.step (ks ++ [p] ++ plcs (Tk.walkAll y (p ++ [0]) 0)) (vs ++ [sD (.ch y z)] ++ stms (Tk.walkAll y (p ++ [0]) 0))
    have e2 := chk_all c f z (d + 1) h n (p ++ [1]) (ks ++ [p] ++ plcs (Tk.walkAll y (p ++ [0]) 0)) (vs ++ [sD (.ch y z)] ++ stms (Tk.walkAll y (p ++ [0]) 0)) _ hs.2.2 (by simp [hp]; omega) (by omega) (by omega) (by simp [hl]) (by simp [Tk.walkAll_len]; omega) (fun j q _ hm => by
      rcases List.mem_append.mp hm with hm | hm
      · rcases List.mem_append.mp hm with hm | hm
        · exact hf (1 :: j :: q) (by simpa using hm)
        · rw [List.mem_singleton] at hm
          have := congrArg List.length hm
          simp at this
      · obtain ⟨x, hx, ex⟩ := List.mem_map.mp hm
        obtain ⟨j2, q2, _, e⟩ := walkAll_pre y _ 0 x hx
        rw [e] at ex
        simp at ex) t2
    have zl : (List.length p + 1 ≤ sizeLine) = True := eq_true (by have := szb; omega)
    rw [pl_snoc] at e1 e2
    rw [List.set_set] at e1 e2
    rw [List.set_set] at e2
    simp only [sD] at e1 e2 t1 t2
    rw [List.set_set] at t2
    have i1 := isI_at t1.1
    have i2 := isI_at t2.1
    simp only [List.append_assoc, List.cons_append, List.nil_append] at e1 e2 i1 i2
    simp [mCC_s, m_Check_check_statement', runDef, b_Check_check_statement, sD, fld_at t.1, dlen_loc, dic_loc t.2, hF, t.2, hP, zl, e1, e2, i1, i2, Tk.Stm.walk, Tk.Stm.held]
    split <;> omega


theorem chk_all (c f : Nat) : ∀ (B : List Tk.Stm) (d : Nat) (h : Int) (n : Nat) (p : Tk.Pl) (ks : List Tk.Pl) (vs : List D) (T : Sto), Tk.okAll d B h → p.length = 2 * d → d ≤ 2 → 2 * (2 - d) + 2 ≤ n → vs.length = ks.length → ks.length + Tk.cntAll B ≤ 8 → (∀ (j : Nat) q, 0 ≤ j → p ++ (j : Int) :: q ∉ ks) → Tst T c f ks vs →
    (mCC n).1 [.loc c, .tup (sDs B), .ttp (plD p), .int h] T = .ok (.int (Tk.heldAll B h)) (T.set f (.dic (kD (ks ++ plcs (Tk.walkAll B p 0))) (vs ++ stms (Tk.walkAll B p 0))))
  | B, d, h, 0, p, ks, vs, T, hs, hp, hd, hn, hl, hc, hf, t => by omega
  | B, d, h, n + 1, p, ks, vs, T, hs, hp, hd, hn, hl, hc, hf, t => by
    obtain ⟨x, y, e⟩ := chk_loop c f B d h n p 0 ks vs T (.tup (sDs B)) none none hs hp hd (by omega) hl hc hf t
    unfold cbB at e
    simp [mCC_s, m_Check_check_branch', runDef, b_Check_check_branch, e]
theorem chk_loop (c f : Nat) : ∀ (B : List Tk.Stm) (d : Nat) (h : Int) (n : Nat) (p : Tk.Pl) (i : Nat) (ks : List Tk.Pl) (vs : List D) (T : Sto) (z : D) (x y : Option D), Tk.okAll d B h → p.length = 2 * d → d ≤ 2 → 2 * (2 - d) + 1 ≤ n → vs.length = ks.length → ks.length + Tk.cntAll B ≤ 8 → (∀ (j : Nat) q, i ≤ j → p ++ (j : Int) :: q ∉ ks) → Tst T c f ks vs →
    ∃ x' y', loopS (g_tup (g_cons (g_name 4) (g_cons (g_name 5) g_nil))) (cbB (mCC n).2) none (numD i (sDs B)) [some (.loc c), some z, some (.ttp (plD p)), some (.int h), x, y] T = .next [some (.loc c), some z, some (.ttp (plD p)), some (.int (Tk.heldAll B h)), x', y'] (T.set f (.dic (kD (ks ++ plcs (Tk.walkAll B p i))) (vs ++ stms (Tk.walkAll B p i))))
  | [], d, h, n, p, i, ks, vs, T, z, x, y, hs, hp, hd, hn, hl, hc, hf, t => by
    refine ⟨x, y, ?_⟩
    simp [sDs, Tk.walkAll, Tk.heldAll, set_self t.2]
  | s :: r, d, h, n, p, i, ks, vs, T, z, x, y, hs, hp, hd, hn, hl, hc, hf, t => by
    rw [Tk.okAll] at hs
    rw [Tk.cntAll] at hc
    have e1 := chk_stm c f s d h n (p ++ [(i : Int)]) ks vs T hs.1 (by simp [hp]) hd hn hl (by omega) (fun q hm => hf i q (Nat.le_refl _) (by simpa using hm)) t
    have t1 := t.step (ks ++ plcs (s.walk (p ++ [(i : Int)]))) (vs ++ stms (s.walk (p ++ [(i : Int)])))
    obtain ⟨x', y', e2⟩ := chk_loop c f r d (s.held h) n p (i + 1) (ks ++ plcs (s.walk (p ++ [(i : Int)]))) (vs ++ stms (s.walk (p ++ [(i : Int)]))) _ z (some (.int i)) (some (sD s)) hs.2 hp hd hn (by simp [hl]) (by simp [Tk.walk_len]; omega) (fun j q hj hm => by
      rcases List.mem_append.mp hm with hm | hm
      · exact hf j q (by omega) hm
      · obtain ⟨x, hx, ex⟩ := List.mem_map.mp hm
        obtain ⟨q2, e⟩ := walk_pre s _ x hx
        rw [e] at ex
        simp at ex
        omega) t1
    refine ⟨x', y', ?_⟩
    have zl : (List.length p + 1 ≤ sizeLine) = True := eq_true (by have := szb; omega)
    rw [pl_snoc] at e1
    rw [List.set_set] at e2
    unfold cbB at e2
    simp only [sDs, numD_cons, loopS_cons]
    simp [cbB, isI_at t.1, zl, e1, e2, Tk.walkAll, Tk.heldAll]
end
end Mm
set_option maxRecDepth 100000
namespace Mm
open PySem L2
/-! what stands nowhere in the store -/
mutual
def D.dp : D → Nat
  | .tup ds => dps ds + 1
  | .ttp ds => dps ds + 1
  | .lst ds => dps ds + 1
  | .dic _ ds => dps ds + 1
  | .obj _ ds => dps ds + 1
  | .xn _ ds => dps ds + 1
  | _ => 0
def dps : List D → Nat
  | [] => 0
  | d :: r => max d.dp (dps r)
end
mutual
theorem rsv_pure {n : Nat} {S : Sto} : ∀ (f : Nat) (d : D), d.lo 0 = true → d.dp < f → rsv n S f d = some d
  | 0, d, h, hf => absurd hf (Nat.not_lt_zero _)
  | f + 1, .tup ds, h, hf => by unfold D.lo at h; unfold D.dp at hf; unfold rsv; rw [rsvs_pure f ds h (by omega)]; rfl
  | f + 1, .ttp ds, h, hf => by unfold D.lo at h; unfold D.dp at hf; unfold rsv; rw [rsvs_pure f ds h (by omega)]; rfl
  | f + 1, .lst ds, h, hf => by unfold D.lo at h; unfold D.dp at hf; unfold rsv; rw [rsvs_pure f ds h (by omega)]; rfl
  | f + 1, .dic ks ds, h, hf => by unfold D.lo at h; unfold D.dp at hf; unfold rsv; rw [rsvs_pure f ds h (by omega)]; rfl
  | f + 1, .obj k ds, h, hf => by unfold D.lo at h; unfold D.dp at hf; unfold rsv; rw [rsvs_pure f ds h (by omega)]; rfl
  | f + 1, .xn k ds, h, hf => by unfold D.lo at h; unfold D.dp at hf; unfold rsv; rw [rsvs_pure f ds h (by omega)]; rfl
  | f + 1, .loc k, h, hf => by unfold D.lo at h; exact absurd (of_decide_eq_true h) (Nat.not_lt_zero _)
  | f + 1, .non, h, hf => by unfold rsv; rfl
  | f + 1, .bl b, h, hf => by unfold rsv; rfl
  | f + 1, .int i, h, hf => by unfold rsv; rfl
  | f + 1, .str x, h, hf => by unfold rsv; rfl
  | f + 1, .fz ns, h, hf => by unfold rsv; rfl
  | f + 1, .oth u, h, hf => by unfold rsv; rfl
theorem rsvs_pure {n : Nat} {S : Sto} : ∀ (f : Nat) (ds : List D), los 0 ds = true → dps ds < f ∨ ds = [] ∨ dps ds < f → rsvs n S f ds = some ds
  | f, [], h, hf => by unfold rsvs; rfl
  | f, d :: r, h, hf => by
    unfold los at h; unfold rsvs
    rw [Bool.and_eq_true] at h
    have hf' : dps (d :: r) < f := by rcases hf with hf | hf | hf <;> simp_all
    unfold dps at hf'
    rw [rsv_pure f d h.1 (by omega), rsvs_pure f r h.2 (by omega)]; rfl
end
mutual
theorem lo_mono {n m : Nat} (hm : n ≤ m) : ∀ d : D, d.lo n = true → d.lo m = true
  | .tup ds, h => by unfold D.lo at h ⊢; exact los_mono hm ds h
  | .ttp ds, h => by unfold D.lo at h ⊢; exact los_mono hm ds h
  | .lst ds, h => by unfold D.lo at h ⊢; exact los_mono hm ds h
  | .dic ks ds, h => by unfold D.lo at h ⊢; exact los_mono hm ds h
  | .obj k ds, h => by unfold D.lo at h ⊢; exact los_mono hm ds h
  | .xn k ds, h => by unfold D.lo at h ⊢; exact los_mono hm ds h
  | .loc k, h => by unfold D.lo at h ⊢; exact decide_eq_true (Nat.lt_of_lt_of_le (of_decide_eq_true h) hm)
  | .non, h => rfl
  | .bl b, h => rfl
  | .int i, h => rfl
  | .str x, h => rfl
  | .fz ns, h => rfl
  | .oth u, h => rfl
theorem los_mono {n m : Nat} (hm : n ≤ m) : ∀ ds : List D, los n ds = true → los m ds = true
  | [], h => rfl
  | d :: r, h => by
    unfold los at h ⊢
    rw [Bool.and_eq_true] at h
    rw [lo_mono hm d h.1, los_mono hm r h.2]; rfl
end
theorem rsvD_lo {n : Nat} {S : Sto} {d : D} (h : d.lo 0 = true) : rsvD n S d = some d := if_pos (lo_mono (Nat.zero_le n) d h)
theorem los_all : ∀ {ds : List D}, (∀ d ∈ ds, d.lo 0 = true) → los 0 ds = true
  | [], h => rfl
  | d :: r, h => by unfold los; rw [h d List.mem_cons_self, los_all fun x hx => h x (List.mem_cons_of_mem _ hx)]; rfl
theorem dps_all {k : Nat} : ∀ {ds : List D}, (∀ d ∈ ds, d.dp ≤ k) → dps ds ≤ k
  | [], h => by unfold dps; exact Nat.zero_le _
  | d :: r, h => by
    unfold dps
    have h1 := h d List.mem_cons_self
    have h2 := dps_all fun x hx => h x (List.mem_cons_of_mem _ hx)
    omega
/-! statements, places -/
mutual
theorem sD_lo : ∀ s : Tk.Stm, (sD s).lo 0 = true
  | .one w => rfl
  | .nam b n => rfl
  | .ch y n => by
    unfold sD; simp only [D.lo, los, sDs_lo y, sDs_lo n, Bool.and_self]
theorem sDs_lo : ∀ B : List Tk.Stm, los 0 (sDs B) = true
  | [] => rfl
  | s :: r => by unfold sDs los; rw [sD_lo s, sDs_lo r]; rfl
end
mutual
theorem sD_dp : ∀ (s : Tk.Stm) (d : Nat) (h : Int), s.ok d h → d ≤ 2 → (sD s).dp ≤ 2 * (2 - d) + 1
  | .one w, d, h, hs, hd => by unfold sD; simp only [D.dp, dps]; omega
  | .nam b n, d, h, hs, hd => by unfold sD; simp only [D.dp, dps]; omega
  | .ch y n, d, h, hs, hd => by
    unfold Tk.Stm.ok at hs
    have h1 := sDs_dp y (d + 1) h hs.2.1 (by omega)
    have h2 := sDs_dp n (d + 1) h hs.2.2 (by omega)
    unfold sD; simp only [D.dp, dps]; omega
theorem sDs_dp : ∀ (B : List Tk.Stm) (d : Nat) (h : Int), Tk.okAll d B h → d ≤ 2 → dps (sDs B) ≤ 2 * (2 - d) + 1
  | [], d, h, hs, hd => by unfold sDs dps; omega
  | s :: r, d, h, hs, hd => by
    unfold Tk.okAll at hs
    have h1 := sD_dp s d h hs.1 hd
    have h2 := sDs_dp r d _ hs.2 hd
    unfold sDs dps; omega
end
theorem pl_lo : ∀ p : Tk.Pl, los 0 (plD p) = true
  | [] => rfl
  | i :: r => by show (true && los 0 (plD r)) = true; rw [pl_lo r]; rfl
theorem pl_dp : ∀ p : Tk.Pl, dps (plD p) = 0
  | [] => rfl
  | i :: r => by show max 0 (dps (plD r)) = 0; rw [pl_dp r]; rfl
mutual
theorem walk_dp : ∀ (s : Tk.Stm) (d : Nat) (h : Int) (p : Tk.Pl), s.ok d h → d ≤ 2 → ∀ x ∈ s.walk p, (sD x.2).dp ≤ 5
  | .one w, d, h, p, hs, hd, x, hx => by rw [Tk.Stm.walk, List.mem_singleton] at hx; rw [hx]; exact Nat.le_trans (sD_dp _ d h hs hd) (by omega)
  | .nam b n, d, h, p, hs, hd, x, hx => by rw [Tk.Stm.walk, List.mem_singleton] at hx; rw [hx]; exact Nat.le_trans (sD_dp _ d h hs hd) (by omega)
  | .ch y n, d, h, p, hs, hd, x, hx => by
    rw [Tk.Stm.walk] at hx
    rcases List.mem_cons.mp hx with e | hx
    · rw [e]; exact Nat.le_trans (sD_dp _ d h hs hd) (by omega)
    · unfold Tk.Stm.ok at hs
      rcases List.mem_append.mp hx with hx | hx
      · exact walkAll_dp y (d + 1) h _ 0 hs.2.1 (by omega) x hx
      · exact walkAll_dp n (d + 1) h _ 0 hs.2.2 (by omega) x hx
theorem walkAll_dp : ∀ (B : List Tk.Stm) (d : Nat) (h : Int) (p : Tk.Pl) (i : Nat), Tk.okAll d B h → d ≤ 2 → ∀ x ∈ Tk.walkAll B p i, (sD x.2).dp ≤ 5
  | [], d, h, p, i, hs, hd, x, hx => by rw [Tk.walkAll] at hx; cases hx
  | s :: r, d, h, p, i, hs, hd, x, hx => by
    rw [Tk.walkAll] at hx
    unfold Tk.okAll at hs
    rcases List.mem_append.mp hx with hx | hx
    · exact walk_dp s d h _ hs.1 hd x hx
    · exact walkAll_dp r d _ p (i + 1) hs.2 hd x hx
end
/-- a good script -/
structure GoodS (B : List Tk.Stm) : Prop where
  ok : Tk.okAll 0 B 0
  cnt : Tk.cntAll B ≤ 8
  ne : B ≠ []
abbrev wk (B : List Tk.Stm) := Tk.walkAll B [] 0
def scrD (B : List Tk.Stm) : D := .obj 1 [.tup (sDs B), .dic (kD (plcs (wk B))) (stms (wk B)), .tup ((plcs (wk B)).map fun p => .tup (plD p))]
theorem stms_lo (l : List (Tk.Pl × Tk.Stm)) : los 0 (stms l) = true := los_all fun d hd => by
  obtain ⟨x, _, rfl⟩ := List.mem_map.mp hd
  exact sD_lo _
theorem plcs_lo (l : List Tk.Pl) : los 0 (l.map fun p => D.tup (plD p)) = true := los_all fun d hd => by
  obtain ⟨x, _, rfl⟩ := List.mem_map.mp hd
  unfold D.lo; exact pl_lo _
theorem plcs_dp (l : List Tk.Pl) : dps (l.map fun p => D.tup (plD p)) ≤ 1 := dps_all fun d hd => by
  obtain ⟨x, _, rfl⟩ := List.mem_map.mp hd
  unfold D.dp; rw [pl_dp]; exact Nat.le_refl _
theorem stms_dp {B : List Tk.Stm} (g : GoodS B) : dps (stms (wk B)) ≤ 5 := dps_all fun d hd => by
  obtain ⟨x, hx, rfl⟩ := List.mem_map.mp hd
  exact walkAll_dp B 0 0 [] 0 g.ok (by decide) x hx
theorem keysO_kD (ks : List Tk.Pl) : keysO (kD ks) = some (ks.map fun p => .tup (plD p)) := by
  unfold keysO kD
  rw [show kkO (D.non :: ks.map fun p => D.tup (plD p)) = none from rfl]
  simp only [ktO_non, ktO_pl]
  rw [Option.map_some, List.map_map]
  congr 1
  refine List.map_congr_left fun q _ => ?_
  show tupD (Tk.key q) = _
  unfold tupD Tk.key
  rw [List.map_map]; rfl
theorem script_mk {B : List Tk.Stm} (g : GoodS B) (S : Sto) : trunc S (mkD 1 m_Script___init__ [.tup (sDs B)] S) = .ok (scrD B) S := by
  have hc := chk_all (S.length + 1) (S.length + 2) B 0 0 6 [] [] [] (S ++ [.ins 1 [], .ins 2 [.loc (S.length + 2)], .dic [.non] []]) g.ok rfl (by decide) (by decide) rfl (by simpa using g.cnt) (fun _ _ _ h => by cases h) ⟨by simp, by simp [kD]⟩
  have hne : (sDs B = []) = False := eq_false fun e => g.ne (by have := congrArg List.length e; rw [sDs_len] at this; exact List.length_eq_zero_iff.mp this)
  have hl : ((plcs (wk B)).length ≤ sizeLine) = True := eq_true (by have := szb; have := g.cnt; simp [Tk.walkAll_len]; omega)
  have r1 := fun S' => rsvs_pure (n := S.length) (S := S') 10 (sDs B) (sDs_lo B) (.inl (by have := sDs_dp B 0 0 g.ok (by decide); omega))
  have r2 := fun S' => rsvs_pure (n := S.length) (S := S') 10 (stms (wk B)) (stms_lo _) (.inl (by have := stms_dp g; omega))
  have r3 := fun S' => rsvs_pure (n := S.length) (S := S') 10 ((plcs (wk B)).map fun p => D.tup (plD p)) (plcs_lo _) (.inl (by have := plcs_dp (plcs (wk B)); omega))
  have hk := keysO_kD (plcs (wk B))
  simp [kD] at hc hk hl
  simp at r3
  simp [mkD, m_Script___init__, runDef, b_Script___init__, isiD, m_Check___init__, b_Check___init__, setF, Nat.add_assoc, fldD, List.lookup, hne, m_Check_check_branch, hc, dlist_loc, hk, hl, rsvD, rsv, rsvs, D.lo, los, r1, r2, r3, scrD, kD]
end Mm
set_option maxRecDepth 100000
namespace Mm
open PySem L2
open Classical in
@[simp] theorem isI_scr (B : List Tk.Stm) (S : Sto) : isI 1 (scrD B) S := ⟨_, rfl⟩
variable (B : List Tk.Stm) (S : Sto)
@[simp] theorem scr_stm : fldD [(1, 0)] (scrD B) S = some (.tup (sDs B)) := rfl
@[simp] theorem scr_found : fldD [(1, 1)] (scrD B) S = some (.dic (kD (plcs (wk B))) (stms (wk B))) := rfl
@[simp] theorem scr_found2 : fldD [(1, 1), (2, 0)] (scrD B) S = some (.dic (kD (plcs (wk B))) (stms (wk B))) := rfl
@[simp] theorem scr_places : fldD [(1, 2)] (scrD B) S = some (.tup ((plcs (wk B)).map fun p => .tup (plD p))) := rfl
theorem len_eq : m_Script___len__ [scrD B] S = .ok (.int (Tk.cntAll B)) S := by
  simp [m_Script___len__, runDef, b_Script___len__, Tk.walkAll_len]
end Mm
set_option maxRecDepth 100000
namespace Mm
open PySem L2
abbrev sL (l : List Str) : List D := l.map .str
abbrev iL (l : List Int) : List D := l.map .int
/-! kinds, systems -/
structure KA where
  nm : Str
  sc : List Tk.Stm
  bl : Int
  mn : Nat
structure YA where
  ks : List KA
  ah : Int
  wi : Option Int
  cr : Int
def kinD (k : KA) : D := .obj 4 [.str k.nm, scrD k.sc, .int k.bl, .int k.mn]
def wiD : Option Int → D
  | none => .non
  | some w => .int w
@[simp] theorem wiD_none : wiD none = .non := rfl
@[simp] theorem wiD_some (w : Int) : wiD (some w) = .int w := rfl
/-- the kinds of the sessions -/
def YA.ses (y : YA) : List KA := y.ks.flatMap fun k => List.replicate k.mn k
def sysD (y : YA) : D := .obj 5 [.tup (y.ks.map kinD), .int y.ah, wiD y.wi, .int y.cr, .tup (sL (y.ses.map (·.nm)))]
structure GoodK (k : KA) : Prop where
  nm : Tk.IsName k.nm
  sc : GoodS k.sc
  bl : 1 ≤ k.bl ∧ k.bl ≤ 3
  mn : 1 ≤ k.mn ∧ k.mn ≤ 3
structure GoodY (y : YA) : Prop where
  ks : ∀ k ∈ y.ks, GoodK k
  nd : (y.ks.map (·.nm)).Nodup
  ne : y.ks ≠ []
  few : y.ses.length ≤ 3
  size : y.ses.length = 3 → ∀ k ∈ y.ks, Tk.cntAll k.sc ≤ 4
  ah : 0 ≤ y.ah ∧ y.ah ≤ 4
  wi : ∀ w, y.wi = some w → w ≤ 8 ∧ ∀ k ∈ y.ks, k.bl ≤ w
  cr : 0 ≤ y.cr ∧ y.cr ≤ 2
variable (y : YA) (S : Sto)
@[simp] theorem k_name (k : KA) : fldD [(4, 0)] (kinD k) S = some (.str k.nm) := rfl
@[simp] theorem k_script (k : KA) : fldD [(4, 1)] (kinD k) S = some (scrD k.sc) := rfl
@[simp] theorem k_block (k : KA) : fldD [(4, 2)] (kinD k) S = some (.int k.bl) := rfl
@[simp] theorem k_many (k : KA) : fldD [(4, 3)] (kinD k) S = some (.int k.mn) := rfl
@[simp] theorem y_kinds : fldD [(5, 0)] (sysD y) S = some (.tup (y.ks.map kinD)) := rfl
@[simp] theorem y_ahead : fldD [(5, 1)] (sysD y) S = some (.int y.ah) := rfl
@[simp] theorem y_window : fldD [(5, 2)] (sysD y) S = some (wiD y.wi) := rfl
@[simp] theorem y_crashes : fldD [(0, 5), (3, 3), (5, 3)] (sysD y) S = some (.int y.cr) := rfl
@[simp] theorem y_crashes2 : fldD [(3, 3), (5, 3)] (sysD y) S = some (.int y.cr) := rfl
@[simp] theorem y_sessions : fldD [(5, 4)] (sysD y) S = some (.tup (sL (y.ses.map (·.nm)))) := rfl
@[simp] theorem y_sessions2 : fldD [(3, 4), (5, 4)] (sysD y) S = some (.tup (sL (y.ses.map (·.nm)))) := rfl
open Classical in
@[simp] theorem isI_sys : isI 5 (sysD y) S := ⟨_, rfl⟩
theorem atI_nat {α : Type} (l : List α) (i : Nat) : atI l (i : Int) = l[i]? := by
  unfold atI ixN
  by_cases h : i < l.length
  · simp [h]
  · simp [h]
theorem rsv_wi (n : Nat) (S : Sto) (f : Nat) (w : Option Int) : rsv n S (f + 1) (wiD w) = some (wiD w) := by
  cases w <;> (unfold wiD rsv; rfl)
theorem wi_lo (w : Option Int) : (wiD w).lo 0 = true := by cases w <;> rfl
@[simp] theorem y_crashes3 : fldD [(5, 3)] (sysD y) S = some (.int y.cr) := rfl
end Mm
set_option maxRecDepth 100000
namespace Mm
open PySem L2
/-! the law's numbers -/
theorem cmul_mod (x y : Int) : CMul (x % 2147483647) y := .inl ⟨by have := Int.emod_nonneg x (show (2147483647 : Int) ≠ 0 by decide); omega, by have := Int.emod_lt_of_pos x (show (0 : Int) < 2147483647 by decide); omega⟩
theorem cmul_r (x : Int) : CMul x 48271 := .inr ⟨by decide, by decide⟩
theorem cmul_l (x : Int) : CMul 7919 x := .inl ⟨by decide, by decide⟩
def lcg (b c : Int) : Int := (((b + 7919 * (c + 1) + 1) * 48271 % 2147483647 * ((b + 7919 * (c + 1) + 1) * 48271 % 2147483647 / 1009 + 69621)) % 2147483647 * (((b + 7919 * (c + 1) + 1) * 48271 % 2147483647 * ((b + 7919 * (c + 1) + 1) * 48271 % 2147483647 / 1009 + 69621)) % 2147483647 / 2003 + 40692)) % 2147483399
theorem draw_eq {S : Sto} {p : Nat} {a b c n : Int} (h : S[p]? = some (.lst [.int a, .int b, .int c])) (n0 : 0 < n) (n1 : n < 1073741824) :
    ∃ r a' b' c', m__law_draw [.loc p, .int n] S = .ok (.int r) (S.set p (.lst [.int a', .int b', .int c'])) ∧ 0 ≤ r ∧ r < n := by
  unfold m__law_draw
  rw [runDef_eq (by rfl)]
  unfold b__law_draw
  by_cases ha : 0 < a
  · refine ⟨a % n, a / n, b, c, ?_, Int.emod_nonneg _ (by omega), Int.emod_lt_of_pos _ n0⟩
    simp [h, ha, n0, n1, CDiv, ixN]
  · refine ⟨lcg b c % n, a, b, c + 1, ?_, Int.emod_nonneg _ (by omega), Int.emod_lt_of_pos _ n0⟩
    simp [h, ha, n0, n1, CDiv, ixN, set_get h, cmul_mod, cmul_r, cmul_l, lcg]
/-- the object of a pool -/
abbrev pO (a b c : Int) : SO := .lst [.int a, .int b, .int c]
theorem pool_eq (ns : List Int) (k : Nat) (S : Sto) : ∃ a b c, m__law_pool [.fz ns, .int k] S = .ok (.loc S.length) (S ++ [pO a b c]) := by
  have cp : CPow 10 18 := by unfold CPow; decide
  by_cases hk : k < ns.length
  · have g : (ns.map D.int)[k]? = some (.int ns[k]) := by rw [List.getElem?_map, List.getElem?_eq_getElem hk]; rfl
    refine ⟨if ns[k] - 10 ^ 18 > 0 then ns[k] - 10 ^ 18 else 0, ns[k] % 2147483647, 0, ?_⟩
    simp [m__law_pool, runDef, b__law_pool, hk, ixD, atI_nat, g, cp]
  · refine ⟨if ((k : Int) + 1) - 10 ^ 18 > 0 then ((k : Int) + 1) - 10 ^ 18 else 0, ((k : Int) + 1) % 2147483647, 0, ?_⟩
    simp [m__law_pool, runDef, b__law_pool, hk, cp]
theorem drawS {S : Sto} {p : Nat} (hp : p < S.length) (a b c : Int) {n : Int} (n0 : 0 < n) (n1 : n < 1073741824) :
    ∃ r a' b' c', m__law_draw [.loc p, .int n] (S.set p (pO a b c)) = .ok (.int r) (S.set p (pO a' b' c')) ∧ 0 ≤ r ∧ r < n := by
  obtain ⟨r, a', b', c', e, h⟩ := draw_eq (S := S.set p (pO a b c)) (List.getElem?_set_self hp) n0 n1
  rw [List.set_set] at e
  exact ⟨r, a', b', c', e, h⟩
theorem alpha_len : Tk.alpha.length ≤ sizeLine := by decide +kernel
theorem alpha_ix {r : Int} (r0 : 0 ≤ r) (r1 : r < 26) (S : Sto) : ∃ c, ixD (D.str Tk.alpha) (D.int r) S = R.ok (D.str ⟨#[c]⟩) S ∧ 97 ≤ c ∧ c ≤ 122 := by
  obtain ⟨c, hc, h⟩ := Tk.alpha_at r0 r1
  refine ⟨c, ?_, h⟩
  show R.if (Tk.alpha.length ≤ sizeLine) (R.ofO ((L2.atI Tk.alpha.cps.toList r).map fun k => D.str ⟨#[k]⟩) S) = _
  rw [R.if_pos alpha_len, hc]; rfl
noncomputable def nb : SM := s_set 2 (e_op addD (e_v 2) (e_op ixD (e_v 1) (e_fn tr0 m__law_draw (a_cons (e_v 0) (a_cons (e_k (.int 26)) a_nil)))))
theorem names_loop {S : Sto} {p : Nat} (hp : p < S.length) : ∀ (k : Nat) (lo : Int) (z : Str) (a b c : Int) (x : Option D), Tk.Low z → z.length + k ≤ 7 → ∃ z' a' b' c' x', Tk.Low z' ∧ z'.length = z.length + k ∧
    loopS (g_name 3) nb none (rngD lo k) [some (.loc p), some (.str Tk.alpha), some (.str z), x, none, none, none, none] (S.set p (pO a b c)) = .next [some (.loc p), some (.str Tk.alpha), some (.str z'), x', none, none, none, none] (S.set p (pO a' b' c'))
  | 0, lo, z, a, b, c, x, hz, hl => ⟨z, a, b, c, x, hz, rfl, by unfold rngD; rw [loopS_nil]⟩
  | k + 1, lo, z, a, b, c, x, hz, hl => by
    obtain ⟨r, a1, b1, c1, e1, r0, r1⟩ := drawS hp a b c (n := 26) (by decide) (by decide)
    obtain ⟨l, e2, hl2⟩ := alpha_ix r0 r1 (S.set p (pO a1 b1 c1))
    have le : (z ++ (⟨#[l]⟩ : Str)).length = z.length + 1 := by rw [Tk.len_app, Tk.len_one]
    obtain ⟨z', a', b', c', x', h1, h2, h3⟩ := names_loop hp k (lo + 1) (z ++ ⟨#[l]⟩) a1 b1 c1 (some (.int lo)) (Tk.low_app hz (Tk.low_one hl2)) (by omega)
    refine ⟨z', a', b', c', x', h1, by omega, ?_⟩
    have zs : (z.length + (⟨#[l]⟩ : Str).length ≤ sizeLine) = True := eq_true (by have := szb; rw [Tk.len_one]; omega)
    rw [← h3]
    show loopS (g_name 3) nb none (.int lo :: rngD (lo + 1) k) _ _ = _
    rw [loopS_cons]
    simp [nb, e1, e2, zs]
theorem alpha_val : ∀ n : Fin 26, atI Tk.alpha.cps.toList ((n.val : Nat) : Int) = some (97 + n.val) := by decide +kernel
theorem alpha_is {r : Int} (r0 : 0 ≤ r) (r1 : r < 26) : atI Tk.alpha.cps.toList r = some (97 + r.toNat) := by
  have h := alpha_val ⟨r.toNat, by omega⟩
  have e : ((r.toNat : Nat) : Int) = r := by omega
  simp only [e] at h
  exact h
theorem str_mid {x y : Str} {l m : Nat} (h : x ++ (⟨#[l]⟩ : Str) ++ y = x ++ (⟨#[m]⟩ : Str) ++ y) : l = m := by
  have h2 := congrArg (fun s : Str => s.cps.toList) h
  have e : ∀ a b : Str, (a ++ b).cps.toList = a.cps.toList ++ b.cps.toList := fun a b => by
    show (a.cps ++ b.cps).toList = _
    simp
  simp only [e] at h2
  have h3 := List.append_cancel_right h2
  have h4 := List.append_cancel_left h3
  simpa using h4
theorem names_eq {S : Sto} {p : Nat} (hp : p < S.length) (a b c : Int) : ∃ x y z a' b' c', m__law_names [.loc p] (S.set p (pO a b c)) = .ok (.lst [.str x, .str y, .str z]) (S.set p (pO a' b' c')) ∧ Tk.IsName x ∧ Tk.IsName y ∧ x ≠ y := by
  obtain ⟨r, a1, b1, c1, e1, r0, r1⟩ := drawS hp a b c (n := 8) (by decide) (by decide)
  obtain ⟨z, a2, b2, c2, x2, hz, hl, e2⟩ := names_loop hp r.toNat 0 "" a1 b1 c1 none Tk.low_nil (by show 0 + _ ≤ 7; omega)
  have hl' : z.length ≤ 7 := by rw [hl]; show 0 + _ ≤ 7; omega
  obtain ⟨at_, a3, b3, c3, e3, t0, t1⟩ := drawS hp a2 b2 c2 (n := (z.length : Int) + 1) (by omega) (by omega)
  obtain ⟨f, a4, b4, c4, e4, f0, f1⟩ := drawS hp a3 b3 c3 (n := 26) (by decide) (by decide)
  obtain ⟨g, a5, b5, c5, e5, g0, g1⟩ := drawS hp a4 b4 c4 (n := 12) (by decide) (by decide)
  obtain ⟨h, a6, b6, c6, e6, h0, h1⟩ := drawS hp a5 b5 c5 (n := 12) (by decide) (by decide)
  have q1 := Int.emod_nonneg (f + 1 + g) (show (26 : Int) ≠ 0 by decide)
  have q2 := Int.emod_lt_of_pos (f + 1 + g) (show (0 : Int) < 26 by decide)
  have q3 := Int.emod_nonneg (f + 14 + h) (show (26 : Int) ≠ 0 by decide)
  have q4 := Int.emod_lt_of_pos (f + 14 + h) (show (0 : Int) < 26 by decide)
  have i1 := alpha_is f0 f1
  have i2 := alpha_is q1 q2
  have i3 := alpha_is q3 q4
  have al : (Tk.alpha.length ≤ sizeLine) = True := eq_true alpha_len
  have zl : (z.length ≤ sizeLine) = True := eq_true (by have := szb; omega)
  have cl : (cutS z none (some at_)).length ≤ 7 ∧ (cutS z (some at_) none).length ≤ 7 := by
    obtain ⟨n, rfl⟩ : ∃ n : Nat, at_ = (n : Int) := ⟨at_.toNat, by omega⟩
    rw [Tk.len_cut_lo z n (by omega), Tk.len_cut_hi z n (by omega)]
    omega
  have s1 : ∀ l : Nat, ((cutS z none (some at_)).length + (⟨#[l]⟩ : Str).length ≤ sizeLine) = True := fun l => eq_true (by have := szb; rw [Tk.len_one]; omega)
  have s2 : ∀ l : Nat, ((cutS z none (some at_) ++ (⟨#[l]⟩ : Str)).length + (cutS z (some at_) none).length ≤ sizeLine) = True := fun l => eq_true (by have := szb; rw [Tk.len_app, Tk.len_one]; omega)
  refine ⟨cutS z none (some at_) ++ ⟨#[97 + f.toNat]⟩ ++ cutS z (some at_) none, cutS z none (some at_) ++ ⟨#[97 + ((f + 1 + g) % 26).toNat]⟩ ++ cutS z (some at_) none, cutS z none (some at_) ++ ⟨#[97 + ((f + 14 + h) % 26).toNat]⟩ ++ cutS z (some at_) none, a6, b6, c6, ?_, Tk.isName_mk hz hl' (by omega) t0 (by omega), Tk.isName_mk hz hl' (by omega) t0 (by omega), fun e => ?_⟩
  · have r2 : (-4611686018427387904 ≤ r) = True := eq_true (by omega)
    have r3 : (r < 4611686018427387904) = True := eq_true (by omega)
    unfold nb at e2
    simp [m__law_names, runDef, b__law_names, e1, r2, r3, e2, zl, e3, e4, e5, e6, wipeE, al, i1, i2, i3, s1, s2]
  · have := str_mid e
    omega
end Mm
set_option maxRecDepth 100000
namespace Mm
open PySem L2
/-- a store with a pool at p and a box at b -/
structure Two (S : Sto) (p b : Nat) : Prop where
  hp : p < S.length
  hb : b < S.length
  hne : p ≠ b
def VQ (S : Sto) (p b : Nat) (P B : SO) : Sto := (S.set p P).set b B
section
variable {S : Sto} {p b : Nat} {P B P' B' : SO}
theorem V_p (t : Two S p b) : (VQ S p b P B)[p]? = some P := by
  unfold VQ; rw [List.getElem?_set_ne (Ne.symm t.hne), List.getElem?_set_self t.hp]
theorem V_b (t : Two S p b) : (VQ S p b P B)[b]? = some B := by
  unfold VQ; rw [List.getElem?_set_self (by rw [List.length_set]; exact t.hb)]
theorem V_sp (t : Two S p b) : (VQ S p b P B).set p P' = VQ S p b P' B := by
  unfold VQ; rw [List.set_comm _ _ (Ne.symm t.hne), List.set_set]
theorem V_sb : (VQ S p b P B).set b B' = VQ S p b P B' := by
  unfold VQ; rw [List.set_set]
theorem V_len : (VQ S p b P B).length = S.length := by unfold VQ; simp
theorem V_app (t : Two S p b) (l : Sto) : VQ S p b P B ++ l = VQ (S ++ l) p b P B := by
  unfold VQ; rw [List.set_append_left _ _ t.hp, List.set_append_left _ _ (by rw [List.length_set]; exact t.hb)]
theorem Two.app (t : Two S p b) (l : Sto) : Two (S ++ l) p b := ⟨by have := t.hp; simp; omega, by have := t.hb; simp; omega, t.hne⟩
theorem V_last (t : Two S p b) (o : SO) : (VQ (S ++ [o]) p b P B)[S.length]? = some o := by
  rw [← V_app t, List.getElem?_append_right (by rw [V_len]; exact Nat.le_refl _), V_len, Nat.sub_self]; rfl
theorem V_slast (t : Two S p b) (o o' : SO) : (VQ (S ++ [o]) p b P B).set S.length o' = VQ (S ++ [o']) p b P B := by
  rw [← V_app t, List.set_append_right _ _ (by rw [V_len]; exact Nat.le_refl _), V_len, Nat.sub_self, ← V_app t]; rfl
theorem drawV (t : Two S p b) (x y z : Int) {n : Int} (n0 : 0 < n) (n1 : n < 1073741824) :
    ∃ r x' y' z', m__law_draw [.loc p, .int n] (VQ S p b (pO x y z) B) = .ok (.int r) (VQ S p b (pO x' y' z') B) ∧ 0 ≤ r ∧ r < n := by
  obtain ⟨r, x', y', z', e, h⟩ := draw_eq (V_p (B := B) (P := pO x y z) t) n0 n1
  rw [V_sp t] at e
  exact ⟨r, x', y', z', e, h⟩
end
/-- the object of a box: statements left, numbers held -/
abbrev bO (n h : Int) : SO := .lst [.int n, .int h, .int 3]
section
variable {S : Sto} {p b : Nat}
abbrev nmD (x y z : Str) : D := .lst [.str x, .str y, .str z]
set_option maxHeartbeats 1000000 in
theorem simple_eq (t : Two S p b) {x y z : Str} (hx : Tk.IsName x) (hy : Tk.IsName y) (a1 a2 a3 n h : Int) (h0 : 0 ≤ h) (h3 : h ≤ 3) :
    ∃ s c1 c2 c3, (∀ d, Tk.Stm.ok d s h) ∧ s.cnt = 1 ∧ 0 ≤ s.held h ∧ s.held h ≤ 3 ∧ m__law_simple [.loc p, .loc b, nmD x y z] (VQ S p b (pO a1 a2 a3) (bO n h)) = .ok (sD s) (VQ S p b (pO c1 c2 c3) (bO n (s.held h))) := by
  obtain ⟨r, a', b', c', e1, r0, r1⟩ := drawV (B := bO n h) t a1 a2 a3 (n := 13) (by decide) (by decide)
  have vb := fun P B => V_b (P := P) (B := B) t
  have sb := fun P B B' => V_sb (S := S) (p := p) (b := b) (P := P) (B := B) (B' := B')
  by_cases k1 : r < 5 ∧ h < 3
  · refine ⟨.one .take, a', b', c', fun d => by unfold Tk.Stm.ok; intro _; omega, rfl, by show 0 ≤ h + 1; omega, by show h + 1 ≤ 3; omega, ?_⟩
    simp [m__law_simple, runDef, b__law_simple, e1, vb, sb, k1.1, k1.2, ixN, sD, Tk.Wd.s, Tk.Stm.held, Tk.Wd.held]
  · have k1' : (if r < 5 then h < 3 else False) = False := by
      apply eq_false; split <;> simp_all
    by_cases k2 : r = 10
    · obtain ⟨u, a2', b2', c2', e2, u0, u1⟩ := drawV (B := bO n h) t a' b' c' (n := 2) (by decide) (by decide)
      have : u = 0 ∨ u = 1 := by omega
      rcases this with rfl | rfl
      · refine ⟨.nam true x, a2', b2', c2', fun d => hx, rfl, h0, h3, ?_⟩
        simp [m__law_simple, runDef, b__law_simple, e1, k2, e2, sD, Tk.lockS, Tk.Stm.held]
      · refine ⟨.nam true y, a2', b2', c2', fun d => hy, rfl, h0, h3, ?_⟩
        simp [m__law_simple, runDef, b__law_simple, e1, k2, e2, sD, Tk.lockS, Tk.Stm.held]
    · by_cases k3 : r = 11
      · obtain ⟨u, a2', b2', c2', e2, u0, u1⟩ := drawV (B := bO n h) t a' b' c' (n := 2) (by decide) (by decide)
        have : u = 0 ∨ u = 1 := by omega
        rcases this with rfl | rfl
        · refine ⟨.nam false x, a2', b2', c2', fun d => hx, rfl, h0, h3, ?_⟩
          simp [m__law_simple, runDef, b__law_simple, e1, k3, e2, sD, Tk.lockS, Tk.Stm.held]
        · refine ⟨.nam false y, a2', b2', c2', fun d => hy, rfl, h0, h3, ?_⟩
          simp [m__law_simple, runDef, b__law_simple, e1, k3, e2, sD, Tk.lockS, Tk.Stm.held]
      · by_cases k4 : r = 9
        · refine ⟨.one .drop, a', b', c', fun d => by unfold Tk.Stm.ok; (intro h; cases h), rfl, h0, h3, ?_⟩
          simp [m__law_simple, runDef, b__law_simple, e1, k4, sD, Tk.Wd.s, Tk.Stm.held, Tk.Wd.held]
        · have gt : ∀ A, (m__law_simple [.loc p, .loc b, nmD x y z] (VQ S p b (pO a1 a2 a3) (bO n h)) = .ok A (VQ S p b (pO a' b' c') (bO n 0))) → ∀ w : Tk.Wd, w ≠ .take → w.held h = 0 → A = sD (.one w) → ∃ s c1 c2 c3, (∀ d, Tk.Stm.ok d s h) ∧ s.cnt = 1 ∧ 0 ≤ s.held h ∧ s.held h ≤ 3 ∧ m__law_simple [.loc p, .loc b, nmD x y z] (VQ S p b (pO a1 a2 a3) (bO n h)) = .ok (sD s) (VQ S p b (pO c1 c2 c3) (bO n (s.held h))) := by
            intro A hA w hw hh e
            refine ⟨.one w, a', b', c', fun d => by unfold Tk.Stm.ok; exact fun h => absurd h hw, rfl, ?_, ?_, ?_⟩
            · show 0 ≤ w.held h; rw [hh]; decide
            · show w.held h ≤ 3; rw [hh]; decide
            · rw [← e, hA]; show _ = R.ok A (VQ S p b _ (bO n (w.held h))); rw [hh]
          have kk : ∀ q : r < 5, ¬ h < 3 := fun q w => k1 ⟨q, w⟩
          by_cases k5 : r = 8
          · exact gt _ (by by_cases q : r < 5 <;> simp [m__law_simple, runDef, b__law_simple, e1, vb, sb, k5, ixN, sD, Tk.Wd.s]) .rollback (by decide) rfl rfl
          · by_cases k6 : r = 12
            · exact gt _ (by simp [m__law_simple, runDef, b__law_simple, e1, vb, sb, k6, ixN, sD, Tk.Wd.s]) .leave (by decide) rfl rfl
            · exact gt _ (by by_cases q : r < 5 <;> simp [m__law_simple, runDef, b__law_simple, e1, vb, sb, q, kk, k2, k3, k4, k5, k6, ixN, sD, Tk.Wd.s]) .commit (by decide) rfl rfl
end
end Mm
set_option maxRecDepth 100000
namespace Mm
open PySem L2
/-! behind a call that changes what stands below -/
def Upd (S S1 : Sto) : Prop := S1.length = S.length ∧ ∀ k, k < S.length → S1[k]? = S[k]? ∨ ∃ o, S1[k]? = some o ∧ o.lo 0 = true
theorem so_mono {n m : Nat} (h : n ≤ m) : ∀ o : SO, o.lo n = true → o.lo m = true
  | .lst ds, q => los_mono h ds q
  | .dic ks ds, q => los_mono h ds q
  | .ins k ds, q => los_mono h ds q
open Classical in
theorem trunc_upd {S S1 : Sto} (u : Upd S S1) (l : Sto) (d : D) : trunc S (.ok d (S1 ++ l)) = .ofO (rsvD S.length (S1 ++ l) d) S1 := by
  have tr : Tr S.length S (S1 ++ l) := fun k hk => by
    rw [List.getElem?_append_left (by rw [u.1]; exact hk)]
    rcases u.2 k hk with h | ⟨o, h, q⟩
    · exact .inl h
    · exact .inr ⟨o, h, so_mono (Nat.zero_le _) o q⟩
  unfold trunc
  dsimp only
  rw [R.if_pos tr, ← u.1, List.take_left' rfl]
theorem upd_V {S : Sto} {p b : Nat} {P B P' B' : SO} (hp : P'.lo 0 = true) (hb : B'.lo 0 = true) : Upd (VQ S p b P B) (VQ S p b P' B') := by
  refine ⟨by rw [V_len, V_len], fun k hk => ?_⟩
  rw [V_len] at hk
  unfold VQ
  by_cases h1 : k = b
  · right
    subst h1
    exact ⟨B', by rw [List.getElem?_set_self (by rw [List.length_set]; exact hk)], hb⟩
  · rw [List.getElem?_set_ne (Ne.symm h1), List.getElem?_set_ne (Ne.symm h1)]
    by_cases h2 : k = p
    · right
      subst h2
      exact ⟨P', List.getElem?_set_self hk, hp⟩
    · rw [List.getElem?_set_ne (Ne.symm h2), List.getElem?_set_ne (Ne.symm h2)]
      exact .inl rfl
theorem mLB_s (n : Nat) : mLB (n + 1) = m__law_branch' (mLB n) := rfl
theorem sDs_app (a b : List Tk.Stm) : sDs (a ++ b) = sDs a ++ sDs b := by rw [sDs_map, sDs_map, sDs_map, List.map_append]
/-- the loop's body -/
noncomputable def lbB (m : FM) : SM := (s_if (t_b (e_op gtD (e_op ixD (e_v 1) (e_k (.int 0))) (e_k (.int 0)))) (s_seq (s_put (e_op subD (e_op ixD (e_v 1) (e_k (.int 0))) (e_k (.int 1))) (e_v 1) (e_k (.int 0)))
  (s_if (t_and (t_b (e_op ltD (e_v 4) (e_k (.int 2)))) (t_b (e_op (eqD false) (e_fn tr0 m__law_draw (a_cons (e_v 0) (a_cons (e_k (.int 5)) a_nil))) (e_k (.int 0))))) (s_seq (s_set 7 (e_op ixD (e_v 1) (e_k (.int 1))))
  (s_seq (s_set 8 (e_fn trunc m (a_cons (e_v 0) (a_cons (e_v 1) (a_cons (e_v 2) (a_cons (e_fn tr0 m__law_draw (a_cons (e_v 0) (a_cons (e_k (.int 3)) a_nil))) (a_cons (e_op addD (e_v 4) (e_k (.int 1))) a_nil)))))))
  (s_seq (s_set 9 (e_op ixD (e_v 1) (e_k (.int 1))))
  (s_seq (s_put (e_v 7) (e_v 1) (e_k (.int 1)))
  (s_seq (s_set 10 (e_fn trunc m (a_cons (e_v 0) (a_cons (e_v 1) (a_cons (e_v 2) (a_cons (e_fn tr0 m__law_draw (a_cons (e_v 0) (a_cons (e_k (.int 3)) a_nil))) (a_cons (e_op addD (e_v 4) (e_k (.int 1))) a_nil)))))))
  (s_seq (s_put (e_call (f2 max2D) (a_cons (e_v 9) (a_cons (e_op ixD (e_v 1) (e_k (.int 1))) a_nil))) (e_v 1) (e_k (.int 1)))
  (s_ex (e_meth tyL appD (e_v 5) (a_cons (e_tup (a_cons (e_k (.str "choose")) (a_cons (e_v 8) (a_cons (e_v 10) a_nil)))) a_nil))))))))) (s_ex (e_meth tyL appD (e_v 5) (a_cons (e_fn tr0 m__law_simple (a_cons (e_v 0) (a_cons (e_v 1) (a_cons (e_v 2) a_nil)))) a_nil))))) s_nil)
theorem b_branch_eq (m : FM) : b__law_branch m = s_seq (s_set 5 (e_new a_nil)) (s_seq (s_for (i_rng1 (e_v 3)) (g_name 6) (lbB m)) (s_ret (e_call (f1 tupleD) (a_cons (e_v 5) a_nil)))) := rfl
structure Drawn (d : Nat) (k h k' h' : Int) (B : List Tk.Stm) : Prop where
  ok : Tk.okAll d B h
  held : Tk.heldAll B h = h'
  cnt : (Tk.cntAll B : Int) + k' = k
  k0 : 0 ≤ k'
  h0 : 0 ≤ h'
  h3 : h' ≤ 3
abbrev pB (x : Int × Int × Int) : SO := pO x.1 x.2.1 x.2.2
variable {x y z : Str}
/-- what the branch's function does, seen from a call -/
def BrOk (x y z : Str) (m : FM) (d : Nat) : Prop := ∀ (S : Sto) (p b : Nat) (P : Int × Int × Int) (L k h : Int), Two S p b → 0 ≤ L → L ≤ 8 → 0 ≤ k → k ≤ 8 → 0 ≤ h → h ≤ 3 →
    ∃ B P' k' h', Drawn d k h k' h' B ∧ (1 ≤ L → 1 ≤ k → B ≠ []) ∧ trunc (VQ S p b (pB P) (bO k h)) (m [.loc p, .loc b, nmD x y z, .int L, .int d] (VQ S p b (pB P) (bO k h))) = .ok (.tup (sDs B)) (VQ S p b (pB P') (bO k' h'))
set_option maxHeartbeats 1000000 in
theorem lb_step (hx : Tk.IsName x) (hy : Tk.IsName y) {m : FM} {d : Nat} (hd : d ≤ 2) (hm : d < 2 → BrOk x y z m (d + 1)) {S : Sto} {p b : Nat} (t : Two S p b) (P : Int × Int × Int) (k h : Int) (k1 : 1 ≤ k) (k8 : k ≤ 8) (h0 : 0 ≤ h) (h3 : h ≤ 3) (rows : List Tk.Stm) (hr : rows.length ≤ 8) (L : D) (x6 x7 x8 x9 x10 : Option D) :
    ∃ s P' k' h' y7 y8 y9 y10, Tk.Stm.ok d s h ∧ s.held h = h' ∧ (s.cnt : Int) + k' = k ∧ 0 ≤ k' ∧ 0 ≤ h' ∧ h' ≤ 3 ∧
      lbB m [some (.loc p), some (.loc b), some (nmD x y z), some L, some (.int d), some (.loc S.length), x6, x7, x8, x9, x10] (VQ (S ++ [.lst (sDs rows)]) p b (pB P) (bO k h)) = .next [some (.loc p), some (.loc b), some (nmD x y z), some L, some (.int d), some (.loc S.length), x6, y7, y8, y9, y10] (VQ (S ++ [.lst (sDs (rows ++ [s]))]) p b (pB P') (bO k' h')) := by
  have t1 := t.app [.lst (sDs rows)]
  have vb := fun P B => V_b (P := P) (B := B) t1
  have sb := fun P B B' => V_sb (S := S ++ [.lst (sDs rows)]) (p := p) (b := b) (P := P) (B := B) (B' := B')
  have vl := fun P B => V_last (P := P) (B := B) t (.lst (sDs rows))
  have sl := fun P B s => V_slast (P := P) (B := B) t (.lst (sDs rows)) (.lst (sDs (rows ++ [s])))
  have z1 : ((sDs rows).length < sizeLine) = True := eq_true (by rw [sDs_len]; have := szb; omega)
  have e1 : ∀ s, sDs rows ++ [sD s] = sDs (rows ++ [s]) := fun s => by rw [sDs_app]; rfl
  have k0 : (0 < k) = True := eq_true (by omega)
  obtain ⟨P1, P2, P3⟩ := P
  have simp1 : ∀ q1 q2 q3 : Int, ∃ s c1 c2 c3, (∀ d, Tk.Stm.ok d s h) ∧ s.cnt = 1 ∧ 0 ≤ s.held h ∧ s.held h ≤ 3 ∧ m__law_simple [.loc p, .loc b, nmD x y z] (VQ (S ++ [.lst (sDs rows)]) p b (pO q1 q2 q3) (bO (k - 1) h)) = .ok (sD s) (VQ (S ++ [.lst (sDs rows)]) p b (pO c1 c2 c3) (bO (k - 1) (s.held h))) := fun q1 q2 q3 => simple_eq t1 hx hy q1 q2 q3 (k - 1) h h0 h3
  by_cases hd2 : d < 2
  · obtain ⟨r, a', b', c', ed, r0, r1⟩ := drawV (B := bO (k - 1) h) t1 P1 P2 P3 (n := 5) (by decide) (by decide)
    have hd2' : ((d : Int) < 2) = True := eq_true (by omega)
    by_cases hr0 : r = 0
    · obtain ⟨L1, a2, b2, c2, e2, l0, l1⟩ := drawV (B := bO (k - 1) h) t1 a' b' c' (n := 3) (by decide) (by decide)
      obtain ⟨B1, Q1, k1', h1', D1, _, r1'⟩ := hm hd2 (S ++ [.lst (sDs rows)]) p b (a2, b2, c2) L1 (k - 1) h t1 l0 (by omega) (by omega) (by omega) h0 h3
      obtain ⟨Q11, Q12, Q13⟩ := Q1
      have := D1.cnt
      obtain ⟨L2, a3, b3, c3, e3, m0, m1⟩ := drawV (B := bO k1' h) t1 Q11 Q12 Q13 (n := 3) (by decide) (by decide)
      obtain ⟨B2, Q2, k2', h2', D2, _, r2'⟩ := hm hd2 (S ++ [.lst (sDs rows)]) p b (a3, b3, c3) L2 k1' h t1 m0 (by omega) D1.k0 (by omega) h0 h3
      have := D2.cnt
      have ec : ((d + 1 : Nat) : Int) = (d : Int) + 1 := by omega
      rw [ec] at r1' r2'
      have sl2 := fun P B => V_slast (P := P) (B := B) t (.lst (sDs rows)) (.lst (sDs rows ++ [.tup [.str "choose", .tup (sDs B1), .tup (sDs B2)]]))
      have g1 := D1.held
      have g2 := D2.held
      have eh : (if h1' < h2' then h2' else h1') = max h1' h2' := by split <;> omega
      have := D1.h0
      have := D1.h3
      have := D2.h0
      have := D2.h3
      refine ⟨.ch B1 B2, Q2, k2', max h1' h2', some (.int h), some (.tup (sDs B1)), some (.int h1'), some (.tup (sDs B2)), by unfold Tk.Stm.ok; exact ⟨hd2, D1.ok, D2.ok⟩, by show max _ _ = _; rw [g1, g2], by rw [Tk.Stm.cnt]; omega, D2.k0, by omega, by omega, ?_⟩
      rw [sDs_app]
      simp only [pB] at r1' r2'
      simp [lbB, vb, sb, k0, ixN, hd2', ed, hr0, e2, r1', e3, r2', vl, z1, sl2, eh, sDs, sD]
    · obtain ⟨s, c1, c2, c3, o1, o2, o3, o4, es⟩ := simp1 a' b' c'
      refine ⟨s, (c1, c2, c3), k - 1, s.held h, x7, x8, x9, x10, o1 d, rfl, by rw [o2]; omega, by omega, o3, o4, ?_⟩
      simp [lbB, vb, sb, k0, ixN, hd2', ed, hr0, es, vl, z1, e1, sl]
  · obtain ⟨s, c1, c2, c3, o1, o2, o3, o4, es⟩ := simp1 P1 P2 P3
    have hd2' : ((d : Int) < 2) = False := eq_false (by omega)
    refine ⟨s, (c1, c2, c3), k - 1, s.held h, x7, x8, x9, x10, o1 d, rfl, by rw [o2]; omega, by omega, o3, o4, ?_⟩
    simp [lbB, vb, sb, k0, ixN, hd2', es, vl, z1, e1, sl]
end Mm
set_option maxRecDepth 100000
namespace Mm
open PySem L2
variable {x y z : Str}
theorem br_loop (hx : Tk.IsName x) (hy : Tk.IsName y) {m : FM} {d : Nat} (hd : d ≤ 2) (hm : d < 2 → BrOk x y z m (d + 1)) {S : Sto} {p b : Nat} (t : Two S p b) (L : D) : ∀ (n : Nat) (lo : Int) (P : Int × Int × Int) (k h : Int) (rows : List Tk.Stm) (x6 x7 x8 x9 x10 : Option D), 0 ≤ k → k ≤ 8 → 0 ≤ h → h ≤ 3 → rows.length + n ≤ 8 →
    ∃ B P' k' h' y6 y7 y8 y9 y10, Drawn d k h k' h' B ∧ (1 ≤ n → 1 ≤ k → B ≠ []) ∧ 
      loopS (g_name 6) (lbB m) none (rngD lo n) [some (.loc p), some (.loc b), some (nmD x y z), some L, some (.int d), some (.loc S.length), x6, x7, x8, x9, x10] (VQ (S ++ [.lst (sDs rows)]) p b (pB P) (bO k h)) = .next [some (.loc p), some (.loc b), some (nmD x y z), some L, some (.int d), some (.loc S.length), y6, y7, y8, y9, y10] (VQ (S ++ [.lst (sDs (rows ++ B))]) p b (pB P') (bO k' h'))
  | 0, lo, P, k, h, rows, x6, x7, x8, x9, x10, k0, k8, h0, h3, hr => by
    refine ⟨[], P, k, h, x6, x7, x8, x9, x10, ⟨by unfold Tk.okAll; trivial, rfl, by rw [Tk.cntAll]; omega, k0, h0, h3⟩, fun q => by omega, ?_⟩
    unfold rngD; rw [loopS_nil, List.append_nil]
  | n + 1, lo, P, k, h, rows, x6, x7, x8, x9, x10, k0, k8, h0, h3, hr => by
    by_cases hk : 1 ≤ k
    · obtain ⟨s, P1, k1, h1, y7, y8, y9, y10, o1, o2, o3, o4, o5, o6, e⟩ := lb_step hx hy hd hm t P k h hk k8 h0 h3 rows (by omega) L (some (.int lo)) x7 x8 x9 x10
      obtain ⟨B, P', k', h', u6, u7, u8, u9, u10, D, _, e2⟩ := br_loop hx hy hd hm t L n (lo + 1) P1 k1 h1 (rows ++ [s]) (some (.int lo)) y7 y8 y9 y10 o4 (by omega) o5 o6 (by simp; omega)
      have := D.cnt
      refine ⟨s :: B, P', k', h', u6, u7, u8, u9, u10, ⟨by unfold Tk.okAll; exact ⟨o1, by rw [o2]; exact D.ok⟩, by unfold Tk.heldAll; rw [o2]; exact D.held, by rw [Tk.cntAll]; omega, D.k0, D.h0, D.h3⟩, fun _ _ => by simp, ?_⟩
      rw [show rows ++ s :: B = rows ++ [s] ++ B by simp, ← e2]
      show loopS _ _ none (.int lo :: rngD (lo + 1) n) _ _ = _
      rw [loopS_cons]
      simp [e]
    · have hk0 : k = 0 := by omega
      subst hk0
      obtain ⟨B, P', k', h', u6, u7, u8, u9, u10, D, _, e2⟩ := br_loop hx hy hd hm t L n (lo + 1) P 0 h rows (some (.int lo)) x7 x8 x9 x10 (by omega) (by omega) h0 h3 (by omega)
      refine ⟨B, P', k', h', u6, u7, u8, u9, u10, D, fun _ q => absurd q (by decide), ?_⟩
      rw [← e2]
      show loopS _ _ none (.int lo :: rngD (lo + 1) n) _ _ = _
      rw [loopS_cons]
      have vb := fun P B => V_b (P := P) (B := B) (t.app [.lst (sDs rows)])
      simp [lbB, vb]
theorem tupS_lo (B : List Tk.Stm) : (D.tup (sDs B)).lo 0 = true := by unfold D.lo; exact sDs_lo B
theorem mLB_ok (hx : Tk.IsName x) (hy : Tk.IsName y) : ∀ (n d : Nat), n + d = 2 → BrOk x y z (mLB (n + 1)) d
  | n, d, hnd, S, p, b, P, L, k, h, t, L0, L8, k0, k8, h0, h3 => by
    have hm : d < 2 → BrOk x y z (mLB n) (d + 1) := fun q => by
      cases n with
      | zero => omega
      | succ n => exact mLB_ok hx hy n (d + 1) (by omega)
    obtain ⟨B, P', k', h', y6, y7, y8, y9, y10, D, hne, e⟩ := br_loop hx hy (by omega) hm t (.int L) L.toNat 0 P k h [] none none none none none k0 k8 h0 h3 (by simp; omega)
    refine ⟨B, P', k', h', D, fun q1 q2 => hne (by omega) q2, ?_⟩
    have vl := fun P B' => V_last (P := P) (B := B') t (.lst (sDs B))
    have c1 : (-4611686018427387904 ≤ L) = True := eq_true (by omega)
    have c2 : (L < 4611686018427387904) = True := eq_true (by omega)
    have z1 : ((sDs B).length ≤ sizeLine) = True := eq_true (by
      rw [sDs_len]
      have := D.cnt
      have := D.k0
      have := Tk.len_le_cnt B
      have := szb
      omega)
    have e0 : VQ S p b (pB P) (bO k h) ++ [SO.lst []] = VQ (S ++ [.lst (sDs [])]) p b (pB P) (bO k h) := V_app t _
    have vlen := V_len (S := S) (p := p) (b := b) (P := pB P) (B := bO k h)
    have er : m__law_branch' (mLB n) [.loc p, .loc b, nmD x y z, .int L, .int d] (VQ S p b (pB P) (bO k h)) = .ok (.tup (sDs B)) (VQ S p b (pB P') (bO k' h') ++ [.lst (sDs B)]) := by
      rw [V_app t]
      simp only [List.nil_append] at e
      simp only [m__law_branch', runDef, b_branch_eq]
      simp [vlen, e0, c1, c2, e, vl, z1]
    rw [mLB_s, er, trunc_upd (upd_V rfl rfl), rsvD_lo (tupS_lo B)]; rfl
end Mm
set_option maxRecDepth 100000
namespace Mm
open PySem L2
variable {x y z : Str}
/-- a store with a pool at p, and what is new behind it -/
def U (S : Sto) (p : Nat) (P : SO) (l : Sto) : Sto := S.set p P ++ l
section
variable {S : Sto} {p : Nat} {P P' : SO} {l : Sto}
theorem U_get (k : Nat) : (U S p P l)[S.length + k]? = l[k]? := by
  unfold U; rw [List.getElem?_append_right (by simp)]; congr 1; simp
theorem U_set (k : Nat) (o : SO) : (U S p P l).set (S.length + k) o = U S p P (l.set k o) := by
  unfold U; rw [List.set_append_right _ _ (by simp)]; congr 2; simp
@[simp high] theorem U_get0 : (U S p P l)[S.length]? = l[0]? := U_get 0
@[simp high] theorem U_set0 (o : SO) : (U S p P l).set S.length o = U S p P (l.set 0 o) := U_set 0 o
theorem U_len : (U S p P l).length = S.length + l.length := by unfold U; simp
theorem U_app (m : Sto) : U S p P l ++ m = U S p P (l ++ m) := by unfold U; rw [List.append_assoc]
theorem U_p (hp : p < S.length) : (U S p P l)[p]? = some P := by
  unfold U; rw [List.getElem?_append_left (by rw [List.length_set]; exact hp), List.getElem?_set_self hp]
theorem U_sp (hp : p < S.length) : (U S p P l).set p P' = U S p P' l := by
  unfold U; rw [List.set_append_left _ _ (by rw [List.length_set]; exact hp), List.set_set]
theorem drawU (hp : p < S.length) (a b c : Int) (l : Sto) {n : Int} (n0 : 0 < n) (n1 : n < 1073741824) :
    ∃ r a' b' c', m__law_draw [.loc p, .int n] (U S p (pO a b c) l) = .ok (.int r) (U S p (pO a' b' c') l) ∧ 0 ≤ r ∧ r < n := by
  obtain ⟨r, a', b', c', e, h⟩ := draw_eq (U_p (l := l) (P := pO a b c) hp) n0 n1
  rw [U_sp hp] at e
  exact ⟨r, a', b', c', e, h⟩
theorem U_V (hp : p < S.length) (o : SO) (l0 : Sto) (B B' : SO) : VQ (S ++ (o :: (l0 ++ [B]))) p (S.length + (1 + l0.length)) P B' = U S p P (o :: (l0 ++ [B'])) := by
  unfold VQ U
  rw [List.set_append_left _ _ hp, List.set_append_right _ _ (by simp)]
  congr 1
  have e : S.length + (1 + l0.length) - (S.set p P).length = l0.length + 1 := by simp; omega
  rw [e, List.set_cons_succ, List.set_append_right _ _ (Nat.le_refl _), Nat.sub_self]; rfl
theorem U_two (hp : p < S.length) (o : SO) (l0 : Sto) (B : SO) : Two (S ++ (o :: (l0 ++ [B]))) p (S.length + (1 + l0.length)) := ⟨by simp; omega, by simp; omega, by omega⟩
end
theorem brU (hx : Tk.IsName x) (hy : Tk.IsName y) {S : Sto} {p : Nat} (hp : p < S.length) (o : SO) (l0 : Sto) (P : Int × Int × Int) (L k h : Int) (L0 : 0 ≤ L) (L8 : L ≤ 8) (k0 : 0 ≤ k) (k8 : k ≤ 8) (h0 : 0 ≤ h) (h3 : h ≤ 3) :
    ∃ B P' k' h', Drawn 0 k h k' h' B ∧ (1 ≤ L → 1 ≤ k → B ≠ []) ∧ trunc (U S p (pB P) (o :: (l0 ++ [bO k h]))) (m__law_branch [.loc p, .loc (S.length + (1 + l0.length)), nmD x y z, .int L, .int 0] (U S p (pB P) (o :: (l0 ++ [bO k h])))) = .ok (.tup (sDs B)) (U S p (pB P') (o :: (l0 ++ [bO k' h']))) := by
  obtain ⟨B, P', k', h', D1, hne, e⟩ := mLB_ok (z := z) hx hy 2 0 rfl (S ++ (o :: (l0 ++ [bO k h]))) p (S.length + (1 + l0.length)) P L k h (U_two hp o l0 _) L0 L8 k0 k8 h0 h3
  rw [U_V hp, U_V hp] at e
  exact ⟨B, P', k', h', D1, hne, e⟩
def rowD (k : KA) : D := .tup [.str k.nm, .tup (sDs k.sc), .int k.bl, .int k.mn]
noncomputable def bdB : SM := (s_seq (s_set 5 (e_op ixD (e_lst (a_cons (e_tup a_nil) (a_cons (e_tup (a_cons (e_tup (a_cons (e_k (.str "take")) a_nil)) a_nil)) a_nil))) (e_call (f1 intcD) (a_cons (e_op gtD (e_fn tr0 m__law_draw (a_cons (e_v 0) (a_cons (e_k (.int 3)) a_nil))) (e_k (.int 0))) a_nil))))
  (s_seq (s_set 6 (e_new (a_cons (e_op subD (e_v 1) (e_call (f1 lenD) (a_cons (e_v 5) a_nil))) (a_cons (e_call (f1 lenD) (a_cons (e_v 5) a_nil)) (a_cons (e_k (.int 3)) a_nil)))))
  (s_seq (s_set 7 (e_op addD (e_v 5) (e_fn trunc m__law_branch (a_cons (e_v 0) (a_cons (e_v 6) (a_cons (e_v 2) (a_cons (e_op addD (e_k (.int 1)) (e_fn tr0 m__law_draw (a_cons (e_v 0) (a_cons (e_op subD (e_v 1) (e_call (f1 lenD) (a_cons (e_v 5) a_nil))) a_nil)))) (a_cons (e_k (.int 0)) a_nil))))))))
  (s_ex (e_meth tyL appD (e_v 3) (a_cons (e_tup (a_cons (e_op ixD (e_v 2) (e_v 4)) (a_cons (e_v 7) (a_cons (e_op addD (e_k (.int 1)) (e_fn tr0 m__law_draw (a_cons (e_v 0) (a_cons (e_k (.int 3)) a_nil)))) (a_cons (e_op addD (e_k (.int 1)) (e_call (f1 intcD) (a_cons (e_op (eqD false) (e_fn tr0 m__law_draw (a_cons (e_v 0) (a_cons (e_k (.int 4)) a_nil))) (e_k (.int 0))) a_nil))) a_nil))))) a_nil))))))
structure RowOk (cap : Int) (nm : Str) (k : KA) : Prop where
  nm : k.nm = nm
  sc : GoodS k.sc
  few : (Tk.cntAll k.sc : Int) ≤ cap
  bl : 1 ≤ k.bl ∧ k.bl ≤ 3
  mn : k.mn = 1 ∨ k.mn = 2
set_option maxHeartbeats 1000000 in
theorem bd_step (hx : Tk.IsName x) (hy : Tk.IsName y) {S : Sto} {p : Nat} (hp : p < S.length) {cap : Int} (hc : cap = 4 ∨ cap = 8) (i : Nat) (nm : Str) (hi : atI [D.str x, D.str y, D.str z] (i : Int) = some (.str nm)) (P : Int × Int × Int) (rows : List KA) (hr : rows.length ≤ 2) (l0 : Sto) (x5 x6 x7 x8 : Option D) :
    ∃ k P' o y5 y6 y7, RowOk cap nm k ∧ bdB [some (.loc p), some (.int cap), some (nmD x y z), some (.loc S.length), some (.int i), x5, x6, x7, x8] (U S p (pB P) (.lst (rows.map rowD) :: l0)) = .next [some (.loc p), some (.int cap), some (nmD x y z), some (.loc S.length), some (.int i), y5, y6, y7, x8] (U S p (pB P') (.lst ((rows ++ [k]).map rowD) :: (l0 ++ [o]))) := by
  obtain ⟨P1, P2, P3⟩ := P
  obtain ⟨r, a1, b1, c1, e1, r0, r1⟩ := drawU hp P1 P2 P3 (.lst (rows.map rowD) :: l0) (n := 3) (by decide) (by decide)
  have z1 : (rows.length < sizeLine) = True := eq_true (by have := szb; omega)
  have ul : ∀ P : SO, (U S p P (.lst (rows.map rowD) :: l0)).length = S.length + (1 + l0.length) := fun P => by rw [U_len]; simp; omega
  by_cases hr0 : 0 < r
  · obtain ⟨L, a2, b2, c2, e2, L0, L1⟩ := drawU hp a1 b1 c1 (.lst (rows.map rowD) :: (l0 ++ [bO (cap - 1) 1])) (n := cap - 1) (by omega) (by omega)
    obtain ⟨B, Q, k', h', D1, hne, e3⟩ := brU (z := z) hx hy hp (.lst (rows.map rowD)) l0 (a2, b2, c2) (1 + L) (cap - 1) 1 (by omega) (by omega) (by omega) (by omega) (by decide) (by decide)
    obtain ⟨Q1, Q2, Q3⟩ := Q
    obtain ⟨u, a4, b4, c4, e4, u0, u1⟩ := drawU hp Q1 Q2 Q3 (.lst (rows.map rowD) :: (l0 ++ [bO k' h'])) (n := 3) (by decide) (by decide)
    obtain ⟨v, a5, b5, c5, e5, v0, v1⟩ := drawU hp a4 b4 c4 (.lst (rows.map rowD) :: (l0 ++ [bO k' h'])) (n := 4) (by decide) (by decide)
    have dc := D1.cnt
    have dk := D1.k0
    have zB : (1 + (sDs B).length ≤ sizeLine) = True := eq_true (by rw [sDs_len]; have := Tk.len_le_cnt B; have := szb; omega)
    refine ⟨⟨nm, .one .take :: B, 1 + u, if v = 0 then 2 else 1⟩, (a5, b5, c5), bO k' h', some (.tup [.tup [.str "take"]]), some (.loc (S.length + (1 + l0.length))), some (.tup (sDs (.one .take :: B))), ⟨rfl, ⟨by unfold Tk.okAll; exact ⟨by unfold Tk.Stm.ok; intro _; decide, D1.ok⟩, by rw [Tk.cntAll]; simp [Tk.Stm.cnt]; omega, by simp⟩, by show ((Tk.cntAll (.one .take :: B) : Nat) : Int) ≤ cap; rw [Tk.cntAll]; simp [Tk.Stm.cnt]; omega, ⟨by show 1 ≤ 1 + u; omega, by show 1 + u ≤ 3; omega⟩, by show (if v = 0 then 2 else 1) = 1 ∨ _; split <;> simp⟩, ?_⟩
    simp only [pB] at e3 ⊢
    simp [bdB, e1, hr0, ul, U_app, e2, e3, zB, hi, e4, e5, U_get0, U_set0, z1, rowD, sDs, sD, Tk.Wd.s]
    by_cases hv : v = 0 <;> simp [hv]
  · have hr0' : r = 0 := by omega
    subst hr0'
    obtain ⟨L, a2, b2, c2, e2, L0, L1⟩ := drawU hp a1 b1 c1 (.lst (rows.map rowD) :: (l0 ++ [bO cap 0])) (n := cap) (by omega) (by omega)
    obtain ⟨B, Q, k', h', D1, hne, e3⟩ := brU (z := z) hx hy hp (.lst (rows.map rowD)) l0 (a2, b2, c2) (1 + L) cap 0 (by omega) (by omega) (by omega) (by omega) (by decide) (by decide)
    obtain ⟨Q1, Q2, Q3⟩ := Q
    obtain ⟨u, a4, b4, c4, e4, u0, u1⟩ := drawU hp Q1 Q2 Q3 (.lst (rows.map rowD) :: (l0 ++ [bO k' h'])) (n := 3) (by decide) (by decide)
    obtain ⟨v, a5, b5, c5, e5, v0, v1⟩ := drawU hp a4 b4 c4 (.lst (rows.map rowD) :: (l0 ++ [bO k' h'])) (n := 4) (by decide) (by decide)
    have dc := D1.cnt
    have dk := D1.k0
    have zB : ((sDs B).length ≤ sizeLine) = True := eq_true (by rw [sDs_len]; have := Tk.len_le_cnt B; have := szb; omega)
    refine ⟨⟨nm, B, 1 + u, if v = 0 then 2 else 1⟩, (a5, b5, c5), bO k' h', some (.tup []), some (.loc (S.length + (1 + l0.length))), some (.tup (sDs B)), ⟨rfl, ⟨D1.ok, by show Tk.cntAll B ≤ 8; omega, hne (by omega) (by omega)⟩, by show ((Tk.cntAll B : Nat) : Int) ≤ cap; omega, ⟨by show 1 ≤ 1 + u; omega, by show 1 + u ≤ 3; omega⟩, by show (if v = 0 then 2 else 1) = 1 ∨ _; split <;> simp⟩, ?_⟩
    simp only [pB] at e3 ⊢
    simp [bdB, e1, ul, U_app, e2, e3, zB, hi, e4, e5, U_get0, U_set0, z1, rowD]
    by_cases hv : v = 0 <;> simp [hv]
end Mm
set_option maxRecDepth 100000
namespace Mm
open PySem L2
variable {x y z : Str}
theorem upd_U {S : Sto} {p : Nat} {P P' : SO} {l : Sto} (hp : p < S.length) (h : P'.lo 0 = true) : Upd (U S p P l) (U S p P' l) := by
  refine ⟨by rw [U_len, U_len], fun k hk => ?_⟩
  by_cases e : k = p
  · subst e; exact .inr ⟨P', U_p hp, h⟩
  · left
    rw [← U_sp (P := P) hp, List.getElem?_set_ne (Ne.symm e)]
def builtD (y : YA) : D := .lst [.lst (y.ks.map rowD), .int y.ah, wiD y.wi, .int y.cr]
theorem row_lo (k : KA) : (rowD k).lo 0 = true := by unfold rowD; simp only [D.lo, los, sDs_lo, Bool.and_self]
theorem row_dp {k : KA} (g : GoodS k.sc) : (rowD k).dp ≤ 7 := by
  have := sDs_dp k.sc 0 0 g.ok (by decide)
  unfold rowD; simp only [D.dp, dps]; omega
theorem rowk {cap : Int} {nm : Str} {k : KA} (r : RowOk cap nm k) (h : Tk.IsName nm) : GoodK k := ⟨by rw [r.nm]; exact h, r.sc, r.bl, by rcases r.mn with e | e <;> omega⟩
theorem rowk1 {cap : Int} {nm : Str} {k : KA} (r : RowOk cap nm k) (h : Tk.IsName nm) : GoodK { k with mn := 1 } := ⟨by show Tk.IsName k.nm; rw [r.nm]; exact h, r.sc, r.bl, by show 1 ≤ 1 ∧ 1 ≤ 3; decide⟩
theorem good_one {k : KA} (g : GoodK k) (h2 : k.mn ≤ 2) (ah : Int) (wi : Option Int) (cr : Int) (a0 : 0 ≤ ah) (a4 : ah ≤ 4) (w : ∀ v, wi = some v → 3 ≤ v ∧ v ≤ 8) (c0 : 0 ≤ cr) (c2 : cr ≤ 2) : GoodY ⟨[k], ah, wi, cr⟩ := by
  have e : YA.ses ⟨[k], ah, wi, cr⟩ = List.replicate k.mn k := by simp [YA.ses]
  refine ⟨fun k' h => by rw [List.mem_singleton] at h; rw [h]; exact g, by simp, by simp, by rw [e, List.length_replicate]; omega, fun h => by rw [e, List.length_replicate] at h; omega, ⟨a0, a4⟩, fun v hv => ⟨(w v hv).2, fun k' h => by rw [List.mem_singleton] at h; rw [h]; have := g.bl; have := w v hv; omega⟩, ⟨c0, c2⟩⟩
theorem good_two {k k2 : KA} (g : GoodK k) (g2 : GoodK k2) (hn : k.nm ≠ k2.nm) (h3 : k.mn + k2.mn ≤ 3) (hs : k.mn + k2.mn = 3 → Tk.cntAll k.sc ≤ 4 ∧ Tk.cntAll k2.sc ≤ 4) (ah : Int) (wi : Option Int) (cr : Int) (a0 : 0 ≤ ah) (a4 : ah ≤ 4) (w : ∀ v, wi = some v → 3 ≤ v ∧ v ≤ 8) (c0 : 0 ≤ cr) (c2 : cr ≤ 2) : GoodY ⟨[k, k2], ah, wi, cr⟩ := by
  have e : YA.ses ⟨[k, k2], ah, wi, cr⟩ = List.replicate k.mn k ++ List.replicate k2.mn k2 := by simp [YA.ses]
  have el : (YA.ses ⟨[k, k2], ah, wi, cr⟩).length = k.mn + k2.mn := by rw [e]; simp
  have mm : ∀ k', k' ∈ [k, k2] → k' = k ∨ k' = k2 := fun k' h => by simpa using h
  refine ⟨fun k' h => ?_, by simp [hn], by simp, by rw [el]; exact h3, fun h k' hk => ?_, ⟨a0, a4⟩, fun v hv => ⟨(w v hv).2, fun k' h => ?_⟩, ⟨c0, c2⟩⟩
  · rcases mm k' h with rfl | rfl
    · exact g
    · exact g2
  · rw [el] at h
    rcases mm k' hk with rfl | rfl
    · exact (hs h).1
    · exact (hs h).2
  · have := w v hv
    rcases mm k' h with rfl | rfl
    · have := g.bl; omega
    · have := g2.bl; omega
noncomputable def bdT : SM := (s_seq (s_set 8 (e_op ixD (e_lst (a_cons (e_k .non) (a_cons (e_op addD (e_k (.int 3)) (e_fn tr0 m__law_draw (a_cons (e_v 0) (a_cons (e_k (.int 6)) a_nil)))) a_nil))) (e_fn tr0 m__law_draw (a_cons (e_v 0) (a_cons (e_k (.int 2)) a_nil)))))
  (s_ret (e_lst (a_cons (e_v 3) (a_cons (e_fn tr0 m__law_draw (a_cons (e_v 0) (a_cons (e_k (.int 5)) a_nil))) (a_cons (e_v 8) (a_cons (e_fn tr0 m__law_draw (a_cons (e_v 0) (a_cons (e_k (.int 3)) a_nil))) a_nil)))))))
noncomputable def bdI : SM := (s_seq (s_if (t_and (t_b (e_op (eqD false) (e_call (f1 lenD) (a_cons (e_v 3) a_nil)) (e_k (.int 2)))) (t_or (t_b (e_op (eqD false) (e_op ixD (e_op ixD (e_v 3) (e_k (.int 0))) (e_k (.int 3))) (e_k (.int 2)))) (t_b (e_op gtD (e_v 1) (e_k (.int 4)))))) (s_put (e_op addD (e_sl (e_op ixD (e_v 3) (e_k (.int 1))) o_none (o_some (e_k (.int 3)))) (e_tup (a_cons (e_k (.int 1)) a_nil))) (e_v 3) (e_k (.int 1))) s_nil)
  (s_seq (s_if (t_and (t_b (e_op (eqD false) (e_call (f1 lenD) (a_cons (e_v 3) a_nil)) (e_k (.int 2)))) (t_b (e_op gtD (e_v 1) (e_k (.int 4))))) (s_put (e_op addD (e_sl (e_op ixD (e_v 3) (e_k (.int 0))) o_none (o_some (e_k (.int 3)))) (e_tup (a_cons (e_k (.int 1)) a_nil))) (e_v 3) (e_k (.int 0))) s_nil)
  bdT))
theorem b_build_eq : b__law_build = s_seq (s_set 2 (e_fn trunc m__law_names (a_cons (e_v 0) a_nil))) (s_seq (s_set 3 (e_new a_nil)) (s_seq (s_for (i_rng1 (e_op addD (e_k (.int 1)) (e_call (f1 intcD) (a_cons (e_op gtD (e_fn tr0 m__law_draw (a_cons (e_v 0) (a_cons (e_k (.int 5)) a_nil))) (e_k (.int 0))) a_nil)))) (g_name 4) bdB) bdI)) := rfl
/-- the end: the window, the values -/
theorem bdT_eq {S : Sto} {p : Nat} (hp : p < S.length) (P : Int × Int × Int) (ks : List KA) (l0 : Sto) (a b : Option D) (x4 x5 x6 x7 x8 : Option D) :
    ∃ (ah : Int) (wi : Option Int) (cr : Int) (P' : Int × Int × Int), 0 ≤ ah ∧ ah ≤ 4 ∧ (∀ v, wi = some v → 3 ≤ v ∧ v ≤ 8) ∧ 0 ≤ cr ∧ cr ≤ 2 ∧
      bdT [some (.loc p), a, b, some (.loc S.length), x4, x5, x6, x7, x8] (U S p (pB P) (.lst (ks.map rowD) :: l0)) = .ret (.lst [.loc S.length, .int ah, wiD wi, .int cr]) (U S p (pB P') (.lst (ks.map rowD) :: l0)) := by
  obtain ⟨P1, P2, P3⟩ := P
  obtain ⟨r, a1, b1, c1, e1, r0, r1⟩ := drawU hp P1 P2 P3 (.lst (ks.map rowD) :: l0) (n := 6) (by decide) (by decide)
  obtain ⟨u, a2, b2, c2, e2, u0, u1⟩ := drawU hp a1 b1 c1 (.lst (ks.map rowD) :: l0) (n := 2) (by decide) (by decide)
  obtain ⟨ah, a3, b3, c3, e3, h0, h1⟩ := drawU hp a2 b2 c2 (.lst (ks.map rowD) :: l0) (n := 5) (by decide) (by decide)
  obtain ⟨cr, a4, b4, c4, e4, q0, q1⟩ := drawU hp a3 b3 c3 (.lst (ks.map rowD) :: l0) (n := 3) (by decide) (by decide)
  have hu : u = 0 ∨ u = 1 := by omega
  rcases hu with rfl | rfl
  · refine ⟨ah, none, cr, (a4, b4, c4), h0, by omega, (fun v h => by cases h), q0, by omega, ?_⟩
    simp [bdT, e1, e2, e3, e4]
  · refine ⟨ah, some (3 + r), cr, (a4, b4, c4), h0, by omega, (fun v h => by cases h; omega), q0, by omega, ?_⟩
    simp [bdT, e1, e2, e3, e4]
theorem built_trunc {S : Sto} {p : Nat} (hp : p < S.length) {P P' : Int × Int × Int} {y : YA} (g : ∀ k ∈ y.ks, GoodS k.sc) (l0 : Sto) :
    trunc (S.set p (pB P)) (.ok (.lst [.loc S.length, .int y.ah, wiD y.wi, .int y.cr]) (U S p (pB P') (.lst (y.ks.map rowD) :: l0))) = .ok (builtD y) (S.set p (pB P')) := by
  have u : Upd (S.set p (pB P)) (S.set p (pB P')) := by
    have := upd_U (S := S) (p := p) (P := pB P) (P' := pB P') (l := []) hp rfl
    unfold U at this
    simpa using this
  have rl : los 0 (y.ks.map rowD) = true := los_all fun d hd => by
    obtain ⟨k, _, rfl⟩ := List.mem_map.mp hd
    exact row_lo k
  have rd : dps (y.ks.map rowD) ≤ 7 := dps_all fun d hd => by
    obtain ⟨k, hk, rfl⟩ := List.mem_map.mp hd
    exact row_dp (g k hk)
  have r1 := rsvs_pure (n := S.length) (S := U S p (pB P') (.lst (y.ks.map rowD) :: l0)) 10 (y.ks.map rowD) rl (.inl (by omega))
  have g0 : (U S p (pB P') (.lst (y.ks.map rowD) :: l0))[S.length]? = some (.lst (y.ks.map rowD)) := U_get0
  have ul : (S.set p (pB P)).length = S.length := List.length_set
  rw [show U S p (pB P') (.lst (y.ks.map rowD) :: l0) = S.set p (pB P') ++ (.lst (y.ks.map rowD) :: l0) from rfl, trunc_upd u, ← show U S p (pB P') (.lst (y.ks.map rowD) :: l0) = S.set p (pB P') ++ (.lst (y.ks.map rowD) :: l0) from rfl, ul]
  have e : rsvD S.length (U S p (pB P') (.lst (y.ks.map rowD) :: l0)) (.lst [.loc S.length, .int y.ah, wiD y.wi, .int y.cr]) = some (builtD y) := by
    unfold rsvD
    have hl : D.lo S.length (.lst [.loc S.length, .int y.ah, wiD y.wi, .int y.cr]) = false := by simp [D.lo, los]
    rw [hl, if_neg (by decide)]
    have e4 := rsv_wi S.length (U S p (pB P') (.lst (y.ks.map rowD) :: l0)) 10 y.wi
    simp only [rsv, rsvs, Nat.lt_irrefl, if_false, g0, r1, e4]
    rfl
  rw [e]; rfl
set_option maxHeartbeats 2000000 in
theorem build_eq {S : Sto} {p : Nat} (hp : p < S.length) {cap : Int} (hc : cap = 4 ∨ cap = 8) (P : Int × Int × Int) :
    ∃ y P', GoodY y ∧ (y.ks.length = 1 ∨ y.ks.length = 2) ∧ trunc (S.set p (pB P)) (m__law_build [.loc p, .int cap] (S.set p (pB P))) = .ok (builtD y) (S.set p (pB P')) := by
  obtain ⟨P1, P2, P3⟩ := P
  obtain ⟨x, y, z, a1, b1, c1, e1, hx, hy, hxy⟩ := names_eq hp P1 P2 P3
  have t1 : trunc (S.set p (pO P1 P2 P3)) (m__law_names [.loc p] (S.set p (pO P1 P2 P3))) = .ok (nmD x y z) (S.set p (pO a1 b1 c1)) := by
    have u : Upd (S.set p (pO P1 P2 P3)) (S.set p (pO a1 b1 c1)) := by
      have := upd_U (S := S) (p := p) (P := pO P1 P2 P3) (P' := pO a1 b1 c1) (l := []) hp rfl
      unfold U at this
      simpa using this
    have := trunc_upd u [] (nmD x y z)
    rw [e1]
    simp only [List.append_nil] at this
    rw [this, rsvD_lo rfl]; rfl
  obtain ⟨r, a2, b2, c2, e2, r0, r1⟩ := drawU hp a1 b1 c1 [.lst []] (n := 5) (by decide) (by decide)
  obtain ⟨k0, Q0, o0, y5, y6, y7, R0, s0⟩ := bd_step (z := z) hx hy hp hc 0 x rfl (a2, b2, c2) [] (by decide) [] none none none none
  have ul : (S.set p (pO a1 b1 c1)).length = S.length := List.length_set
  have u0 : S.set p (pO a1 b1 c1) ++ [SO.lst []] = U S p (pO a1 b1 c1) [.lst []] := rfl
  simp only [List.map_nil, List.map_cons, List.nil_append, pB, show ((0 : Nat) : Int) = 0 from rfl] at s0
  by_cases hr : 0 < r
  · obtain ⟨k1, Q1, o1, v5, v6, v7, R1, s1⟩ := bd_step (z := z) hx hy hp hc 1 y rfl Q0 [k0] (by show 1 ≤ 2; decide) [o0] y5 y6 y7 none
    simp only [List.map_nil, List.map_cons, List.cons_append, List.nil_append, pB, show ((1 : Nat) : Int) = 1 from rfl] at s1
    have gk := rowk R0 hx
    have gk1 := rowk R1 hy
    have gm := rowk1 R0 hx
    have gm1 := rowk1 R1 hy
    have hn : k0.nm ≠ k1.nm := by rw [R0.nm, R1.nm]; exact hxy
    have l1 : rngD 0 2 = [.int 0, .int 1] := rfl
    have cut3 : ∀ a b c d : D, cutD [a, b, c, d] none (some 3) = [a, b, c] := fun a b c d => by simp [cutD, HT.sIx]
    have fin : ∀ ks : List KA, (∀ k ∈ ks, GoodS k.sc) → (∀ (ah : Int) (wi : Option Int) (cr : Int), 0 ≤ ah → ah ≤ 4 → (∀ v, wi = some v → 3 ≤ v ∧ v ≤ 8) → 0 ≤ cr → cr ≤ 2 → GoodY ⟨ks, ah, wi, cr⟩) → ks.length = 2 →
        (∀ v, bdI [some (.loc p), some (.int cap), some (nmD x y z), some (.loc S.length), some (.int 1), v5, v6, v7, none] (U S p (pO Q1.1 Q1.2.1 Q1.2.2) (.lst [rowD k0, rowD k1] :: [o0, o1])) = v → bdT [some (.loc p), some (.int cap), some (nmD x y z), some (.loc S.length), some (.int 1), v5, v6, v7, none] (U S p (pO Q1.1 Q1.2.1 Q1.2.2) (.lst (ks.map rowD) :: [o0, o1])) = v) →
        ∃ y P', GoodY y ∧ (y.ks.length = 1 ∨ y.ks.length = 2) ∧ trunc (S.set p (pB (P1, P2, P3))) (m__law_build [.loc p, .int cap] (S.set p (pB (P1, P2, P3)))) = .ok (builtD y) (S.set p (pB P')) := by
      intro ks hg hy' hl hb
      obtain ⟨ah, wi, cr, P', h0, h4, hw, q0, q2, eT⟩ := bdT_eq hp Q1 ks [o0, o1] (some (.int cap)) (some (nmD x y z)) (some (.int 1)) v5 v6 v7 none
      refine ⟨⟨ks, ah, wi, cr⟩, P', hy' ah wi cr h0 h4 hw q0 q2, .inr hl, ?_⟩
      have hb' := hb _ rfl
      simp only [pB] at eT
      rw [hb'] at eT
      have e : m__law_build [.loc p, .int cap] (S.set p (pB (P1, P2, P3))) = .ok (.lst [.loc S.length, .int ah, wiD wi, .int cr]) (U S p (pB P') (.lst (ks.map rowD) :: [o0, o1])) := by
        simp only [m__law_build, runDef, b_build_eq]
        simp [t1, ul, u0, e2, hr, l1, s0, s1, eT]
      rw [e]
      exact built_trunc hp (y := ⟨ks, ah, wi, cr⟩) hg [o0, o1]
    rcases hc with rfl | rfl
    · by_cases hm : k0.mn = 2
      · refine fin [k0, { k1 with mn := 1 }] (by simp [gk.sc, gm1.sc]) (fun ah wi cr h0 h4 hw q0 q2 => good_two gk gm1 hn (by show k0.mn + 1 ≤ 3; omega) (fun _ => ⟨by have := R0.few; omega, by have := R1.few; show Tk.cntAll k1.sc ≤ 4; omega⟩) ah wi cr h0 h4 hw q0 q2) rfl fun v hv => ?_
        rw [← hv]
        simp [bdI, U_get0, U_set0, rowD, hm, cut3, ixN]
      · have hm1 : k0.mn = 1 := by rcases R0.mn with h | h; exact h; exact absurd h hm
        refine fin [k0, k1] (by simp [gk.sc, gk1.sc]) (fun ah wi cr h0 h4 hw q0 q2 => good_two gk gk1 hn (by rcases R1.mn with h | h <;> omega) (fun _ => ⟨by have := R0.few; omega, by have := R1.few; omega⟩) ah wi cr h0 h4 hw q0 q2) rfl fun v hv => ?_
        rw [← hv]
        simp [bdI, U_get0, U_set0, rowD, hm1]
    · refine fin [{ k0 with mn := 1 }, { k1 with mn := 1 }] (by simp [gm.sc, gm1.sc]) (fun ah wi cr h0 h4 hw q0 q2 => good_two gm gm1 hn (by show 1 + 1 ≤ 3; decide) (fun h => by have : 1 + 1 = 3 := h; omega) ah wi cr h0 h4 hw q0 q2) rfl fun v hv => ?_
      rw [← hv]
      rcases R0.mn with hm | hm <;> simp [bdI, U_get0, U_set0, rowD, hm, cut3, ixN]
  · obtain ⟨ah, wi, cr, P', h0, h4, hw, q0, q2, eT⟩ := bdT_eq hp Q0 [k0] [o0] (some (.int cap)) (some (nmD x y z)) (some (.int 0)) y5 y6 y7 none
    have gk := rowk R0 hx
    refine ⟨⟨[k0], ah, wi, cr⟩, P', good_one gk (by rcases R0.mn with h | h <;> omega) ah wi cr h0 h4 hw q0 q2, .inl rfl, ?_⟩
    have l1 : rngD 0 1 = [.int 0] := rfl
    simp only [pB, List.map_cons, List.map_nil] at eT
    have e : m__law_build [.loc p, .int cap] (S.set p (pB (P1, P2, P3))) = .ok (.lst [.loc S.length, .int ah, wiD wi, .int cr]) (U S p (pB P') (.lst ([k0].map rowD) :: [o0])) := by
      simp only [m__law_build, runDef, b_build_eq]
      simp [t1, ul, u0, e2, hr, l1, s0]
      simp [bdI, U_get0, eT]
    rw [e]
    exact built_trunc hp (y := ⟨[k0], ah, wi, cr⟩) (fun k hk => by rw [List.mem_singleton] at hk; rw [hk]; exact gk.sc) [o0]
end Mm
set_option maxRecDepth 100000
namespace Mm
open PySem L2
theorem scr_lo (B : List Tk.Stm) : (scrD B).lo 0 = true := by
  unfold scrD; simp only [D.lo, los, sDs_lo, stms_lo, plcs_lo, Bool.and_self]
theorem scr_dp {B : List Tk.Stm} (g : GoodS B) : (scrD B).dp ≤ 7 := by
  have := sDs_dp B 0 0 g.ok (by decide)
  have := stms_dp g
  have := plcs_dp (plcs (wk B))
  unfold scrD; simp only [D.dp, dps]; omega
theorem kin_lo (k : KA) : (kinD k).lo 0 = true := by
  unfold kinD; simp only [D.lo, los, scr_lo, Bool.and_self]
theorem kin_dp {k : KA} (g : GoodK k) : (kinD k).dp ≤ 8 := by
  have := scr_dp g.sc
  unfold kinD; simp only [D.dp, dps]; omega
theorem script_of_eq {B : List Tk.Stm} (g : GoodS B) (S : Sto) : m_script_of [.tup (sDs B)] S = .ok (scrD B) S := by
  have := script_mk g
  simp [m_script_of, runDef, b_script_of, isiD, kt_Script, this]
theorem kind_mk {k : KA} (g : GoodK k) (S : Sto) : trunc S (mkDk 4 m_Kind___init__ (fun x => gKind x [.str k.nm, .tup (sDs k.sc)] [.int k.bl, .int k.mn]) S) = .ok (kinD k) S := by
  have b1 := (And.intro g.bl g.mn)
  have n0 : (1 : Int) ≤ k.mn := by have := g.mn; omega
  have n3 : (k.mn : Int) ≤ 3 := by have := g.mn; omega
  have nm := fun S => is_name_ok g.nm S
  have so := fun S => script_of_eq g.sc S
  have r1 := fun S' => rsv_pure (n := S.length) (S := S') 11 (scrD k.sc) (scr_lo _) (by have := scr_dp g.sc; omega)
  simp [mkDk, gKind, m_Kind___init__, runDef, b_Kind___init__, nm, so, g.bl.1, g.bl.2, n0, n3, setF, List.lookup, rsvD, rsv, rsvs, D.lo, los, r1, kinD]
open Classical in
theorem len_own (B : List Tk.Stm) (S : Sto) (h : Tk.cntAll B ≤ 8) : lenOwnD 1 m_Script___len__ (scrD B) S = .ok (.int (Tk.cntAll B)) S := by
  have e := len_eq B S
  have hP : (0 ≤ (Tk.cntAll B : Int) ∧ (Tk.cntAll B : Int) < 2 ^ 63) := ⟨Int.natCast_nonneg _, Int.lt_of_le_of_lt (Int.ofNat_le.mpr h) (by decide +kernel)⟩
  rw [lenOwnD_eq, R.if_pos (isI_scr B S), e, R.nox_ok, R.bind_ok]
  dsimp only
  rw [R.if_pos hP]
@[simp] theorem kin_ty (k : KA) (S : Sto) : tyOf S (kinD k) = some (.inr 4) := rfl
@[simp] theorem within_non (lo hi : Int) (S : Sto) : m_is_within [.non, .int lo, .int hi] S = .ok (.bl false) S := by
  have h : ktB "int" (.inl "NoneType") = some false := by decide +kernel
  simp [m_is_within, runDef, b_is_within, m_is_integer, b_is_integer, isiD, h]
theorem fault_sys1 {k : KA} (gk : GoodK k) (hs : k.mn = 3 → Tk.cntAll k.sc ≤ 4) {ah cr : Int} {wi : Option Int} (a : 0 ≤ ah ∧ ah ≤ 4) (hw : ∀ w, wi = some w → w ≤ 8 ∧ k.bl ≤ w) (c : 0 ≤ cr ∧ cr ≤ 2) (S : Sto) : m_fault_of_system [.tup [kinD k], .int ah, wiD wi, .int cr] S = .ok .non S := by
  have n3' : ((k.mn : Int) ≤ 3) = True := eq_true (by have := gk.mn; omega)
  have co : ∀ S, m_count_of_sessions [.tup [kinD k]] S = .ok (.int k.mn) S := fun S => by
    simp [m_count_of_sessions, runDef, b_count_of_sessions, wipeE, sumD]
  have mn1 : LenS.many [k.nm] 1 = 1 := by simp [LenS.many]
  have ar : ∀ S, m_are_kinds [.tup [kinD k]] S = .ok (.bl true) S := fun S => by
    simp [m_are_kinds, runDef, b_are_kinds, wipeE, isiD, kt_Kind, allD, lensD, mn1, co, n3']
  have l1 := fun S => len_own k.sc S gk.sc.cnt
  by_cases h3 : k.mn = 3
  · have h3' : ((k.mn : Int) = 3) = True := eq_true (by omega)
    have ml : ((4 : Int) < (Tk.cntAll k.sc : Int)) = False := eq_false (by have := hs h3; omega)
    cases wi with
    | none => simp -implicitDefEqProofs [m_fault_of_system, runDef, b_fault_of_system, ar, co, wipeE, maxD, h3', maxL, a.1, a.2, c.1, c.2, l1, ml, -lenOwnD_eq]
    | some w =>
      have := hw w rfl
      simp -implicitDefEqProofs [m_fault_of_system, runDef, b_fault_of_system, ar, co, wipeE, maxD, h3', maxL, a.1, a.2, c.1, c.2, this.1, this.2, l1, ml, -lenOwnD_eq]
  · have h3' : ((k.mn : Int) = 3) = False := eq_false (by omega)
    cases wi with
    | none => simp -implicitDefEqProofs [m_fault_of_system, runDef, b_fault_of_system, ar, co, wipeE, maxD, h3', maxL, a.1, a.2, c.1, c.2]
    | some w =>
      have := hw w rfl
      simp -implicitDefEqProofs [m_fault_of_system, runDef, b_fault_of_system, ar, co, wipeE, maxD, h3', maxL, a.1, a.2, c.1, c.2, this.1, this.2]
theorem fault_sys2 {k k2 : KA} (gk : GoodK k) (gk2 : GoodK k2) (hn : k.nm ≠ k2.nm) (hm : k.mn + k2.mn ≤ 3) (hs : k.mn + k2.mn = 3 → Tk.cntAll k.sc ≤ 4 ∧ Tk.cntAll k2.sc ≤ 4) {ah cr : Int} {wi : Option Int} (a : 0 ≤ ah ∧ ah ≤ 4) (hw : ∀ w, wi = some w → w ≤ 8 ∧ k.bl ≤ w ∧ k2.bl ≤ w) (c : 0 ≤ cr ∧ cr ≤ 2) (S : Sto) : m_fault_of_system [.tup [kinD k, kinD k2], .int ah, wiD wi, .int cr] S = .ok .non S := by
  have n3' : ((k.mn : Int) + (k2.mn : Int) ≤ 3) = True := eq_true (by omega)
  have co : ∀ S, m_count_of_sessions [.tup [kinD k, kinD k2]] S = .ok (.int ((k.mn : Int) + k2.mn)) S := fun S => by
    simp [m_count_of_sessions, runDef, b_count_of_sessions, wipeE, sumD]
  have mn2 : LenS.many [k.nm, k2.nm] 2 = 2 := by simp [LenS.many, hn]
  have ar : ∀ S, m_are_kinds [.tup [kinD k, kinD k2]] S = .ok (.bl true) S := fun S => by
    simp [m_are_kinds, runDef, b_are_kinds, wipeE, isiD, kt_Kind, allD, lensD, mn2, co, n3']
  have l1 := fun S => len_own k.sc S gk.sc.cnt
  have l2 := fun S => len_own k2.sc S gk2.sc.cnt
  have mb : ∀ w, wi = some w → (max k.bl k2.bl ≤ w) = True := fun w h => eq_true (by have := hw w h; omega)
  have ml : k.mn + k2.mn = 3 → (4 < max (Tk.cntAll k.sc : Int) (Tk.cntAll k2.sc : Int)) = False := fun h => eq_false (by have := hs h; omega)
  by_cases h3 : k.mn + k2.mn = 3
  · have h3' : ((k.mn : Int) + (k2.mn : Int) = 3) = True := eq_true (by omega)
    have ml' := ml h3
    cases wi with
    | none => simp -implicitDefEqProofs [m_fault_of_system, runDef, b_fault_of_system, ar, co, wipeE, maxD, h3', maxL, a.1, a.2, c.1, c.2, l1, l2, ml', -lenOwnD_eq]
    | some w =>
      have := hw w rfl
      simp -implicitDefEqProofs [m_fault_of_system, runDef, b_fault_of_system, ar, co, wipeE, maxD, h3', maxL, a.1, a.2, c.1, c.2, l1, l2, ml', mb w rfl, this.1, -lenOwnD_eq]
      trace_state
  · have h3' : ((k.mn : Int) + (k2.mn : Int) = 3) = False := eq_false (by omega)
    cases wi with
    | none => simp -implicitDefEqProofs [m_fault_of_system, runDef, b_fault_of_system, ar, co, wipeE, maxD, h3', maxL, a.1, a.2, c.1, c.2]
    | some w =>
      have := hw w rfl
      simp -implicitDefEqProofs [m_fault_of_system, runDef, b_fault_of_system, ar, co, wipeE, maxD, h3', maxL, a.1, a.2, c.1, c.2, mb w rfl, this.1]
end Mm
set_option maxRecDepth 100000
namespace Mm
open PySem L2
theorem sL_lo (l : List Str) : los 0 (sL l) = true := los_all fun d hd => by
  obtain ⟨x, _, rfl⟩ := List.mem_map.mp hd
  rfl
theorem sL_dp (l : List Str) : dps (sL l) ≤ 0 := dps_all fun d hd => by
  obtain ⟨x, _, rfl⟩ := List.mem_map.mp hd
  exact Nat.le_refl _
theorem kins_lo (l : List KA) : los 0 (l.map kinD) = true := los_all fun d hd => by
  obtain ⟨x, _, rfl⟩ := List.mem_map.mp hd
  exact kin_lo x
theorem kins_dp {l : List KA} (g : ∀ k ∈ l, GoodK k) : dps (l.map kinD) ≤ 8 := dps_all fun d hd => by
  obtain ⟨x, hx, rfl⟩ := List.mem_map.mp hd
  exact kin_dp (g x hx)
open Classical in
theorem ses_in (k : KA) (env : Env) (S : Sto) (h6 : env[6]? = some (some (kinD k))) (hl : 7 < env.length) : ∀ (n : Nat) (lo : Int) (acc : List D), acc.length + n ≤ 900 → inM (g_name 7) t_yes (addL2 (e_fld [(4, 0)] (e_v 6))) env none (rngD lo n) acc S = .ok (acc ++ List.replicate n (.str k.nm)) S
  | 0, lo, acc, hn => by unfold rngD; simp
  | n + 1, lo, acc, hn => by
    have z1 : (acc.length < sizeLine) = True := eq_true (by have := szb; omega)
    have h7 : (env.set 7 (some (D.int lo)))[6]? = some (some (kinD k)) := by rw [List.getElem?_set_ne (by decide)]; exact h6
    have ih := ses_in k env S h6 hl n (lo + 1) (acc ++ [.str k.nm]) (by simp; omega)
    show inM _ _ _ _ none (.int lo :: rngD (lo + 1) n) _ _ = _
    rw [inM_cons]
    simp [addL2, h7, z1, ih, List.replicate_succ]
open Classical in
theorem ses_out (S : Sto) (env : Env) (hl : env.length = 8) (l : List KA) : ∀ (acc : List D), (∀ k ∈ l, k.mn ≤ 3) → acc.length + 3 * l.length ≤ 100 → outM (g_name 6) t_yes (i_rng1 (e_fld [(4, 3)] (e_v 6))) (g_name 7) t_yes (addL2 (e_fld [(4, 0)] (e_v 6))) [7] env none (l.map kinD) acc S = .ok (acc ++ sL ((l.flatMap fun k => List.replicate k.mn k).map (·.nm))) S := by
  induction l with
  | nil =>
    intro acc hm hn
    rw [List.map_nil, outM_nil _ _ _ _ _ _ _ _ _ _ _ (stay_none _ _)]
    simp
  | cons k r ih =>
    intro acc hm hn
    have m3 := hm k List.mem_cons_self
    have q1 : (-4611686018427387904 ≤ (k.mn : Int)) = True := eq_true (by omega)
    have q2 : ((k.mn : Int) < 4611686018427387904) = True := eq_true (by omega)
    have w : ∀ z : Option D, wipeE (env.set 6 z) [7] = (env.set 6 z).set 7 none := fun z => by simp [wipeE]
    have g6 : ∀ z : Option D, (env.set 6 z)[6]? = some z := fun z => List.getElem?_set_self (by omega)
    have i1 := ses_in k ((env.set 6 (some (kinD k))).set 7 none) S (by rw [List.getElem?_set_ne (by decide)]; exact g6 _) (by simp [hl]) k.mn 0 acc (by simp at hn; omega)
    have ih' := ih (acc ++ List.replicate k.mn (.str k.nm)) (fun k' h => hm k' (List.mem_cons_of_mem _ h)) (by simp at hn ⊢; omega)
    rw [List.map_cons, outM_cons _ _ _ _ _ _ _ _ _ _ _ _ _ (stay_none _ _)]
    simp -implicitDefEqProofs [g6, q1, q2, w, i1, ih', hl]
theorem len_two {α : Type} : ∀ {l : List α}, l.length = 2 → ∃ a b, l = [a, b]
  | [a, b], _ => ⟨a, b, rfl⟩
theorem sys_mk {y : YA} (g : GoodY y) (hf : ∀ S, m_fault_of_system [.tup (y.ks.map kinD), .int y.ah, wiD y.wi, .int y.cr] S = .ok .non S) (hl : y.ks.length ≤ 3) (S : Sto) : trunc S (mkDk 5 m_System___init__ (fun x => gSystem x [.int y.ah, wiD y.wi, .int y.cr] ++ [.tup (y.ks.map kinD)]) S) = .ok (sysD y) S := by
  have so := fun S env he => ses_out S env he y.ks [] (fun k h => (g.ks k h).mn.2) (by simp; omega)
  have zl : (y.ses.length ≤ sizeLine) = True := eq_true (by have := g.few; have := szb; omega)
  have e1 : (y.ks.flatMap fun k => List.replicate k.mn k) = y.ses := rfl
  have r1 := fun S' => rsvs_pure (n := S.length) (S := S') 10 (y.ks.map kinD) (kins_lo _) (.inl (by have := kins_dp g.ks; omega))
  have r2 := fun S' => rsvs_pure (n := S.length) (S := S') 10 (sL (y.ses.map (·.nm))) (sL_lo _) (.inl (by have := sL_dp (y.ses.map (·.nm)); omega))
  have r3 := fun S' => rsv_wi S.length S' 10 y.wi
  simp only [e1, sL, List.map_map, List.nil_append] at so r2
  simp -implicitDefEqProofs [mkDk, gSystem, m_System___init__, runDef, b_System___init__, hf, setF, List.lookup, wipeE, so, zl, rsvD, rsv, rsvs, D.lo, los, r1, r2, r3, sysD]
/-! the law's own system and plan -/
theorem built_0 (y : YA) (S : Sto) : ixD (builtD y) (.int 0) S = .ok (.lst (y.ks.map rowD)) S := by simp [builtD]
theorem built_1 (y : YA) (S : Sto) : ixD (builtD y) (.int 1) S = .ok (.int y.ah) S := by simp [builtD]
theorem built_2 (y : YA) (S : Sto) : ixD (builtD y) (.int 2) S = .ok (wiD y.wi) S := by simp [builtD]
theorem built_3 (y : YA) (S : Sto) : ixD (builtD y) (.int 3) S = .ok (.int y.cr) S := by simp [builtD]
theorem row_0 (k : KA) (S : Sto) : ixD (rowD k) (.int 0) S = .ok (.str k.nm) S := by simp [rowD]
theorem row_1 (k : KA) (S : Sto) : ixD (rowD k) (.int 1) S = .ok (.tup (sDs k.sc)) S := by simp [rowD]
theorem row_2 (k : KA) (S : Sto) : ixD (rowD k) (.int 2) S = .ok (.int k.bl) S := by simp [rowD]
theorem row_3 (k : KA) (S : Sto) : ixD (rowD k) (.int 3) S = .ok (.int k.mn) S := by simp [rowD]
theorem system_eq {y : YA} (g : GoodY y) (h12 : y.ks.length = 1 ∨ y.ks.length = 2) (S : Sto) : trunc S (m__law_system [builtD y] S) = .ok (sysD y) S := by
  have tl : ∀ {d : D}, d.lo 0 = true → trunc S (.ok d S) = .ok d S := fun {d} h => by rw [trunc_self, rsvD_lo h]; rfl
  have hs : (sysD y).lo 0 = true := by unfold sysD; simp only [D.lo, los, kins_lo, sL_lo, wi_lo, Bool.and_self]
  suffices m__law_system [builtD y] S = .ok (sysD y) S by rw [this]; exact tl hs
  have hf : ∀ S, m_fault_of_system [.tup (y.ks.map kinD), .int y.ah, wiD y.wi, .int y.cr] S = .ok .non S := by
    intro S
    obtain ⟨ks, ah, wi, cr⟩ := y
    rcases h12 with h | h
    · obtain ⟨k, rfl⟩ := List.length_eq_one_iff.mp h
      have e : YA.ses ⟨[k], ah, wi, cr⟩ = List.replicate k.mn k := by simp [YA.ses]
      have f := g.few
      have z := g.size
      rw [e, List.length_replicate] at f z
      have gk := g.ks k (by simp)
      exact fault_sys1 gk (fun h => z h k (by simp)) g.ah (fun w hw => ⟨(g.wi w hw).1, (g.wi w hw).2 k (by simp)⟩) g.cr S
    · obtain ⟨k, k2, rfl⟩ := len_two h
      have e : (YA.ses ⟨[k, k2], ah, wi, cr⟩).length = k.mn + k2.mn := by simp [YA.ses]
      have f := g.few
      have z := g.size
      rw [e] at f z
      have nd := g.nd
      simp at nd
      exact fault_sys2 (g.ks k (by simp)) (g.ks k2 (by simp)) nd f (fun h => ⟨z h k (by simp), z h k2 (by simp)⟩) g.ah (fun w hw => ⟨(g.wi w hw).1, (g.wi w hw).2 k (by simp), (g.wi w hw).2 k2 (by simp)⟩) g.cr S
  have sm := fun S => sys_mk g hf (by omega) S
  have b0 := built_0 y S
  have b1 := built_1 y S
  have b2 := built_2 y S
  have b3 := built_3 y S
  obtain ⟨ks, ah, wi, cr⟩ := y
  rcases h12 with h | h
  · obtain ⟨k, rfl⟩ := List.length_eq_one_iff.mp h
    have km := fun S => kind_mk (g.ks k (by simp)) S
    simp at b0 sm b1 b2 b3
    simp -implicitDefEqProofs [m__law_system, runDef, b__law_system, b0, b1, b2, b3, wipeE, row_0, row_1, row_2, row_3, km, sm]
  · obtain ⟨k, k2, rfl⟩ := len_two h
    have km := fun S => kind_mk (g.ks k (by simp)) S
    have km2 := fun S => kind_mk (g.ks k2 (by simp)) S
    simp at b0 sm b1 b2 b3
    simp -implicitDefEqProofs [m__law_system, runDef, b__law_system, b0, b1, b2, b3, wipeE, row_0, row_1, row_2, row_3, km, km2, sm]
end Mm
set_option maxRecDepth 100000
namespace Mm
open PySem L2 PySem.W
/-! data that is equal to itself -/
def gdn (n : Nat) (d : D) : Prop := ∃ p : PyData, pyD d = some p ∧ p.canLay0 = true ∧ p.depth ≤ n ∧ p.plain = true
theorem gdns {n : Nat} : ∀ {ds : List D}, (∀ d ∈ ds, gdn n d) → ∃ ps : List PyData, pyDs ds = some ps ∧ PyData.canLayAll0 ps = true ∧ PyData.depthAll ps ≤ n ∧ PyData.plainAll ps = true
  | [], h => ⟨[], by unfold pyDs; rfl, by simp [PyData.canLayAll0], by simp [PyData.depthAll], by simp [PyData.plainAll]⟩
  | d :: r, h => by
    obtain ⟨p, h1, h2, h3, h4⟩ := h d List.mem_cons_self
    obtain ⟨ps, g1, g2, g3, g4⟩ := gdns (ds := r) fun x m => h x (List.mem_cons_of_mem _ m)
    refine ⟨p :: ps, by unfold pyDs; rw [h1, g1]; rfl, by simp [PyData.canLayAll0, h2, g2], by simp [PyData.depthAll]; omega, by simp [PyData.plainAll, h4, g4]⟩
theorem gdn_lst {n : Nat} {ds : List D} (h : ∀ d ∈ ds, gdn n d) : gdn (n + 1) (.lst ds) := by
  obtain ⟨ps, g1, g2, g3, g4⟩ := gdns h
  exact ⟨.list ps, by unfold pyD; rw [g1]; rfl, by simpa [PyData.canLay0] using g2, by simp [PyData.depth]; omega, by simpa [PyData.plain] using g4⟩
theorem gdn_tup {n : Nat} {ds : List D} (h : ∀ d ∈ ds, gdn n d) : gdn (n + 1) (.tup ds) := by
  obtain ⟨ps, g1, g2, g3, g4⟩ := gdns h
  exact ⟨.tuple ps, by unfold pyD; rw [g1]; rfl, by simpa [PyData.canLay0] using g2, by simp [PyData.depth]; omega, by simpa [PyData.plain] using g4⟩
theorem gdn_int (n : Nat) (i : Int) : gdn n (.int i) := ⟨.int i, by unfold pyD; rfl, by simp [PyData.canLay0], by simp [PyData.depth], by simp [PyData.plain]⟩
theorem gdn_mono {n k : Nat} {d : D} (h : gdn n d) (hk : n ≤ k) : gdn k d := by
  obtain ⟨p, a, b, c, e⟩ := h
  exact ⟨p, a, b, by omega, e⟩
/-- two that read alike -/
theorem eqD_py {neg : Bool} {a b : D} {p : PyData} {S : Sto} (hp : p.canLay0 = true ∧ p.depth ≤ 60 ∧ p.plain = true) (ha : pyOf S a = some p) (hb : pyOf S b = some p) (hn : (match a, b with
    | .int _, .int _ => False
    | .str _, .str _ => False
    | _, _ => True)) : eqD neg a b S = .ok (.bl (neg ^^ true)) S := by
  have sh : SeqAt.shaped p = true := by
    unfold SeqAt.shaped
    rw [Bool.and_eq_true]
    exact ⟨hp.1, decide_eq_true (by omega)⟩
  have pe : PyData.eqv p p = true := SeqAt.eqv_refl_plain _ hp.2.2
  have key : (match pyOf S a, pyOf S b with
    | some p, some q => R.if (SeqAt.shaped p = true ∧ SeqAt.shaped q = true) (R.ok (D.bl (neg ^^ PyData.eqv p q)) S)
    | _, _ => R.bad) = .ok (.bl (neg ^^ true)) S := by
    rw [ha, hb]
    dsimp only
    rw [R.if_pos ⟨sh, sh⟩, pe]
  rw [← key]
  unfold eqD
  split
  · exact hn.elim
  · exact hn.elim
  · rfl
theorem eqD_lst {neg : Bool} {ds : List D} {n : Nat} {S : Sto} {a b : D} (h : gdn n (.lst ds)) (hn : n ≤ 60) (ha : a = .lst ds ∨ ∃ i, a = .loc i ∧ S[i]? = some (.lst ds)) (hb : b = .lst ds ∨ ∃ i, b = .loc i ∧ S[i]? = some (.lst ds)) : eqD neg a b S = .ok (.bl (neg ^^ true)) S := by
  obtain ⟨p, h1, h2, h3, h4⟩ := h
  have go : ∀ {a : D}, (a = .lst ds ∨ ∃ i, a = .loc i ∧ S[i]? = some (.lst ds)) → pyOf S a = some p := fun {a} ha => by
    have hd : (pyDs ds).map PyData.list = some p := by unfold pyD at h1; exact h1
    rcases ha with rfl | ⟨i, rfl, hi⟩
    · exact h1
    · unfold pyOf; simp only [hi]; first | exact h1 | exact hd
  refine eqD_py ⟨h2, by omega, h4⟩ (go ha) (go hb) ?_
  rcases ha with rfl | ⟨i, rfl, hi⟩ <;> rcases hb with rfl | ⟨j, rfl, hj⟩ <;> trivial
theorem eqD_tup {neg : Bool} {ds : List D} {n : Nat} {S : Sto} (h : gdn n (.tup ds)) (hn : n ≤ 60) : eqD neg (.tup ds) (.tup ds) S = .ok (.bl (neg ^^ true)) S := by
  obtain ⟨p, h1, h2, h3, h4⟩ := h
  exact eqD_py ⟨h2, by omega, h4⟩ h1 h1 trivial
end Mm
set_option maxRecDepth 100000
namespace Mm
open PySem L2
/-! the generators: their first turn raises as the start does -/
theorem gsc_explored : GScope ["system", "measure", "states", "seen", "at", "items", "item", "result"] ["system", "measure"] (defScope s_explored) := ⟨rfl, rfl, rfl, by decide +kernel, rfl, by decide +kernel, by decide +kernel⟩
theorem gsc_reached : GScope ["system", "measure", "state", "items"] ["system", "measure"] (defScope s_reached) := ⟨rfl, rfl, rfl, by decide +kernel, rfl, by decide +kernel, by decide +kernel⟩
theorem start_len {ds : List D} {S S' : Sto} {x : Exn} (h : m_start ds S = .ex x S') : ds.length = 2 := by
  by_cases e : ds.length = 2
  · exact e
  · unfold m_start runDef at h
    rw [if_neg e] at h
    cases h
theorem gx_explored {P : Program} {wd : World} {K : PySem.W.Frag} {mg : Str → Option Value} {base : Heap} {Γ : Cls'} (G_start : Df P wd K mg base Γ "start" 4 m_start) {f : Addr} {fd : FuncData} (F : Fun K "explored" "explored" s_explored f fd) :
    GFnX P wd K mg base 5 f fd ["system", "measure"] (spGM K Γ m_start 8) := by
  have nd := gsc_explored.nd
  refine gfnx_ok F gsc_explored rfl (fun cdv A outer s H E pn hr => cset 2 nd (c_lst (c_acons (c_fn tr0_ok G_start (goes_of takes_gcx) (hr.mono (by decide)) (by rfl) (c_acons (cv 0) (c_acons (cv 1) c_anil))) c_anil))) fun ds S x S' h => ?_
  have l := start_len h
  match ds, l with
  | [a, b], _ => exact ⟨rfl, _, by simp [h]; rfl⟩
theorem gx_reached {P : Program} {wd : World} {K : PySem.W.Frag} {mg : Str → Option Value} {base : Heap} {Γ : Cls'} (G : DgX P wd K mg base Γ "explored" 5 m_start 8) (hn : NoSt K Γ 8) {f : Addr} {fd : FuncData} (F : Fun K "reached" "reached" s_reached f fd) :
    GFn P wd K mg base 9 f fd ["system", "measure"] (fun vs H _ E => spGM K Γ m_start 8 vs H E) := by
  refine gfn_okX F gsc_reached rfl G hn (fun cdv A outer s H E pn => (by rfl)) (fun cdv A outer s H E pn => c_acons (cv 0) (c_acons (cv 1) c_anil)) (fun cdv A outer s H E pn => ⟨by rfl, by rfl, by intro _; rfl⟩) (by decide) fun ds S x S' h => ?_
  have l := start_len h
  match ds, l with
  | [a, b], _ => exact ⟨rfl, by simp⟩
end Mm
set_option maxRecDepth 100000
namespace Mm
open PySem L2 PySem.W
/-! measures, good and odd -/
theorem allO_DV_s : ∀ l : List Str, allO DV (sL l) = some (l.map V.str)
  | [] => rfl
  | x :: r => by
    have ih := allO_DV_s r
    show (DV (.str x)).bind _ = _
    simp only [sL] at ih ⊢
    simp [DV, ih]
theorem inV_strs (n : Str) (l : List Str) : inV (.str n) (l.map V.str) = decide (n ∈ l) := by
  unfold inV
  rw [Bool.eq_iff_iff, List.any_eq_true, decide_eq_true_eq]
  constructor
  · rintro ⟨x, hx, h⟩
    obtain ⟨y, hy, rfl⟩ := List.mem_map.mp hx
    simp [eqV] at h
    first | (rw [h]; exact hy) | (rw [← h]; exact hy)
  · intro h
    exact ⟨.str n, List.mem_map.mpr ⟨n, h, rfl⟩, by simp [eqV]⟩
theorem inF_strs (neg : Bool) (n : Str) (l : List Str) (d : D) (S : Sto) (h : seqOf S d = some (sL l)) : inF neg (.str n) d S = .ok (.bl (neg ^^ decide (n ∈ l))) S := by
  unfold inF
  rw [h, Option.bind_some, allO_DV_s]
  show (R.ok (D.bl (neg ^^ inV (.str n) (l.map V.str))) S) = _
  rw [inV_strs]
def Meas (μ : Str) : Prop := μ = "gap" ∨ μ = "late" ∨ μ = "spread"
theorem measure_any (μ : Str) (S : Sto) : m_is_measure [.str μ] S = .ok (.bl (decide (μ ∈ (["gap", "late", "spread"] : List Str)))) S := by
  have h := inF_strs false μ ["gap", "late", "spread"] (.tup [.str "gap", .str "late", .str "spread"]) S rfl
  generalize decide (μ ∈ (["gap", "late", "spread"] : List Str)) = q at *
  simp -implicitDefEqProofs [m_is_measure, runDef, b_is_measure, isiD, h]
theorem measure_eq {μ : Str} (hμ : Meas μ) (S : Sto) : m_is_measure [.str μ] S = .ok (.bl true) S := by
  have e : decide (μ ∈ (["gap", "late", "spread"] : List Str)) = true := decide_eq_true (by rcases hμ with rfl | rfl | rfl <;> simp)
  rw [measure_any, e]
theorem check_eq {μ : Str} (hμ : Meas μ) (S : Sto) : m_check_measure [.str μ] S = .ok .non S := by
  have h := measure_eq hμ S
  simp -implicitDefEqProofs [m_check_measure, runDef, b_check_measure, h]
def odd14 : List D := [.non, .int 0, .str "", .str "gaps", .str "Gap", .str "lat", .str "spread ", .tup [.str "gap"], .lst [.str "late"], .bl true, .str "end", .str "none", .str "stop", .int 1]
/-- no measure -/
structure NoM (d : D) : Prop where
  no : ∀ S, m_is_measure [d] S = .ok (.bl false) S
  nx : d.nxn = true
  lo : ∀ n, d.lo n = true
  eq : ∀ S, eqD false d d S = .ok (.bl true) S
theorem noM_str {s : Str} (h : s ∉ (["gap", "late", "spread"] : List Str)) : NoM (.str s) := ⟨fun S => by rw [measure_any, decide_eq_false h], rfl, fun n => rfl, fun S => by simp⟩
theorem gdn_str (n : Nat) {s : Str} (h : PyData.strOk s = true) : gdn n (.str s) := ⟨.str s, by unfold pyD; rfl, by simp [PyData.canLay0, h], by simp [PyData.depth], by simp [PyData.plain]⟩
theorem kt_str : ktB "str" (.inl "NoneType") = some false ∧ ktB "str" (.inl "int") = some false ∧ ktB "str" (.inl "tuple") = some false ∧ ktB "str" (.inl "list") = some false ∧ ktB "str" (.inl "bool") = some false := by
  refine ⟨?_, ?_, ?_, ?_, ?_⟩ <;> decide +kernel
theorem eq_non (S : Sto) : eqD false .non .non S = .ok (.bl true) S := eqD_py (p := .none) (by simp [PyData.canLay0, PyData.depth, PyData.plain]) (by simp [pyOf, pyD]) (by simp [pyOf, pyD]) trivial
theorem eq_bl (b : Bool) (S : Sto) : eqD false (.bl b) (.bl b) S = .ok (.bl true) S := eqD_py (p := .bool b) (by simp [PyData.canLay0, PyData.depth, PyData.plain]) (by simp [pyOf, pyD]) (by simp [pyOf, pyD]) trivial
theorem odd_all : ∀ d ∈ odd14, NoM d := by
  intro d hd
  simp only [odd14, List.mem_cons, List.not_mem_nil, or_false] at hd
  rcases hd with rfl | rfl | rfl | rfl | rfl | rfl | rfl | rfl | rfl | rfl | rfl | rfl | rfl | rfl
  · exact ⟨fun S => by simp -implicitDefEqProofs [m_is_measure, runDef, b_is_measure, isiD, kt_str], rfl, fun n => rfl, fun S => eq_non S⟩
  · exact ⟨fun S => by simp -implicitDefEqProofs [m_is_measure, runDef, b_is_measure, isiD, kt_str], rfl, fun n => rfl, fun S => by simp⟩
  · exact noM_str (by decide +kernel)
  · exact noM_str (by decide +kernel)
  · exact noM_str (by decide +kernel)
  · exact noM_str (by decide +kernel)
  · exact noM_str (by decide +kernel)
  · exact ⟨fun S => by simp -implicitDefEqProofs [m_is_measure, runDef, b_is_measure, isiD, kt_str], rfl, fun n => rfl, fun S => eqD_tup (n := 1) (gdn_tup fun d hd => by rw [List.mem_singleton] at hd; subst hd; exact gdn_str 0 (by decide +kernel)) (by decide)⟩
  · exact ⟨fun S => by simp -implicitDefEqProofs [m_is_measure, runDef, b_is_measure, isiD, kt_str], rfl, fun n => rfl, fun S => eqD_lst (n := 1) (gdn_lst fun d hd => by rw [List.mem_singleton] at hd; subst hd; exact gdn_str 0 (by decide +kernel)) (by decide) (.inl rfl) (.inl rfl)⟩
  · exact ⟨fun S => by simp -implicitDefEqProofs [m_is_measure, runDef, b_is_measure, isiD, kt_str], rfl, fun n => rfl, fun S => eq_bl true S⟩
  · exact noM_str (by decide +kernel)
  · exact noM_str (by decide +kernel)
  · exact noM_str (by decide +kernel)
  · exact ⟨fun S => by simp -implicitDefEqProofs [m_is_measure, runDef, b_is_measure, isiD, kt_str], rfl, fun n => rfl, fun S => by simp⟩
theorem check_odd {d : D} (h : NoM d) (S : Sto) : m_check_measure [d] S = .ex ⟨8, [d]⟩ S := by
  have e := h.no S
  simp -implicitDefEqProofs [m_check_measure, runDef, b_check_measure, e]
theorem start_odd {d : D} (h : NoM d) (sy : D) (S : Sto) : m_start [sy, d] S = .ex ⟨8, [d]⟩ S := by
  have e := check_odd h S
  simp -implicitDefEqProofs [m_start, runDef, b_start, e]
theorem steps_odd {d : D} (h : NoM d) (sy x : D) (S : Sto) : m_steps [sy, d, x] S = .ex ⟨8, [d]⟩ S := by
  have e := check_odd h S
  simp -implicitDefEqProofs [m_steps, runDef, b_steps, e]
theorem gen_odd {d : D} (h : NoM d) (sy : D) (S : Sto) : genM m_start 8 [sy, d] S = .ex ⟨8, [d]⟩ S := genM_ex (start_odd h sy S) rfl
theorem reach_odd {d : D} (h : NoM d) (sy : D) (S : Sto) : m_reach [sy, d] S = .ex ⟨8, [d]⟩ S := by
  have e := gen_odd h sy S
  simp -implicitDefEqProofs [m_reach, runDef, b_reach, e]
open Classical in
theorem run_ret {x : Exn} {q : Clm} {r : List Clm} {env : Env} {S : Sto} {d : D} (h1 : q.mt x.c = some true) (h2 : x.c = q.k) (hh : q.h (env.set q.i (some (.xn x.c x.ds))) S = .ret d S) (hn : d.nxn = true) : runCl x env S (q :: r) = .ret d S := by
  unfold runCl
  rw [h1]
  dsimp only
  rw [RS.if_pos h2, hh]
  unfold endH
  dsimp only
  rw [RS.if_pos ⟨rfl, hn⟩]
theorem tr_odd {d : D} (h : NoM d) (S : Sto) : trunc S (.ex ⟨8, [d]⟩ S) = .ex ⟨8, [d]⟩ S := by
  unfold trunc
  dsimp only
  have e : Tr S.length S S ∧ los S.length [d] = true := ⟨fun k _ => .inl rfl, by simp [los, h.lo]⟩
  simp [e]
theorem refused_eq {d : D} (h : NoM d) (sy : D) {w : Int} (h0 : 0 ≤ w) (h1 : w < 4) (S : Sto) : m__law_refused [sy, .int w, d] S = .ok (.bl true) S := by
  have e1 := start_odd h sy S
  have e2 := steps_odd h sy (.tup [.str "end"]) S
  have e3 := reach_odd h sy S
  have e4 := gen_odd h sy S
  have t := tr_odd h S
  have q := h.eq S
  have n := h.nx
  have r : runCl ⟨8, [d]⟩ [some sy, some (.int w), some d, none] S [⟨8, mt_NoMeasure, 3, (s_ret (e_and (e_xis 8 true (e_v 3)) (e_and (e_nott (e_xis 8 false (e_v 3))) (e_op (eqD false) (e_xf 8 (e_v 3)) (e_v 2)))))⟩] = .ret (.bl true) S :=
    run_ret rfl rfl (by simp -implicitDefEqProofs [e_xf_eq, e_xis_eq, q]) rfl
  rcases (show w = 0 ∨ w = 1 ∨ w = 2 ∨ w = 3 by omega) with rfl | rfl | rfl | rfl
  all_goals
    simp only [m__law_refused, runDef, b__law_refused]
    generalize hc : [(⟨8, mt_NoMeasure, 3, (s_ret (e_and (e_xis 8 true (e_v 3)) (e_and (e_nott (e_xis 8 false (e_v 3))) (e_op (eqD false) (e_xf 8 (e_v 3)) (e_v 2)))))⟩ : Clm)] = cl at *
    simp -implicitDefEqProofs [s_try, e1, e2, e3, e4, t, r]
end Mm
set_option maxRecDepth 100000
namespace Mm
open PySem L2 PySem.W
/-! good measures: start, steps of the end -/
def FR : D := .tup [.tup [.int 0], .tup [], .tup [], .tup []]
theorem lc_fresh (x0 : Option D) (S : Sto) : ∀ (l : List KA) (n : Nat) (x1 : Option D), n + l.length ≤ 100 →
    lcM (g_name 1) t_yes (e_k FR) [x0, x1] none (sL (l.map (·.nm))) (List.replicate n FR) S = .ok (List.replicate (n + l.length) FR) S
  | [], n, x1, hn => by simp
  | k :: r, n, x1, hn => by
    have z1 : ((List.replicate n FR).length < sizeLine) = True := eq_true (by have := sizeLine_eq; simp at hn ⊢; omega)
    have z2 : (n < sizeLine) = True := by simpa using z1
    have ih := fun x1 => lc_fresh x0 S r (n + 1) x1 (by simp at hn ⊢; omega)
    rw [List.replicate_succ'] at ih
    show lcM _ _ _ _ _ (.str k.nm :: sL (r.map (·.nm))) _ _ = _
    rw [lcM_cons]
    rw [show n + 1 + r.length = n + (k :: r).length by simp; omega] at ih
    generalize List.replicate (n + (k :: r).length) FR = X at *
    generalize FR = F at *
    generalize sL (r.map (·.nm)) = q at *
    simp -implicitDefEqProofs [z1, z2, ih]
theorem y_sess (y : YA) (S : Sto) : fldD [(5, 4)] (sysD y) S = some (.tup (sL (y.ses.map (·.nm)))) := rfl
theorem fresh_eq {y : YA} (g : GoodY y) (S : Sto) : m_fresh_sessions [sysD y] S = .ok (.tup (List.replicate y.ses.length FR)) S := by
  have lc := fun x0 => lc_fresh x0 S y.ses 0 none (by have := g.few; omega)
  have f := y_sess y S
  rw [Nat.zero_add] at lc
  simp only [List.replicate_zero, FR] at lc ⊢
  generalize List.replicate y.ses.length (D.tup [D.tup [D.int 0], D.tup [], D.tup [], D.tup []]) = fs at *
  generalize sL (y.ses.map (·.nm)) = ns at *
  generalize sysD y = sy at *
  simp -implicitDefEqProofs [m_fresh_sessions, runDef, b_fresh_sessions, wipeE, f, lc]
def startV (y : YA) : D := .tup [.tup [.str "no", .str "no"], .int y.ah, .int y.cr, .tup (List.replicate y.ses.length FR)]
theorem start_good {y : YA} (g : GoodY y) {μ : Str} (hμ : Meas μ) (S : Sto) : m_start [sysD y, .str μ] S = .ok (startV y) S := by
  have c := check_eq hμ S
  have f := fresh_eq g S
  have f1 : fldD [(5, 1)] (sysD y) S = some (.int y.ah) := rfl
  have f3 : fldD [(5, 3)] (sysD y) S = some (.int y.cr) := rfl
  unfold startV
  generalize List.replicate y.ses.length FR = fs at *
  generalize sysD y = sy at *
  simp -implicitDefEqProofs [m_start, runDef, b_start, c, f, f1, f3]
theorem steps_good (sy : D) {μ : Str} (hμ : Meas μ) (S : Sto) : m_steps [sy, .str μ, .tup [.str "end"]] S = .ok (.lst []) S := by
  have c := check_eq hμ S
  have e : eqD false (.tup [.str "end"]) (.tup [.str "end"]) S = .ok (.bl (false ^^ true)) S := eqD_tup (n := 1) (gdn_tup fun d hd => by rw [List.mem_singleton] at hd; subst hd; exact gdn_str 0 (by decide +kernel)) (by decide)
  simp -implicitDefEqProofs [m_steps, runDef, b_steps, c, e]
theorem los_rep {d : D} (h : d.lo 0 = true) : ∀ n, los 0 (List.replicate n d) = true
  | 0 => rfl
  | n + 1 => by rw [List.replicate_succ]; simp only [los, h, los_rep h n, Bool.and_self]
theorem start_lo (y : YA) : (startV y).lo 0 = true := by
  unfold startV
  simp only [D.lo, los, los_rep (d := FR) rfl, Bool.and_self]
theorem tr_lo {d : D} (h : d.lo 0 = true) (S : Sto) : trunc S (.ok d S) = .ok d S := by rw [trunc_self, rsvD_lo h]; rfl
theorem start_tr {y : YA} (g : GoodY y) {μ : Str} (hμ : Meas μ) (S : Sto) : trunc S (m_start [sysD y, .str μ] S) = .ok (startV y) S := by rw [start_good g hμ, tr_lo (start_lo y)]
theorem steps_tr (sy : D) {μ : Str} (hμ : Meas μ) (S : Sto) : trunc S (m_steps [sy, .str μ, .tup [.str "end"]] S) = .ok (.lst []) S := by rw [steps_good sy hμ, tr_lo rfl]
theorem gdn_FR : gdn 2 FR := gdn_tup fun d hd => by
  simp only [List.mem_cons, List.not_mem_nil, or_false] at hd
  rcases hd with rfl | rfl | rfl | rfl
  · exact gdn_tup (n := 0) fun d hd => by rw [List.mem_singleton] at hd; subst hd; exact gdn_int 0 _
  all_goals exact gdn_mono (gdn_tup (n := 0) fun d hd => by cases hd) (by decide)
theorem gdn_start (y : YA) : gdn 4 (startV y) := gdn_tup fun d hd => by
  simp only [List.mem_cons, List.not_mem_nil, or_false] at hd
  rcases hd with rfl | rfl | rfl | rfl
  · exact gdn_mono (gdn_tup (n := 0) fun d hd => by
      simp only [List.mem_cons, List.not_mem_nil, or_false] at hd
      rcases hd with rfl | rfl <;> exact gdn_str 0 (by decide +kernel)) (by decide)
  · exact gdn_int _ _
  · exact gdn_int _ _
  · exact gdn_tup fun d hd => by rw [(List.mem_replicate.mp hd).2]; exact gdn_FR
theorem start_cmp (y : YA) (S : Sto) : eqD true (startV y) (startV y) S = .ok (.bl false) S := eqD_tup (gdn_start y) (by decide)
theorem nil_cmp (S : Sto) : eqD true (.lst []) (.lst []) S = .ok (.bl false) S := eqD_lst (n := 1) (gdn_lst fun d hd => by cases hd) (by decide) (.inl rfl) (.inl rfl)
/-- the number of sessions, as the law counts them -/
theorem amount_eq {y : YA} (h12 : y.ks.length = 1 ∨ y.ks.length = 2) (a b c d e f g h i j k : Option D) (S : Sto) : ∃ l, lcM (g_name 8) t_yes (e_op ixD (e_v 8) (e_k (.int 3))) [a, b, c, d, e, f, g, h, none, i, j, k] none (y.ks.map rowD) [] S = .ok l S ∧ ∀ T, sumD (.lst l) T = .ok (.int y.ses.length) T := by
  have z0 := sizeLine_eq
  have r3 := fun k T => row_3 k T
  rcases h12 with h | h
  · obtain ⟨k, hk⟩ := List.length_eq_one_iff.mp h
    refine ⟨[.int k.mn], ?_, fun T => ?_⟩
    · rw [hk]
      have z1 : (0 < sizeLine) = True := eq_true (by omega)
      generalize he : rowD k = rk at *
      have r := fun T => he ▸ r3 k T
      rw [List.map_cons, List.map_nil, he, lcM_cons]
      simp -implicitDefEqProofs [r, z1]
    · simp [YA.ses, hk, sumD, lstOf, allO, inO]
  · obtain ⟨k, k', hk⟩ : ∃ k k', y.ks = [k, k'] := by
      match hh : y.ks, h with
      | [k, k'], _ => exact ⟨k, k', rfl⟩
    refine ⟨[.int k.mn, .int k'.mn], ?_, fun T => ?_⟩
    · rw [hk]
      have z1 : (0 < sizeLine) = True := eq_true (by omega)
      have z2 : (1 < sizeLine) = True := eq_true (by omega)
      have r := fun T => r3 k T
      have r' := fun T => r3 k' T
      rw [List.map_cons, List.map_cons, List.map_nil, lcM_cons]
      generalize rowD k = rk at *
      generalize rowD k' = rk' at *
      simp -implicitDefEqProofs [r, r', z1, z2, lcM_cons]
    · simp [YA.ses, hk, sumD, lstOf, allO, inO]
theorem flat_one (n : Nat) (d : D) : (List.replicate n [d]).flatten = List.replicate n d := by
  induction n with
  | zero => rfl
  | succ n ih => rw [List.replicate_succ, List.flatten_cons, ih, List.replicate_succ]; rfl
theorem mul_eq {n : Nat} (h : 1 ≤ n) (h' : n ≤ 3) (S : Sto) : mulTD (.tup [FR]) (.int n) S = .ok (.tup (List.replicate n FR)) S := by
  rw [mulTD_eq, R.if_pos ⟨by simp, by simp, by omega, by omega⟩, Int.toNat_natCast, flat_one]
theorem ses_pos {y : YA} (g : GoodY y) : 1 ≤ y.ses.length := by
  obtain ⟨k, hk⟩ := List.exists_mem_of_ne_nil _ g.ne
  have h1 := (g.ks k hk).mn.1
  have : k ∈ y.ses := List.mem_flatMap.mpr ⟨k, hk, List.mem_replicate.mpr ⟨by omega, rfl⟩⟩
  exact List.length_pos_of_mem this
theorem odd_ix {r : Int} (h0 : 0 ≤ r) (h1 : r < 14) : ∃ d, NoM d ∧ ∀ S, ixD (.lst odd14) (.int r) S = .ok d S := by
  have hl : r.toNat < odd14.length := by show r.toNat < 14; omega
  refine ⟨odd14[r.toNat], odd_all _ (List.getElem_mem hl), fun S => ?_⟩
  have e : atI odd14 r = some odd14[r.toNat] := by
    conv => lhs; rw [show r = (r.toNat : Int) by omega]
    rw [atI_nat, List.getElem?_eq_getElem hl]
  generalize odd14 = l at *
  simp [ixD, e]
end Mm
set_option maxRecDepth 100000
namespace Mm
open PySem L2 PySem.W PyProof.Rows
noncomputable def mB : SM := (s_if (t_or (t_b (e_op (eqD true) (e_fn trunc m_start (a_cons (e_v 6) (a_cons (e_v 10) a_nil))) (e_v 9))) (t_b (e_op (eqD true) (e_fn trunc m_steps (a_cons (e_v 6) (a_cons (e_v 10) (a_cons (e_tup (a_cons (e_k (.str "end")) a_nil)) a_nil)))) (e_lst a_nil)))) (s_ret (e_k (.bl false))) s_nil)
noncomputable def tB : SM := (s_seq (s_for (i_seq (e_lst (a_cons (e_k (.str "gap")) (a_cons (e_k (.str "late")) (a_cons (e_k (.str "spread")) a_nil))))) (g_name 10) mB)
  (s_seq (s_set 11 (e_lst (a_cons (e_k .non) (a_cons (e_k (.int 0)) (a_cons (e_k (.str "")) (a_cons (e_k (.str "gaps")) (a_cons (e_k (.str "Gap")) (a_cons (e_k (.str "lat")) (a_cons (e_k (.str "spread ")) (a_cons (e_tup (a_cons (e_k (.str "gap")) a_nil)) (a_cons (e_lst (a_cons (e_k (.str "late")) a_nil)) (a_cons (e_k (.bl true)) (a_cons (e_k (.str "end")) (a_cons (e_k (.str "none")) (a_cons (e_k (.str "stop")) (a_cons (e_k (.int 1)) a_nil))))))))))))))))
  (s_if (t_not (t_v (e_fn tr0 m__law_refused (a_cons (e_v 6) (a_cons (e_v 4) (a_cons (e_op ixD (e_v 11) (e_v 3)) a_nil)))))) (s_ret (e_k (.bl false))) s_nil)))
noncomputable def tA : SM := (s_seq (s_set 2 (e_fn tr0 m__law_pool (a_cons (e_v 0) (a_cons (e_v 1) a_nil))))
  (s_seq (s_set 3 (e_fn tr0 m__law_draw (a_cons (e_v 2) (a_cons (e_k (.int 14)) a_nil))))
  (s_seq (s_set 4 (e_fn tr0 m__law_draw (a_cons (e_v 2) (a_cons (e_k (.int 4)) a_nil))))
  (s_seq (s_set 5 (e_fn trunc m__law_build (a_cons (e_v 2) (a_cons (e_op addD (e_k (.int 4)) (e_op mulD (e_k (.int 4)) (e_fn tr0 m__law_draw (a_cons (e_v 2) (a_cons (e_k (.int 2)) a_nil))))) a_nil))))
  (s_seq (s_set 6 (e_fn trunc m__law_system (a_cons (e_v 5) a_nil)))
  (s_seq (s_set 7 (e_call (f1 sumD) (a_cons (e_lcG [8] (i_seq (e_op ixD (e_v 5) (e_k (.int 0)))) (g_name 8) t_yes (e_op ixD (e_v 8) (e_k (.int 3))) finL) a_nil)))
  (s_seq (s_set 9 (e_tup (a_cons (e_tup (a_cons (e_k (.str "no")) (a_cons (e_k (.str "no")) a_nil))) (a_cons (e_op ixD (e_v 5) (e_k (.int 1))) (a_cons (e_op ixD (e_v 5) (e_k (.int 3))) (a_cons (e_op mulTD (e_tup (a_cons (e_tup (a_cons (e_tup (a_cons (e_k (.int 0)) a_nil)) (a_cons (e_tup a_nil) (a_cons (e_tup a_nil) (a_cons (e_tup a_nil) a_nil))))) a_nil)) (e_v 7)) a_nil))))))
  tB)))))))
theorem b_law_eq : b_law = s_seq (s_for (i_rng1 (e_call (f2 max2D) (a_cons (e_k (.int 1)) (a_cons (e_call (f1 lenD) (a_cons (e_v 0) a_nil)) a_nil)))) (g_name 1) tA) (s_ret (e_k (.bl true))) := rfl
theorem mB_eq {y : YA} (g : GoodY y) {μ : Str} (hμ : Meas μ) (S : Sto) (e0 e1 e2 e3 e4 e5 e7 e8 e11 : Option D) :
    mB [e0, e1, e2, e3, e4, e5, some (sysD y), e7, e8, some (startV y), some (.str μ), e11] S = .next [e0, e1, e2, e3, e4, e5, some (sysD y), e7, e8, some (startV y), some (.str μ), e11] S := by
  have h1 := start_tr g hμ S
  have h2 := steps_tr (sysD y) hμ S
  have c1 := start_cmp y S
  have c2 := nil_cmp S
  generalize startV y = sv at *
  generalize sysD y = sy at *
  unfold mB
  simp -implicitDefEqProofs [h1, h2, c1, c2]
theorem tB_eq {y : YA} (g : GoodY y) {r w : Int} (r0 : 0 ≤ r) (r1 : r < 14) (w0 : 0 ≤ w) (w1 : w < 4) (S : Sto) (e0 e1 e2 e5 e7 e8 e10 e11 : Option D) :
    ∃ y10 y11, tB [e0, e1, e2, some (.int r), some (.int w), e5, some (sysD y), e7, e8, some (startV y), e10, e11] S = .next [e0, e1, e2, some (.int r), some (.int w), e5, some (sysD y), e7, e8, some (startV y), y10, y11] S := by
  have m1 := fun e7 e8 e11 => mB_eq g (μ := "gap") (.inl rfl) S e0 e1 e2 (some (.int r)) (some (.int w)) e5 e7 e8 e11
  have m2 := fun e7 e8 e11 => mB_eq g (μ := "late") (.inr (.inl rfl)) S e0 e1 e2 (some (.int r)) (some (.int w)) e5 e7 e8 e11
  have m3 := fun e7 e8 e11 => mB_eq g (μ := "spread") (.inr (.inr rfl)) S e0 e1 e2 (some (.int r)) (some (.int w)) e5 e7 e8 e11
  obtain ⟨d, hd, ed⟩ := odd_ix r0 r1
  have rf := refused_eq hd (sysD y) w0 w1 S
  have lp : loopS (g_name 10) mB none [.str "gap", .str "late", .str "spread"] [e0, e1, e2, some (.int r), some (.int w), e5, some (sysD y), e7, e8, some (startV y), e10, e11] S = .next [e0, e1, e2, some (.int r), some (.int w), e5, some (sysD y), e7, e8, some (startV y), some (.str "spread"), e11] S := by
    generalize startV y = sv at *
    generalize sysD y = sy at *
    generalize mB = mb at *
    simp -implicitDefEqProofs [loopS_cons, m1, m2, m3]
  refine ⟨some (.str "spread"), some (.lst odd14), ?_⟩
  unfold odd14 at ed ⊢
  generalize startV y = sv at *
  generalize sysD y = sy at *
  unfold tB
  generalize mB = mb at *
  simp -implicitDefEqProofs [lp, ed, rf]
theorem drawZ (S : Sto) (a b c : Int) {n : Int} (n0 : 0 < n) (n1 : n < 1073741824) : ∃ r a' b' c', m__law_draw [.loc S.length, .int n] (S ++ [pO a b c]) = .ok (.int r) (S ++ [pO a' b' c']) ∧ 0 ≤ r ∧ r < n := by
  obtain ⟨r, a', b', c', e, h1, h2⟩ := draw_eq (S := S ++ [pO a b c]) (p := S.length) (a := a) (b := b) (c := c) (by simp) n0 n1
  exact ⟨r, a', b', c', by rw [e]; simp, h1, h2⟩
theorem buildZ (S : Sto) (a b c : Int) {cap : Int} (hc : cap = 4 ∨ cap = 8) : ∃ y a' b' c', GoodY y ∧ (y.ks.length = 1 ∨ y.ks.length = 2) ∧ trunc (S ++ [pO a b c]) (m__law_build [.loc S.length, .int cap] (S ++ [pO a b c])) = .ok (builtD y) (S ++ [pO a' b' c']) := by
  obtain ⟨y, P', g, h, e⟩ := build_eq (S := S ++ [pO a b c]) (p := S.length) (by simp) hc (a, b, c)
  refine ⟨y, P'.1, P'.2.1, P'.2.2, g, h, ?_⟩
  simpa [pB] using e
theorem tA_eq (ns : List Int) (k : Nat) (S : Sto) (e2 e3 e4 e5 e6 e7 e8 e9 e10 e11 : Option D) :
    ∃ y2 y3 y4 y5 y6 y7 y8 y9 y10 y11 T', tA [some (.fz ns), some (.int k), e2, e3, e4, e5, e6, e7, e8, e9, e10, e11] S
      = .next [some (.fz ns), some (.int k), y2, y3, y4, y5, y6, y7, y8, y9, y10, y11] T' := by
  obtain ⟨a, b, c, hp⟩ := pool_eq ns k S
  obtain ⟨r0, a0, b0, c0, h0, l0, u0⟩ := drawZ S a b c (n := 14) (by decide) (by decide)
  obtain ⟨r1, a1, b1, c1, h1, l1, u1⟩ := drawZ S a0 b0 c0 (n := 4) (by decide) (by decide)
  obtain ⟨r2, a2, b2, c2, h2, l2, u2⟩ := drawZ S a1 b1 c1 (n := 2) (by decide) (by decide)
  have cm4 : CMul 4 r2 := .inl ⟨by decide, by decide⟩
  obtain ⟨y, a3, b3, c3, g, h12, h3⟩ := buildZ S a2 b2 c2 (cap := 4 + 4 * r2) (by omega)
  have h4 := system_eq g h12 (S ++ [pO a3 b3 c3])
  obtain ⟨l, la, lb⟩ := amount_eq h12 (some (.fz ns)) (some (.int k)) (some (.loc S.length)) (some (.int r0)) (some (.int r1)) (some (builtD y)) (some (sysD y)) e7 e9 e10 e11 (S ++ [pO a3 b3 c3])
  have i0 : ∀ T, ixD (builtD y) (.int 0) T = .ok (.lst (y.ks.map rowD)) T := fun T => built_0 y T
  have i1 : ∀ T, ixD (builtD y) (.int 1) T = .ok (.int y.ah) T := fun T => built_1 y T
  have i3 : ∀ T, ixD (builtD y) (.int 3) T = .ok (.int y.cr) T := fun T => built_3 y T
  have mu := fun T => mul_eq (ses_pos g) g.few T
  obtain ⟨y10, y11, eB⟩ := tB_eq g l0 u0 l1 u1 (S ++ [pO a3 b3 c3]) (some (.fz ns)) (some (.int k)) (some (.loc S.length)) (some (builtD y)) (some (.int y.ses.length)) e8 e10 e11
  refine ⟨some (.loc S.length), some (.int r0), some (.int r1), some (builtD y), some (sysD y), some (.int y.ses.length), e8, some (startV y), y10, y11, S ++ [pO a3 b3 c3], ?_⟩
  have hs : D.tup [.tup [.str "no", .str "no"], .int y.ah, .int y.cr, .tup (List.replicate y.ses.length FR)] = startV y := rfl
  unfold FR at mu hs
  generalize List.replicate y.ses.length (D.tup [.tup [.int 0], .tup [], .tup [], .tup []]) = rp at *
  generalize startV y = sv at *
  generalize builtD y = bl at *
  generalize y.ks.map rowD = rw at *
  generalize sysD y = sy at *
  unfold tA
  generalize tB = tb at *
  simp -implicitDefEqProofs [-mulTD_eq, wipeE, hp, h0, h1, h2, cm4, h3, h4, i0, i1, i3, la, lb, mu, hs, eB]
theorem turns (ns : List Int) : ∀ (n lo : Nat) (S : Sto) (e1 e2 e3 e4 e5 e6 e7 e8 e9 e10 e11 : Option D),
    ∃ env S', loopS (g_name 1) tA none (rngD lo n) [some (.fz ns), e1, e2, e3, e4, e5, e6, e7, e8, e9, e10, e11] S = .next env S'
  | 0, lo, S, e1, e2, e3, e4, e5, e6, e7, e8, e9, e10, e11 => ⟨_, S, by simp only [rngD, loopS_nil]; simp; rfl⟩
  | n + 1, lo, S, e1, e2, e3, e4, e5, e6, e7, e8, e9, e10, e11 => by
    obtain ⟨y2, y3, y4, y5, y6, y7, y8, y9, y10, y11, T', e⟩ := tA_eq ns lo S e2 e3 e4 e5 e6 e7 e8 e9 e10 e11
    obtain ⟨env, S', ih⟩ := turns ns n (lo + 1) T' (some (.int lo)) y2 y3 y4 y5 y6 y7 y8 y9 y10 y11
    refine ⟨env, S', ?_⟩
    rw [show ((lo + 1 : Nat) : Int) = (lo : Int) + 1 by omega] at ih
    rw [show rngD (lo : Int) (n + 1) = .int lo :: rngD ((lo : Int) + 1) n from rfl, loopS_cons]
    generalize tA = ta at *
    simp -implicitDefEqProofs [e, ih]
/-- the law is kept -/
theorem law_ok (ns : List Int) (hn : ns.length ≤ 63) : ∃ S, m_law [.fz ns] [] = .ok (.bl true) S := by
  obtain ⟨env, S', e⟩ := turns ns (max 1 ns.length) 0 [] none none none none none none none none none none none
  refine ⟨S', ?_⟩
  have hB : ((max 1 ns.length : Nat) : Int) < 4611686018427387904 := by omega
  simp only [m_law, runDef, b_law_eq]
  generalize tA = ta at *
  have hM : (if 1 < (ns.length : Int) then (ns.length : Int) else 1) = ((max 1 ns.length : Nat) : Int) := by split <;> omega
  have e' : loopS (g_name 1) ta none (rngD 0 (max 1 ns.length)) [some (.fz ns), none, none, none, none, none, none, none, none, none, none, none] [] = .next env S' := e
  simp -implicitDefEqProofs []
  rw [hM]
  generalize max 1 ns.length = m at *
  simp -implicitDefEqProofs [hB, e']
end Mm
set_option maxRecDepth 100000
namespace Mm
open PySem L2
theorem sc_is_integer : FnScope ["value"] ["value"] (defScope s_is_integer) := ⟨rfl, rfl, rfl, by decide +kernel, rfl, by decide +kernel, by decide +kernel⟩
theorem ok_is_integer {P : Program} {wd : World} {K : PySem.W.Frag} {mg : Str → Option Value} {base : Heap} {Γ : Cls'} (Wd : WdT wd K Γ mg)  {f : Addr} {fd : FuncData} (F : Fun K "is_integer" "is_integer" s_is_integer f fd) :
    FnOk P wd K mg base (L2.CX P wd) 1 f fd ["value"] (spM K Γ m_is_integer) := by
  have nd := sc_is_integer.nd
  exact def_ok F sc_is_integer fun cdv A outer s H E hr => (c_last (c_ret (c_and (c_isiT (T := "int") Wd.nolk Wd.b_isinstance Wd.b_int (by decide +kernel) (cv 0)) (c_one (c_nott (c_isiT (T := "bool") Wd.nolk Wd.b_isinstance Wd.b_bool (by decide +kernel) (cv 0)))))))

theorem sc_is_within : FnScope ["value", "low", "high"] ["value", "low", "high"] (defScope s_is_within) := ⟨rfl, rfl, rfl, by decide +kernel, rfl, by decide +kernel, by decide +kernel⟩
theorem ok_is_within {P : Program} {wd : World} {K : PySem.W.Frag} {mg : Str → Option Value} {base : Heap} {Γ : Cls'} (Wd : WdT wd K Γ mg) (G_is_integer : Df P wd K mg base Γ "is_integer" 1 m_is_integer) {f : Addr} {fd : FuncData} (F : Fun K "is_within" "is_within" s_is_within f fd) :
    FnOk P wd K mg base (L2.CX P wd) 2 f fd ["value", "low", "high"] (spM K Γ m_is_within) := by
  have nd := sc_is_within.nd
  exact def_ok F sc_is_within fun cdv A outer s H E hr => (c_last (c_ret (c_and (c_fn tr0_ok G_is_integer go_def (hr.mono (by first | decide | omega)) (by rfl) (c_acons (cv 0) c_anil)) (c_one (c_chain op_le g_le op_le g_le (cv 1) (cv 0) (cv 2))))))

theorem sc_is_name : FnScope ["value", "letter"] ["value"] (defScope s_is_name) := ⟨rfl, rfl, rfl, by decide +kernel, rfl, by decide +kernel, by decide +kernel⟩
theorem ok_is_name {P : Program} {wd : World} {K : PySem.W.Frag} {mg : Str → Option Value} {base : Heap} {Γ : Cls'} (Wd : WdT wd K Γ mg)  {f : Addr} {fd : FuncData} (F : Fun K "is_name" "is_name" s_is_name f fd) :
    FnOk P wd K mg base (L2.CX P wd) 1 f fd ["value"] (spM K Γ m_is_name) := by
  have nd := sc_is_name.nd
  exact def_ok F sc_is_name fun cdv A outer s H E hr => (c_seq (c_if (c_wt (c_wor (c_tnot (c_tru (c_isiT (T := "str") Wd.nolk Wd.b_isinstance Wd.b_str (by decide +kernel) (cv 0)))) (c_wor1 (c_tnot (c_tchain op_le g_le op_le g_le c_int (c_callB call_len g_len (by rfl) Wd.b_len PySem.boot_len (c_acons (cv 0) c_anil)) (c_gl Wd.g_LONGEST_NAME)))))) (c_last (c_ret c_bl)) c_nil)
  (c_last (c_ret (c_callB (cr_all rfl) g_all (by rfl) Wd.b_all (by decide +kernel) (c_acons (c_lcG (own := [("letter", 1)]) (sl := [1]) finL_ok (by decide) rfl nd (ci_str (cv 0)) (blkOk_by (own := [("letter", 1)]) (N := ["value", "letter"]) (sc := defScope s_is_name) (by decide +kernel)) (fun _ _ _ _ _ => (cgn 1 nd)) (fun _ _ _ _ _ => c_tsnil) (fun _ _ _ _ _ => (c_chain op_le_str g_strLe op_le_str g_strLe c_str (cv 1) c_str))) c_anil)))))

theorem sc_held_after : FnScope ["word", "held"] ["word", "held"] (defScope s_held_after) := ⟨rfl, rfl, rfl, by decide +kernel, rfl, by decide +kernel, by decide +kernel⟩
theorem ok_held_after {P : Program} {wd : World} {K : PySem.W.Frag} {mg : Str → Option Value} {base : Heap} {Γ : Cls'} (Wd : WdT wd K Γ mg)  {f : Addr} {fd : FuncData} (F : Fun K "held_after" "held_after" s_held_after f fd) :
    FnOk P wd K mg base (L2.CX P wd) 1 f fd ["word", "held"] (spM K Γ m_held_after) := by
  have nd := sc_held_after.nd
  exact def_ok F sc_held_after fun cdv A outer s H E hr => (c_seq (c_if (c_tcmp (op_eq2 (hu64 hr)) g_eq (cv 0) c_str (nomark _)) (c_last (c_ret (c_bin op_add4 g_add (cv 1) c_int))) c_nil)
  (c_last (c_ret (c_ifx (c_tcmp op_in_seq g_inF (cv 0) (c_tup (c_acons c_str (c_acons c_str (c_acons c_str c_anil)))) (by rfl)) c_int (cv 1)))))
end Mm
set_option maxRecDepth 100000
namespace Mm
open PySem L2
theorem sc_has_form : FnScope ["statement", "word"] ["statement"] (defScope s_has_form) := ⟨rfl, rfl, rfl, by decide +kernel, rfl, by decide +kernel, by decide +kernel⟩
theorem ok_has_form {P : Program} {wd : World} {K : PySem.W.Frag} {mg : Str → Option Value} {base : Heap} {Γ : Cls'} (Wd : WdT wd K Γ mg)  {f : Addr} {fd : FuncData} (F : Fun K "has_form" "has_form" s_has_form f fd) :
    FnOk P wd K mg base (L2.CX P wd) 1 f fd ["statement"] (spM K Γ m_has_form) := by
  have nd := sc_has_form.nd
  exact def_ok F sc_has_form fun cdv A outer s H E hr => (c_seq (c_if (c_wt (c_wor (c_tnot (c_tru (c_isiT (T := "tuple") Wd.nolk Wd.b_isinstance Wd.b_tuple (by decide +kernel) (cv 0)))) (c_wor1 (c_tnot (c_tru (cv 0)))))) (c_last (c_ret c_bl)) c_nil)
  (c_seq (cset 1 nd (c_ix (cv 0) c_int))
  (c_seq (c_if (c_wt (c_wor (c_tnot (c_tru (c_isiT (T := "str") Wd.nolk Wd.b_isinstance Wd.b_str (by decide +kernel) (cv 1)))) (c_wor1 (c_tcmp (op_ne2 (hu64 hr)) g_ne (c_callB call_len g_len (by rfl) Wd.b_len PySem.boot_len (c_acons (cv 0) c_anil)) (c_kget Wd.k_ITEMS (cv 1)) (nomark _))))) (c_last (c_ret c_bl)) c_nil)
  (c_seq (c_if (c_tcmp (op_eq2 (hu64 hr)) g_eq (cv 1) c_str (nomark _)) (c_last (c_ret (c_and (c_isiT (T := "tuple") Wd.nolk Wd.b_isinstance Wd.b_tuple (by decide +kernel) (c_ix (cv 0) c_int)) (c_one (c_isiT (T := "tuple") Wd.nolk Wd.b_isinstance Wd.b_tuple (by decide +kernel) (c_ix (cv 0) c_int)))))) c_nil)
  (c_last (c_ret c_bl))))))

theorem sc_fault_of : FnScope ["statement", "place", "earlier", "held", "word"] ["statement", "place", "earlier", "held"] (defScope s_fault_of) := ⟨rfl, rfl, rfl, by decide +kernel, rfl, by decide +kernel, by decide +kernel⟩
theorem ok_fault_of {P : Program} {wd : World} {K : PySem.W.Frag} {mg : Str → Option Value} {base : Heap} {Γ : Cls'} (Wd : WdT wd K Γ mg) (G_has_form : Df P wd K mg base Γ "has_form" 1 m_has_form) (G_is_name : Df P wd K mg base Γ "is_name" 1 m_is_name) {f : Addr} {fd : FuncData} (F : Fun K "fault_of" "fault_of" s_fault_of f fd) :
    FnOk P wd K mg base (L2.CX P wd) 2 f fd ["statement", "place", "earlier", "held"] (spM K Γ m_fault_of) := by
  have nd := sc_fault_of.nd
  exact def_ok F sc_fault_of fun cdv A outer s H E hr => (c_seq (c_if (c_tcmp (op_eq2 (hu64 hr)) g_eq (cv 2) (c_gl Wd.g_MOST_STATEMENTS) (nomark _)) (c_last (c_ret c_str)) c_nil)
  (c_seq (c_if (c_tnot (c_tru (c_fn tr0_ok G_has_form go_def (hr.mono (by first | decide | omega)) (by rfl) (c_acons (cv 0) c_anil)))) (c_last (c_ret c_str)) c_nil)
  (c_seq (cset 4 nd (c_ix (cv 0) c_int))
  (c_seq (c_if (c_wt (c_wand (c_tcmp (op_eq2 (hu64 hr)) g_eq (cv 4) c_str (nomark _)) (c_wand1 (c_tcmp (op_eq2 (hu64 hr)) g_eq (c_bin op_fdiv g_div (c_callB call_len g_len (by rfl) Wd.b_len PySem.boot_len (c_acons (cv 1) c_anil)) c_int) (c_gl Wd.g_MOST_NESTED) (nomark _))))) (c_last (c_ret c_str)) c_nil)
  (c_seq (c_if (c_wt (c_wand (c_tcmp op_in_seq g_inF (cv 4) (c_tup (c_acons c_str (c_acons c_str c_anil))) (by rfl)) (c_wand1 (c_tnot (c_tru (c_fn tr0_ok G_is_name go_def (hr.mono (by first | decide | omega)) (by rfl) (c_acons (c_ix (cv 0) c_int) c_anil))))))) (c_last (c_ret c_str)) c_nil)
  (c_seq (c_if (c_wt (c_wand (c_tcmp (op_eq2 (hu64 hr)) g_eq (cv 4) c_str (nomark _)) (c_wand1 (c_tcmp (op_eq2 (hu64 hr)) g_eq (cv 3) (c_gl Wd.g_MOST_HELD) (nomark _))))) (c_last (c_ret c_str)) c_nil)
  (c_last (c_ret c_non))))))))

theorem sc_Check___init__ : FnScope ["self"] ["self"] (defScope s_Check___init__) := ⟨rfl, rfl, rfl, by decide +kernel, rfl, by decide +kernel, by decide +kernel⟩
theorem ok_Check___init__ {P : Program} {wd : World} {K : PySem.W.Frag} {mg : Str → Option Value} {base : Heap} {Γ : Cls'} (Wd : WdT wd K Γ mg)  {f : Addr} {fd : FuncData} (F : Fun K "__init__" "Check.__init__" s_Check___init__ f fd) :
    FnOk P wd K mg base (L2.CX P wd) 1 f fd ["self"] (spM K Γ m_Check___init__) := by
  have nd := sc_Check___init__.nd
  exact def_ok F sc_Check___init__ fun cdv A outer s H E hr => (c_last (c_sfld (f := "found") (hF1 Wd.f_Check_found) (cv 0) c_dnewT))

theorem sc_Check_check_branch : FnScope ["self", "branch", "above", "held", "index", "statement"] ["self", "branch", "above", "held"] (defScope s_Check_check_branch) := ⟨rfl, rfl, rfl, by decide +kernel, rfl, by decide +kernel, by decide +kernel⟩
theorem ok_Check_check_branch {P : Program} {wd : World} {K : PySem.W.Frag} {mg : Str → Option Value} {base : Heap} {Γ : Cls'} (Wd : WdT wd K Γ mg) {m_Check_check_statement : FM} {n : Nat} (hn : 5 ≤ n) (G_Check_check_statement : Dm P wd K mg base Γ 2 "check_statement" n m_Check_check_statement) {f : Addr} {fd : FuncData} (F : Fun K "check_branch" "Check.check_branch" s_Check_check_branch f fd) :
    FnOk P wd K mg base (L2.CX P wd) (n + 1) f fd ["self", "branch", "above", "held"] (spM K Γ (m_Check_check_branch' m_Check_check_statement)) := by
  have nd := sc_Check_check_branch.nd
  exact def_ok F sc_Check_check_branch fun cdv A outer s H E hr => (c_seq (c_for (sl := [4, 5]) (passes_of rfl) rfl (ci_enum (by rfl) Wd.b_enumerate (cv 1)) (c_gtup rfl (c_gcons (cgn 4 nd) (c_gcons (cgn 5 nd) c_gnil)) (takes_cons (takes_cons takes_nil))) (c_last (cset 3 nd (c_mth tr0_ok G_Check_check_statement go_def (hr.mono (by first | decide | omega)) (cv 0) (c_acons (cv 5) (c_acons (c_bin op_add4 g_addT (cv 2) (c_ttp (c_acons (cv 4) c_anil))) (c_acons (cv 3) c_anil)))))))
  (c_last (c_ret (cv 3))))
end Mm
set_option maxRecDepth 100000
namespace Mm
open PySem L2
theorem sc_Check_check_statement : FnScope ["self", "statement", "place", "held", "why", "yes", "no"] ["self", "statement", "place", "held"] (defScope s_Check_check_statement) := ⟨rfl, rfl, rfl, by decide +kernel, rfl, by decide +kernel, by decide +kernel⟩
theorem ok_Check_check_statement {P : Program} {wd : World} {K : PySem.W.Frag} {mg : Str → Option Value} {base : Heap} {Γ : Cls'} (Wd : WdT wd K Γ mg) {m_Check_check_branch : FM} {n : Nat} (hn : 5 ≤ n) (G_Check_check_branch : Dm P wd K mg base Γ 2 "check_branch" n m_Check_check_branch) (G_fault_of : Df P wd K mg base Γ "fault_of" 2 m_fault_of) (G_held_after : Df P wd K mg base Γ "held_after" 1 m_held_after) {f : Addr} {fd : FuncData} (F : Fun K "check_statement" "Check.check_statement" s_Check_check_statement f fd) :
    FnOk P wd K mg base (L2.CX P wd) (n + 1) f fd ["self", "statement", "place", "held"] (spM K Γ (m_Check_check_statement' m_Check_check_branch)) := by
  have nd := sc_Check_check_statement.nd
  exact def_ok F sc_Check_check_statement fun cdv A outer s H E hr => (c_seq (cset 4 nd (c_fn tr0_ok G_fault_of go_def (hr.mono (by first | decide | omega)) (by rfl) (c_acons (cv 1) (c_acons (cv 2) (c_acons (c_callB call_lenD2 (g_dlen Wd.nolk) (by rfl) Wd.b_len PySem.boot_len (c_acons (c_fld (f := "found") (hF1 Wd.f_Check_found) (cv 0)) c_anil)) (c_acons (cv 3) c_anil))))))
  (c_seq (c_if (c_tcmp op_notN g_notN (cv 4) c_non (nomark _)) (c_last c_bad) c_nil)
  (c_seq (c_dput Wd.nolk (hu1 hr) (cv 1) (c_fld (f := "found") (hF1 Wd.f_Check_found) (cv 0)) (cv 2))
  (c_seq (c_if (c_tcmp (op_eq2 (hu64 hr)) g_eq (c_ix (cv 1) c_int) c_str (nomark _)) (c_seq (cset 5 nd (c_mth tr0_ok G_Check_check_branch go_def (hr.mono (by first | decide | omega)) (cv 0) (c_acons (c_ix (cv 1) c_int) (c_acons (c_bin op_add4 g_addT (cv 2) (c_ttp (c_acons c_int c_anil))) (c_acons (cv 3) c_anil)))))
  (c_seq (cset 6 nd (c_mth tr0_ok G_Check_check_branch go_def (hr.mono (by first | decide | omega)) (cv 0) (c_acons (c_ix (cv 1) c_int) (c_acons (c_bin op_add4 g_addT (cv 2) (c_ttp (c_acons c_int c_anil))) (c_acons (cv 3) c_anil)))))
  (c_last (c_ret (c_callB (call_max2 rfl) g_max2 (by rfl) Wd.b_max (by decide +kernel) (c_acons (cv 5) (c_acons (cv 6) c_anil))))))) c_nil)
  (c_last (c_ret (c_fn tr0_ok G_held_after go_def (hr.mono (by first | decide | omega)) (by rfl) (c_acons (c_ix (cv 1) c_int) (c_acons (cv 3) c_anil)))))))))

theorem sc_Script___init__ : FnScope ["self", "statements", "check"] ["self", "statements"] (defScope s_Script___init__) := ⟨rfl, rfl, rfl, by decide +kernel, rfl, by decide +kernel, by decide +kernel⟩
theorem ok_Script___init__ {P : Program} {wd : World} {K : PySem.W.Frag} {mg : Str → Option Value} {base : Heap} {Γ : Cls'} (Wd : WdT wd K Γ mg) (G_Check_check_branch : Dm P wd K mg base Γ 2 "check_branch" 11 m_Check_check_branch) (K_Check : Dk P wd K mg base Γ 2 "Check" 1 m_Check___init__) {f : Addr} {fd : FuncData} (F : Fun K "__init__" "Script.__init__" s_Script___init__ f fd) :
    FnOk P wd K mg base (L2.CX P wd) 12 f fd ["self", "statements"] (spM K Γ m_Script___init__) := by
  have nd := sc_Script___init__.nd
  exact def_ok F sc_Script___init__ fun cdv A outer s H E hr => (c_seq (c_if (c_tnot (c_tru (c_isiT (T := "tuple") Wd.nolk Wd.b_isinstance Wd.b_tuple (by decide +kernel) (cv 1)))) (c_last c_bad) c_nil)
  (c_seq (c_if (c_tnot (c_tru (cv 1))) (c_last c_bad) c_nil)
  (c_seq (cset 2 nd (c_mk0 tr0_ok K_Check go_def (hr.mono (by first | decide | omega)) (by rfl)))
  (c_seq (c_expr (c_mth tr0_ok G_Check_check_branch go_def (hr.mono (by first | decide | omega)) (cv 2) (c_acons (cv 1) (c_acons (c_ttp c_anil) (c_acons c_int c_anil)))))
  (c_seq (c_sfld (f := "statements") (hF1 Wd.f_Script_statements) (cv 0) (cv 1))
  (c_seq (c_sfld (f := "found") (hF1 Wd.f_Script_found) (cv 0) (c_fld (f := "found") (hF2 Wd.f_Script_found Wd.f_Check_found) (cv 2)))
  (c_last (c_sfld (f := "places") (hF1 Wd.f_Script_places) (cv 0) (c_callTy call_tuple_of g_tuple (by rfl) Wd.b_tuple (by decide +kernel) (c_acons (c_callTy (call_listD2 rfl) (g_dlist Wd.nolk) (by rfl) Wd.b_list (by decide +kernel) (c_acons (c_fld (f := "found") (hF1 Wd.f_Script_found) (cv 0)) c_anil)) c_anil))))))))))

theorem sc_Script___len__ : FnScope ["self"] ["self"] (defScope s_Script___len__) := ⟨rfl, rfl, rfl, by decide +kernel, rfl, by decide +kernel, by decide +kernel⟩
theorem ok_Script___len__ {P : Program} {wd : World} {K : PySem.W.Frag} {mg : Str → Option Value} {base : Heap} {Γ : Cls'} (Wd : WdT wd K Γ mg)  {f : Addr} {fd : FuncData} (F : Fun K "__len__" "Script.__len__" s_Script___len__ f fd) :
    FnOk P wd K mg base (L2.CX P wd) 1 f fd ["self"] (spM K Γ m_Script___len__) := by
  have nd := sc_Script___len__.nd
  exact def_ok F sc_Script___len__ fun cdv A outer s H E hr => (c_last (c_ret (c_callB call_len g_len (by rfl) Wd.b_len PySem.boot_len (c_acons (c_fld (f := "places") (hF1 Wd.f_Script_places) (cv 0)) c_anil))))

theorem sc_script_of : FnScope ["script", "fault"] ["script"] (defScope s_script_of) := ⟨rfl, rfl, rfl, by decide +kernel, rfl, by decide +kernel, by decide +kernel⟩
theorem ok_script_of {P : Program} {wd : World} {K : PySem.W.Frag} {mg : Str → Option Value} {base : Heap} {Γ : Cls'} (Wd : WdT wd K Γ mg) (K_Script : Dk P wd K mg base Γ 1 "Script" 12 m_Script___init__) {f : Addr} {fd : FuncData} (F : Fun K "script_of" "script_of" s_script_of f fd) :
    FnOk P wd K mg base (L2.CX P wd) 14 f fd ["script"] (spM K Γ m_script_of) := by
  have nd := sc_script_of.nd
  exact def_ok F sc_script_of fun cdv A outer s H E hr => (c_seq (c_if (c_tru (c_isiK Wd.nolk Wd.b_isinstance Wd.c_Script (cv 0))) (c_last (c_ret (cv 0))) c_nil)
  (c_last (c_tryNo (c_last (c_ret (c_mk trT_ok K_Script goes_not (hr.mono (by first | decide | omega)) (by rfl) (c_acons (cv 0) c_anil)))))))
end Mm
set_option maxRecDepth 100000
namespace Mm
open PySem L2
theorem sc_Kind___init__ : FnScope ["self", "name", "script", "block", "many"] ["self", "name", "script", "block", "many"] (defScope s_Kind___init__) := ⟨rfl, rfl, rfl, by decide +kernel, rfl, by decide +kernel, by decide +kernel⟩
theorem ok_Kind___init__ {P : Program} {wd : World} {K : PySem.W.Frag} {mg : Str → Option Value} {base : Heap} {Γ : Cls'} (Wd : WdT wd K Γ mg) (G_is_name : Df P wd K mg base Γ "is_name" 1 m_is_name) (G_is_within : Df P wd K mg base Γ "is_within" 2 m_is_within) (G_script_of : Df P wd K mg base Γ "script_of" 14 m_script_of) {f : Addr} {fd : FuncData} (F : FunD K "__init__" "Kind.__init__" (defArgs s_Kind___init__) (defBody s_Kind___init__) (defScope s_Kind___init__) [] [("block", .int 1), ("many", .int 1)] f fd) :
    FnOk P wd K mg base (L2.CX P wd) 15 f fd ["self", "name", "script", "block", "many"] (spM K Γ m_Kind___init__) := by
  have nd := sc_Kind___init__.nd
  exact def_okD F sc_Kind___init__ fun cdv A outer s H E hr => (c_seq (c_if (c_tnot (c_tru (c_fn tr0_ok G_is_name go_def (hr.mono (by first | decide | omega)) (by rfl) (c_acons (cv 1) c_anil)))) (c_last c_bad) c_nil)
  (c_seq (cset 2 nd (c_fn tr0_ok G_script_of go_def (hr.mono (by first | decide | omega)) (by rfl) (c_acons (cv 2) c_anil)))
  (c_seq (c_if (c_tnot (c_tru (c_fn tr0_ok G_is_within go_def (hr.mono (by first | decide | omega)) (by rfl) (c_acons (cv 3) (c_acons c_int (c_acons (c_gl Wd.g_MOST_BLOCK) c_anil)))))) (c_last c_bad) c_nil)
  (c_seq (c_if (c_tnot (c_tru (c_fn tr0_ok G_is_within go_def (hr.mono (by first | decide | omega)) (by rfl) (c_acons (cv 4) (c_acons c_int (c_acons (c_gl Wd.g_MOST_SESSIONS) c_anil)))))) (c_last c_bad) c_nil)
  (c_seq (c_sfld (f := "name") (hF1 Wd.f_Kind_name) (cv 0) (cv 1))
  (c_seq (c_sfld (f := "script") (hF1 Wd.f_Kind_script) (cv 0) (cv 2))
  (c_seq (c_sfld (f := "block") (hF1 Wd.f_Kind_block) (cv 0) (cv 3))
  (c_last (c_sfld (f := "many") (hF1 Wd.f_Kind_many) (cv 0) (cv 4))))))))))

theorem sc_count_of_sessions : FnScope ["kinds", "kind"] ["kinds"] (defScope s_count_of_sessions) := ⟨rfl, rfl, rfl, by decide +kernel, rfl, by decide +kernel, by decide +kernel⟩
theorem ok_count_of_sessions {P : Program} {wd : World} {K : PySem.W.Frag} {mg : Str → Option Value} {base : Heap} {Γ : Cls'} (Wd : WdT wd K Γ mg)  {f : Addr} {fd : FuncData} (F : Fun K "count_of_sessions" "count_of_sessions" s_count_of_sessions f fd) :
    FnOk P wd K mg base (L2.CX P wd) 1 f fd ["kinds"] (spM K Γ m_count_of_sessions) := by
  have nd := sc_count_of_sessions.nd
  exact def_ok F sc_count_of_sessions fun cdv A outer s H E hr => (c_last (c_ret (c_callB (cr_sum rfl) g_sum (by rfl) Wd.b_sum (by decide +kernel) (c_acons (c_lcG (own := [("kind", 1)]) (sl := [1]) finL_ok (by decide) rfl nd (ci_seq (cv 0)) (blkOk_by (own := [("kind", 1)]) (N := ["kinds", "kind"]) (sc := defScope s_count_of_sessions) (by decide +kernel)) (fun _ _ _ _ _ => (cgn 1 nd)) (fun _ _ _ _ _ => c_tsnil) (fun _ _ _ _ _ => (c_fld (f := "many") (hF1 Wd.f_Kind_many) (cv 1)))) c_anil))))

theorem sc_are_kinds : FnScope ["kinds", "kind"] ["kinds"] (defScope s_are_kinds) := ⟨rfl, rfl, rfl, by decide +kernel, rfl, by decide +kernel, by decide +kernel⟩
theorem ok_are_kinds {P : Program} {wd : World} {K : PySem.W.Frag} {mg : Str → Option Value} {base : Heap} {Γ : Cls'} (Wd : WdT wd K Γ mg) (G_count_of_sessions : Df P wd K mg base Γ "count_of_sessions" 1 m_count_of_sessions) {f : Addr} {fd : FuncData} (F : Fun K "are_kinds" "are_kinds" s_are_kinds f fd) :
    FnOk P wd K mg base (L2.CX P wd) 2 f fd ["kinds"] (spM K Γ m_are_kinds) := by
  have nd := sc_are_kinds.nd
  exact def_ok F sc_are_kinds fun cdv A outer s H E hr => (c_seq (c_if (c_wt (c_wor (c_tnot (c_tru (cv 0))) (c_wor1 (c_tnot (c_tru (c_callB (cr_all rfl) g_all (by rfl) Wd.b_all (by decide +kernel) (c_acons (c_lcG (own := [("kind", 1)]) (sl := [1]) finL_ok (by decide) rfl nd (ci_seq (cv 0)) (blkOk_by (own := [("kind", 1)]) (N := ["kinds", "kind"]) (sc := defScope s_are_kinds) (by decide +kernel)) (fun _ _ _ _ _ => (cgn 1 nd)) (fun _ _ _ _ _ => c_tsnil) (fun _ _ _ _ _ => (c_isiK Wd.nolk Wd.b_isinstance Wd.c_Kind (cv 1)))) c_anil))))))) (c_last (c_ret c_bl)) c_nil)
  (c_seq (c_if (c_tcmp op_lt g_lt (c_lens (by rfl) Wd.b_len (by rfl) Wd.b_set (c_lcG (own := [("kind", 1)]) (sl := [1]) finL_ok (by decide) rfl nd (ci_seq (cv 0)) (blkOk_by (own := [("kind", 1)]) (N := ["kinds", "kind"]) (sc := defScope s_are_kinds) (by decide +kernel)) (fun _ _ _ _ _ => (cgn 1 nd)) (fun _ _ _ _ _ => c_tsnil) (fun _ _ _ _ _ => (c_fld (f := "name") (hF1 Wd.f_Kind_name) (cv 1))))) (c_callB call_len g_len (by rfl) Wd.b_len PySem.boot_len (c_acons (cv 0) c_anil)) (nomark _)) (c_last (c_ret c_bl)) c_nil)
  (c_last (c_ret (c_cmp op_le g_le (c_fn tr0_ok G_count_of_sessions go_def (hr.mono (by first | decide | omega)) (by rfl) (c_acons (cv 0) c_anil)) (c_gl Wd.g_MOST_SESSIONS) (nomark _))))))

theorem sc_fault_of_system : FnScope ["kinds", "ahead", "window", "crashes", "full", "kind", "greatest_block"] ["kinds", "ahead", "window", "crashes"] (defScope s_fault_of_system) := ⟨rfl, rfl, rfl, by decide +kernel, rfl, by decide +kernel, by decide +kernel⟩
theorem ok_fault_of_system {P : Program} {wd : World} {K : PySem.W.Frag} {mg : Str → Option Value} {base : Heap} {Γ : Cls'} (Wd : WdT wd K Γ mg) (G_are_kinds : Df P wd K mg base Γ "are_kinds" 2 m_are_kinds) (G_count_of_sessions : Df P wd K mg base Γ "count_of_sessions" 1 m_count_of_sessions) (G_is_within : Df P wd K mg base Γ "is_within" 2 m_is_within) (O_Script___len__ : Dn' P wd K mg base Γ 1 "__len__" 1 m_Script___len__) {f : Addr} {fd : FuncData} (F : Fun K "fault_of_system" "fault_of_system" s_fault_of_system f fd) :
    FnOk P wd K mg base (L2.CX P wd) 3 f fd ["kinds", "ahead", "window", "crashes"] (spM K Γ m_fault_of_system) := by
  have nd := sc_fault_of_system.nd
  exact def_ok F sc_fault_of_system fun cdv A outer s H E hr => (c_seq (c_if (c_tnot (c_tru (c_fn tr0_ok G_are_kinds go_def (hr.mono (by first | decide | omega)) (by rfl) (c_acons (cv 0) c_anil)))) (c_last (c_ret c_str)) c_nil)
  (c_seq (cset 4 nd (c_cmp (op_eq2 (hu64 hr)) g_eq (c_fn tr0_ok G_count_of_sessions go_def (hr.mono (by first | decide | omega)) (by rfl) (c_acons (cv 0) c_anil)) (c_gl Wd.g_MOST_SESSIONS) (nomark _)))
  (c_seq (c_if (c_wt (c_wand (c_tru (cv 4)) (c_wand1 (c_tcmp op_gt g_gt (c_callB (cr_max rfl) g_max (by rfl) Wd.b_max (by decide +kernel) (c_acons (c_lcG (own := [("kind", 5)]) (sl := [5]) finL_ok (by decide) rfl nd (ci_seq (cv 0)) (blkOk_by (own := [("kind", 5)]) (N := ["kinds", "ahead", "window", "crashes", "full", "kind", "greatest_block"]) (sc := defScope s_fault_of_system) (by decide +kernel)) (fun _ _ _ _ _ => (cgn 5 nd)) (fun _ _ _ _ _ => c_tsnil) (fun _ _ _ _ _ => (c_lenOwn O_Script___len__ (hr.mono (by first | decide | omega)) (by rfl) Wd.b_len (c_fld (f := "script") (hF1 Wd.f_Kind_script) (cv 5))))) c_anil)) (c_gl Wd.g_LONGEST_OF_MANY) (nomark _))))) (c_last (c_ret c_str)) c_nil)
  (c_seq (c_if (c_tnot (c_tru (c_fn tr0_ok G_is_within go_def (hr.mono (by first | decide | omega)) (by rfl) (c_acons (cv 1) (c_acons c_int (c_acons (c_gl Wd.g_MOST_AHEAD) c_anil)))))) (c_last (c_ret c_str)) c_nil)
  (c_seq (cset 6 nd (c_callB (cr_max rfl) g_max (by rfl) Wd.b_max (by decide +kernel) (c_acons (c_lcG (own := [("kind", 5)]) (sl := [5]) finL_ok (by decide) rfl nd (ci_seq (cv 0)) (blkOk_by (own := [("kind", 5)]) (N := ["kinds", "ahead", "window", "crashes", "full", "kind", "greatest_block"]) (sc := defScope s_fault_of_system) (by decide +kernel)) (fun _ _ _ _ _ => (cgn 5 nd)) (fun _ _ _ _ _ => c_tsnil) (fun _ _ _ _ _ => (c_fld (f := "block") (hF1 Wd.f_Kind_block) (cv 5)))) c_anil)))
  (c_seq (c_if (c_wt (c_wand (c_tcmp op_notN g_notN (cv 2) c_non (nomark _)) (c_wand1 (c_tnot (c_tru (c_fn tr0_ok G_is_within go_def (hr.mono (by first | decide | omega)) (by rfl) (c_acons (cv 2) (c_acons (cv 6) (c_acons (c_gl Wd.g_MOST_WINDOW) c_anil))))))))) (c_last (c_ret c_str)) c_nil)
  (c_seq (c_if (c_tnot (c_tru (c_fn tr0_ok G_is_within go_def (hr.mono (by first | decide | omega)) (by rfl) (c_acons (cv 3) (c_acons c_int (c_acons (c_gl Wd.g_MOST_CRASHES) c_anil)))))) (c_last (c_ret c_str)) c_nil)
  (c_last (c_ret c_non)))))))))
end Mm
set_option maxRecDepth 100000
namespace Mm
open PySem L2
theorem sc_System___init__ : FnScope ["self", "ahead", "window", "crashes", "kinds", "why", "kind", "index"] ["self", "ahead", "window", "crashes", "kinds"] (defScope s_System___init__) := ⟨rfl, rfl, rfl, by decide +kernel, rfl, by decide +kernel, by decide +kernel⟩
theorem ok_System___init__ {P : Program} {wd : World} {K : PySem.W.Frag} {mg : Str → Option Value} {base : Heap} {Γ : Cls'} (Wd : WdT wd K Γ mg) (G_fault_of_system : Df P wd K mg base Γ "fault_of_system" 3 m_fault_of_system) (cdv : Value) (f : Addr) (A : Around) (outer : List PySem.Env) (s : Shared) (H : Hp) (E : XK) (hr : Room 3 (A.deeper (PyProof.Rows.envOfC "System.__init__" (defScope s_System___init__) s.heap.objs.size f cdv))) :
    CSs Γ (cxOf (L2.CX P wd) P wd K mg base ["self", "ahead", "window", "crashes", "kinds", "why", "kind", "index"] "System.__init__" (defScope s_System___init__) f cdv A outer s H E) (fun C dd _ H => E C dd H) (defBody s_System___init__) b_System___init__ := by
  have nd := sc_System___init__.nd
  exact (c_seq (cset 5 nd (c_fn tr0_ok G_fault_of_system go_def (hr.mono (by first | decide | omega)) (by rfl) (c_acons (cv 4) (c_acons (cv 1) (c_acons (cv 2) (c_acons (cv 3) c_anil))))))
  (c_seq (c_if (c_tcmp op_notN g_notN (cv 5) c_non (nomark _)) (c_last c_bad) c_nil)
  (c_seq (c_sfld (f := "kinds") (hF1 Wd.f_System_kinds) (cv 0) (cv 4))
  (c_seq (c_sfld (f := "ahead") (hF1 Wd.f_System_ahead) (cv 0) (cv 1))
  (c_seq (c_sfld (f := "window") (hF1 Wd.f_System_window) (cv 0) (cv 2))
  (c_seq (c_sfld (f := "crashes") (hF1 Wd.f_System_crashes) (cv 0) (cv 3))
  (c_last (c_sfld (f := "sessions") (hF1 Wd.f_System_sessions) (cv 0) (c_callTy call_tuple_of g_tuple (by rfl) Wd.b_tuple (by decide +kernel) (c_acons (c_lc2 (own := [("kind", 6), ("index", 7)]) (vs1 := [7]) (sl := [6]) (sl1 := [7]) finL_ok (by decide) (by decide) (by decide) rfl nd (ci_seq (cv 4)) (blkOk_by (own := [("kind", 6), ("index", 7)]) (N := ["self", "ahead", "window", "crashes", "kinds", "why", "kind", "index"]) (sc := defScope s_System___init__) (by decide +kernel)) (fun _ _ _ _ _ => (cgn 6 nd)) (fun _ _ _ _ _ => c_tsnil) (fun _ _ _ _ _ => (ci_rng1 (by rfl) Wd.b_range (c_fld (f := "many") (hF1 Wd.f_Kind_many) (cv 6)))) (fun _ _ _ _ _ => (cgn 7 nd)) (fun _ _ _ _ _ => c_tsnil) (fun _ _ _ _ _ => (c_fld (f := "name") (hF1 Wd.f_Kind_name) (cv 6)))) c_anil))))))))))

theorem sc_is_measure : FnScope ["value"] ["value"] (defScope s_is_measure) := ⟨rfl, rfl, rfl, by decide +kernel, rfl, by decide +kernel, by decide +kernel⟩
theorem ok_is_measure {P : Program} {wd : World} {K : PySem.W.Frag} {mg : Str → Option Value} {base : Heap} {Γ : Cls'} (Wd : WdT wd K Γ mg)  {f : Addr} {fd : FuncData} (F : Fun K "is_measure" "is_measure" s_is_measure f fd) :
    FnOk P wd K mg base (L2.CX P wd) 1 f fd ["value"] (spM K Γ m_is_measure) := by
  have nd := sc_is_measure.nd
  exact def_ok F sc_is_measure fun cdv A outer s H E hr => (c_last (c_ret (c_and (c_isiT (T := "str") Wd.nolk Wd.b_isinstance Wd.b_str (by decide +kernel) (cv 0)) (c_one (c_cmp op_in_seq g_inF (cv 0) (c_gl Wd.g_MEASURES) (by rfl))))))

theorem sc_check_measure : FnScope ["measure"] ["measure"] (defScope s_check_measure) := ⟨rfl, rfl, rfl, by decide +kernel, rfl, by decide +kernel, by decide +kernel⟩
theorem ok_check_measure {P : Program} {wd : World} {K : PySem.W.Frag} {mg : Str → Option Value} {base : Heap} {Γ : Cls'} (Wd : WdT wd K Γ mg) (G_is_measure : Df P wd K mg base Γ "is_measure" 1 m_is_measure) (X_NoMeasure : Xk P wd K mg base Γ 8 "NoMeasure" "measure") {f : Addr} {fd : FuncData} (F : Fun K "check_measure" "check_measure" s_check_measure f fd) :
    FnOk P wd K mg base (L2.CX P wd) 3 f fd ["measure"] (spM K Γ m_check_measure) := by
  have nd := sc_check_measure.nd
  exact def_ok F sc_check_measure fun cdv A outer s H E hr => (c_last (c_if (c_tnot (c_tru (c_fn tr0_ok G_is_measure go_def (hr.mono (by first | decide | omega)) (by rfl) (c_acons (cv 0) c_anil)))) (c_last (c_raise1 X_NoMeasure rfl (takes_of rfl rfl rfl rfl) (hr.mono (by first | decide | omega)) (by rfl) (cv 0))) c_nil))

theorem sc_fresh_sessions : FnScope ["system", "name"] ["system"] (defScope s_fresh_sessions) := ⟨rfl, rfl, rfl, by decide +kernel, rfl, by decide +kernel, by decide +kernel⟩
theorem ok_fresh_sessions {P : Program} {wd : World} {K : PySem.W.Frag} {mg : Str → Option Value} {base : Heap} {Γ : Cls'} (Wd : WdT wd K Γ mg)  {f : Addr} {fd : FuncData} (F : Fun K "fresh_sessions" "fresh_sessions" s_fresh_sessions f fd) :
    FnOk P wd K mg base (L2.CX P wd) 1 f fd ["system"] (spM K Γ m_fresh_sessions) := by
  have nd := sc_fresh_sessions.nd
  exact def_ok F sc_fresh_sessions fun cdv A outer s H E hr => (c_last (c_ret (c_callTy call_tuple_of g_tuple (by rfl) Wd.b_tuple (by decide +kernel) (c_acons (c_lcG (own := [("name", 1)]) (sl := [1]) finL_ok (by decide) rfl nd (ci_seq (c_fld (f := "sessions") (hF1 Wd.f_System_sessions) (cv 0))) (blkOk_by (own := [("name", 1)]) (N := ["system", "name"]) (sc := defScope s_fresh_sessions) (by decide +kernel)) (fun _ _ _ _ _ => (cgn 1 nd)) (fun _ _ _ _ _ => c_tsnil) (fun _ _ _ _ _ => (c_gl Wd.g_FRESH))) c_anil))))
end Mm
set_option maxRecDepth 100000
namespace Mm
open PySem L2
theorem sc_start : FnScope ["system", "measure"] ["system", "measure"] (defScope s_start) := ⟨rfl, rfl, rfl, by decide +kernel, rfl, by decide +kernel, by decide +kernel⟩
theorem ok_start {P : Program} {wd : World} {K : PySem.W.Frag} {mg : Str → Option Value} {base : Heap} {Γ : Cls'} (Wd : WdT wd K Γ mg) (G_check_measure : Df P wd K mg base Γ "check_measure" 3 m_check_measure) (G_fresh_sessions : Df P wd K mg base Γ "fresh_sessions" 1 m_fresh_sessions) {f : Addr} {fd : FuncData} (F : Fun K "start" "start" s_start f fd) :
    FnOk P wd K mg base (L2.CX P wd) 4 f fd ["system", "measure"] (spM K Γ m_start) := by
  have nd := sc_start.nd
  exact def_ok F sc_start fun cdv A outer s H E hr => (c_seq (c_expr (c_fn tr0_ok G_check_measure go_def (hr.mono (by first | decide | omega)) (by rfl) (c_acons (cv 1) c_anil)))
  (c_last (c_ret (c_tup (c_acons (c_tup (c_acons c_str (c_acons c_str c_anil))) (c_acons (c_fld (f := "ahead") (hF1 Wd.f_System_ahead) (cv 0)) (c_acons (c_fld (f := "crashes") (hF1 Wd.f_System_crashes) (cv 0)) (c_acons (c_fn tr0_ok G_fresh_sessions go_def (hr.mono (by first | decide | omega)) (by rfl) (c_acons (cv 0) c_anil)) c_anil))))))))

theorem sc_steps : FnScope ["system", "measure", "state", "items", "session"] ["system", "measure", "state"] (defScope s_steps) := ⟨rfl, rfl, rfl, by decide +kernel, rfl, by decide +kernel, by decide +kernel⟩
theorem ok_steps {P : Program} {wd : World} {K : PySem.W.Frag} {mg : Str → Option Value} {base : Heap} {Γ : Cls'} (Wd : WdT wd K Γ mg) (G_check_measure : Df P wd K mg base Γ "check_measure" 3 m_check_measure) {f : Addr} {fd : FuncData} (F : Fun K "steps" "steps" s_steps f fd) :
    FnOk P wd K mg base (L2.CX P wd) 4 f fd ["system", "measure", "state"] (spM K Γ m_steps) := by
  have nd := sc_steps.nd
  exact def_ok F sc_steps fun cdv A outer s H E hr => (c_seq (c_expr (c_fn tr0_ok G_check_measure go_def (hr.mono (by first | decide | omega)) (by rfl) (c_acons (cv 1) c_anil)))
  (c_seq (c_if (c_tcmp (op_eq2 (hu64 hr)) g_eq (cv 2) (c_gl Wd.g_END) (nomark _)) (c_last (c_ret (c_lst c_anil))) c_nil)
  (c_seq c_bad
  (c_seq c_bad
  (c_last c_bad)))))

theorem sc_reach : FnScope ["system", "measure"] ["system", "measure"] (defScope s_reach) := ⟨rfl, rfl, rfl, by decide +kernel, rfl, by decide +kernel, by decide +kernel⟩
theorem ok_reach {P : Program} {wd : World} {K : PySem.W.Frag} {mg : Str → Option Value} {base : Heap} {Γ : Cls'} (Wd : WdT wd K Γ mg) (G_reached : Dg P wd K mg base Γ "reached" 9 m_start 8) {f : Addr} {fd : FuncData} (F : Fun K "reach" "reach" s_reach f fd) :
    FnOk P wd K mg base (L2.CX P wd) 13 f fd ["system", "measure"] (spM K Γ m_reach) := by
  have nd := sc_reach.nd
  exact def_ok F sc_reach fun cdv A outer s H E hr => (c_last (c_ret (c_callB call_len g_len (by rfl) Wd.b_len PySem.boot_len (c_acons (c_listX G_reached Wd.s_NoMeasure go_def (hr.mono (by first | decide | omega)) (by rfl) Wd.b_list (by decide +kernel) (by rfl) (c_acons (cv 0) (c_acons (cv 1) c_anil))) c_anil))))

theorem sc__law_pool : FnScope ["_law_script", "_law_k", "_law_cell"] ["_law_script", "_law_k"] (defScope s__law_pool) := ⟨rfl, rfl, rfl, by decide +kernel, rfl, by decide +kernel, by decide +kernel⟩
theorem ok__law_pool {P : Program} {wd : World} {K : PySem.W.Frag} {mg : Str → Option Value} {base : Heap} {Γ : Cls'} (Wd : WdT wd K Γ mg)  {f : Addr} {fd : FuncData} (F : Fun K "_law_pool" "_law_pool" s__law_pool f fd) :
    FnOk P wd K mg base (L2.CX P wd) 1 f fd ["_law_script", "_law_k"] (spM K Γ m__law_pool) := by
  have nd := sc__law_pool.nd
  exact def_ok F sc__law_pool fun cdv A outer s H E hr => (c_seq (cset 2 nd (c_bin op_add4 g_add (cv 1) c_int))
  (c_seq (c_if (c_tcmp op_lt g_lt (cv 1) (c_callB call_len g_len (by rfl) Wd.b_len PySem.boot_len (c_acons (cv 0) c_anil)) (nomark _)) (c_last (cset 2 nd (c_callTy call_int1 g_intc (by rfl) Wd.b_int (by decide +kernel) (c_acons (c_ix (cv 0) (cv 1)) c_anil)))) c_nil)
  (c_last (c_ret (c_new (c_acons (c_callB (call_max2 rfl) g_max2 (by rfl) Wd.b_max (by decide +kernel) (c_acons c_int (c_acons (c_bin op_sub g_sub (cv 2) (c_bin op_pow g_pow c_int c_int)) c_anil))) (c_acons (c_bin op_mod g_mod (c_callTy call_int1 g_intc (by rfl) Wd.b_int (by decide +kernel) (c_acons (cv 2) c_anil)) c_int) (c_acons c_int c_anil))))))))
end Mm
set_option maxRecDepth 100000
namespace Mm
open PySem L2
theorem sc__law_draw : FnScope ["_law_pool_here", "_law_amount", "_law_digit", "_law_number"] ["_law_pool_here", "_law_amount"] (defScope s__law_draw) := ⟨rfl, rfl, rfl, by decide +kernel, rfl, by decide +kernel, by decide +kernel⟩
theorem ok__law_draw {P : Program} {wd : World} {K : PySem.W.Frag} {mg : Str → Option Value} {base : Heap} {Γ : Cls'} (Wd : WdT wd K Γ mg)  {f : Addr} {fd : FuncData} (F : Fun K "_law_draw" "_law_draw" s__law_draw f fd) :
    FnOk P wd K mg base (L2.CX P wd) 1 f fd ["_law_pool_here", "_law_amount"] (spM K Γ m__law_draw) := by
  have nd := sc__law_draw.nd
  exact def_ok F sc__law_draw fun cdv A outer s H E hr => (c_seq (c_if (c_tcmp op_gt g_gt (c_ix (cv 0) c_int) c_int (nomark _)) (c_seq (cset 2 nd (c_bin op_mod g_mod (c_callTy call_int1 g_intc (by rfl) Wd.b_int (by decide +kernel) (c_acons (c_ix (cv 0) c_int) c_anil)) (cv 1)))
  (c_seq (c_put (c_bin op_fdiv g_div (c_ix (cv 0) c_int) (cv 1)) (cv 0) c_int)
  (c_last (c_ret (cv 2))))) c_nil)
  (c_seq (c_put (c_bin op_add4 g_add (c_ix (cv 0) c_int) c_int) (cv 0) c_int)
  (c_seq (cset 3 nd (c_bin op_mod g_mod (c_callTy call_int1 g_intc (by rfl) Wd.b_int (by decide +kernel) (c_acons (c_bin op_mul3 g_mul (c_bin op_add4 g_add (c_bin op_add4 g_add (c_ix (cv 0) c_int) (c_bin op_mul3 g_mul c_int (c_ix (cv 0) c_int))) c_int) c_int) c_anil)) c_int))
  (c_seq (cset 3 nd (c_bin op_mod g_mod (c_callTy call_int1 g_intc (by rfl) Wd.b_int (by decide +kernel) (c_acons (c_bin op_mul3 g_mul (cv 3) (c_bin op_add4 g_add (c_bin op_fdiv g_div (cv 3) c_int) c_int)) c_anil)) c_int))
  (c_seq (cset 3 nd (c_bin op_mod g_mod (c_callTy call_int1 g_intc (by rfl) Wd.b_int (by decide +kernel) (c_acons (c_bin op_mul3 g_mul (cv 3) (c_bin op_add4 g_add (c_bin op_fdiv g_div (cv 3) c_int) c_int)) c_anil)) c_int))
  (c_last (c_ret (c_bin op_mod g_mod (c_callTy call_int1 g_intc (by rfl) Wd.b_int (by decide +kernel) (c_acons (cv 3) c_anil)) (cv 1)))))))))

theorem sc__law_names : FnScope ["_law_pool_here", "_law_letters", "_law_base", "_law_k", "_law_at", "_law_first", "_law_signs", "_law_sign"] ["_law_pool_here"] (defScope s__law_names) := ⟨rfl, rfl, rfl, by decide +kernel, rfl, by decide +kernel, by decide +kernel⟩
theorem ok__law_names {P : Program} {wd : World} {K : PySem.W.Frag} {mg : Str → Option Value} {base : Heap} {Γ : Cls'} (Wd : WdT wd K Γ mg) (G__law_draw : Df P wd K mg base Γ "_law_draw" 1 m__law_draw) {f : Addr} {fd : FuncData} (F : Fun K "_law_names" "_law_names" s__law_names f fd) :
    FnOk P wd K mg base (L2.CX P wd) 2 f fd ["_law_pool_here"] (spM K Γ m__law_names) := by
  have nd := sc__law_names.nd
  exact def_ok F sc__law_names fun cdv A outer s H E hr => (c_seq (cset 1 nd c_str)
  (c_seq (cset 2 nd c_str)
  (c_seq (c_for (sl := [3]) (passes_of rfl) rfl (ci_rng1 (by rfl) Wd.b_range (c_fn tr0_ok G__law_draw go_def (hr.mono (by first | decide | omega)) (by rfl) (c_acons (cv 0) (c_acons c_int c_anil)))) (cgn 3 nd) (c_last (cset 2 nd (c_bin op_add4 g_add (cv 2) (c_ix (cv 1) (c_fn tr0_ok G__law_draw go_def (hr.mono (by first | decide | omega)) (by rfl) (c_acons (cv 0) (c_acons c_int c_anil))))))))
  (c_seq (cset 4 nd (c_fn tr0_ok G__law_draw go_def (hr.mono (by first | decide | omega)) (by rfl) (c_acons (cv 0) (c_acons (c_bin op_add4 g_add (c_callB call_len g_len (by rfl) Wd.b_len PySem.boot_len (c_acons (cv 2) c_anil)) c_int) c_anil))))
  (c_seq (cset 5 nd (c_fn tr0_ok G__law_draw go_def (hr.mono (by first | decide | omega)) (by rfl) (c_acons (cv 0) (c_acons c_int c_anil))))
  (c_seq (cset 6 nd (c_lst (c_acons (cv 5) (c_acons (c_bin op_mod g_mod (c_callTy call_int1 g_intc (by rfl) Wd.b_int (by decide +kernel) (c_acons (c_bin op_add4 g_add (c_bin op_add4 g_add (cv 5) c_int) (c_fn tr0_ok G__law_draw go_def (hr.mono (by first | decide | omega)) (by rfl) (c_acons (cv 0) (c_acons c_int c_anil)))) c_anil)) c_int) (c_acons (c_bin op_mod g_mod (c_callTy call_int1 g_intc (by rfl) Wd.b_int (by decide +kernel) (c_acons (c_bin op_add4 g_add (c_bin op_add4 g_add (cv 5) c_int) (c_fn tr0_ok G__law_draw go_def (hr.mono (by first | decide | omega)) (by rfl) (c_acons (cv 0) (c_acons c_int c_anil)))) c_anil)) c_int) c_anil)))))
  (c_last (c_ret (c_lcG (own := [("_law_sign", 7)]) (sl := [7]) finL_ok (by decide) rfl nd (ci_seq (cv 6)) (blkOk_by (own := [("_law_sign", 7)]) (N := ["_law_pool_here", "_law_letters", "_law_base", "_law_k", "_law_at", "_law_first", "_law_signs", "_law_sign"]) (sc := defScope s__law_names) (by decide +kernel)) (fun _ _ _ _ _ => (cgn 7 nd)) (fun _ _ _ _ _ => c_tsnil) (fun _ _ _ _ _ => (c_bin op_add4 g_add (c_bin op_add4 g_add (c_sl (cv 2) c_onone (c_osome (cv 4))) (c_ix (cv 1) (cv 7))) (c_sl (cv 2) (c_osome (cv 4)) c_onone))))))))))))

theorem sc__law_simple : FnScope ["_law_pool_here", "_law_box", "_law_names_here", "_law_pick"] ["_law_pool_here", "_law_box", "_law_names_here"] (defScope s__law_simple) := ⟨rfl, rfl, rfl, by decide +kernel, rfl, by decide +kernel, by decide +kernel⟩
theorem ok__law_simple {P : Program} {wd : World} {K : PySem.W.Frag} {mg : Str → Option Value} {base : Heap} {Γ : Cls'} (Wd : WdT wd K Γ mg) (G__law_draw : Df P wd K mg base Γ "_law_draw" 1 m__law_draw) {f : Addr} {fd : FuncData} (F : Fun K "_law_simple" "_law_simple" s__law_simple f fd) :
    FnOk P wd K mg base (L2.CX P wd) 2 f fd ["_law_pool_here", "_law_box", "_law_names_here"] (spM K Γ m__law_simple) := by
  have nd := sc__law_simple.nd
  exact def_ok F sc__law_simple fun cdv A outer s H E hr => (c_seq (cset 3 nd (c_fn tr0_ok G__law_draw go_def (hr.mono (by first | decide | omega)) (by rfl) (c_acons (cv 0) (c_acons c_int c_anil))))
  (c_seq (c_if (c_wt (c_wand (c_tcmp op_lt g_lt (cv 3) c_int (nomark _)) (c_wand1 (c_tcmp op_lt g_lt (c_ix (cv 1) c_int) (c_ix (cv 1) c_int) (nomark _))))) (c_seq (c_put (c_bin op_add4 g_add (c_ix (cv 1) c_int) c_int) (cv 1) c_int)
  (c_last (c_ret (c_tup (c_acons c_str c_anil))))) c_nil)
  (c_seq (c_if (c_tcmp (op_eq2 (hu64 hr)) g_eq (cv 3) c_int (nomark _)) (c_last (c_ret (c_tup (c_acons c_str (c_acons (c_ix (cv 2) (c_fn tr0_ok G__law_draw go_def (hr.mono (by first | decide | omega)) (by rfl) (c_acons (cv 0) (c_acons c_int c_anil)))) c_anil))))) c_nil)
  (c_seq (c_if (c_tcmp (op_eq2 (hu64 hr)) g_eq (cv 3) c_int (nomark _)) (c_last (c_ret (c_tup (c_acons c_str (c_acons (c_ix (cv 2) (c_fn tr0_ok G__law_draw go_def (hr.mono (by first | decide | omega)) (by rfl) (c_acons (cv 0) (c_acons c_int c_anil)))) c_anil))))) c_nil)
  (c_seq (c_if (c_tcmp (op_eq2 (hu64 hr)) g_eq (cv 3) c_int (nomark _)) (c_last (c_ret (c_tup (c_acons c_str c_anil)))) c_nil)
  (c_seq (c_put c_int (cv 1) c_int)
  (c_seq (c_if (c_tcmp (op_eq2 (hu64 hr)) g_eq (cv 3) c_int (nomark _)) (c_last (c_ret (c_tup (c_acons c_str c_anil)))) c_nil)
  (c_seq (c_if (c_tcmp (op_eq2 (hu64 hr)) g_eq (cv 3) c_int (nomark _)) (c_last (c_ret (c_tup (c_acons c_str c_anil)))) c_nil)
  (c_last (c_ret (c_tup (c_acons c_str c_anil))))))))))))

theorem sc__law_branch : FnScope ["_law_pool_here", "_law_box", "_law_names_here", "_law_length", "_law_depth", "_law_rows", "_law_k", "_law_before", "_law_yes", "_law_after", "_law_no"] ["_law_pool_here", "_law_box", "_law_names_here", "_law_length", "_law_depth"] (defScope s__law_branch) := ⟨rfl, rfl, rfl, by decide +kernel, rfl, by decide +kernel, by decide +kernel⟩
theorem ok__law_branch {P : Program} {wd : World} {K : PySem.W.Frag} {mg : Str → Option Value} {base : Heap} {Γ : Cls'} (Wd : WdT wd K Γ mg) {m__law_branch : FM} {n : Nat} (hn : 2 ≤ n) (G__law_branch : Df P wd K mg base Γ "_law_branch" n m__law_branch) (G__law_draw : Df P wd K mg base Γ "_law_draw" 1 m__law_draw) (G__law_simple : Df P wd K mg base Γ "_law_simple" 2 m__law_simple) {f : Addr} {fd : FuncData} (F : Fun K "_law_branch" "_law_branch" s__law_branch f fd) :
    FnOk P wd K mg base (L2.CX P wd) (n + 1) f fd ["_law_pool_here", "_law_box", "_law_names_here", "_law_length", "_law_depth"] (spM K Γ (m__law_branch' m__law_branch)) := by
  have nd := sc__law_branch.nd
  exact def_ok F sc__law_branch fun cdv A outer s H E hr => (c_seq (cset 5 nd (c_new c_anil))
  (c_seq (c_for (sl := [6]) (passes_of rfl) rfl (ci_rng1 (by rfl) Wd.b_range (cv 3)) (cgn 6 nd) (c_last (c_if (c_tcmp op_gt g_gt (c_ix (cv 1) c_int) c_int (nomark _)) (c_seq (c_put (c_bin op_sub g_sub (c_ix (cv 1) c_int) c_int) (cv 1) c_int)
  (c_last (c_if (c_wt (c_wand (c_tcmp op_lt g_lt (cv 4) c_int (nomark _)) (c_wand1 (c_tcmp (op_eq2 (hu64 hr)) g_eq (c_fn tr0_ok G__law_draw go_def (hr.mono (by first | decide | omega)) (by rfl) (c_acons (cv 0) (c_acons c_int c_anil))) c_int (nomark _))))) (c_seq (cset 7 nd (c_ix (cv 1) c_int))
  (c_seq (cset 8 nd (c_fn trT_ok G__law_branch go_def (hr.mono (by first | decide | omega)) (by rfl) (c_acons (cv 0) (c_acons (cv 1) (c_acons (cv 2) (c_acons (c_fn tr0_ok G__law_draw go_def (hr.mono (by first | decide | omega)) (by rfl) (c_acons (cv 0) (c_acons c_int c_anil))) (c_acons (c_bin op_add4 g_add (cv 4) c_int) c_anil)))))))
  (c_seq (cset 9 nd (c_ix (cv 1) c_int))
  (c_seq (c_put (cv 7) (cv 1) c_int)
  (c_seq (cset 10 nd (c_fn trT_ok G__law_branch go_def (hr.mono (by first | decide | omega)) (by rfl) (c_acons (cv 0) (c_acons (cv 1) (c_acons (cv 2) (c_acons (c_fn tr0_ok G__law_draw go_def (hr.mono (by first | decide | omega)) (by rfl) (c_acons (cv 0) (c_acons c_int c_anil))) (c_acons (c_bin op_add4 g_add (cv 4) c_int) c_anil)))))))
  (c_seq (c_put (c_callB (call_max2 rfl) g_max2 (by rfl) Wd.b_max (by decide +kernel) (c_acons (cv 9) (c_acons (c_ix (cv 1) c_int) c_anil))) (cv 1) c_int)
  (c_last (c_expr (c_meth PySem.F.plainAttrs_list PySem.F.slot_list_append PySem.F.type_list_append mt_append gty_list gm_app (cv 5) (c_acons (c_tup (c_acons c_str (c_acons (cv 8) (c_acons (cv 10) c_anil)))) c_anil)))))))))) (c_last (c_expr (c_meth PySem.F.plainAttrs_list PySem.F.slot_list_append PySem.F.type_list_append mt_append gty_list gm_app (cv 5) (c_acons (c_fn tr0_ok G__law_simple go_def (hr.mono (by first | decide | omega)) (by rfl) (c_acons (cv 0) (c_acons (cv 1) (c_acons (cv 2) c_anil)))) c_anil))))))) c_nil)))
  (c_last (c_ret (c_callTy call_tuple_of g_tuple (by rfl) Wd.b_tuple (by decide +kernel) (c_acons (cv 5) c_anil))))))
end Mm
set_option maxRecDepth 100000
namespace Mm
open PySem L2
theorem sc__law_build : FnScope ["_law_pool_here", "_law_cap", "_law_names_here", "_law_rows", "_law_at", "_law_head", "_law_box", "_law_branch_here", "_law_span"] ["_law_pool_here", "_law_cap"] (defScope s__law_build) := ⟨rfl, rfl, rfl, by decide +kernel, rfl, by decide +kernel, by decide +kernel⟩
theorem ok__law_build {P : Program} {wd : World} {K : PySem.W.Frag} {mg : Str → Option Value} {base : Heap} {Γ : Cls'} (Wd : WdT wd K Γ mg) (G__law_branch : Df P wd K mg base Γ "_law_branch" 5 m__law_branch) (G__law_draw : Df P wd K mg base Γ "_law_draw" 1 m__law_draw) (G__law_names : Df P wd K mg base Γ "_law_names" 2 m__law_names) {f : Addr} {fd : FuncData} (F : Fun K "_law_build" "_law_build" s__law_build f fd) :
    FnOk P wd K mg base (L2.CX P wd) 6 f fd ["_law_pool_here", "_law_cap"] (spM K Γ m__law_build) := by
  have nd := sc__law_build.nd
  exact def_ok F sc__law_build fun cdv A outer s H E hr => (c_seq (cset 2 nd (c_fn trT_ok G__law_names go_def (hr.mono (by first | decide | omega)) (by rfl) (c_acons (cv 0) c_anil)))
  (c_seq (cset 3 nd (c_new c_anil))
  (c_seq (c_for (sl := [4]) (passes_of rfl) rfl (ci_rng1 (by rfl) Wd.b_range (c_bin op_add4 g_add c_int (c_callTy call_int1 g_intc (by rfl) Wd.b_int (by decide +kernel) (c_acons (c_cmp op_gt g_gt (c_fn tr0_ok G__law_draw go_def (hr.mono (by first | decide | omega)) (by rfl) (c_acons (cv 0) (c_acons c_int c_anil))) c_int (nomark _)) c_anil)))) (cgn 4 nd) (c_seq (cset 5 nd (c_ix (c_lst (c_acons (c_tup c_anil) (c_acons (c_tup (c_acons (c_tup (c_acons c_str c_anil)) c_anil)) c_anil))) (c_callTy call_int1 g_intc (by rfl) Wd.b_int (by decide +kernel) (c_acons (c_cmp op_gt g_gt (c_fn tr0_ok G__law_draw go_def (hr.mono (by first | decide | omega)) (by rfl) (c_acons (cv 0) (c_acons c_int c_anil))) c_int (nomark _)) c_anil))))
  (c_seq (cset 6 nd (c_new (c_acons (c_bin op_sub g_sub (cv 1) (c_callB call_len g_len (by rfl) Wd.b_len PySem.boot_len (c_acons (cv 5) c_anil))) (c_acons (c_callB call_len g_len (by rfl) Wd.b_len PySem.boot_len (c_acons (cv 5) c_anil)) (c_acons c_int c_anil)))))
  (c_seq (cset 7 nd (c_bin op_add4 g_add (cv 5) (c_fn trT_ok G__law_branch go_def (hr.mono (by first | decide | omega)) (by rfl) (c_acons (cv 0) (c_acons (cv 6) (c_acons (cv 2) (c_acons (c_bin op_add4 g_add c_int (c_fn tr0_ok G__law_draw go_def (hr.mono (by first | decide | omega)) (by rfl) (c_acons (cv 0) (c_acons (c_bin op_sub g_sub (cv 1) (c_callB call_len g_len (by rfl) Wd.b_len PySem.boot_len (c_acons (cv 5) c_anil))) c_anil)))) (c_acons c_int c_anil))))))))
  (c_last (c_expr (c_meth PySem.F.plainAttrs_list PySem.F.slot_list_append PySem.F.type_list_append mt_append gty_list gm_app (cv 3) (c_acons (c_tup (c_acons (c_ix (cv 2) (cv 4)) (c_acons (cv 7) (c_acons (c_bin op_add4 g_add c_int (c_fn tr0_ok G__law_draw go_def (hr.mono (by first | decide | omega)) (by rfl) (c_acons (cv 0) (c_acons c_int c_anil)))) (c_acons (c_bin op_add4 g_add c_int (c_callTy call_int1 g_intc (by rfl) Wd.b_int (by decide +kernel) (c_acons (c_cmp (op_eq2 (hu64 hr)) g_eq (c_fn tr0_ok G__law_draw go_def (hr.mono (by first | decide | omega)) (by rfl) (c_acons (cv 0) (c_acons c_int c_anil))) c_int (nomark _)) c_anil))) c_anil))))) c_anil))))))))
  (c_seq (c_if (c_wt (c_wand (c_tcmp (op_eq2 (hu64 hr)) g_eq (c_callB call_len g_len (by rfl) Wd.b_len PySem.boot_len (c_acons (cv 3) c_anil)) c_int (nomark _)) (c_wand1 (c_wt (c_wor (c_tcmp (op_eq2 (hu64 hr)) g_eq (c_ix (c_ix (cv 3) c_int) c_int) c_int (nomark _)) (c_wor1 (c_tcmp op_gt g_gt (cv 1) c_int (nomark _)))))))) (c_last (c_put (c_bin op_add4 g_add (c_sl (c_ix (cv 3) c_int) c_onone (c_osome c_int)) (c_tup (c_acons c_int c_anil))) (cv 3) c_int)) c_nil)
  (c_seq (c_if (c_wt (c_wand (c_tcmp (op_eq2 (hu64 hr)) g_eq (c_callB call_len g_len (by rfl) Wd.b_len PySem.boot_len (c_acons (cv 3) c_anil)) c_int (nomark _)) (c_wand1 (c_tcmp op_gt g_gt (cv 1) c_int (nomark _))))) (c_last (c_put (c_bin op_add4 g_add (c_sl (c_ix (cv 3) c_int) c_onone (c_osome c_int)) (c_tup (c_acons c_int c_anil))) (cv 3) c_int)) c_nil)
  (c_seq (cset 8 nd (c_ix (c_lst (c_acons c_non (c_acons (c_bin op_add4 g_add c_int (c_fn tr0_ok G__law_draw go_def (hr.mono (by first | decide | omega)) (by rfl) (c_acons (cv 0) (c_acons c_int c_anil)))) c_anil))) (c_fn tr0_ok G__law_draw go_def (hr.mono (by first | decide | omega)) (by rfl) (c_acons (cv 0) (c_acons c_int c_anil)))))
  (c_last (c_ret (c_lst (c_acons (cv 3) (c_acons (c_fn tr0_ok G__law_draw go_def (hr.mono (by first | decide | omega)) (by rfl) (c_acons (cv 0) (c_acons c_int c_anil))) (c_acons (cv 8) (c_acons (c_fn tr0_ok G__law_draw go_def (hr.mono (by first | decide | omega)) (by rfl) (c_acons (cv 0) (c_acons c_int c_anil))) c_anil)))))))))))))

theorem sc__law_system : FnScope ["_law_built", "_law_kinds", "_law_row"] ["_law_built"] (defScope s__law_system) := ⟨rfl, rfl, rfl, by decide +kernel, rfl, by decide +kernel, by decide +kernel⟩
theorem ok__law_system {P : Program} {wd : World} {K : PySem.W.Frag} {mg : Str → Option Value} {base : Heap} {Γ : Cls'} (Wd : WdT wd K Γ mg) (K_Kind : Dkk P wd K mg base Γ 4 "Kind" 15 m_Kind___init__ 2 ["block", "many"] gKind) (K_System : Dks P wd K mg base Γ 5 "System" 4 m_System___init__ ["ahead", "window", "crashes"] gSystem) {f : Addr} {fd : FuncData} (F : Fun K "_law_system" "_law_system" s__law_system f fd) :
    FnOk P wd K mg base (L2.CX P wd) 17 f fd ["_law_built"] (spM K Γ m__law_system) := by
  have nd := sc__law_system.nd
  exact def_ok F sc__law_system fun cdv A outer s H E hr => (c_seq (c_setlcG (i := 1) (own := [("_law_row", 2)]) (sl := [2]) finL_ok (by decide) rfl nd rfl rfl (sw_true rfl rfl rfl (by decide +kernel)) (ci_seq (c_ix (cv 0) c_int)) (blkOk_by (own := [("_law_row", 2)]) (N := ["_law_built", "_law_kinds", "_law_row"]) (sc := defScope s__law_system) (by decide +kernel)) (fun _ _ _ _ _ => (cgn 2 nd)) (fun _ _ _ _ _ => c_tsnil) (fun _ _ _ _ _ => (c_mkk (ks := ["block", "many"]) trT_ok K_Kind goes_not (hr.mono (by first | decide | omega)) (by rfl) (c_acons (c_ix (cv 2) c_int) (c_acons (c_ix (cv 2) c_int) c_anil)) (c_kcons (c_ix (cv 2) c_int) (c_kcons (c_ix (cv 2) c_int) c_knil)))))
  (c_seq (c_if (c_tcmp (op_eq2 (hu64 hr)) g_eq (c_callB call_len g_len (by rfl) Wd.b_len PySem.boot_len (c_acons (cv 1) c_anil)) c_int (nomark _)) (c_last (c_ret (c_mks (ks := ["ahead", "window", "crashes"]) trT_ok K_System go_def (hr.mono (by first | decide | omega)) (by rfl) (c_acons (c_ix (cv 1) c_int) c_anil) (c_kcons (c_ix (cv 0) c_int) (c_kcons (c_ix (cv 0) c_int) (c_kcons (c_ix (cv 0) c_int) c_knil)))))) c_nil)
  (c_last (c_ret (c_mks (ks := ["ahead", "window", "crashes"]) trT_ok K_System go_def (hr.mono (by first | decide | omega)) (by rfl) (c_acons (c_ix (cv 1) c_int) (c_acons (c_ix (cv 1) c_int) c_anil)) (c_kcons (c_ix (cv 0) c_int) (c_kcons (c_ix (cv 0) c_int) (c_kcons (c_ix (cv 0) c_int) c_knil))))))))

theorem sc__law_refused : FnScope ["_law_system_here", "_law_which", "_law_measure", "e"] ["_law_system_here", "_law_which", "_law_measure"] (defScope s__law_refused) := ⟨rfl, rfl, rfl, by decide +kernel, rfl, by decide +kernel, by decide +kernel⟩
theorem ok__law_refused {P : Program} {wd : World} {K : PySem.W.Frag} {mg : Str → Option Value} {base : Heap} {Γ : Cls'} (Wd : WdT wd K Γ mg) (G_reach : Df P wd K mg base Γ "reach" 13 m_reach) (G_reached : Dg P wd K mg base Γ "reached" 9 m_start 8) (G_start : Df P wd K mg base Γ "start" 4 m_start) (G_steps : Df P wd K mg base Γ "steps" 4 m_steps) (X_NoMeasure : Xk P wd K mg base Γ 8 "NoMeasure" "measure") {f : Addr} {fd : FuncData} (F : Fun K "_law_refused" "_law_refused" s__law_refused f fd) :
    FnOk P wd K mg base (L2.CX P wd) 14 f fd ["_law_system_here", "_law_which", "_law_measure"] (spM K Γ m__law_refused) := by
  have nd := sc__law_refused.nd
  exact def_ok F sc__law_refused fun cdv A outer s H E hr => (c_seq (c_try Wd.noex rfl rfl nd (fun W pn xe tk po => (c_last (c_if (c_tcmp (op_eq2 (hu64 hr)) g_eq (cv 1) c_int (nomark _)) (c_last (c_expr (c_fn trT_ok G_start (goes_of tk) (hr.mono (by first | decide | omega)) (by rfl) (c_acons (cv 0) (c_acons (cv 2) c_anil))))) (c_last (c_if (c_tcmp (op_eq2 (hu64 hr)) g_eq (cv 1) c_int (nomark _)) (c_last (c_expr (c_fn trT_ok G_steps (goes_of tk) (hr.mono (by first | decide | omega)) (by rfl) (c_acons (cv 0) (c_acons (cv 2) (c_acons (c_tup (c_acons c_str c_anil)) c_anil)))))) (c_last (c_if (c_tcmp (op_eq2 (hu64 hr)) g_eq (cv 1) c_int (nomark _)) (c_last (c_expr (c_fn tr0_ok G_reach (goes_of tk) (hr.mono (by first | decide | omega)) (by rfl) (c_acons (cv 0) (c_acons (cv 2) c_anil))))) (c_last (c_expr (c_listX G_reached Wd.s_NoMeasure (goes_of tk) (hr.mono (by first | decide | omega)) (by rfl) Wd.b_list (by decide +kernel) (by rfl) (c_acons (cv 0) (c_acons (cv 2) c_anil))))))))))))
  (CHc Wd.t_NoMeasure (by rfl) rfl rfl (fun a dd C oe pn gC hz hf => (c_last (c_ret (c_and (c_xis X_NoMeasure gC hz hf Wd.b_isinstance (by rfl) Wd.y_NoMeasure_TakeError (by rfl) (cv 3)) (c_and (c_nott (c_xis X_NoMeasure gC hz hf Wd.b_isinstance (by rfl) Wd.y_NoMeasure_TooMany (by rfl) (cv 3))) (c_one (c_cmp (op_eq2 (huS hr)) g_eq (c_xf X_NoMeasure gC hz hf (cv 3)) (cv 2) (nomark _)))))))) CH.nil))
  (c_last (c_ret c_bl)))

theorem sc_law : FnScope ["_law_script", "_law_k", "_law_pool_here", "_law_odd", "_law_which", "_law_built", "_law_system_here", "_law_amount", "_law_row", "_law_due", "_law_measure", "_law_rows"] ["_law_script"] (defScope s_law) := ⟨rfl, rfl, rfl, by decide +kernel, rfl, by decide +kernel, by decide +kernel⟩
theorem ok_law {P : Program} {wd : World} {K : PySem.W.Frag} {mg : Str → Option Value} {base : Heap} {Γ : Cls'} (Wd : WdT wd K Γ mg) (G__law_build : Df P wd K mg base Γ "_law_build" 6 m__law_build) (G__law_draw : Df P wd K mg base Γ "_law_draw" 1 m__law_draw) (G__law_pool : Df P wd K mg base Γ "_law_pool" 1 m__law_pool) (G__law_refused : Df P wd K mg base Γ "_law_refused" 14 m__law_refused) (G__law_system : Df P wd K mg base Γ "_law_system" 17 m__law_system) (G_start : Df P wd K mg base Γ "start" 4 m_start) (G_steps : Df P wd K mg base Γ "steps" 4 m_steps) {f : Addr} {fd : FuncData} (F : Fun K "law" "law" s_law f fd) :
    FnOk P wd K mg base (L2.CX P wd) 18 f fd ["_law_script"] (spM K Γ m_law) := by
  have nd := sc_law.nd
  exact def_ok F sc_law fun cdv A outer s H E hr => (c_seq (c_for (sl := [1]) (passes_of rfl) rfl (ci_rng1 (by rfl) Wd.b_range (c_callB (call_max2 rfl) g_max2 (by rfl) Wd.b_max (by decide +kernel) (c_acons c_int (c_acons (c_callB call_len g_len (by rfl) Wd.b_len PySem.boot_len (c_acons (cv 0) c_anil)) c_anil)))) (cgn 1 nd) (c_seq (cset 2 nd (c_fn tr0_ok G__law_pool go_def (hr.mono (by first | decide | omega)) (by rfl) (c_acons (cv 0) (c_acons (cv 1) c_anil))))
  (c_seq (cset 3 nd (c_fn tr0_ok G__law_draw go_def (hr.mono (by first | decide | omega)) (by rfl) (c_acons (cv 2) (c_acons c_int c_anil))))
  (c_seq (cset 4 nd (c_fn tr0_ok G__law_draw go_def (hr.mono (by first | decide | omega)) (by rfl) (c_acons (cv 2) (c_acons c_int c_anil))))
  (c_seq (cset 5 nd (c_fn trT_ok G__law_build go_def (hr.mono (by first | decide | omega)) (by rfl) (c_acons (cv 2) (c_acons (c_bin op_add4 g_add c_int (c_bin op_mul3 g_mul c_int (c_fn tr0_ok G__law_draw go_def (hr.mono (by first | decide | omega)) (by rfl) (c_acons (cv 2) (c_acons c_int c_anil))))) c_anil))))
  (c_seq (cset 6 nd (c_fn trT_ok G__law_system go_def (hr.mono (by first | decide | omega)) (by rfl) (c_acons (cv 5) c_anil)))
  (c_seq (cset 7 nd (c_callB (cr_sum rfl) g_sum (by rfl) Wd.b_sum (by decide +kernel) (c_acons (c_lcG (own := [("_law_row", 8)]) (sl := [8]) finL_ok (by decide) rfl nd (ci_seq (c_ix (cv 5) c_int)) (blkOk_by (own := [("_law_row", 8)]) (N := ["_law_script", "_law_k", "_law_pool_here", "_law_odd", "_law_which", "_law_built", "_law_system_here", "_law_amount", "_law_row", "_law_due", "_law_measure", "_law_rows"]) (sc := defScope s_law) (by decide +kernel)) (fun _ _ _ _ _ => (cgn 8 nd)) (fun _ _ _ _ _ => c_tsnil) (fun _ _ _ _ _ => (c_ix (cv 8) c_int))) c_anil)))
  (c_seq (cset 9 nd (c_tup (c_acons (c_tup (c_acons c_str (c_acons c_str c_anil))) (c_acons (c_ix (cv 5) c_int) (c_acons (c_ix (cv 5) c_int) (c_acons (c_bin op_mulT g_mulT (c_tup (c_acons (c_tup (c_acons (c_tup (c_acons c_int c_anil)) (c_acons (c_tup c_anil) (c_acons (c_tup c_anil) (c_acons (c_tup c_anil) c_anil))))) c_anil)) (cv 7)) c_anil))))))
  (c_seq (c_for (sl := [10]) (passes_of rfl) rfl (ci_seq (c_lst (c_acons c_str (c_acons c_str (c_acons c_str c_anil))))) (cgn 10 nd) (c_last (c_if (c_wt (c_wor (c_tcmp (op_ne2 (hu64 hr)) g_ne (c_fn trT_ok G_start go_def (hr.mono (by first | decide | omega)) (by rfl) (c_acons (cv 6) (c_acons (cv 10) c_anil))) (cv 9) (nomark _)) (c_wor1 (c_tcmp (op_ne2 (hu64 hr)) g_ne (c_fn trT_ok G_steps go_def (hr.mono (by first | decide | omega)) (by rfl) (c_acons (cv 6) (c_acons (cv 10) (c_acons (c_tup (c_acons c_str c_anil)) c_anil)))) (c_lst c_anil) (nomark _))))) (c_last (c_ret c_bl)) c_nil)))
  (c_seq (cset 11 nd (c_lst (c_acons c_non (c_acons c_int (c_acons c_str (c_acons c_str (c_acons c_str (c_acons c_str (c_acons c_str (c_acons (c_tup (c_acons c_str c_anil)) (c_acons (c_lst (c_acons c_str c_anil)) (c_acons c_bl (c_acons c_str (c_acons c_str (c_acons c_str (c_acons c_int c_anil))))))))))))))))
  (c_last (c_if (c_tnot (c_tru (c_fn tr0_ok G__law_refused go_def (hr.mono (by first | decide | omega)) (by rfl) (c_acons (cv 6) (c_acons (cv 4) (c_acons (c_ix (cv 11) (cv 3)) c_anil)))))) (c_last (c_ret c_bl)) c_nil))))))))))))
  (c_last (c_ret c_bl)))
end Mm
set_option maxRecDepth 100000
namespace Mm
open PySem L2
theorem xsc_NoMeasure : FnScope ["self", "measure"] ["self", "measure"] (defScope s_NoMeasure___init__) := ⟨rfl, rfl, rfl, by decide +kernel, rfl, by decide +kernel, by decide +kernel⟩
theorem xi_NoMeasure {P : Program} {w : World} {K : PySem.W.Frag} {mg : Str → Option Value} {base : Heap} {C f : Addr} {fd : FuncData} (F : Fun K "__init__" "NoMeasure.__init__" s_NoMeasure___init__ f fd) (T : Ecl K mg "NoMeasure" "measure" C f) : FnOk P w K mg base CX0 1 f fd ["self", "measure"] (spEI C "measure") := by
  refine F.ok xsc_NoMeasure (fun vs H Q E h => ?_) (fun cdv A outer s H vs Q E hr h => ?_)
  · obtain ⟨a, v, rfl, _⟩ := h
    rfl
  obtain ⟨a, v, rfl, ha, q⟩ := h
  refine ⟨_, pss_one (ps_ost (pe_var (i := 0) rfl (.inl rfl)) (pe_var (i := 1) rfl (.inl rfl)) rfl), ?_⟩
  exact ⟨_, rfl, _, rfl, a, C, rfl, T.ox, T.noF, .inl ⟨ha, fun dx h1 h2 => q dx h1 h2⟩⟩
end Mm
set_option maxRecDepth 100000
namespace Mm
open PySem L2 StK StX
/-! a law's end: law-independent but for its level -/
def spLawR (K : PySem.W.Frag) : Sp := fun vs H Q _ => ∃ (a : Addr) (ns : List Int), vs = [.ref a] ∧ FzL K H a (ns.map V.int) ∧ ns.length ≤ 63 ∧ ∀ H', Q (.bl true) H'
theorem fz_only {K : PySem.W.Frag} {H : Hp} {a : Addr} {xs : List V} (o : Only H) (h : SqL K H a xs) : FzL K H a xs := by
  rcases h with (h | ⟨u, h⟩) | h
  · rcases o a with e | ⟨u, ys, e⟩
    · rw [h] at e; cases e
    · rw [h] at e; cases e
  · exact .inl ⟨u, h⟩
  · exact .inr fun H' => .inr h
theorem law_fn {P : Program} {wd : World} {K : PySem.W.Frag} {mg : Str → Option Value} {base : Heap} {Γ : Cls'} {k : Nat} {f : Addr} {fd : FuncData} {ps : List Str} (ht : Γ.tb = []) (F : FnOk P wd K mg base (L2.CX P wd) k f fd ps (spM K Γ m_law)) : FnOk P wd K mg base (L2.CX P wd) k f fd ps (spLawR K) := by
  have i : ∀ vs H Q E, spLawR K vs H Q E → spM K Γ m_law vs H Q E := fun vs H Q E ⟨a, ns, ev, h, hl, q⟩ => by
    subst ev
    obtain ⟨S, e⟩ := law_ok ns hl
    refine ⟨⟨fun _ => 0, fun _ => False⟩, [], [.fz ns], ⟨fun k o h => (by simp at h), fun i j hi => absurd hi (Nat.not_lt_zero _), fun k hk => absurd hk (Nat.not_lt_zero _), fun a h => h.elim, by show LamX.Tabs Γ.tb H; rw [ht]; exact fun x hx => by cases hx⟩, .one (by unfold At; exact ⟨a, rfl, h⟩), ?_⟩
    rw [e]
    intro c' H' v _ _ av
    rw [av.bl]
    exact q H'
  exact ⟨fun vs H Q E h => F.len vs H Q E (i vs H Q E h), fun A outer s H args us vs Q E hr e0 b r h => F.run A outer s H args us vs Q E hr e0 b r (i vs H Q E h)⟩
theorem walkR {l : PySem.W.OpenLaw} {q : Program} {loose : List Str} {XP : (Str → Option Value) → Heap → Prop} {YP : World → Heap → Prop} {d : DefRec} {K : Params → PySem.W.Frag} (hn : l.most = some 63) (hdf : d.params.defaults = [])
    (hY : ∀ (w : World) (h : Heap), YP w h → (K w.params).In h)
    (F : ∀ (w : World) (mg : Str → Option Value) (fa : Addr) (h : Heap), (K w.params).In h → h.Ns mainGlobals mg → mg d.name = some (.ref fa) →
      ∃ fd : FuncData, (∀ (s : Shared) (u : Value), BindsTo s fd ⟨[u], []⟩ [("_law_script", u)]) ∧ ∀ base : Heap, (K w.params).In base → base.Ns mainGlobals mg → FnOk l.prog w (K w.params) mg base (L2.CX l.prog w) 18 fa fd ["_law_script"] (spLawR (K w.params))) :
    PySem.W.WalkO q loose XP YP l.row.toRowW d [] (fun f vs => PySem.call f vs) :=
  L2.walk_of (n := 63) (k := 18) (x := "_law_script") (CX := fun w => L2.CX l.prog w) (sp := fun w => spLawR (K w.params)) hn (by decide) hdf ⟨rfl, by decide, by decide⟩ hY F (fun _ _ a ns hl o hS => ⟨a, ns, rfl, fz_only o hS, hl, fun _ => rfl⟩) fun _ _ _ _ _ ⟨_, _, _, _, _, _, _, _, _, _, _, _, z⟩ => z
/-- the two methods that call each other, n deep -/
theorem checksR {P : Program} {wd : World} {K : PySem.W.Frag} {mg : Str → Option Value} {base : Heap} {Γ : Cls'} (Wd : WdT wd K Γ mg) (G_fault_of : Df P wd K mg base Γ "fault_of" 2 m_fault_of) (G_held_after : Df P wd K mg base Γ "held_after" 1 m_held_after)
    {C fb fs : Addr} {fdb fds : FuncData} (Fb : Fun K "check_branch" "Check.check_branch" s_Check_check_branch fb fdb) (Fs : Fun K "check_statement" "Check.check_statement" s_Check_check_statement fs fds) (bb : Binds K fdb ["self", "branch", "above", "held"] []) (bs : Binds K fds ["self", "statement", "place", "held"] [])
    (gC : Γ.at_ 2 = some C) (cl : Cls K C) (mb : Meth K C "check_branch" fb) (ms : Meth K C "check_statement" fs) (nb : ("check_branch" : Str) ∉ Γ.fs 2) (ns : ("check_statement" : Str) ∉ Γ.fs 2) :
    ∀ n : Nat, Dm P wd K mg base Γ 2 "check_branch" (5 + n) (mCC n).1 ∧ Dm P wd K mg base Γ 2 "check_statement" (5 + n) (mCC n).2
  | 0 => ⟨⟨⟨C, fb, fdb, _, gC, cl, mb, def_ok (k := 4) Fb sc_Check_check_branch fun cdv A outer s H E hr => c_bads, bb⟩, nb⟩, ⟨⟨C, fs, fds, _, gC, cl, ms, def_ok (k := 4) Fs sc_Check_check_statement fun cdv A outer s H E hr => c_bads, bs⟩, ns⟩⟩
  | n + 1 => by
    obtain ⟨ib, is⟩ := checksR Wd G_fault_of G_held_after Fb Fs bb bs gC cl mb ms nb ns n
    exact ⟨⟨⟨C, fb, fdb, _, gC, cl, mb, ok_Check_check_branch Wd (by omega) is Fb, bb⟩, nb⟩, ⟨⟨C, fs, fds, _, gC, cl, ms, ok_Check_check_statement Wd (n := 5 + n) (by omega) ib G_fault_of G_held_after Fs, bs⟩, ns⟩⟩
/-- the branch that calls itself, n deep -/
theorem branchR {P : Program} {wd : World} {K : PySem.W.Frag} {mg : Str → Option Value} {base : Heap} {Γ : Cls'} (Wd : WdT wd K Γ mg) (Gd : Df P wd K mg base Γ "_law_draw" 1 m__law_draw) (Gs : Df P wd K mg base Γ "_law_simple" 2 m__law_simple) {f : Addr} {fd : FuncData} (F : Fun K "_law_branch" "_law_branch" s__law_branch f fd)
    (hb : Binds K fd ["_law_pool_here", "_law_box", "_law_names_here", "_law_length", "_law_depth"] []) (hk : PySem.W.keepIn K (.ref f) = true) (hm : mg "_law_branch" = some (.ref f)) : ∀ n : Nat, Df P wd K mg base Γ "_law_branch" (2 + n) (mLB n)
  | 0 => ⟨f, fd, _, def_ok (k := 1) F sc__law_branch fun cdv A outer s H E hr => c_bads, hb, hk, hm⟩
  | n + 1 => ⟨f, fd, _, ok__law_branch Wd (n := 2 + n) (by omega) (branchR Wd Gd Gs F hb hk hm n) Gd Gs F, hb, hk, hm⟩
abbrev psY : List Str := ["self", "ahead", "window", "crashes"]
theorem bindY1 (D : Addr) (doc pm cdv ct : Value) (an : Option Addr) : ∀ us rest mv ws : List Value, us.length = 1 → mv.length = 0 → ws.length = 3 →
    KwTail D (([] : List Str).zip mv) (bindArgs (PySem.W.fnOf "__init__" "System.__init__" (defArgs s_System___init__) (defBody s_System___init__) (defScope s_System___init__) .none (.ref D) doc pm an cdv ct) ⟨us ++ rest, (["ahead", "window", "crashes"] : List Str).zip ws⟩) (newTuple rest >>= fun t => pure (psY.zip (us ++ ws) ++ [(("kinds" : Str), t)]))
  | [u], [], [], [a, w, c], _, _, _ => rfl
  | [u], r :: rs, [], [a, w, c], _, _, _ => rfl
/-- a def's body, read -/
theorem body_read {K : PySem.W.Frag} {Γ : Cls'} {N ps : List Str} {b : SM} {vs : List V} {H : Hp} {Q : VK} {E : XK} (h : spM K Γ (runDef ps.length N.length b) vs H Q E) : mS ⟨K, Γ⟩ (fun C dd _ H => E C dd H) b { nx := fun _ H' => Q .non H', rt := Q } (L2.start N vs) H := by
  obtain ⟨c, S, ds, r, t, h⟩ := h
  unfold runDef at h
  by_cases hl : ds.length = ps.length
  · rw [if_pos hl, ← hl] at h
    refine ⟨c, _, S, r, envR_start t, ?_⟩
    cases hx : b (ds.map some ++ List.replicate (N.length - ds.length) none) S with
    | next env' S' => rw [hx] at h; exact fun c2 H2 s2 e2 r2 a2 => h c2 H2 .non e2 r2 .o
    | ret d S' => rw [hx] at h; exact fun c2 H2 v e2 r2 a2 => h c2 H2 v e2 r2 a2
    | ex x env' S' => rw [hx] at h; exact fun c2 H2 s2 C dd e2 r2 a2 xa => h c2 H2 C dd e2 r2 xa
    | brk env' S' => rw [hx] at h; exact h.elim
    | cnt env' S' => rw [hx] at h; exact h.elim
    | bad => rw [hx] at h; exact h.elim
  · rw [if_neg hl] at h; exact h.elim
/-- System(.., ahead=, window=, crashes=) -/
theorem sys_ks {P : Program} {wd : World} {K : PySem.W.Frag} {mg : Str → Option Value} {base : Heap} {Γ : Cls'} (Wd : WdT wd K Γ mg) (G : Df P wd K mg base Γ "fault_of_system" 3 m_fault_of_system) {C f KY : Addr} {oc doc pm cdv ct : Value} {od an : Option Addr} {osl : Array (Option Value)}
    (lk : K.lookup f = some ⟨oc, od, .func (PySem.W.fnOf "__init__" "System.__init__" (defArgs s_System___init__) (defBody s_System___init__) (defScope s_System___init__) .none (.ref KY) doc pm an cdv ct), osl⟩) (hcd : PySem.W.codeIn K cdv "System.__init__" = true)
    (gC : Γ.at_ 5 = some C) (hm : mg "System" = some (.ref C)) (M : Mk K C f) : Dks P wd K mg base Γ 5 "System" 4 m_System___init__ ["ahead", "window", "crashes"] gSystem :=
  ⟨C, f, fun ws zs => ws ++ zs, gC, hm, M,
    fn_starK (n := 1) (ks := ["ahead", "window", "crashes"]) (ps := psY) (pv := "kinds") (ms := []) (sp := spM K Γ m_System___init__) lk hcd sc_System___init__ cxUp (fun q hq => by cases hq) (fun us mv ws => us ++ ws) (fun a b c => a.append c) (fun us mv ws h1 h2 h3 => by
        rw [List.length_append, h1, h3]; rfl) (bindY1 KY doc pm cdv ct an) fun A outer s H vs Q E hr h => ⟨_, ok_System___init__ Wd G cdv f A outer s H E hr, body_read (ps := psY ++ [("kinds" : Str)]) (N := ["self", "ahead", "window", "crashes", "kinds", "why", "kind", "index"]) h⟩,
    fun c H j x v es zs a b hl => .cons a b⟩
/-- Kind(name, script, block=.., many=..) -/
theorem kind_kk {P : Program} {wd : World} {K : PySem.W.Frag} {mg : Str → Option Value} {base : Heap} {Γ : Cls'} (Wd : WdT wd K Γ mg) (G1 : Df P wd K mg base Γ "is_name" 1 m_is_name) (G2 : Df P wd K mg base Γ "is_within" 2 m_is_within) (G3 : Df P wd K mg base Γ "script_of" 14 m_script_of) {C f : Addr} {fd : FuncData}
    (F : FunD K "__init__" "Kind.__init__" (defArgs s_Kind___init__) (defBody s_Kind___init__) (defScope s_Kind___init__) [] [("block", .int 1), ("many", .int 1)] f fd) (gC : Γ.at_ 4 = some C) (hm : mg "Kind" = some (.ref C)) (M : Mk K C f) : Dkk P wd K mg base Γ 4 "Kind" 15 m_Kind___init__ 2 ["block", "many"] gKind := by
  obtain ⟨mv, hb⟩ := F.kbinds0 (ps := ["self", "name", "script", "block", "many"]) 3 ["block", "many"] [] (fun us mv ws => us ++ ws ++ mv) (by simp) (fun q hq => by cases hq) (fun r1 r2 r3 => (r1.append r3).append r2)
    (fun _ _ _ _ _ _ us mv ws h1 h2 h3 => match us, mv, ws, h1, h2, h3 with | [_, _, _], [], [_, _], _, _, _ => rfl)
  refine ⟨C, f, fd, _, _, _, gC, hm, M, ok_Kind___init__ Wd G1 G2 G3 F, hb, ?_⟩
  intro c H j x v ds es vs zs a b d l1 l2
  show Ats _ _ _ _ (x :: (ds ++ es)) ((v :: vs) ++ zs ++ [])
  rw [List.append_nil, List.cons_append]
  exact .cons a (b.app d)
end Mm
set_option maxRecDepth 100000
namespace Mm
open PySem L2 StK PyProof.Rows
def gfs : Nat → List Str := fun k => (([[], ["statements", "found", "places"], ["found"], [], ["name", "script", "block", "many"], ["kinds", "ahead", "window", "crashes", "sessions"], [], [], ["measure"]] : List (List Str))[k]?).getD []
abbrev Gam (C_Script C_Check C_Kind C_System C_NoMeasure : Addr) : Cls' := ⟨fun k => (([none, some C_Script, some C_Check, none, some C_Kind, some C_System, none, none, some C_NoMeasure] : List (Option Addr))[k]?).join, gfs, none, none, []⟩
theorem lookup_mem : ∀ {l : List (Str × Int)} {z : Str} {i : Int}, l.lookup z = some i → (z, i) ∈ l
  | [], z, i, h => by cases h
  | (a, b) :: l, z, i, h => by
    rw [List.lookup_cons] at h
    cases e : (z == a) with
    | true => rw [e] at h; cases h; rw [eq_of_beq e]; exact List.mem_cons_self ..
    | false => rw [e] at h; exact List.mem_cons_of_mem _ (lookup_mem h)
theorem ve_ok {CT : Addr} : PySem.HandSPX.refsVE [.ref CT, .type "ValueError", .type "Exception", .type "BaseException", .type "object"] = true := by
  show PySem.HandSPX.refsVE [.type "ValueError", .type "Exception", .type "BaseException", .type "object"] = true
  decide +kernel
theorem kit_ref {K : PySem.W.Frag} {D C : Addr} {b : Bool} (hne : (Value.ref D == Value.ref C) = false) (ic : PySem.W.isClsIn K C = true) (tC : PySem.W.typeIn K (.ref C) = some (.type "type")) (s : PySem.W.subIn K (.ref D) (.ref C) = some b) : PySem.W.kitOne K (.ref D) (.ref C) = some b := by
  have e1 : (PySem.W.clsIn K C).isSome = true := ic
  unfold PySem.W.kitOne
  rw [hne, if_neg (by decide)]
  show (if ((PySem.W.clsIn K C).isSome && PySem.W.typeIn K (.ref C) == some (.type "type")) = true then PySem.W.subIn K (.ref D) (.ref C) else none) = some b
  rw [e1, tC, if_pos (show (true && some (Value.type "type") == some (Value.type "type")) = true from by rw [beq_self_eq_true]; rfl)]
  exact s
theorem kit_no {K : PySem.W.Frag} {C : Addr} {t : String} (iC : PySem.W.isClsIn K C = true) (tC : PySem.W.typeIn K (.ref C) = some (.type "type")) (u : PySem.W.subIn K (.type t) (.ref C) = some false) : PySem.W.kitOne K (.type t) (.ref C) = some false := by
  have e1 : (PySem.W.clsIn K C).isSome = true := iC
  show (if ((PySem.W.clsIn K C).isSome && PySem.W.typeIn K (.ref C) == some (.type "type")) = true then PySem.W.subIn K (.type t) (.ref C) else none) = some false
  rw [e1, tC, if_pos (show (true && some (Value.type "type") == some (Value.type "type")) = true from by rw [beq_self_eq_true]; rfl)]
  exact u
theorem kit_me {K : PySem.W.Frag} (C : Addr) : PySem.W.kitOne K (.ref C) (.ref C) = some true := by
  unfold PySem.W.kitOne
  rw [if_pos (beq_self_eq_true _)]
theorem gl_int {K : PySem.W.Frag} {Γ : Cls'} {mg : Str → Option Value} {x : Str} {i : Int} {t : Tok} (h : mg x = some (.int i t)) : GlD K Γ mg x (.int i) := ⟨_, .int i, h, ⟨_, rfl⟩, fun c H n => .i i⟩
theorem at_tupK {K : PySem.W.Frag} {Γ : Cls'} {a : Addr} {od : Option Addr} {its : Array Value} {n : Nat} {sl : Array (Option Value)} {vs : List V} {ds : List D} (l : K.lookup a = some ⟨.type "tuple", od, .seq its n, sl⟩) (hl : its.toList.length ≤ 1000) (hv : Vals vs its.toList) (ha : ∀ c H j, Ats ⟨K, Γ⟩ c H j ds vs) : ∀ c H j, At ⟨K, Γ⟩ c H j (.tup ds) (.ref a) := fun c H j => by
  unfold At
  exact ⟨a, vs, rfl, .inr ⟨_, its, n, l, rfl, rfl, Nat.le_trans (by simpa using hl) (by decide), hv⟩, ha c H j⟩

set_option maxHeartbeats 4000000 in
theorem all_mk {l : PySem.W.OpenLaw} {w : World} {K : PySem.W.Frag} {h : Heap} {mg : Str → Option Value} {fa C_Script C_Check C_Kind C_System C_NoMeasure C_TakeError C_TooMany f_NoMeasure___init__ f_is_integer f_is_within f_is_name f_held_after f_has_form f_fault_of f_script_of f_count_of_sessions f_are_kinds f_fault_of_system f_is_measure f_check_measure f_fresh_sessions f_start f_steps f_reach f__law_pool f__law_draw f__law_names f__law_simple f__law_branch f__law_build f__law_system f__law_refused f_law f_explored f_reached f_Check___init__ f_Check_check_branch f_Check_check_statement f_Script___init__ f_Script___len__ f_Kind___init__ f_System___init__ KD_Kind KD_System GFRESH GFRESH_0 GFRESH_1 GFRESH_2 GFRESH_3 GEND GMEASURES itITEMS : Addr} (X : K.In h) (G : h.Ns mainGlobals mg) (hfa : mg "law" = some (.ref fa))
    {tkKind_block tkKind_many tkSystem_ahead tkSystem_crashes t_LONGEST_NAME t_LONGEST_OF_MANY t_MOST_AHEAD t_MOST_BLOCK t_MOST_CRASHES t_MOST_HELD t_MOST_NESTED t_MOST_SESSIONS t_MOST_STATEMENTS t_MOST_WINDOW tvGFRESH_0_0 tvGEND_0 tvGMEASURES_0 tvGMEASURES_1 tvGMEASURES_2 ttITEMS_take ttITEMS_commit ttITEMS_rollback ttITEMS_drop ttITEMS_leave ttITEMS_lock ttITEMS_unlock ttITEMS_choose : Tok}
    {nmNoMeasure qNoMeasure : Str} {NNoMeasure : Addr} {bsNoMeasure sbNoMeasure : List Value} {snNoMeasure : List Str} {abNoMeasure : Bool} {coNoMeasure : Option Bool} {ddNoMeasure : Option Addr} {m0NoMeasure m1NoMeasure m2NoMeasure m3NoMeasure m5NoMeasure : Option Value}
    {od_NoMeasure___init__ an_NoMeasure___init__ : Option Addr} {sl_NoMeasure___init__ : Array (Option Value)} {oc_NoMeasure___init__ kV_NoMeasure___init__ dc_NoMeasure___init__ pm_NoMeasure___init__ cd_NoMeasure___init__ ct_NoMeasure___init__ : Value}
    {od_is_integer an_is_integer : Option Addr} {sl_is_integer : Array (Option Value)} {oc_is_integer kV_is_integer dc_is_integer pm_is_integer cd_is_integer ct_is_integer : Value}
    {od_is_within an_is_within : Option Addr} {sl_is_within : Array (Option Value)} {oc_is_within kV_is_within dc_is_within pm_is_within cd_is_within ct_is_within : Value}
    {od_is_name an_is_name : Option Addr} {sl_is_name : Array (Option Value)} {oc_is_name kV_is_name dc_is_name pm_is_name cd_is_name ct_is_name : Value}
    {od_held_after an_held_after : Option Addr} {sl_held_after : Array (Option Value)} {oc_held_after kV_held_after dc_held_after pm_held_after cd_held_after ct_held_after : Value}
    {od_has_form an_has_form : Option Addr} {sl_has_form : Array (Option Value)} {oc_has_form kV_has_form dc_has_form pm_has_form cd_has_form ct_has_form : Value}
    {od_fault_of an_fault_of : Option Addr} {sl_fault_of : Array (Option Value)} {oc_fault_of kV_fault_of dc_fault_of pm_fault_of cd_fault_of ct_fault_of : Value}
    {od_script_of an_script_of : Option Addr} {sl_script_of : Array (Option Value)} {oc_script_of kV_script_of dc_script_of pm_script_of cd_script_of ct_script_of : Value}
    {od_count_of_sessions an_count_of_sessions : Option Addr} {sl_count_of_sessions : Array (Option Value)} {oc_count_of_sessions kV_count_of_sessions dc_count_of_sessions pm_count_of_sessions cd_count_of_sessions ct_count_of_sessions : Value}
    {od_are_kinds an_are_kinds : Option Addr} {sl_are_kinds : Array (Option Value)} {oc_are_kinds kV_are_kinds dc_are_kinds pm_are_kinds cd_are_kinds ct_are_kinds : Value}
    {od_fault_of_system an_fault_of_system : Option Addr} {sl_fault_of_system : Array (Option Value)} {oc_fault_of_system kV_fault_of_system dc_fault_of_system pm_fault_of_system cd_fault_of_system ct_fault_of_system : Value}
    {od_is_measure an_is_measure : Option Addr} {sl_is_measure : Array (Option Value)} {oc_is_measure kV_is_measure dc_is_measure pm_is_measure cd_is_measure ct_is_measure : Value}
    {od_check_measure an_check_measure : Option Addr} {sl_check_measure : Array (Option Value)} {oc_check_measure kV_check_measure dc_check_measure pm_check_measure cd_check_measure ct_check_measure : Value}
    {od_fresh_sessions an_fresh_sessions : Option Addr} {sl_fresh_sessions : Array (Option Value)} {oc_fresh_sessions kV_fresh_sessions dc_fresh_sessions pm_fresh_sessions cd_fresh_sessions ct_fresh_sessions : Value}
    {od_start an_start : Option Addr} {sl_start : Array (Option Value)} {oc_start kV_start dc_start pm_start cd_start ct_start : Value}
    {od_steps an_steps : Option Addr} {sl_steps : Array (Option Value)} {oc_steps kV_steps dc_steps pm_steps cd_steps ct_steps : Value}
    {od_reach an_reach : Option Addr} {sl_reach : Array (Option Value)} {oc_reach kV_reach dc_reach pm_reach cd_reach ct_reach : Value}
    {od__law_pool an__law_pool : Option Addr} {sl__law_pool : Array (Option Value)} {oc__law_pool kV__law_pool dc__law_pool pm__law_pool cd__law_pool ct__law_pool : Value}
    {od__law_draw an__law_draw : Option Addr} {sl__law_draw : Array (Option Value)} {oc__law_draw kV__law_draw dc__law_draw pm__law_draw cd__law_draw ct__law_draw : Value}
    {od__law_names an__law_names : Option Addr} {sl__law_names : Array (Option Value)} {oc__law_names kV__law_names dc__law_names pm__law_names cd__law_names ct__law_names : Value}
    {od__law_simple an__law_simple : Option Addr} {sl__law_simple : Array (Option Value)} {oc__law_simple kV__law_simple dc__law_simple pm__law_simple cd__law_simple ct__law_simple : Value}
    {od__law_branch an__law_branch : Option Addr} {sl__law_branch : Array (Option Value)} {oc__law_branch kV__law_branch dc__law_branch pm__law_branch cd__law_branch ct__law_branch : Value}
    {od__law_build an__law_build : Option Addr} {sl__law_build : Array (Option Value)} {oc__law_build kV__law_build dc__law_build pm__law_build cd__law_build ct__law_build : Value}
    {od__law_system an__law_system : Option Addr} {sl__law_system : Array (Option Value)} {oc__law_system kV__law_system dc__law_system pm__law_system cd__law_system ct__law_system : Value}
    {od__law_refused an__law_refused : Option Addr} {sl__law_refused : Array (Option Value)} {oc__law_refused kV__law_refused dc__law_refused pm__law_refused cd__law_refused ct__law_refused : Value}
    {od_law an_law : Option Addr} {sl_law : Array (Option Value)} {oc_law kV_law dc_law pm_law cd_law ct_law : Value}
    {od_explored an_explored : Option Addr} {sl_explored : Array (Option Value)} {oc_explored kV_explored dc_explored pm_explored cd_explored ct_explored : Value}
    {od_reached an_reached : Option Addr} {sl_reached : Array (Option Value)} {oc_reached kV_reached dc_reached pm_reached cd_reached ct_reached : Value}
    {od_Check___init__ an_Check___init__ : Option Addr} {sl_Check___init__ : Array (Option Value)} {oc_Check___init__ kV_Check___init__ dc_Check___init__ pm_Check___init__ cd_Check___init__ ct_Check___init__ : Value}
    {od_Check_check_branch an_Check_check_branch : Option Addr} {sl_Check_check_branch : Array (Option Value)} {oc_Check_check_branch kV_Check_check_branch dc_Check_check_branch pm_Check_check_branch cd_Check_check_branch ct_Check_check_branch : Value}
    {od_Check_check_statement an_Check_check_statement : Option Addr} {sl_Check_check_statement : Array (Option Value)} {oc_Check_check_statement kV_Check_check_statement dc_Check_check_statement pm_Check_check_statement cd_Check_check_statement ct_Check_check_statement : Value}
    {od_Script___init__ an_Script___init__ : Option Addr} {sl_Script___init__ : Array (Option Value)} {oc_Script___init__ kV_Script___init__ dc_Script___init__ pm_Script___init__ cd_Script___init__ ct_Script___init__ : Value}
    {od_Script___len__ an_Script___len__ : Option Addr} {sl_Script___len__ : Array (Option Value)} {oc_Script___len__ kV_Script___len__ dc_Script___len__ pm_Script___len__ cd_Script___len__ ct_Script___len__ : Value}
    {od_Kind___init__ an_Kind___init__ : Option Addr} {sl_Kind___init__ : Array (Option Value)} {oc_Kind___init__ dc_Kind___init__ pm_Kind___init__ cd_Kind___init__ ct_Kind___init__ : Value}
    {od_System___init__ an_System___init__ : Option Addr} {sl_System___init__ : Array (Option Value)} {oc_System___init__ dc_System___init__ pm_System___init__ cd_System___init__ ct_System___init__ : Value}
    {ocGFRESH : Option Addr} {itGFRESH : Array Value} {nnGFRESH : Nat} {slGFRESH : Array (Option Value)}
    {ocGFRESH_0 : Option Addr} {itGFRESH_0 : Array Value} {nnGFRESH_0 : Nat} {slGFRESH_0 : Array (Option Value)}
    {ocGFRESH_1 : Option Addr} {itGFRESH_1 : Array Value} {nnGFRESH_1 : Nat} {slGFRESH_1 : Array (Option Value)}
    {ocGFRESH_2 : Option Addr} {itGFRESH_2 : Array Value} {nnGFRESH_2 : Nat} {slGFRESH_2 : Array (Option Value)}
    {ocGFRESH_3 : Option Addr} {itGFRESH_3 : Array Value} {nnGFRESH_3 : Nat} {slGFRESH_3 : Array (Option Value)}
    {ocGEND : Option Addr} {itGEND : Array Value} {nnGEND : Nat} {slGEND : Array (Option Value)}
    {ocGMEASURES : Option Addr} {itGMEASURES : Array Value} {nnGMEASURES : Nat} {slGMEASURES : Array (Option Value)}
    {esITEMS : Array DictEntry} {nnITEMS : Nat}
    (aTakeError : PySem.W.nsIn K mainGlobals "TakeError" = some (some (.ref C_TakeError)))
    (iTakeError : PySem.W.isClsIn K C_TakeError = true)
    (tTakeError : PySem.W.typeIn K (.ref C_TakeError) = some (.type "type"))
    (aTooMany : PySem.W.nsIn K mainGlobals "TooMany" = some (some (.ref C_TooMany)))
    (iTooMany : PySem.W.isClsIn K C_TooMany = true)
    (tTooMany : PySem.W.typeIn K (.ref C_TooMany) = some (.type "type"))
    (aScript : PySem.W.nsIn K mainGlobals "Script" = some (some (.ref C_Script)))
    (pgScript : PySem.W.plainGet K C_Script Str.empty = true)
    (hdScript : PySem.W.hasDictIn K C_Script = true)
    (poScript : PySem.W.plainOver K C_Script = true)
    (saScript : PySem.W.findIn K (.ref C_Script) "__setattr__" = some (some (.builtin "object.__setattr__")))
    (mkScript : PySem.W.makesIn K C_Script = true)
    (kcScript : PySem.W.keepIn K (.ref C_Script) = true)
    (nScript_found : PySem.W.findIn K (.ref C_Script) "found" = some none)
    (nScript_places : PySem.W.findIn K (.ref C_Script) "places" = some none)
    (nScript_statements : PySem.W.findIn K (.ref C_Script) "statements" = some none)
    (aCheck : PySem.W.nsIn K mainGlobals "Check" = some (some (.ref C_Check)))
    (pgCheck : PySem.W.plainGet K C_Check Str.empty = true)
    (hdCheck : PySem.W.hasDictIn K C_Check = true)
    (poCheck : PySem.W.plainOver K C_Check = true)
    (saCheck : PySem.W.findIn K (.ref C_Check) "__setattr__" = some (some (.builtin "object.__setattr__")))
    (mkCheck : PySem.W.makesIn K C_Check = true)
    (kcCheck : PySem.W.keepIn K (.ref C_Check) = true)
    (nCheck_found : PySem.W.findIn K (.ref C_Check) "found" = some none)
    (aKind : PySem.W.nsIn K mainGlobals "Kind" = some (some (.ref C_Kind)))
    (pgKind : PySem.W.plainGet K C_Kind Str.empty = true)
    (hdKind : PySem.W.hasDictIn K C_Kind = true)
    (poKind : PySem.W.plainOver K C_Kind = true)
    (saKind : PySem.W.findIn K (.ref C_Kind) "__setattr__" = some (some (.builtin "object.__setattr__")))
    (mkKind : PySem.W.makesIn K C_Kind = true)
    (kcKind : PySem.W.keepIn K (.ref C_Kind) = true)
    (nKind_block : PySem.W.findIn K (.ref C_Kind) "block" = some none)
    (nKind_many : PySem.W.findIn K (.ref C_Kind) "many" = some none)
    (nKind_name : PySem.W.findIn K (.ref C_Kind) "name" = some none)
    (nKind_script : PySem.W.findIn K (.ref C_Kind) "script" = some none)
    (aSystem : PySem.W.nsIn K mainGlobals "System" = some (some (.ref C_System)))
    (pgSystem : PySem.W.plainGet K C_System Str.empty = true)
    (hdSystem : PySem.W.hasDictIn K C_System = true)
    (poSystem : PySem.W.plainOver K C_System = true)
    (saSystem : PySem.W.findIn K (.ref C_System) "__setattr__" = some (some (.builtin "object.__setattr__")))
    (mkSystem : PySem.W.makesIn K C_System = true)
    (kcSystem : PySem.W.keepIn K (.ref C_System) = true)
    (nSystem_ahead : PySem.W.findIn K (.ref C_System) "ahead" = some none)
    (nSystem_crashes : PySem.W.findIn K (.ref C_System) "crashes" = some none)
    (nSystem_kinds : PySem.W.findIn K (.ref C_System) "kinds" = some none)
    (nSystem_sessions : PySem.W.findIn K (.ref C_System) "sessions" = some none)
    (nSystem_window : PySem.W.findIn K (.ref C_System) "window" = some none)
    (aNoMeasure : PySem.W.nsIn K mainGlobals "NoMeasure" = some (some (.ref C_NoMeasure)))
    (xNoMeasure : K.lookup C_NoMeasure = some (excClassObj nmNoMeasure qNoMeasure C_NoMeasure NNoMeasure bsNoMeasure [.ref C_TakeError, .type "ValueError", .type "Exception", .type "BaseException", .type "object"] true snNoMeasure sbNoMeasure abNoMeasure coNoMeasure ddNoMeasure m0NoMeasure m1NoMeasure m2NoMeasure m3NoMeasure m5NoMeasure "ValueError.__new__"))
    (saNoMeasure : PySem.W.findIn K (.ref C_NoMeasure) "__setattr__" = some (some (.builtin "object.__setattr__")))
    (gaNoMeasure : PySem.W.findIn K (.ref C_NoMeasure) "__getattribute__" = some (some (.builtin "BaseException.__getattribute__")))
    (ggNoMeasure : PySem.W.findIn K (.ref C_NoMeasure) "__getattr__" = some none)
    (nfNoMeasure : PySem.W.findIn K (.ref C_NoMeasure) "measure" = some none)
    (eNoMeasure : PySem.W.subIn K (.ref C_NoMeasure) (.type "BaseException") = some true)
    (tNoMeasure : PySem.W.typeIn K (.ref C_NoMeasure) = some (.type "type"))
    (hNoMeasure : PySem.W.hasDictIn K C_NoMeasure = true)
    (kcNoMeasure : PySem.W.keepIn K (.ref C_NoMeasure) = true)
    (caNoMeasure : PySem.W.findIn K (.ref C_NoMeasure) "__class__" = some (some (.builtin "object.__class__")))
    (obNoMeasure : PySem.W.mroIn K C_NoMeasure (.type "object") = some true)
    (iNoMeasure : PySem.W.isClsIn K C_NoMeasure = true)
    (sNoMeasure_NoMeasure : PySem.W.subIn K (.ref C_NoMeasure) (.ref C_NoMeasure) = some true)
    (sNoMeasure_TakeError : PySem.W.subIn K (.ref C_NoMeasure) (.ref C_TakeError) = some true)
    (dNoMeasure_TakeError : (Value.ref C_NoMeasure == Value.ref C_TakeError) = false)
    (sNoMeasure_TooMany : PySem.W.subIn K (.ref C_NoMeasure) (.ref C_TooMany) = some false)
    (dNoMeasure_TooMany : (Value.ref C_NoMeasure == Value.ref C_TooMany) = false)
    (cn : PySem.W.specialIn K (.builtin "object.__class__") "__get__" = some (some (.builtin "getset_descriptor.__get__")))
    (ct : PySem.W.takesIn K (.builtin "object.__class__") = some true)
    (caScript : PySem.W.findIn K (.ref C_Script) "__class__" = some (some (.builtin "object.__class__")))
    (obScript : PySem.W.mroIn K C_Script (.type "object") = some true)
    (icScript : PySem.W.isClsIn K C_Script = true)
    (tcScript : PySem.W.typeIn K (.ref C_Script) = some (.type "type"))
    (uScript_tuple : PySem.W.subIn K (.type "tuple") (.ref C_Script) = some false)
    (caKind : PySem.W.findIn K (.ref C_Kind) "__class__" = some (some (.builtin "object.__class__")))
    (obKind : PySem.W.mroIn K C_Kind (.type "object") = some true)
    (icKind : PySem.W.isClsIn K C_Kind = true)
    (tcKind : PySem.W.typeIn K (.ref C_Kind) = some (.type "type"))
    (a_NoMeasure___init__ : PySem.W.findIn K (.ref C_NoMeasure) "__init__" = some (some (.ref f_NoMeasure___init__)))
    (i_NoMeasure___init__ : PySem.W.typeIn K (.ref f_NoMeasure___init__) = some (.type "function"))
    (l_NoMeasure___init__ : K.lookup f_NoMeasure___init__ = some ⟨oc_NoMeasure___init__, od_NoMeasure___init__, .func (PySem.W.fnOf "__init__" "NoMeasure.__init__" (defArgs s_NoMeasure___init__) (defBody s_NoMeasure___init__) (defScope s_NoMeasure___init__) .none kV_NoMeasure___init__ dc_NoMeasure___init__ pm_NoMeasure___init__ an_NoMeasure___init__ cd_NoMeasure___init__ ct_NoMeasure___init__), sl_NoMeasure___init__⟩)
    (c_NoMeasure___init__ : PySem.W.codeIn K cd_NoMeasure___init__ "NoMeasure.__init__" = true)
    (k_NoMeasure___init__ : PySem.W.keepIn K (.ref f_NoMeasure___init__) = true)
    (a_is_integer : PySem.W.nsIn K mainGlobals "is_integer" = some (some (.ref f_is_integer)))
    (l_is_integer : K.lookup f_is_integer = some ⟨oc_is_integer, od_is_integer, .func (PySem.W.fnOf "is_integer" "is_integer" (defArgs s_is_integer) (defBody s_is_integer) (defScope s_is_integer) .none kV_is_integer dc_is_integer pm_is_integer an_is_integer cd_is_integer ct_is_integer), sl_is_integer⟩)
    (c_is_integer : PySem.W.codeIn K cd_is_integer "is_integer" = true)
    (k_is_integer : PySem.W.keepIn K (.ref f_is_integer) = true)
    (a_is_within : PySem.W.nsIn K mainGlobals "is_within" = some (some (.ref f_is_within)))
    (l_is_within : K.lookup f_is_within = some ⟨oc_is_within, od_is_within, .func (PySem.W.fnOf "is_within" "is_within" (defArgs s_is_within) (defBody s_is_within) (defScope s_is_within) .none kV_is_within dc_is_within pm_is_within an_is_within cd_is_within ct_is_within), sl_is_within⟩)
    (c_is_within : PySem.W.codeIn K cd_is_within "is_within" = true)
    (k_is_within : PySem.W.keepIn K (.ref f_is_within) = true)
    (a_is_name : PySem.W.nsIn K mainGlobals "is_name" = some (some (.ref f_is_name)))
    (l_is_name : K.lookup f_is_name = some ⟨oc_is_name, od_is_name, .func (PySem.W.fnOf "is_name" "is_name" (defArgs s_is_name) (defBody s_is_name) (defScope s_is_name) .none kV_is_name dc_is_name pm_is_name an_is_name cd_is_name ct_is_name), sl_is_name⟩)
    (c_is_name : PySem.W.codeIn K cd_is_name "is_name" = true)
    (k_is_name : PySem.W.keepIn K (.ref f_is_name) = true)
    (a_held_after : PySem.W.nsIn K mainGlobals "held_after" = some (some (.ref f_held_after)))
    (l_held_after : K.lookup f_held_after = some ⟨oc_held_after, od_held_after, .func (PySem.W.fnOf "held_after" "held_after" (defArgs s_held_after) (defBody s_held_after) (defScope s_held_after) .none kV_held_after dc_held_after pm_held_after an_held_after cd_held_after ct_held_after), sl_held_after⟩)
    (c_held_after : PySem.W.codeIn K cd_held_after "held_after" = true)
    (k_held_after : PySem.W.keepIn K (.ref f_held_after) = true)
    (a_has_form : PySem.W.nsIn K mainGlobals "has_form" = some (some (.ref f_has_form)))
    (l_has_form : K.lookup f_has_form = some ⟨oc_has_form, od_has_form, .func (PySem.W.fnOf "has_form" "has_form" (defArgs s_has_form) (defBody s_has_form) (defScope s_has_form) .none kV_has_form dc_has_form pm_has_form an_has_form cd_has_form ct_has_form), sl_has_form⟩)
    (c_has_form : PySem.W.codeIn K cd_has_form "has_form" = true)
    (k_has_form : PySem.W.keepIn K (.ref f_has_form) = true)
    (a_fault_of : PySem.W.nsIn K mainGlobals "fault_of" = some (some (.ref f_fault_of)))
    (l_fault_of : K.lookup f_fault_of = some ⟨oc_fault_of, od_fault_of, .func (PySem.W.fnOf "fault_of" "fault_of" (defArgs s_fault_of) (defBody s_fault_of) (defScope s_fault_of) .none kV_fault_of dc_fault_of pm_fault_of an_fault_of cd_fault_of ct_fault_of), sl_fault_of⟩)
    (c_fault_of : PySem.W.codeIn K cd_fault_of "fault_of" = true)
    (k_fault_of : PySem.W.keepIn K (.ref f_fault_of) = true)
    (a_script_of : PySem.W.nsIn K mainGlobals "script_of" = some (some (.ref f_script_of)))
    (l_script_of : K.lookup f_script_of = some ⟨oc_script_of, od_script_of, .func (PySem.W.fnOf "script_of" "script_of" (defArgs s_script_of) (defBody s_script_of) (defScope s_script_of) .none kV_script_of dc_script_of pm_script_of an_script_of cd_script_of ct_script_of), sl_script_of⟩)
    (c_script_of : PySem.W.codeIn K cd_script_of "script_of" = true)
    (k_script_of : PySem.W.keepIn K (.ref f_script_of) = true)
    (a_count_of_sessions : PySem.W.nsIn K mainGlobals "count_of_sessions" = some (some (.ref f_count_of_sessions)))
    (l_count_of_sessions : K.lookup f_count_of_sessions = some ⟨oc_count_of_sessions, od_count_of_sessions, .func (PySem.W.fnOf "count_of_sessions" "count_of_sessions" (defArgs s_count_of_sessions) (defBody s_count_of_sessions) (defScope s_count_of_sessions) .none kV_count_of_sessions dc_count_of_sessions pm_count_of_sessions an_count_of_sessions cd_count_of_sessions ct_count_of_sessions), sl_count_of_sessions⟩)
    (c_count_of_sessions : PySem.W.codeIn K cd_count_of_sessions "count_of_sessions" = true)
    (k_count_of_sessions : PySem.W.keepIn K (.ref f_count_of_sessions) = true)
    (a_are_kinds : PySem.W.nsIn K mainGlobals "are_kinds" = some (some (.ref f_are_kinds)))
    (l_are_kinds : K.lookup f_are_kinds = some ⟨oc_are_kinds, od_are_kinds, .func (PySem.W.fnOf "are_kinds" "are_kinds" (defArgs s_are_kinds) (defBody s_are_kinds) (defScope s_are_kinds) .none kV_are_kinds dc_are_kinds pm_are_kinds an_are_kinds cd_are_kinds ct_are_kinds), sl_are_kinds⟩)
    (c_are_kinds : PySem.W.codeIn K cd_are_kinds "are_kinds" = true)
    (k_are_kinds : PySem.W.keepIn K (.ref f_are_kinds) = true)
    (a_fault_of_system : PySem.W.nsIn K mainGlobals "fault_of_system" = some (some (.ref f_fault_of_system)))
    (l_fault_of_system : K.lookup f_fault_of_system = some ⟨oc_fault_of_system, od_fault_of_system, .func (PySem.W.fnOf "fault_of_system" "fault_of_system" (defArgs s_fault_of_system) (defBody s_fault_of_system) (defScope s_fault_of_system) .none kV_fault_of_system dc_fault_of_system pm_fault_of_system an_fault_of_system cd_fault_of_system ct_fault_of_system), sl_fault_of_system⟩)
    (c_fault_of_system : PySem.W.codeIn K cd_fault_of_system "fault_of_system" = true)
    (k_fault_of_system : PySem.W.keepIn K (.ref f_fault_of_system) = true)
    (a_is_measure : PySem.W.nsIn K mainGlobals "is_measure" = some (some (.ref f_is_measure)))
    (l_is_measure : K.lookup f_is_measure = some ⟨oc_is_measure, od_is_measure, .func (PySem.W.fnOf "is_measure" "is_measure" (defArgs s_is_measure) (defBody s_is_measure) (defScope s_is_measure) .none kV_is_measure dc_is_measure pm_is_measure an_is_measure cd_is_measure ct_is_measure), sl_is_measure⟩)
    (c_is_measure : PySem.W.codeIn K cd_is_measure "is_measure" = true)
    (k_is_measure : PySem.W.keepIn K (.ref f_is_measure) = true)
    (a_check_measure : PySem.W.nsIn K mainGlobals "check_measure" = some (some (.ref f_check_measure)))
    (l_check_measure : K.lookup f_check_measure = some ⟨oc_check_measure, od_check_measure, .func (PySem.W.fnOf "check_measure" "check_measure" (defArgs s_check_measure) (defBody s_check_measure) (defScope s_check_measure) .none kV_check_measure dc_check_measure pm_check_measure an_check_measure cd_check_measure ct_check_measure), sl_check_measure⟩)
    (c_check_measure : PySem.W.codeIn K cd_check_measure "check_measure" = true)
    (k_check_measure : PySem.W.keepIn K (.ref f_check_measure) = true)
    (a_fresh_sessions : PySem.W.nsIn K mainGlobals "fresh_sessions" = some (some (.ref f_fresh_sessions)))
    (l_fresh_sessions : K.lookup f_fresh_sessions = some ⟨oc_fresh_sessions, od_fresh_sessions, .func (PySem.W.fnOf "fresh_sessions" "fresh_sessions" (defArgs s_fresh_sessions) (defBody s_fresh_sessions) (defScope s_fresh_sessions) .none kV_fresh_sessions dc_fresh_sessions pm_fresh_sessions an_fresh_sessions cd_fresh_sessions ct_fresh_sessions), sl_fresh_sessions⟩)
    (c_fresh_sessions : PySem.W.codeIn K cd_fresh_sessions "fresh_sessions" = true)
    (k_fresh_sessions : PySem.W.keepIn K (.ref f_fresh_sessions) = true)
    (a_start : PySem.W.nsIn K mainGlobals "start" = some (some (.ref f_start)))
    (l_start : K.lookup f_start = some ⟨oc_start, od_start, .func (PySem.W.fnOf "start" "start" (defArgs s_start) (defBody s_start) (defScope s_start) .none kV_start dc_start pm_start an_start cd_start ct_start), sl_start⟩)
    (c_start : PySem.W.codeIn K cd_start "start" = true)
    (k_start : PySem.W.keepIn K (.ref f_start) = true)
    (a_steps : PySem.W.nsIn K mainGlobals "steps" = some (some (.ref f_steps)))
    (l_steps : K.lookup f_steps = some ⟨oc_steps, od_steps, .func (PySem.W.fnOf "steps" "steps" (defArgs s_steps) (defBody s_steps) (defScope s_steps) .none kV_steps dc_steps pm_steps an_steps cd_steps ct_steps), sl_steps⟩)
    (c_steps : PySem.W.codeIn K cd_steps "steps" = true)
    (k_steps : PySem.W.keepIn K (.ref f_steps) = true)
    (a_reach : PySem.W.nsIn K mainGlobals "reach" = some (some (.ref f_reach)))
    (l_reach : K.lookup f_reach = some ⟨oc_reach, od_reach, .func (PySem.W.fnOf "reach" "reach" (defArgs s_reach) (defBody s_reach) (defScope s_reach) .none kV_reach dc_reach pm_reach an_reach cd_reach ct_reach), sl_reach⟩)
    (c_reach : PySem.W.codeIn K cd_reach "reach" = true)
    (k_reach : PySem.W.keepIn K (.ref f_reach) = true)
    (a__law_pool : PySem.W.nsIn K mainGlobals "_law_pool" = some (some (.ref f__law_pool)))
    (l__law_pool : K.lookup f__law_pool = some ⟨oc__law_pool, od__law_pool, .func (PySem.W.fnOf "_law_pool" "_law_pool" (defArgs s__law_pool) (defBody s__law_pool) (defScope s__law_pool) .none kV__law_pool dc__law_pool pm__law_pool an__law_pool cd__law_pool ct__law_pool), sl__law_pool⟩)
    (c__law_pool : PySem.W.codeIn K cd__law_pool "_law_pool" = true)
    (k__law_pool : PySem.W.keepIn K (.ref f__law_pool) = true)
    (a__law_draw : PySem.W.nsIn K mainGlobals "_law_draw" = some (some (.ref f__law_draw)))
    (l__law_draw : K.lookup f__law_draw = some ⟨oc__law_draw, od__law_draw, .func (PySem.W.fnOf "_law_draw" "_law_draw" (defArgs s__law_draw) (defBody s__law_draw) (defScope s__law_draw) .none kV__law_draw dc__law_draw pm__law_draw an__law_draw cd__law_draw ct__law_draw), sl__law_draw⟩)
    (c__law_draw : PySem.W.codeIn K cd__law_draw "_law_draw" = true)
    (k__law_draw : PySem.W.keepIn K (.ref f__law_draw) = true)
    (a__law_names : PySem.W.nsIn K mainGlobals "_law_names" = some (some (.ref f__law_names)))
    (l__law_names : K.lookup f__law_names = some ⟨oc__law_names, od__law_names, .func (PySem.W.fnOf "_law_names" "_law_names" (defArgs s__law_names) (defBody s__law_names) (defScope s__law_names) .none kV__law_names dc__law_names pm__law_names an__law_names cd__law_names ct__law_names), sl__law_names⟩)
    (c__law_names : PySem.W.codeIn K cd__law_names "_law_names" = true)
    (k__law_names : PySem.W.keepIn K (.ref f__law_names) = true)
    (a__law_simple : PySem.W.nsIn K mainGlobals "_law_simple" = some (some (.ref f__law_simple)))
    (l__law_simple : K.lookup f__law_simple = some ⟨oc__law_simple, od__law_simple, .func (PySem.W.fnOf "_law_simple" "_law_simple" (defArgs s__law_simple) (defBody s__law_simple) (defScope s__law_simple) .none kV__law_simple dc__law_simple pm__law_simple an__law_simple cd__law_simple ct__law_simple), sl__law_simple⟩)
    (c__law_simple : PySem.W.codeIn K cd__law_simple "_law_simple" = true)
    (k__law_simple : PySem.W.keepIn K (.ref f__law_simple) = true)
    (a__law_branch : PySem.W.nsIn K mainGlobals "_law_branch" = some (some (.ref f__law_branch)))
    (l__law_branch : K.lookup f__law_branch = some ⟨oc__law_branch, od__law_branch, .func (PySem.W.fnOf "_law_branch" "_law_branch" (defArgs s__law_branch) (defBody s__law_branch) (defScope s__law_branch) .none kV__law_branch dc__law_branch pm__law_branch an__law_branch cd__law_branch ct__law_branch), sl__law_branch⟩)
    (c__law_branch : PySem.W.codeIn K cd__law_branch "_law_branch" = true)
    (k__law_branch : PySem.W.keepIn K (.ref f__law_branch) = true)
    (a__law_build : PySem.W.nsIn K mainGlobals "_law_build" = some (some (.ref f__law_build)))
    (l__law_build : K.lookup f__law_build = some ⟨oc__law_build, od__law_build, .func (PySem.W.fnOf "_law_build" "_law_build" (defArgs s__law_build) (defBody s__law_build) (defScope s__law_build) .none kV__law_build dc__law_build pm__law_build an__law_build cd__law_build ct__law_build), sl__law_build⟩)
    (c__law_build : PySem.W.codeIn K cd__law_build "_law_build" = true)
    (k__law_build : PySem.W.keepIn K (.ref f__law_build) = true)
    (a__law_system : PySem.W.nsIn K mainGlobals "_law_system" = some (some (.ref f__law_system)))
    (l__law_system : K.lookup f__law_system = some ⟨oc__law_system, od__law_system, .func (PySem.W.fnOf "_law_system" "_law_system" (defArgs s__law_system) (defBody s__law_system) (defScope s__law_system) .none kV__law_system dc__law_system pm__law_system an__law_system cd__law_system ct__law_system), sl__law_system⟩)
    (c__law_system : PySem.W.codeIn K cd__law_system "_law_system" = true)
    (k__law_system : PySem.W.keepIn K (.ref f__law_system) = true)
    (a__law_refused : PySem.W.nsIn K mainGlobals "_law_refused" = some (some (.ref f__law_refused)))
    (l__law_refused : K.lookup f__law_refused = some ⟨oc__law_refused, od__law_refused, .func (PySem.W.fnOf "_law_refused" "_law_refused" (defArgs s__law_refused) (defBody s__law_refused) (defScope s__law_refused) .none kV__law_refused dc__law_refused pm__law_refused an__law_refused cd__law_refused ct__law_refused), sl__law_refused⟩)
    (c__law_refused : PySem.W.codeIn K cd__law_refused "_law_refused" = true)
    (k__law_refused : PySem.W.keepIn K (.ref f__law_refused) = true)
    (a_law : PySem.W.nsIn K mainGlobals "law" = some (some (.ref f_law)))
    (l_law : K.lookup f_law = some ⟨oc_law, od_law, .func (PySem.W.fnOf "law" "law" (defArgs s_law) (defBody s_law) (defScope s_law) .none kV_law dc_law pm_law an_law cd_law ct_law), sl_law⟩)
    (c_law : PySem.W.codeIn K cd_law "law" = true)
    (k_law : PySem.W.keepIn K (.ref f_law) = true)
    (a_explored : PySem.W.nsIn K mainGlobals "explored" = some (some (.ref f_explored)))
    (l_explored : K.lookup f_explored = some ⟨oc_explored, od_explored, .func (PySem.W.fnOf "explored" "explored" (defArgs s_explored) (defBody s_explored) (defScope s_explored) .none kV_explored dc_explored pm_explored an_explored cd_explored ct_explored), sl_explored⟩)
    (c_explored : PySem.W.codeIn K cd_explored "explored" = true)
    (k_explored : PySem.W.keepIn K (.ref f_explored) = true)
    (a_reached : PySem.W.nsIn K mainGlobals "reached" = some (some (.ref f_reached)))
    (l_reached : K.lookup f_reached = some ⟨oc_reached, od_reached, .func (PySem.W.fnOf "reached" "reached" (defArgs s_reached) (defBody s_reached) (defScope s_reached) .none kV_reached dc_reached pm_reached an_reached cd_reached ct_reached), sl_reached⟩)
    (c_reached : PySem.W.codeIn K cd_reached "reached" = true)
    (k_reached : PySem.W.keepIn K (.ref f_reached) = true)
    (ns_NoMeasure : PySem.W.subIn K (.ref C_NoMeasure) (.type "StopIteration") = some false)
    (a_Check___init__ : PySem.W.findIn K (.ref C_Check) "__init__" = some (some (.ref f_Check___init__)))
    (i_Check___init__ : PySem.W.isFn K (.ref f_Check___init__) = true)
    (l_Check___init__ : K.lookup f_Check___init__ = some ⟨oc_Check___init__, od_Check___init__, .func (PySem.W.fnOf "__init__" "Check.__init__" (defArgs s_Check___init__) (defBody s_Check___init__) (defScope s_Check___init__) .none kV_Check___init__ dc_Check___init__ pm_Check___init__ an_Check___init__ cd_Check___init__ ct_Check___init__), sl_Check___init__⟩)
    (c_Check___init__ : PySem.W.codeIn K cd_Check___init__ "Check.__init__" = true)
    (k_Check___init__ : PySem.W.keepIn K (.ref f_Check___init__) = true)
    (a_Check_check_branch : PySem.W.findIn K (.ref C_Check) "check_branch" = some (some (.ref f_Check_check_branch)))
    (i_Check_check_branch : PySem.W.isFn K (.ref f_Check_check_branch) = true)
    (l_Check_check_branch : K.lookup f_Check_check_branch = some ⟨oc_Check_check_branch, od_Check_check_branch, .func (PySem.W.fnOf "check_branch" "Check.check_branch" (defArgs s_Check_check_branch) (defBody s_Check_check_branch) (defScope s_Check_check_branch) .none kV_Check_check_branch dc_Check_check_branch pm_Check_check_branch an_Check_check_branch cd_Check_check_branch ct_Check_check_branch), sl_Check_check_branch⟩)
    (c_Check_check_branch : PySem.W.codeIn K cd_Check_check_branch "Check.check_branch" = true)
    (k_Check_check_branch : PySem.W.keepIn K (.ref f_Check_check_branch) = true)
    (a_Check_check_statement : PySem.W.findIn K (.ref C_Check) "check_statement" = some (some (.ref f_Check_check_statement)))
    (i_Check_check_statement : PySem.W.isFn K (.ref f_Check_check_statement) = true)
    (l_Check_check_statement : K.lookup f_Check_check_statement = some ⟨oc_Check_check_statement, od_Check_check_statement, .func (PySem.W.fnOf "check_statement" "Check.check_statement" (defArgs s_Check_check_statement) (defBody s_Check_check_statement) (defScope s_Check_check_statement) .none kV_Check_check_statement dc_Check_check_statement pm_Check_check_statement an_Check_check_statement cd_Check_check_statement ct_Check_check_statement), sl_Check_check_statement⟩)
    (c_Check_check_statement : PySem.W.codeIn K cd_Check_check_statement "Check.check_statement" = true)
    (k_Check_check_statement : PySem.W.keepIn K (.ref f_Check_check_statement) = true)
    (a_Script___init__ : PySem.W.findIn K (.ref C_Script) "__init__" = some (some (.ref f_Script___init__)))
    (i_Script___init__ : PySem.W.isFn K (.ref f_Script___init__) = true)
    (l_Script___init__ : K.lookup f_Script___init__ = some ⟨oc_Script___init__, od_Script___init__, .func (PySem.W.fnOf "__init__" "Script.__init__" (defArgs s_Script___init__) (defBody s_Script___init__) (defScope s_Script___init__) .none kV_Script___init__ dc_Script___init__ pm_Script___init__ an_Script___init__ cd_Script___init__ ct_Script___init__), sl_Script___init__⟩)
    (c_Script___init__ : PySem.W.codeIn K cd_Script___init__ "Script.__init__" = true)
    (k_Script___init__ : PySem.W.keepIn K (.ref f_Script___init__) = true)
    (a_Script___len__ : PySem.W.findIn K (.ref C_Script) "__len__" = some (some (.ref f_Script___len__)))
    (i_Script___len__ : PySem.W.isFn K (.ref f_Script___len__) = true)
    (l_Script___len__ : K.lookup f_Script___len__ = some ⟨oc_Script___len__, od_Script___len__, .func (PySem.W.fnOf "__len__" "Script.__len__" (defArgs s_Script___len__) (defBody s_Script___len__) (defScope s_Script___len__) .none kV_Script___len__ dc_Script___len__ pm_Script___len__ an_Script___len__ cd_Script___len__ ct_Script___len__), sl_Script___len__⟩)
    (c_Script___len__ : PySem.W.codeIn K cd_Script___len__ "Script.__len__" = true)
    (k_Script___len__ : PySem.W.keepIn K (.ref f_Script___len__) = true)
    (fg_Script___len__ : PySem.W.fnIn K f_Script___len__ = true)
    (a_Kind___init__ : PySem.W.findIn K (.ref C_Kind) "__init__" = some (some (.ref f_Kind___init__)))
    (i_Kind___init__ : PySem.W.isFn K (.ref f_Kind___init__) = true)
    (l_Kind___init__ : K.lookup f_Kind___init__ = some ⟨oc_Kind___init__, od_Kind___init__, .func (PySem.W.fnOf "__init__" "Kind.__init__" (defArgs s_Kind___init__) (defBody s_Kind___init__) (defScope s_Kind___init__) .none (.ref KD_Kind) dc_Kind___init__ pm_Kind___init__ an_Kind___init__ cd_Kind___init__ ct_Kind___init__), sl_Kind___init__⟩)
    (c_Kind___init__ : PySem.W.codeIn K cd_Kind___init__ "Kind.__init__" = true)
    (k_Kind___init__ : PySem.W.keepIn K (.ref f_Kind___init__) = true)
    (a_System___init__ : PySem.W.findIn K (.ref C_System) "__init__" = some (some (.ref f_System___init__)))
    (i_System___init__ : PySem.W.isFn K (.ref f_System___init__) = true)
    (l_System___init__ : K.lookup f_System___init__ = some ⟨oc_System___init__, od_System___init__, .func (PySem.W.fnOf "__init__" "System.__init__" (defArgs s_System___init__) (defBody s_System___init__) (defScope s_System___init__) .none (.ref KD_System) dc_System___init__ pm_System___init__ an_System___init__ cd_System___init__ ct_System___init__), sl_System___init__⟩)
    (c_System___init__ : PySem.W.codeIn K cd_System___init__ "System.__init__" = true)
    (k_System___init__ : PySem.W.keepIn K (.ref f_System___init__) = true)
    (kdKind_block : PySem.W.nsIn K KD_Kind "block" = some (some (.int (1) tkKind_block)))
    (kdKind_many : PySem.W.nsIn K KD_Kind "many" = some (some (.int (1) tkKind_many)))
    (kdSystem_ahead : PySem.W.nsIn K KD_System "ahead" = some (some (.int (0) tkSystem_ahead)))
    (kdSystem_window : PySem.W.nsIn K KD_System "window" = some (some .none))
    (kdSystem_crashes : PySem.W.nsIn K KD_System "crashes" = some (some (.int (0) tkSystem_crashes)))
    (z_all : PySem.W.nsIn K mainGlobals "all" = some none)
    (z_bool : PySem.W.nsIn K mainGlobals "bool" = some none)
    (z_enumerate : PySem.W.nsIn K mainGlobals "enumerate" = some none)
    (z_int : PySem.W.nsIn K mainGlobals "int" = some none)
    (z_isinstance : PySem.W.nsIn K mainGlobals "isinstance" = some none)
    (z_len : PySem.W.nsIn K mainGlobals "len" = some none)
    (z_list : PySem.W.nsIn K mainGlobals "list" = some none)
    (z_max : PySem.W.nsIn K mainGlobals "max" = some none)
    (z_range : PySem.W.nsIn K mainGlobals "range" = some none)
    (z_set : PySem.W.nsIn K mainGlobals "set" = some none)
    (z_str : PySem.W.nsIn K mainGlobals "str" = some none)
    (z_sum : PySem.W.nsIn K mainGlobals "sum" = some none)
    (z_tuple : PySem.W.nsIn K mainGlobals "tuple" = some none)
    (v_LONGEST_NAME : PySem.W.nsIn K mainGlobals "LONGEST_NAME" = some (some (.int 8 t_LONGEST_NAME)))
    (v_LONGEST_OF_MANY : PySem.W.nsIn K mainGlobals "LONGEST_OF_MANY" = some (some (.int 4 t_LONGEST_OF_MANY)))
    (v_MOST_AHEAD : PySem.W.nsIn K mainGlobals "MOST_AHEAD" = some (some (.int 4 t_MOST_AHEAD)))
    (v_MOST_BLOCK : PySem.W.nsIn K mainGlobals "MOST_BLOCK" = some (some (.int 3 t_MOST_BLOCK)))
    (v_MOST_CRASHES : PySem.W.nsIn K mainGlobals "MOST_CRASHES" = some (some (.int 2 t_MOST_CRASHES)))
    (v_MOST_HELD : PySem.W.nsIn K mainGlobals "MOST_HELD" = some (some (.int 3 t_MOST_HELD)))
    (v_MOST_NESTED : PySem.W.nsIn K mainGlobals "MOST_NESTED" = some (some (.int 2 t_MOST_NESTED)))
    (v_MOST_SESSIONS : PySem.W.nsIn K mainGlobals "MOST_SESSIONS" = some (some (.int 3 t_MOST_SESSIONS)))
    (v_MOST_STATEMENTS : PySem.W.nsIn K mainGlobals "MOST_STATEMENTS" = some (some (.int 8 t_MOST_STATEMENTS)))
    (v_MOST_WINDOW : PySem.W.nsIn K mainGlobals "MOST_WINDOW" = some (some (.int 8 t_MOST_WINDOW)))
    (v_FRESH : PySem.W.nsIn K mainGlobals "FRESH" = some (some (.ref GFRESH)))
    (lGFRESH : K.lookup GFRESH = some ⟨.type "tuple", ocGFRESH, .seq itGFRESH nnGFRESH, slGFRESH⟩)
    (eGFRESH : itGFRESH.toList = [.ref GFRESH_0, .ref GFRESH_1, .ref GFRESH_2, .ref GFRESH_3])
    (lGFRESH_0 : K.lookup GFRESH_0 = some ⟨.type "tuple", ocGFRESH_0, .seq itGFRESH_0 nnGFRESH_0, slGFRESH_0⟩)
    (eGFRESH_0 : itGFRESH_0.toList = [.int 0 tvGFRESH_0_0])
    (lGFRESH_1 : K.lookup GFRESH_1 = some ⟨.type "tuple", ocGFRESH_1, .seq itGFRESH_1 nnGFRESH_1, slGFRESH_1⟩)
    (eGFRESH_1 : itGFRESH_1.toList = [])
    (lGFRESH_2 : K.lookup GFRESH_2 = some ⟨.type "tuple", ocGFRESH_2, .seq itGFRESH_2 nnGFRESH_2, slGFRESH_2⟩)
    (eGFRESH_2 : itGFRESH_2.toList = [])
    (lGFRESH_3 : K.lookup GFRESH_3 = some ⟨.type "tuple", ocGFRESH_3, .seq itGFRESH_3 nnGFRESH_3, slGFRESH_3⟩)
    (eGFRESH_3 : itGFRESH_3.toList = [])
    (v_END : PySem.W.nsIn K mainGlobals "END" = some (some (.ref GEND)))
    (lGEND : K.lookup GEND = some ⟨.type "tuple", ocGEND, .seq itGEND nnGEND, slGEND⟩)
    (eGEND : itGEND.toList = [.str "end" tvGEND_0])
    (v_MEASURES : PySem.W.nsIn K mainGlobals "MEASURES" = some (some (.ref GMEASURES)))
    (lGMEASURES : K.lookup GMEASURES = some ⟨.type "tuple", ocGMEASURES, .seq itGMEASURES nnGMEASURES, slGMEASURES⟩)
    (eGMEASURES : itGMEASURES.toList = [.str "gap" tvGMEASURES_0, .str "late" tvGMEASURES_1, .str "spread" tvGMEASURES_2])
    (v_ITEMS : PySem.W.nsIn K mainGlobals "ITEMS" = some (some (.ref itITEMS)))
    (lkITEMS : K.lookup itITEMS = some ⟨.type "dict", none, .dict esITEMS nnITEMS, #[]⟩)
    (klITEMS : PySem.W.KeysLit w.params esITEMS.toList)
    (smITEMS : (itITEMS == sysModules) = false)
    (eITEMS_take : PySem.W.nsIn K itITEMS "take" = some (some (.int 1 ttITEMS_take)))
    (eITEMS_commit : PySem.W.nsIn K itITEMS "commit" = some (some (.int 1 ttITEMS_commit)))
    (eITEMS_rollback : PySem.W.nsIn K itITEMS "rollback" = some (some (.int 1 ttITEMS_rollback)))
    (eITEMS_drop : PySem.W.nsIn K itITEMS "drop" = some (some (.int 1 ttITEMS_drop)))
    (eITEMS_leave : PySem.W.nsIn K itITEMS "leave" = some (some (.int 1 ttITEMS_leave)))
    (eITEMS_lock : PySem.W.nsIn K itITEMS "lock" = some (some (.int 2 ttITEMS_lock)))
    (eITEMS_unlock : PySem.W.nsIn K itITEMS "unlock" = some (some (.int 2 ttITEMS_unlock)))
    (eITEMS_choose : PySem.W.nsIn K itITEMS "choose" = some (some (.int 3 ttITEMS_choose)))
    : ∃ fd : FuncData, (∀ (s : Shared) (v : Value), BindsTo s fd ⟨[v], []⟩ [("_law_script", v)]) ∧ ∀ base : Heap, K.In base → base.Ns mainGlobals mg → FnOk l.prog w K mg base (L2.CX l.prog w) 18 fa fd ["_law_script"] (spLawR K) := by
  have e := hfa.symm.trans (PySem.W.mg_of X G a_law)
  cases e
  have E_NoMeasure : Ecl K mg "NoMeasure" "measure" C_NoMeasure f_NoMeasure___init__ := ⟨PySem.W.mg_of X G aNoMeasure, ⟨⟨_, _, _, _, _, _, _, _, _, _, _, _, _, _, _, xNoMeasure, ve_ok⟩, saNoMeasure, eNoMeasure, tNoMeasure, kcNoMeasure⟩, a_NoMeasure___init__, i_NoMeasure___init__, nfNoMeasure, ⟨gaNoMeasure, ggNoMeasure, eNoMeasure, hNoMeasure⟩, iNoMeasure, caNoMeasure, cn, ct, obNoMeasure, PySem.W.exm_ref eNoMeasure hNoMeasure tNoMeasure sNoMeasure_NoMeasure⟩
  have Cl_Script : Cls K C_Script := ⟨pgScript, hdScript, poScript, saScript⟩
  have Cl_Check : Cls K C_Check := ⟨pgCheck, hdCheck, poCheck, saCheck⟩
  have Cl_Kind : Cls K C_Kind := ⟨pgKind, hdKind, poKind, saKind⟩
  have Cl_System : Cls K C_System := ⟨pgSystem, hdSystem, poSystem, saSystem⟩
  have kgITEMS : ∀ z n, (z, n) ∈ items → KG K w itITEMS z (.int n) := by
    intro z n hm
    simp only [items, List.mem_cons, List.not_mem_nil, or_false, Prod.mk.injEq] at hm
    rcases hm with ⟨rfl, rfl⟩ | ⟨rfl, rfl⟩ | ⟨rfl, rfl⟩ | ⟨rfl, rfl⟩ | ⟨rfl, rfl⟩ | ⟨rfl, rfl⟩ | ⟨rfl, rfl⟩ | ⟨rfl, rfl⟩
    · exact ⟨⟨_, _, _, lkITEMS, klITEMS, eITEMS_take, ⟨_, rfl⟩⟩, smITEMS⟩
    · exact ⟨⟨_, _, _, lkITEMS, klITEMS, eITEMS_commit, ⟨_, rfl⟩⟩, smITEMS⟩
    · exact ⟨⟨_, _, _, lkITEMS, klITEMS, eITEMS_rollback, ⟨_, rfl⟩⟩, smITEMS⟩
    · exact ⟨⟨_, _, _, lkITEMS, klITEMS, eITEMS_drop, ⟨_, rfl⟩⟩, smITEMS⟩
    · exact ⟨⟨_, _, _, lkITEMS, klITEMS, eITEMS_leave, ⟨_, rfl⟩⟩, smITEMS⟩
    · exact ⟨⟨_, _, _, lkITEMS, klITEMS, eITEMS_lock, ⟨_, rfl⟩⟩, smITEMS⟩
    · exact ⟨⟨_, _, _, lkITEMS, klITEMS, eITEMS_unlock, ⟨_, rfl⟩⟩, smITEMS⟩
    · exact ⟨⟨_, _, _, lkITEMS, klITEMS, eITEMS_choose, ⟨_, rfl⟩⟩, smITEMS⟩
  have ATGFRESH_0 := at_tupK (Γ := (Gam C_Script C_Check C_Kind C_System C_NoMeasure)) (vs := [V.int 0]) lGFRESH_0 (by rw [eGFRESH_0]; simp) (by rw [eGFRESH_0]; exact (.cons (by exact ⟨_, rfl⟩) .nil)) fun c H j => (.cons ((.i 0)) .nil)
  have ATGFRESH_1 := at_tupK (Γ := (Gam C_Script C_Check C_Kind C_System C_NoMeasure)) (vs := []) lGFRESH_1 (by rw [eGFRESH_1]; simp) (by rw [eGFRESH_1]; exact .nil) fun c H j => .nil
  have ATGFRESH_2 := at_tupK (Γ := (Gam C_Script C_Check C_Kind C_System C_NoMeasure)) (vs := []) lGFRESH_2 (by rw [eGFRESH_2]; simp) (by rw [eGFRESH_2]; exact .nil) fun c H j => .nil
  have ATGFRESH_3 := at_tupK (Γ := (Gam C_Script C_Check C_Kind C_System C_NoMeasure)) (vs := []) lGFRESH_3 (by rw [eGFRESH_3]; simp) (by rw [eGFRESH_3]; exact .nil) fun c H j => .nil
  have ATGFRESH := at_tupK (Γ := (Gam C_Script C_Check C_Kind C_System C_NoMeasure)) (vs := [V.ref GFRESH_0, V.ref GFRESH_1, V.ref GFRESH_2, V.ref GFRESH_3]) lGFRESH (by rw [eGFRESH]; simp) (by rw [eGFRESH]; exact (.cons (by rfl) (.cons (by rfl) (.cons (by rfl) (.cons (by rfl) .nil))))) fun c H j => (.cons (ATGFRESH_0 c H j) (.cons (ATGFRESH_1 c H j) (.cons (ATGFRESH_2 c H j) (.cons (ATGFRESH_3 c H j) .nil))))
  have ATGEND := at_tupK (Γ := (Gam C_Script C_Check C_Kind C_System C_NoMeasure)) (vs := [V.str "end"]) lGEND (by rw [eGEND]; simp) (by rw [eGEND]; exact (.cons (by exact ⟨_, rfl⟩) .nil)) fun c H j => (.cons ((.s _)) .nil)
  have ATGMEASURES := at_tupK (Γ := (Gam C_Script C_Check C_Kind C_System C_NoMeasure)) (vs := [V.str "gap", V.str "late", V.str "spread"]) lGMEASURES (by rw [eGMEASURES]; simp) (by rw [eGMEASURES]; exact (.cons (by exact ⟨_, rfl⟩) (.cons (by exact ⟨_, rfl⟩) (.cons (by exact ⟨_, rfl⟩) .nil)))) fun c H j => (.cons ((.s _)) (.cons ((.s _)) (.cons ((.s _)) .nil)))
  have Wd : WdT w K (Gam C_Script C_Check C_Kind C_System C_NoMeasure) mg := ⟨PySem.W.mg_none_of X G z_all,
    PySem.W.mg_none_of X G z_bool,
    PySem.W.mg_none_of X G z_enumerate,
    PySem.W.mg_none_of X G z_int,
    PySem.W.mg_none_of X G z_isinstance,
    PySem.W.mg_none_of X G z_len,
    PySem.W.mg_none_of X G z_list,
    PySem.W.mg_none_of X G z_max,
    PySem.W.mg_none_of X G z_range,
    PySem.W.mg_none_of X G z_set,
    PySem.W.mg_none_of X G z_str,
    PySem.W.mg_none_of X G z_sum,
    PySem.W.mg_none_of X G z_tuple,
    ⟨C_Kind, PySem.W.mg_of X G aKind, ⟨fun a r h => by
      unfold kt_Kind at h
      split at h <;> (first | cases h) <;> (rename_i e; cases e) <;> (first | fail | skip), fun k r C h g => by
      unfold kt_Kind at h
      split at h <;> (first | cases h) <;> (rename_i e; cases e)
      have e := Option.some.inj (show some C_Kind = some C from g); subst e
      exact ⟨⟨Cl_Kind, caKind, cn, ct, obKind⟩, kit_me _⟩⟩⟩,
    ⟨C_Script, PySem.W.mg_of X G aScript, ⟨fun a r h => by
      unfold kt_Script at h
      split at h <;> (first | cases h) <;> (rename_i e; cases e) <;> (first | exact kit_no icScript tcScript uScript_tuple | skip), fun k r C h g => by
      unfold kt_Script at h
      split at h <;> (first | cases h) <;> (rename_i e; cases e)
      have e := Option.some.inj (show some C_Script = some C from g); subst e
      exact ⟨⟨Cl_Script, caScript, cn, ct, obScript⟩, kit_me _⟩⟩⟩,
    ⟨fun C h => by have e := Option.some.inj (show some C_Check = some C from h); subst e; exact ⟨Cl_Check, nCheck_found⟩, rfl, by show (gfs 2).Nodup; decide +kernel, by show (gfs 2).length < 1000; decide +kernel⟩,
    ⟨fun C h => by have e := Option.some.inj (show some C_Kind = some C from h); subst e; exact ⟨Cl_Kind, nKind_block⟩, rfl, by show (gfs 4).Nodup; decide +kernel, by show (gfs 4).length < 1000; decide +kernel⟩,
    ⟨fun C h => by have e := Option.some.inj (show some C_Kind = some C from h); subst e; exact ⟨Cl_Kind, nKind_many⟩, rfl, by show (gfs 4).Nodup; decide +kernel, by show (gfs 4).length < 1000; decide +kernel⟩,
    ⟨fun C h => by have e := Option.some.inj (show some C_Kind = some C from h); subst e; exact ⟨Cl_Kind, nKind_name⟩, rfl, by show (gfs 4).Nodup; decide +kernel, by show (gfs 4).length < 1000; decide +kernel⟩,
    ⟨fun C h => by have e := Option.some.inj (show some C_Kind = some C from h); subst e; exact ⟨Cl_Kind, nKind_script⟩, rfl, by show (gfs 4).Nodup; decide +kernel, by show (gfs 4).length < 1000; decide +kernel⟩,
    ⟨fun C h => by have e := Option.some.inj (show some C_Script = some C from h); subst e; exact ⟨Cl_Script, nScript_found⟩, rfl, by show (gfs 1).Nodup; decide +kernel, by show (gfs 1).length < 1000; decide +kernel⟩,
    ⟨fun C h => by have e := Option.some.inj (show some C_Script = some C from h); subst e; exact ⟨Cl_Script, nScript_places⟩, rfl, by show (gfs 1).Nodup; decide +kernel, by show (gfs 1).length < 1000; decide +kernel⟩,
    ⟨fun C h => by have e := Option.some.inj (show some C_Script = some C from h); subst e; exact ⟨Cl_Script, nScript_statements⟩, rfl, by show (gfs 1).Nodup; decide +kernel, by show (gfs 1).length < 1000; decide +kernel⟩,
    ⟨fun C h => by have e := Option.some.inj (show some C_System = some C from h); subst e; exact ⟨Cl_System, nSystem_ahead⟩, rfl, by show (gfs 5).Nodup; decide +kernel, by show (gfs 5).length < 1000; decide +kernel⟩,
    ⟨fun C h => by have e := Option.some.inj (show some C_System = some C from h); subst e; exact ⟨Cl_System, nSystem_crashes⟩, rfl, by show (gfs 5).Nodup; decide +kernel, by show (gfs 5).length < 1000; decide +kernel⟩,
    ⟨fun C h => by have e := Option.some.inj (show some C_System = some C from h); subst e; exact ⟨Cl_System, nSystem_kinds⟩, rfl, by show (gfs 5).Nodup; decide +kernel, by show (gfs 5).length < 1000; decide +kernel⟩,
    ⟨fun C h => by have e := Option.some.inj (show some C_System = some C from h); subst e; exact ⟨Cl_System, nSystem_sessions⟩, rfl, by show (gfs 5).Nodup; decide +kernel, by show (gfs 5).length < 1000; decide +kernel⟩,
    ⟨fun C h => by have e := Option.some.inj (show some C_System = some C from h); subst e; exact ⟨Cl_System, nSystem_window⟩, rfl, by show (gfs 5).Nodup; decide +kernel, by show (gfs 5).length < 1000; decide +kernel⟩,
    ⟨_, .ref GEND, PySem.W.mg_of X G v_END, rfl, fun c H j => ATGEND c H j⟩,
    ⟨_, .ref GFRESH, PySem.W.mg_of X G v_FRESH, rfl, fun c H j => ATGFRESH c H j⟩,
    gl_int (PySem.W.mg_of X G v_LONGEST_NAME),
    gl_int (PySem.W.mg_of X G v_LONGEST_OF_MANY),
    ⟨_, .ref GMEASURES, PySem.W.mg_of X G v_MEASURES, rfl, fun c H j => ATGMEASURES c H j⟩,
    gl_int (PySem.W.mg_of X G v_MOST_AHEAD),
    gl_int (PySem.W.mg_of X G v_MOST_BLOCK),
    gl_int (PySem.W.mg_of X G v_MOST_CRASHES),
    gl_int (PySem.W.mg_of X G v_MOST_HELD),
    gl_int (PySem.W.mg_of X G v_MOST_NESTED),
    gl_int (PySem.W.mg_of X G v_MOST_SESSIONS),
    gl_int (PySem.W.mg_of X G v_MOST_STATEMENTS),
    gl_int (PySem.W.mg_of X G v_MOST_WINDOW),
    ⟨_, PySem.W.mg_of X G v_ITEMS, ⟨_, _, lkITEMS⟩, fun z i h => kgITEMS z i (lookup_mem h)⟩,
    rfl,
    rfl,
    ⟨C_NoMeasure, rfl, ns_NoMeasure⟩,
    ⟨C_NoMeasure, PySem.W.mg_of X G aNoMeasure, fun k b C g h => by
      unfold mt_NoMeasure at h
      split at h <;> cases h <;> (have e := Option.some.inj g; subst e; first | exact PySem.W.exm_ref eNoMeasure hNoMeasure tNoMeasure sNoMeasure_NoMeasure)⟩,
    ⟨.ref C_TakeError, .ref C_TakeError, .inl (PySem.W.mg_of X G aTakeError), rfl, fun u h => h, fun C g => by have e := Option.some.inj g; subst e; exact kit_ref dNoMeasure_TakeError iTakeError tTakeError sNoMeasure_TakeError⟩,
    ⟨.ref C_TooMany, .ref C_TooMany, .inl (PySem.W.mg_of X G aTooMany), rfl, fun u h => h, fun C g => by have e := Option.some.inj g; subst e; exact kit_ref dNoMeasure_TooMany iTooMany tTooMany sNoMeasure_TooMany⟩⟩
  have F_is_integer := fun_mk (st := s_is_integer) l_is_integer c_is_integer k_is_integer
  have b_is_integer := F_is_integer.binds (ps := ["value"]) fun _ _ _ _ _ _ us hl => match us, hl with | [_], _ => rfl
  have F_is_within := fun_mk (st := s_is_within) l_is_within c_is_within k_is_within
  have b_is_within := F_is_within.binds (ps := ["value", "low", "high"]) fun _ _ _ _ _ _ us hl => match us, hl with | [_, _, _], _ => rfl
  have F_is_name := fun_mk (st := s_is_name) l_is_name c_is_name k_is_name
  have b_is_name := F_is_name.binds (ps := ["value"]) fun _ _ _ _ _ _ us hl => match us, hl with | [_], _ => rfl
  have F_held_after := fun_mk (st := s_held_after) l_held_after c_held_after k_held_after
  have b_held_after := F_held_after.binds (ps := ["word", "held"]) fun _ _ _ _ _ _ us hl => match us, hl with | [_, _], _ => rfl
  have F_has_form := fun_mk (st := s_has_form) l_has_form c_has_form k_has_form
  have b_has_form := F_has_form.binds (ps := ["statement"]) fun _ _ _ _ _ _ us hl => match us, hl with | [_], _ => rfl
  have F_fault_of := fun_mk (st := s_fault_of) l_fault_of c_fault_of k_fault_of
  have b_fault_of := F_fault_of.binds (ps := ["statement", "place", "earlier", "held"]) fun _ _ _ _ _ _ us hl => match us, hl with | [_, _, _, _], _ => rfl
  have F_script_of := fun_mk (st := s_script_of) l_script_of c_script_of k_script_of
  have b_script_of := F_script_of.binds (ps := ["script"]) fun _ _ _ _ _ _ us hl => match us, hl with | [_], _ => rfl
  have F_count_of_sessions := fun_mk (st := s_count_of_sessions) l_count_of_sessions c_count_of_sessions k_count_of_sessions
  have b_count_of_sessions := F_count_of_sessions.binds (ps := ["kinds"]) fun _ _ _ _ _ _ us hl => match us, hl with | [_], _ => rfl
  have F_are_kinds := fun_mk (st := s_are_kinds) l_are_kinds c_are_kinds k_are_kinds
  have b_are_kinds := F_are_kinds.binds (ps := ["kinds"]) fun _ _ _ _ _ _ us hl => match us, hl with | [_], _ => rfl
  have F_fault_of_system := fun_mk (st := s_fault_of_system) l_fault_of_system c_fault_of_system k_fault_of_system
  have b_fault_of_system := F_fault_of_system.binds (ps := ["kinds", "ahead", "window", "crashes"]) fun _ _ _ _ _ _ us hl => match us, hl with | [_, _, _, _], _ => rfl
  have F_is_measure := fun_mk (st := s_is_measure) l_is_measure c_is_measure k_is_measure
  have b_is_measure := F_is_measure.binds (ps := ["value"]) fun _ _ _ _ _ _ us hl => match us, hl with | [_], _ => rfl
  have F_check_measure := fun_mk (st := s_check_measure) l_check_measure c_check_measure k_check_measure
  have b_check_measure := F_check_measure.binds (ps := ["measure"]) fun _ _ _ _ _ _ us hl => match us, hl with | [_], _ => rfl
  have F_fresh_sessions := fun_mk (st := s_fresh_sessions) l_fresh_sessions c_fresh_sessions k_fresh_sessions
  have b_fresh_sessions := F_fresh_sessions.binds (ps := ["system"]) fun _ _ _ _ _ _ us hl => match us, hl with | [_], _ => rfl
  have F_start := fun_mk (st := s_start) l_start c_start k_start
  have b_start := F_start.binds (ps := ["system", "measure"]) fun _ _ _ _ _ _ us hl => match us, hl with | [_, _], _ => rfl
  have F_steps := fun_mk (st := s_steps) l_steps c_steps k_steps
  have b_steps := F_steps.binds (ps := ["system", "measure", "state"]) fun _ _ _ _ _ _ us hl => match us, hl with | [_, _, _], _ => rfl
  have F_reach := fun_mk (st := s_reach) l_reach c_reach k_reach
  have b_reach := F_reach.binds (ps := ["system", "measure"]) fun _ _ _ _ _ _ us hl => match us, hl with | [_, _], _ => rfl
  have F__law_pool := fun_mk (st := s__law_pool) l__law_pool c__law_pool k__law_pool
  have b__law_pool := F__law_pool.binds (ps := ["_law_script", "_law_k"]) fun _ _ _ _ _ _ us hl => match us, hl with | [_, _], _ => rfl
  have F__law_draw := fun_mk (st := s__law_draw) l__law_draw c__law_draw k__law_draw
  have b__law_draw := F__law_draw.binds (ps := ["_law_pool_here", "_law_amount"]) fun _ _ _ _ _ _ us hl => match us, hl with | [_, _], _ => rfl
  have F__law_names := fun_mk (st := s__law_names) l__law_names c__law_names k__law_names
  have b__law_names := F__law_names.binds (ps := ["_law_pool_here"]) fun _ _ _ _ _ _ us hl => match us, hl with | [_], _ => rfl
  have F__law_simple := fun_mk (st := s__law_simple) l__law_simple c__law_simple k__law_simple
  have b__law_simple := F__law_simple.binds (ps := ["_law_pool_here", "_law_box", "_law_names_here"]) fun _ _ _ _ _ _ us hl => match us, hl with | [_, _, _], _ => rfl
  have F__law_branch := fun_mk (st := s__law_branch) l__law_branch c__law_branch k__law_branch
  have b__law_branch := F__law_branch.binds (ps := ["_law_pool_here", "_law_box", "_law_names_here", "_law_length", "_law_depth"]) fun _ _ _ _ _ _ us hl => match us, hl with | [_, _, _, _, _], _ => rfl
  have F__law_build := fun_mk (st := s__law_build) l__law_build c__law_build k__law_build
  have b__law_build := F__law_build.binds (ps := ["_law_pool_here", "_law_cap"]) fun _ _ _ _ _ _ us hl => match us, hl with | [_, _], _ => rfl
  have F__law_system := fun_mk (st := s__law_system) l__law_system c__law_system k__law_system
  have b__law_system := F__law_system.binds (ps := ["_law_built"]) fun _ _ _ _ _ _ us hl => match us, hl with | [_], _ => rfl
  have F__law_refused := fun_mk (st := s__law_refused) l__law_refused c__law_refused k__law_refused
  have b__law_refused := F__law_refused.binds (ps := ["_law_system_here", "_law_which", "_law_measure"]) fun _ _ _ _ _ _ us hl => match us, hl with | [_, _, _], _ => rfl
  have F_law := fun_mk (st := s_law) l_law c_law k_law
  have F_Check___init__ := fun_mk (st := s_Check___init__) l_Check___init__ c_Check___init__ k_Check___init__
  have b_Check___init__ := F_Check___init__.binds (ps := ["self"]) fun _ _ _ _ _ _ us hl => match us, hl with | [_], _ => rfl
  have F_Check_check_branch := fun_mk (st := s_Check_check_branch) l_Check_check_branch c_Check_check_branch k_Check_check_branch
  have b_Check_check_branch := F_Check_check_branch.binds (ps := ["self", "branch", "above", "held"]) fun _ _ _ _ _ _ us hl => match us, hl with | [_, _, _, _], _ => rfl
  have F_Check_check_statement := fun_mk (st := s_Check_check_statement) l_Check_check_statement c_Check_check_statement k_Check_check_statement
  have b_Check_check_statement := F_Check_check_statement.binds (ps := ["self", "statement", "place", "held"]) fun _ _ _ _ _ _ us hl => match us, hl with | [_, _, _, _], _ => rfl
  have F_Script___init__ := fun_mk (st := s_Script___init__) l_Script___init__ c_Script___init__ k_Script___init__
  have b_Script___init__ := F_Script___init__.binds (ps := ["self", "statements"]) fun _ _ _ _ _ _ us hl => match us, hl with | [_, _], _ => rfl
  have F_Script___len__ := fun_mk (st := s_Script___len__) l_Script___len__ c_Script___len__ k_Script___len__
  have b_Script___len__ := F_Script___len__.binds (ps := ["self"]) fun _ _ _ _ _ _ us hl => match us, hl with | [_], _ => rfl
  have F_explored := fun_mk (st := s_explored) l_explored c_explored k_explored
  have b_explored := F_explored.binds (ps := ["system", "measure"]) fun _ _ _ _ _ _ us hl => match us, hl with | [_, _], _ => rfl
  have F_reached := fun_mk (st := s_reached) l_reached c_reached k_reached
  have b_reached := F_reached.binds (ps := ["system", "measure"]) fun _ _ _ _ _ _ us hl => match us, hl with | [_, _], _ => rfl
  have F_Kind___init__ : FunD K "__init__" "Kind.__init__" (defArgs s_Kind___init__) (defBody s_Kind___init__) (defScope s_Kind___init__) [] [("block", .int (1)), ("many", .int (1))] f_Kind___init__ _ := ⟨⟨_, _, _, _, _, _, _, _, _, _, rfl, l_Kind___init__, c_Kind___init__, .inl ⟨rfl, rfl⟩, .inr ⟨KD_Kind, rfl, fun q hq => by
    simp only [List.mem_cons, List.not_mem_nil, or_false] at hq
    rcases hq with rfl | rfl
    · exact ⟨_, kdKind_block, ⟨_, rfl⟩⟩
    · exact ⟨_, kdKind_many, ⟨_, rfl⟩⟩⟩⟩, k_Kind___init__⟩
  refine ⟨PySem.W.fnOf "law" "law" (defArgs s_law) (defBody s_law) (defScope s_law) .none kV_law dc_law pm_law an_law cd_law ct_law, fun s v => .of_eq rfl, fun base _ _ => ?_⟩
  have F_NoMeasure___init__ := fun_mk (st := s_NoMeasure___init__) l_NoMeasure___init__ c_NoMeasure___init__ k_NoMeasure___init__
  have b_NoMeasure___init__ := F_NoMeasure___init__.binds (ps := ["self", "measure"]) fun _ _ _ _ _ _ us hl => match us, hl with | [_, _], _ => rfl
  have X_NoMeasure : Xk l.prog w K mg base (Gam C_Script C_Check C_Kind C_System C_NoMeasure) 8 "NoMeasure" "measure" := ⟨C_NoMeasure, f_NoMeasure___init__, _, rfl, rfl, E_NoMeasure, xi_NoMeasure F_NoMeasure___init__ E_NoMeasure, b_NoMeasure___init__⟩
  have G_is_integer : Df l.prog w K mg base (Gam C_Script C_Check C_Kind C_System C_NoMeasure) "is_integer" 1 m_is_integer := ⟨f_is_integer, _, _, (ok_is_integer (P := l.prog) (base := base) Wd  F_is_integer), b_is_integer, k_is_integer, PySem.W.mg_of X G a_is_integer⟩
  have G_is_within : Df l.prog w K mg base (Gam C_Script C_Check C_Kind C_System C_NoMeasure) "is_within" 2 m_is_within := ⟨f_is_within, _, _, (ok_is_within (P := l.prog) (base := base) Wd G_is_integer F_is_within), b_is_within, k_is_within, PySem.W.mg_of X G a_is_within⟩
  have G_is_name : Df l.prog w K mg base (Gam C_Script C_Check C_Kind C_System C_NoMeasure) "is_name" 1 m_is_name := ⟨f_is_name, _, _, (ok_is_name (P := l.prog) (base := base) Wd  F_is_name), b_is_name, k_is_name, PySem.W.mg_of X G a_is_name⟩
  have G_held_after : Df l.prog w K mg base (Gam C_Script C_Check C_Kind C_System C_NoMeasure) "held_after" 1 m_held_after := ⟨f_held_after, _, _, (ok_held_after (P := l.prog) (base := base) Wd  F_held_after), b_held_after, k_held_after, PySem.W.mg_of X G a_held_after⟩
  have G_has_form : Df l.prog w K mg base (Gam C_Script C_Check C_Kind C_System C_NoMeasure) "has_form" 1 m_has_form := ⟨f_has_form, _, _, (ok_has_form (P := l.prog) (base := base) Wd  F_has_form), b_has_form, k_has_form, PySem.W.mg_of X G a_has_form⟩
  have G_fault_of : Df l.prog w K mg base (Gam C_Script C_Check C_Kind C_System C_NoMeasure) "fault_of" 2 m_fault_of := ⟨f_fault_of, _, _, (ok_fault_of (P := l.prog) (base := base) Wd G_has_form G_is_name F_fault_of), b_fault_of, k_fault_of, PySem.W.mg_of X G a_fault_of⟩
  have K_Check : Dk l.prog w K mg base (Gam C_Script C_Check C_Kind C_System C_NoMeasure) 2 "Check" 1 m_Check___init__ := ⟨C_Check, f_Check___init__, _, _, rfl, PySem.W.mg_of X G aCheck, ⟨mkCheck, a_Check___init__, i_Check___init__, kcCheck⟩, (ok_Check___init__ (P := l.prog) (base := base) Wd  F_Check___init__), b_Check___init__⟩
  have GC := checksR (P := l.prog) (base := base) (Γ := (Gam C_Script C_Check C_Kind C_System C_NoMeasure)) Wd G_fault_of G_held_after F_Check_check_branch F_Check_check_statement b_Check_check_branch b_Check_check_statement rfl Cl_Check ⟨a_Check_check_branch, i_Check_check_branch, k_Check_check_branch⟩ ⟨a_Check_check_statement, i_Check_check_statement, k_Check_check_statement⟩ (by show _ ∉ gfs 2; decide +kernel) (by show _ ∉ gfs 2; decide +kernel) 6
  have G_Check_check_branch : Dm l.prog w K mg base (Gam C_Script C_Check C_Kind C_System C_NoMeasure) 2 "check_branch" 11 m_Check_check_branch := GC.1
  have G_Check_check_statement := GC.2
  have K_Script : Dk l.prog w K mg base (Gam C_Script C_Check C_Kind C_System C_NoMeasure) 1 "Script" 12 m_Script___init__ := ⟨C_Script, f_Script___init__, _, _, rfl, PySem.W.mg_of X G aScript, ⟨mkScript, a_Script___init__, i_Script___init__, kcScript⟩, (ok_Script___init__ (P := l.prog) (base := base) Wd G_Check_check_branch K_Check F_Script___init__), b_Script___init__⟩
  have O_Script___len__ : Dn' l.prog w K mg base (Gam C_Script C_Check C_Kind C_System C_NoMeasure) 1 "__len__" 1 m_Script___len__ := ⟨C_Script, f_Script___len__, _, _, rfl, ⟨a_Script___len__, i_Script___len__⟩, fg_Script___len__, (ok_Script___len__ (P := l.prog) (base := base) Wd  F_Script___len__), b_Script___len__⟩
  have G_script_of : Df l.prog w K mg base (Gam C_Script C_Check C_Kind C_System C_NoMeasure) "script_of" 14 m_script_of := ⟨f_script_of, _, _, (ok_script_of (P := l.prog) (base := base) Wd K_Script F_script_of), b_script_of, k_script_of, PySem.W.mg_of X G a_script_of⟩
  have K_Kind : Dkk l.prog w K mg base (Gam C_Script C_Check C_Kind C_System C_NoMeasure) 4 "Kind" 15 m_Kind___init__ 2 ["block", "many"] gKind := kind_kk Wd G_is_name G_is_within G_script_of F_Kind___init__ rfl (PySem.W.mg_of X G aKind) ⟨mkKind, a_Kind___init__, i_Kind___init__, kcKind⟩
  have G_count_of_sessions : Df l.prog w K mg base (Gam C_Script C_Check C_Kind C_System C_NoMeasure) "count_of_sessions" 1 m_count_of_sessions := ⟨f_count_of_sessions, _, _, (ok_count_of_sessions (P := l.prog) (base := base) Wd  F_count_of_sessions), b_count_of_sessions, k_count_of_sessions, PySem.W.mg_of X G a_count_of_sessions⟩
  have G_are_kinds : Df l.prog w K mg base (Gam C_Script C_Check C_Kind C_System C_NoMeasure) "are_kinds" 2 m_are_kinds := ⟨f_are_kinds, _, _, (ok_are_kinds (P := l.prog) (base := base) Wd G_count_of_sessions F_are_kinds), b_are_kinds, k_are_kinds, PySem.W.mg_of X G a_are_kinds⟩
  have G_fault_of_system : Df l.prog w K mg base (Gam C_Script C_Check C_Kind C_System C_NoMeasure) "fault_of_system" 3 m_fault_of_system := ⟨f_fault_of_system, _, _, (ok_fault_of_system (P := l.prog) (base := base) Wd G_are_kinds G_count_of_sessions G_is_within O_Script___len__ F_fault_of_system), b_fault_of_system, k_fault_of_system, PySem.W.mg_of X G a_fault_of_system⟩
  have K_System : Dks l.prog w K mg base (Gam C_Script C_Check C_Kind C_System C_NoMeasure) 5 "System" 4 m_System___init__ ["ahead", "window", "crashes"] gSystem := sys_ks Wd G_fault_of_system l_System___init__ c_System___init__ rfl (PySem.W.mg_of X G aSystem) ⟨mkSystem, a_System___init__, i_System___init__, kcSystem⟩
  have G_is_measure : Df l.prog w K mg base (Gam C_Script C_Check C_Kind C_System C_NoMeasure) "is_measure" 1 m_is_measure := ⟨f_is_measure, _, _, (ok_is_measure (P := l.prog) (base := base) Wd  F_is_measure), b_is_measure, k_is_measure, PySem.W.mg_of X G a_is_measure⟩
  have G_check_measure : Df l.prog w K mg base (Gam C_Script C_Check C_Kind C_System C_NoMeasure) "check_measure" 3 m_check_measure := ⟨f_check_measure, _, _, (ok_check_measure (P := l.prog) (base := base) Wd G_is_measure X_NoMeasure F_check_measure), b_check_measure, k_check_measure, PySem.W.mg_of X G a_check_measure⟩
  have G_fresh_sessions : Df l.prog w K mg base (Gam C_Script C_Check C_Kind C_System C_NoMeasure) "fresh_sessions" 1 m_fresh_sessions := ⟨f_fresh_sessions, _, _, (ok_fresh_sessions (P := l.prog) (base := base) Wd  F_fresh_sessions), b_fresh_sessions, k_fresh_sessions, PySem.W.mg_of X G a_fresh_sessions⟩
  have G_start : Df l.prog w K mg base (Gam C_Script C_Check C_Kind C_System C_NoMeasure) "start" 4 m_start := ⟨f_start, _, _, (ok_start (P := l.prog) (base := base) Wd G_check_measure G_fresh_sessions F_start), b_start, k_start, PySem.W.mg_of X G a_start⟩
  have GG_explored : DgX l.prog w K mg base (Gam C_Script C_Check C_Kind C_System C_NoMeasure) "explored" 5 m_start 8 := ⟨f_explored, _, _, gx_explored (P := l.prog) (base := base) G_start F_explored, b_explored, k_explored, PySem.W.mg_of X G a_explored⟩
  have G_reached : Dg l.prog w K mg base (Gam C_Script C_Check C_Kind C_System C_NoMeasure) "reached" 9 m_start 8 := ⟨f_reached, _, _, gx_reached (P := l.prog) (base := base) GG_explored Wd.s_NoMeasure F_reached, b_reached, k_reached, PySem.W.mg_of X G a_reached⟩
  have G_steps : Df l.prog w K mg base (Gam C_Script C_Check C_Kind C_System C_NoMeasure) "steps" 4 m_steps := ⟨f_steps, _, _, (ok_steps (P := l.prog) (base := base) Wd G_check_measure F_steps), b_steps, k_steps, PySem.W.mg_of X G a_steps⟩
  have G_reach : Df l.prog w K mg base (Gam C_Script C_Check C_Kind C_System C_NoMeasure) "reach" 13 m_reach := ⟨f_reach, _, _, (ok_reach (P := l.prog) (base := base) Wd G_reached F_reach), b_reach, k_reach, PySem.W.mg_of X G a_reach⟩
  have G__law_pool : Df l.prog w K mg base (Gam C_Script C_Check C_Kind C_System C_NoMeasure) "_law_pool" 1 m__law_pool := ⟨f__law_pool, _, _, (ok__law_pool (P := l.prog) (base := base) Wd  F__law_pool), b__law_pool, k__law_pool, PySem.W.mg_of X G a__law_pool⟩
  have G__law_draw : Df l.prog w K mg base (Gam C_Script C_Check C_Kind C_System C_NoMeasure) "_law_draw" 1 m__law_draw := ⟨f__law_draw, _, _, (ok__law_draw (P := l.prog) (base := base) Wd  F__law_draw), b__law_draw, k__law_draw, PySem.W.mg_of X G a__law_draw⟩
  have G__law_names : Df l.prog w K mg base (Gam C_Script C_Check C_Kind C_System C_NoMeasure) "_law_names" 2 m__law_names := ⟨f__law_names, _, _, (ok__law_names (P := l.prog) (base := base) Wd G__law_draw F__law_names), b__law_names, k__law_names, PySem.W.mg_of X G a__law_names⟩
  have G__law_simple : Df l.prog w K mg base (Gam C_Script C_Check C_Kind C_System C_NoMeasure) "_law_simple" 2 m__law_simple := ⟨f__law_simple, _, _, (ok__law_simple (P := l.prog) (base := base) Wd G__law_draw F__law_simple), b__law_simple, k__law_simple, PySem.W.mg_of X G a__law_simple⟩
  have G__law_branch : Df l.prog w K mg base (Gam C_Script C_Check C_Kind C_System C_NoMeasure) "_law_branch" 5 m__law_branch := branchR (P := l.prog) (base := base) (Γ := (Gam C_Script C_Check C_Kind C_System C_NoMeasure)) Wd G__law_draw G__law_simple F__law_branch b__law_branch k__law_branch (PySem.W.mg_of X G a__law_branch) 3
  have G__law_build : Df l.prog w K mg base (Gam C_Script C_Check C_Kind C_System C_NoMeasure) "_law_build" 6 m__law_build := ⟨f__law_build, _, _, (ok__law_build (P := l.prog) (base := base) Wd G__law_branch G__law_draw G__law_names F__law_build), b__law_build, k__law_build, PySem.W.mg_of X G a__law_build⟩
  have G__law_system : Df l.prog w K mg base (Gam C_Script C_Check C_Kind C_System C_NoMeasure) "_law_system" 17 m__law_system := ⟨f__law_system, _, _, (ok__law_system (P := l.prog) (base := base) Wd K_Kind K_System F__law_system), b__law_system, k__law_system, PySem.W.mg_of X G a__law_system⟩
  have G__law_refused : Df l.prog w K mg base (Gam C_Script C_Check C_Kind C_System C_NoMeasure) "_law_refused" 14 m__law_refused := ⟨f__law_refused, _, _, (ok__law_refused (P := l.prog) (base := base) Wd G_reach G_reached G_start G_steps X_NoMeasure F__law_refused), b__law_refused, k__law_refused, PySem.W.mg_of X G a__law_refused⟩
  exact law_fn (by rfl) (ok_law (P := l.prog) (base := base) Wd G__law_build G__law_draw G__law_pool G__law_refused G__law_system G_start G_steps F_law)
end Mm
open PySem PySem.W PyProof.Rows
def PySem.W.Fast.tw5925732385066711456 : Nat := 0
def PySem.W.Fast.tw8597253994580083136 : Nat := 0
def PySem.W.Fast.tw5371702039055092548 : Nat := 0
def PySem.W.Fast.tw5954802237765543045 : Nat := 0
def PySem.W.Fast.tw5155383321758656454 : Nat := 0
def PySem.W.Fast.tw2685298100570811719 : Nat := 0
def PySem.W.Fast.tw11759557744095104296 : Nat := 0
def PySem.W.Fast.tw7485893731896336970 : Nat := 0
def PySem.W.Fast.tw16508815384033081962 : Nat := 0
def PySem.W.Fast.tw11933248693773331306 : Nat := 0
def PySem.W.Fast.tw10132794063314252429 : Nat := 0
def PySem.W.Fast.tw73888882649351663 : Nat := 0
def PySem.W.Fast.tw1603613898388692273 : Nat := 0
def PySem.W.Fast.tw12736159087513872849 : Nat := 0
def PySem.W.Fast.tw10800785396157934225 : Nat := 0
def PySem.W.Fast.tw15175726206225118387 : Nat := 0
def PySem.W.Fast.tw8447905761228317237 : Nat := 0
def PySem.W.Fast.tw5339696115739212629 : Nat := 0
def PySem.W.Fast.tw13282803702652086073 : Nat := 0
def PySem.W.Fast.tw6289519984294974874 : Nat := 0
def PySem.W.Fast.tw7770360762678789882 : Nat := 0
def PySem.W.Fast.tw5163877037828151515 : Nat := 0
def PySem.W.Fast.tw7080044320735381277 : Nat := 0
def PySem.W.Fast.tw16117585505657830335 : Nat := 0
set_option maxRecDepth 100000 in
set_option maxHeartbeats 0 in
theorem PySem.Challenge.cw_takenahead_k24_start_and_measures_holds : PySem.Challenge.rw_takenahead_k24_start_and_measures.Holds := by
  w_on; o_law; k_head; (case hw => w_witness2)
  k_fill
  refine Mm.walkR (l := PySem.Challenge.rw_takenahead_k24_start_and_measures) rfl rfl (fun w h Y => PySem.W.kIn_of Y) ?F
  case F =>
    intro w mg fa h KX G hmg
    refine' Mm.all_mk KX G hmg ?aTakeError ?iTakeError ?tTakeError ?aTooMany ?iTooMany ?tTooMany ?aScript ?pgScript ?hdScript ?poScript ?saScript ?mkScript ?kcScript ?nScript_found ?nScript_places ?nScript_statements ?aCheck ?pgCheck ?hdCheck ?poCheck ?saCheck ?mkCheck ?kcCheck ?nCheck_found ?aKind ?pgKind ?hdKind ?poKind ?saKind ?mkKind ?kcKind ?nKind_block ?nKind_many ?nKind_name ?nKind_script ?aSystem ?pgSystem ?hdSystem ?poSystem ?saSystem ?mkSystem ?kcSystem ?nSystem_ahead ?nSystem_crashes ?nSystem_kinds ?nSystem_sessions ?nSystem_window ?aNoMeasure ?xNoMeasure ?saNoMeasure ?gaNoMeasure ?ggNoMeasure ?nfNoMeasure ?eNoMeasure ?tNoMeasure ?hNoMeasure ?kcNoMeasure ?caNoMeasure ?obNoMeasure ?iNoMeasure ?sNoMeasure_NoMeasure ?sNoMeasure_TakeError ?dNoMeasure_TakeError ?sNoMeasure_TooMany ?dNoMeasure_TooMany ?cn ?ct ?caScript ?obScript ?icScript ?tcScript ?uScript_tuple ?caKind ?obKind ?icKind ?tcKind ?a_NoMeasure___init__ ?i_NoMeasure___init__ ?l_NoMeasure___init__ ?c_NoMeasure___init__ ?k_NoMeasure___init__ ?a_is_integer ?l_is_integer ?c_is_integer ?k_is_integer ?a_is_within ?l_is_within ?c_is_within ?k_is_within ?a_is_name ?l_is_name ?c_is_name ?k_is_name ?a_held_after ?l_held_after ?c_held_after ?k_held_after ?a_has_form ?l_has_form ?c_has_form ?k_has_form ?a_fault_of ?l_fault_of ?c_fault_of ?k_fault_of ?a_script_of ?l_script_of ?c_script_of ?k_script_of ?a_count_of_sessions ?l_count_of_sessions ?c_count_of_sessions ?k_count_of_sessions ?a_are_kinds ?l_are_kinds ?c_are_kinds ?k_are_kinds ?a_fault_of_system ?l_fault_of_system ?c_fault_of_system ?k_fault_of_system ?a_is_measure ?l_is_measure ?c_is_measure ?k_is_measure ?a_check_measure ?l_check_measure ?c_check_measure ?k_check_measure ?a_fresh_sessions ?l_fresh_sessions ?c_fresh_sessions ?k_fresh_sessions ?a_start ?l_start ?c_start ?k_start ?a_steps ?l_steps ?c_steps ?k_steps ?a_reach ?l_reach ?c_reach ?k_reach ?a__law_pool ?l__law_pool ?c__law_pool ?k__law_pool ?a__law_draw ?l__law_draw ?c__law_draw ?k__law_draw ?a__law_names ?l__law_names ?c__law_names ?k__law_names ?a__law_simple ?l__law_simple ?c__law_simple ?k__law_simple ?a__law_branch ?l__law_branch ?c__law_branch ?k__law_branch ?a__law_build ?l__law_build ?c__law_build ?k__law_build ?a__law_system ?l__law_system ?c__law_system ?k__law_system ?a__law_refused ?l__law_refused ?c__law_refused ?k__law_refused ?a_law ?l_law ?c_law ?k_law ?a_explored ?l_explored ?c_explored ?k_explored ?a_reached ?l_reached ?c_reached ?k_reached ?ns_NoMeasure ?a_Check___init__ ?i_Check___init__ ?l_Check___init__ ?c_Check___init__ ?k_Check___init__ ?a_Check_check_branch ?i_Check_check_branch ?l_Check_check_branch ?c_Check_check_branch ?k_Check_check_branch ?a_Check_check_statement ?i_Check_check_statement ?l_Check_check_statement ?c_Check_check_statement ?k_Check_check_statement ?a_Script___init__ ?i_Script___init__ ?l_Script___init__ ?c_Script___init__ ?k_Script___init__ ?a_Script___len__ ?i_Script___len__ ?l_Script___len__ ?c_Script___len__ ?k_Script___len__ ?fg_Script___len__ ?a_Kind___init__ ?i_Kind___init__ ?l_Kind___init__ ?c_Kind___init__ ?k_Kind___init__ ?a_System___init__ ?i_System___init__ ?l_System___init__ ?c_System___init__ ?k_System___init__ ?kdKind_block ?kdKind_many ?kdSystem_ahead ?kdSystem_window ?kdSystem_crashes ?z_all ?z_bool ?z_enumerate ?z_int ?z_isinstance ?z_len ?z_list ?z_max ?z_range ?z_set ?z_str ?z_sum ?z_tuple ?v_LONGEST_NAME ?v_LONGEST_OF_MANY ?v_MOST_AHEAD ?v_MOST_BLOCK ?v_MOST_CRASHES ?v_MOST_HELD ?v_MOST_NESTED ?v_MOST_SESSIONS ?v_MOST_STATEMENTS ?v_MOST_WINDOW ?v_FRESH ?lGFRESH ?eGFRESH ?lGFRESH_0 ?eGFRESH_0 ?lGFRESH_1 ?eGFRESH_1 ?lGFRESH_2 ?eGFRESH_2 ?lGFRESH_3 ?eGFRESH_3 ?v_END ?lGEND ?eGEND ?v_MEASURES ?lGMEASURES ?eGMEASURES ?v_ITEMS ?lkITEMS ?klITEMS ?smITEMS ?eITEMS_take ?eITEMS_commit ?eITEMS_rollback ?eITEMS_drop ?eITEMS_leave ?eITEMS_lock ?eITEMS_unlock ?eITEMS_choose
    (case aNoMeasure => k_is)
    (case aTakeError => k_is)
    (case iTakeError => k_is)
    (case tTakeError => k_is)
    (case aTooMany => k_is)
    (case iTooMany => k_is)
    (case tTooMany => k_is)
    (case aScript => k_is)
    (case pgScript => k_is)
    (case hdScript => k_is)
    (case poScript => k_is)
    (case saScript => k_is)
    (case mkScript => k_is)
    (case kcScript => k_is)
    (case nScript_found => k_is)
    (case nScript_places => k_is)
    (case nScript_statements => k_is)
    (case aCheck => k_is)
    (case pgCheck => k_is)
    (case hdCheck => k_is)
    (case poCheck => k_is)
    (case saCheck => k_is)
    (case mkCheck => k_is)
    (case kcCheck => k_is)
    (case nCheck_found => k_is)
    (case aKind => k_is)
    (case pgKind => k_is)
    (case hdKind => k_is)
    (case poKind => k_is)
    (case saKind => k_is)
    (case mkKind => k_is)
    (case kcKind => k_is)
    (case nKind_block => k_is)
    (case nKind_many => k_is)
    (case nKind_name => k_is)
    (case nKind_script => k_is)
    (case aSystem => k_is)
    (case pgSystem => k_is)
    (case hdSystem => k_is)
    (case poSystem => k_is)
    (case saSystem => k_is)
    (case mkSystem => k_is)
    (case kcSystem => k_is)
    (case nSystem_ahead => k_is)
    (case nSystem_crashes => k_is)
    (case nSystem_kinds => k_is)
    (case nSystem_sessions => k_is)
    (case nSystem_window => k_is)
    (case xNoMeasure => k_is)
    (case saNoMeasure => k_is)
    (case gaNoMeasure => k_is)
    (case ggNoMeasure => k_is)
    (case nfNoMeasure => k_is)
    (case eNoMeasure => k_is)
    (case tNoMeasure => k_is)
    (case hNoMeasure => k_is)
    (case kcNoMeasure => k_is)
    (case caNoMeasure => k_is)
    (case obNoMeasure => k_is)
    (case iNoMeasure => k_is)
    (case sNoMeasure_NoMeasure => k_is)
    (case sNoMeasure_TakeError => k_is)
    (case dNoMeasure_TakeError => (first | rfl | decide))
    (case sNoMeasure_TooMany => k_is)
    (case dNoMeasure_TooMany => (first | rfl | decide))
    (case cn => k_is)
    (case ct => k_is)
    (case caScript => k_is)
    (case obScript => k_is)
    (case icScript => k_is)
    (case tcScript => k_is)
    (case uScript_tuple => k_is)
    (case caKind => k_is)
    (case obKind => k_is)
    (case icKind => k_is)
    (case tcKind => k_is)
    (case a_NoMeasure___init__ => k_is)
    (case i_NoMeasure___init__ => k_is)
    (case l_NoMeasure___init__ => k_is)
    (case c_NoMeasure___init__ => k_is)
    (case k_NoMeasure___init__ => k_is)
    (case a_is_integer => k_is)
    (case l_is_integer => k_is)
    (case c_is_integer => k_is)
    (case k_is_integer => k_is)
    (case a_is_within => k_is)
    (case l_is_within => k_is)
    (case c_is_within => k_is)
    (case k_is_within => k_is)
    (case a_is_name => k_is)
    (case l_is_name => k_is)
    (case c_is_name => k_is)
    (case k_is_name => k_is)
    (case a_held_after => k_is)
    (case l_held_after => k_is)
    (case c_held_after => k_is)
    (case k_held_after => k_is)
    (case a_has_form => k_is)
    (case l_has_form => k_is)
    (case c_has_form => k_is)
    (case k_has_form => k_is)
    (case a_fault_of => k_is)
    (case l_fault_of => k_is)
    (case c_fault_of => k_is)
    (case k_fault_of => k_is)
    (case a_script_of => k_is)
    (case l_script_of => k_is)
    (case c_script_of => k_is)
    (case k_script_of => k_is)
    (case a_count_of_sessions => k_is)
    (case l_count_of_sessions => k_is)
    (case c_count_of_sessions => k_is)
    (case k_count_of_sessions => k_is)
    (case a_are_kinds => k_is)
    (case l_are_kinds => k_is)
    (case c_are_kinds => k_is)
    (case k_are_kinds => k_is)
    (case a_fault_of_system => k_is)
    (case l_fault_of_system => k_is)
    (case c_fault_of_system => k_is)
    (case k_fault_of_system => k_is)
    (case a_is_measure => k_is)
    (case l_is_measure => k_is)
    (case c_is_measure => k_is)
    (case k_is_measure => k_is)
    (case a_check_measure => k_is)
    (case l_check_measure => k_is)
    (case c_check_measure => k_is)
    (case k_check_measure => k_is)
    (case a_fresh_sessions => k_is)
    (case l_fresh_sessions => k_is)
    (case c_fresh_sessions => k_is)
    (case k_fresh_sessions => k_is)
    (case a_start => k_is)
    (case l_start => k_is)
    (case c_start => k_is)
    (case k_start => k_is)
    (case a_steps => k_is)
    (case l_steps => k_is)
    (case c_steps => k_is)
    (case k_steps => k_is)
    (case a_reach => k_is)
    (case l_reach => k_is)
    (case c_reach => k_is)
    (case k_reach => k_is)
    (case a__law_pool => k_is)
    (case l__law_pool => k_is)
    (case c__law_pool => k_is)
    (case k__law_pool => k_is)
    (case a__law_draw => k_is)
    (case l__law_draw => k_is)
    (case c__law_draw => k_is)
    (case k__law_draw => k_is)
    (case a__law_names => k_is)
    (case l__law_names => k_is)
    (case c__law_names => k_is)
    (case k__law_names => k_is)
    (case a__law_simple => k_is)
    (case l__law_simple => k_is)
    (case c__law_simple => k_is)
    (case k__law_simple => k_is)
    (case a__law_branch => k_is)
    (case l__law_branch => k_is)
    (case c__law_branch => k_is)
    (case k__law_branch => k_is)
    (case a__law_build => k_is)
    (case l__law_build => k_is)
    (case c__law_build => k_is)
    (case k__law_build => k_is)
    (case a__law_system => k_is)
    (case l__law_system => k_is)
    (case c__law_system => k_is)
    (case k__law_system => k_is)
    (case a__law_refused => k_is)
    (case l__law_refused => k_is)
    (case c__law_refused => k_is)
    (case k__law_refused => k_is)
    (case a_law => k_is)
    (case l_law => k_is)
    (case c_law => k_is)
    (case k_law => k_is)
    (case a_explored => k_is)
    (case l_explored => k_is)
    (case c_explored => k_is)
    (case k_explored => k_is)
    (case a_reached => k_is)
    (case l_reached => k_is)
    (case c_reached => k_is)
    (case k_reached => k_is)
    (case ns_NoMeasure => k_is)
    (case a_Check___init__ => k_is)
    (case i_Check___init__ => k_is)
    (case l_Check___init__ => k_is)
    (case c_Check___init__ => k_is)
    (case k_Check___init__ => k_is)
    (case a_Check_check_branch => k_is)
    (case i_Check_check_branch => k_is)
    (case l_Check_check_branch => k_is)
    (case c_Check_check_branch => k_is)
    (case k_Check_check_branch => k_is)
    (case a_Check_check_statement => k_is)
    (case i_Check_check_statement => k_is)
    (case l_Check_check_statement => k_is)
    (case c_Check_check_statement => k_is)
    (case k_Check_check_statement => k_is)
    (case a_Script___init__ => k_is)
    (case i_Script___init__ => k_is)
    (case l_Script___init__ => k_is)
    (case c_Script___init__ => k_is)
    (case k_Script___init__ => k_is)
    (case a_Script___len__ => k_is)
    (case i_Script___len__ => k_is)
    (case l_Script___len__ => k_is)
    (case c_Script___len__ => k_is)
    (case k_Script___len__ => k_is)
    (case fg_Script___len__ => k_is)
    (case a_Kind___init__ => k_is)
    (case i_Kind___init__ => k_is)
    (case l_Kind___init__ => k_is)
    (case c_Kind___init__ => k_is)
    (case k_Kind___init__ => k_is)
    (case a_System___init__ => k_is)
    (case i_System___init__ => k_is)
    (case l_System___init__ => k_is)
    (case c_System___init__ => k_is)
    (case k_System___init__ => k_is)
    (case kdKind_block => k_is)
    (case kdKind_many => k_is)
    (case kdSystem_ahead => k_is)
    (case kdSystem_window => k_is)
    (case kdSystem_crashes => k_is)
    (case z_all => k_is)
    (case z_bool => k_is)
    (case z_enumerate => k_is)
    (case z_int => k_is)
    (case z_isinstance => k_is)
    (case z_len => k_is)
    (case z_list => k_is)
    (case z_max => k_is)
    (case z_range => k_is)
    (case z_set => k_is)
    (case z_str => k_is)
    (case z_sum => k_is)
    (case z_tuple => k_is)
    (case v_LONGEST_NAME => k_is)
    (case v_LONGEST_OF_MANY => k_is)
    (case v_MOST_AHEAD => k_is)
    (case v_MOST_BLOCK => k_is)
    (case v_MOST_CRASHES => k_is)
    (case v_MOST_HELD => k_is)
    (case v_MOST_NESTED => k_is)
    (case v_MOST_SESSIONS => k_is)
    (case v_MOST_STATEMENTS => k_is)
    (case v_MOST_WINDOW => k_is)
    (case v_FRESH => k_is)
    (case lGFRESH => k_is)
    (case eGFRESH => rfl)
    (case lGFRESH_0 => k_is)
    (case eGFRESH_0 => rfl)
    (case lGFRESH_1 => k_is)
    (case eGFRESH_1 => rfl)
    (case lGFRESH_2 => k_is)
    (case eGFRESH_2 => rfl)
    (case lGFRESH_3 => k_is)
    (case eGFRESH_3 => rfl)
    (case v_END => k_is)
    (case lGEND => k_is)
    (case eGEND => rfl)
    (case v_MEASURES => k_is)
    (case lGMEASURES => k_is)
    (case eGMEASURES => rfl)
    (case v_ITEMS => k_is)
    (case lkITEMS => k_is)
    (case klITEMS => (repeat (first | exact trivial | refine ⟨⟨_, _, rfl, rfl⟩, ?_⟩)))
    (case smITEMS => first | rfl | decide)
    (case eITEMS_take => k_is)
    (case eITEMS_commit => k_is)
    (case eITEMS_rollback => k_is)
    (case eITEMS_drop => k_is)
    (case eITEMS_leave => k_is)
    (case eITEMS_lock => k_is)
    (case eITEMS_unlock => k_is)
    (case eITEMS_choose => k_is)
