import PyProof.Rows.All
import Wide.All
import OpenK.AllK
import Wide.FinOn
import HandS.ForMost
import HandS.Exc
import HandS.Lambda
import KE.KDictKeyed
import KE.KDictWalk
import HandS.TupAny
import HandS.TupMul
import HandS.Deep
import HandS.Wide
import HandS.IsInst
import HandS.TupLen
import HandS.TupLe
import HandS.Conv
import HandS.More
import HandS.OwnEq
import KE.GoesMore
import HandS.Zip
import HandS.ExcOwn
import HandS.WordsExc
import HandS.Defaults
import HandS.ExcInit
import HandS.ExcField
import HandS.ExcIs
import HandS.DeepEq
import KE.KExcIs
import PyProof.NeKinds
import HandS.MakeKwOnly
import HandS.Star
import KE.KStar
import HandS.Strs
import HandS.SortKw
import PyProof.MinMaxWalk
import PyProof.WalkInts
import KE.KMinKey
import HandS.Flow
import HandS.AnyAll
import PyProof.AutoSeq1
import HandS.DictTup
import HandS.DictComp
import HandS.Style
import PyProof.Rows.StrMeet
import PyProof.RulesAssignMore
import HandS.TryOnly
import HandS.Iter
import KE.SortKeyHeap
import KE.SortUse
import PyProof.Straight
import HandS.Text
import HandS.FStr
import HandS.Property
import HandS.SetFor
import KE.DataEq
import HandS.EndOwn
import HandS.GenYield
import HandS.GenList
import PyProof.ForAny
import KE.KWithOwn
import HandS.HotCalls
import HandS.Finally
import HandS.List
import HandS.NoneIn
import KE.KDictDisplayH
import KE.DataMinMax
import HandS.Ends
import HandS.Walk
import PySem.Challenge.RW_takenahead_k80_lines_inside_of_scripts
set_option Elab.async false
set_option linter.all false
set_option maxRecDepth 100000
/-! Plain data for the values of a program: trees D, a store of what changes, and what it means that a heap holds them. -/
namespace Mm
open PySem L2
inductive D where
  | non | bl (b : Bool) | int (i : Int) | str (x : Str)
  | tup (ds : List D) | lst (ds : List D) | dic (ks vs : List D) | obj (c : Nat) (ds : List D)
  | fz (ns : List Int) | loc (n : Nat) | oth (v : V) | ttp (ds : List D) | xn (k : Nat) (ds : List D)
  deriving Inhabited
inductive SO where
  | lst (ds : List D) | dic (ks vs : List D) | ins (c : Nat) (ds : List D)
  deriving Inhabited
structure Exn where
  c : Nat
  ds : List D
inductive R (α : Type) where
  | ok (a : α) (S : List SO) | ex (x : Exn) (S : List SO) | bad
def R.bind {α β : Type} (r : R α) (f : α → List SO → R β) : R β := match r with
  | .ok a S => f a S
  | .ex x S => .ex x S
  | .bad => .bad
@[simp] theorem R.bind_ok {α β : Type} (a : α) (S : List SO) (f : α → List SO → R β) : (R.ok a S).bind f = f a S := rfl
@[simp] theorem R.bind_ex {α β : Type} (x : Exn) (S : List SO) (f : α → List SO → R β) : (R.ex x S : R α).bind f = .ex x S := rfl
@[simp] theorem R.bind_bad {α β : Type} (f : α → List SO → R β) : (R.bad : R α).bind f = .bad := rfl
abbrev Env := List (Option D)
abbrev Sto := List SO
abbrev EM := Env → Sto → R D
/-- where the store's places stand in the heap; what is never changed any more -/
structure Cn where
  ρ : Nat → Addr
  F : Addr → Prop
/-- the classes: where they stand, their fields in the order in which they are set -/
structure Cls' where
  at_ : Nat → Option Addr
  fs : Nat → List Str
  /-- the error that is handled: it, and its dict -/
  ex : Option (Addr × Addr)
  /-- the dict that is walked, and must not change -/
  lk : Option Addr := none
  /-- the tables of code objects that are known -/
  tb : List (Addr × Str) := []
  /-- the hash of a nested key -/
  nh : NestedKey → Int := fun _ => 0
/-- what is fixed: the written part, the classes -/
structure Wn where
  K : PySem.W.Frag
  Γ : Cls'
def isOth : V → Bool
  | .byt _ => true
  | .flt _ => true
  | .ty _ => true
  | _ => false
def keyD : Key → D
  | .inl i => .int i
  | .inr x => .str x
/-- a list of ints that nobody can change: frozen, or written in the text -/
def FzL (K : PySem.W.Frag) (H : Hp) (a : Addr) (xs : List V) : Prop := (∃ o, H a = some (.frz o (.lst xs))) ∨ ∀ H', SqL K H' a xs
theorem FzL.sq {K : PySem.W.Frag} {H : Hp} {a : Addr} {xs : List V} (h : FzL K H a xs) : SqL K H a xs := by
  rcases h with h | h
  · exact .inl (.inr h)
  · exact h H
/-- what stands at a, or stands there locked -/
def DkA (w : Wn) (H : Hp) (a : Addr) (o : HO) : Prop := H a = some o ∨ (w.Γ.lk = some a ∧ ∃ od, H a = some (.frz od o))
theorem DkA.rd {w : Wn} {H : Hp} {a : Addr} {o : HO} (h : DkA w H a o) : Rd H a o := by
  rcases h with h | ⟨_, od, h⟩
  · exact .inl h
  · exact .inr ⟨od, h⟩
theorem DkA.ex {w : Wn} {H : Hp} {a : Addr} {o : HO} (hl : w.Γ.lk = none) (h : DkA w H a o) : H a = some o := by
  rcases h with h | ⟨e, od, h⟩
  · exact h
  · rw [hl] at e; cases e
mutual
def keyN : NestedKey → D
  | .none => .non
  | .num i => .int i
  | .text x => .str x
  | .tup ks => .tup (keyNs ks)
def keyNs : List NestedKey → List D
  | [] => []
  | k :: ks => keyN k :: keyNs ks
end
mutual
def NkV (K : PySem.W.Frag) (H : Hp) : NestedKey → V → Prop
  | .none, v => v = .non
  | .num i, v => v = .int i
  | .text x, v => v = .str x
  | .tup ks, v => ∃ a vs, v = .ref a ∧ SqT K H a vs ∧ NkVs K H ks vs
def NkVs (K : PySem.W.Frag) (H : Hp) : List NestedKey → List V → Prop
  | [], vs => vs = []
  | k :: ks, vs => ∃ v r, vs = v :: r ∧ NkV K H k v ∧ NkVs K H ks r
end
/-- the object at a is o -/
def ObX (a : Addr) (o : Obj) : Heap → Prop := fun h => h.get? a = some o
/-- o is a dict with these entries: key, key's address, value -/
def DnO (nh : NestedKey → Int) (o : Obj) (kk : List NestedKey) (as : List Addr) (vs : List V) : Prop := ∃ (es : Array DictEntry) (ep : Nat) (us : List Value), o.ExactDict ∧ o.data = .dict es ep ∧
  es.toList = (kk.zip (as.zip us)).map (fun x => (⟨nh x.1, .ref x.2.1, x.2.2⟩ : DictEntry)) ∧ Vals vs us
/-- what is known of a dict of nested keys besides its object -/
structure DnR (K : PySem.W.Frag) (nh : NestedKey → Int) (H : Hp) (a : Addr) (o : Obj) (kk : List NestedKey) (as : List Addr) (vs : List V) : Prop where
  ob : DnO nh o kk as vs
  sm : (a == sysModules) = false
  sz : vs.length ≤ sizeLine
  l1 : kk.length = vs.length
  l2 : as.length = vs.length
  nd : kk.Nodup
  dp : ∀ k ∈ kk, k.depth ≤ 8
  at_ : NkVs K H kk (as.map V.ref)
/-- what stands at a, a dict whose keys are nested tuples -/
def DkN (w : Wn) (H : Hp) (a : Addr) (ks : List D) (vs : List V) : Prop := ∃ (o : Obj) (kk : List NestedKey) (as : List Addr), DkA w H a (.ext (ObX a o)) ∧ DnR w.K w.Γ.nh H a o kk as vs ∧ ks = .bl true :: kk.map keyN
theorem NkVs.cong {K : PySem.W.Frag} {H H' : Hp} (e : ∀ a xs, SqT K H a xs → SqT K H' a xs) : ∀ (ks : List NestedKey) (vs : List V), (∀ k ∈ ks, ∀ v, NkV K H k v → NkV K H' k v) → NkVs K H ks vs → NkVs K H' ks vs
  | [], vs, _, h => by unfold NkVs at h ⊢; exact h
  | k :: ks, vs, f, h => by
    unfold NkVs at h ⊢
    obtain ⟨v, r, q, a, b⟩ := h
    exact ⟨v, r, q, f k List.mem_cons_self v a, NkVs.cong e ks r (fun k hk => f k (List.mem_cons_of_mem _ hk)) b⟩
mutual
theorem NkV.mono {K : PySem.W.Frag} {H H' : Hp} (e : ∀ a xs, SqT K H a xs → SqT K H' a xs) : ∀ (k : NestedKey) (v : V), NkV K H k v → NkV K H' k v
  | .none, v, h => by unfold NkV at h ⊢; exact h
  | .num i, v, h => by unfold NkV at h ⊢; exact h
  | .text x, v, h => by unfold NkV at h ⊢; exact h
  | .tup ks, v, h => by
    unfold NkV at h ⊢
    obtain ⟨a, vs, r, s, t⟩ := h
    exact ⟨a, vs, r, e _ _ s, NkVs.mono e ks vs t⟩
theorem NkVs.mono {K : PySem.W.Frag} {H H' : Hp} (e : ∀ a xs, SqT K H a xs → SqT K H' a xs) : ∀ (ks : List NestedKey) (vs : List V), NkVs K H ks vs → NkVs K H' ks vs
  | [], vs, h => by unfold NkVs at h ⊢; exact h
  | k :: ks, vs, h => by
    unfold NkVs at h ⊢
    obtain ⟨v, r, q, a, b⟩ := h
    exact ⟨v, r, q, NkV.mono e k v a, NkVs.mono e ks r b⟩
end
theorem DkN.cong {w w' : Wn} {H H' : Hp} {a : Addr} {ks : List D} {vs : List V} (hK : w'.K = w.K) (hn : w'.Γ.nh = w.Γ.nh) (d : ∀ o : HO, (∃ φ, o = .ext φ) → DkA w H a o → DkA w' H' a o) (e : ∀ a xs, SqT w.K H a xs → SqT w.K H' a xs) (h : DkN w H a ks vs) : DkN w' H' a ks vs := by
  obtain ⟨o, kk, as, h1, g, h8⟩ := h
  exact ⟨o, kk, as, d _ ⟨_, rfl⟩ h1, ⟨by rw [hn]; exact g.ob, g.sm, g.sz, g.l1, g.l2, g.nd, g.dp, by rw [hK]; exact NkVs.mono e _ _ g.at_⟩, h8⟩
section
variable (w : Wn) (c : Cn) (H : Hp) (n : Nat)
mutual
def At : D → V → Prop
  | .non, v => v = .non
  | .bl b, v => v = .bl b
  | .int i, v => v = .int i
  | .str x, v => v = .str x
  | .tup ds, v => ∃ a vs, v = .ref a ∧ SqT w.K H a vs ∧ Ats ds vs
  | .ttp ds, v => ∃ a vs, v = .ref a ∧ H a = some (.tup vs) ∧ Ats ds vs
  | .lst ds, v => ∃ a vs, v = .ref a ∧ c.F a ∧ H a = some (.lst vs) ∧ Ats ds vs
  | .dic ks ds, v => ∃ a vs, v = .ref a ∧ c.F a ∧ ((∃ kk : List Key, DkA w H a (.dK (kk.zip vs)) ∧ kk.length = vs.length ∧ ks = kk.map keyD) ∨ (∃ kk : List (List Key), DkA w H a (.dT (kk.zip vs)) ∧ kk.length = vs.length ∧ ks = .non :: kk.map fun k => .tup (k.map keyD)) ∨ DkN w H a ks vs) ∧ Ats ds vs
  | .obj k ds, v => ∃ a vs C dx, v = .ref a ∧ c.F a ∧ w.Γ.at_ k = some C ∧ vs.length ≤ (w.Γ.fs k).length ∧ H a = some (.ins C dx ((w.Γ.fs k).zip vs)) ∧ Ats ds vs
  | .fz ns, v => ∃ a, v = .ref a ∧ FzL w.K H a (ns.map V.int)
  | .loc k, v => k < n ∧ v = .ref (c.ρ k)
  | .oth u, v => v = u ∧ isOth u = true
  | .xn k ds, v => ∃ a dd C vs, v = .ref a ∧ w.Γ.ex = some (a, dd) ∧ w.Γ.at_ k = some C ∧ vs.length ≤ (w.Γ.fs k).length ∧ H dd = some (.xd ((w.Γ.fs k).zip vs)) ∧ Ats ds vs
def Ats : List D → List V → Prop
  | [], vs => vs = []
  | d :: ds, vs => ∃ v r, vs = v :: r ∧ At d v ∧ Ats ds r
end
def OAt (a : Addr) : SO → Prop
  | .lst ds => ∃ vs, H a = some (.lst vs) ∧ Ats w c H n ds vs
  | .dic ks ds => ∃ vs, ((∃ kk : List Key, DkA w H a (.dK (kk.zip vs)) ∧ kk.length = vs.length ∧ ks = kk.map keyD) ∨ (∃ kk : List (List Key), DkA w H a (.dT (kk.zip vs)) ∧ kk.length = vs.length ∧ ks = .non :: kk.map fun k => .tup (k.map keyD)) ∨ DkN w H a ks vs) ∧ Ats w c H n ds vs
  | .ins k ds => ∃ vs C dx, w.Γ.at_ k = some C ∧ vs.length ≤ (w.Γ.fs k).length ∧ H a = some (.ins C dx ((w.Γ.fs k).zip vs)) ∧ Ats w c H n ds vs
end
structure Rep (w : Wn) (c : Cn) (H : Hp) (S : Sto) : Prop where
  obj : ∀ k o, S[k]? = some o → OAt w c H S.length (c.ρ k) o
  inj : ∀ k m, k < S.length → m < S.length → c.ρ k = c.ρ m → k = m
  live : ∀ k, k < S.length → ¬ c.F (c.ρ k)
  fro : ∀ a, c.F a → ∃ u, H a = some u
  tab : LamX.Tabs w.Γ.tb H
/-- what values lean on is kept -/
structure ExtA (c : Cn) (H : Hp) (n : Nat) (c' : Cn) (H' : Hp) (n' : Nat) : Prop where
  le : n ≤ n'
  rho : ∀ k, k < n → c'.ρ k = c.ρ k
  fro : ∀ a, c.F a → c'.F a
  tup : ∀ a xs, H a = some (.tup xs) → H' a = some (.tup xs)
  frz : ∀ a o u, H a = some (.frz o u) → H' a = some (.frz o u)
  xd : ∀ a u, H a = some (.xd u) → H' a = some (.xd u)
  keepG : ∀ a o, c.F a → H a = some o → (∀ ps, o ≠ .tbl ps) → H' a = some o
structure Ext (c : Cn) (H : Hp) (n : Nat) (c' : Cn) (H' : Hp) (n' : Nat) : Prop where
  le : n ≤ n'
  rho : ∀ k, k < n → c'.ρ k = c.ρ k
  fro : ∀ a, c.F a → c'.F a
  tup : ∀ a xs, H a = some (.tup xs) → H' a = some (.tup xs)
  frz : ∀ a o u, H a = some (.frz o u) → H' a = some (.frz o u)
  xd : ∀ a u, H a = some (.xd u) → H' a = some (.xd u)
  keep : ∀ a o, H a = some o → (∀ ps, o ≠ .tbl ps) → (∀ k, k < n → c.ρ k ≠ a) → H' a = some o
  keepG : ∀ a o, c.F a → H a = some o → (∀ ps, o ≠ .tbl ps) → H' a = some o
  new : ∀ k, n ≤ k → k < n' → H (c'.ρ k) = none
  there : ∀ a o, H a = some o → ∃ o', H' a = some o'
  nF : ∀ a, c'.F a → c.F a ∨ H a = none
theorem Ext.A {c c' : Cn} {H H' : Hp} {n n' : Nat} (e : Ext c H n c' H' n') : ExtA c H n c' H' n' := ⟨e.le, e.rho, e.fro, e.tup, e.frz, e.xd, e.keepG⟩
theorem ExtA.keepF {c c' : Cn} {H H' : Hp} {n n' : Nat} (e : ExtA c H n c' H' n') (a : Addr) (o : HO) (f : c.F a) (h : H a = some o) (t : ∀ ps, o ≠ .tbl ps := by intro ps z; cases z) : H' a = some o := e.keepG a o f h t
theorem Ext.keepF {c c' : Cn} {H H' : Hp} {n n' : Nat} (e : Ext c H n c' H' n') (a : Addr) (o : HO) (f : c.F a) (h : H a = some o) (t : ∀ ps, o ≠ .tbl ps := by intro ps z; cases z) : H' a = some o := e.keepG a o f h t
theorem Ext.refl {c : Cn} {H : Hp} {n : Nat} : Ext c H n c H n := ⟨Nat.le_refl _, fun _ _ => rfl, fun _ h => h, fun _ _ h => h, fun _ _ _ h => h, fun _ _ h => h, fun _ _ h _ _ => h, fun _ _ _ h _ => h, fun k a b => absurd b (Nat.not_lt.mpr a), fun _ o h => ⟨o, h⟩, fun _ h => .inl h⟩
theorem Ext.trans {c c1 c2 : Cn} {H H1 H2 : Hp} {n n1 n2 : Nat} (a : Ext c H n c1 H1 n1) (b : Ext c1 H1 n1 c2 H2 n2) : Ext c H n c2 H2 n2 where
  le := Nat.le_trans a.le b.le
  rho := fun k h => (b.rho k (Nat.lt_of_lt_of_le h a.le)).trans (a.rho k h)
  fro := fun x h => b.fro x (a.fro x h)
  tup := fun x xs h => b.tup x xs (a.tup x xs h)
  frz := fun x o u h => b.frz x o u (a.frz x o u h)
  xd := fun x u h => b.xd x u (a.xd x u h)
  keep := fun x o h t q => b.keep x o (a.keep x o h t q) t fun k hk => by
      by_cases hn : k < n
      · rw [a.rho k hn]; exact q k hn
      · intro e
        have := a.new k (Nat.le_of_not_lt hn) hk
        rw [e, h] at this; cases this
  keepG := fun x o f h t => b.keepG x o (a.fro x f) (a.keepG x o f h t) t
  new := fun k h1 h2 => by
      by_cases hn : k < n1
      · rw [b.rho k hn]; exact a.new k h1 hn
      · have q := b.new k (Nat.le_of_not_lt hn) h2
        cases e : H (c2.ρ k) with
        | none => rfl
        | some o =>
          obtain ⟨o', e'⟩ := a.there _ o e
          rw [q] at e'; cases e'
  there := fun x o h => by
      obtain ⟨o', e⟩ := a.there x o h
      exact b.there x o' e
  nF := fun x h => by
      rcases b.nF x h with h | h
      · exact a.nF x h
      · right
        cases e : H x with
        | none => rfl
        | some o =>
          obtain ⟨o', e'⟩ := a.there _ o e
          rw [h] at e'; cases e'
section
variable {w : Wn} {c c' : Cn} {H H' : Hp} {n n' : Nat}
theorem ExtA.sqT (e : ExtA c H n c' H' n') {K : PySem.W.Frag} {a : Addr} {xs : List V} (h : SqT K H a xs) : SqT K H' a xs := by
  rcases h with (h | ⟨o, h⟩) | h
  · exact .inl (.inl (e.tup _ _ h))
  · exact .inl (.inr ⟨o, e.frz _ _ _ h⟩)
  · exact .inr h
theorem Ext.sqT (e : Ext c H n c' H' n') {K : PySem.W.Frag} {a : Addr} {xs : List V} (h : SqT K H a xs) : SqT K H' a xs := e.A.sqT h
theorem ExtA.fzL (e : ExtA c H n c' H' n') {K : PySem.W.Frag} {a : Addr} {xs : List V} (h : FzL K H a xs) : FzL K H' a xs := by
  rcases h with ⟨o, h⟩ | h
  · exact .inl ⟨o, e.frz _ _ _ h⟩
  · exact .inr h
theorem ExtA.dkA (e : ExtA c H n c' H' n') {a : Addr} {o : HO} (f : c.F a) (h : DkA w H a o) (t : ∀ ps, o ≠ .tbl ps := by intro ps z; cases z) : DkA w H' a o := by
  rcases h with h | ⟨l, od, h⟩
  · exact .inl (e.keepF _ _ f h t)
  · exact .inr ⟨l, od, e.keepF _ _ f h⟩
mutual
theorem At.monoA (e : ExtA c H n c' H' n') : ∀ (d : D) (v : V), At w c H n d v → At w c' H' n' d v
  | .non, v, h => h
  | .bl b, v, h => h
  | .int i, v, h => h
  | .str x, v, h => h
  | .tup ds, v, h => by
    unfold At at h ⊢
    obtain ⟨a, vs, r, s, t⟩ := h
    exact ⟨a, vs, r, e.sqT s, Ats.monoA e ds vs t⟩
  | .ttp ds, v, h => by
    unfold At at h ⊢
    obtain ⟨a, vs, r, s, t⟩ := h
    exact ⟨a, vs, r, e.tup _ _ s, Ats.monoA e ds vs t⟩
  | .lst ds, v, h => by
    unfold At at h ⊢
    obtain ⟨a, vs, r, f, s, t⟩ := h
    exact ⟨a, vs, r, e.fro _ f, e.keepF _ _ f s, Ats.monoA e ds vs t⟩
  | .dic ks ds, v, h => by
    unfold At at h ⊢
    obtain ⟨a, vs, r, f, s, t⟩ := h
    refine ⟨a, vs, r, e.fro _ f, ?_, Ats.monoA e ds vs t⟩
    rcases s with ⟨kk, s⟩ | ⟨kk, s⟩ | s
    · exact .inl ⟨kk, e.dkA f s.1, s.2⟩
    · exact .inr (.inl ⟨kk, e.dkA f s.1, s.2⟩)
    · exact .inr (.inr (s.cong rfl rfl (fun o ⟨φ, h⟩ d => e.dkA f d (by subst h; intro ps z; cases z)) fun a xs q => e.sqT q))
  | .obj k ds, v, h => by
    unfold At at h ⊢
    obtain ⟨a, vs, C, dx, r, f, g, l, s, t⟩ := h
    exact ⟨a, vs, C, dx, r, e.fro _ f, g, l, e.keepF _ _ f s, Ats.monoA e ds vs t⟩
  | .fz ns, v, h => by
    unfold At at h ⊢
    obtain ⟨a, r, s⟩ := h
    exact ⟨a, r, e.fzL s⟩
  | .loc k, v, h => by
    unfold At at h ⊢
    exact ⟨Nat.lt_of_lt_of_le h.1 e.le, by rw [e.rho k h.1]; exact h.2⟩
  | .oth u, v, h => h
  | .xn k ds, v, h => by
    unfold At at h ⊢
    obtain ⟨a, dd, C, vs, r, x, g, l, s, t⟩ := h
    exact ⟨a, dd, C, vs, r, x, g, l, e.xd _ _ s, Ats.monoA e ds vs t⟩
theorem Ats.monoA (e : ExtA c H n c' H' n') : ∀ (ds : List D) (vs : List V), Ats w c H n ds vs → Ats w c' H' n' ds vs
  | [], vs, h => h
  | d :: ds, vs, h => by
    unfold Ats at h ⊢
    obtain ⟨v, r, q, a, b⟩ := h
    exact ⟨v, r, q, At.monoA e d v a, Ats.monoA e ds r b⟩
end
theorem At.mono (e : Ext c H n c' H' n') (d : D) (v : V) (h : At w c H n d v) : At w c' H' n' d v := At.monoA e.A d v h
theorem Ats.mono (e : Ext c H n c' H' n') (ds : List D) (vs : List V) (h : Ats w c H n ds vs) : Ats w c' H' n' ds vs := Ats.monoA e.A ds vs h
theorem Ats.len : ∀ {ds : List D} {vs : List V}, Ats w c H n ds vs → vs.length = ds.length
  | [], vs, h => by unfold Ats at h; rw [h]; rfl
  | d :: ds, vs, h => by
    unfold Ats at h
    obtain ⟨v, r, q, a, b⟩ := h
    rw [q, List.length_cons, List.length_cons, Ats.len b]
theorem Ats.get : ∀ {ds : List D} {vs : List V} {i : Nat} {d : D}, Ats w c H n ds vs → ds[i]? = some d → ∃ v, vs[i]? = some v ∧ At w c H n d v
  | [], vs, i, d, h, e => by simp at e
  | d :: ds, vs, i, d', h, e => by
    unfold Ats at h
    obtain ⟨v, r, q, a, b⟩ := h
    subst q
    cases i with
    | zero => cases e; exact ⟨v, rfl, a⟩
    | succ i => exact Ats.get (i := i) b (by simpa using e)
theorem Ats.nil : Ats w c H n [] [] := by unfold Ats; rfl
theorem Ats.cons {d : D} {ds : List D} {v : V} {vs : List V} (a : At w c H n d v) (b : Ats w c H n ds vs) : Ats w c H n (d :: ds) (v :: vs) := by
  unfold Ats; exact ⟨v, vs, rfl, a, b⟩
theorem Ats.app : ∀ {ds es : List D} {vs ws : List V}, Ats w c H n ds vs → Ats w c H n es ws → Ats w c H n (ds ++ es) (vs ++ ws)
  | [], es, vs, ws, h, g => by unfold Ats at h; rw [h]; exact g
  | d :: ds, es, vs, ws, h, g => by
    unfold Ats at h
    obtain ⟨v, r, q, a, b⟩ := h
    rw [q]
    exact .cons a (Ats.app b g)
theorem Ats.one {d : D} {v : V} (a : At w c H n d v) : Ats w c H n [d] [v] := .cons a .nil
theorem Ats.drop : ∀ {ds : List D} {vs : List V} (k : Nat), Ats w c H n ds vs → Ats w c H n (ds.drop k) (vs.drop k)
  | ds, vs, 0, h => h
  | [], vs, k + 1, h => by unfold Ats at h; rw [h]; exact .nil
  | d :: ds, vs, k + 1, h => by
    unfold Ats at h
    obtain ⟨v, r, q, a, b⟩ := h
    rw [q]; exact Ats.drop k b
theorem Ats.take : ∀ {ds : List D} {vs : List V} (k : Nat), Ats w c H n ds vs → Ats w c H n (ds.take k) (vs.take k)
  | ds, vs, 0, h => by simp [Ats]
  | [], vs, k + 1, h => by unfold Ats at h; rw [h]; exact .nil
  | d :: ds, vs, k + 1, h => by
    unfold Ats at h
    obtain ⟨v, r, q, a, b⟩ := h
    rw [q]; exact .cons a (Ats.take k b)
theorem Ats.set {d : D} {v : V} (x : At w c H n d v) : ∀ {ds : List D} {vs : List V} (k : Nat), Ats w c H n ds vs → Ats w c H n (ds.set k d) (vs.set k v)
  | [], vs, k, h => by unfold Ats at h; rw [h]; simp [Ats]
  | d :: ds, vs, k, h => by
    unfold Ats at h
    obtain ⟨v, r, q, a, b⟩ := h
    rw [q]
    cases k with
    | zero => exact .cons x b
    | succ k => exact .cons a (Ats.set x k b)
theorem Ats.uncons {d : D} {ds : List D} {vs : List V} (h : Ats w c H n (d :: ds) vs) : ∃ v r, vs = v :: r ∧ At w c H n d v ∧ Ats w c H n ds r := by unfold Ats at h; exact h
theorem Ats.unnil {vs : List V} (h : Ats w c H n [] vs) : vs = [] := by unfold Ats at h; exact h
theorem OAt.monoA (e : ExtA c H n c' H' n') {a : Addr} (ka : ∀ o, H a = some o → H' a = some o) : ∀ {o : SO}, OAt w c H n a o → OAt w c' H' n' a o
  | .lst ds, h => by
    obtain ⟨vs, g, t⟩ := h
    exact ⟨vs, ka _ g, Ats.monoA e _ _ t⟩
  | .dic ks ds, h => by
    obtain ⟨vs, g, t⟩ := h
    refine ⟨vs, ?_, Ats.monoA e _ _ t⟩
    rcases g with ⟨kk, s⟩ | ⟨kk, s⟩ | s
    · exact .inl ⟨kk, s.1.imp (ka _) (fun ⟨l, od, z⟩ => ⟨l, od, ka _ z⟩), s.2⟩
    · exact .inr (.inl ⟨kk, s.1.imp (ka _) (fun ⟨l, od, z⟩ => ⟨l, od, ka _ z⟩), s.2⟩)
    · exact .inr (.inr (s.cong rfl rfl (fun o _ d => d.imp (ka _) (fun ⟨l, od, z⟩ => ⟨l, od, ka _ z⟩)) fun a xs q => e.sqT q))
  | .ins k ds, h => by
    obtain ⟨vs, C, dx, g, l, s, t⟩ := h
    exact ⟨vs, C, dx, g, l, ka _ s, Ats.monoA e _ _ t⟩
theorem OAt.mono (e : Ext c H n c' H' n') {a : Addr} (ka : ∀ o, H a = some o → H' a = some o) {o : SO} (h : OAt w c H n a o) : OAt w c' H' n' a o := OAt.monoA e.A ka h
theorem OAt.some {a : Addr} : ∀ {o : SO}, OAt w c H n a o → ∃ u, H a = .some u ∧ (Mut (.some u) ∨ w.Γ.lk = .some a)
  | .lst ds, h => by
    obtain ⟨vs, g, t⟩ := h
    exact ⟨_, g, .inl trivial⟩
  | .dic ks ds, h => by
    obtain ⟨vs, g, t⟩ := h
    rcases g with ⟨kk, s⟩ | ⟨kk, s⟩ | ⟨o, kk, as, s⟩
    · rcases s.1 with z | ⟨l, od, z⟩
      · exact ⟨_, z, .inl trivial⟩
      · exact ⟨_, z, .inr l⟩
    · rcases s.1 with z | ⟨l, od, z⟩
      · exact ⟨_, z, .inl trivial⟩
      · exact ⟨_, z, .inr l⟩
    · rcases s.1 with z | ⟨l, od, z⟩
      · exact ⟨_, z, .inl trivial⟩
      · exact ⟨_, z, .inr l⟩
  | .ins k ds, h => by
    obtain ⟨vs, C, dx, g, l, s, t⟩ := h
    exact ⟨_, s, .inl trivial⟩
end
section
variable {w : Wn} {c c' : Cn} {H H' : Hp} {S : Sto}
theorem obX_code {a b : Addr} {o : Obj} {es : Array DictEntry} {ep : Nat} (hd : o.data = .dict es ep) (q : Str) : HO.ext (ObX a o) ≠ LamX.CodeO b q := fun z => by
  have z' : ObX a o = fun h => ∃ (oc : Obj) (vs : Array Value) (t : Tok), h.get? b = some oc ∧ oc.data = .fields vs ∧ vs[1]? = some (.str q t) := HO.ext.inj z
  let h : Heap := { objs := Array.replicate (a + b + 1) o }
  have nf : o.isFreed = false := by
    cases o
    simp only at hd
    subst hd
    rfl
  have hg : h.get? a = some o := Heap.get?_some_iff.mpr ⟨by show (Array.replicate (a + b + 1) o)[_]? = _; rw [Array.getElem?_replicate, if_pos (by omega)], nf⟩
  have hb : h.get? b = some o := Heap.get?_some_iff.mpr ⟨by show (Array.replicate (a + b + 1) o)[_]? = _; rw [Array.getElem?_replicate, if_pos (by omega)], nf⟩
  have d : ObX a o h := hg
  rw [z'] at d
  obtain ⟨oc, vs', t, e1, e2, _⟩ := d
  rw [hb] at e1
  cases e1
  rw [hd] at e2
  cases e2
theorem DnO.code {nh : NestedKey → Int} {a b : Addr} {o : Obj} {kk : List NestedKey} {as : List Addr} {vs : List V} (h : DnO nh o kk as vs) (q : Str) : HO.ext (ObX a o) ≠ LamX.CodeO b q := by
  obtain ⟨es, ep, us, _, hd, _⟩ := h
  exact obX_code hd q
theorem tabs_upd {T : List (Addr × Str)} {p : Addr} {o : HO} (t : LamX.Tabs T H) (hp : ∀ u, H p = some u → (∀ ps, u ≠ .tbl ps) ∧ ∀ q, u ≠ LamX.CodeO p q) : LamX.Tabs T (upd H p o) := fun x hx => by
  obtain ⟨ps, h1, h2, h3⟩ := t x hx
  have n1 : x.1 ≠ p := fun e => (hp _ (e ▸ h1)).1 ps rfl
  refine ⟨ps, by rw [upd_ne n1]; exact h1, h2, fun pos cv hc => ?_⟩
  obtain ⟨c0, e1, e2⟩ := h3 pos cv hc
  have n2 : c0 ≠ p := fun e => by
    subst e
    exact (hp _ e2).2 _ rfl
  exact ⟨c0, e1, by rw [upd_ne n2]; exact e2⟩
theorem tabs_new {T : List (Addr × Str)} {p : Addr} {o : HO} (t : LamX.Tabs T H) (hp : H p = none) : LamX.Tabs T (upd H p o) := tabs_upd t fun u e => by rw [hp] at e; cases e
theorem OAt.nx {a : Addr} {n : Nat} : ∀ {o : SO}, OAt w c H n a o → ∀ u : HO, H a = Option.some u → (∀ ps, u ≠ HO.tbl ps) ∧ ∀ q, u ≠ LamX.CodeO a q
  | .lst ds, h, u, e => by
    obtain ⟨vs, g, t⟩ := h
    rw [g] at e; cases e
    exact ⟨fun _ z => (nomatch z), fun _ z => (nomatch z)⟩
  | .dic ks ds, h, u, e => by
    obtain ⟨vs, g, t⟩ := h
    rcases g with ⟨kk, s⟩ | ⟨kk, s⟩ | ⟨o, kk, as, s⟩ <;> rcases s.1 with z | ⟨l, od, z⟩ <;> (rw [z] at e; cases e; refine ⟨fun _ z => (nomatch z), ?_⟩)
    · exact fun _ z => (nomatch z)
    · exact fun _ z => (nomatch z)
    · exact fun _ z => (nomatch z)
    · exact fun _ z => (nomatch z)
    · exact s.2.1.ob.code
    · exact fun _ z => (nomatch z)
  | .ins k ds, h, u, e => by
    obtain ⟨vs, C, dx, g, l, s, t⟩ := h
    rw [s] at e; cases e
    exact ⟨fun _ z => (nomatch z), fun _ z => (nomatch z)⟩
theorem Rep.get (r : Rep w c H S) {k : Nat} {o : SO} (h : S[k]? = some o) : OAt w c H S.length (c.ρ k) o := r.obj k o h
theorem Rep.lt {k : Nat} {o : SO} (h : S[k]? = some o) : k < S.length := (List.getElem?_eq_some_iff.mp h).1
theorem Rep.some (r : Rep w c H S) {k : Nat} (h : k < S.length) : ∃ u, H (c.ρ k) = .some u ∧ (Mut (.some u) ∨ w.Γ.lk = .some (c.ρ k)) := (r.obj k _ (List.getElem?_eq_getElem h)).some
theorem Rep.ne (r : Rep w c H S) {a : Addr} (h : H a = none) {k : Nat} (hk : k < S.length) : c.ρ k ≠ a := fun e => by
  obtain ⟨u, q, _⟩ := r.some hk
  rw [e, h] at q; cases q
theorem Rep.nF (r : Rep w c H S) {a : Addr} (h : H a = none) : ¬ c.F a := fun f => by
  obtain ⟨u, q⟩ := r.fro a f
  rw [h] at q; cases q
/-- the heap grows by a new object that is neither a place of the store nor unchangeable by name: a tuple, or anything else -/
theorem Ext.grow {n : Nat} {p : Addr} {o : HO} (hp : H p = none) : Ext c H n c (upd H p o) n :=
  ⟨Nat.le_refl _, fun _ _ => rfl, fun _ h => h, fun a xs h => by rw [upd_ne (ne_of_none h hp)]; exact h, fun a o u h => by rw [upd_ne (ne_of_none h hp)]; exact h, fun a u h => by rw [upd_ne (ne_of_none h hp)]; exact h, fun a u h _ _ => by rw [upd_ne (ne_of_none h hp)]; exact h,
    fun a u _ h _ => by rw [upd_ne (ne_of_none h hp)]; exact h, fun k a b => absurd b (Nat.not_lt.mpr a), fun a u h => ⟨u, by rw [upd_ne (ne_of_none h hp)]; exact h⟩, fun _ h => .inl h⟩
theorem Rep.grow (r : Rep w c H S) {p : Addr} {o : HO} (hp : H p = none) : Rep w c (upd H p o) S :=
  ⟨fun k u h => (r.obj k u h).mono (Ext.grow hp) fun x hx => by rw [upd_ne (ne_of_none hx hp)]; exact hx, r.inj, r.live, fun a f => by
    obtain ⟨u, q⟩ := r.fro a f
    exact ⟨u, by rw [upd_ne (ne_of_none q hp)]; exact q⟩, tabs_new r.tab hp⟩
/-- what stands at p is not changed any more -/
def Cn.fr (c : Cn) (p : Addr) : Cn := { c with F := fun a => c.F a ∨ a = p }
theorem Ext.fr {n : Nat} {p : Addr} {o : HO} (hp : H p = none) : Ext c H n (c.fr p) (upd H p o) n :=
  let e := Ext.grow (c := c) (n := n) (o := o) hp
  ⟨e.le, fun _ _ => rfl, fun _ h => .inl h, e.tup, e.frz, e.xd, e.keep, e.keepG, e.new, e.there, fun a h => by
    rcases h with h | h
    · exact .inl h
    · right; rw [h]; exact hp⟩
theorem Rep.fr (r : Rep w c H S) {p : Addr} {o : HO} (hp : H p = none) : Rep w (c.fr p) (upd H p o) S :=
  ⟨fun k u h => (r.obj k u h).mono (Ext.fr hp) fun x hx => by rw [upd_ne (ne_of_none hx hp)]; exact hx, r.inj, fun k hk f => by
    rcases f with f | f
    · exact r.live k hk f
    · exact r.ne hp hk f, fun a f => by
    rcases f with f | f
    · obtain ⟨u, q⟩ := r.fro a f
      exact ⟨u, by rw [upd_ne (ne_of_none q hp)]; exact q⟩
    · rw [f]; exact ⟨o, upd_same⟩, tabs_new r.tab hp⟩
/-- a new place of the store -/
def Cn.nw (c : Cn) (n : Nat) (p : Addr) : Cn := { c with ρ := fun k => if k = n then p else c.ρ k }
theorem Cn.nw_at {n : Nat} {p : Addr} : (c.nw n p).ρ n = p := if_pos rfl
theorem Cn.nw_ne {n k : Nat} {p : Addr} (h : k ≠ n) : (c.nw n p).ρ k = c.ρ k := if_neg h
theorem Ext.nw {n : Nat} {p : Addr} {o : HO} (hp : H p = none) : Ext c H n (c.nw n p) (upd H p o) (n + 1) :=
  let e := Ext.grow (c := c) (n := n) (o := o) hp
  ⟨Nat.le_succ _, fun k h => Cn.nw_ne (Nat.ne_of_lt h), fun _ h => h, e.tup, e.frz, e.xd, e.keep, e.keepG, fun k h1 h2 => by
    have : k = n := by omega
    rw [this, Cn.nw_at]; exact hp, e.there, fun a h => .inl h⟩
theorem Rep.nw (r : Rep w c H S) {p : Addr} {o : HO} {so : SO} (hp : H p = none) (q : OAt w (c.nw S.length p) (upd H p o) (S.length + 1) p so) : Rep w (c.nw S.length p) (upd H p o) (S ++ [so]) := by
  have e : Ext c H S.length (c.nw S.length p) (upd H p o) (S.length + 1) := Ext.nw hp
  refine ⟨fun k u h => ?_, fun k m hk hm he => ?_, fun k hk f => ?_, fun a f => ?_, tabs_new r.tab hp⟩
  · rw [List.length_append, List.length_singleton]
    by_cases hk : k < S.length
    · rw [List.getElem?_append_left hk] at h
      have := (r.obj k u h).mono e fun x hx => by rw [upd_ne (ne_of_none hx hp)]; exact hx
      rw [Cn.nw_ne (Nat.ne_of_lt hk)]
      exact this
    · have hl := Rep.lt h
      rw [List.length_append, List.length_singleton] at hl
      have ek : k = S.length := by omega
      subst ek
      rw [List.getElem?_append_right (Nat.le_refl _)] at h
      simp at h
      subst h
      rw [Cn.nw_at]
      exact q
  · rw [List.length_append, List.length_singleton] at hk hm
    by_cases h1 : k = S.length
    · by_cases h2 : m = S.length
      · rw [h1, h2]
      · rw [h1, Cn.nw_at, Cn.nw_ne h2] at he
        exact absurd he.symm (r.ne hp (by omega))
    · by_cases h2 : m = S.length
      · rw [h2, Cn.nw_at, Cn.nw_ne h1] at he
        exact absurd he (r.ne hp (by omega))
      · rw [Cn.nw_ne h1, Cn.nw_ne h2] at he
        exact r.inj k m (by omega) (by omega) he
  · rw [List.length_append, List.length_singleton] at hk
    by_cases h1 : k = S.length
    · rw [h1, Cn.nw_at] at f
      exact r.nF hp f
    · rw [Cn.nw_ne h1] at f
      exact r.live k (by omega) f
  · obtain ⟨u, q⟩ := r.fro a f
    exact ⟨u, by rw [upd_ne (ne_of_none q hp)]; exact q⟩
/-- what stands at a place of the store is changed -/
theorem Ext.wr (r : Rep w c H S) {k : Nat} {o : HO} (hk : k < S.length) (hm : ∃ u, H (c.ρ k) = .some u ∧ Mut (.some u)) : Ext c H S.length c (upd H (c.ρ k) o) S.length := by
  obtain ⟨u, q, m⟩ := hm
  have nm : ∀ a x, H a = .some x → ¬ Mut (.some x) → a ≠ c.ρ k := fun a x h z e => by
    rw [e, q] at h; cases h; exact z m
  refine ⟨Nat.le_refl _, fun _ _ => rfl, fun _ h => h, fun a xs h => ?_, fun a x y h => ?_, fun a x h => ?_, fun a x h _ hn => ?_, fun a x f h _ => ?_, fun k a b => absurd b (Nat.not_lt.mpr a), fun a x h => ?_, fun _ h => .inl h⟩
  · rw [upd_ne (nm a _ h fun z => z)]; exact h
  · rw [upd_ne (nm a _ h fun z => z)]; exact h
  · rw [upd_ne (nm a _ h fun z => z)]; exact h
  · rw [upd_ne fun e => hn k hk e.symm]; exact h
  · rw [upd_ne fun e => r.live k hk (by rw [← e]; exact f)]; exact h
  · by_cases e : a = c.ρ k
    · rw [e]; exact ⟨o, upd_same⟩
    · exact ⟨x, by rw [upd_ne e]; exact h⟩
theorem Rep.wr (r : Rep w c H S) {k : Nat} {o : HO} {so : SO} (hk : k < S.length) (hm : ∃ u, H (c.ρ k) = .some u ∧ Mut (.some u)) (q : OAt w c (upd H (c.ρ k) o) S.length (c.ρ k) so) : Rep w c (upd H (c.ρ k) o) (S.set k so) := by
  have e : Ext c H S.length c (upd H (c.ρ k) o) S.length := Ext.wr r hk hm
  refine ⟨fun m u h => ?_, fun i j hi hj => ?_, fun i hi => ?_, fun a f => ?_, tabs_upd r.tab (r.obj k _ (List.getElem?_eq_getElem hk)).nx⟩
  · rw [List.length_set]
    by_cases hm : m = k
    · subst hm
      rw [List.getElem?_set_self hk] at h
      cases h; exact q
    · rw [List.getElem?_set_ne (Ne.symm hm)] at h
      refine (r.obj m u h).mono e fun x hx => ?_
      rw [upd_ne fun z => hm (r.inj m k (Rep.lt h) hk z)]; exact hx
  · rw [List.length_set] at hi hj; exact r.inj i j hi hj
  · rw [List.length_set] at hi; exact r.live i hi
  · obtain ⟨u, q⟩ := r.fro a f
    exact e.there a u q
/-- a list that stands neither in the store nor under what is unchangeable is changed -/
theorem ExtA.side {n : Nat} {p : Addr} {xs ys : List V} (hp : H p = .some (.lst xs)) (hf : ¬ c.F p) : ExtA c H n c (upd H p (.lst ys)) n :=
  ⟨Nat.le_refl _, fun _ _ => rfl, fun _ h => h, fun a us h => by rw [upd_ne (ne_of h hp fun z => nomatch z)]; exact h, fun a o u h => by rw [upd_ne (ne_of h hp fun z => nomatch z)]; exact h, fun a u h => by rw [upd_ne (ne_of h hp fun z => nomatch z)]; exact h, fun a o f h _ => by
    rw [upd_ne fun e => hf (by rw [← e]; exact f)]; exact h⟩
theorem Rep.side (r : Rep w c H S) {p : Addr} {xs ys : List V} (hp : H p = .some (.lst xs)) (hf : ¬ c.F p) (hn : ∀ k, k < S.length → c.ρ k ≠ p) : Rep w c (upd H p (.lst ys)) S :=
  ⟨fun k o h => (r.obj k o h).monoA (ExtA.side hp hf) fun u hu => by rw [upd_ne (hn k (Rep.lt h))]; exact hu, r.inj, r.live, fun a f => by
    obtain ⟨u, q⟩ := r.fro a f
    exact ⟨u, by rw [upd_ne fun e => hf (by rw [← e]; exact f)]; exact q⟩, tabs_upd r.tab fun u e => by rw [hp] at e; cases e; exact ⟨fun _ z => (nomatch z), fun _ z => (nomatch z)⟩⟩
/-- seen from a time when nothing stood there -/
theorem Ext.side {c0 : Cn} {H0 : Hp} {n0 n : Nat} {p : Addr} {o u : HO} (e : Ext c0 H0 n0 c H n) (h0 : H0 p = none) (hp : H p = .some u) : Ext c0 H0 n0 c (upd H p o) n :=
  ⟨e.le, e.rho, e.fro, fun a xs h => by rw [upd_ne (ne_of_none h h0)]; exact e.tup a xs h, fun a x y h => by rw [upd_ne (ne_of_none h h0)]; exact e.frz a x y h, fun a x h => by rw [upd_ne (ne_of_none h h0)]; exact e.xd a x h, fun a x h t q => by rw [upd_ne (ne_of_none h h0)]; exact e.keep a x h t q,
    fun a x f h t => by rw [upd_ne (ne_of_none h h0)]; exact e.keepG a x f h t, e.new, fun a x h => by
      obtain ⟨x', q⟩ := e.there a x h
      exact ⟨x', by rw [upd_ne (ne_of_none h h0)]; exact q⟩, e.nF⟩
end
end Mm
set_option maxRecDepth 100000
/-! Expressions over the plain data. -/
namespace Mm
open PySem L2
abbrev TM := Env → Sto → R Bool
abbrev AM := Env → Sto → R (List D)
section
variable (w : Wn) (W : WX)
def XAt (c : Cn) (H : Hp) (n : Nat) (x : Exn) (C : Value) (dd : Option Addr) : Prop :=
  ∃ (a d : Addr) (vs : List V), w.Γ.at_ x.c = some a ∧ C = .ref a ∧ dd = some d ∧ vs.length ≤ (w.Γ.fs x.c).length ∧ H d = some (.xd ((w.Γ.fs x.c).zip vs)) ∧ Ats w c H n x.ds vs
/-- what an outcome asks: of each value and heap that may have come of it -/
def Po {α β : Type} (rel : Cn → Hp → Nat → α → β → Prop) (σ : St) (c : Cn) (H : Hp) (n : Nat) (r : R α) (Q : β → Hp → Prop) : Prop := match r with
  | .ok d S => ∀ c' H' v, Ext c H n c' H' S.length → Rep w c' H' S → rel c' H' S.length d v → Q v H'
  | .ex x S => ∀ c' H' C dd, Ext c H n c' H' S.length → Rep w c' H' S → XAt w c' H' S.length x C dd → W C dd σ H'
  | .bad => False
def relB (_ : Cn) (_ : Hp) (_ : Nat) (b v : Bool) : Prop := v = b
abbrev PoE := Po w W (At w)
abbrev PoA := Po w W (Ats w)
abbrev PoT := Po w W relB
def EnvR (c : Cn) (H : Hp) (n : Nat) (σ : List (Option V)) (env : Env) : Prop := σ.length = env.length ∧ ∀ (i : Nat) (d : D), env[i]? = some (some d) → ∃ v : V, σ[i]? = some (some v) ∧ At w c H n d v
def mG {α β : Type} (rel : Cn → Hp → Nat → α → β → Prop) (m : Env → Sto → R α) (σ : St) (H : Hp) (Q : β → Hp → Prop) : Prop :=
  ∃ c env S, Rep w c H S ∧ EnvR w c H S.length σ env ∧ Po w W rel σ c H S.length (m env S) Q
def mE (m : EM) : TE := fun σ H Q => mG w W (At w) m σ H Q
def mA (m : AM) : TA := fun σ H Q => mG w W (Ats w) m σ H Q
def mT (m : TM) : TT := fun σ H Q => mG w W relB m σ H Q
end
abbrev CE (Γ : Cls') (X : Cx) (W : WX) (e : Expr) (m : EM) : Prop := PE X e (mE ⟨X.K, Γ⟩ W m)
abbrev CA (Γ : Cls') (X : Cx) (W : WX) (es : List Expr) (m : AM) : Prop := PA X es (mA ⟨X.K, Γ⟩ W m)
abbrev CT (Γ : Cls') (X : Cx) (W : WX) (e : Expr) (m : TM) : Prop := PT X e (mT ⟨X.K, Γ⟩ W m)
theorem PE.weak {X : Cx} {e : Expr} {t t' : TE} (h : PE X e t) (i : ∀ σ H Q, t' σ H Q → t σ H Q) : PE X e t' := ⟨fun pins s σ H Q I q => h.run pins s σ H Q I (i σ H Q q)⟩
theorem PA.weak {X : Cx} {e : List Expr} {t t' : TA} (h : PA X e t) (i : ∀ σ H Q, t' σ H Q → t σ H Q) : PA X e t' := ⟨fun pos pins s σ H Q I q => h.run pos pins s σ H Q I (i σ H Q q)⟩
theorem PT.weak {X : Cx} {e : Expr} {t t' : TT} (h : PT X e t) (i : ∀ σ H Q, t' σ H Q → t σ H Q) : PT X e t' := ⟨fun pins s σ H Q I q => h.run pins s σ H Q I (i σ H Q q)⟩
theorem PW.weak {X : Cx} {e : Expr} {t t' : TT} (h : PW X e t) (i : ∀ σ H Q, t' σ H Q → t σ H Q) : PW X e t' := ⟨fun wh pins s σ H Q I q => h.run wh pins s σ H Q I (i σ H Q q)⟩
section
variable {w : Wn} {W : WX} {σ : St} {c c' : Cn} {H H' : Hp} {n n' : Nat} {S : Sto} {env : Env}
theorem EnvR.mono (e : Ext c H n c' H' n') (h : EnvR w c H n σ env) : EnvR w c' H' n' σ env := ⟨h.1, fun i d q => by
  obtain ⟨v, a, b⟩ := h.2 i d q
  exact ⟨v, a, b.mono e⟩⟩
theorem EnvR.get {i : Nat} {d : D} (h : EnvR w c H n σ env) (q : env[i]? = some (some d)) : ∃ v, σ[i]? = some (some v) ∧ At w c H n d v := h.2 i d q
theorem EnvR.set {i : Nat} {d : D} {v : V} (h : EnvR w c H n σ env) (a : At w c H n d v) : EnvR w c H n (σ.set i (some v)) (env.set i (some d)) := by
  refine ⟨by rw [List.length_set, List.length_set]; exact h.1, fun j d' q => ?_⟩
  by_cases e : j = i
  · subst e
    by_cases hl : j < env.length
    · rw [List.getElem?_set_self hl] at q
      cases q
      exact ⟨v, List.getElem?_set_self (by rw [h.1]; exact hl), a⟩
    · rw [List.getElem?_eq_none (by rw [List.length_set]; omega)] at q; cases q
  · rw [List.getElem?_set_ne (Ne.symm e)] at q ⊢
    exact h.2 j d' q
theorem Po.mono {α β : Type} {rel : Cn → Hp → Nat → α → β → Prop} {r : R α} {Q : β → Hp → Prop} (e : Ext c H n c' H' n') (h : Po w W rel σ c H n r Q) : Po w W rel σ c' H' n' r Q := by
  cases r with
  | ok d S => exact fun c2 H2 v e2 r2 a => h c2 H2 v (e.trans e2) r2 a
  | ex x S => exact fun c2 H2 C dd e2 r2 a => h c2 H2 C dd (e.trans e2) r2 a
  | bad => exact h.elim
theorem Po.imp {α β : Type} {rel : Cn → Hp → Nat → α → β → Prop} {r : R α} {Q Q' : β → Hp → Prop} (h : Po w W rel σ c H n r Q) (i : ∀ v H, Q v H → Q' v H) : Po w W rel σ c H n r Q' := by
  cases r with
  | ok d S => exact fun c2 H2 v e2 r2 a => i _ _ (h c2 H2 v e2 r2 a)
  | ex x S => exact h
  | bad => exact h.elim
/-- one part, then the rest -/
theorem Po.bind {α β γ δ : Type} {rel : Cn → Hp → Nat → α → β → Prop} {rel2 : Cn → Hp → Nat → γ → δ → Prop} {r : R α} {f : α → Sto → R γ} {Q : δ → Hp → Prop} (h : Po w W rel2 σ c H n (r.bind f) Q) :
    Po w W rel σ c H n r fun v H1 => ∃ c1 S1 d, Ext c H n c1 H1 S1.length ∧ Rep w c1 H1 S1 ∧ rel c1 H1 S1.length d v ∧ Po w W rel2 σ c1 H1 S1.length (f d S1) Q := by
  cases r with
  | ok d S => exact fun c2 H2 v e2 r2 a => ⟨c2, S, d, e2, r2, a, Po.mono e2 h⟩
  | ex x S => exact h
  | bad => exact h.elim
/-! ## ends -/
theorem fin_ok {d : D} {v : V} {Q : VK} (h : PoE w W σ c H S.length (.ok d S) Q) (r : Rep w c H S) (a : At w c H S.length d v) : Q v H := h c H v Ext.refl r a
theorem fin_tup {ds : List D} {vs : List V} {Q : VK} (h : PoE w W σ c H S.length (.ok (.tup ds) S) Q) (r : Rep w c H S) (a : Ats w c H S.length ds vs) {p : Addr} (hp : H p = none) : Q (.ref p) (upd H p (.tup vs)) := by
  refine h c _ (.ref p) (Ext.grow hp) (r.grow hp) ?_
  unfold At
  exact ⟨p, vs, rfl, SqT.of upd_same, a.mono (Ext.grow hp)⟩
theorem fin_lst {ds : List D} {vs : List V} {Q : VK} (h : PoE w W σ c H S.length (.ok (.lst ds) S) Q) (r : Rep w c H S) (a : Ats w c H S.length ds vs) {p : Addr} (hp : H p = none) : Q (.ref p) (upd H p (.lst vs)) := by
  refine h (c.fr p) _ (.ref p) (Ext.fr hp) (r.fr hp) ?_
  unfold At
  exact ⟨p, vs, rfl, .inr rfl, upd_same, a.mono (Ext.fr hp)⟩
theorem fin_new {ds : List D} {vs : List V} {Q : VK} (h : PoE w W σ c H S.length (.ok (.loc S.length) (S ++ [.lst ds])) Q) (r : Rep w c H S) (a : Ats w c H S.length ds vs) {p : Addr} (hp : H p = none) : Q (.ref p) (upd H p (.lst vs)) := by
  have hl : (S ++ [SO.lst ds]).length = S.length + 1 := by rw [List.length_append]; rfl
  refine h (c.nw S.length p) _ (.ref p) (by rw [hl]; exact Ext.nw hp) (r.nw hp ⟨vs, upd_same, a.mono (Ext.nw hp)⟩) ?_
  unfold At
  exact ⟨by rw [hl]; exact Nat.lt_succ_self _, by rw [Cn.nw_at]⟩
/-! ## a list: unchangeable, or in the store -/
def lstOf (S : Sto) : D → Option (List D)
  | .lst ds => some ds
  | .loc k => match S[k]? with
    | some (.lst ds) => some ds
    | _ => none
  | _ => none
@[simp] theorem lstOf_lst (S : Sto) (ds : List D) : lstOf S (.lst ds) = some ds := rfl
theorem lstOf_loc {S : Sto} {k : Nat} {ds : List D} (h : S[k]? = some (.lst ds)) : lstOf S (.loc k) = some ds := by
  show (match S[k]? with
    | some (.lst ds) => some ds
    | _ => none) = some ds
  rw [h]
theorem lstOf_at {x : D} {v : V} {ds : List D} (r : Rep w c H S) (a : At w c H S.length x v) (h : lstOf S x = some ds) : ∃ p vs, v = .ref p ∧ H p = some (.lst vs) ∧ Ats w c H S.length ds vs := by
  cases x with
  | lst es =>
    cases h
    unfold At at a
    obtain ⟨p, vs, e, f, g, t⟩ := a
    exact ⟨p, vs, e, g, t⟩
  | loc k =>
    unfold At at a
    change (match S[k]? with
      | some (.lst ds) => some ds
      | _ => none) = some ds at h
    cases hk : S[k]? with
    | none => rw [hk] at h; cases h
    | some o =>
      rw [hk] at h
      cases o with
      | lst es =>
        cases h
        obtain ⟨vs, g, t⟩ := r.get hk
        exact ⟨_, vs, a.2, g, t⟩
      | _ => cases h
  | _ => cases h
def tupOf : D → Option (List D)
  | .tup ds => some ds
  | _ => none
/-- a list or a tuple, read -/
def seqOf (S : Sto) (d : D) : Option (List D) := match d with
  | .tup ds => some ds
  | .ttp ds => some ds
  | .fz ns => some (ns.map .int)
  | d => lstOf S d
@[simp] theorem seqOf_ttp (S : Sto) (ds : List D) : seqOf S (.ttp ds) = some ds := rfl
@[simp] theorem seqOf_tup (S : Sto) (ds : List D) : seqOf S (.tup ds) = some ds := rfl
@[simp] theorem seqOf_lst (S : Sto) (ds : List D) : seqOf S (.lst ds) = some ds := rfl
@[simp] theorem seqOf_fz (S : Sto) (ns : List Int) : seqOf S (.fz ns) = some (ns.map .int) := rfl
theorem ats_ints : ∀ ns : List Int, Ats w c H n (ns.map .int) (ns.map V.int)
  | [] => .nil
  | i :: r => .cons (by unfold At; rfl) (ats_ints r)
theorem seqOf_at {x : D} {v : V} {ds : List D} (r : Rep w c H S) (a : At w c H S.length x v) (h : seqOf S x = some ds) : ∃ p vs, v = .ref p ∧ (SqL w.K H p vs ∨ SqT w.K H p vs) ∧ Ats w c H S.length ds vs := by
  have go : lstOf S x = some ds → ∃ p vs, v = .ref p ∧ (SqL w.K H p vs ∨ SqT w.K H p vs) ∧ Ats w c H S.length ds vs := fun h => by
    obtain ⟨p, vs, e, g, t⟩ := lstOf_at r a h
    exact ⟨p, vs, e, .inl (SqL.of g), t⟩
  cases x with
  | tup es =>
    cases h
    unfold At at a
    obtain ⟨p, vs, e, g, t⟩ := a
    exact ⟨p, vs, e, .inr g, t⟩
  | ttp es =>
    cases h
    unfold At at a
    obtain ⟨p, vs, e, g, t⟩ := a
    exact ⟨p, vs, e, .inr (SqT.of g), t⟩
  | fz ns =>
    cases h
    unfold At at a
    obtain ⟨p, e, g⟩ := a
    exact ⟨p, _, e, .inl g.sq, ats_ints ns⟩
  | lst es => exact go h
  | loc k => exact go h
  | _ => cases h
end
/-! ## the parts -/
section
variable {Γ : Cls'} {X : Cx} {W : WX}
def e_k (d : D) : EM := fun _ S => .ok d S
def e_v (i : Nat) : EM := fun env S => match env[i]? with
  | some (some d) => .ok d S
  | _ => .bad
@[simp] theorem e_k_eq (d : D) (env : Env) (S : Sto) : e_k d env S = .ok d S := rfl
theorem c_int {i : Int} {j pos} : CE Γ X W (.Constant (.int i) j pos) (e_k (.int i)) := PE.weak pe_int fun σ H Q ⟨c, env, S, r, ev, h⟩ => fin_ok h r (by unfold At; rfl)
theorem c_bl {b : Bool} {j pos} : CE Γ X W (.Constant (.bool b) j pos) (e_k (.bl b)) := PE.weak pe_bl fun σ H Q ⟨c, env, S, r, ev, h⟩ => fin_ok h r (by unfold At; rfl)
theorem c_non {j pos} : CE Γ X W (.Constant .none j pos) (e_k .non) := PE.weak pe_non fun σ H Q ⟨c, env, S, r, ev, h⟩ => fin_ok h r (by unfold At; rfl)
theorem c_str {x : Str} {j pos} : CE Γ X W (.Constant (.str x) j pos) (e_k (.str x)) := PE.weak pe_str fun σ H Q ⟨c, env, S, r, ev, h⟩ => fin_ok h r (by unfold At; rfl)
theorem c_var {i : Nat} {x : Str} {pos : Pos} (hN : X.N[i]? = some x) (hv : Vis X.env.scope x) (hd : (x == ("__debug__" : Str)) = false := by decide) (hcd : (x == ("__classdict__" : Str)) = false := by decide) : CE Γ X W (.Name x pos) (e_v i) :=
  PE.weak (pe_var hN hv hd hcd) fun σ H Q ⟨c, env, S, r, ev, h⟩ => by
    change PoE _ W σ c H S.length (match env[i]? with
      | some (some d) => .ok d S
      | _ => .bad) Q at h
    cases he : env[i]? with
    | none => rw [he] at h; exact h.elim
    | some o =>
      cases o with
      | none => rw [he] at h; exact h.elim
      | some d =>
        rw [he] at h
        obtain ⟨v, q, a⟩ := ev.get he
        exact ⟨v, q, fin_ok h r a⟩
/-- two operands and what is made of them -/
def e_op (g : D → D → Sto → R D) (ma mb : EM) : EM := fun env S => (ma env S).bind fun x S1 => (mb env S1).bind fun y S2 => g x y S2
/-- g is what f does -/
def GOp (Γ : Cls') (X : Cx) (g : D → D → Sto → R D) (r : R2) : Prop := ∀ (W : WX) (σ : St) (c : Cn) (H : Hp) (S : Sto) (x y : D) (v u : V) (Q : VK), Rep ⟨X.K, Γ⟩ c H S → At ⟨X.K, Γ⟩ c H S.length x v → At ⟨X.K, Γ⟩ c H S.length y u → PoE ⟨X.K, Γ⟩ W σ c H S.length (g x y S) Q → r v u H Q
variable {a b : Expr} {ma mb : EM} {pos : Pos}
theorem c_bin {op : Operator} {r : R2} {g : D → D → Sto → R D} (ho : OpR X (binaryOp op) r) (hg : GOp Γ X g r) (ha : CE Γ X W a ma) (hb : CE Γ X W b mb) : CE Γ X W (.BinOp a op b pos) (e_op g ma mb) := by
  refine PE.weak (pe_op ho ha hb) fun σ H Q ⟨c, env, S, r, ev, h⟩ => ?_
  refine ⟨c, env, S, r, ev, (Po.bind h).imp fun v H1 ⟨c1, S1, d1, e1, r1, a1, h1⟩ => ?_⟩
  refine ⟨c1, env, S1, r1, ev.mono e1, (Po.bind h1).imp fun u H2 ⟨c2, S2, d2, e2, r2, a2, h2⟩ => ?_⟩
  exact hg W σ c2 H2 S2 d1 d2 v u Q r2 (a1.mono e2) a2 h2
end
end Mm
set_option maxRecDepth 100000
/-! Operators over the plain data. -/
namespace Mm
open PySem L2
section
variable {w : Wn} {W : WX} {σ : St} {c c' : Cn} {H H' : Hp} {n n' : Nat} {S : Sto} {env : Env}
/-! ## as data -/
mutual
def pyD : D → Option PyData
  | .non => some .none
  | .bl b => some (.bool b)
  | .int i => some (.int i)
  | .str x => some (.str x)
  | .lst ds => (pyDs ds).map .list
  | .tup ds => (pyDs ds).map .tuple
  | _ => none
def pyDs : List D → Option (List PyData)
  | [] => some []
  | d :: r => (pyD d).bind fun p => (pyDs r).map fun q => p :: q
end
mutual
theorem pyD_at : ∀ (d : D) (v : V) (p : PyData), At w c H n d v → pyD d = some p → Dp w.K H v p
  | .non, v, p, a, h => by unfold At at a; unfold pyD at h; cases h; rw [a]; exact .non
  | .bl b, v, p, a, h => by unfold At at a; unfold pyD at h; cases h; rw [a]; exact .bl b
  | .int i, v, p, a, h => by unfold At at a; unfold pyD at h; cases h; rw [a]; exact .int i
  | .str x, v, p, a, h => by unfold At at a; unfold pyD at h; cases h; rw [a]; exact .str x
  | .lst ds, v, p, a, h => by
    unfold At at a; unfold pyD at h
    obtain ⟨q, vs, e, f, g, t⟩ := a
    cases hq : pyDs ds with
    | none => rw [hq] at h; cases h
    | some ps => rw [hq] at h; cases h; rw [e]; exact .lst (SqL.of g) (pyDs_at ds vs ps t hq)
  | .tup ds, v, p, a, h => by
    unfold At at a; unfold pyD at h
    obtain ⟨q, vs, e, g, t⟩ := a
    cases hq : pyDs ds with
    | none => rw [hq] at h; cases h
    | some ps => rw [hq] at h; cases h; rw [e]; exact .tup g (pyDs_at ds vs ps t hq)
  | .dic _ _, _, _, _, h => by unfold pyD at h; cases h
  | .obj _ _, _, _, _, h => by unfold pyD at h; cases h
  | .fz _, _, _, _, h => by unfold pyD at h; cases h
  | .loc _, _, _, _, h => by unfold pyD at h; cases h
  | .oth _, _, _, _, h => by unfold pyD at h; cases h
  | .ttp _, _, _, _, h => by unfold pyD at h; cases h
  | .xn _ _, _, _, _, h => by unfold pyD at h; cases h
theorem pyDs_at : ∀ (ds : List D) (vs : List V) (ps : List PyData), Ats w c H n ds vs → pyDs ds = some ps → DpAll w.K H vs ps
  | [], vs, ps, a, h => by unfold Ats at a; unfold pyDs at h; cases h; rw [a]; exact .nil
  | d :: r, vs, ps, a, h => by
    unfold Ats at a; unfold pyDs at h
    obtain ⟨v, vr, e, a1, a2⟩ := a
    cases h1 : pyD d with
    | none => rw [h1] at h; cases h
    | some p =>
      rw [h1] at h
      cases h2 : pyDs r with
      | none => rw [h2] at h; cases h
      | some q => rw [h2] at h; cases h; rw [e]; exact .cons (pyD_at d v p a1 h1) (pyDs_at r vr q a2 h2)
end
def pyOf (S : Sto) (d : D) : Option PyData := match d with
  | .loc k => match S[k]? with
    | some (.lst ds) => (pyDs ds).map .list
    | _ => none
  | d => pyD d
theorem pyOf_at {d : D} {v : V} {p : PyData} (r : Rep w c H S) (a : At w c H S.length d v) (h : pyOf S d = some p) : Dp w.K H v p := by
  cases d with
  | loc k =>
    unfold At at a
    change (match S[k]? with
      | some (.lst ds) => (pyDs ds).map .list
      | _ => none) = some p at h
    cases hk : S[k]? with
    | none => rw [hk] at h; cases h
    | some o =>
      rw [hk] at h
      cases o with
      | lst es =>
        obtain ⟨vs, g, t⟩ := r.get hk
        rw [a.2]
        cases hq : pyDs es with
        | none => simp only [hq] at h; cases h
        | some ps => simp only [hq] at h; cases h; exact .lst (SqL.of g) (pyDs_at es vs ps t hq)
      | _ => cases h
  | _ => exact pyD_at _ v p a h
/-! ## what operators do -/
def R.if {α : Type} (b : Prop) [Decidable b] (r : R α) : R α := if b then r else .bad
@[simp] theorem R.if_pos {α : Type} {b : Prop} [Decidable b] {r : R α} (h : b) : R.if b r = r := _root_.if_pos h
theorem Po.if {α β : Type} {rel : Cn → Hp → Nat → α → β → Prop} {b : Prop} [Decidable b] {r : R α} {Q : β → Hp → Prop} (h : Po w W rel σ c H n (R.if b r) Q) : b ∧ Po w W rel σ c H n r Q := by
  unfold R.if at h
  by_cases hb : b
  · rw [_root_.if_pos hb] at h; exact ⟨hb, h⟩
  · rw [if_neg hb] at h; exact h.elim
def addL (S : Sto) (x y : D) : R D := match lstOf S x, lstOf S y with
  | some a, some b => .if (a.length + b.length ≤ sizeLine) (.ok (.lst (a ++ b)) S)
  | _, _ => .bad
def addD (x y : D) (S : Sto) : R D := match x, y with
  | .int i, .int j => .ok (.int (i + j)) S
  | .str a, .str b => .if (a.length + b.length ≤ sizeLine) (.ok (.str (a ++ b)) S)
  | .tup a, .tup b => .if (a.length + b.length ≤ sizeLine) (.ok (.tup (a ++ b)) S)
  | .lst a, y => addL S (.lst a) y
  | .loc a, y => addL S (.loc a) y
  | _, _ => .bad
def rAdd4 (K : PySem.W.Frag) : R2 := fun x y H Q => (((∃ i j, x = .int i ∧ y = .int j ∧ Q (.int (i + j)) H) ∨ (∃ i j, x = .str i ∧ y = .str j ∧ i.length + j.length ≤ sizeLine ∧ Q (.str (i ++ j)) H)) ∨ rCatA K x y H Q) ∨ rCat x y H Q
theorem op_add4 {X : Cx} : OpR X (binaryOp .Add) (rAdd4 X.K) := ((op_add.or op_add_str).or op_catA).or op_cat
theorem At.int {i : Int} {v : V} (h : At w c H n (.int i) v) : v = .int i := by unfold At at h; exact h
theorem At.str {i : Str} {v : V} (h : At w c H n (.str i) v) : v = .str i := by unfold At at h; exact h
theorem At.bl {i : Bool} {v : V} (h : At w c H n (.bl i) v) : v = .bl i := by unfold At at h; exact h
theorem At.non {v : V} (h : At w c H n .non v) : v = .non := by unfold At at h; exact h
theorem At.tup {ds : List D} {v : V} (h : At w c H n (.tup ds) v) : ∃ a vs, v = .ref a ∧ SqT w.K H a vs ∧ Ats w c H n ds vs := by unfold At at h; exact h
theorem At.i (i : Int) : At w c H n (.int i) (.int i) := by unfold At; rfl
theorem At.b (b : Bool) : At w c H n (.bl b) (.bl b) := by unfold At; rfl
theorem At.s (x : Str) : At w c H n (.str x) (.str x) := by unfold At; rfl
theorem At.o : At w c H n .non .non := by unfold At; rfl
theorem addL_at {x y : D} {v u : V} {Q : VK} (r : Rep w c H S) (a : At w c H S.length x v) (b : At w c H S.length y u) (h : PoE w W σ c H S.length (addL S x y) Q) : rCat v u H Q := by
  unfold addL at h
  cases hx : lstOf S x with
  | none => rw [hx] at h; exact h.elim
  | some as =>
    cases hy : lstOf S y with
    | none => rw [hx, hy] at h; exact h.elim
    | some bs =>
      rw [hx, hy] at h
      obtain ⟨hl, h⟩ := Po.if h
      obtain ⟨p, vs, rfl, g, t⟩ := lstOf_at r a hx
      obtain ⟨q, us, rfl, g', t'⟩ := lstOf_at r b hy
      exact ⟨p, q, vs, us, rfl, rfl, g, g', by rw [t.len, t'.len]; exact hl, fun z hz => fin_lst h r (t.app t') hz⟩
theorem g_add {Γ : Cls'} {X : Cx} : GOp Γ X addD (rAdd4 X.K) := by
  intro W σ c H S x y v u Q r a b h
  cases x with
  | int i =>
    cases y with
    | int j => exact .inl (.inl (.inl ⟨i, j, a.int, b.int, fin_ok h r (.i _)⟩))
    | _ => exact h.elim
  | str i =>
    cases y with
    | str j =>
      obtain ⟨hl, h⟩ := Po.if h
      exact .inl (.inl (.inr ⟨i, j, a.str, b.str, hl, fin_ok h r (.s _)⟩))
    | _ => exact h.elim
  | tup i =>
    cases y with
    | tup j =>
      obtain ⟨hl, h⟩ := Po.if h
      have a' := a
      have b' := b
      obtain ⟨p, vs, rfl, g, t⟩ := a.tup
      obtain ⟨q, us, rfl, g', t'⟩ := b.tup
      refine .inl (.inr ⟨p, q, vs, us, rfl, rfl, g, g', by rw [t.len, t'.len]; exact hl, fun e => ?_, fun _ e => ?_, fun _ _ z hz => fin_tup h r (t.app t') hz⟩)
      · have : i = [] := by
          have := t.len; rw [e] at this; exact List.length_eq_zero_iff.mp this.symm
        subst this
        exact fin_ok h r b'
      · have : j = [] := by
          have := t'.len; rw [e] at this; exact List.length_eq_zero_iff.mp this.symm
        subst this
        exact fin_ok h r (by rw [List.append_nil]; exact a')
    | _ => exact h.elim
  | lst i => exact .inr (addL_at r a b h)
  | loc k => exact .inr (addL_at r a b h)
  | _ => exact h.elim
@[simp] theorem addD_int (i j : Int) (S : Sto) : addD (.int i) (.int j) S = .ok (.int (i + j)) S := rfl
@[simp] theorem addD_str (i j : Str) (S : Sto) : addD (.str i) (.str j) S = .if (i.length + j.length ≤ sizeLine) (.ok (.str (i ++ j)) S) := rfl
@[simp] theorem addD_tup (i j : List D) (S : Sto) : addD (.tup i) (.tup j) S = .if (i.length + j.length ≤ sizeLine) (.ok (.tup (i ++ j)) S) := rfl
@[simp] theorem addD_ll (i j : List D) (S : Sto) : addD (.lst i) (.lst j) S = .if (i.length + j.length ≤ sizeLine) (.ok (.lst (i ++ j)) S) := rfl
/-- two ints -/
def intD (C : Int → Int → Prop) [∀ i j, Decidable (C i j)] (f : Int → Int → D) (x y : D) (S : Sto) : R D := match x, y with
  | .int i, .int j => .if (C i j) (.ok (f i j) S)
  | _, _ => .bad
def intD0 (f : Int → Int → D) (x y : D) (S : Sto) : R D := match x, y with
  | .int i, .int j => .ok (f i j) S
  | _, _ => .bad
@[simp] theorem intD_int (C : Int → Int → Prop) [∀ i j, Decidable (C i j)] (f : Int → Int → D) (i j : Int) (S : Sto) : intD C f (.int i) (.int j) S = .if (C i j) (.ok (f i j) S) := rfl
@[simp] theorem intD0_int (f : Int → Int → D) (i j : Int) (S : Sto) : intD0 f (.int i) (.int j) S = .ok (f i j) S := rfl
def DV : D → Option V
  | .int i => some (.int i)
  | .bl b => some (.bl b)
  | .str x => some (.str x)
  | .non => some .non
  | _ => none
theorem DV.at {d : D} {v : V} (h : DV d = some v) : At w c H n d v := by
  cases d with
  | int i => cases h; exact .i _
  | bl i => cases h; exact .b _
  | str i => cases h; exact .s _
  | non => cases h; exact .o
  | _ => cases h
theorem g_int {Γ : Cls'} {X : Cx} {C : Int → Int → Prop} [∀ i j, Decidable (C i j)] {f : Int → Int → D} {fv : Int → Int → V} (hf : ∀ i j, DV (f i j) = some (fv i j)) : GOp Γ X (intD C f) (rI C fv) := by
  intro W σ c H S x y v u Q r a b h
  cases x with
  | int i =>
    cases y with
    | int j =>
      obtain ⟨hl, h⟩ := Po.if h
      exact ⟨i, j, a.int, b.int, hl, fin_ok h r (DV.at (hf i j))⟩
    | _ => exact h.elim
  | _ => cases y <;> exact h.elim
theorem g_int0 {Γ : Cls'} {X : Cx} {f : Int → Int → D} {fv : Int → Int → V} (hf : ∀ i j, DV (f i j) = some (fv i j)) : GOp Γ X (intD0 f) (rI0 fv) := by
  intro W σ c H S x y v u Q r a b h
  cases x with
  | int i =>
    cases y with
    | int j => exact ⟨i, j, a.int, b.int, fin_ok h r (DV.at (hf i j))⟩
    | _ => exact h.elim
  | _ => cases y <;> exact h.elim
instance : ∀ i j, Decidable (CDiv i j) := fun _ _ => inferInstanceAs (Decidable (_ ∧ _))
instance : ∀ i j, Decidable (CPow i j) := fun _ _ => inferInstanceAs (Decidable (_ ∧ _ ∧ _))
instance : ∀ i j, Decidable (CMul i j) := fun _ _ => inferInstanceAs (Decidable (_ ∨ _))
instance : ∀ i j, Decidable (CMulW i j) := fun _ _ => inferInstanceAs (Decidable (_ < _))
def repD (x y : D) (S : Sto) : R D := match y with
  | .int k => match lstOf S x with
    | some a => .if (-(2 ^ 63) ≤ k ∧ k < 2 ^ 63 ∧ a.length * k.toNat ≤ sizeLine) (.ok (.lst (List.replicate k.toNat a).flatten) S)
    | none => .bad
  | _ => .bad
def mulD (x y : D) (S : Sto) : R D := match x, y with
  | .int i, .int j => .if (CMul i j ∨ CMulW i j) (.ok (.int (i * j)) S)
  | x, y => repD x y S
@[simp] theorem mulD_int (i j : Int) (S : Sto) : mulD (.int i) (.int j) S = .if (CMul i j ∨ CMulW i j) (.ok (.int (i * j)) S) := rfl
def rMul3 : R2 := fun x y H Q => ((rI CMul fun i j => .int (i * j)) x y H Q ∨ (rI CMulW fun i j => .int (i * j)) x y H Q) ∨ rRep x y H Q
theorem op_mul3 {X : Cx} : OpR X (binaryOp .Mult) rMul3 := (op_mul.or op_mulW).or op_rep
theorem ats_rep {ds : List D} {vs : List V} (t : Ats w c H n ds vs) : ∀ k, Ats w c H n (List.replicate k ds).flatten (List.replicate k vs).flatten
  | 0 => .nil
  | k + 1 => by rw [List.replicate_succ, List.replicate_succ, List.flatten_cons, List.flatten_cons]; exact t.app (ats_rep t k)
theorem g_mul {Γ : Cls'} {X : Cx} : GOp Γ X mulD rMul3 := by
  intro W σ c H S x y v u Q r a b h
  have go : PoE ⟨X.K, Γ⟩ W σ c H S.length (repD x y S) Q → rMul3 v u H Q := fun h => by
    unfold repD at h
    cases y with
    | int k =>
      dsimp only at h
      cases hx : lstOf S x with
      | none => rw [hx] at h; exact h.elim
      | some as =>
        rw [hx] at h
        obtain ⟨⟨k1, k2, hl⟩, h⟩ := Po.if h
        obtain ⟨p, vs, rfl, g, t⟩ := lstOf_at r a hx
        exact .inr ⟨p, k, vs, rfl, b.int, g, k1, k2, by rw [t.len]; exact hl, fun z hz => fin_lst h r (ats_rep t _) hz⟩
    | _ => exact h.elim
  cases x with
  | int i =>
    cases y with
    | int j =>
      obtain ⟨hl, h⟩ := Po.if h
      rcases hl with hl | hl
      · exact .inl (.inl ⟨i, j, a.int, b.int, hl, fin_ok h r (.i _)⟩)
      · exact .inl (.inr ⟨i, j, a.int, b.int, hl, fin_ok h r (.i _)⟩)
    | _ => exact go h
  | _ => exact go h
/-! ## comparisons -/
def eqD (neg : Bool) (x y : D) (S : Sto) : R D := match x, y with
  | .int i, .int j => .ok (.bl (neg ^^ decide (i = j))) S
  | .str i, .str j => .ok (.bl (neg ^^ decide (i = j))) S
  | x, y => match pyOf S x, pyOf S y with
    | some p, some q => .if (SeqAt.shaped p = true ∧ SeqAt.shaped q = true) (.ok (.bl (neg ^^ PyData.eqv p q)) S)
    | _, _ => .bad
@[simp] theorem eqD_int (neg : Bool) (i j : Int) (S : Sto) : eqD neg (.int i) (.int j) S = .ok (.bl (neg ^^ decide (i = j))) S := rfl
@[simp] theorem eqD_str (neg : Bool) (i j : Str) (S : Sto) : eqD neg (.str i) (.str j) S = .ok (.bl (neg ^^ decide (i = j))) S := rfl
def rEq2 (K : PySem.W.Frag) : R2 := fun x y H Q => rEq x y H Q ∨ rEqD K x y H Q
def rNe2 (K : PySem.W.Frag) : R2 := fun x y H Q => rNe x y H Q ∨ rNeD K x y H Q
theorem op_eq2 {X : Cx} (hu : X.A.units + 64 < cLine) : OpR X (compareOp .Eq) (rEq2 X.K) := op_eq.or (op_eqD hu)
theorem op_ne2 {X : Cx} (hu : X.A.units + 64 < cLine) : OpR X (compareOp .NotEq) (rNe2 X.K) := op_ne.or (op_neD hu)
theorem dint {i j : Int} : decide (V.int i = V.int j) = decide (i = j) := by by_cases h : i = j <;> simp [h]
theorem dstr {i j : Str} : decide (V.str i = V.str j) = decide (i = j) := by by_cases h : i = j <;> simp [h]
theorem eqD_at {neg : Bool} {x y : D} {v u : V} {Q : VK} (r : Rep w c H S) (a : At w c H S.length x v) (b : At w c H S.length y u) (h : PoE w W σ c H S.length (eqD neg x y S) Q) :
    (scal v u = true ∧ Q (.bl (neg ^^ decide (v = u))) H) ∨ ∃ d e, Dp w.K H v d ∧ Dp w.K H u e ∧ SeqAt.shaped d = true ∧ SeqAt.shaped e = true ∧ Q (.bl (neg ^^ PyData.eqv d e)) H := by
  have go : PoE w W σ c H S.length (match pyOf S x, pyOf S y with
    | some p, some q => .if (SeqAt.shaped p = true ∧ SeqAt.shaped q = true) (.ok (.bl (neg ^^ PyData.eqv p q)) S)
    | _, _ => .bad) Q → ((scal v u = true ∧ Q (.bl (neg ^^ decide (v = u))) H) ∨ ∃ d e, Dp w.K H v d ∧ Dp w.K H u e ∧ SeqAt.shaped d = true ∧ SeqAt.shaped e = true ∧ Q (.bl (neg ^^ PyData.eqv d e)) H) := fun h => by
    cases hx : pyOf S x with
    | none => rw [hx] at h; exact h.elim
    | some p =>
      cases hy : pyOf S y with
      | none => rw [hx, hy] at h; exact h.elim
      | some q =>
        rw [hx, hy] at h
        obtain ⟨⟨s1, s2⟩, h⟩ := Po.if h
        exact .inr ⟨p, q, pyOf_at r a hx, pyOf_at r b hy, s1, s2, fin_ok h r (.b _)⟩
  cases x with
  | int i =>
    cases y with
    | int j =>
      left
      have e1 := a.int; have e2 := b.int
      subst e1; subst e2
      refine ⟨rfl, ?_⟩
      rw [dint]
      exact fin_ok h r (.b _)
    | _ => exact go h
  | str i =>
    cases y with
    | str j =>
      left
      have e1 := a.str; have e2 := b.str
      subst e1; subst e2
      refine ⟨rfl, ?_⟩
      rw [dstr]
      exact fin_ok h r (.b _)
    | _ => exact go h
  | _ => exact go h
theorem g_eq {Γ : Cls'} {X : Cx} : GOp Γ X (eqD false) (rEq2 X.K) := by
  intro W σ c H S x y v u Q r a b h
  rcases eqD_at r a b h with ⟨h1, h2⟩ | ⟨d, e, h1, h2, h3, h4, h5⟩
  · exact .inl ⟨h1, by simpa using h2⟩
  · exact .inr ⟨d, e, h1, h2, h3, h4, by simpa using h5⟩
theorem g_ne {Γ : Cls'} {X : Cx} : GOp Γ X (eqD true) (rNe2 X.K) := by
  intro W σ c H S x y v u Q r a b h
  rcases eqD_at r a b h with ⟨h1, h2⟩ | ⟨d, e, h1, h2, h3, h4, h5⟩
  · exact .inl ⟨h1, by simpa using h2⟩
  · exact .inr ⟨d, e, h1, h2, h3, h4, by simpa using h5⟩
def isNon : D → Bool
  | .non => true
  | _ => false
def isD (neg : Bool) (x y : D) (S : Sto) : R D := match y with
  | .non => .ok (.bl (neg ^^ isNon x)) S
  | _ => .bad
@[simp] theorem isD_non (neg : Bool) (x : D) (S : Sto) : isD neg x .non S = .ok (.bl (neg ^^ isNon x)) S := rfl
theorem isNon_at {x : D} {v : V} (a : At w c H n x v) : decide (v = .non) = isNon x := by
  cases x with
  | non => rw [a.non]; rfl
  | int i => rw [a.int]; rfl
  | str i => rw [a.str]; rfl
  | bl i => rw [a.bl]; rfl
  | tup ds => unfold At at a; obtain ⟨p, vs, rfl, _⟩ := a; rfl
  | ttp ds => unfold At at a; obtain ⟨p, vs, rfl, _⟩ := a; rfl
  | lst ds => unfold At at a; obtain ⟨p, vs, rfl, _⟩ := a; rfl
  | dic ds => unfold At at a; obtain ⟨p, vs, rfl, _⟩ := a; rfl
  | obj ds => unfold At at a; obtain ⟨p, vs, C, dx, rfl, _⟩ := a; rfl
  | fz ds => unfold At at a; obtain ⟨p, rfl, _⟩ := a; rfl
  | loc k => unfold At at a; rw [a.2]; rfl
  | xn k ds => unfold At at a; obtain ⟨p, dd, C, vs, rfl, _⟩ := a; rfl
  | oth u =>
    unfold At at a
    obtain ⟨rfl, n⟩ := a
    cases v <;> first | rfl | cases n
end
end Mm
set_option maxRecDepth 100000
/-! More expressions over the plain data. -/
namespace Mm
open PySem L2
section
variable {w : Wn} {W : WX} {σ : St} {c c' : Cn} {H H' : Hp} {n n' : Nat} {S : Sto} {env : Env}
variable {Γ : Cls'} {X : Cx} {a b e : Expr} {ma mb : EM} {pos : Pos}
theorem c_cmp {op : CmpOp} {r : R2} {g : D → D → Sto → R D} (ho : OpR X (compareOp op) r) (hg : GOp Γ X g r) (ha : CE Γ X W a ma) (hb : CE Γ X W b mb) (hm : behindInMarks op b = false) : CE Γ X W (.Compare a [op] [b] pos) (e_op g ma mb) := by
  refine PE.weak (pe_cmpR ho ha hb hm) fun σ H Q ⟨c, env, S, r, ev, h⟩ => ?_
  refine ⟨c, env, S, r, ev, (Po.bind h).imp fun v H1 ⟨c1, S1, d1, e1, r1, a1, h1⟩ => ?_⟩
  refine ⟨c1, env, S1, r1, ev.mono e1, (Po.bind h1).imp fun u H2 ⟨c2, S2, d2, e2, r2, a2, h2⟩ => ?_⟩
  exact hg W σ c2 H2 S2 d1 d2 v u Q r2 (a1.mono e2) a2 h2
/-- a value's truth -/
def truD (S : Sto) (d : D) : Option Bool := match d with
  | .bl b => some b
  | .non => some false
  | .int i => some (i != 0)
  | .str x => if x.length ≤ sizeLine then some ((x.length : Int) != 0) else none
  | d => (seqOf S d).map fun ds => !ds.isEmpty
@[simp] theorem truD_bl (S : Sto) (b : Bool) : truD S (.bl b) = some b := rfl
@[simp] theorem truD_int (S : Sto) (i : Int) : truD S (.int i) = some (i != 0) := rfl
@[simp] theorem truD_tup (S : Sto) (ds : List D) : truD S (.tup ds) = some (!ds.isEmpty) := rfl
@[simp] theorem truD_lst (S : Sto) (ds : List D) : truD S (.lst ds) = some (!ds.isEmpty) := rfl
@[simp] theorem truD_non (S : Sto) : truD S .non = some false := rfl
theorem isEmpty_eq {α β : Type} {x : List α} {y : List β} (h : x.length = y.length) : x.isEmpty = y.isEmpty := by
  cases x <;> cases y <;> simp_all
theorem truD_at {d : D} {v : V} {k : Bool} (r : Rep w c H S) (a : At w c H S.length d v) (h : truD S d = some k) : TruV w.K v H k := by
  have go : ∀ ds, seqOf S d = some ds → k = !ds.isEmpty → TruV w.K v H k := fun ds h e => by
    obtain ⟨p, vs, rfl, g, t⟩ := seqOf_at r a h
    rw [← isEmpty_eq t.len] at e
    rcases g with g | g
    · exact .inl ⟨vs, g, e⟩
    · exact .inr (.inl ⟨vs, g, e⟩)
  have go2 : (seqOf S d).map (fun ds => !ds.isEmpty) = some k → TruV w.K v H k := fun h => by
    cases hs : seqOf S d with
    | none => rw [hs] at h; cases h
    | some ds => rw [hs] at h; cases h; exact go ds hs rfl
  cases d with
  | bl b => cases h; rw [a.bl]; rfl
  | non => cases h; rw [a.non]; rfl
  | int i => cases h; rw [a.int]; rfl
  | str x =>
    change (if x.length ≤ sizeLine then some ((x.length : Int) != 0) else none) = some k at h
    by_cases hl : x.length ≤ sizeLine
    · rw [if_pos hl] at h; cases h; rw [a.str]; exact ⟨hl, rfl⟩
    · rw [if_neg hl] at h; cases h
  | tup ds => exact go2 h
  | ttp ds => exact go2 h
  | lst ds => exact go2 h
  | fz ns => exact go2 h
  | loc k => exact go2 h
  | dic ks ds => cases h
  | obj k ds => cases h
  | oth u => cases h
  | xn k ds => cases h
def R.ofO {α : Type} (o : Option α) (S : Sto) : R α := match o with
  | some a => .ok a S
  | none => .bad
@[simp] theorem R.ofO_some {α : Type} (a : α) (S : Sto) : R.ofO (some a) S = .ok a S := rfl
theorem Po.ofO {α β : Type} {rel : Cn → Hp → Nat → α → β → Prop} {o : Option α} {Q : β → Hp → Prop} (h : Po w W rel σ c H n (R.ofO o S) Q) : ∃ a, o = some a ∧ Po w W rel σ c H n (.ok a S) Q := by
  cases o with
  | none => exact h.elim
  | some a => exact ⟨a, rfl, h⟩
def t_v (m : EM) : TM := fun env S => (m env S).bind fun d S1 => .ofO (truD S1 d) S1
theorem c_tru (ha : CE Γ X W a ma) (he : ∀ whole, isTrue a X.env whole = (do let v ← whole; standAt a.pos; holding [v] (truthy v)) := by intro _; rfl) : CT Γ X W a (t_v ma) := by
  refine PT.weak (pt_truth ha he) fun σ H Q ⟨c, env, S, r, ev, h⟩ => ?_
  refine ⟨c, env, S, r, ev, (Po.bind h).imp fun v H1 ⟨c1, S1, d1, e1, r1, a1, h1⟩ => ?_⟩
  obtain ⟨k, hk, h1⟩ := Po.ofO h1
  exact ⟨k, truD_at r1 a1 hk, h1 c1 H1 k Ext.refl r1 rfl⟩
/-- a comparison whose answer is a bool, as a test -/
def blD : D → Option Bool
  | .bl b => some b
  | _ => none
def t_b (m : EM) : TM := fun env S => (m env S).bind fun d S1 => .ofO (blD d) S1
@[simp] theorem blD_bl (b : Bool) : blD (.bl b) = some b := rfl
theorem tB_ok {m : EM} {σ : St} {H : Hp} {Q : Bool → Hp → Prop} (h : mT w W (t_b m) σ H Q) : mE w W m σ H fun x H' => ∃ k, x = .bl k ∧ Q k H' := by
  obtain ⟨c, env, S, r, ev, h⟩ := h
  refine ⟨c, env, S, r, ev, (Po.bind h).imp fun v H1 ⟨c1, S1, d1, e1, r1, a1, h1⟩ => ?_⟩
  obtain ⟨k, hk, h1⟩ := Po.ofO h1
  cases d1 with
  | bl b =>
    cases hk
    exact ⟨_, a1.bl, h1 c1 H1 _ Ext.refl r1 rfl⟩
  | _ => cases hk
theorem c_tcmp {op : CmpOp} {r : R2} {g : D → D → Sto → R D} (ho : OpR X (compareOp op) r) (hg : GOp Γ X g r) (ha : CE Γ X W a ma) (hb : CE Γ X W b mb) (hm : behindInMarks op b = false) : CT Γ X W (.Compare a [op] [b] pos) (t_b (e_op g ma mb)) := by
  refine PT.weak (pt_cmpR ho ha hb hm) fun σ H Q h => ?_
  obtain ⟨c, env, S, r, ev, h⟩ := tB_ok h
  refine ⟨c, env, S, r, ev, (Po.bind h).imp fun v H1 ⟨c1, S1, d1, e1, r1, a1, h1⟩ => ?_⟩
  refine ⟨c1, env, S1, r1, ev.mono e1, (Po.bind h1).imp fun u H2 ⟨c2, S2, d2, e2, r2, a2, h2⟩ => ?_⟩
  exact hg W σ c2 H2 S2 d1 d2 v u _ r2 (a1.mono e2) a2 h2
/-! ## and, or, not, if -/
def t_and (p q : TM) : TM := fun env S => (p env S).bind fun k S1 => if k = true then q env S1 else .ok false S1
def t_or (p q : TM) : TM := fun env S => (p env S).bind fun k S1 => if k = true then .ok true S1 else q env S1
def t_not (p : TM) : TM := fun env S => (p env S).bind fun k S1 => .ok (!k) S1
def e_and (p q : EM) : EM := fun env S => (p env S).bind fun d S1 => match d with
  | .bl true => q env S1
  | .bl false => .ok (.bl false) S1
  | _ => .bad
def e_or (p q : EM) : EM := fun env S => (p env S).bind fun d S1 => match d with
  | .bl true => .ok (.bl true) S1
  | .bl false => q env S1
  | _ => .bad
def e_not (p : EM) : EM := fun env S => (p env S).bind fun d S1 => match d with
  | .bl k => .ok (.bl (!k)) S1
  | _ => .bad
def e_if (t : TM) (p q : EM) : EM := fun env S => (t env S).bind fun k S1 => if k = true then p env S1 else q env S1
variable {pm qm : TM} {rest : List Expr}
abbrev CW (Γ : Cls') (X : Cx) (W : WX) (e : Expr) (m : TM) : Prop := PW X e (mT ⟨X.K, Γ⟩ W m)
theorem c_wand1 (ha : CT Γ X W a pm) : CW Γ X W (.BoolOp .And [a] pos) pm := pw_and1 ha
theorem c_wor1 (ha : CT Γ X W a pm) : CW Γ X W (.BoolOp .Or [a] pos) pm := pw_or1 ha
theorem c_wand (ha : CT Γ X W a pm) (hb : CW Γ X W (.BoolOp .And (b :: rest) pos) qm) : CW Γ X W (.BoolOp .And (a :: b :: rest) pos) (t_and pm qm) := by
  refine PW.weak (pw_and ha hb) fun σ H Q ⟨c, env, S, r, ev, h⟩ => ?_
  refine ⟨c, env, S, r, ev, (Po.bind h).imp fun k H1 ⟨c1, S1, d1, e1, r1, a1, h1⟩ => ?_⟩
  cases (show k = d1 from a1)
  cases k with
  | true => exact ⟨c1, env, S1, r1, ev.mono e1, h1⟩
  | false => exact h1 c1 H1 false Ext.refl r1 rfl
theorem c_wor (ha : CT Γ X W a pm) (hb : CW Γ X W (.BoolOp .Or (b :: rest) pos) qm) : CW Γ X W (.BoolOp .Or (a :: b :: rest) pos) (t_or pm qm) := by
  refine PW.weak (pw_or ha hb) fun σ H Q ⟨c, env, S, r, ev, h⟩ => ?_
  refine ⟨c, env, S, r, ev, (Po.bind h).imp fun k H1 ⟨c1, S1, d1, e1, r1, a1, h1⟩ => ?_⟩
  cases (show k = d1 from a1)
  cases k with
  | false => exact ⟨c1, env, S1, r1, ev.mono e1, h1⟩
  | true => exact h1 c1 H1 true Ext.refl r1 rfl
theorem c_wt (h : CW Γ X W e pm) : CT Γ X W e pm := h.pt
theorem c_tnot (ha : CT Γ X W a pm) : CT Γ X W (.UnaryOp .Not a pos) (t_not pm) := by
  refine PT.weak (pt_not ha) fun σ H Q ⟨c, env, S, r, ev, h⟩ => ?_
  refine ⟨c, env, S, r, ev, (Po.bind h).imp fun k H1 ⟨c1, S1, d1, e1, r1, a1, h1⟩ => ?_⟩
  cases (show k = d1 from a1)
  exact h1 c1 H1 _ Ext.refl r1 rfl
theorem c_one {op} (ha : CE Γ X W a ma) : CE Γ X W (.BoolOp op [a] pos) ma := pe_one ha
theorem c_and (ha : CE Γ X W a ma) (hb : CE Γ X W (.BoolOp .And (b :: rest) pos) mb) : CE Γ X W (.BoolOp .And (a :: b :: rest) pos) (e_and ma mb) := by
  refine PE.weak (pe_and ha hb) fun σ H Q ⟨c, env, S, r, ev, h⟩ => ?_
  refine ⟨c, env, S, r, ev, (Po.bind h).imp fun v H1 ⟨c1, S1, d1, e1, r1, a1, h1⟩ => ?_⟩
  cases d1 with
  | bl k =>
    refine ⟨k, a1.bl, ?_⟩
    cases k with
    | true => exact ⟨c1, env, S1, r1, ev.mono e1, h1⟩
    | false => exact fin_ok h1 r1 (.b _)
  | _ => exact h1.elim
theorem c_or (ha : CE Γ X W a ma) (hb : CE Γ X W (.BoolOp .Or (b :: rest) pos) mb) : CE Γ X W (.BoolOp .Or (a :: b :: rest) pos) (e_or ma mb) := by
  refine PE.weak (pe_or ha hb) fun σ H Q ⟨c, env, S, r, ev, h⟩ => ?_
  refine ⟨c, env, S, r, ev, (Po.bind h).imp fun v H1 ⟨c1, S1, d1, e1, r1, a1, h1⟩ => ?_⟩
  cases d1 with
  | bl k =>
    refine ⟨k, a1.bl, ?_⟩
    cases k with
    | false => exact ⟨c1, env, S1, r1, ev.mono e1, h1⟩
    | true => exact fin_ok h1 r1 (.b _)
  | _ => exact h1.elim
theorem c_ifx {t : Expr} (ht : CT Γ X W t pm) (ha : CE Γ X W a ma) (hb : CE Γ X W b mb) : CE Γ X W (.IfExp t a b pos) (e_if pm ma mb) := by
  refine PE.weak (pe_ifExp ht ha hb) fun σ H Q ⟨c, env, S, r, ev, h⟩ => ?_
  refine ⟨c, env, S, r, ev, (Po.bind h).imp fun k H1 ⟨c1, S1, d1, e1, r1, a1, h1⟩ => ?_⟩
  cases (show k = d1 from a1)
  cases k with
  | true => exact ⟨c1, env, S1, r1, ev.mono e1, h1⟩
  | false => exact ⟨c1, env, S1, r1, ev.mono e1, h1⟩
/-! ## arguments, displays -/
def a_nil : AM := fun _ S => .ok [] S
def a_cons (m : EM) (r : AM) : AM := fun env S => (m env S).bind fun d S1 => (r env S1).bind fun ds S2 => .ok (d :: ds) S2
variable {es : List Expr} {am : AM}
theorem c_anil : CA Γ X W [] a_nil := PA.weak pa_nil fun σ H Q ⟨c, env, S, r, ev, h⟩ => h c H [] Ext.refl r .nil
theorem c_acons (ha : CE Γ X W e ma) (hr : CA Γ X W es am) (hs : starEach (e :: es) X.env = (false, eval e X.env) :: starEach es X.env := by rfl) : CA Γ X W (e :: es) (a_cons ma am) := by
  refine PA.weak (pa_cons ha hr hs) fun σ H Q ⟨c, env, S, r, ev, h⟩ => ?_
  refine ⟨c, env, S, r, ev, (Po.bind h).imp fun v H1 ⟨c1, S1, d1, e1, r1, a1, h1⟩ => ?_⟩
  refine ⟨c1, env, S1, r1, ev.mono e1, (Po.bind h1).imp fun u H2 ⟨c2, S2, d2, e2, r2, a2, h2⟩ => ?_⟩
  exact h2 c2 H2 _ Ext.refl r2 (.cons (a1.mono e2) a2)
def e_tup (m : AM) : EM := fun env S => (m env S).bind fun ds S1 => .if (ds.length ≤ 1000) (.ok (.tup ds) S1)
/-- an unchangeable list -/
def e_lst (m : AM) : EM := fun env S => (m env S).bind fun ds S1 => .if (ds.length ≤ 1000) (.ok (.lst ds) S1)
/-- a new place of the store -/
def e_new (m : AM) : EM := fun env S => (m env S).bind fun ds S1 => .if (ds.length ≤ 1000) (.ok (.loc S1.length) (S1 ++ [.lst ds]))
theorem line1000 : 1000 ≤ sizeLine := by rw [sizeLine_eq]; decide
theorem c_tup {k} (h : CA Γ X W es am) : CE Γ X W (.Tuple es k pos) (e_tup am) := by
  refine PE.weak (pe_tup h) fun σ H Q ⟨c, env, S, r, ev, h⟩ => ?_
  refine ⟨c, env, S, r, ev, (Po.bind h).imp fun vs H1 ⟨c1, S1, ds, e1, r1, a1, h1⟩ => ?_⟩
  obtain ⟨hl, h1⟩ := Po.if h1
  exact ⟨by rw [a1.len]; exact Nat.le_trans hl line1000, fun p hp => fin_tup h1 r1 a1 hp⟩
theorem c_lst (h : CA Γ X W es am) : CE Γ X W (.List es pos) (e_lst am) := by
  refine PE.weak (pe_lst h) fun σ H Q ⟨c, env, S, r, ev, h⟩ => ?_
  refine ⟨c, env, S, r, ev, (Po.bind h).imp fun vs H1 ⟨c1, S1, ds, e1, r1, a1, h1⟩ => ?_⟩
  obtain ⟨hl, h1⟩ := Po.if h1
  exact ⟨by rw [a1.len]; exact Nat.le_trans hl line1000, fun p hp => fin_lst h1 r1 a1 hp⟩
theorem c_new (h : CA Γ X W es am) : CE Γ X W (.List es pos) (e_new am) := by
  refine PE.weak (pe_lst h) fun σ H Q ⟨c, env, S, r, ev, h⟩ => ?_
  refine ⟨c, env, S, r, ev, (Po.bind h).imp fun vs H1 ⟨c1, S1, ds, e1, r1, a1, h1⟩ => ?_⟩
  obtain ⟨hl, h1⟩ := Po.if h1
  exact ⟨by rw [a1.len]; exact Nat.le_trans hl line1000, fun p hp => fin_new h1 r1 a1 hp⟩
/-! ## a[i], a[i:j] -/
def ixD (x y : D) (S : Sto) : R D := match x, y with
  | .str z, .int i => .if (z.length ≤ sizeLine) (.ofO ((atI z.cps.toList i).map fun k => .str ⟨#[k]⟩) S)
  | x, .int i => .ofO ((seqOf S x).bind fun ds => atI ds i) S
  | _, _ => .bad
@[simp] theorem ixD_tup (ds : List D) (i : Int) (S : Sto) : ixD (.tup ds) (.int i) S = .ofO (atI ds i) S := rfl
@[simp] theorem ixD_lst (ds : List D) (i : Int) (S : Sto) : ixD (.lst ds) (.int i) S = .ofO (atI ds i) S := rfl
@[simp] theorem ixD_fz (ns : List Int) (i : Int) (S : Sto) : ixD (.fz ns) (.int i) S = .ofO (atI (ns.map D.int) i) S := rfl
@[simp] theorem ixD_str (z : Str) (i : Int) (S : Sto) : ixD (.str z) (.int i) S = .if (z.length ≤ sizeLine) (.ofO ((atI z.cps.toList i).map fun k => .str ⟨#[k]⟩) S) := rfl
def rIx3 (K : PySem.W.Frag) : R2 := fun x y H Q => (rIxL K x y H Q ∨ rIxT K x y H Q) ∨ rIxS x y H Q
theorem ix3 : IxR X (rIx3 X.K) := (ix_list.or ix_tup).or ix_str
theorem Ats.atI {ds : List D} {vs : List V} {i : Int} {d : D} (t : Ats w c H n ds vs) (h : L2.atI ds i = some d) : ∃ v, L2.atI vs i = some v ∧ At w c H n d v := by
  unfold L2.atI at h ⊢
  rw [t.len]
  cases hj : ixN ds.length i with
  | none => rw [hj] at h; cases h
  | some j =>
    rw [hj] at h
    exact t.get h
theorem g_ix : GOp Γ X ixD (rIx3 X.K) := by
  intro W σ c H S x y v u Q r a b h
  have go : ∀ i, y = .int i → PoE ⟨X.K, Γ⟩ W σ c H S.length (.ofO ((seqOf S x).bind fun ds => L2.atI ds i) S) Q → rIx3 X.K v u H Q := fun i e h' => by
    subst e
    obtain ⟨d, hd, h⟩ := Po.ofO h'
    cases hx : seqOf S x with
    | none => rw [hx] at hd; cases hd
    | some ds =>
      rw [hx] at hd
      obtain ⟨p, vs, rfl, g, t⟩ := seqOf_at r a hx
      obtain ⟨z, hz, az⟩ := t.atI hd
      rcases g with g | g
      · exact .inl (.inl ⟨p, vs, i, z, rfl, b.int, g, hz, fin_ok h r az⟩)
      · exact .inl (.inr ⟨p, vs, i, z, rfl, b.int, g, hz, fin_ok h r az⟩)
  cases y with
  | int i =>
    cases x with
    | str z =>
      change PoE ⟨X.K, Γ⟩ W σ c H S.length (.if (z.length ≤ sizeLine) (.ofO ((L2.atI z.cps.toList i).map fun k => .str ⟨#[k]⟩) S)) Q at h
      obtain ⟨hl, h⟩ := Po.if h
      obtain ⟨d, hd, h⟩ := Po.ofO h
      cases hk : L2.atI z.cps.toList i with
      | none => rw [hk] at hd; cases hd
      | some k =>
        rw [hk] at hd
        cases hd
        exact .inr ⟨z, i, k, a.str, b.int, hl, hk, fin_ok h r (.s _)⟩
    | tup _ => exact go i rfl h
    | lst _ => exact go i rfl h
    | fz _ => exact go i rfl h
    | loc _ => exact go i rfl h
    | non => exact go i rfl h
    | bl _ => exact go i rfl h
    | int _ => exact go i rfl h
    | dic _ _ => exact go i rfl h
    | obj _ _ => exact go i rfl h
    | oth _ => exact go i rfl h
    | ttp _ => exact go i rfl h
    | xn _ _ => exact go i rfl h
  | _ => cases x <;> exact h.elim
theorem c_ix (ha : CE Γ X W a ma) (hb : CE Γ X W b mb) (hs : PlainIx b := by exact fun _ _ => rfl) : CE Γ X W (.Subscript a b pos) (e_op ixD ma mb) := by
  refine PE.weak (pe_ix ix3 ha hb hs) fun σ H Q ⟨c, env, S, r, ev, h⟩ => ?_
  refine ⟨c, env, S, r, ev, (Po.bind h).imp fun v H1 ⟨c1, S1, d1, e1, r1, a1, h1⟩ => ?_⟩
  refine ⟨c1, env, S1, r1, ev.mono e1, (Po.bind h1).imp fun u H2 ⟨c2, S2, d2, e2, r2, a2, h2⟩ => ?_⟩
  exact g_ix W σ c2 H2 S2 d1 d2 v u Q r2 (a1.mono e2) a2 h2
abbrev OM := Env → Sto → R (Option Int)
def relO (_ : Cn) (_ : Hp) (_ : Nat) (x v : Option Int) : Prop := v = x
def mO (w : Wn) (W : WX) (m : OM) : TO := fun σ H Q => mG w W relO m σ H Q
abbrev CO (Γ : Cls') (X : Cx) (W : WX) (e : Option Expr) (m : OM) : Prop := PO X e (mO ⟨X.K, Γ⟩ W m)
def o_none : OM := fun _ S => .ok none S
def o_some (m : EM) : OM := fun env S => (m env S).bind fun d S1 => match d with
  | .int i => .ok (some i) S1
  | _ => .bad
theorem PO.weak {e : Option Expr} {t t' : TO} (h : PO X e t) (i : ∀ σ H Q, t' σ H Q → t σ H Q) : PO X e t' := ⟨fun pins s σ H Q I q => h.run pins s σ H Q I (i σ H Q q)⟩
theorem c_onone : CO Γ X W none o_none := PO.weak po_none fun σ H Q ⟨c, env, S, r, ev, h⟩ => h c H none Ext.refl r rfl
theorem c_osome (ha : CE Γ X W a ma) : CO Γ X W (some a) (o_some ma) := by
  refine PO.weak (po_some ha) fun σ H Q ⟨c, env, S, r, ev, h⟩ => ?_
  refine ⟨c, env, S, r, ev, (Po.bind h).imp fun v H1 ⟨c1, S1, d1, e1, r1, a1, h1⟩ => ?_⟩
  cases d1 with
  | int i => exact ⟨i, a1.int, h1 c1 H1 _ Ext.refl r1 rfl⟩
  | _ => exact h1.elim
def cutD (ds : List D) (lo hi : Option Int) : List D := (ds.drop (HT.sIx ds.length 0 lo)).take (HT.sIx ds.length ds.length hi - HT.sIx ds.length 0 lo)
theorem Ats.cut {ds : List D} {vs : List V} (t : Ats w c H n ds vs) (lo hi : Option Int) : Ats w c H n (cutD ds lo hi) (cutV vs lo hi) := by
  unfold cutD cutV
  rw [t.len]
  exact (t.drop _).take _
def slD (x : D) (lo hi : Option Int) (S : Sto) : R D := match x with
  | .tup ds => .ok (.tup (cutD ds lo hi)) S
  | .str z => .if (z.length ≤ sizeLine) (.ok (.str (cutS z lo hi)) S)
  | x => match lstOf S x with
    | some ds => .ok (.lst (cutD ds lo hi)) S
    | none => .bad
@[simp] theorem slD_tup (ds : List D) (lo hi : Option Int) (S : Sto) : slD (.tup ds) lo hi S = .ok (.tup (cutD ds lo hi)) S := rfl
@[simp] theorem slD_lst (ds : List D) (lo hi : Option Int) (S : Sto) : slD (.lst ds) lo hi S = .ok (.lst (cutD ds lo hi)) S := rfl
@[simp] theorem slD_str (z : Str) (lo hi : Option Int) (S : Sto) : slD (.str z) lo hi S = .if (z.length ≤ sizeLine) (.ok (.str (cutS z lo hi)) S) := rfl
def e_sl (m : EM) (l h : OM) : EM := fun env S => (m env S).bind fun d S1 => (l env S1).bind fun lo S2 => (h env S2).bind fun hi S3 => slD d lo hi S3
theorem sl3 : SlR X (fun x lo hi H Q => (rSlL X.K x lo hi H Q ∨ rSlA X.K x lo hi H Q) ∨ rSlS x lo hi H Q) := (sl_list.or sl_tupA).or sl_str
theorem c_sl {lo hi : Option Expr} {lm hm : OM} {p2 : Pos} (ha : CE Γ X W a ma) (hl : CO Γ X W lo lm) (hh : CO Γ X W hi hm) : CE Γ X W (.Subscript a (.Slice lo hi none p2) pos) (e_sl ma lm hm) := by
  refine PE.weak (pe_slice sl3 ha hl hh) fun σ H Q ⟨c, env, S, r, ev, h⟩ => ?_
  refine ⟨c, env, S, r, ev, (Po.bind h).imp fun v H1 ⟨c1, S1, d1, e1, r1, a1, h1⟩ => ?_⟩
  refine ⟨c1, env, S1, r1, ev.mono e1, (Po.bind h1).imp fun u H2 ⟨c2, S2, d2, e2, r2, a2, h2⟩ => ?_⟩
  refine ⟨c2, env, S2, r2, (ev.mono e1).mono e2, (Po.bind h2).imp fun u3 H3 ⟨c3, S3, d3, e3, r3, a3, h3⟩ => ?_⟩
  cases (show u = d2 from a2)
  cases (show u3 = d3 from a3)
  have ax := (a1.mono e2).mono e3
  have go : (match lstOf S3 d1 with
    | some ds => R.ok (.lst (cutD ds u u3)) S3
    | none => .bad) = slD d1 u u3 S3 → (rSlL X.K v u u3 H3 Q ∨ rSlA X.K v u u3 H3 Q) ∨ rSlS v u u3 H3 Q := fun e => by
    cases hx : lstOf S3 d1 with
    | none => rw [hx] at e; rw [← e] at h3; exact h3.elim
    | some ds =>
      rw [hx] at e; rw [← e] at h3
      obtain ⟨p, vs, rfl, g, t⟩ := lstOf_at r3 ax hx
      exact .inl (.inl ⟨p, vs, rfl, SqL.of g, fun z hz => fin_lst h3 r3 (t.cut _ _) hz⟩)
  cases d1 with
  | tup ds =>
    have ax' := ax
    obtain ⟨p, vs, rfl, g, t⟩ := ax.tup
    refine .inl (.inr ⟨p, vs, rfl, g, fun hw => ?_, fun _ z hz => fin_tup h3 r3 (t.cut _ _) hz⟩)
    have e : cutD ds u u3 = ds := by
      unfold cutD
      rw [t.len] at hw
      rw [hw.1, hw.2, List.drop_zero, Nat.sub_zero, List.take_length]
    refine fin_ok h3 r3 ?_
    rw [e]; exact ax'
  | str z =>
    obtain ⟨hl, h3⟩ := Po.if h3
    exact .inr ⟨z, ax.str, hl, fin_ok h3 r3 (.s _)⟩
  | lst ds => exact go rfl
  | loc k => exact go rfl
  | non => exact go rfl
  | bl _ => exact go rfl
  | int _ => exact go rfl
  | dic _ _ => exact go rfl
  | obj _ _ => exact go rfl
  | fz _ => exact go rfl
  | oth _ => exact go rfl
  | ttp _ => exact go rfl
  | xn _ _ => exact go rfl
/-! ## calls of what is built in -/
def e_call (g : List D → Sto → R D) (m : AM) : EM := fun env S => (m env S).bind fun ds S1 => g ds S1
def GCall (Γ : Cls') (X : Cx) (g : List D → Sto → R D) (r : List V → Hp → VK → Prop) : Prop := ∀ (W : WX) (σ : St) (c : Cn) (H : Hp) (S : Sto) (ds : List D) (vs : List V) (Q : VK), Rep ⟨X.K, Γ⟩ c H S → Ats ⟨X.K, Γ⟩ c H S.length ds vs → PoE ⟨X.K, Γ⟩ W σ c H S.length (g ds S) Q → r vs H Q
theorem c_callB {id : String} {x : Str} {p : Pos} {r : List V → Hp → VK → Prop} {g : List D → Sto → R D} (hc : CallR X (.builtin id) r) (hg : GCall Γ X g r) (hgl : Gl X x) (hm : X.mg x = none) (hv : bootBuiltins x = some (.builtin id)) (ha : CA Γ X W (e :: es) am) (hn : x ≠ "__name__" := by decide) (hdb : (x == ("__debug__" : Str)) = false := by decide)
    (he : starEach (e :: es) X.env = (false, eval e X.env) :: starEach es X.env := by rfl) (hpl : (backTo pos (starEach es X.env)).any (·.1) = false := by rfl) : CE Γ X W (.Call (.Name x p) (e :: es) [] pos) (e_call g am) := by
  refine PE.weak (pe_callB hc hgl hm hv ha hn hdb he hpl) fun σ H Q ⟨c, env, S, r, ev, h⟩ => ?_
  exact ⟨c, env, S, r, ev, (Po.bind h).imp fun vs H1 ⟨c1, S1, ds, e1, r1, a1, h1⟩ => hg W σ c1 H1 S1 ds vs Q r1 a1 h1⟩
theorem c_callTy {T : String} {x : Str} {p : Pos} {r : List V → Hp → VK → Prop} {g : List D → Sto → R D} (hc : CallR X (.type T) r) (hg : GCall Γ X g r) (hgl : Gl X x) (hm : X.mg x = none) (hv : bootBuiltins x = some (.type T)) (ha : CA Γ X W (e :: es) am) (hn : x ≠ "__name__" := by decide) (hdb : (x == ("__debug__" : Str)) = false := by decide)
    (he : starEach (e :: es) X.env = (false, eval e X.env) :: starEach es X.env := by rfl) (hpl : (backTo pos (starEach es X.env)).any (·.1) = false := by rfl) : CE Γ X W (.Call (.Name x p) (e :: es) [] pos) (e_call g am) := by
  refine PE.weak (pe_callTy hc hgl hm hv ha hn hdb he hpl) fun σ H Q ⟨c, env, S, r, ev, h⟩ => ?_
  exact ⟨c, env, S, r, ev, (Po.bind h).imp fun vs H1 ⟨c1, S1, ds, e1, r1, a1, h1⟩ => hg W σ c1 H1 S1 ds vs Q r1 a1 h1⟩
theorem Ats.un1 {d : D} {vs : List V} (h : Ats w c H n [d] vs) : ∃ v, vs = [v] ∧ At w c H n d v := by
  obtain ⟨v, r, rfl, a, b⟩ := h.uncons
  rw [b.unnil]
  exact ⟨v, rfl, a⟩
theorem Ats.un2 {d d' : D} {vs : List V} (h : Ats w c H n [d, d'] vs) : ∃ v v', vs = [v, v'] ∧ At w c H n d v ∧ At w c H n d' v' := by
  obtain ⟨v, r, rfl, a, b⟩ := h.uncons
  obtain ⟨v', rfl, b'⟩ := b.un1
  exact ⟨v, v', rfl, a, b'⟩
def f1 (g : D → Sto → R D) (ds : List D) (S : Sto) : R D := match ds with
  | [x] => g x S
  | _ => .bad
def f2 (g : D → D → Sto → R D) (ds : List D) (S : Sto) : R D := match ds with
  | [x, y] => g x y S
  | _ => .bad
@[simp] theorem f1_eq (g : D → Sto → R D) (x : D) (S : Sto) : f1 g [x] S = g x S := rfl
@[simp] theorem f2_eq (g : D → D → Sto → R D) (x y : D) (S : Sto) : f2 g [x, y] S = g x y S := rfl
theorem GCall.one {g : D → Sto → R D} {r : List V → Hp → VK → Prop} (h : ∀ (W : WX) (σ : St) (c : Cn) (H : Hp) (S : Sto) (d : D) (v : V) (Q : VK), Rep ⟨X.K, Γ⟩ c H S → At ⟨X.K, Γ⟩ c H S.length d v → PoE ⟨X.K, Γ⟩ W σ c H S.length (g d S) Q → r [v] H Q) : GCall Γ X (f1 g) r := by
  intro W σ c H S ds vs Q rp a q
  cases ds with
  | nil => exact q.elim
  | cons x rs =>
    cases rs with
    | nil =>
      obtain ⟨v, rfl, a'⟩ := a.un1
      exact h W σ c H S x v Q rp a' q
    | cons y rs => exact q.elim
theorem GCall.two {g : D → D → Sto → R D} {r : List V → Hp → VK → Prop} (h : ∀ (W : WX) (σ : St) (c : Cn) (H : Hp) (S : Sto) (d e : D) (v u : V) (Q : VK), Rep ⟨X.K, Γ⟩ c H S → At ⟨X.K, Γ⟩ c H S.length d v → At ⟨X.K, Γ⟩ c H S.length e u → PoE ⟨X.K, Γ⟩ W σ c H S.length (g d e S) Q → r [v, u] H Q) : GCall Γ X (f2 g) r := by
  intro W σ c H S ds vs Q rp a q
  cases ds with
  | nil => exact q.elim
  | cons x rs =>
    cases rs with
    | nil => exact q.elim
    | cons y rs =>
      cases rs with
      | nil =>
        obtain ⟨v, v', rfl, a', b'⟩ := a.un2
        exact h W σ c H S x y v v' Q rp a' b' q
      | cons z rs => exact q.elim
def lenD (x : D) (S : Sto) : R D := match x with
  | .str z => .if (z.length ≤ sizeLine) (.ok (.int z.length) S)
  | x => .ofO ((seqOf S x).map fun ds => D.int ds.length) S
@[simp] theorem lenD_tup (ds : List D) (S : Sto) : lenD (.tup ds) S = .ok (.int ds.length) S := rfl
@[simp] theorem lenD_lst (ds : List D) (S : Sto) : lenD (.lst ds) S = .ok (.int ds.length) S := rfl
@[simp] theorem lenD_fz (ds : List Int) (S : Sto) : lenD (.fz ds) S = .ok (.int ds.length) S := by
  show R.ok (D.int ((ds.map D.int).length : Int)) S = _
  rw [List.length_map]
@[simp] theorem lenD_str (z : Str) (S : Sto) : lenD (.str z) S = .if (z.length ≤ sizeLine) (.ok (.int z.length) S) := rfl
theorem g_len : GCall Γ X (f1 lenD) (fun xs H Q => ∃ x n, xs = [x] ∧ LenV X.K x H n ∧ Q (.int n) H) := by
  refine .one fun W σ c H S x v Q r a h => ?_
  have go : PoE ⟨X.K, Γ⟩ W σ c H S.length (.ofO ((seqOf S x).map fun ds => D.int ds.length) S) Q → ∃ y n, [v] = [y] ∧ LenV X.K y H n ∧ Q (.int n) H := fun h => by
    obtain ⟨d, hd, h⟩ := Po.ofO h
    cases hx : seqOf S x with
    | none => rw [hx] at hd; cases hd
    | some ds =>
      rw [hx] at hd
      cases hd
      obtain ⟨p, vs, rfl, g, t⟩ := seqOf_at r a hx
      refine ⟨.ref p, ds.length, rfl, ?_, fin_ok h r (.i _)⟩
      rcases g with g | g
      · exact .inl ⟨vs, g, t.len.symm⟩
      · exact .inr ⟨vs, g, t.len.symm⟩
  cases x with
  | str z =>
    obtain ⟨hl, h⟩ := Po.if h
    exact ⟨v, z.length, rfl, by rw [a.str]; exact ⟨hl, rfl⟩, fin_ok h r (.i _)⟩
  | _ => exact go h
def intcD (x : D) (S : Sto) : R D := match x with
  | .int i => .ok (.int i) S
  | .bl k => .ok (.int (if k then 1 else 0)) S
  | _ => .bad
@[simp] theorem intcD_i (i : Int) (S : Sto) : intcD (.int i) S = .ok (.int i) S := rfl
@[simp] theorem intcD_b (k : Bool) (S : Sto) : intcD (.bl k) S = .ok (.int (if k then 1 else 0)) S := rfl
theorem g_intc : GCall Γ X (f1 intcD) (fun xs H Q => (∃ i, xs = [.int i] ∧ Q (.int i) H) ∨ ∃ k, xs = [.bl k] ∧ Q (.int (if k then 1 else 0)) H) := by
  refine .one fun W σ c H S x v Q r a h => ?_
  cases x with
  | int i => exact .inl ⟨i, by rw [a.int], fin_ok h r (.i _)⟩
  | bl k => exact .inr ⟨k, by rw [a.bl], fin_ok h r (.i _)⟩
  | _ => exact h.elim
theorem g_int2 {f : Int → Int → Int} : GCall Γ X (f2 (intD0 fun i j => .int (f i j))) (fun xs H Q => ∃ i j, xs = [.int i, .int j] ∧ Q (.int (f i j)) H) := by
  refine .two fun W σ c H S x y v u Q r a b h => ?_
  cases x with
  | int i =>
    cases y with
    | int j => exact ⟨i, j, by rw [a.int, b.int], fin_ok h r (.i _)⟩
    | _ => exact h.elim
  | _ => cases y <;> exact h.elim
def tupleD (x : D) (S : Sto) : R D := .ofO ((seqOf S x).map D.tup) S
def listD (x : D) (S : Sto) : R D := .ofO ((seqOf S x).map D.lst) S
/-- list(x) as a new place of the store -/
def listN (x : D) (S : Sto) : R D := match seqOf S x with
  | some ds => .ok (.loc S.length) (S ++ [SO.lst ds])
  | none => .bad
@[simp] theorem tupleD_t (ds : List D) (S : Sto) : tupleD (.tup ds) S = .ok (.tup ds) S := rfl
@[simp] theorem tupleD_l (ds : List D) (S : Sto) : tupleD (.lst ds) S = .ok (.tup ds) S := rfl
@[simp] theorem listD_t (ds : List D) (S : Sto) : listD (.tup ds) S = .ok (.lst ds) S := rfl
@[simp] theorem listD_l (ds : List D) (S : Sto) : listD (.lst ds) S = .ok (.lst ds) S := rfl
@[simp] theorem listN_t (ds : List D) (S : Sto) : listN (.tup ds) S = .ok (.loc S.length) (S ++ [.lst ds]) := rfl
@[simp] theorem listN_l (ds : List D) (S : Sto) : listN (.lst ds) S = .ok (.loc S.length) (S ++ [.lst ds]) := rfl
theorem seqO {f : List D → D} {x : D} {v : V} {Q : VK} (r : Rep w c H S) (a : At w c H S.length x v) (h : PoE w W σ c H S.length (.ofO ((seqOf S x).map f) S) Q) :
    ∃ p vs ds, v = .ref p ∧ (SqL w.K H p vs ∨ SqT w.K H p vs) ∧ Ats w c H S.length ds vs ∧ PoE w W σ c H S.length (.ok (f ds) S) Q := by
  obtain ⟨d, hd, h⟩ := Po.ofO h
  cases hx : seqOf S x with
  | none => rw [hx] at hd; cases hd
  | some ds =>
    rw [hx] at hd
    cases hd
    obtain ⟨p, vs, rfl, g, t⟩ := seqOf_at r a hx
    exact ⟨p, vs, ds, rfl, g, t, h⟩
theorem g_tuple : GCall Γ X (f1 tupleD) (fun xs H Q => ∃ p ys, xs = [.ref p] ∧ ((SqL X.K H p ys ∧ ∀ l, H l = none → Q (.ref l) (upd H l (.tup ys))) ∨ (SqT X.K H p ys ∧ Q (.ref p) H))) := by
  refine .one fun W σ c H S x v Q r a h => ?_
  obtain ⟨p, vs, ds, rfl, g, t, h⟩ := seqO r a h
  refine ⟨p, vs, rfl, ?_⟩
  rcases g with g | g
  · exact .inl ⟨g, fun l hl => fin_tup h r t hl⟩
  · exact .inr ⟨g, fin_ok h r (by unfold At; exact ⟨p, vs, rfl, g, t⟩)⟩
end
end Mm
set_option maxRecDepth 100000
/-! Statements over the plain data. -/
namespace Mm
open PySem L2
inductive RS where
  | next (env : Env) (S : Sto) | ret (d : D) (S : Sto) | brk (env : Env) (S : Sto) | cnt (env : Env) (S : Sto) | ex (x : Exn) (env : Env) (S : Sto) | bad
abbrev SM := Env → Sto → RS
def R.toS {α : Type} (r : R α) (env : Env) (f : α → Sto → RS) : RS := match r with
  | .ok a S => f a S
  | .ex x S => .ex x env S
  | .bad => .bad
@[simp] theorem R.toS_ok {α : Type} (a : α) (S : Sto) (env : Env) (f : α → Sto → RS) : (R.ok a S).toS env f = f a S := rfl
@[simp] theorem R.toS_ex {α : Type} (x : Exn) (S : Sto) (env : Env) (f : α → Sto → RS) : (R.ex x S : R α).toS env f = .ex x env S := rfl
@[simp] theorem R.toS_bad {α : Type} (env : Env) (f : α → Sto → RS) : (R.bad : R α).toS env f = .bad := rfl
def RS.bind (r : RS) (f : Env → Sto → RS) : RS := match r with
  | .next env S => f env S
  | r => r
@[simp] theorem RS.bind_next (env : Env) (S : Sto) (f : Env → Sto → RS) : (RS.next env S).bind f = f env S := rfl
@[simp] theorem RS.bind_ret (d : D) (S : Sto) (f : Env → Sto → RS) : (RS.ret d S).bind f = .ret d S := rfl
@[simp] theorem RS.bind_brk (env : Env) (S : Sto) (f : Env → Sto → RS) : (RS.brk env S).bind f = .brk env S := rfl
@[simp] theorem RS.bind_cnt (env : Env) (S : Sto) (f : Env → Sto → RS) : (RS.cnt env S).bind f = .cnt env S := rfl
@[simp] theorem RS.bind_ex (x : Exn) (env : Env) (S : Sto) (f : Env → Sto → RS) : (RS.ex x env S).bind f = .ex x env S := rfl
@[simp] theorem RS.bind_bad (f : Env → Sto → RS) : RS.bad.bind f = .bad := rfl
def RS.if (b : Prop) [Decidable b] (r : RS) : RS := if b then r else .bad
@[simp] theorem RS.if_pos {b : Prop} [Decidable b] {r : RS} (h : b) : RS.if b r = r := _root_.if_pos h
section
variable (w : Wn) (W : WX)
def PoS (c : Cn) (H : Hp) (n : Nat) (r : RS) (Dn : Ends) : Prop := match r with
  | .next env S => ∀ c' H' σ', Ext c H n c' H' S.length → Rep w c' H' S → EnvR w c' H' S.length σ' env → Dn.nx σ' H'
  | .brk env S => ∀ c' H' σ', Ext c H n c' H' S.length → Rep w c' H' S → EnvR w c' H' S.length σ' env → Dn.bk σ' H'
  | .cnt env S => ∀ c' H' σ', Ext c H n c' H' S.length → Rep w c' H' S → EnvR w c' H' S.length σ' env → Dn.ct σ' H'
  | .ret d S => ∀ c' H' v, Ext c H n c' H' S.length → Rep w c' H' S → At w c' H' S.length d v → Dn.rt v H'
  | .ex x env S => ∀ c' H' σ' C dd, Ext c H n c' H' S.length → Rep w c' H' S → EnvR w c' H' S.length σ' env → XAt w c' H' S.length x C dd → W C dd σ' H'
  | .bad => False
def mS (m : SM) : TS := fun Dn σ H => ∃ c env S, Rep w c H S ∧ EnvR w c H S.length σ env ∧ PoS w W c H S.length (m env S) Dn
end
abbrev CS (Γ : Cls') (X : Cx) (W : WX) (st : Stmt) (m : SM) : Prop := PS X st (mS ⟨X.K, Γ⟩ W m)
abbrev CSs (Γ : Cls') (X : Cx) (W : WX) (st : List Stmt) (m : SM) : Prop := PSs X st (mS ⟨X.K, Γ⟩ W m)
theorem PS.weak {X : Cx} {st : Stmt} {t t' : TS} (h : PS X st t) (i : ∀ D σ H, t' D σ H → t D σ H) : PS X st t' := ⟨fun pins s σ H D I q => h.run pins s σ H D I (i D σ H q)⟩
theorem PSs.weak {X : Cx} {st : List Stmt} {t t' : TS} (h : PSs X st t) (i : ∀ D σ H, t' D σ H → t D σ H) : PSs X st t' := ⟨fun pins s σ H D I q => h.run pins s σ H D I (i D σ H q)⟩
section
variable {w : Wn} {W : WX} {σ : St} {c c' : Cn} {H H' : Hp} {n n' : Nat} {S : Sto} {env : Env}
variable {Γ : Cls'} {X : Cx} {a b e : Expr} {ma mb : EM} {pos : Pos} {Dn : Ends}
theorem PoS.mono {r : RS} (e : Ext c H n c' H' n') (h : PoS w W c H n r Dn) : PoS w W c' H' n' r Dn := by
  cases r with
  | next env S => exact fun c2 H2 s e2 r2 a => h c2 H2 s (e.trans e2) r2 a
  | brk env S => exact fun c2 H2 s e2 r2 a => h c2 H2 s (e.trans e2) r2 a
  | cnt env S => exact fun c2 H2 s e2 r2 a => h c2 H2 s (e.trans e2) r2 a
  | ret d S => exact fun c2 H2 v e2 r2 a => h c2 H2 v (e.trans e2) r2 a
  | ex x env S => exact fun c2 H2 s C dd e2 r2 a b => h c2 H2 s C dd (e.trans e2) r2 a b
  | bad => exact h.elim
theorem PoS.if {p : Prop} [Decidable p] {r : RS} (h : PoS w W c H n (.if p r) Dn) : p ∧ PoS w W c H n r Dn := by
  unfold RS.if at h
  by_cases hb : p
  · rw [_root_.if_pos hb] at h; exact ⟨hb, h⟩
  · rw [if_neg hb] at h; exact h.elim
theorem PoS.part {α β : Type} {rel : Cn → Hp → Nat → α → β → Prop} {r : R α} {f : α → Sto → RS} (ev : EnvR w c H n σ env) (h : PoS w W c H n (r.toS env f) Dn) :
    Po w W rel σ c H n r fun v H1 => ∃ c1 S1 d, Ext c H n c1 H1 S1.length ∧ Rep w c1 H1 S1 ∧ rel c1 H1 S1.length d v ∧ EnvR w c1 H1 S1.length σ env ∧ PoS w W c1 H1 S1.length (f d S1) Dn := by
  cases r with
  | ok d S => exact fun c2 H2 v e2 r2 a => ⟨c2, S, d, e2, r2, a, ev.mono e2, PoS.mono e2 h⟩
  | ex x S => exact fun c2 H2 C dd e2 r2 a => h c2 H2 σ C dd e2 r2 (ev.mono e2) a
  | bad => exact h.elim
theorem PoS.seq {r : RS} {f : SM} (h : PoS w W c H n (r.bind f) Dn) : PoS w W c H n r { Dn with nx := mS w W f Dn } := by
  cases r with
  | next env S => exact fun c2 H2 s e2 r2 a => ⟨c2, env, S, r2, a, PoS.mono e2 h⟩
  | brk env S => exact h
  | cnt env S => exact h
  | ret d S => exact h
  | ex x env S => exact h
  | bad => exact h.elim
def s_nil : SM := fun env S => .next env S
def s_seq (m f : SM) : SM := fun env S => (m env S).bind f
variable {st : Stmt} {sts : List Stmt} {m f : SM}
theorem c_nil : CSs Γ X W [] s_nil := PSs.weak pss_nil fun Dn σ H ⟨c, env, S, r, ev, h⟩ => h c H σ Ext.refl r ev
theorem c_seq (h1 : CS Γ X W st m) (h2 : CSs Γ X W sts f) : CSs Γ X W (st :: sts) (s_seq m f) := PSs.weak (pss_cons h1 h2) fun Dn σ H ⟨c, env, S, r, ev, h⟩ => ⟨c, env, S, r, ev, PoS.seq h⟩
theorem c_last (h1 : CS Γ X W st m) : CSs Γ X W [st] m := pss_one h1
def s_pass : SM := fun env S => .next env S
def s_brk : SM := fun env S => .brk env S
def s_cnt : SM := fun env S => .cnt env S
/-- code that is not reached -/
def s_bad : SM := fun _ _ => .bad
theorem c_bad : CS Γ X W st s_bad := PS.weak ps_never fun Dn σ H ⟨c, env, S, r, ev, h⟩ => h
theorem c_bads : CSs Γ X W sts s_bad := PSs.weak pss_never fun Dn σ H ⟨c, env, S, r, ev, h⟩ => h
def s_ex (m : EM) : SM := fun env S => (m env S).toS env fun _ S1 => .next env S1
def s_ret (m : EM) : SM := fun env S => (m env S).toS env fun d S1 => .ret d S1
def s_set (i : Nat) (m : EM) : SM := fun env S => (m env S).toS env fun d S1 => .next (env.set i (some d)) S1
def s_if (t : TM) (p q : SM) : SM := fun env S => (t env S).toS env fun k S1 => if k = true then p env S1 else q env S1
theorem c_expr (he : CE Γ X W e ma) (hs : swapsWith e none pos.line X.env = pure false := by rfl) : CS Γ X W (.Expr e pos) (s_ex ma) := by
  refine PS.weak (ps_expr he hs) fun Dn σ H ⟨c, env, S, r, ev, h⟩ => ?_
  exact ⟨c, env, S, r, ev, (PoS.part ev h).imp fun v H1 ⟨c1, S1, d1, e1, r1, a1, ev1, h1⟩ => h1 c1 H1 σ Ext.refl r1 ev1⟩
theorem c_ret (he : CE Γ X W e ma) : CS Γ X W (.Return (some e) pos) (s_ret ma) := by
  refine PS.weak (ps_ret he) fun Dn σ H ⟨c, env, S, r, ev, h⟩ => ?_
  exact ⟨c, env, S, r, ev, (PoS.part ev h).imp fun v H1 ⟨c1, S1, d1, e1, r1, a1, ev1, h1⟩ => h1 c1 H1 v Ext.refl r1 a1⟩
theorem c_set {i : Nat} {x : Str} {pos' : Pos} (hN : X.N.Nodup) (hi : X.N[i]? = some x) (hx : Loc X.env.scope x) (he : CE Γ X W e ma) (hs : swapsWith e (some (.Name x pos')) pos.line X.env = pure false := by rfl) (hf : X.fn x = true ∨ X.env.scope.names.lookup x = some .local := by first | exact .inl rfl | exact .inr rfl | assumption) :
    CS Γ X W (.Assign [.Name x pos'] e pos) (s_set i ma) := by
  refine PS.weak (ps_set hN hi hx he hs hf) fun Dn σ H ⟨c, env, S, r, ev, h⟩ => ?_
  exact ⟨c, env, S, r, ev, (PoS.part ev h).imp fun v H1 ⟨c1, S1, d1, e1, r1, a1, ev1, h1⟩ => h1 c1 H1 _ Ext.refl r1 (ev1.set a1)⟩
theorem c_if {t : Expr} {pm : TM} {as bs : List Stmt} {p q : SM} (ht : CT Γ X W t pm) (ha : CSs Γ X W as p) (hb : CSs Γ X W bs q) : CS Γ X W (.If t as bs pos) (s_if pm p q) := by
  refine PS.weak (ps_if ht ha hb) fun Dn σ H ⟨c, env, S, r, ev, h⟩ => ?_
  refine ⟨c, env, S, r, ev, (PoS.part ev h).imp fun k H1 ⟨c1, S1, d1, e1, r1, a1, ev1, h1⟩ => ?_⟩
  cases (show k = d1 from a1)
  cases k with
  | true => exact ⟨c1, env, S1, r1, ev1, h1⟩
  | false => exact ⟨c1, env, S1, r1, ev1, h1⟩
/-! ## targets -/
abbrev GM := D → Env → Option Env
abbrev GMs := List D → Env → Option Env
def Bt (sl : List Nat) (σ σ' : List (Option V)) : Prop := σ'.length = σ.length ∧ ∀ j : Nat, j ∉ sl → σ'[j]? = σ[j]?
def mTg (w : Wn) (sl : List Nat) (g : GM) : TG := fun v σ H Q => ∃ c env S d env', Rep w c H S ∧ EnvR w c H S.length σ env ∧ At w c H S.length d v ∧ g d env = some env' ∧ ∀ σ', EnvR w c H S.length σ' env' → Bt sl σ σ' → Q σ' H
def mTgs (w : Wn) (sl : List Nat) (g : GMs) : TGs := fun vs σ H Q => ∃ c env S ds env', Rep w c H S ∧ EnvR w c H S.length σ env ∧ Ats w c H S.length ds vs ∧ g ds env = some env' ∧ ∀ σ', EnvR w c H S.length σ' env' → Bt sl σ σ' → Q σ' H
abbrev CG (Γ : Cls') (X : Cx) (tg : Expr) (sl : List Nat) (g : GM) : Prop := PG X tg (mTg ⟨X.K, Γ⟩ sl g)
abbrev CGs (Γ : Cls') (X : Cx) (tg : List Expr) (sl : List Nat) (g : GMs) : Prop := PGs X tg (mTgs ⟨X.K, Γ⟩ sl g)
def g_name (i : Nat) : GM := fun d env => some (env.set i (some d))
def g_nil : GMs := fun ds env => match ds with
  | [] => some env
  | _ => none
def g_cons (g : GM) (gs : GMs) : GMs := fun ds env => match ds with
  | d :: r => (g d env).bind fun env1 => gs r env1
  | [] => none
def g_tup (gs : GMs) : GM := fun d env => match d with
  | .tup ds => gs ds env
  | _ => none
theorem PG.weak {tg : Expr} {t t' : TG} (h : PG X tg t) (i : ∀ v σ H Q, t' v σ H Q → t v σ H Q) : PG X tg t' := ⟨fun pins s σ H v u Q I r q => h.run pins s σ H v u Q I r (i v σ H Q q)⟩
theorem PGs.weak {tg : List Expr} {t t' : TGs} (h : PGs X tg t) (i : ∀ v σ H Q, t' v σ H Q → t v σ H Q) : PGs X tg t' := ⟨fun pins s σ H v u Q I r q => h.run pins s σ H v u Q I r (i v σ H Q q)⟩
theorem c_gname {i : Nat} {x : Str} (hN : X.N.Nodup) (hi : X.N[i]? = some x) (hx : Loc X.env.scope x) (hf : X.fn x = true ∨ X.env.scope.names.lookup x = some .local := by first | exact .inl rfl | exact .inr rfl | assumption) : CG Γ X (.Name x pos) [i] (g_name i) :=
  PG.weak (pg_name hN hi hx hf) fun v σ H Q ⟨c, env, S, d, env', r, ev, a, g, q⟩ => by
    cases g
    exact q _ (ev.set a) ⟨List.length_set, fun j hj => List.getElem?_set_ne fun e => hj (by simp [e])⟩
theorem c_gnil : CGs Γ X [] [] g_nil := PGs.weak pgs_nil fun vs σ H Q ⟨c, env, S, ds, env', r, ev, a, g, q⟩ => by
  cases ds with
  | nil => cases g; exact ⟨a.unnil, q σ ev ⟨rfl, fun _ _ => rfl⟩⟩
  | cons d r => cases g
theorem c_gcons {tg : Expr} {tgs : List Expr} {g : GM} {gs : GMs} {sl sls : List Nat} (h1 : CG Γ X tg sl g) (h2 : CGs Γ X tgs sls gs) (hs : (assignEach (tg :: tgs) X.env).map (·.2) = assign tg X.env :: (assignEach tgs X.env).map (·.2) := by rfl) : CGs Γ X (tg :: tgs) (sl ++ sls) (g_cons g gs) :=
  PGs.weak (pgs_cons h1 h2 hs) fun vs σ H Q ⟨c, env, S, ds, env', r, ev, a, g', q⟩ => by
    cases ds with
    | nil => cases g'
    | cons d rs =>
      obtain ⟨v, vr, rfl, a1, a2⟩ := a.uncons
      change (g d env).bind (fun env1 => gs rs env1) = some env' at g'
      cases hg : g d env with
      | none => rw [hg] at g'; cases g'
      | some env1 =>
        rw [hg] at g'
        exact ⟨v, vr, rfl, c, env, S, d, env1, r, ev, a1, hg, fun σ1 ev1 b1 => ⟨c, env1, S, rs, env', r, ev1, a2, g', fun σ2 ev2 b2 => q σ2 ev2 ⟨b2.1.trans b1.1, fun j hj => (b2.2 j fun z => hj (List.mem_append_right _ z)).trans (b1.2 j fun z => hj (List.mem_append_left _ z))⟩⟩⟩
/-- gs takes k values -/
def Takes' (k : Nat) (gs : GMs) : Prop := ∀ ds env env', gs ds env = some env' → ds.length = k
theorem takes_nil : Takes' 0 g_nil := fun ds env env' h => by cases ds with
  | nil => rfl
  | cons d r => cases h
theorem takes_cons {k : Nat} {g : GM} {gs : GMs} (h : Takes' k gs) : Takes' (k + 1) (g_cons g gs) := fun ds env env' q => by
  cases ds with
  | nil => cases q
  | cons d r =>
    change (g d env).bind (fun env1 => gs r env1) = some env' at q
    cases hg : g d env with
    | none => rw [hg] at q; cases q
    | some env1 => rw [hg] at q; rw [List.length_cons, h r env1 env' q]
theorem c_gtup {es : List Expr} {k n : Nat} {gs : GMs} {sls : List Nat} (hc : X.calm = true) (h : CGs Γ X es sls gs) (ht : Takes' n gs) (hn : (assignEach es X.env).length = n := by rfl) (hst : (assignEach es X.env).findIdx? (·.1) = none := by rfl) : CG Γ X (.Tuple es k pos) sls (g_tup gs) :=
  PG.weak (pg_tup (n := n) hc h hn hst) fun v σ H Q ⟨c, env, S, d, env', r, ev, a, g, q⟩ => by
    cases d with
    | tup ds =>
      obtain ⟨p, vs, rfl, s, t⟩ := a.tup
      exact ⟨p, vs, rfl, s, by rw [t.len]; exact ht ds env env' g, c, env, S, ds, env', r, ev, t, g, q⟩
    | _ => cases g
def s_asg (m : EM) (g : GM) : SM := fun env S => (m env S).toS env fun d S1 => match g d env with
  | some env1 => .next env1 S1
  | none => .bad
theorem c_asg {tg : Expr} {g : GM} {sl : List Nat} (he : CE Γ X W e ma) (hg : CG Γ X tg sl g) (hs : swapsWithSole [tg] e pos.line X.env = pure false := by rfl) (hw : swappedStores [tg] e X.env = pure none := by rfl)
    (h1 : (assignEach [tg] X.env).map (·.2) = [assign tg X.env] := by rfl) : CS Γ X W (.Assign [tg] e pos) (s_asg ma g) := by
  refine PS.weak (ps_asg he hg hs hw h1) fun Dn σ H ⟨c, env, S, r, ev, h⟩ => ?_
  refine ⟨c, env, S, r, ev, (PoS.part ev h).imp fun v H1 ⟨c1, S1, d1, e1, r1, a1, ev1, h1⟩ => ?_⟩
  cases hg : g d1 env with
  | none => simp only [hg] at h1; exact h1.elim
  | some env1 =>
    simp only [hg] at h1
    exact ⟨c1, env, S1, d1, env1, r1, ev1, a1, hg, fun σ1 ev2 _ => h1 c1 H1 σ1 Ext.refl r1 ev2⟩
/-! ## o[i] = v -/
def setL (S : Sto) (x y z : D) : Option Sto := match x, y with
  | .loc k, .int i => match S[k]? with
    | some (.lst ds) => (ixN ds.length i).map fun j => S.set k (.lst (ds.set j z))
    | _ => none
  | _, _ => none
def s_put (mv mo mi : EM) : SM := fun env S => (mv env S).toS env fun z S1 => (mo env S1).toS env fun x S2 => (mi env S2).toS env fun y S3 => match setL S3 x y z with
  | some S4 => .next env S4
  | none => .bad
theorem c_put {o i : Expr} {mo mi : EM} {p0 : Pos} (he : CE Γ X W e ma) (ho : CE Γ X W o mo) (hi : CE Γ X W i mi) (hs : swapsWithSole [.Subscript o i p0] e pos.line X.env = pure false := by rfl) (hw : swappedStores [.Subscript o i p0] e X.env = pure none := by rfl)
    (h1 : (assignEach [.Subscript o i p0] X.env).map (·.2) = [assign (.Subscript o i p0) X.env] := by rfl)
    (h2 : ∀ v, assign (.Subscript o i p0) X.env v = (do
      let ov ← holding [v] (eval o X.env)
      let iv ← holding [v, ov] (eval i X.env)
      standAt p0
      holding [v, ov, iv] (setItem ov iv v)
      release [v, ov, iv] []) := by intro _; rfl) : CS Γ X W (.Assign [.Subscript o i p0] e pos) (s_put ma mo mi) := by
  refine PS.weak (ps_asg he (pg_sub ho hi set_list h2) hs hw h1) fun Dn σ H ⟨c, env, S, r, ev, h⟩ => ?_
  refine ⟨c, env, S, r, ev, (PoS.part ev h).imp fun v H1 ⟨c1, S1, d1, e1, r1, a1, ev1, h1⟩ => ?_⟩
  refine ⟨c1, env, S1, r1, ev1, (PoS.part ev1 h1).imp fun v2 H2 ⟨c2, S2, d2, e2, r2, a2, ev2, h2⟩ => ?_⟩
  refine ⟨c2, env, S2, r2, ev2, (PoS.part ev2 h2).imp fun v3 H3 ⟨c3, S3, d3, e3, r3, a3, ev3, h3⟩ => ?_⟩
  cases hs : setL S3 d2 d3 d1 with
  | none => simp only [hs] at h3; exact h3.elim
  | some S4 =>
    simp only [hs] at h3
    cases d2 with
    | loc k =>
      cases d3 with
      | int i =>
        unfold setL at hs
        cases hk : S3[k]? with
        | none => simp only [hk] at hs; cases hs
        | some o =>
          cases o with
          | lst ds =>
            simp only [hk] at hs
            cases hj : ixN ds.length i with
            | none => rw [hj] at hs; cases hs
            | some j =>
              rw [hj] at hs
              cases hs
              have ak := a2.mono e3
              unfold At at ak
              obtain ⟨vs, g, t⟩ := r3.get hk
              have az := (a1.mono e2).mono e3
              refine ⟨c3.ρ k, vs, i, j, ak.2, a3.int, g, by rw [t.len]; exact hj, ?_⟩
              have ex := Ext.wr r3 (o := .lst (vs.set j v)) ak.1 ⟨_, g, trivial⟩
              have rr := Rep.wr r3 (o := .lst (vs.set j v)) (so := .lst (ds.set j d1)) ak.1 ⟨_, g, trivial⟩ ⟨_, upd_same, (t.set az j).mono ex⟩
              have hl : (S3.set k (.lst (ds.set j d1))).length = S3.length := List.length_set
              exact h3 c3 _ σ (by rw [hl]; exact ex) rr (by rw [hl]; exact ev3.mono ex)
          | _ => simp only [hk] at hs; cases hs
      | _ => cases hs
    | _ => cases hs
/-! ## o.m(e), o.m() of what is built in -/
def e_meth (ty : D → Sto → Bool) (g : D → List D → Sto → R D) (mo : EM) (m : AM) : EM := fun env S => (mo env S).bind fun x S1 => .if (ty x S1 = true) ((m env S1).bind fun ds S2 => g x ds S2)
def GTy (T : String) (ty : D → Sto → Bool) : Prop := ∀ (w : Wn) (c : Cn) (H : Hp) (S : Sto) (x : D) (v : V), Rep w c H S → At w c H S.length x v → ty x S = true → tyV w.K T v H
def GMt (Γ : Cls') (X : Cx) (g : D → List D → Sto → R D) (r : V → List V → Hp → VK → Prop) : Prop := ∀ (W : WX) (σ : St) (c : Cn) (H : Hp) (S : Sto) (x : D) (v : V) (ds : List D) (vs : List V) (Q : VK), Rep ⟨X.K, Γ⟩ c H S → At ⟨X.K, Γ⟩ c H S.length x v → Ats ⟨X.K, Γ⟩ c H S.length ds vs → PoE ⟨X.K, Γ⟩ W σ c H S.length (g x ds S) Q → r v vs H Q
theorem c_meth {T id : String} {name : Str} {o : Expr} {es : List Expr} {apos cpos : Pos} {r : V → List V → Hp → VK → Prop} {ty : D → Sto → Bool} {g : D → List D → Sto → R D} {mo : EM} {am : AM} (pa : PlainAttrs T) (slot : Slot T name id) (hty : typeOf (.builtin id) = pure (.type "method_descriptor")) (hm : MtR X id r) (ht : GTy T ty) (hg : GMt Γ X g r)
    (ho : CE Γ X W o mo) (ha : CA Γ X W (e :: es) am)
    (hbase : attributeBase o name X.env (eval o X.env) = eval o X.env := by rfl)
    (hfew : ((backTo cpos (starEach (e :: es) X.env)).all (fun x => !x.1) && (backToKw cpos (keywordEach [] X.env)).all (fun x => x.1.isSome)
      && decide ((e :: es).length + ([] : List Keyword).length + (if ([] : List Keyword).isEmpty then 0 else 1) < 30)) = true := by rfl)
    (hline : (apos.endLine == cpos.line) = true := by rfl) (hs : starEach (e :: es) X.env = (false, eval e X.env) :: starEach es X.env := by rfl) (hplain : (backTo cpos (starEach es X.env)).any (·.1) = false := by rfl) :
    CE Γ X W (.Call (.Attribute o name apos) (e :: es) [] cpos) (e_meth ty g mo am) := by
  refine PE.weak (pe_bm pa slot hty hm ho ha hbase hfew hline hs hplain) fun σ H Q ⟨c, env, S, r, ev, h⟩ => ?_
  refine ⟨c, env, S, r, ev, (Po.bind h).imp fun v H1 ⟨c1, S1, d1, e1, r1, a1, h1⟩ => ?_⟩
  obtain ⟨hty, h1⟩ := Po.if h1
  refine ⟨ht _ c1 H1 S1 d1 v r1 a1 hty, c1, env, S1, r1, ev.mono e1, (Po.bind h1).imp fun vs H2 ⟨c2, S2, ds, e2, r2, a2, h2⟩ => ?_⟩
  exact hg W σ c2 H2 S2 d1 v ds vs Q r2 (a1.mono e2) a2 h2
theorem c_meth0 {T id : String} {name : Str} {o : Expr} {apos cpos : Pos} {r : V → List V → Hp → VK → Prop} {ty : D → Sto → Bool} {g : D → List D → Sto → R D} {mo : EM} (pa : PlainAttrs T) (slot : Slot T name id) (hty : typeOf (.builtin id) = pure (.type "method_descriptor")) (hm : MtR X id r) (ht : GTy T ty) (hg : GMt Γ X g r)
    (ho : CE Γ X W o mo) (hbase : attributeBase o name X.env (eval o X.env) = eval o X.env := by rfl) (hline : (apos.endLine == cpos.line) = true := by rfl) : CE Γ X W (.Call (.Attribute o name apos) [] [] cpos) (e_meth ty g mo a_nil) := by
  refine PE.weak (pe_bm0 pa slot hty hm ho hbase hline) fun σ H Q ⟨c, env, S, r, ev, h⟩ => ?_
  refine ⟨c, env, S, r, ev, (Po.bind h).imp fun v H1 ⟨c1, S1, d1, e1, r1, a1, h1⟩ => ?_⟩
  obtain ⟨hty, h1⟩ := Po.if h1
  exact ⟨ht _ c1 H1 S1 d1 v r1 a1 hty, hg W σ c1 H1 S1 d1 v [] [] Q r1 a1 .nil h1⟩
def tyL (x : D) (S : Sto) : Bool := (lstOf S x).isSome
theorem gty_list : GTy "list" tyL := by
  intro w c H S x v r a h
  cases hx : lstOf S x with
  | none => unfold tyL at h; rw [hx] at h; cases h
  | some ds =>
    obtain ⟨p, vs, rfl, g, t⟩ := lstOf_at r a hx
    exact .inl ⟨rfl, vs, SqL.of g⟩
@[simp] theorem tyL_lst (ds : List D) (S : Sto) : tyL (.lst ds) S = true := rfl
def appD (x : D) (ds : List D) (S : Sto) : R D := match x, ds with
  | .loc k, [y] => match S[k]? with
    | some (.lst es) => .if (es.length < sizeLine) (.ok .non (S.set k (.lst (es ++ [y]))))
    | _ => .bad
  | _, _ => .bad
theorem appD_loc {S : Sto} {k : Nat} {es : List D} {y : D} (h : S[k]? = some (.lst es)) : appD (.loc k) [y] S = .if (es.length < sizeLine) (.ok .non (S.set k (.lst (es ++ [y])))) := by
  unfold appD; simp only [h]
def extD (x : D) (ds : List D) (S : Sto) : R D := match x, ds with
  | .loc k, [y] => match S[k]?, lstOf S y with
    | some (.lst es), some fs => .if (es.length + fs.length ≤ sizeLine) (.ok .non (S.set k (.lst (es ++ fs))))
    | _, _ => .bad
  | _, _ => .bad
theorem extD_loc {S : Sto} {k : Nat} {es fs : List D} {y : D} (h : S[k]? = some (.lst es)) (hy : lstOf S y = some fs) : extD (.loc k) [y] S = .if (es.length + fs.length ≤ sizeLine) (.ok .non (S.set k (.lst (es ++ fs)))) := by
  unfold extD; simp only [h, hy]
theorem wr_end {k : Nat} {es : List D} {us : List V} {Q : VK} {d : D} {v : V} (hd : DV d = some v) (r : Rep w c H S) (hk : k < S.length) (hm : ∃ u, H (c.ρ k) = .some u ∧ Mut (.some u)) (t : Ats w c H S.length es us) (h : PoE w W σ c H S.length (.ok d (S.set k (.lst es))) Q) : Q v (upd H (c.ρ k) (.lst us)) := by
  have ex := Ext.wr r (o := .lst us) hk hm
  have rr := Rep.wr r (o := .lst us) (so := .lst es) hk hm ⟨_, upd_same, t.mono ex⟩
  have hl : (S.set k (.lst es)).length = S.length := List.length_set
  exact h c _ v (by rw [hl]; exact ex) rr (DV.at hd)
theorem gm_app : GMt Γ X appD rAppend := by
  intro W σ c H S x v ds vs Q r a t h
  cases x with
  | loc k =>
    cases ds with
    | nil => exact h.elim
    | cons y rs =>
      cases rs with
      | nil =>
        obtain ⟨u, rfl, ay⟩ := t.un1
        cases hk : S[k]? with
        | none => unfold appD at h; simp only [hk] at h; exact h.elim
        | some o =>
          cases o with
          | lst es =>
            rw [appD_loc hk] at h
            obtain ⟨hl, h⟩ := Po.if h
            unfold At at a
            obtain ⟨us, g, te⟩ := r.get hk
            exact ⟨c.ρ k, us, u, a.2, rfl, g, by rw [te.len]; exact hl, wr_end rfl r a.1 ⟨_, g, trivial⟩ (te.app (.one ay)) h⟩
          | _ => unfold appD at h; simp only [hk] at h; exact h.elim
      | cons z rs => exact h.elim
  | _ => exact h.elim
theorem gm_ext : GMt Γ X extD rExtend := by
  intro W σ c H S x v ds vs Q r a t h
  cases x with
  | loc k =>
    cases ds with
    | nil => exact h.elim
    | cons y rs =>
      cases rs with
      | nil =>
        obtain ⟨u, rfl, ay⟩ := t.un1
        cases hk : S[k]? with
        | none => unfold extD at h; simp only [hk] at h; exact h.elim
        | some o =>
          cases o with
          | lst es =>
            cases hy : lstOf S y with
            | none => unfold extD at h; simp only [hk, hy] at h; exact h.elim
            | some fs =>
              rw [extD_loc hk hy] at h
              obtain ⟨hl, h⟩ := Po.if h
              unfold At at a
              obtain ⟨us, g, te⟩ := r.get hk
              obtain ⟨q, ws, rfl, g2, tf⟩ := lstOf_at r ay hy
              exact ⟨c.ρ k, q, us, ws, a.2, rfl, g, g2, by rw [te.len, tf.len]; exact hl, wr_end rfl r a.1 ⟨_, g, trivial⟩ (te.app tf) h⟩
          | _ => unfold extD at h; simp only [hk] at h; exact h.elim
      | cons z rs => exact h.elim
  | _ => exact h.elim
end
end Mm
set_option maxRecDepth 100000
namespace Tk
open PySem L2
/-! ## heaps -/
/-- all but what stands at p is as it was -/
def Kp (p : Addr) (H H' : Hp) : Prop := ∀ b o, H b = some o → b ≠ p → H' b = some o
theorem Kp.refl (p : Addr) (H : Hp) : Kp p H H := fun _ _ e _ => e
theorem Kp.trans {p : Addr} {H H1 H2 : Hp} (a : Kp p H H1) (b : Kp p H1 H2) : Kp p H H2 := fun c o e n => b c o (a c o e n) n
theorem Kp.upd {p : Addr} {H : Hp} {o : HO} : Kp p H (L2.upd H p o) := fun c u e n => by rw [upd_ne n]; exact e
theorem Kp.new {p q : Addr} {H H' : Hp} {o : HO} (a : Kp p H H') (n : H' q = none) : Kp p H (L2.upd H' q o) := fun c u e m => by
  rw [upd_ne (ne_of_none (a c u e m) n)]; exact a c u e m
/-- the pool: three whole numbers -/
def PoolAt (H : Hp) (p : Addr) : Prop := ∃ a b c : Int, H p = some (.lst [.int a, .int b, .int c])
theorem Kp.tup {p q : Addr} {H H' : Hp} {xs : List V} {ys : List V} (k : Kp p H H') (hp : H p = some (.lst ys)) (h : H q = some (.tup xs)) : H' q = some (.tup xs) :=
  k q _ h (ne_of h hp (by intro z; cases z))
/-! ## numbers -/
/-! ## texts -/
def Low (z : Str) : Prop := ∀ c ∈ z.cps.toList, 97 ≤ c ∧ c ≤ 122
def IsName (z : Str) : Prop := 1 ≤ z.length ∧ z.length ≤ 8 ∧ Low z
abbrev alpha : Str := "abcdefghijklmnopqrstuvwxyz"
theorem len_app (x y : Str) : (x ++ y).length = x.length + y.length := by
  show (x.cps ++ y.cps).size = _
  rw [Array.size_append]; rfl
/-- the list of the three names -/
def NamesAt (H : Hp) (q : Addr) : Prop := ∃ x y z : Str, H q = some (.lst [.str x, .str y, .str z]) ∧ IsName x ∧ IsName y ∧ IsName z
/-! ## statements -/
inductive Wd | take | commit | rollback | drop | leave
  deriving DecidableEq
def Wd.s : Wd → Str
  | .take => "take" | .commit => "commit" | .rollback => "rollback" | .drop => "drop" | .leave => "leave"
def Wd.held : Wd → Int → Int
  | .take, h => h + 1 | .commit, _ => 0 | .rollback, _ => 0 | .leave, _ => 0 | .drop, h => h
/-- lock (true), unlock -/
def lockS (b : Bool) : Str := if b then "lock" else "unlock"
inductive Stm
  | one (w : Wd)
  | nam (b : Bool) (n : Str)
  | ch (y n : List Stm)
mutual
def Stm.d : Stm → PyData
  | .one w => .tuple [.str w.s]
  | .nam b n => .tuple [.str (lockS b), .str n]
  | .ch y n => .tuple [.str "choose", .tuple (dAll y), .tuple (dAll n)]
def dAll : List Stm → List PyData
  | [] => []
  | s :: r => s.d :: dAll r
end
mutual
def Stm.cnt : Stm → Nat
  | .one _ => 1
  | .nam _ _ => 1
  | .ch y n => 1 + cntAll y + cntAll n
def cntAll : List Stm → Nat
  | [] => 0
  | s :: r => s.cnt + cntAll r
end
mutual
def Stm.held : Stm → Int → Int
  | .one w, h => w.held h
  | .nam _ _, h => h
  | .ch y n, h => max (heldAll y h) (heldAll n h)
def heldAll : List Stm → Int → Int
  | [], h => h
  | s :: r, h => heldAll r (s.held h)
end
mutual
/-- s is a good statement inside of d chooses, when h numbers are held -/
def Stm.ok : Nat → Stm → Int → Prop
  | _, .one w, h => w = .take → h ≠ 3
  | _, .nam _ n, _ => IsName n
  | d, .ch y n, h => d < 2 ∧ okAll (d + 1) y h ∧ okAll (d + 1) n h
def okAll : Nat → List Stm → Int → Prop
  | _, [], _ => True
  | d, s :: r, h => s.ok d h ∧ okAll d r (s.held h)
end
mutual
/-- the value v is the statement s -/
def Stm.at : Hp → V → Stm → Prop
  | H, v, .one w => ∃ a, v = .ref a ∧ H a = some (.tup [.str w.s])
  | H, v, .nam b n => ∃ a, v = .ref a ∧ H a = some (.tup [.str (lockS b), .str n])
  | H, v, .ch y n => ∃ a b c xs ys, v = .ref a ∧ H a = some (.tup [.str "choose", .ref b, .ref c]) ∧ H b = some (.tup xs) ∧ atAll H xs y ∧ H c = some (.tup ys) ∧ atAll H ys n
def atAll : Hp → List V → List Stm → Prop
  | _, xs, [] => xs = []
  | H, xs, s :: r => ∃ v vs, xs = v :: vs ∧ s.at H v ∧ atAll H vs r
end
/-- tuples stay -/
def TK (H H' : Hp) : Prop := ∀ a xs, H a = some (.tup xs) → H' a = some (.tup xs)
theorem TK.refl (H : Hp) : TK H H := fun _ _ h => h
theorem TK.trans {H H1 H2 : Hp} (a : TK H H1) (b : TK H1 H2) : TK H H2 := fun c o h => b c o (a c o h)
theorem Kp.tk {p : Addr} {H H' : Hp} {ys : List V} (k : Kp p H H') (hp : H p = some (.lst ys)) : TK H H' := fun a xs h => k.tup hp h
mutual
theorem Stm.at_keep {H H' : Hp} (k : TK H H') : ∀ (s : Stm) (v : V), s.at H v → s.at H' v
  | .one w, v, h => by
    unfold Stm.at at h ⊢
    obtain ⟨a, e, h⟩ := h
    exact ⟨a, e, k _ _ h⟩
  | .nam b n, v, h => by
    unfold Stm.at at h ⊢
    obtain ⟨a, e, h⟩ := h
    exact ⟨a, e, k _ _ h⟩
  | .ch y n, v, h => by
    unfold Stm.at at h ⊢
    obtain ⟨a, b, c, xs, ys, e, h1, h2, h3, h4, h5⟩ := h
    exact ⟨a, b, c, xs, ys, e, k _ _ h1, k _ _ h2, atAll_keep k y xs h3, k _ _ h4, atAll_keep k n ys h5⟩
theorem atAll_keep {H H' : Hp} (k : TK H H') : ∀ (B : List Stm) (xs : List V), atAll H xs B → atAll H' xs B
  | [], xs, h => h
  | s :: r, xs, h => by
    unfold atAll at h ⊢
    obtain ⟨v, vs, e, h1, h2⟩ := h
    exact ⟨v, vs, e, Stm.at_keep k s v h1, atAll_keep k r vs h2⟩
end
theorem okAll_app : ∀ (d : Nat) (B C : List Stm) (h : Int), okAll d B h → okAll d C (heldAll B h) → okAll d (B ++ C) h
  | d, [], C, h, _, g => by rw [heldAll] at g; exact g
  | d, s :: r, C, h, f, g => by
    rw [okAll] at f
    rw [heldAll] at g
    show okAll d (s :: (r ++ C)) h
    rw [okAll]
    exact ⟨f.1, okAll_app d r C _ f.2 g⟩
theorem cntAll_app : ∀ (B C : List Stm), cntAll (B ++ C) = cntAll B + cntAll C
  | [], C => by rw [cntAll]; simp
  | s :: r, C => by
    show cntAll (s :: (r ++ C)) = _
    rw [cntAll, cntAll, cntAll_app r C]; omega
/-! ## what the draws stand on: the pool p, the box b (what is left, what is held), the names q -/
def BoxAt (H : Hp) (b : Addr) (k h : Int) : Prop := H b = some (.lst [.int k, .int h, .int 3])
structure Dr (H : Hp) (p b q : Addr) (k h : Int) : Prop where
  pool : PoolAt H p
  box : BoxAt H b k h
  names : NamesAt H q
  npb : p ≠ b
  npq : p ≠ q
  nbq : b ≠ q
def K2 (p b : Addr) (H H' : Hp) : Prop := ∀ a o, H a = some o → a ≠ p → a ≠ b → H' a = some o
theorem K2.refl (p b : Addr) (H : Hp) : K2 p b H H := fun _ _ e _ _ => e
theorem K2.trans {p b : Addr} {H H1 H2 : Hp} (x : K2 p b H H1) (y : K2 p b H1 H2) : K2 p b H H2 := fun c o e n m => y c o (x c o e n m) n m
theorem Kp.k2 {p b : Addr} {H H' : Hp} (k : Kp p H H') : K2 p b H H' := fun a o e n _ => k a o e n
theorem K2.upd {p b : Addr} {H : Hp} {o : HO} : K2 p b H (L2.upd H b o) := fun a u e _ n => by rw [upd_ne n]; exact e
theorem K2.new {p b q : Addr} {H H' : Hp} {o : HO} (k : K2 p b H H') (n : H' q = none) : K2 p b H (L2.upd H' q o) := fun c u e m m' => by
  rw [upd_ne (ne_of_none (k c u e m m') n)]; exact k c u e m m'
theorem Dr.tk {H H' : Hp} {p b q : Addr} {k h : Int} (D : Dr H p b q k h) (x : K2 p b H H') : TK H H' := fun a xs e => by
  obtain ⟨_, _, _, hp⟩ := D.pool
  exact x a _ e (ne_of e hp (by intro z; cases z)) (ne_of e D.box (by intro z; cases z))
theorem Dr.put {H : Hp} {p b q : Addr} {k h k' h' : Int} (D : Dr H p b q k h) : Dr (L2.upd H b (.lst [.int k', .int h', .int 3])) p b q k' h' := by
  obtain ⟨a1, a2, a3, hq, n1, n2, n3⟩ := D.names
  obtain ⟨x, y, z, hp⟩ := D.pool
  exact ⟨⟨x, y, z, by rw [upd_ne D.npb]; exact hp⟩, upd_same, ⟨a1, a2, a3, by rw [upd_ne D.nbq.symm]; exact hq, n1, n2, n3⟩, D.npb, D.npq, D.nbq⟩
theorem Dr.new {H : Hp} {p b q a : Addr} {o : HO} {k h : Int} (D : Dr H p b q k h) (n : H a = none) : Dr (L2.upd H a o) p b q k h := by
  obtain ⟨a1, a2, a3, hq, n1, n2, n3⟩ := D.names
  obtain ⟨x, y, z, hp⟩ := D.pool
  exact ⟨⟨x, y, z, by rw [upd_ne (ne_of_none hp n)]; exact hp⟩, by unfold BoxAt; rw [upd_ne (ne_of_none D.box n)]; exact D.box, ⟨a1, a2, a3, by rw [upd_ne (ne_of_none hq n)]; exact hq, n1, n2, n3⟩, D.npb, D.npq, D.nbq⟩
end Tk
set_option maxRecDepth 100000
/-! Own rules: enumerate over a tuple; .get of a written dict; o[i], x in o, len(o) by the text's own methods. -/
namespace PySem
section
variable {prog : Program} {w : World} {A : Around} {E : Value → Shared → Prop} {s : Shared}
abbrev tkE (j : Addr) : Obj := { cls := .type "enumerate", data := .fields #[.none, .bool false, .ref j, rawInt 0, .none, .none] }
theorem tk_new {v : Value} {o : Obj} {T : Heap → Prop} (B : Begins v o T) :
    Meets (Builtin.«enumerate.__new__» ⟨[.type "enumerate", v], []⟩) (fun _ R s => T s.heap ∧ R (.ok (.ret (.ref (s.heap.push o).objs.size))) { s with heap := (s.heap.push o).push (tkE s.heap.objs.size) }) :=
  .of_wp fun prog w A R s h => by
    obtain ⟨hp, g, d, tk, os⟩ := s
    obtain ⟨h1, h⟩ := h
    have hz := sub_enumerate
    have it1 : ∀ {A' : Around} {E' : Value → Shared → Prop} {Q' : Value → Shared → Prop}, Q' (.ref hp.objs.size) ⟨hp.push o, g, d, tk, os⟩ → wpAny (model prog w) A' (pyIter v) Q' E' ⟨hp, g, d, tk, os⟩ := fun z => B.iter prog w _ _ ⟨hp, g, d, tk, os⟩ _ h1 z
    wp_walk using it1
    refine wpAny_stack_any fun _ => wpAny_pure ?_
    split
    · rename_i c _ _ _ _ _
      cases (c == Value.type "enumerate") <;> (wp_walk using it1; exact ⟨_, rfl, h⟩)
    · wp_walk using it1
      exact ⟨_, rfl, h⟩
theorem tk_enum {v : Value} {o : Obj} {T : Heap → Prop} {Q : Value → Shared → Prop} (B : Begins v o T) (h1 : T s.heap)
    (h : ∀ h', IsEnum h' (s.heap.objs.size + 1) s.heap.objs.size 0 .none → h'.get? s.heap.objs.size = some o → (∀ b u, s.heap.get? b = some u → h'.get? b = some u) → Q (.ref (s.heap.objs.size + 1)) { s with heap := h' }) :
    wpAny (model prog w) A (call (.type "enumerate") [v]) Q E s := by
  have z1 : (s.heap.push o).objs.size = s.heap.objs.size + 1 := Heap.size_push ..
  refine callType_new F.called_enumerate (by decide) (F.typeCall_enumerate_1 _) (F.newCall_enumerate_1 _) (fun obj => F.args_object_init_2 obj _) F.entry_enumerate_new (tk_new B) (And.intro h1 ?_)
  show _ ∧ _
  rw [z1]
  have q : ((s.heap.push o).push (tkE s.heap.objs.size)).get? (s.heap.push o).objs.size = some (tkE s.heap.objs.size) := Heap.get?_push_size _ rfl
  rw [z1] at q
  exact And.intro ⟨_, q, rfl⟩ (h _ q (Heap.get?_push_of_some _ (Heap.get?_push_size _ B.free)) fun b u y => Heap.get?_push_of_some _ (Heap.get?_push_of_some _ y))
end
end PySem
namespace L2
open PySem PySem.Spec PyProof.Rows
/-- the tuple at a, each item in a new pair with its number -/
def IteT (K : PySem.W.Frag) (a : Addr) : It where
  go := fun i H => ∃ (xs : List V) (x : V), SqT K H a xs ∧ xs[i]? = some x
  yld := fun i H v H' => ∃ T x, v = .ref T ∧ H T = none ∧ H' = upd H T (.tup [.int (i : Nat), x]) ∧ ∀ xs, SqT K H a xs → xs[i]? = some x
  stop := fun i H => ∃ xs : List V, SqT K H a xs ∧ xs.length = i
theorem tk_turn {P : Program} {w : World} {K : PySem.W.Frag} {elts : List Expr} {kk : Nat} {tp : Pos} (a e j : Addr) (n1 : a ≠ j) (n2 : e ≠ a) (n3 : e ≠ j) :
    Turn P w K (.Tuple elts kk tp) (IteT K a) [e, j] e (fun i h => (∃ old, IsEnum h e j ((i : Nat) : Int) old) ∧ h.IsTupleIter j a i) := by
  have two : ∀ b, b ∈ [e, j] → b = e ∨ b = j := fun b hb => by simpa using hb
  refine { mem := by simp, obj := ?_, keep := ?_, item := ?_, done := ?_, self := fun A i s Q E st h => wpAny_pyIter_enum st.1.choose_spec h }
  · intro i h st b hb
    obtain ⟨⟨old, he⟩, ⟨o, ho, _, hd⟩⟩ := st
    rcases two b hb with rfl | rfl
    · exact ⟨_, he, fun v q => nomatch q⟩
    · exact ⟨o, ho, fun v q => by rw [hd] at q; cases q⟩
  · intro i h h' st k
    obtain ⟨⟨old, he⟩, hi⟩ := st
    exact ⟨⟨old, k e (by simp) _ he⟩, hi.at fun o q => k j (by simp) o q⟩
  · intro X hP hw hK hc i pins s σ H E I hf st hg
    subst hP hw hK
    obtain ⟨⟨old, he⟩, hj⟩ := st
    obtain ⟨xs, x, hq, hx⟩ := hg
    obtain ⟨its, rv, p, hz⟩ := I.tuple hq
    obtain ⟨u, hu, ru⟩ := rv.get hx
    have szE : e < s.heap.objs.size := Heap.lt_size he
    have szJ : j < s.heap.objs.size := by obtain ⟨_, q, _⟩ := hj; exact Heap.lt_size q
    have hu2 : its.toArray[i]? = some u := by simpa using hu
    have hlt : i < its.toArray.size := by
      rcases Nat.lt_or_ge i its.toArray.size with z | z
      · exact z
      · rw [Array.getElem?_eq_none z] at hu2; cases hu2
    refine wpAny_pyNext_enum_itemD (Draws.tuple (show X.A.in1.handled = none from I.ok.hd hc) j a n1 its.toArray) he ⟨hj, p⟩ hlt n3 (fun z => by
      rcases List.mem_cons.mp z with z | z
      · exact n3 z
      · exact n2 (by simpa using z)) (fun y h' tk py ho st' hT hsz hk => ?_)
    have ey : y = u := Option.some.inj (py.symm.trans hu2)
    subst ey
    refine ⟨_, rfl, wpAny_letOwnedTupleGo_enum (s := { s with heap := h', toks := tk + 1 }) ho fun h'' he' sb => ?_⟩
    have gT : h''.get? s.heap.objs.size = some { cls := .type "tuple", data := .seq #[.int i tk, y] } := (sb.2 _ (Nat.ne_of_gt szE)).trans hT
    have nw : ObjOk X.prog X.w (upd H s.heap.objs.size (.tup [.int (i : Nat), x])) h'' s.heap.objs.size (.tup [.int (i : Nat), x]) :=
      ⟨by show 2 ≤ sizeLine; decide, [.int i tk, y], .cons ⟨_, rfl⟩ (.cons ru .nil), _, gT, rfl, _, rfl⟩
    have I1 : Inv X pins σ (upd H s.heap.objs.size (.tup [.int (i : Nat), x])) { s with heap := h'', toks := tk + 1 } :=
      I.turnedNew (ch := [e, j]) (fun b ob hb q => (sb.2 b fun z => hb (by simp [z])).trans (hk b ob (fun z => hb (by simp [z])) (fun z => hb (by simp [z])) q)) hf (Nat.le_refl _) nw
    refine ⟨.ref s.heap.objs.size, _, I1, rfl, ⟨_, x, rfl, I.hok.fresh (Nat.le_refl _), rfl, fun ys hy => by rw [I.tuple_inj hy hq]; exact hx⟩, ⟨⟨y, ?_⟩, st'.1.at fun o q => (sb.2 j n3.symm).trans q⟩, fun b hb => ?_⟩
    · have e1 : (i : Int) + 1 = ((i + 1 : Nat) : Int) := by omega
      rw [← e1]
      exact he'
    · have lb : b < s.heap.objs.size := by
        rcases two b hb with rfl | rfl
        · exact szE
        · exact szJ
      rw [upd_ne (Nat.ne_of_lt lb)]
      exact (hf b hb).1
  · intro X hP hw hK hc i pins s σ H E I hf st hg
    subst hP hw hK
    obtain ⟨⟨old, he⟩, hj⟩ := st
    obtain ⟨xs, hq, hx⟩ := hg
    obtain ⟨its, rv, p, hz⟩ := I.tuple hq
    obtain ⟨f0, f1, f2, f3, f4, f5⟩ := hf j (by simp)
    have hl : i = its.toArray.size := by rw [List.size_toArray, ← rv.length]; exact hx.symm
    subst hl
    exact wpAny_pyNext_enum_endD (Draws.tuple (show X.A.in1.handled = none from I.ok.hd hc) j a n1 its.toArray) he ⟨hj, p⟩ fun h' eb => ⟨rfl, I.turned (t' := s.toks) (fun b o hb q => eb b o hb q) f0 f1 f3 f4 f5⟩
/-- for i, x in enumerate(t), t a tuple -/
def iEnumT (K : PySem.W.Frag) (ta : TA) : TI := fun σ H R => ta σ H fun vs H1 => ∃ a xs, vs = [.ref a] ∧ SqT K H1 a xs ∧ R (IteT K a) H1
/-! ### the text's own methods by signs -/
section
variable {X : Cx} {CX : CXT} {k n : Nat} {C f : Addr} {fd : FuncData} {ps : List Str} {sp : Sp} {E : XK}
/-- a def called somewhere below the running body -/
theorem tk_run {A : Around} {pins : List (Addr × Obj)} {σ : St} {H : Hp} {s : Shared} {Q : VK} {us : List Value} {vs : List V} (sb : Sub X k A) (F : FnOk X.prog X.w X.K X.mg X.base CX k f fd ps sp) (hb : Binds X.K fd ps []) (hx : Passes CX X E)
    (I : Inv X pins σ H s) (r : Vals vs us) (h : sp vs H Q E) : wpAny (model X.prog X.w) A (call (.ref f) us) (EP X pins σ Q) X.xe s := by
  have e := I.env0
  have e0 : Env0 X.prog X.w X.K X.mg X.base A X.stack s H := ⟨by rw [sb.fr]; exact e.frames, e.mod, e.bs, e.bsz, e.funs, e.frf, e.hok, e.bare⟩
  have hl : us.length = ps.length := r.length.symm.trans (F.len _ _ _ _ h)
  have bd := hb s us I.kIn (by simpa using hl)
  refine wpAny_call (codeAny_mono (F.run A X.stack s H ⟨us, []⟩ us vs Q E sb.room e0 (by simpa using bd) r h) fun res s' hq => ?_)
  match res, hq with
  | .error e, hq => exact hx pins σ H s e s' I hq
  | .ok (.ret u), hq => exact I.after hq
/-- what stands in the class C as the method m -/
structure OwnM (K : PySem.W.Frag) (C : Addr) (m : Str) (f : Addr) : Prop where
  at_ : PySem.W.findIn K (.ref C) m = some (some (.ref f))
  fn : PySem.W.isFn K (.ref f) = true
theorem ownInst {pins : List (Addr × Obj)} {σ : St} {H : Hp} {s : Shared} {a dx : Addr} {fs : List (Str × V)} (I : Inv X pins σ H s) (ha : H a = some (.ins C dx fs)) : ∃ ox od, PySem.W.InstAt s.heap a ox C od := by
  obtain ⟨mA, J, _⟩ := ins_get I.hok ha
  obtain ⟨od, J, _⟩ := J.look
  exact ⟨_, _, J⟩
def rOwn2 (C : Addr) (sp : Sp) (E : XK) : R2 := fun x y H Q => ∃ a dx fs, x = .ref a ∧ H a = some (.ins C dx fs) ∧ sp [.ref a, y] H Q E
def rOwnIn (C : Addr) (sp : Sp) (E : XK) (neg : Bool) : R2 := fun y x H Q => ∃ a dx fs, x = .ref a ∧ H a = some (.ins C dx fs) ∧ sp [.ref a, y] H (fun v H' => ∃ c, v = .bl c ∧ Q (.bl (if neg then !c else c)) H') E
/-- y in o by the class's own __contains__ -/
theorem op_inOwn (M : OwnM X.K C "__contains__" f) (F : FnOk X.prog X.w X.K X.mg X.base CX k f fd ps sp) (hr : Room k X.A) (hb : Binds X.K fd ps []) (hx : Passes CX X E) : OpR X (compareOp .In) (rOwnIn C sp E false) := by
  intro pins s σ H y x u v Q I ry rx h
  obtain ⟨p, dx, fs, rfl, hp, q⟩ := h
  obtain rfl : v = Value.ref p := rx
  obtain ⟨ox, od, J⟩ := ownInst I hp
  obtain ⟨m, hF⟩ := I.fr
  refine PySem.W.in_K hF I.ok.mod.kin J M.at_ M.fn (thn (tk_run ⟨hr, rfl⟩ F hb hx I (.cons (show RelV (.ref p) (.ref p) from rfl) (.cons ry .nil)) q) fun r s' hq => ?_)
  obtain ⟨z, H', I', rz, c, rfl, q'⟩ := hq
  cases rz
  exact wpAny_truthy_bool ⟨.bl c, H', I', rfl, q'⟩
theorem op_notInOwn (M : OwnM X.K C "__contains__" f) (F : FnOk X.prog X.w X.K X.mg X.base CX k f fd ps sp) (hr : Room k X.A) (hb : Binds X.K fd ps []) (hx : Passes CX X E) : OpR X (compareOp .NotIn) (rOwnIn C sp E true) := by
  intro pins s σ H y x u v Q I ry rx h
  obtain ⟨p, dx, fs, rfl, hp, q⟩ := h
  obtain rfl : v = Value.ref p := rx
  obtain ⟨ox, od, J⟩ := ownInst I hp
  obtain ⟨m, hF⟩ := I.fr
  refine PySem.W.notIn_K hF I.ok.mod.kin J M.at_ M.fn (thn (tk_run ⟨hr, rfl⟩ F hb hx I (.cons (show RelV (.ref p) (.ref p) from rfl) (.cons ry .nil)) q) fun r s' hq => ?_)
  obtain ⟨z, H', I', rz, c, rfl, q'⟩ := hq
  cases rz
  exact wpAny_truthy_bool ⟨.bl (!c), H', I', rfl, q'⟩
/-- len(o) by the class's own __len__ -/
theorem call_lenOwn (M : OwnM X.K C "__len__" f) (F : FnOk X.prog X.w X.K X.mg X.base CX k f fd ps sp) (hr : Room (k + 1) X.A) (hb : Binds X.K fd ps []) (hx : Passes CX X E) :
    CallR X (.builtin "len") (fun xs H Q => ∃ a dx fs, xs = [.ref a] ∧ H a = some (.ins C dx fs) ∧ sp [.ref a] H (fun v H' => ∃ i : Int, v = .int i ∧ 0 ≤ i ∧ i < 2 ^ 63 ∧ Q v H') E) := by
  intro pins s σ H xs us Q I r h
  obtain ⟨p, dx, fs, rfl, hp, q⟩ := h
  obtain ⟨u, rfl, rx⟩ := vals1 r
  obtain rfl : u = Value.ref p := rx
  obtain ⟨ox, od, J⟩ := ownInst I hp
  obtain ⟨m, hF⟩ := I.fr
  refine PySem.W.len_K hF I.ok.mod.kin J M.at_ M.fn (thn (tk_run ⟨hr.in1, rfl⟩ F hb hx I (.cons (show RelV (.ref p) (.ref p) from rfl) .nil) q) fun r s' hq => ?_)
  obtain ⟨z, H', I', rz, i, rfl, i0, i1, q'⟩ := hq
  obtain ⟨t, rfl⟩ := rz
  refine ⟨⟨i0, i1⟩, ⟨.int i, H', I'.tok _, ⟨_, rfl⟩, q'⟩⟩
end
/-! ### .get of a written dict -/
def KG (K : PySem.W.Frag) (w : World) (a : Addr) (x : Str) (v : V) : Prop := KDct K w a x v ∧ (a == sysModules) = false
def tKGet (K : PySem.W.Frag) (w : World) (td ty : TE) : TE := fun σ H Q => td σ H fun x H1 => ty σ H1 fun y H2 => ∃ a z v, x = .ref a ∧ y = .str z ∧ KG K w a z v ∧ Q v H2
theorem pe_kget {X : Cx} {o e : Expr} {td ty : TE} {apos cpos : Pos} (ho : PE X o td) (he : PE X e ty) (hd : ∀ σ H Q, td σ H Q → td σ H fun x H1 => (∃ a oc es n, x = V.ref a ∧ X.K.lookup a = some oc ∧ oc = ⟨.type "dict", none, .dict es n, #[]⟩) ∧ Q x H1) (m : M1 X o "get" apos e cpos) :
    PE X (.Call (.Attribute o "get" apos) [e] [] cpos) (tKGet X.K X.w td ty) := by
  refine ⟨fun pins s σ H Q I h => ?_⟩
  refine wpAny_Call_method m.base m.few m.line PySem.F.plainAttrs_dict PySem.F.slot_dict_get PySem.F.type_dict_get (thn (ho.run pins s σ H _ I (hd _ _ _ h)) fun u s1 q0 => ?_)
  obtain ⟨x, H1, I1, rx, ⟨a, oc, es, n, rfl, lk, rfl⟩, q1⟩ := q0
  obtain rfl : u = Value.ref a := rx
  have ga := I1.kIn _ _ lk
  refine ⟨⟨_, ga, rfl⟩, fun b q => by cases q; exact ⟨_, ga, rfl⟩, ?_⟩
  rw [m.trees]
  refine Calls.callWith_builtin rfl (Calls.evalArgs_plain (Calls.spliced_cons (thn (he.run pins s1 σ H1 _ I1 q1) fun iv s2 q2 => Calls.spliced_nil ?_)))
  obtain ⟨y, H2, I2, ry, a', z, v, ea, rfl, ⟨⟨es', n', u0, hl, hk, e1, ru⟩, hs⟩, q2⟩ := q2
  cases ea
  obtain ⟨t, rfl⟩ := ry
  have mo := PySem.W.mapOf_K (prog := X.prog) (w := X.w) I2.kIn hl hk
  refine call_meetsIn PySem.F.slot_dict_get mo.typeIs PySem.F.entry_dict_get (PySem.F.args_dict_get_2 _ _) (meets_dict_get (strKind X.prog X.w) a (strKind_is X.prog X.w z t) hs) ⟨_, mo, ?_⟩
  rw [PySem.W.find_K hl e1]
  exact ⟨v, H2, I2.tok _, ru, q2⟩
end L2
set_option maxRecDepth 100000
/-! What is walked; loops; comprehensions. -/
namespace L2
open PySem PySem.Spec PyProof.Rows
/-- a list or a tuple is walked -/
def iSeq (K : PySem.W.Frag) (tl : TE) : TI := fun σ H R => tl σ H fun x H1 => (∃ a, x = .ref a ∧ (∃ xs, SqL K H1 a xs) ∧ R (Itl K a) H1) ∨ ∃ a, x = .ref a ∧ (∃ xs, SqT K H1 a xs) ∧ R (Itt K a) H1
theorem pi_seq {X : Cx} {tg l : Expr} {tl : TE} (hl : PE X l tl) : PI X tg l (iSeq X.K tl) := by
  refine ⟨fun pins s σ H R I h => ?_⟩
  refine thn (hl.run pins s σ H _ I h) fun v s1 ⟨x, H1, I1, r1, q1⟩ => ?_
  rcases q1 with ⟨a, e, ⟨xs, hq⟩, q⟩ | ⟨a, e, ⟨xs, hq⟩, q⟩
  · subst e
    cases r1
    obtain ⟨its, rv, p, hz⟩ := I1.list hq
    refine wpAny_pyIter_list p.isList ?_
    refine ⟨s1.heap.objs.size, [s1.heap.objs.size], _, _, H1, rfl, I1.kept (t' := s1.toks) fun b o e => Heap.get?_push_of_some _ e, turn_list a _, ⟨_, Heap.get?_push_size _ rfl, rfl, rfl⟩, fun b hb => ?_, q⟩
    have e : b = s1.heap.objs.size := by simpa using hb
    subst e
    exact I1.fpOk (Nat.le_refl _) (I1.hok.fresh (Nat.le_refl _))
  · subst e
    cases r1
    obtain ⟨its, rv, p, hz⟩ := I1.tuple hq
    refine wpAny_pyIter_tuple (show s1.heap.IsTuple a its.toArray from p) ?_
    refine ⟨s1.heap.objs.size, [s1.heap.objs.size], _, _, H1, rfl, I1.kept (t' := s1.toks) fun b o e => Heap.get?_push_of_some _ e, turn_tuple a _, ⟨_, Heap.get?_push_size _ rfl, rfl, rfl⟩, fun b hb => ?_, q⟩
    have e : b = s1.heap.objs.size := by simpa using hb
    subst e
    exact I1.fpOk (Nat.le_refl _) (I1.hok.fresh (Nat.le_refl _))
def iEnumA (K : PySem.W.Frag) (ta : TA) : TI := fun σ H R => ta σ H fun vs H1 => ∃ a xs, vs = [.ref a] ∧ ((SqL K H1 a xs ∧ R (Ite K a) H1) ∨ (SqT K H1 a xs ∧ R (IteT K a) H1))
theorem pi_enumA {X : Cx} {e : Expr} {ta : TA} {p pos tpos : Pos} {elts : List Expr} {kk : Nat} (hg : Gl X "enumerate") (hm : X.mg "enumerate" = none) (ha : PA X [e] ta) (hs : starEach [e] X.env = [(false, eval e X.env)] := by rfl) :
    PI X (.Tuple elts kk tpos) (.Call (.Name "enumerate" p) [e] [] pos) (iEnumA X.K ta) := by
  refine ⟨fun pins s σ H R I h => ?_⟩
  refine Call_ (ld_blt I hg hm boot_enumerate (PyProof.Rows.callWith_type1 (thn (ha.run pos pins s σ H _ I h) fun us s1 ⟨vs, H1, I1, r1, q1⟩ => ?_) hs rfl))
  obtain ⟨a, xs, ex, q1⟩ := q1
  subst ex
  cases r1 with
  | cons r rr =>
    cases rr
    cases r
    rcases q1 with ⟨hq, q⟩ | ⟨hq, q⟩
    · obtain ⟨its, rv, p', hz⟩ := I1.list hq
      refine call_enumerate_list p'.isList fun h' he hit hsz hk => wpAny_pyIter_enum he ?_
      have I2 : Inv X pins σ H1 { s1 with heap := h' } := I1.kept (t' := s1.toks) hk
      refine ⟨s1.heap.objs.size + 1, [s1.heap.objs.size + 1, s1.heap.objs.size], _, _, H1, rfl, I2, turn_enum a (s1.heap.objs.size + 1) s1.heap.objs.size, ⟨⟨.none, he⟩, hit, Nat.succ_ne_self _⟩, fun b hb => ?_, q⟩
      have e' : b = s1.heap.objs.size + 1 ∨ b = s1.heap.objs.size := by simpa using hb
      have hle : s1.heap.objs.size ≤ b := by
        rcases e' with z | z
        · rw [z]; exact Nat.le_add_right _ _
        · rw [z]; exact Nat.le_refl _
      exact I1.fpOk hle (I1.hok.fresh hle)
    · obtain ⟨its, rv, p', hz⟩ := I1.tuple hq
      have la : a < s1.heap.objs.size := by obtain ⟨_, z, _⟩ := p'; exact Heap.lt_size z
      refine tk_enum (begins_tuple a its.toArray) p' fun h' he hit hk => wpAny_pyIter_enum he ?_
      have I2 : Inv X pins σ H1 { s1 with heap := h' } := I1.kept (t' := s1.toks) hk
      refine ⟨s1.heap.objs.size + 1, [s1.heap.objs.size + 1, s1.heap.objs.size], _, _, H1, rfl, I2, tk_turn a (s1.heap.objs.size + 1) s1.heap.objs.size (Nat.ne_of_lt la) (Nat.ne_of_gt (Nat.lt_succ_of_lt la)) (Nat.succ_ne_self _), ⟨⟨.none, he⟩, ⟨_, hit, rfl, rfl⟩⟩, fun b hb => ?_, q⟩
      have two : b = s1.heap.objs.size + 1 ∨ b = s1.heap.objs.size := by simpa using hb
      have le : s1.heap.objs.size ≤ b := two.elim (fun z => z ▸ Nat.le_succ _) (fun z => z ▸ Nat.le_refl _)
      exact I1.fpOk le (I1.hok.fresh le)
end L2
namespace Mm
open PySem L2
abbrev Its := List D × Option (Nat × List D)
abbrev IM := Env → Sto → R Its
/-- a list in the store that is walked is as it was -/
def Stay (S : Sto) (it : Its) : Prop := ∀ k es, it.2 = some (k, es) → S[k]? = some (.lst es)
@[simp] theorem stay_none (S : Sto) (ds : List D) : Stay S (ds, none) := fun k es h => by cases h
theorem stay_some {S : Sto} {ds es : List D} {k : Nat} (h : S[k]? = some (.lst es)) : Stay S (ds, some (k, es)) := fun j fs e => by cases e; exact h
section
variable (w : Wn)
def Wk (c : Cn) (H : Hp) (n : Nat) (it : Its) (J : It) : Prop := ∀ c1 H1 S, ExtA c H n c1 H1 S.length → Rep w c1 H1 S → Stay S it → ∀ i,
  (∀ d, it.1[i]? = some d → J.go i H1 ∧ ∀ x H2, J.yld i H1 x H2 → Ext c1 H1 S.length c1 H2 S.length ∧ Rep w c1 H2 S ∧ At w c1 H2 S.length d x) ∧ (i = it.1.length → J.stop i H1)
end
def mI (w : Wn) (W : WX) (m : IM) : TI := fun σ H R => mG w W (Wk w) m σ H R
abbrev CI (Γ : Cls') (X : Cx) (W : WX) (tg iter : Expr) (m : IM) : Prop := PI X tg iter (mI ⟨X.K, Γ⟩ W m)
theorem PI.weak {X : Cx} {tg e : Expr} {t t' : TI} (h : PI X tg e t) (i : ∀ σ H Q, t' σ H Q → t σ H Q) : PI X tg e t' := ⟨fun pins s σ H Q I q => h.run pins s σ H Q I (i σ H Q q)⟩
section
variable {w : Wn} {W : WX} {σ : St} {c c' : Cn} {H H' : Hp} {n n' : Nat} {S : Sto} {env : Env}
variable {Γ : Cls'} {X : Cx} {a b e tg : Expr} {ma mb : EM} {pos : Pos} {Dn : Ends}
/-- the items of a value, and where they stand if they stand in the store -/
def itsOf (S : Sto) (d : D) : Option Its := match d with
  | .tup ds => some (ds, none)
  | .lst ds => some (ds, none)
  | .fz ns => some (ns.map .int, none)
  | .loc k => match S[k]? with
    | some (.lst ds) => some (ds, some (k, ds))
    | _ => none
  | _ => none
@[simp] theorem itsOf_tup (S : Sto) (ds : List D) : itsOf S (.tup ds) = some (ds, none) := rfl
@[simp] theorem itsOf_lst (S : Sto) (ds : List D) : itsOf S (.lst ds) = some (ds, none) := rfl
/-- what a value's items are at any later time -/
def Later (w : Wn) (c : Cn) (H : Hp) (n : Nat) (it : Its) (P : Hp → List V → Prop) : Prop := ∀ c1 H1 S1, ExtA c H n c1 H1 S1.length → Rep w c1 H1 S1 → Stay S1 it → ∃ vs, P H1 vs ∧ Ats w c1 H1 S1.length it.1 vs
theorem its_at {d : D} {v : V} {it : Its} (r : Rep w c H S) (at_ : At w c H S.length d v) (h : itsOf S d = some it) :
    Stay S it ∧ ∃ p, v = .ref p ∧ (Later w c H S.length it (fun H vs => SqL w.K H p vs) ∨ Later w c H S.length it (fun H vs => SqT w.K H p vs)) := by
  cases d with
  | tup ds =>
    cases h
    obtain ⟨p, vs, rfl, g, t⟩ := at_.tup
    exact ⟨stay_none _ _, p, rfl, .inr fun c1 H1 S1 e _ _ => ⟨vs, e.sqT g, Ats.monoA e _ _ t⟩⟩
  | lst ds =>
    cases h
    unfold At at at_
    obtain ⟨p, vs, rfl, f, g, t⟩ := at_
    exact ⟨stay_none _ _, p, rfl, .inl fun c1 H1 S1 e _ _ => ⟨vs, SqL.of (e.keepF _ _ f g), Ats.monoA e _ _ t⟩⟩
  | fz ns =>
    cases h
    unfold At at at_
    obtain ⟨p, rfl, g⟩ := at_
    exact ⟨stay_none _ _, p, rfl, .inl fun c1 H1 S1 e _ _ => ⟨_, (e.fzL g).sq, ats_ints ns⟩⟩
  | loc k =>
    unfold itsOf at h
    cases hk : S[k]? with
    | none => simp only [hk] at h; cases h
    | some o =>
      cases o with
      | lst ds =>
        simp only [hk] at h
        cases h
        unfold At at at_
        refine ⟨stay_some hk, c.ρ k, at_.2, .inl fun c1 H1 S1 e r1 st => ?_⟩
        obtain ⟨vs1, g1, t1⟩ := r1.get (st k _ rfl)
        rw [e.rho k at_.1] at g1
        exact ⟨vs1, SqL.of g1, t1⟩
      | _ => simp only [hk] at h; cases h
  | _ => cases h
theorem later_lst {ds : List D} {v : V} (at_ : At w c H n (.lst ds) v) : ∃ p, v = .ref p ∧ Later w c H n (ds, none) (fun H vs => SqL w.K H p vs) := by
  unfold At at at_
  obtain ⟨p, vs, rfl, f, g, t⟩ := at_
  exact ⟨p, rfl, fun c1 H1 S1 e _ _ => ⟨vs, SqL.of (e.keepF _ _ f g), Ats.monoA e _ _ t⟩⟩
theorem later_tup {ds : List D} {v : V} (at_ : At w c H n (.tup ds) v) : ∃ p, v = .ref p ∧ Later w c H n (ds, none) (fun H vs => SqT w.K H p vs) := by
  obtain ⟨p, vs, rfl, g, t⟩ := at_.tup
  exact ⟨p, rfl, fun c1 H1 S1 e _ _ => ⟨vs, e.sqT g, Ats.monoA e _ _ t⟩⟩
theorem Later.wkL {it : Its} {p : Addr} (l : Later w c H n it (fun H vs => SqL w.K H p vs)) : Wk w c H n it (Itl w.K p) := by
  intro c1 H1 S e r st i
  obtain ⟨vs, g, t⟩ := l c1 H1 S e r st
  refine ⟨fun d hd => ?_, fun hi => ⟨vs, g, by rw [t.len, hi]; exact Nat.le_refl _⟩⟩
  obtain ⟨v, hv, a⟩ := t.get hd
  exact ⟨⟨vs, v, g, hv⟩, fun x H2 ⟨e2, q⟩ => by
    have := q vs g
    rw [hv] at this; cases this
    rw [e2]
    exact ⟨Ext.refl, r, a⟩⟩
theorem Later.wkT {it : Its} {p : Addr} (l : Later w c H n it (fun H vs => SqT w.K H p vs)) : Wk w c H n it (Itt w.K p) := by
  intro c1 H1 S e r st i
  obtain ⟨vs, g, t⟩ := l c1 H1 S e r st
  refine ⟨fun d hd => ?_, fun hi => ⟨vs, g, by rw [t.len, hi]; exact Nat.le_refl _⟩⟩
  obtain ⟨v, hv, a⟩ := t.get hd
  exact ⟨⟨vs, v, g, hv⟩, fun x H2 ⟨e2, q⟩ => by
    have := q vs g
    rw [hv] at this; cases this
    rw [e2]
    exact ⟨Ext.refl, r, a⟩⟩
/-- numbered -/
def numD (k : Nat) : List D → List D
  | [] => []
  | d :: r => .tup [.int k, d] :: numD (k + 1) r
theorem numD_len : ∀ (k : Nat) (ds : List D), (numD k ds).length = ds.length
  | k, [] => rfl
  | k, d :: r => by unfold numD; rw [List.length_cons, List.length_cons, numD_len]
theorem numD_get : ∀ (k : Nat) (ds : List D) (i : Nat), (numD k ds)[i]? = (ds[i]?).map fun d => .tup [.int ((k + i : Nat) : Int), d]
  | k, [], i => by simp [numD]
  | k, d :: r, 0 => by unfold numD; rfl
  | k, d :: r, i + 1 => by
    unfold numD
    rw [List.getElem?_cons_succ, List.getElem?_cons_succ, numD_get, Nat.add_assoc, Nat.add_comm 1 i]
theorem tup_new {p : Addr} {ds : List D} {vs : List V} (r : Rep w c H S) (hp : H p = none) (t : Ats w c H S.length ds vs) : Ext c H S.length c (upd H p (.tup vs)) S.length ∧ Rep w c (upd H p (.tup vs)) S ∧ At w c (upd H p (.tup vs)) S.length (.tup ds) (.ref p) := by
  refine ⟨Ext.grow hp, r.grow hp, ?_⟩
  unfold At
  exact ⟨p, vs, rfl, SqT.of upd_same, t.mono (Ext.grow hp)⟩
theorem Later.wkE {it : Its} {p : Addr} (l : Later w c H n it (fun H vs => SqL w.K H p vs)) : Wk w c H n (numD 0 it.1, it.2) (Ite w.K p) := by
  intro c1 H1 S e r st i
  obtain ⟨vs, g, t⟩ := l c1 H1 S e r st
  refine ⟨fun d hd => ?_, fun hi => ⟨vs, g, by rw [t.len]; rw [numD_len] at hi; rw [hi]; exact Nat.le_refl _⟩⟩
  change (numD 0 it.1)[i]? = some d at hd
  rw [numD_get] at hd
  cases hi : it.1[i]? with
  | none => rw [hi] at hd; cases hd
  | some d' =>
    rw [hi] at hd
    cases hd
    obtain ⟨v, hv, a⟩ := t.get hi
    refine ⟨⟨vs, v, g, hv⟩, ?_⟩
    rintro x H2 ⟨T, y, rfl, hT, rfl, q⟩
    have := q vs g
    rw [hv] at this; cases this
    rw [Nat.zero_add]
    exact tup_new r hT (.cons (.i _) (.one a))
theorem Later.wkET {it : Its} {p : Addr} (l : Later w c H n it (fun H vs => SqT w.K H p vs)) : Wk w c H n (numD 0 it.1, it.2) (IteT w.K p) := by
  intro c1 H1 S e r st i
  obtain ⟨vs, g, t⟩ := l c1 H1 S e r st
  refine ⟨fun d hd => ?_, fun hi => ⟨vs, g, by rw [t.len]; rw [numD_len] at hi; exact hi.symm⟩⟩
  change (numD 0 it.1)[i]? = some d at hd
  rw [numD_get] at hd
  cases hi : it.1[i]? with
  | none => rw [hi] at hd; cases hd
  | some d' =>
    rw [hi] at hd
    cases hd
    obtain ⟨v, hv, a⟩ := t.get hi
    refine ⟨⟨vs, v, g, hv⟩, ?_⟩
    rintro x H2 ⟨T, y, rfl, hT, rfl, q⟩
    have := q vs g
    rw [hv] at this; cases this
    rw [Nat.zero_add]
    exact tup_new r hT (.cons (.i _) (.one a))
/-- two lists side by side -/
def zipD : List D → List D → List D
  | x :: r, y :: s => .tup [x, y] :: zipD r s
  | _, _ => []
theorem zipD_get : ∀ (xs ys : List D) (i : Nat) (d : D), (zipD xs ys)[i]? = some d → ∃ x y, xs[i]? = some x ∧ ys[i]? = some y ∧ d = .tup [x, y]
  | x :: r, y :: s, 0, d, h => by unfold zipD at h; cases h; exact ⟨x, y, rfl, rfl, rfl⟩
  | x :: r, y :: s, i + 1, d, h => by
    unfold zipD at h
    rw [List.getElem?_cons_succ] at h
    obtain ⟨a, b, h1, h2, h3⟩ := zipD_get r s i d h
    exact ⟨a, b, by rw [List.getElem?_cons_succ]; exact h1, by rw [List.getElem?_cons_succ]; exact h2, h3⟩
  | [], ys, i, d, h => by unfold zipD at h; simp at h
  | x :: r, [], i, d, h => by unfold zipD at h; simp at h
theorem zipD_len : ∀ (xs ys : List D), (zipD xs ys).length = min xs.length ys.length
  | x :: r, y :: s => by
    unfold zipD
    rw [List.length_cons, List.length_cons, List.length_cons, zipD_len, Nat.succ_min_succ]
  | [], ys => by unfold zipD; simp
  | x :: r, [] => by unfold zipD; simp
theorem Later.wkZ {xs ys : List D} {p q : Addr} (l : Later w c H n (xs, none) (fun H vs => SqL w.K H p vs)) (m : Later w c H n (ys, none) (fun H vs => SqL w.K H q vs)) : Wk w c H n (zipD xs ys, none) (Itz w.K p q) := by
  intro c1 H1 S e r st i
  obtain ⟨vs, g, t⟩ := l c1 H1 S e r (stay_none _ _)
  obtain ⟨us, g2, t2⟩ := m c1 H1 S e r (stay_none _ _)
  refine ⟨fun d hd => ?_, fun hi => ⟨vs, us, g, g2, by
    rw [t.len, t2.len]
    change i = (zipD xs ys).length at hi
    rw [zipD_len] at hi
    show xs.length ≤ i ∨ ys.length ≤ i
    omega⟩⟩
  obtain ⟨x, y, hx, hy, rfl⟩ := zipD_get _ _ _ _ hd
  obtain ⟨v, hv, a⟩ := t.get hx
  obtain ⟨u, hu, b⟩ := t2.get hy
  refine ⟨⟨vs, us, v, u, g, g2, hv, hu⟩, ?_⟩
  rintro z H2 ⟨T, x1, y1, rfl, hT, rfl, q1, q2⟩
  have e1 := q1 vs g
  rw [hv] at e1; cases e1
  have e2 := q2 us g2
  rw [hu] at e2; cases e2
  exact tup_new r hT (.cons a (.one b))
theorem Later.wkZT {xs ys : List D} {p q : Addr} (l : Later w c H n (xs, none) (fun H vs => SqT w.K H p vs)) (m : Later w c H n (ys, none) (fun H vs => SqT w.K H q vs)) : Wk w c H n (zipD xs ys, none) (RZ.ItzT w.K p q) := by
  intro c1 H1 S e r st i
  obtain ⟨vs, g, t⟩ := l c1 H1 S e r (stay_none _ _)
  obtain ⟨us, g2, t2⟩ := m c1 H1 S e r (stay_none _ _)
  refine ⟨fun d hd => ?_, fun hi => ⟨vs, us, g, g2, by
    rw [t.len, t2.len]
    change i = (zipD xs ys).length at hi
    rw [zipD_len] at hi
    show xs.length ≤ i ∨ ys.length ≤ i
    omega⟩⟩
  obtain ⟨x, y, hx, hy, rfl⟩ := zipD_get _ _ _ _ hd
  obtain ⟨v, hv, a⟩ := t.get hx
  obtain ⟨u, hu, b⟩ := t2.get hy
  refine ⟨⟨vs, us, v, u, g, g2, hv, hu⟩, ?_⟩
  rintro z H2 ⟨T, x1, y1, rfl, hT, rfl, q1, q2⟩
  have e1 := q1 vs g
  rw [hv] at e1; cases e1
  have e2 := q2 us g2
  rw [hu] at e2; cases e2
  exact tup_new r hT (.cons a (.one b))
/-- lo, lo + 1, .. -/
def rngD (lo : Int) : Nat → List D
  | 0 => []
  | k + 1 => .int lo :: rngD (lo + 1) k
theorem rngD_len : ∀ (lo : Int) (k : Nat), (rngD lo k).length = k
  | lo, 0 => rfl
  | lo, k + 1 => by unfold rngD; rw [List.length_cons, rngD_len]
theorem rngD_get : ∀ (lo : Int) (k i : Nat) (d : D), (rngD lo k)[i]? = some d → i < k ∧ d = .int (lo + i)
  | lo, 0, i, d, h => by unfold rngD at h; simp at h
  | lo, k + 1, 0, d, h => by unfold rngD at h; cases h; exact ⟨Nat.succ_pos _, by simp⟩
  | lo, k + 1, i + 1, d, h => by
    unfold rngD at h
    rw [List.getElem?_cons_succ] at h
    obtain ⟨h1, h2⟩ := rngD_get _ _ _ _ h
    exact ⟨Nat.succ_lt_succ h1, by rw [h2]; congr 1; omega⟩
theorem wkR {lo : Int} {k : Nat} : Wk w c H n (rngD lo k, none) (Itr lo k) := by
  intro c1 H1 S e r st i
  refine ⟨fun d hd => ?_, fun hi => ?_⟩
  · obtain ⟨h1, rfl⟩ := rngD_get _ _ _ _ hd
    refine ⟨h1, ?_⟩
    rintro x H2 ⟨rfl, rfl⟩
    exact ⟨Ext.refl, r, .i _⟩
  · change i = (rngD lo k).length at hi
    rw [rngD_len] at hi
    exact Nat.le_of_eq hi.symm
/-! ## what is walked -/
def i_seq (m : EM) : IM := fun env S => (m env S).bind fun d S1 => .ofO (itsOf S1 d) S1
def i_rng1 (m : EM) : IM := fun env S => (m env S).bind fun d S1 => match d with
  | .int j => .if (-(2 ^ 62) ≤ j ∧ j < 2 ^ 62) (.ok (rngD 0 j.toNat, none) S1)
  | _ => .bad
def i_rng2 (m m2 : EM) : IM := fun env S => (m env S).bind fun d S1 => (m2 env S1).bind fun e S2 => match d, e with
  | .int i, .int j => .if (-(2 ^ 62) ≤ i ∧ i < 2 ^ 62 ∧ -(2 ^ 62) ≤ j ∧ j < 2 ^ 62) (.ok (rngD i (j - i).toNat, none) S2)
  | _, _ => .bad
def i_enum (m : EM) : IM := fun env S => (m env S).bind fun d S1 => (R.ofO (itsOf S1 d) S1).bind fun it S2 => .ok (numD 0 it.1, it.2) S2
def zipO : D → D → Option (List D × List D)
  | .lst xs, .lst ys => some (xs, ys)
  | .tup xs, .tup ys => some (xs, ys)
  | _, _ => none
def i_zip (m m2 : EM) : IM := fun env S => (m env S).bind fun d S1 => (m2 env S1).bind fun e S2 => (R.ofO (zipO d e) S2).bind fun p S3 => .ok (zipD p.1 p.2, none) S3
theorem ci_seq (he : CE Γ X W e ma) : CI Γ X W tg e (i_seq ma) := by
  refine PI.weak (pi_seq he) fun σ H R ⟨c, env, S, r, ev, h⟩ => ?_
  refine ⟨c, env, S, r, ev, (Po.bind h).imp fun v H1 ⟨c1, S1, d1, e1, r1, a1, h1⟩ => ?_⟩
  obtain ⟨it, hit, h1⟩ := Po.ofO h1
  obtain ⟨st, p, rfl, l | l⟩ := its_at r1 a1 hit
  · obtain ⟨vs, g, _⟩ := l c1 H1 S1 Ext.refl.A r1 st
    exact .inl ⟨p, rfl, ⟨vs, g⟩, h1 c1 H1 _ Ext.refl r1 l.wkL⟩
  · obtain ⟨vs, g, _⟩ := l c1 H1 S1 Ext.refl.A r1 st
    exact .inr ⟨p, rfl, ⟨vs, g⟩, h1 c1 H1 _ Ext.refl r1 l.wkT⟩
theorem ci_enum {p tpos : Pos} {elts : List Expr} {kk : Nat} (hg : Gl X "enumerate") (hm : X.mg "enumerate" = none) (he : CE Γ X W e ma) (hs : starEach [e] X.env = [(false, eval e X.env)] := by rfl) (hs2 : starEach [e] X.env = (false, eval e X.env) :: starEach [] X.env := by rfl) :
    CI Γ X W (.Tuple elts kk tpos) (.Call (.Name "enumerate" p) [e] [] pos) (i_enum ma) := by
  refine PI.weak (pi_enumA hg hm (pa_cons he pa_nil hs2) hs) fun σ H R ⟨c, env, S, r, ev, h⟩ => ?_
  refine ⟨c, env, S, r, ev, (Po.bind h).imp fun v H1 ⟨c1, S1, d1, e1, r1, a1, h1⟩ => ?_⟩
  show ∃ a xs, [v] = [V.ref a] ∧ _
  cases hit : itsOf S1 d1 with
  | none => rw [hit] at h1; exact h1.elim
  | some it =>
    rw [hit] at h1
    obtain ⟨st, p, rfl, l | l⟩ := its_at r1 a1 hit
    · obtain ⟨vs, g, _⟩ := l c1 H1 S1 Ext.refl.A r1 st
      exact ⟨p, vs, rfl, .inl ⟨g, h1 c1 H1 _ Ext.refl r1 l.wkE⟩⟩
    · obtain ⟨vs, g, _⟩ := l c1 H1 S1 Ext.refl.A r1 st
      exact ⟨p, vs, rfl, .inr ⟨g, h1 c1 H1 _ Ext.refl r1 l.wkET⟩⟩
theorem ci_rng1 {p : Pos} (hg : Gl X "range") (hm : X.mg "range" = none) (he : CE Γ X W e ma) (hs : starEach [e] X.env = [(false, eval e X.env)] := by rfl) (hs2 : starEach [e] X.env = (false, eval e X.env) :: starEach [] X.env := by rfl) : CI Γ X W tg (.Call (.Name "range" p) [e] [] pos) (i_rng1 ma) := by
  refine PI.weak (pi_range1 hg hm (pa_cons he pa_nil hs2) hs) fun σ H R ⟨c, env, S, r, ev, h⟩ => ?_
  refine ⟨c, env, S, r, ev, (Po.bind h).imp fun v H1 ⟨c1, S1, d1, e1, r1, a1, h1⟩ => ?_⟩
  show ∃ j : Int, [v] = [V.int j] ∧ _
  cases d1 with
  | int j =>
    obtain ⟨hb, h1⟩ := Po.if h1
    exact ⟨j, by rw [a1.int], hb.1, hb.2, h1 c1 H1 _ Ext.refl r1 wkR⟩
  | _ => exact h1.elim
theorem ci_zip {p tpos : Pos} {elts : List Expr} {kk : Nat} (hg : Gl X "zip") (hm : X.mg "zip" = none) (ha : CE Γ X W a ma) (hb : CE Γ X W b mb)
    (hs : starEach [a, b] X.env = (false, eval a X.env) :: starEach [b] X.env := by rfl) (hpl : (backTo pos (starEach [b] X.env)).any (·.1) = false := by rfl) (hs4 : starEach [b] X.env = (false, eval b X.env) :: starEach [] X.env := by rfl) :
    CI Γ X W (.Tuple elts kk tpos) (.Call (.Name "zip" p) [a, b] [] pos) (i_zip ma mb) := by
  refine PI.weak (RZ.pi_zipA hg hm (pa_cons ha (pa_cons hb pa_nil hs4) hs) hs hpl) fun σ H R ⟨c, env, S, r, ev, h⟩ => ?_
  refine ⟨c, env, S, r, ev, (Po.bind h).imp fun v H1 ⟨c1, S1, d1, e1, r1, a1, h1⟩ => ?_⟩
  refine ⟨c1, env, S1, r1, ev.mono e1, (Po.bind h1).imp fun u H2 ⟨c2, S2, d2, e2, r2, a2, h2⟩ => ?_⟩
  show ∃ a b xs ys, [v, u] = [V.ref a, V.ref b] ∧ _
  have a1 := a1.mono e2
  cases d1 with
  | lst xs =>
    cases d2 with
    | lst ys =>
      obtain ⟨p, rfl, l⟩ := later_lst a1
      obtain ⟨q, rfl, l2⟩ := later_lst a2
      obtain ⟨vs, g, _⟩ := l c2 H2 S2 Ext.refl.A r2 (stay_none _ _)
      obtain ⟨us, g2, _⟩ := l2 c2 H2 S2 Ext.refl.A r2 (stay_none _ _)
      exact ⟨p, q, vs, us, rfl, .inl ⟨g, g2, h2 c2 H2 _ Ext.refl r2 (l.wkZ l2)⟩⟩
    | _ => exact h2.elim
  | tup xs =>
    cases d2 with
    | tup ys =>
      obtain ⟨p, rfl, l⟩ := later_tup a1
      obtain ⟨q, rfl, l2⟩ := later_tup a2
      obtain ⟨vs, g, _⟩ := l c2 H2 S2 Ext.refl.A r2 (stay_none _ _)
      obtain ⟨us, g2, _⟩ := l2 c2 H2 S2 Ext.refl.A r2 (stay_none _ _)
      exact ⟨p, q, vs, us, rfl, .inr ⟨g, g2, h2 c2 H2 _ Ext.refl r2 (l.wkZT l2)⟩⟩
    | _ => exact h2.elim
  | _ => cases d2 <;> exact h2.elim
/-! ## loops -/
open Classical in
noncomputable def loopS (g : GM) (body : SM) (st : Option (Nat × List D)) : List D → SM
  | [], env, S => .if (Stay S ([], st)) (.next env S)
  | d :: r, env, S => .if (Stay S ([], st)) (match g d env with
    | none => .bad
    | some env1 => match body env1 S with
      | .next env2 S2 => loopS g body st r env2 S2
      | .cnt env2 S2 => loopS g body st r env2 S2
      | .brk env2 S2 => .next env2 S2
      | x => x)
noncomputable def s_for (im : IM) (g : GM) (body : SM) : SM := fun env S => (im env S).toS env fun it S1 => loopS g body it.2 it.1 env S1
theorem Stay.of {it : Its} {ds : List D} (h : Stay S it) : Stay S (ds, it.2) := fun k es e => h k es e
open Classical in
theorem c_for {iter : Expr} {body : List Stmt} {im : IM} {g : GM} {m : SM} {sl : List Nat} (hp : PassesOwn (model X.prog X.w) X.A X.env X.xe) (hc : X.calm = true) (hi : CI Γ X W tg iter im) (hg : CG Γ X tg sl g) (hb : CSs Γ X W body m)
    (hs : ∀ x, foldedSetIterable iter X.env x = pure x := by intro _; rfl) : CS Γ X W (.For tg iter body [] pos) (s_for im g m) := by
  refine PS.weak (ps_for hp hc hi hg hb hs) fun Dn σ H ⟨c, env, S, r, ev, h⟩ => ?_
  refine ⟨c, env, S, r, ev, (PoS.part ev h).imp fun J H1 ⟨c1, S1, it, e1, r1, wk, ev1, h1⟩ => ?_⟩
  refine ⟨fun i m' σ' H' => ∃ c2 env2 S2, Ext c1 H1 S1.length c2 H' S2.length ∧ Rep ⟨X.K, Γ⟩ c2 H' S2 ∧ EnvR ⟨X.K, Γ⟩ c2 H' S2.length σ' env2 ∧ m' = it.1.length - i ∧ i ≤ it.1.length ∧ PoS ⟨X.K, Γ⟩ W c2 H' S2.length (loopS g m it.2 (it.1.drop i) env2 S2) Dn,
    ⟨it.1.length, c1, env, S1, Ext.refl, r1, ev1, by simp, Nat.zero_le _, h1⟩, ?_⟩
  rintro i m' σ' H' ⟨c2, env2, S2, e2, r2, ev2, rfl, hi, h2⟩
  by_cases hlt : i < it.1.length
  · right
    have hd : it.1.drop i = it.1[i] :: it.1.drop (i + 1) := List.drop_eq_getElem_cons hlt
    rw [hd] at h2
    unfold loopS at h2
    obtain ⟨st, h2⟩ := PoS.if h2
    obtain ⟨w1, _⟩ := wk c2 H' S2 e2.A r2 (Stay.of (ds := it.1) st) i
    obtain ⟨go, yl⟩ := w1 it.1[i] (List.getElem?_eq_getElem hlt)
    refine ⟨go, fun σ3 H3 => ∃ c3 env3 S3, Ext c1 H1 S1.length c3 H3 S3.length ∧ Rep ⟨X.K, Γ⟩ c3 H3 S3 ∧ EnvR ⟨X.K, Γ⟩ c3 H3 S3.length σ3 env3 ∧ PoS ⟨X.K, Γ⟩ W c3 H3 S3.length (loopS g m it.2 (it.1.drop (i + 1)) env3 S3) Dn,
      fun σ3 H3 ⟨c3, env3, S3, e3, r3, ev3, h3⟩ => ⟨it.1.length - (i + 1), by omega, c3, env3, S3, e3, r3, ev3, rfl, hlt, h3⟩, fun x H3 y => ?_⟩
    obtain ⟨ey, ry, ay⟩ := yl x H3 y
    have h3 := PoS.mono ey h2
    cases hg : g it.1[i] env2 with
    | none => rw [hg] at h3; exact h3.elim
    | some env3 =>
      rw [hg] at h3
      refine ⟨c2, env2, S2, it.1[i], env3, ry, ev2.mono ey, ay, hg, fun σ3 ev3 _ => ⟨c2, env3, S2, ry, ev3, ?_⟩⟩
      change PoS ⟨X.K, Γ⟩ W c2 H3 S2.length (match m env3 S2 with
        | .next env2 S2 => loopS g m it.2 (it.1.drop (i + 1)) env2 S2
        | .cnt env2 S2 => loopS g m it.2 (it.1.drop (i + 1)) env2 S2
        | .brk env2 S2 => .next env2 S2
        | x => x) Dn at h3
      have e23 := e2.trans ey
      cases hm : m env3 S2 with
      | next env4 S4 =>
        rw [hm] at h3
        exact fun c4 H4 σ4 e4 r4 ev4 => ⟨c4, env4, S4, e23.trans e4, r4, ev4, PoS.mono e4 h3⟩
      | cnt env4 S4 =>
        rw [hm] at h3
        exact fun c4 H4 σ4 e4 r4 ev4 => ⟨c4, env4, S4, e23.trans e4, r4, ev4, PoS.mono e4 h3⟩
      | brk env4 S4 => rw [hm] at h3; exact h3
      | ret d S4 => rw [hm] at h3; exact h3
      | ex x env4 S4 => rw [hm] at h3; exact h3
      | bad => rw [hm] at h3; exact h3.elim
  · left
    have e : i = it.1.length := by omega
    subst e
    rw [List.drop_length] at h2
    unfold loopS at h2
    obtain ⟨st, h2⟩ := PoS.if h2
    obtain ⟨_, w2⟩ := wk c2 H' S2 e2.A r2 (Stay.of (ds := it.1) st) it.1.length
    exact ⟨w2 rfl, h2 c2 H' σ' Ext.refl r2 ev2⟩
end
end Mm
set_option maxRecDepth 100000
/-! Defs of the text as functions on plain data; a call's leavings; comprehensions. -/
namespace Mm
open PySem L2
abbrev FM := List D → Sto → R D
/-- what a def promises -/
def spM (K : PySem.W.Frag) (Γ : Cls') (m : FM) : Sp := fun vs H Q E => ∃ c S ds, Rep ⟨K, Γ⟩ c H S ∧ Ats ⟨K, Γ⟩ c H S.length ds vs ∧ PoE ⟨K, Γ⟩ (fun C dd _ H => E C dd H) [] c H S.length (m ds S) Q
def endF (r : RS) : R D := match r with
  | .ret d S => .ok d S
  | .next _ S => .ok .non S
  | .ex x _ S => .ex x S
  | _ => .bad
@[simp] theorem endF_ret (d : D) (S : Sto) : endF (.ret d S) = .ok d S := rfl
@[simp] theorem endF_next (env : Env) (S : Sto) : endF (.next env S) = .ok .non S := rfl
@[simp] theorem endF_ex (x : Exn) (env : Env) (S : Sto) : endF (.ex x env S) = .ex x S := rfl
@[simp] theorem endF_bad : endF .bad = .bad := rfl
/-- a def of np parameters and nl names -/
def runDef (np nl : Nat) (b : SM) : FM := fun ds S => if ds.length = np then endF (b (ds.map some ++ List.replicate (nl - np) none) S) else .bad
section
variable {w : Wn} {W : WX} {σ : St} {c c' : Cn} {H H' : Hp} {n n' : Nat} {S : Sto} {env : Env}
variable {Γ : Cls'} {X : Cx} {a b e tg : Expr} {es : List Expr} {ma mb : EM} {am : AM} {pos : Pos} {Dn : Ends}
theorem Po.wish {α β : Type} {rel : Cn → Hp → Nat → α → β → Prop} {W' : WX} {σ' : St} {r : R α} {Q : β → Hp → Prop} (h : Po w W rel σ c H n r Q) (i : ∀ C dd H, W C dd σ H → W' C dd σ' H) : Po w W' rel σ' c H n r Q := by
  cases r with
  | ok d S => exact h
  | ex x S => exact fun c2 H2 C dd e2 r2 a => i _ _ _ (h c2 H2 C dd e2 r2 a)
  | bad => exact h.elim
theorem envR_start {N : List Str} {ds : List D} {vs : List V} (t : Ats w c H n ds vs) : EnvR w c H n (L2.start N vs) (ds.map some ++ List.replicate (N.length - ds.length) none) := by
  unfold L2.start
  refine ⟨by rw [List.length_append, List.length_append, List.length_map, List.length_map, List.length_replicate, List.length_replicate, t.len], fun i d h => ?_⟩
  by_cases hi : i < ds.length
  · rw [List.getElem?_append_left (by rw [List.length_map]; exact hi), List.getElem?_map] at h
    cases hd : ds[i]? with
    | none => rw [hd] at h; cases h
    | some d' =>
      rw [hd] at h; cases h
      obtain ⟨v, hv, a⟩ := t.get hd
      exact ⟨v, by rw [List.getElem?_append_left (by rw [List.length_map, t.len]; exact hi), List.getElem?_map, hv]; rfl, a⟩
  · rw [List.getElem?_append_right (by rw [List.length_map]; omega)] at h
    have := List.mem_of_getElem? h
    rw [List.mem_replicate] at this
    cases this.2
/-- THE RULE of a def: its body's parts, put together -/
theorem def_ok {P : Program} {wd : World} {K : PySem.W.Frag} {mg : Str → Option Value} {base : Heap} {x qual : Str} {st : Stmt} {f : Addr} {fd : FuncData} {N ps : List Str} {k : Nat} {b : SM} (F : Fun K x qual st f fd) (Sc : FnScope N ps (defScope st))
    (hb : ∀ (cdv : Value) (A : Around) (outer : List PySem.Env) (s : Shared) (H : Hp) (E : XK), Room k (A.deeper (PyProof.Rows.envOfC qual (defScope st) s.heap.objs.size f cdv)) → CSs Γ (cxOf (L2.CX P wd) P wd K mg base N qual (defScope st) f cdv A outer s H E) (fun C dd _ H => E C dd H) (defBody st) b) :
    FnOk P wd K mg base (L2.CX P wd) (k + 1) f fd ps (spM K Γ (runDef ps.length N.length b)) := by
  refine F.okX Sc (fun vs H Q E ⟨c, S, ds, r, t, h⟩ => ?_) (fun cdv A outer s H vs Q E hr ⟨c, S, ds, r, t, h⟩ => ⟨_, hb cdv A outer s H E hr, ?_⟩)
  · unfold runDef at h
    by_cases hl : ds.length = ps.length
    · rw [t.len]; exact hl
    · rw [if_neg hl] at h; exact h.elim
  · unfold runDef at h
    by_cases hl : ds.length = ps.length
    · rw [if_pos hl, ← hl] at h
      refine ⟨c, _, S, r, envR_start t, ?_⟩
      cases hx : b (ds.map some ++ List.replicate (N.length - ds.length) none) S with
      | next env' S' => rw [hx] at h; exact fun c2 H2 s2 e2 r2 a2 => h c2 H2 .non e2 r2 .o
      | ret d S' => rw [hx] at h; exact fun c2 H2 v e2 r2 a2 => h c2 H2 v e2 r2 a2
      | ex x env' S' => rw [hx] at h; exact fun c2 H2 s2 C dd e2 r2 a2 xa => h c2 H2 C dd e2 r2 xa
      | brk env' S' => rw [hx] at h; exact h.elim
      | cnt env' S' => rw [hx] at h; exact h.elim
      | bad => rw [hx] at h; exact h.elim
    · rw [if_neg hl] at h; exact h.elim
/-- a def that stands under its name -/
structure Df (P : Program) (wd : World) (K : PySem.W.Frag) (mg : Str → Option Value) (base : Heap) (Γ : Cls') (x : Str) (k : Nat) (m : FM) : Prop where
  ex : ∃ (f : Addr) (fd : FuncData) (ps : List Str), FnOk P wd K mg base (L2.CX P wd) k f fd ps (spM K Γ m) ∧ Binds K fd ps [] ∧ PySem.W.keepIn K (.ref f) = true ∧ mg x = some (.ref f)
/-- what is raised goes where it is wished -/
def Goes (X : Cx) (W : WX) : Prop := ∀ σ, PassesAt (L2.CX X.prog X.w) X σ (WE W σ)
theorem goes_of (tk : Takes X W) : Goes X W := fun σ => passAt tk σ
theorem goes_not : Goes X (fun _ _ _ _ => False) := fun σ pins H s e s' I h => by
  obtain ⟨a, B, H', cls, d, _, _, _, _, _, _, _, z⟩ := h
  exact z.elim
/-! ## behind a call the store's new places are dropped -/
mutual
def D.lo (n : Nat) : D → Bool
  | .loc k => decide (k < n)
  | .tup ds => los n ds
  | .ttp ds => los n ds
  | .xn _ ds => los n ds
  | .lst ds => los n ds
  | .dic _ ds => los n ds
  | .obj _ ds => los n ds
  | _ => true
def los (n : Nat) : List D → Bool
  | [] => true
  | d :: r => d.lo n && los n r
end
def SO.lo (n : Nat) : SO → Bool
  | .lst ds => los n ds
  | .dic _ ds => los n ds
  | .ins _ ds => los n ds
mutual
def rsv (n : Nat) (S : Sto) : Nat → D → Option D
  | 0, _ => none
  | f + 1, .loc k => if k < n then some (.loc k) else match S[k]? with
    | some (.lst ds) => (rsvs n S f ds).map .lst
    | some (.dic ks ds) => (rsvs n S f ds).map (.dic ks)
    | some (.ins c ds) => (rsvs n S f ds).map (.obj c)
    | none => none
  | f + 1, .tup ds => (rsvs n S f ds).map .tup
  | f + 1, .ttp ds => (rsvs n S f ds).map .ttp
  | f + 1, .xn k ds => (rsvs n S f ds).map (.xn k)
  | f + 1, .lst ds => (rsvs n S f ds).map .lst
  | f + 1, .dic ks ds => (rsvs n S f ds).map (.dic ks)
  | f + 1, .obj c ds => (rsvs n S f ds).map (.obj c)
  | f + 1, d => some d
def rsvs (n : Nat) (S : Sto) : Nat → List D → Option (List D)
  | _, [] => some []
  | f, d :: r => (rsv n S f d).bind fun d' => (rsvs n S f r).map fun r' => d' :: r'
end
def rsvD (n : Nat) (S : Sto) (d : D) : Option D := if d.lo n = true then some d else rsv n S 12 d
def Tr (n : Nat) (S S' : Sto) : Prop := ∀ k, k < n → S'[k]? = S[k]? ∨ ∃ o, S'[k]? = some o ∧ o.lo n = true
open Classical in
noncomputable def trunc (S : Sto) (r : R D) : R D := match r with
  | .ok d S' => .if (Tr S.length S S') (.ofO (rsvD S.length S' d) (S'.take S.length))
  | .ex x S' => .if (Tr S.length S S' ∧ los S.length x.ds = true) (.ex x (S'.take S.length))
  | .bad => .bad
/-- the places from n on are not changed any more -/
def Cn.cut (c : Cn) (n n' : Nat) : Cn := { c with F := fun a => c.F a ∨ ∃ k, n ≤ k ∧ k < n' ∧ c.ρ k = a }
mutual
theorem At.fcut {m : Nat} : ∀ (d : D) (v : V), At w c H n' d v → d.lo m = true → At w (c.cut m n') H m d v
  | .non, v, h, _ => h
  | .bl b, v, h, _ => h
  | .int i, v, h, _ => h
  | .str x, v, h, _ => h
  | .tup ds, v, h, q => by
    unfold At at h ⊢; unfold D.lo at q
    obtain ⟨a, vs, r, s, t⟩ := h
    exact ⟨a, vs, r, s, Ats.fcut ds vs t q⟩
  | .ttp ds, v, h, q => by
    unfold At at h ⊢; unfold D.lo at q
    obtain ⟨a, vs, r, s, t⟩ := h
    exact ⟨a, vs, r, s, Ats.fcut ds vs t q⟩
  | .lst ds, v, h, q => by
    unfold At at h ⊢; unfold D.lo at q
    obtain ⟨a, vs, r, f, s, t⟩ := h
    exact ⟨a, vs, r, .inl f, s, Ats.fcut ds vs t q⟩
  | .dic ks ds, v, h, q => by
    unfold At at h ⊢; unfold D.lo at q
    obtain ⟨a, vs, r, f, s, t⟩ := h
    exact ⟨a, vs, r, .inl f, s, Ats.fcut ds vs t q⟩
  | .obj k ds, v, h, q => by
    unfold At at h ⊢; unfold D.lo at q
    obtain ⟨a, vs, C, dx, r, f, g, l, s, t⟩ := h
    exact ⟨a, vs, C, dx, r, .inl f, g, l, s, Ats.fcut ds vs t q⟩
  | .fz ns, v, h, q => by
    unfold At at h ⊢
    exact h
  | .loc k, v, h, q => by
    unfold At at h ⊢; unfold D.lo at q
    exact ⟨of_decide_eq_true q, h.2⟩
  | .oth u, v, h, _ => h
  | .xn k ds, v, h, q => by
    unfold At at h ⊢; unfold D.lo at q
    obtain ⟨a, dd, C, vs, r, x, g, l, s, t⟩ := h
    exact ⟨a, dd, C, vs, r, x, g, l, s, Ats.fcut ds vs t q⟩
theorem Ats.fcut {m : Nat} : ∀ (ds : List D) (vs : List V), Ats w c H n' ds vs → los m ds = true → Ats w (c.cut m n') H m ds vs
  | [], vs, h, q => h
  | d :: ds, vs, h, q => by
    unfold Ats at h ⊢; unfold los at q
    rw [Bool.and_eq_true] at q
    obtain ⟨v, r, e, a, b⟩ := h
    exact ⟨v, r, e, At.fcut d v a q.1, Ats.fcut ds r b q.2⟩
end
mutual
theorem At.lo : ∀ (d : D) (v : V), At w c H n d v → d.lo n = true
  | .non, v, h => rfl
  | .bl b, v, h => rfl
  | .int i, v, h => rfl
  | .str x, v, h => rfl
  | .tup ds, v, h => by
    unfold At at h; unfold D.lo
    obtain ⟨a, vs, r, s, t⟩ := h
    exact Ats.los ds vs t
  | .ttp ds, v, h => by
    unfold At at h; unfold D.lo
    obtain ⟨a, vs, r, s, t⟩ := h
    exact Ats.los ds vs t
  | .lst ds, v, h => by
    unfold At at h; unfold D.lo
    obtain ⟨a, vs, r, f, s, t⟩ := h
    exact Ats.los ds vs t
  | .dic ks ds, v, h => by
    unfold At at h; unfold D.lo
    obtain ⟨a, vs, r, f, s, t⟩ := h
    exact Ats.los ds vs t
  | .obj k ds, v, h => by
    unfold At at h; unfold D.lo
    obtain ⟨a, vs, C, dx, r, f, g, l, s, t⟩ := h
    exact Ats.los ds vs t
  | .fz ns, v, h => rfl
  | .loc k, v, h => by
    unfold At at h; unfold D.lo
    exact decide_eq_true h.1
  | .oth u, v, h => rfl
  | .xn k ds, v, h => by
    unfold At at h; unfold D.lo
    obtain ⟨a, dd, C, vs, r, x, g, l, s, t⟩ := h
    exact Ats.los ds vs t
theorem Ats.los : ∀ (ds : List D) (vs : List V), Ats w c H n ds vs → los n ds = true
  | [], vs, h => rfl
  | d :: ds, vs, h => by
    unfold Ats at h; unfold los
    obtain ⟨v, r, e, a, b⟩ := h
    rw [At.lo d v a, Ats.los ds r b]; rfl
end
theorem OAt.lo {a : Addr} : ∀ {o : SO}, OAt w c H n a o → o.lo n = true
  | .lst ds, ⟨vs, g, t⟩ => Ats.los ds vs t
  | .dic ks ds, ⟨vs, g, t⟩ => Ats.los ds vs t
  | .ins k ds, ⟨vs, C, dx, g, l, s, t⟩ => Ats.los ds vs t
mutual
theorem rsv_at {m : Nat} (r : Rep w c H S) : ∀ (f : Nat) (d d' : D) (v : V), At w c H S.length d v → rsv m S f d = some d' → At w (c.cut m S.length) H m d' v
  | 0, d, d', v, h, q => by unfold rsv at q; cases q
  | f + 1, .non, d', v, h, q => by unfold rsv at q; cases q; exact h
  | f + 1, .bl b, d', v, h, q => by unfold rsv at q; cases q; exact h
  | f + 1, .int i, d', v, h, q => by unfold rsv at q; cases q; exact h
  | f + 1, .str x, d', v, h, q => by unfold rsv at q; cases q; exact h
  | f + 1, .oth u, d', v, h, q => by unfold rsv at q; cases q; exact h
  | f + 1, .xn k ds, d', v, h, q => by
    unfold rsv at q; unfold At at h
    obtain ⟨a, dd, C, vs, e, x, g, l, s, t⟩ := h
    cases hd : rsvs m S f ds with
    | none => rw [hd] at q; cases q
    | some es =>
      rw [hd] at q; cases q
      unfold At
      exact ⟨a, dd, C, vs, e, x, g, l, s, rsvs_at r f ds es vs t hd⟩
  | f + 1, .fz ns, d', v, h, q => by
    unfold rsv at q; cases q
    unfold At at h ⊢
    exact h
  | f + 1, .tup ds, d', v, h, q => by
    unfold rsv at q; unfold At at h
    obtain ⟨a, vs, e, s, t⟩ := h
    cases hd : rsvs m S f ds with
    | none => rw [hd] at q; cases q
    | some es =>
      rw [hd] at q; cases q
      unfold At
      exact ⟨a, vs, e, s, rsvs_at r f ds es vs t hd⟩
  | f + 1, .ttp ds, d', v, h, q => by
    unfold rsv at q; unfold At at h
    obtain ⟨a, vs, e, s, t⟩ := h
    cases hd : rsvs m S f ds with
    | none => rw [hd] at q; cases q
    | some es =>
      rw [hd] at q; cases q
      unfold At
      exact ⟨a, vs, e, s, rsvs_at r f ds es vs t hd⟩
  | f + 1, .lst ds, d', v, h, q => by
    unfold rsv at q; unfold At at h
    obtain ⟨a, vs, e, g, s, t⟩ := h
    cases hd : rsvs m S f ds with
    | none => rw [hd] at q; cases q
    | some es =>
      rw [hd] at q; cases q
      unfold At
      exact ⟨a, vs, e, .inl g, s, rsvs_at r f ds es vs t hd⟩
  | f + 1, .dic ks ds, d', v, h, q => by
    unfold rsv at q; unfold At at h
    obtain ⟨a, vs, e, g, s, t⟩ := h
    cases hd : rsvs m S f ds with
    | none => rw [hd] at q; cases q
    | some es =>
      rw [hd] at q; cases q
      unfold At
      exact ⟨a, vs, e, .inl g, s, rsvs_at r f ds es vs t hd⟩
  | f + 1, .obj k ds, d', v, h, q => by
    unfold rsv at q; unfold At at h
    obtain ⟨a, vs, C, dx, e, g, g2, l, s, t⟩ := h
    cases hd : rsvs m S f ds with
    | none => rw [hd] at q; cases q
    | some es =>
      rw [hd] at q; cases q
      unfold At
      exact ⟨a, vs, C, dx, e, .inl g, g2, l, s, rsvs_at r f ds es vs t hd⟩
  | f + 1, .loc k, d', v, h, q => by
    unfold rsv at q; unfold At at h
    by_cases hk : k < m
    · rw [if_pos hk] at q; cases q
      unfold At
      exact ⟨hk, h.2⟩
    · rw [if_neg hk] at q
      have fz : (c.cut m S.length).F (c.ρ k) := .inr ⟨k, Nat.le_of_not_lt hk, h.1, rfl⟩
      cases ho : S[k]? with
      | none => rw [ho] at q; cases q
      | some o =>
        rw [ho] at q
        have oa := r.get ho
        cases o with
        | lst ds =>
          obtain ⟨vs, g, t⟩ := oa
          cases hd : rsvs m S f ds with
          | none => simp only [hd] at q; cases q
          | some es =>
            simp only [hd] at q; cases q
            unfold At
            exact ⟨_, vs, h.2, fz, g, rsvs_at r f ds es vs t hd⟩
        | dic ks ds =>
          obtain ⟨vs, g, t⟩ := oa
          cases hd : rsvs m S f ds with
          | none => simp only [hd] at q; cases q
          | some es =>
            simp only [hd] at q; cases q
            unfold At
            exact ⟨_, vs, h.2, fz, g, rsvs_at r f ds es vs t hd⟩
        | ins cn ds =>
          obtain ⟨vs, C, dx, g, l, s, t⟩ := oa
          cases hd : rsvs m S f ds with
          | none => simp only [hd] at q; cases q
          | some es =>
            simp only [hd] at q; cases q
            unfold At
            exact ⟨_, vs, C, dx, h.2, fz, g, l, s, rsvs_at r f ds es vs t hd⟩
theorem rsvs_at {m : Nat} (r : Rep w c H S) : ∀ (f : Nat) (ds es : List D) (vs : List V), Ats w c H S.length ds vs → rsvs m S f ds = some es → Ats w (c.cut m S.length) H m es vs
  | f, [], es, vs, h, q => by unfold rsvs at q; cases q; exact h
  | f, d :: ds, es, vs, h, q => by
    unfold rsvs at q; unfold Ats at h
    obtain ⟨v, vr, e, a, b⟩ := h
    cases h1 : rsv m S f d with
    | none => rw [h1] at q; cases q
    | some d' =>
      rw [h1] at q
      cases h2 : rsvs m S f ds with
      | none => rw [h2] at q; cases q
      | some r' =>
        rw [h2] at q; cases q
        rw [e]
        exact .cons (rsv_at r f d d' v a h1) (rsvs_at r f ds r' vr b h2)
end
theorem cut_ok {S' : Sto} (r : Rep w c H S) (e : Ext c H S.length c' H' S'.length) (r' : Rep w c' H' S') (tr : Tr S.length S S') :
    Ext c H S.length (c'.cut S.length S'.length) H' (S'.take S.length).length ∧ Rep w (c'.cut S.length S'.length) H' (S'.take S.length) := by
  have hl : (S'.take S.length).length = S.length := by rw [List.length_take]; exact Nat.min_eq_left e.le
  rw [hl]
  refine ⟨⟨Nat.le_refl _, e.rho, fun a f => .inl (e.fro a f), e.tup, e.frz, e.xd, e.keep, e.keepG, fun k a b => absurd b (Nat.not_lt.mpr a), e.there, fun a f => ?_⟩, fun k o h => ?_, fun i j hi hj q => ?_, fun k hk f => ?_, fun a f => ?_, r'.tab⟩
  · rcases f with f | ⟨k, k1, k2, rfl⟩
    · exact e.nF a f
    · exact .inr (e.new k k1 k2)
  · rw [hl]
    have hk : k < S.length := by rw [← hl]; exact Rep.lt h
    rw [List.getElem?_take_of_lt hk] at h
    have oa := r'.get h
    have ob : o.lo S.length = true := by
      rcases tr k hk with t | ⟨o', t, b⟩
      · rw [h] at t
        exact (r.get t.symm).lo
      · rw [h] at t; cases t; exact b
    show OAt w _ H' S.length (c'.ρ k) o
    cases o with
    | lst ds => obtain ⟨vs, g, t⟩ := oa; exact ⟨vs, g, t.fcut _ _ ob⟩
    | dic ks ds => obtain ⟨vs, g, t⟩ := oa; exact ⟨vs, g, t.fcut _ _ ob⟩
    | ins k ds => obtain ⟨vs, C, dx, g, l, s, t⟩ := oa; exact ⟨vs, C, dx, g, l, s, t.fcut _ _ ob⟩
  · rw [hl] at hi hj
    exact r'.inj i j (Nat.lt_of_lt_of_le hi e.le) (Nat.lt_of_lt_of_le hj e.le) q
  · rw [hl] at hk
    rcases f with f | ⟨j, j1, j2, q⟩
    · exact r'.live k (Nat.lt_of_lt_of_le hk e.le) f
    · have := r'.inj j k j2 (Nat.lt_of_lt_of_le hk e.le) q
      omega
  · rcases f with f | ⟨j, j1, j2, rfl⟩
    · exact r'.fro a f
    · obtain ⟨u, q, _⟩ := r'.some j2
      exact ⟨u, q⟩
open Classical in
theorem trunc_ok {r : R D} {Q : VK} (rp : Rep w c H S) (h : PoE w W σ c H S.length (trunc S r) Q) : PoE w W σ c H S.length r Q := by
  cases r with
  | ok d S' =>
    obtain ⟨tr, h⟩ := Po.if h
    obtain ⟨d', hd, h⟩ := Po.ofO h
    intro c' H' v e' r' a'
    obtain ⟨e2, r2⟩ := cut_ok rp e' r' tr
    have hl : (S'.take S.length).length = S.length := by rw [List.length_take]; exact Nat.min_eq_left e'.le
    refine h _ H' v e2 r2 ?_
    rw [hl]
    unfold rsvD at hd
    by_cases hb : d.lo S.length = true
    · rw [if_pos hb] at hd; cases hd
      exact a'.fcut _ _ hb
    · rw [if_neg hb] at hd
      exact rsv_at r' 12 d d' v a' hd
  | ex x S' =>
    obtain ⟨⟨tr, hb⟩, h⟩ := Po.if h
    intro c' H' C dd e' r' xa
    obtain ⟨e2, r2⟩ := cut_ok rp e' r' tr
    have hl : (S'.take S.length).length = S.length := by rw [List.length_take]; exact Nat.min_eq_left e'.le
    refine h _ H' C dd e2 r2 ?_
    rw [hl]
    obtain ⟨p, q, vs, h1, h2, h3, h4, h5, h6⟩ := xa
    exact ⟨p, q, vs, h1, h2, h3, h4, h5, h6.fcut _ _ hb⟩
  | bad => exact h.elim
/-- what is done behind a call -/
abbrev TrF := Sto → R D → R D
def tr0 : TrF := fun _ r => r
def TrOk (tr : TrF) : Prop := ∀ (w : Wn) (W : WX) (σ : St) (c : Cn) (H : Hp) (S : Sto) (r : R D) (Q : VK), Rep w c H S → PoE w W σ c H S.length (tr S r) Q → PoE w W σ c H S.length r Q
theorem tr0_ok : TrOk tr0 := fun _ _ _ _ _ _ _ _ _ h => h
theorem trT_ok : TrOk trunc := fun _ _ _ _ _ _ _ _ rp h => trunc_ok rp h
@[simp] theorem tr0_eq (S : Sto) (r : R D) : tr0 S r = r := rfl
def e_fn (tr : TrF) (m : FM) (am : AM) : EM := fun env S => (am env S).bind fun ds S1 => tr S1 (m ds S1)
theorem c_fn {x : Str} {k : Nat} {m : FM} {p : Pos} {tr : TrF} (ht : TrOk tr) (G : Df X.prog X.w X.K X.mg X.base Γ x k m) (go : Goes X W) (hr : Room k X.A) (hg : Gl X x) (ha : CA Γ X W (e :: es) am) (hdb : (x == ("__debug__" : Str)) = false := by decide) (he : starEach (e :: es) X.env = (false, eval e X.env) :: starEach es X.env := by rfl) (hpl : (backTo pos (starEach es X.env)).any (·.1) = false := by rfl) :
    CE Γ X W (.Call (.Name x p) (e :: es) [] pos) (e_fn tr m am) := by
  obtain ⟨f, fd, ps, F, hb, hk, hm⟩ := G.ex
  refine PE.weak (pe_callS (E := fun σ => WE W σ) F hr hg hm hk hb go ha hdb he hpl) fun σ H Q ⟨c, env, S, r, ev, h⟩ => ?_
  refine ⟨c, env, S, r, ev, (Po.bind h).imp fun vs H1 ⟨c1, S1, ds, e1, r1, a1, h1⟩ => ?_⟩
  exact ⟨c1, S1, ds, r1, a1, (ht _ _ _ _ _ _ _ _ r1 h1).wish fun _ _ _ z => z⟩
end
end Mm
set_option maxRecDepth 100000
/-! Comprehensions over the plain data. -/
namespace Mm
open PySem L2
section
variable {w : Wn} {W : WX} {σ : St} {c c' : Cn} {H H' : Hp} {n n' : Nat} {S : Sto} {env : Env}
variable {Γ : Cls'} {X : Cx} {a b e tg : Expr} {es : List Expr} {ma mb : EM} {am : AM} {pos : Pos} {Dn : Ends}
def wipeE (env : Env) : List Nat → Env
  | [] => env
  | v :: vs => (wipeE env vs).set v none
theorem wipe_get (σ : St) : ∀ (vs : List Nat) (j : Nat), (wipe σ vs)[j]? = if j ∈ vs ∧ j < σ.length then some none else σ[j]?
  | [], j => by simp [wipe]
  | v :: vs, j => by
    unfold wipe
    by_cases e : j = v
    · subst e
      by_cases hl : j < σ.length
      · rw [List.getElem?_set_self (by rw [wipe_length]; exact hl), if_pos ⟨List.mem_cons_self, hl⟩]
      · rw [if_neg fun z => hl z.2, List.getElem?_eq_none (by rw [List.length_set, wipe_length]; omega), List.getElem?_eq_none (by omega)]
    · rw [List.getElem?_set_ne (Ne.symm e), wipe_get σ vs j]
      by_cases h : j ∈ vs ∧ j < σ.length
      · rw [if_pos h, if_pos ⟨List.mem_cons_of_mem _ h.1, h.2⟩]
      · rw [if_neg h, if_neg fun z => h ⟨by
          rcases List.mem_cons.mp z.1 with q | q
          · exact absurd q e
          · exact q, z.2⟩]
theorem R.bind_assoc {α β γ : Type} (r : R α) (f : α → Sto → R β) (g : β → Sto → R γ) : (r.bind f).bind g = r.bind fun a S => (f a S).bind g := by cases r <;> rfl
theorem EnvR.none {i : Nat} (h : EnvR w c H n σ env) : EnvR w c H n (σ.set i none) (env.set i none) := by
  refine ⟨by rw [List.length_set, List.length_set]; exact h.1, fun j d' q => ?_⟩
  by_cases e : j = i
  · subst e
    by_cases hl : j < env.length
    · rw [List.getElem?_set_self hl] at q; cases q
    · rw [List.getElem?_eq_none (by rw [List.length_set]; omega)] at q; cases q
  · rw [List.getElem?_set_ne (Ne.symm e)] at q ⊢
    exact h.2 j d' q
theorem EnvR.wipe (h : EnvR w c H n σ env) : ∀ vs : List Nat, EnvR w c H n (L2.wipe σ vs) (wipeE env vs)
  | [] => h
  | v :: vs => (EnvR.wipe h vs).none
theorem wipe_bt {σ σ' : St} {sl vs : List Nat} (b : Bt sl (wipe σ vs) σ') (hs : ∀ j ∈ sl, j ∈ vs) : wipe σ' vs = wipe σ vs := by
  refine List.ext_getElem? fun j => ?_
  have hl := b.1
  rw [wipe_length] at hl
  rw [wipe_get]
  by_cases h : j ∈ vs ∧ j < σ.length
  · rw [if_pos ⟨h.1, by rw [hl]; exact h.2⟩, wipe_get, if_pos h]
  · rw [if_neg fun z => h ⟨z.1, by rw [← hl]; exact z.2⟩]
    by_cases hj : j ∈ vs
    · have : ¬ j < σ.length := fun z => h ⟨hj, z⟩
      rw [List.getElem?_eq_none (by omega), List.getElem?_eq_none (by rw [wipe_length]; omega)]
    · exact b.2 j fun z => hj (hs j z)
/-- no error comes out -/
abbrev W0 : WX := fun _ _ _ _ => False
def R.nox {α : Type} (r : R α) : R α := match r with
  | .ok a S => .ok a S
  | _ => .bad
@[simp] theorem R.nox_ok {α : Type} (a : α) (S : Sto) : (R.ok a S).nox = .ok a S := rfl
theorem Po.nox {α β γ δ : Type} {rel : Cn → Hp → Nat → α → β → Prop} {rel2 : Cn → Hp → Nat → γ → δ → Prop} {r : R α} {f : α → Sto → R γ} {Q : δ → Hp → Prop} {σ' : St} {c0 : Cn} {H0 : Hp} {n0 : Nat} (e0 : Ext c0 H0 n0 c H n) (h : Po w W rel2 σ c0 H0 n0 (r.nox.bind f) Q) :
    Po w W0 rel σ' c H n r fun v H1 => ∃ c1 S1 d, Ext c H n c1 H1 S1.length ∧ Ext c0 H0 n0 c1 H1 S1.length ∧ Rep w c1 H1 S1 ∧ rel c1 H1 S1.length d v ∧ Po w W rel2 σ c0 H0 n0 (f d S1) Q := by
  cases r with
  | ok d S => exact fun c2 H2 v e2 r2 a => ⟨c2, S, d, e2, e0.trans e2, r2, a, h⟩
  | ex x S => exact h.elim
  | bad => exact h.elim
open Classical in
noncomputable def lcM (g : GM) (t : TM) (m : EM) (env : Env) (st : Option (Nat × List D)) : List D → List D → Sto → R (List D)
  | [], acc, S => .if (Stay S ([], st)) (.ok acc S)
  | d :: r, acc, S => .if (Stay S ([], st)) (match g d env with
    | none => .bad
    | some env1 => (t env1 S).nox.bind fun k S1 => if k = true then (m env1 S1).nox.bind fun y S2 => .if (acc.length < sizeLine) (lcM g t m env st r (acc ++ [y]) S2) else lcM g t m env st r acc S1)
noncomputable def e_lcG (vs : List Nat) (im : IM) (g : GM) (t : TM) (m : EM) (fin : List D → Sto → R D) : EM := fun env S => (im env S).bind fun it S1 => (lcM g t m (wipeE env vs) it.2 it.1 [] S1).bind fin
def finL (ds : List D) (S : Sto) : R D := .ok (.lst ds) S
def finN (ds : List D) (S : Sto) : R D := .ok (.loc S.length) (S ++ [.lst ds])
@[simp] theorem finL_eq (ds : List D) (S : Sto) : finL ds S = .ok (.lst ds) S := rfl
@[simp] theorem finN_eq (ds : List D) (S : Sto) : finN ds S = .ok (.loc S.length) (S ++ [.lst ds]) := rfl
noncomputable def e_lc (vs : List Nat) (im : IM) (g : GM) (t : TM) (m : EM) : EM := e_lcG vs im g t m finL
noncomputable def e_lcN (vs : List Nat) (im : IM) (g : GM) (t : TM) (m : EM) : EM := e_lcG vs im g t m finN
def t_yes : TM := fun _ S => .ok true S
@[simp] theorem t_yes_eq (env : Env) (S : Sto) : t_yes env S = .ok true S := rfl
abbrev CTs (Γ : Cls') (X : Cx) (W : WX) (es : List Expr) (m : TM) : Prop := PTs X es (mT ⟨X.K, Γ⟩ W m)
theorem PTs.weak {es : List Expr} {t t' : TT} (h : PTs X es t) (i : ∀ σ H Q, t' σ H Q → t σ H Q) : PTs X es t' := ⟨fun pins s σ H Q I q => h.run pins s σ H Q I (i σ H Q q)⟩
theorem c_tsnil : CTs Γ X W [] t_yes := PTs.weak pts_nil fun σ H Q ⟨c, env, S, r, ev, h⟩ => h c H true Ext.refl r rfl
theorem c_tsone {pm : TM} (h : CT Γ X W e pm) : CTs Γ X W [e] pm := pts_one h
/-- what fin makes of the new list at p -/
def FinOk (fin : List D → Sto → R D) : Prop := ∀ (w : Wn) (W : WX) (σ : St) (c : Cn) (H : Hp) (S : Sto) (ds : List D) (us : List V) (p : Addr) (Q : VK), Rep w c H S → Ats w c H S.length ds us → H p = some (.lst us) → (∀ k, k < S.length → c.ρ k ≠ p) → ¬ c.F p →
  ∀ (c0 : Cn) (H0 : Hp) (n0 : Nat), Ext c0 H0 n0 c H S.length → H0 p = none → PoE w W σ c0 H0 n0 (fin ds S) Q → Q (.ref p) H
theorem finL_ok : FinOk finL := by
  intro w W σ c H S ds us p Q r t hp hn hf c0 H0 n0 e h0 h
  have eA : ExtA c H S.length (c.fr p) H S.length := ⟨Nat.le_refl _, fun _ _ => rfl, fun _ z => .inl z, fun _ _ z => z, fun _ _ _ z => z, fun _ _ z => z, fun _ _ _ z _ => z⟩
  refine h (c.fr p) H (.ref p) ⟨e.le, e.rho, fun a f => .inl (e.fro a f), e.tup, e.frz, e.xd, e.keep, e.keepG, e.new, e.there, fun a f => ?_⟩ ⟨fun k o q => (r.obj k o q).monoA eA fun _ z => z, r.inj, fun k hk f => ?_, fun a f => ?_, r.tab⟩ ?_
  · rcases f with f | rfl
    · exact e.nF a f
    · exact .inr h0
  · rcases f with f | f
    · exact r.live k hk f
    · exact hn k hk f
  · rcases f with f | rfl
    · exact r.fro a f
    · exact ⟨_, hp⟩
  · unfold At
    exact ⟨p, us, rfl, .inr rfl, hp, Ats.monoA eA _ _ t⟩
/-- the list p aside of the store -/
structure Side (c : Cn) (H : Hp) (n : Nat) (p : Addr) : Prop where
  out : ∀ k, k < n → c.ρ k ≠ p
  nF : ¬ c.F p
theorem Side.step {p : Addr} {u : HO} (s : Side c H n p) (hp : H p = some u) (e : Ext c H n c' H' n') (ht : ∀ ps, u ≠ .tbl ps := by intro ps h; cases h) : Side c' H' n' p ∧ H' p = some u := by
  refine ⟨⟨fun k hk q => ?_, fun f => ?_⟩, e.keep p u hp ht s.out⟩
  · by_cases h : k < n
    · rw [e.rho k h] at q; exact s.out k h q
    · have := e.new k (Nat.le_of_not_lt h) hk
      rw [q, hp] at this; cases this
  · rcases e.nF p f with f | f
    · exact s.nF f
    · rw [hp] at f; cases f
open Classical in
/-- the reading of a comprehension out of its parts -/
theorem lc_read {vs : List Nat} {im : IM} {g : GM} {t : TM} {m : EM} {fin : List D → Sto → R D} {sl : List Nat} {Q : VK} (hf : FinOk fin) (hsl : ∀ j ∈ sl, j ∈ vs) (h : mE w W (e_lcG vs im g t m fin) σ H Q) :
    tLc (mI w W im) (mTg w sl g) (mT w W0 t) (mE w W0 m) vs σ H Q := by
  obtain ⟨c, env, S, r, ev, h⟩ := h
  refine ⟨c, env, S, r, ev, (Po.bind h).imp fun J H1 ⟨c1, S1, it, e1, r1, wk, h1⟩ p hp => ?_⟩
  have ev1 := (ev.mono e1).wipe vs
  have ex0 : Ext c1 H1 S1.length c1 (upd H1 p (.lst [])) S1.length := Ext.grow hp
  refine ⟨fun i m' H' => ∃ c2 S2 acc us, Ext c1 H1 S1.length c2 H' S2.length ∧ Rep w c2 H' S2 ∧ EnvR w c2 H' S2.length (wipe σ vs) (wipeE env vs) ∧ Side c2 H' S2.length p ∧ H' p = some (.lst us) ∧ Ats w c2 H' S2.length acc us ∧ m' = it.1.length - i ∧ i ≤ it.1.length ∧
      PoE w W σ c1 H1 S1.length ((lcM g t m (wipeE env vs) it.2 (it.1.drop i) acc S2).bind fin) Q,
    ⟨it.1.length, c1, S1, [], [], ex0, r1.grow hp, ev1.mono ex0, ⟨fun k hk => r1.ne hp hk, r1.nF hp⟩, upd_same, .nil, by simp, Nat.zero_le _, h1⟩, ?_⟩
  rintro i m' H' ⟨c2, S2, acc, us, e2, r2, ev2, sd, hpl, ta, rfl, hi, h2⟩
  by_cases hlt : i < it.1.length
  · right
    have hd : it.1.drop i = it.1[i] :: it.1.drop (i + 1) := List.drop_eq_getElem_cons hlt
    rw [hd] at h2
    unfold lcM at h2
    by_cases st : Stay S2 ([], it.2)
    · rw [R.if_pos st] at h2
      obtain ⟨w1, _⟩ := wk c2 H' S2 e2.A r2 (Stay.of (ds := it.1) st) i
      obtain ⟨go, yl⟩ := w1 it.1[i] (List.getElem?_eq_getElem hlt)
      refine ⟨go, fun H3 => ∃ c3 S3 acc us, Ext c1 H1 S1.length c3 H3 S3.length ∧ Rep w c3 H3 S3 ∧ EnvR w c3 H3 S3.length (wipe σ vs) (wipeE env vs) ∧ Side c3 H3 S3.length p ∧ H3 p = some (.lst us) ∧ Ats w c3 H3 S3.length acc us ∧
          PoE w W σ c1 H1 S1.length ((lcM g t m (wipeE env vs) it.2 (it.1.drop (i + 1)) acc S3).bind fin) Q,
        fun H3 ⟨c3, S3, acc, us, q1, q2, q3, q4, q5, q6, q7⟩ => ⟨it.1.length - (i + 1), by omega, c3, S3, acc, us, q1, q2, q3, q4, q5, q6, rfl, hlt, q7⟩, fun x H3 y => ?_⟩
      obtain ⟨ey, ry, ay⟩ := yl x H3 y
      cases hg : g it.1[i] (wipeE env vs) with
      | none => rw [hg] at h2; exact h2.elim
      | some env3 =>
        rw [hg] at h2
        have ev3 := ev2.mono ey
        refine ⟨c2, wipeE env vs, S2, it.1[i], env3, ry, ev3, ay, hg, fun σ3 evx bt => ⟨wipe_bt bt hsl, ?_⟩⟩
        obtain ⟨sd3, hp3⟩ := sd.step hpl ey
        have e23 := e2.trans ey
        have ta3 := ta.mono ey
        rw [R.bind_assoc] at h2
        refine ⟨c2, env3, S2, ry, evx, (Po.nox e23 h2).imp fun b H4 ⟨c4, S4, b', e4, e14, r4, eb, h4⟩ => ?_⟩
        cases (show b = b' from eb)
        obtain ⟨sd4, hp4⟩ := sd3.step hp3 e4
        cases b with
        | false => exact ⟨c4, S4, acc, us, e14, r4, ev3.mono e4, sd4, hp4, ta3.mono e4, h4⟩
        | true =>
          rw [if_pos rfl]
          rw [if_pos rfl, R.bind_assoc] at h4
          refine ⟨c4, env3, S4, r4, evx.mono e4, (Po.nox e14 h4).imp fun v H5 ⟨c5, S5, d5, e5, e15, r5, a5, h5⟩ => ?_⟩
          obtain ⟨sd5, hp5⟩ := sd4.step hp4 e5
          by_cases hl : acc.length < sizeLine
          · rw [R.if_pos hl] at h5
            have ta5 := (ta3.mono e4).mono e5
            have sA := ExtA.side (n := S5.length) (ys := us ++ [v]) hp5 sd5.nF
            refine ⟨us, hp5, by rw [ta5.len]; exact hl, c5, S5, acc ++ [d5], us ++ [v], e15.side hp hp5, r5.side hp5 sd5.nF sd5.out, ?_, ⟨sd5.out, sd5.nF⟩, upd_same, Ats.monoA sA _ _ (ta5.app (.one a5)), h5⟩
            have ev5 := (ev3.mono e4).mono e5
            exact ⟨ev5.1, fun j d q => (ev5.2 j d q).imp fun v z => ⟨z.1, At.monoA sA _ _ z.2⟩⟩
          · unfold R.if at h5
            rw [if_neg hl] at h5
            exact h5.elim
    · unfold R.if at h2
      rw [if_neg st] at h2
      exact h2.elim
  · left
    have e : i = it.1.length := by omega
    subst e
    rw [List.drop_length] at h2
    unfold lcM at h2
    by_cases st : Stay S2 ([], it.2)
    · rw [R.if_pos st] at h2
      obtain ⟨_, w2⟩ := wk c2 H' S2 e2.A r2 (Stay.of (ds := it.1) st) it.1.length
      exact ⟨w2 rfl, hf w W σ c2 H' S2 acc us p Q r2 ta hpl sd.out sd.nF c1 H1 S1.length e2 hp h2⟩
    · unfold R.if at h2
      rw [if_neg st] at h2
      exact h2.elim
theorem c_lcG {elt tg iter : Expr} {ifs : List Expr} {scope : Scope} {own : List (Str × Nat)} {im : IM} {g : GM} {t : TM} {m : EM} {fin : List D → Sto → R D} {sl : List Nat} (hf : FinOk fin) (hsl : ∀ j ∈ sl, j ∈ own.map (·.2)) (hc : X.calm = true) (hN : X.N.Nodup) (hi : CI Γ X W tg iter im) (ok : BlkOk X.N X.env.scope scope own)
    (hg : ∀ (s : Shared) (H : Hp) (C : Addr) (cl : List (Str × Addr)) (fp : List Addr), CG Γ (X.blk s H scope (compEnvC scope cl C X.env) fp) tg sl g) (ht : ∀ (s : Shared) (H : Hp) (C : Addr) (cl : List (Str × Addr)) (fp : List Addr), CTs Γ (X.blk s H scope (compEnvC scope cl C X.env) fp) W0 ifs t)
    (he : ∀ (s : Shared) (H : Hp) (C : Addr) (cl : List (Str × Addr)) (fp : List Addr), CE Γ (X.blk s H scope (compEnvC scope cl C X.env) fp) W0 elt m) (hs : ∀ x, foldedSetIterable iter X.env x = pure x := by intro _; rfl) :
    CE Γ X W (.ListComp elt [⟨tg, iter, ifs, 0⟩] scope pos) (e_lcG (own.map (·.2)) im g t m fin) :=
  PE.weak (pe_lc hc hN hi ok hg ht he hs) fun σ H Q h => lc_read hf hsl h
end
end Mm
set_option maxRecDepth 100000
/-! from TkS -/
namespace PySem
open PySem.W
section
variable {prog : Program} {w : World} {A : Around} {E : Value → Shared → Prop} {s : Shared} {K : Frag} {x C f : Addr} {ox : Obj} {od : Option Obj} {b tb : Value}
end
end PySem
namespace L2
open PySem PySem.Spec PyProof.Rows
/-- what must stand in the class C for == and != by its own __eq__ -/
structure OwnEq (K : PySem.W.Frag) (C f : Addr) : Prop where
  eq : PySem.W.findIn K (.ref C) "__eq__" = some (some (.ref f))
  fn : PySem.W.isFn K (.ref f) = true
  ne : PySem.W.findIn K (.ref C) "__ne__" = some (some (.builtin "object.__ne__"))
  ob : PySem.W.mroIn K C (.type "object") = some true
def rOwnCmp (C : Addr) (sp : Sp) (E : XK) (neg : Bool) : R2 := fun x y H Q => ∃ a b dx dy fs gs, x = .ref a ∧ y = .ref b ∧ H a = some (.ins C dx fs) ∧ H b = some (.ins C dy gs) ∧ sp [.ref a, .ref b] H (fun v H' => ∃ c, v = .bl c ∧ Q (.bl (if neg then !c else c)) H') E
section
variable {X : Cx} {CX : CXT} {k : Nat} {C f : Addr} {fd : FuncData} {ps : List Str} {sp : Sp} {E : XK}
end
end L2
/-! from k03/TkX -/
namespace L2
open PySem PySem.Spec PyProof.Rows
/-! ### a class's own methods, where an error may come out -/
section
variable {X : Cx} {CX : CXT} {k n : Nat} {C f : Addr} {fd : FuncData} {ps : List Str} {sp : Sp} {E : St → XK}
theorem tk_runS {A : Around} {pins : List (Addr × Obj)} {σ : St} {H : Hp} {s : Shared} {Q : VK} {us : List Value} {vs : List V} (sb : Sub X k A) (F : FnOk X.prog X.w X.K X.mg X.base CX k f fd ps sp) (hb : Binds X.K fd ps []) (hx : PassesAt CX X σ (E σ))
    (I : Inv X pins σ H s) (r : Vals vs us) (h : sp vs H Q (E σ)) : wpAny (model X.prog X.w) A (call (.ref f) us) (EP X pins σ Q) X.xe s := by
  have e := I.env0
  have e0 : Env0 X.prog X.w X.K X.mg X.base A X.stack s H := ⟨by rw [sb.fr]; exact e.frames, e.mod, e.bs, e.bsz, e.funs, e.frf, e.hok, e.bare⟩
  have hl : us.length = ps.length := r.length.symm.trans (F.len _ _ _ _ h)
  have bd := hb s us I.kIn (by simpa using hl)
  refine wpAny_call (codeAny_mono (F.run A X.stack s H ⟨us, []⟩ us vs Q (E σ) sb.room e0 (by simpa using bd) r h) fun res s' hq => ?_)
  match res, hq with
  | .error e, hq => exact hx pins H s e s' I hq
  | .ok (.ret u), hq => exact I.after hq
/-- o[i] by the class's own __getitem__, which may raise -/
def tIxS (C : Addr) (sp : Sp) (E : St → XK) (ta tb : TE) : TE := fun σ H Q => ta σ H fun x H1 => tb σ H1 fun y H2 => rOwn2 C sp (E σ) x y H2 Q
theorem ix_ownS {value slice : Expr} (M : OwnM X.K C "__getitem__" f) (hf : PySem.W.fnIn X.K f = true) (F : FnOk X.prog X.w X.K X.mg X.base CX k f fd ps sp) (hr : Room (k + 1) X.A) (hb : Binds X.K fd ps []) (hx : ∀ σ, PassesAt CX X σ (E σ))
    {a b : Expr} {ta tb : TE} {pos : Pos} (ha : PE X a ta) (hb2 : PE X b tb) (hs : ∀ o i, subscripted b true o i = runValue (.builtin "lifetime.subscript" ⟨[o, i], []⟩)) : PE X (.Subscript a b pos) (tIxS C sp E ta tb) := by
  refine ⟨fun pins s σ H Q I h => ?_⟩
  refine Subscript_ (binT ha hb2 I h fun v u s2 x y H2 I2 rx ry q => ?_)
  obtain ⟨p, dx, fs, rfl, hp, q⟩ := q
  obtain rfl : v = Value.ref p := rx
  obtain ⟨ox, od, J⟩ := ownInst I2 hp
  obtain ⟨m, hF⟩ := I2.fr
  refine PySem.W.sub_K hF I2.ok.mod.kin J M.at_ hf M.fn ?_ (hs _ _)
  exact tk_runS ⟨hr.in1, rfl⟩ F hb (hx σ) I2 (.cons (show RelV (.ref p) (.ref p) from rfl) (.cons ry .nil)) q
end
/-! ### an error class with one field -/
structure Ecl (K : PySem.W.Frag) (mg : Str → Option Value) (nm f : Str) (C fI : Addr) : Prop where
  gC : mg nm = some (.ref C)
  ox : OexC K C
  iC : PySem.W.findIn K (.ref C) "__init__" = some (some (.ref fI))
  tI : PySem.W.typeIn K (.ref fI) = some (.type "function")
  noF : PySem.W.findIn K (.ref C) f = some none
  xf : XfC K C
  cl : (PySem.W.clsIn K C).isSome = true
  ha : PySem.W.findIn K (.ref C) "__class__" = some (some (.builtin "object.__class__"))
  hn : PySem.W.specialIn K (.builtin "object.__class__") "__get__" = some (some (.builtin "getset_descriptor.__get__"))
  ht : PySem.W.takesIn K (.builtin "object.__class__") = some true
  hm : PySem.W.mroIn K C (.type "object") = some true
  te : PySem.W.exmOne K (.ref C) (.ref C) = some true
/-- what such an __init__ promises -/
def spEI (C : Addr) (f : Str) : Sp := fun vs H Q _ => ∃ (a : Addr) (v : V), vs = [.ref a, v] ∧ H a = some (exo a C none) ∧ ∀ dx, H dx = none → dx ≠ a → Q .non (upd (upd H dx (exd dx [(f, v)])) a (exo a C (some dx)))
/-- raise C(e) -/
theorem ps_raise1 {X : Cx} {W : WX} {nm f : Str} {C fI : Addr} {fd : FuncData} {ps : List Str} {e : Expr} {es : List Expr} {ta : TA} {p pos ppos : Pos} (hc : X.calm = true) (tk : Takes X W) (T : Ecl X.K X.mg nm f C fI) (F1 : FnOk X.prog X.w X.K X.mg X.base CX0 1 fI fd ps (spEI C f)) (hr : Room 2 X.A) (hb : Binds X.K fd ps [])
    (hg : Gl X nm) (ha : PA X (e :: es) ta) (hdb : (nm == ("__debug__" : Str)) = false := by decide) (he : starEach (e :: es) X.env = (false, eval e X.env) :: starEach es X.env := by rfl) (hpl : (backTo pos (starEach es X.env)).any (·.1) = false := by rfl) :
    PS X (.Raise (some (.Call (.Name nm p) (e :: es) [] pos)) none ppos) (fun _ σ H => tMkO C (spEI C f) [] ta σ H fun cls d H' => W cls d σ H') :=
  ps_raise (pos := ppos) hc tk (pmk_oex T.ox T.iC T.tI F1 hr hb .nil pass0 hg T.gC ha hdb he hpl)
theorem made1 {C : Addr} {f : Str} {v : V} {H1 : Hp} {Q : XK} (q : ∀ d, H1 d = none → Q (.ref C) (some d) (upd H1 d (.xd [(f, v)]))) : [v].length ≤ 1000 ∧ ∀ a, H1 a = none → spEI C f (.ref a :: ([v] ++ [])) (upd H1 a (exo a C none))
    (fun v H2 => v = .non ∧ ∃ (d : Addr) (fs : List (Str × V)), H2 a = some (exo a C (some d)) ∧ H2 d = some (exd d fs) ∧ H1 d = none ∧ Q (.ref C) (some d) (upd (del H2 a) d (.xd fs))) (fun _ _ _ => False) := by
  refine ⟨(by show 1 ≤ 1000; decide), fun a ha => ⟨a, v, rfl, upd_same, fun dx hd ne => ⟨rfl, dx, _, upd_same, by rw [upd_ne ne, upd_same], by rw [upd_ne ne] at hd; exact hd, ?_⟩⟩⟩
  have hd' : H1 dx = none := by rw [upd_ne ne] at hd; exact hd
  have e : upd (del (upd (upd (upd H1 a (exo a C none)) dx (exd dx [(f, v)])) a (exo a C (some dx))) a) dx (.xd [(f, v)]) = upd H1 dx (.xd [(f, v)]) := by
    funext b
    by_cases h1 : b = dx
    · rw [h1, upd_same, upd_same]
    · rw [upd_ne h1, upd_ne h1]
      by_cases h2 : b = a
      · rw [h2, del_same, ha]
      · rw [del_ne h2, upd_ne h2, upd_ne h1, upd_ne h2]
  rw [e]
  exact q dx hd'
/-- isinstance(e, c), e the caught error with its dict -/
def rIsX (K : PySem.W.Frag) (a : Addr) (cls : Value) (d : Option Addr) (D : Addr) : List V → Hp → VK → Prop := fun xs H Q => ∃ (c : V) (cv : Value) (b : Bool) (dd : Addr) (fs : List (Str × V)), cls = .ref D ∧ d = some dd ∧ H dd = some (.xd fs) ∧ xs = [.ref a, c] ∧ (∀ u, RelV c u → u = cv) ∧ PySem.W.kitOne K (.ref D) cv = some b ∧ Q (.bl b) H
theorem call_isX {X : Cx} {a D : Addr} {cls : Value} {d : Option Addr} {nm f : Str} {fI : Addr} {mg : Str → Option Value} {oe : Obj} {pn : List (Addr × Obj)} (T : Ecl X.K mg nm f D fI) (hz : Zc cls d oe) (hf : ∃ vs, oe.data = .fields vs) :
    CallR (X.suite a ((a, oe) :: pn)) (.builtin "isinstance") (rIsX X.K a cls d D) := by
  rintro pins s σ H xs us Q I r ⟨c, cv, b, dd, fs, rfl, rfl, ea, rfl, hcv, e, q⟩
  obtain ⟨u1, u2, rfl, r1, r2⟩ : ∃ u1 u2, us = [u1, u2] ∧ RelV (.ref a) u1 ∧ RelV c u2 := by
    cases r with
    | cons p1 t1 => cases t1 with
      | cons p2 t2 => cases t2; exact ⟨_, _, rfl, p1, p2⟩
  obtain rfl : u1 = Value.ref a := r1
  rw [hcv u2 r2]
  have own := (I.pin (a, oe) (List.mem_append_left _ List.mem_cons_self)).1
  obtain ⟨vs, isF⟩ := hf
  obtain ⟨mA, named, _⟩ := show ObjOk X.prog X.w H s.heap dd (.xd fs) from I.hok dd _ ea
  obtain ⟨od, at_, _⟩ := lookIn_ns named
  have J : PySem.W.InstAt s.heap a oe D (some od) := by
    refine ⟨own, hz.1, ?_, by rw [hz.2]; exact at_⟩
    unfold PySem.W.notCls
    rw [isF] <;> rfl
  have kit := PySem.W.kitx_exc (x := a) (ox := oe) (od := some od) T.cl T.xf.ga T.xf.gg T.xf.exC T.ha T.hn T.ht T.hm
  exact PySem.W.kia_one kit I.kIn J e (fun z => nomatch z) fun tk => ⟨.bl b, H, I.kept (t' := tk) fun _ _ z => z, rfl, q⟩
/-- x == x, for data and for empty dicts -/
def Slf (K : PySem.W.Frag) (H : Hp) (v : V) : Prop := (∃ d, Dp K H v d ∧ SeqAt.shaped d = true ∧ PyData.eqv d d = true) ∨ ∃ a, v = .ref a ∧ H a = some (.dK [])
def rSlf (K : PySem.W.Frag) : R2 := fun x y H Q => x = y ∧ Slf K H x ∧ Q (.bl true) H
end L2
/-! from k02/TkDe -/
namespace L2
open PySem PySem.Spec PyProof.Rows
/-- what an __init__(self, place, why) of an error class promises -/
def spEI2 (C : Addr) : Sp := fun vs H Q _ => ∃ (a : Addr) (v w : V), vs = [.ref a, v, w] ∧ H a = some (exo a C none) ∧ ∀ dx, H dx = none → dx ≠ a → Q .non (upd (upd (upd H dx (exd dx [("place", v)])) a (exo a C (some dx))) dx (exd dx [("why", w), ("place", v)]))
end L2
/-! from k02/TkMX -/
namespace L2
open PySem PySem.Spec PyProof.Rows
section
variable {X : Cx} {CX : CXT} {k : Nat} {f C : Addr} {fd : FuncData} {ps : List Str} {sp : Sp} {E : St → XK} {m : Str} {pos apos : Pos} {e o : Expr} {es : List Expr} {ta : TE} {t : TA}
/-- o.m(e, ..), where an error may come out, as the wish at these slots says -/
def tMethXS (C : Addr) (m : Str) (sp : Sp) (E : St → XK) (ta : TE) (t : TA) : TE := fun σ H Q => ta σ H fun x H1 => ∃ a dx fs, x = .ref a ∧ H1 a = some (.ins C dx fs) ∧ fs.lookup m = none ∧ t σ H1 fun vs H2 => sp (x :: vs) H2 Q (E σ)
abbrev mcall (X : Cx) (o : Expr) (m : Str) (apos pos : Pos) (es : List Expr) (pl : Sem Bool) : Sem Value := (do let ov ← eval o X.env; standAt apos.atName; let (g, one) ← holding [ov] (getMethod ov m pl); callWith pos g one (backTo pos (starEach es X.env)) (backToKw pos (keywordEach [] X.env)))
theorem pe_methXS {pl : Sem Bool} (he : PE X o ta) (c : Cls X.K C) (hm : Meth X.K C m f) (F : FnOk X.prog X.w X.K X.mg X.base CX k f fd ps sp) (hr : Room k X.A) (hb : Binds X.K fd ps []) (hx : ∀ σ, PassesAt CX X σ (E σ)) (ha : PA X (e :: es) t)
    (ht : eval (.Call (.Attribute o m apos) (e :: es) [] pos) X.env = mcall X o m apos pos (e :: es) pl := by rfl) (h1 : starEach (e :: es) X.env = (false, eval e X.env) :: starEach es X.env := by rfl) (h2 : (backTo pos (starEach es X.env)).any (·.1) = false := by rfl) :
    PE X (.Call (.Attribute o m apos) (e :: es) [] pos) (tMethXS C m sp E ta t) := by
  constructor
  intro pins s σ H Q I h
  refine PySem.W.methodCall_KW (pl := pl) (thn (he.run pins s σ H _ I h) fun u s1 q => ?_) ht
  obtain ⟨_, H1, I1, ru, a, dx, fs, rfl, ea, l, q⟩ := q
  have eu : u = Value.ref a := ru
  subst eu
  refine getmeth_ok I1 ea c hm l (PySem.W.callWith_K (first := [.ref a]) (h₀ := X.base) I.ok.mod.kin hm.kp (thn (ha.run pos pins s1 σ H1 _ I1 q) fun us s2 q2 => ?_) h1 h2)
  obtain ⟨vs, H2, I2, r, q2⟩ := q2
  exact ⟨I2.kIn, run_fnS (us := .ref a :: us) (vs := .ref a :: vs) F hr hb (hx σ) I2 (.cons rfl r) q2⟩
end
end L2
/-! from k02/TkNS -/
namespace L2
open PySem PySem.Spec PyProof.Rows
/-- a != b, two tuples of the very same items -/
def rNeS (K : PySem.W.Frag) : R2 := fun x y H Q => ∃ (a b : Addr) (xs : List V), x = .ref a ∧ y = .ref b ∧ SqT K H a xs ∧ SqT K H b xs ∧ (∀ v ∈ xs, flatB v = true ∨ ∃ c, v = .ref c) ∧ Q (.bl false) H
/-! ### C(e, ..) where an error may come out of its __init__, as the wish at these slots says -/
def tMakeS (C : Addr) (sp : Sp) (E : St → XK) (t : TA) : TE := fun σ H Q => t σ H fun vs H1 => ∀ x dx, H1 x = none → H1 dx = none → dx ≠ x → sp (.ref x :: vs) (upd (upd H1 dx (.own x)) x (.ins C dx [])) (fun v H2 => v = .non ∧ Q (.ref x) H2) (E σ)
theorem pe_makeS {X : Cx} {CX : CXT} {k : Nat} {C f : Addr} {fd : FuncData} {ps : List Str} {sp : Sp} {E : St → XK} {x : Str} {p pos : Pos} {e : Expr} {es : List Expr} {t : TA} (M : Mk X.K C f) (F : FnOk X.prog X.w X.K X.mg X.base CX k f fd ps sp) (hr : Room (k + 1) X.A) (hg : Gl X x) (hm : X.mg x = some (.ref C)) (hb : Binds X.K fd ps []) (hx : ∀ σ, PassesAt CX X σ (E σ))
    (ha : PA X (e :: es) t) (hdb : (x == ("__debug__" : Str)) = false := by decide) (he : starEach (e :: es) X.env = (false, eval e X.env) :: starEach es X.env := by rfl) (hpl : (backTo pos (starEach es X.env)).any (·.1) = false := by rfl) :
    PE X (.Call (.Name x p) (e :: es) [] pos) (tMakeS C sp E t) := by
  constructor
  intro pins s σ H Q I h
  refine wpAny_Call_Name_kw (ld_glob I hg hm ?_ hdb)
  refine PySem.W.callWith_K (h₀ := X.base) I.ok.mod.kin M.kp (thn (ha.run pos pins s σ H _ I h) fun us s1 z => ?_) he hpl
  obtain ⟨vs, H1, J, r, q⟩ := z
  refine ⟨J.kIn, ?_⟩
  have q1 := q (s1.heap.objs.size + 1) s1.heap.objs.size (J.hok.fresh (Nat.le_succ _)) (J.hok.fresh (Nat.le_refl _)) (Nat.ne_of_lt (Nat.lt_succ_self _))
  have J2 := Inv.made (C := C) J
  have rr : Vals (V.ref (s1.heap.objs.size + 1) :: vs) (Value.ref (s1.heap.objs.size + 1) :: us) := .cons rfl r
  have hl : (Value.ref (s1.heap.objs.size + 1) :: us ++ []).length = ps.length := by
    rw [List.append_nil, ← rr.length]; exact F.len _ _ _ _ q1
  have bd := hb _ (Value.ref (s1.heap.objs.size + 1) :: us) J2.kIn hl
  rw [List.append_nil] at bd
  refine wpAny_call (make_map (f := f) J.kIn M.makes M.init (beq_iff_eq.mp M.fn) (codeAny_mono (F.run _ X.stack _ _ ⟨Value.ref (s1.heap.objs.size + 1) :: us, []⟩ _ _ _ (E σ) (hr.make C us []) (J2.env0.make C us []) bd rr q1) fun res s' hq => ?_))
  match res, hq with
  | .error err, hq => exact hx σ pins _ _ err s' J2 hq
  | .ok (.ret u), hq =>
    obtain ⟨v, H', J3, rv, ev, q3⟩ := J2.after hq
    subst ev
    exact ⟨rv, ⟨V.ref (s1.heap.objs.size + 1), H', J3, rfl, q3⟩⟩
end L2
/-! from k06/TkKS -/
namespace L2
open PySem PySem.Spec PyProof.Rows
/-- C(e, .., k = v, ..), where an error may come out of its __init__, as the wish at these slots says -/
def tMakeKS (C : Addr) (n m : Nat) (sp : Sp) (gV : List V → List V → List V) (E : St → XK) (t tk : TA) : TE := fun σ H Q => t σ H fun vs H1 => tk σ H1 fun zs H2 => vs.length = n ∧ zs.length = m ∧ ∀ x dx, H2 x = none → H2 dx = none → dx ≠ x →
  sp (gV (.ref x :: vs) zs) (upd (upd H2 dx (.own x)) x (.ins C dx [])) (fun v H3 => v = .non ∧ Q (.ref x) H3) (E σ)
section
variable {X : Cx} {CX : CXT} {k n : Nat} {f C : Addr} {fd : FuncData} {ps ks : List Str} {sp : Sp} {E : St → XK} {x : Str} {p pos : Pos} {e : Expr} {es : List Expr} {kws : List Keyword} {t tk : TA} {g : List Value → List Value → List Value} {gV : List V → List V → List V}
theorem run_makeKS {pins : List (Addr × Obj)} {σ : St} {H : Hp} {s : Shared} {Q : VK} {us ws : List Value} {vs zs : List V} {E : XK} (M : Mk X.K C f) (F : FnOk X.prog X.w X.K X.mg X.base CX k f fd ps sp) (hr : Room (k + 1) X.A) (hb : KBn X.K fd ps (n + 1) ks g gV) (hx : PassesAt CX X σ E)
    (I : Inv X pins σ H s) (r : Vals vs us) (rz : Vals zs ws) (l1 : vs.length = n) (l2 : zs.length = ks.length)
    (h : ∀ x dx, H x = none → H dx = none → dx ≠ x → sp (gV (.ref x :: vs) zs) (upd (upd H dx (.own x)) x (.ins C dx [])) (fun v H2 => v = .non ∧ Q (.ref x) H2) E) :
    wpAny (model X.prog X.w) X.A (call (.ref C) us (ks.zip ws)) (EP X pins σ Q) X.xe s := by
  have hq := h (s.heap.objs.size + 1) s.heap.objs.size (I.hok.fresh (Nat.le_succ _)) (I.hok.fresh (Nat.le_refl _)) (Nat.ne_of_lt (Nat.lt_succ_self _))
  have I2 := Inv.made (C := C) I
  have r1 : Vals (V.ref (s.heap.objs.size + 1) :: vs) (Value.ref (s.heap.objs.size + 1) :: us) := .cons rfl r
  have r2 := hb.rel r1 rz
  have n1 : (Value.ref (s.heap.objs.size + 1) :: us).length = n + 1 := by
    rw [List.length_cons, ← r.length, l1]
  refine wpAny_call (make_map (f := f) I.kIn M.makes M.init (beq_iff_eq.mp M.fn) (codeAny_mono (F.run _ X.stack _ _ ⟨Value.ref (s.heap.objs.size + 1) :: us, ks.zip ws⟩ (g (Value.ref (s.heap.objs.size + 1) :: us) ws) _ _ E (hr.make C us (ks.zip ws))
    (I2.env0.make C us (ks.zip ws)) (hb.to _ (Value.ref (s.heap.objs.size + 1) :: us) ws I2.kIn n1 (rz.length.symm.trans l2)) r2 hq) fun r s' hq' => ?_))
  cases r with
  | error e => exact hx pins _ _ e s' I2 hq'
  | ok fl =>
    cases fl with
    | ret u =>
      obtain ⟨v, H', I3, rv, ev, q3⟩ := I2.after hq'
      subst ev
      exact ⟨rv, ⟨V.ref (s.heap.objs.size + 1), H', I3, rfl, q3⟩⟩
    | next => exact False.elim hq'
    | brk => exact False.elim hq'
    | cont => exact False.elim hq'
theorem pe_makeKS (M : Mk X.K C f) (F : FnOk X.prog X.w X.K X.mg X.base CX k f fd ps sp) (hr : Room (k + 1) X.A) (hg : Gl X x) (hm : X.mg x = some (.ref C)) (hb : KBn X.K fd ps (n + 1) ks g gV) (hx : ∀ σ, PassesAt CX X σ (E σ)) (ha : PA X (e :: es) t) (hkw : PK X kws tk)
    (hall : (backToKw pos (keywordEach kws X.env)).all (·.1.isSome) = true := by rfl) (hks : (backToKw pos (keywordEach kws X.env)).filterMap (·.1) = ks := by rfl) (hdb : (x == ("__debug__" : Str)) = false := by decide)
    (he : starEach (e :: es) X.env = (false, eval e X.env) :: starEach es X.env := by rfl) (hpl : ((backTo pos (starEach (e :: es) X.env)).any (·.1) || (backToKw pos (keywordEach kws X.env)).any (·.1.isNone)) = false := by rfl) :
    PE X (.Call (.Name x p) (e :: es) kws pos) (tMakeKS C n ks.length sp gV E t tk) := by
  refine ⟨fun pins s σ H Q I h => ?_⟩
  refine wpAny_Call_Name_kw (ld_glob I hg hm ?_ hdb)
  refine PySem.W.callWith_KW (h₀ := X.base) I.ok.mod.kin M.kp hall (thn (ha.run pos pins s σ H _ I h) fun us s1 ⟨vs, H1, I1, r, q⟩ => ?_) hpl he
  refine thn (hkw.run pos pins s1 σ H1 _ I1 q) fun ws s2 ⟨zs, H2, I2, rz, l1, l2, q2⟩ => ⟨I2.kIn, ?_⟩
  rw [hks]
  exact run_makeKS M F hr hb (hx σ) I2 r rz l1 l2 q2
end
end L2
/-! from k07/TkSK -/
namespace StK
open PySem PySem.Spec PyProof.Rows L2 StX
/-- what the reading of defaults leaves to do -/
def KwTail {α : Type} (D : Addr) : List (Str × Value) → Sem α → Sem α → Prop
  | [], t, r => t = r
  | q :: l, t, r => ∃ (β γ : Type) (k1 : Option Value → Sem β) (k2 : β → Sem γ) (k3 : γ → Sem α) (a : β), t = ((nsGet D q.1 >>= k1) >>= k2) >>= k3 ∧ k1 (some q.2) = pure a ∧ KwTail D l (k2 a >>= k3) r
theorem KwTail.wp {α : Type} {K : PySem.W.Frag} {M : Model} {A : Around} {s : Shared} {D : Addr} {Q : α → Shared → Prop} {E : Value → Shared → Prop} (X : K.In s.heap) : ∀ {l : List (Str × Value)} {t r : Sem α}, (∀ q ∈ l, PySem.W.nsIn K D q.1 = some (some q.2)) → KwTail D l t r → wpAny M A r Q E s → wpAny M A t Q E s
  | [], t, r, _, e, h => by
    rw [show t = r from e]; exact h
  | q :: l, t, r, hl, e, h => by
    obtain ⟨β, γ, k1, k2, k3, a, e1, e2, e3⟩ := e
    have l1 : PySem.W.Looks M s.heap (nsGet D q.1 >>= k1) a := (PySem.W.looks_nsIn X (hl q (List.mem_cons_self ..))).andThen (PySem.W.Looks.of_pure e2)
    rw [e1, bind_assoc]
    exact wpAny_bind (l1.here (KwTail.wp X (fun p hp => hl p (List.mem_cons_of_mem _ hp)) e3 h))
/-- a def that is called with the keywords ks -/
def FnRK (P : Program) (w : World) (K : PySem.W.Frag) (mg : Str → Option Value) (base : Heap) (CX : CXT) (k : Nat) (f : Addr) (ks : List Str) (sp : List V → Sp) : Prop :=
  ∀ (A : Around) (outer : List Env) (s : Shared) (H : Hp) (us ws : List Value) (vs zs : List V) (Q : VK) (E : XK), Room k A → Env0 P w K mg base A outer s H → Vals vs us → Vals zs ws → zs.length = ks.length → sp zs vs H Q E →
    codeAny (model P w) A (.call (.ref f) ⟨us, ks.zip ws⟩) (CR CX outer P w H s Q E) s
section
variable {CX : CXT} {P : Program} {w : World} {K : PySem.W.Frag} {mg : Str → Option Value} {base : Heap} {k n : Nat} {f D : Addr} {name qual : Str} {params : Arguments} {body : List Stmt} {scope : Scope} {doc pm cdv ct oc : Value} {an od : Option Addr}
  {osl : Array (Option Value)} {N ps ks : List Str} {ms : List (Str × V)} {sp : Sp} {pv : Str}
theorem fn_starK (lk : K.lookup f = some ⟨oc, od, .func (PySem.W.fnOf name qual params body scope .none (.ref D) doc pm an cdv ct), osl⟩) (hcd : PySem.W.codeIn K cdv qual = true) (S : FnScope N (ps ++ [pv]) scope) (hCX : CXUp CX)
    (hms : ∀ q ∈ ms, ∃ u, PySem.W.nsIn K D q.1 = some (some u) ∧ RelV q.2 u) (g : {α : Type} → List α → List α → List α → List α)
    (hrel : ∀ {vs mz zs : List V} {us mv ws : List Value}, Vals vs us → Vals mz mv → Vals zs ws → Vals (g vs mz zs) (g us mv ws))
    (hlen : ∀ {α : Type} (us mv ws : List α), us.length = n → mv.length = ms.length → ws.length = ks.length → (g us mv ws).length = ps.length)
    (hb : ∀ us rest mv ws : List Value, us.length = n → mv.length = ms.length → ws.length = ks.length → KwTail D ((ms.map (·.1)).zip mv) (bindArgs (PySem.W.fnOf name qual params body scope .none (.ref D) doc pm an cdv ct) ⟨us ++ rest, ks.zip ws⟩) (newTuple rest >>= fun t => pure (ps.zip (g us mv ws) ++ [(pv, t)])))
    (hbody : ∀ (A : Around) (outer : List Env) (s : Shared) (H : Hp) (vs : List V) (Q : VK) (E : XK), Room k (A.deeper (envOfC qual scope s.heap.objs.size f cdv)) → sp vs H Q E →
      ∃ t, PSs (cxOf CX P w K mg base N qual scope f cdv A outer s H E) body t ∧ t { nx := fun _ H' => Q .non H', rt := Q } (start N vs) H) :
    FnRK P w K mg base CX (k + 1) f ks (fun zs vs H Q E => ∃ ws rest, vs = ws ++ rest ∧ ws.length = n ∧ rest.length ≤ sizeLine ∧ ∀ p, H p = Option.none → sp (g ws (ms.map (·.2)) zs ++ [V.ref p]) (upd H p (.tup rest)) Q E) := by
  intro A outer s H us wz vs zs Q E hr e0 r rz hz hsp
  obtain ⟨ws, rest, ev, hl, hs, hq⟩ := hsp
  subst ev
  obtain ⟨u1, u2, eu, r1, r2⟩ := vals_split r
  subst eu
  obtain ⟨mv, ml, rm, hks⟩ := kwd_vals hms
  have KX : K.In s.heap := e0.mod.kin.keeps fun b o e => (e0.bs b o e).1
  have hn : H s.heap.objs.size = Option.none := e0.hok.fresh (Nat.le_refl _)
  have hl1 : u1.length = n := by rw [← r1.length]; exact hl
  have hl2 : u2.length ≤ sizeLine := by rw [← r2.length]; exact hs
  have hlz : wz.length = ks.length := by rw [← rz.length]; exact hz
  have rg := hrel r1 rm rz
  have lg : (g u1 mv wz).length = ps.length := hlen _ _ _ hl1 ml hlz
  have lg' : (g ws (ms.map (·.2)) zs).length = ps.length := by rw [rg.length]; exact lg
  refine run_bnd lk hcd S hr e0 (G := fun xs H2 => ∃ p, H p = Option.none ∧ xs = g ws (ms.map (·.2)) zs ++ [V.ref p] ∧ H2 = upd H p (.tup rest)) (fun A' Ex Q' h => ?_) fun s2 H2 xs ⟨p, hp, ex, eH⟩ hr' => ?_
  · refine KwTail.wp KX hks (hb u1 u2 mv wz hl1 ml hlz) ?_
    refine wpAny_bind (wpAny_newTuple (wpAny_pure ?_) hl2)
    have new : ObjOk P w (upd H s.heap.objs.size (.tup rest)) (s.heap.push ({ cls := .type "tuple", data := .seq u2.toArray } : Obj)) s.heap.objs.size (.tup rest) := ⟨hs, u2, r2, ⟨_, Heap.get?_push_size _ rfl, rfl, _, rfl⟩⟩
    have un := un_laid (fs := frs outer) (s := s) (o := ({ cls := .type "tuple", data := .seq u2.toArray } : Obj)) (u := .tup rest) hn
    have z := h _ _ (g ws (ms.map (·.2)) zs ++ [V.ref s.heap.objs.size]) (g u1 mv wz ++ [Value.ref s.heap.objs.size]) (env0_laid e0 new) un rfl (fun e s' => hCX outer s H _ _ E e s' un (fun b o q => Heap.get?_push_of_some _ q) rfl) (rg.append (.cons rfl .nil))
      (by rw [List.length_append, List.length_append, lg'] <;> rfl) ⟨_, hn, rfl, rfl⟩
    rw [List.zip_append lg.symm] at z
    exact z
  · subst ex eH
    exact hbody A outer s2 _ _ Q E hr' (hq p hp)
end
/-! ### C(e, .., k = v, ..) of such an __init__, where an error may come out -/
def tMakeRK (C : Addr) (m : Nat) (sp : List V → Sp) (E : L2.St → XK) (t tk : TA) : TE := fun σ H Q => t σ H fun vs H1 => tk σ H1 fun zs H2 => zs.length = m ∧ ∀ x dx, H2 x = none → H2 dx = none → dx ≠ x →
  sp zs (V.ref x :: vs) (upd (upd H2 dx (.own x)) x (.ins C dx [])) (fun v H3 => v = .non ∧ Q (.ref x) H3) (E σ)
section
variable {X : Cx} {CX : CXT} {k : Nat} {f C : Addr} {ks : List Str} {sp : List V → Sp} {E : L2.St → XK} {x : Str} {p pos : Pos} {e : Expr} {es : List Expr} {kws : List Keyword} {t tk : TA}
theorem run_makeRK {pins : List (Addr × Obj)} {σ : L2.St} {H : Hp} {s : Shared} {Q : VK} {us ws : List Value} {vs zs : List V} {E : XK} (M : Mk X.K C f) (F : FnRK X.prog X.w X.K X.mg X.base CX k f ks sp) (hr : Room (k + 1) X.A) (hx : PassesAt CX X σ E)
    (I : Inv X pins σ H s) (r : Vals vs us) (rz : Vals zs ws) (l2 : zs.length = ks.length)
    (h : ∀ x dx, H x = none → H dx = none → dx ≠ x → sp zs (V.ref x :: vs) (upd (upd H dx (.own x)) x (.ins C dx [])) (fun v H2 => v = .non ∧ Q (.ref x) H2) E) :
    wpAny (model X.prog X.w) X.A (call (.ref C) us (ks.zip ws)) (EP X pins σ Q) X.xe s := by
  have hq := h (s.heap.objs.size + 1) s.heap.objs.size (I.hok.fresh (Nat.le_succ _)) (I.hok.fresh (Nat.le_refl _)) (Nat.ne_of_lt (Nat.lt_succ_self _))
  have I2 := Inv.made (C := C) I
  have r1 : Vals (V.ref (s.heap.objs.size + 1) :: vs) (Value.ref (s.heap.objs.size + 1) :: us) := .cons rfl r
  refine wpAny_call (make_map (f := f) I.kIn M.makes M.init (beq_iff_eq.mp M.fn) (codeAny_mono (F _ X.stack _ _ (Value.ref (s.heap.objs.size + 1) :: us) ws _ _ _ E (hr.make C us (ks.zip ws)) (I2.env0.make C us (ks.zip ws)) r1 rz l2 hq) fun r s' hq' => ?_))
  cases r with
  | error e => exact hx pins _ _ e s' I2 hq'
  | ok fl =>
    cases fl with
    | ret u =>
      obtain ⟨v, H', I3, rv, ev, q3⟩ := I2.after hq'
      subst ev
      exact ⟨rv, ⟨V.ref (s.heap.objs.size + 1), H', I3, rfl, q3⟩⟩
    | next => exact False.elim hq'
    | brk => exact False.elim hq'
    | cont => exact False.elim hq'
theorem pe_makeRK (M : Mk X.K C f) (F : FnRK X.prog X.w X.K X.mg X.base CX k f ks sp) (hr : Room (k + 1) X.A) (hg : Gl X x) (hm : X.mg x = some (.ref C)) (hx : ∀ σ, PassesAt CX X σ (E σ)) (ha : PA X (e :: es) t) (hkw : PK X kws tk)
    (hall : (backToKw pos (keywordEach kws X.env)).all (·.1.isSome) = true := by rfl) (hks : (backToKw pos (keywordEach kws X.env)).filterMap (·.1) = ks := by rfl) (hdb : (x == ("__debug__" : Str)) = false := by decide)
    (he : starEach (e :: es) X.env = (false, eval e X.env) :: starEach es X.env := by rfl) (hpl : ((backTo pos (starEach (e :: es) X.env)).any (·.1) || (backToKw pos (keywordEach kws X.env)).any (·.1.isNone)) = false := by rfl) :
    PE X (.Call (.Name x p) (e :: es) kws pos) (tMakeRK C ks.length sp E t tk) := by
  refine ⟨fun pins s σ H Q I h => ?_⟩
  refine wpAny_Call_Name_kw (ld_glob I hg hm ?_ hdb)
  refine PySem.W.callWith_KW (h₀ := X.base) I.ok.mod.kin M.kp hall (thn (ha.run pos pins s σ H _ I h) fun us s1 ⟨vs, H1, I1, r, q⟩ => ?_) hpl he
  refine thn (hkw.run pos pins s1 σ H1 _ I1 q) fun ws s2 ⟨zs, H2, I2, rz, l2, q2⟩ => ⟨I2.kIn, ?_⟩
  rw [hks]
  exact run_makeRK M F hr (hx σ) I2 r rz l2 q2
end
end StK
/-! from k09/TkRS -/
namespace PySem.W
open PySem
section
variable {M : Model} {A : Around} {E : Value → Shared → Prop} {s : Shared}
theorem ks_lone_kw {f : Value} {x : Sem Value} {pos : Pos} {kws : List (Option Str × Sem Value)} {Q : Args → Shared → Prop} (hall : kws.all (·.1.isSome) = true)
    (h : wpAny M A x (fun v s₁ => wpAny M A (evalAll (kws.map (·.2))) (fun ks s₂ => StarOf M A E v (fun vs s₃ => Q ⟨vs, (kws.filterMap (·.1)).zip ks⟩ s₃) s₂) E s₁) E s) :
    wpAny M A (evalArgs f true [(true, (do let v ← x; standAt pos; pure v))] kws) Q E s := by
  unfold evalArgs
  first
    | refine wpAny_bind (wpAny_bind (wpAny_mono h (fun v s₁ h₁ => wpAny_bind (wpAny_standAt (wpAny_pure ?_))) fun _ _ x => x))
    | refine wpAny_bind (wpAny_bind (wpAny_bind (wpAny_mono h (fun v s₁ h₁ => wpAny_bind (wpAny_standAt (wpAny_pure (wpAny_pure ?_)))) fun _ _ x => x)))
  refine wpAny_holding ?_
  dsimp only
  rw [if_pos hall]
  refine wpAny_bind (wpAny_mono h₁ (fun ks s₂ h₂ => ?_) fun _ _ x => x)
  unfold StarOf at h₂
  refine wpAny_bind (wpAny_bind (wpAny_mono h₂ (fun b s₃ h₃ => ?_) fun _ _ x => x))
  obtain ⟨rfl, h₃⟩ := h₃
  have z : ∀ keep, wpAny M A (holding keep (collect v)) (fun vs s₄ => wpAny M A (pure (⟨vs, (kws.filterMap (·.1)).zip ks⟩ : Args)) Q E s₄) E s₃ := fun keep => wpAny_holding (vs := keep) (wpAny_mono h₃ (fun vs s₄ h₄ => wpAny_pure h₄) fun _ _ x => x)
  try simp only [Bool.false_eq_true, if_false]
  first
    | exact z _
    | exact wpAny_bind (wpAny_pure (z _))
theorem ks_call_kw {f : Value} {first : List Value} {pos : Pos} {Q : Value → Shared → Prop} {P : Heap → Prop} {args : List (Bool × Sem Value)} {kws : List (Option Str × Sem Value)} (hst : args.any (·.1) = true)
    (hk : ∀ h, P h → ∃ k, (k = Keeper.frame ∨ k = Keeper.machine ∨ k = Keeper.boundFrame) ∧ Looks M h (keeperOf f) k)
    (h : wpAny M A (evalArgs f true args kws) (fun a s₁ => P s₁.heap ∧ wpAny M A (call f (first ++ a.pos) a.kw) Q E s₁) E s) : wpAny M A (callWith pos f first args kws) Q E s := by
  unfold callWith
  refine wpAny_bind (wpAny_holding (wpAny_mono h (fun a s₁ h₁ => wpAny_bind (wpAny_standAt ?_)) fun _ _ x => x))
  obtain ⟨k, hk', L⟩ := hk _ h₁.1
  simp only [hst, Bool.true_or]
  refine wpAny_bind (L.here ?_)
  have tail : ∀ {t : Sem Value}, wpAny M A t Q E s₁ → wpAny M A (t >>= fun r => holding [r] point >>= fun _ => pure r) Q E s₁ :=
    fun ht => wpAny_bind (wpAny_mono ht (fun r s₂ hr => wpAny_bind (wpAny_holding (wpAny_point (wpAny_pure hr)))) fun _ _ x => x)
  have marked (mk : Value) : wpAny M A (callMarked mk f (first ++ a.pos) a.kw) Q E s₁ := by unfold callMarked; exact Calls.wpAny_keep h₁.2
  rcases hk' with rfl | rfl | rfl <;> dsimp only <;> first | exact tail (marked _) | exact tail (wpAny_operating h₁.2)
end
end PySem.W
namespace StK
open PySem PySem.Spec PyProof.Rows L2 StX
def tMakeRS (K : PySem.W.Frag) (C : Addr) (m : Nat) (sp : List V → Sp) (E : L2.St → XK) (te : TE) (tk : TA) : TE := fun σ H Q => te σ H fun y H1 => tk σ H1 fun zs H2 => zs.length = m ∧ ∃ a xs, y = V.ref a ∧ (SqT K H2 a xs ∨ SqL K H2 a xs) ∧ ∀ x dx, H2 x = none → H2 dx = none → dx ≠ x →
  sp zs (V.ref x :: xs) (upd (upd H2 dx (.own x)) x (.ins C dx [])) (fun v H3 => v = .non ∧ Q (.ref x) H3) (E σ)
section
variable {X : Cx} {CX : CXT} {k : Nat} {f C : Addr} {ks : List Str} {sp : List V → Sp} {E : L2.St → XK} {x : Str} {p sp_ pos : Pos} {e : Expr} {kws : List Keyword} {te : TE} {tk : TA}
theorem pe_makeRS (M : Mk X.K C f) (F : FnRK X.prog X.w X.K X.mg X.base CX k f ks sp) (hr : Room (k + 1) X.A) (hg : Gl X x) (hm : X.mg x = some (.ref C)) (hx : ∀ σ, PassesAt CX X σ (E σ)) (he : PE X e te) (hkw : PK X kws tk)
    (hall : (backToKw pos (keywordEach kws X.env)).all (·.1.isSome) = true := by rfl) (hks : (backToKw pos (keywordEach kws X.env)).filterMap (·.1) = ks := by rfl) (hdb : (x == ("__debug__" : Str)) = false := by decide)
    (hst : starEach [.Starred e sp_] X.env = [(true, eval e X.env)] := by rfl) :
    PE X (.Call (.Name x p) [.Starred e sp_] kws pos) (tMakeRS X.K C ks.length sp E te tk) := by
  refine ⟨fun pins s σ H Q I h => ?_⟩
  refine wpAny_Call_Name_kw (ld_glob I hg hm ?_ hdb)
  rw [hst]
  refine PySem.W.ks_call_kw rfl (PySem.W.keeps_K M.kp) (PySem.W.ks_lone_kw hall (thn (he.run pins s σ H _ I h) fun v s1 ⟨y, H1, I1, ry, q⟩ => ?_))
  refine thn (hkw.run pos pins s1 σ H1 _ I1 q) fun ws s2 ⟨zs, H2, I2, rz, l2, a, xs, ey, hxs, q2⟩ => ?_
  subst ey
  obtain rfl : v = Value.ref a := ry
  refine star_any I2 hxs fun us s3 I3 rv => ⟨I3.kIn, ?_⟩
  rw [hks]
  exact run_makeRK (us := us) (vs := xs) M F hr (hx σ) I3 rv rz l2 q2
end
end StK
/-! from k09/TkMN -/
namespace L2
open PySem PySem.Spec PyProof.Rows
def tMethN (C : Addr) (m : Str) (nk : Nat) (sp : Sp) (gV : List V → List V → List V) (E : St → XK) (ta : TE) (tk : TA) : TE := fun σ H Q => ta σ H fun x H1 => ∃ a dx fs, x = .ref a ∧ H1 a = some (.ins C dx fs) ∧ fs.lookup m = none ∧
  tk σ H1 fun zs H2 => zs.length = nk ∧ sp (gV [.ref a] zs) H2 Q (E σ)
section
variable {X : Cx} {CX : CXT} {k n : Nat} {f C : Addr} {fd : FuncData} {ps ks : List Str} {sp : Sp} {E : St → XK} {x m : Str} {p pos apos : Pos} {o : Expr} {kws : List Keyword} {ta : TE} {tk : TA} {g : List Value → List Value → List Value} {gV : List V → List V → List V}
end
end L2
/-! from k08/TkTE -/
namespace TE8
open PySem PySem.SeqAt
open AutoSeq1 (wpAny_loadPart')
open MeetsSeq MeetsSeq2 MeetsSeq3 SeqRoads2
section
variable {prog : Program} {w : World} {A : Around} {R : Result → Shared → Prop}
end
section
variable {prog : Program} {w : World} {A : Around} {E : Value → Shared → Prop} {s : Shared}
end
end TE8
namespace L2
open PySem PySem.Spec PyProof.Rows
/-- two instances of C, which c says to be equal or not -/
def DEqB (C : Addr) (sp : Sp) (E : XK) (c : Bool) (x y : V) (H : Hp) : Prop := ∃ a b dx dy fs gs, x = .ref a ∧ y = .ref b ∧ H a = some (.ins C dx fs) ∧ H b = some (.ins C dy gs) ∧ (a = b → c = true) ∧ sp [.ref a, .ref b] H (fun v H' => v = .bl c ∧ Ext H H') E
/-- item by item, in every later heap -/
inductive PrsB (D : Bool → V → V → Hp → Prop) (H : Hp) : List Bool → List V → List V → Prop
  | nil : PrsB D H [] [] []
  | cons {c : Bool} {x y : V} {cs : List Bool} {xs ys : List V} (h : ∀ H', Ext H H' → D c x y H') (t : PrsB D H cs xs ys) : PrsB D H (c :: cs) (x :: xs) (y :: ys)
section
variable {D : Bool → V → V → Hp → Prop} {H : Hp} {cs : List Bool} {xs ys : List V}
theorem PrsB.len (p : PrsB D H cs xs ys) : xs.length = ys.length ∧ cs.length = xs.length := by
  induction p with
  | nil => exact ⟨rfl, rfl⟩
  | cons _ _ ih => exact ⟨by rw [List.length_cons, List.length_cons, ih.1], by rw [List.length_cons, List.length_cons, ih.2]⟩
theorem PrsB.at : ∀ {cs : List Bool} {xs ys : List V} {i : Nat}, PrsB D H cs xs ys → i < xs.length → ∃ c x y, cs[i]? = some c ∧ xs[i]? = some x ∧ ys[i]? = some y ∧ ∀ H', Ext H H' → D c x y H'
  | _, _, _, 0, .cons h _, _ => ⟨_, _, _, rfl, rfl, rfl, h⟩
  | _, _, _, i + 1, .cons _ t, l => PrsB.at (i := i) t (Nat.lt_of_succ_lt_succ l)
end
def rTupB (K : PySem.W.Frag) (C : Addr) (sp : Sp) (E : XK) : R2 := fun x y H Q => ∃ a b xs ys cs, x = .ref a ∧ y = .ref b ∧ SqT K H a xs ∧ SqT K H b ys ∧ PrsB (DEqB C sp E) H cs xs ys ∧ ∀ H', Ext H H' → Q (.bl (cs.all id)) H'
section
variable {X : Cx} {CX : CXT} {k : Nat} {C f : Addr} {fd : FuncData} {ps : List Str} {sp : Sp} {E : XK}
end
end L2
/-! from k07/TkLS -/
namespace LenS
open PySem PySem.Spec PyProof.Rows
/-- how many unlike ones stand in front -/
def many (xs : List Str) : Nat → Nat
  | 0 => 0
  | i + 1 => if (xs.take i).any (· == xs.getD i Str.empty) then many xs i else many xs i + 1
theorem many_le (xs : List Str) : ∀ i, many xs i ≤ i
  | 0 => Nat.le_refl _
  | i + 1 => by
    have := many_le xs i
    unfold many
    split <;> omega
theorem took {xs : List Str} {i : Nat} (h : i < xs.length) (z : Str) : ((xs.take i).any (· == z) || decide (z = xs.getD i Str.empty)) = (xs.take (i + 1)).any (· == z) := by
  have e : xs.getD i Str.empty = xs[i] := by rw [List.getD_eq_getElem?_getD, List.getElem?_eq_getElem h]; rfl
  rw [List.take_add_one, List.getElem?_eq_getElem h, List.any_append, e]
  congr 1
  show decide (z = xs[i]) = ([xs[i]].any (· == z))
  by_cases c : z = xs[i]
  · rw [decide_eq_true c, ← c]; simp
  · rw [decide_eq_false c]
    have : (xs[i] == z) = false := beq_eq_false_iff_ne.mpr fun q => c q.symm
    simp [this]
def upto (xs : List Str) (i : Nat) : Str → Bool := fun z => (xs.take i).any (· == z)
section
variable {prog : Program} {w : World} {A : Around} {I S : Addr} {fp wr : List Addr} {G : Array GenState → Array GenState → Prop} {P : Nat → Value → Prop} {St : Nat → Shared → Prop} {xs : List Str} {R : Result → Shared → Prop}
theorem fill {n : Nat} (hn : n = xs.length) (W : WalksS prog w A.in1 I fp wr G n P St) (out : S ∉ fp) (few : xs.length + 1 < scanBound) (val : ∀ i v, P i v → ∃ t, v = .str (xs.getD i Str.empty) t) (m : Nat) :
    ∀ (i : Nat) (s : Shared), xs.length - i = m → i ≤ xs.length → St i s → s.heap.SetOf (strKind prog w) S (upto xs i) (many xs i) →
      (∀ s', Moved (S :: wr) G s s' → s'.heap.SetOf (strKind prog w) S (upto xs xs.length) (many xs xs.length) → R (.ok (.ret .none)) s') → codeAny (model prog w) A (.builtin "set.update.loop" ⟨[.ref S, .ref I], []⟩) R s := by
  subst hn
  have notw : S ∉ wr := fun h => out (W.sub _ h)
  have wider : ∀ b ∈ wr, b ∈ S :: wr := fun b => List.mem_cons_of_mem _
  have carry : ∀ {s s' : Shared} {f : Str → Bool} {k : Nat}, Moved wr G s s' → s.heap.SetOf (strKind prog w) S f k → s'.heap.SetOf (strKind prog w) S f k := fun mv h => by
    obtain ⟨o, a, b, c, there, more⟩ := h
    exact ⟨o, a, b, c, mv.heap S _ notw there, more⟩
  induction m with
  | zero =>
    intro i s hm hi now have_ last
    obtain rfl : i = xs.length := by omega
    refine codeAny_builtin F.entry_set_update_loop ?_
    rw [Around.under_plainId F.plain_set_update_loop _]
    exact wpAny_bind (W.done s _ _ now fun s' mv => wpAny_pure (last s' (mv.mono wider) (carry mv have_)))
  | succ m ih =>
    intro i s hm hi now have_ last
    have lt : i < xs.length := by omega
    refine codeAny_builtin F.entry_set_update_loop ?_
    rw [Around.under_plainId F.plain_set_update_loop _]
    refine wpAny_bind (W.item i s _ _ lt now fun v s' pv now' mv => ?_)
    obtain ⟨t, rfl⟩ := val i v pv
    refine wpAny_bind (wpAny_holding ?_)
    unfold setAdd
    refine wpAny_holding (wpAny_bind ((strKind prog w).pyHash (k := xs.getD i Str.empty) (strKind_is _ _ _ _) ?_))
    refine wpAny_setAddHashed_of (knd := strKind prog w) (s := { s' with toks := s'.toks + 1 }) (strKind_is _ _ _ _) rfl (carry (s' := s') mv have_) (by have := many_le xs i; omega) fun h2 same put => ?_
    have put2 : h2.SetOf (strKind prog w) S (upto xs (i + 1)) (many xs (i + 1)) := SetOf_congr put (fun z => took lt z) rfl
    refine wpAny_pure ⟨plainId_quiet F.plain_set_update_loop _, ih (i + 1) _ (by omega) lt (W.frame _ s' _ _ now' (Nat.le_succ _) fun b hb o e => ?_) put2 fun s3 mv3 end_ => ?_⟩
    · rw [same.2 b fun z => out (z ▸ hb)]; exact e
    · refine last s3 (Moved.trans W.gtrans ((mv.mono wider).then_heap (Nat.le_succ _) fun b o nb e => ?_) mv3) end_
      rw [same.2 b fun z => nb (z ▸ List.mem_cons_self)]; exact e
variable {E : Value → Shared → Prop} {s : Shared}
set_option maxHeartbeats 3200000 in
theorem make {l : Addr} {items : Array Value} {Q : Value → Shared → Prop} (calm : A.handled = none) (at_ : s.heap.IsList l items) (are : StrsAre items.toList xs) (few : xs.length + 1 < scanBound)
    (h : ∀ (h' : Heap) (tk : Nat), h'.SetOf (strKind prog w) s.heap.objs.size (upto xs xs.length) (many xs xs.length) → (∀ b o, b < s.heap.objs.size → s.heap.get? b = some o → h'.get? b = some o) → Q (.ref s.heap.objs.size) { s with heap := h', toks := tk }) :
    wpAny (model prog w) A (call (.type "set") [.ref l]) Q E s := by
  obtain ⟨c, tl, hmro⟩ := PySem.F.called_set.mro
  obtain ⟨made, sub, notT, canC⟩ := And.intro PySem.F.called_set.made (And.intro PySem.F.called_set.sub (And.intro PySem.F.called_set.notType PySem.F.called_set.canCreate))
  have one := PySem.F.typeCall_set_1 (.ref l)
  refine wpAny_call (codeAny_of_tree (wpAny_pure (a := _) ⟨Code.quiet_builtin _ (by decide +kernel), codeAny_builtin PySem.F.entry_type_call ?_⟩))
  rw [Around.under_plain (weight_type_call_type "set" [.ref l] []) rfl]
  repeat (any_goals (first | assumption | wp_step))
  let new : Obj := { cls := .type "set", dict := none, data := .set #[] 0 (.fresh 0 0 true) }
  let Made : Value → Shared → Prop := fun v s1 => ∃ led : Bool, v = .ref s.heap.objs.size ∧ s1 = { s with heap := s.heap.push { cls := .type "set", dict := none, data := .set #[] 0 (.fresh 0 0 led) } }
  let Full : Value → Shared → Prop := fun v s2 => v = .none ∧ ∃ h' tk, s2 = { s with heap := h', toks := tk } ∧ h'.SetOf (strKind prog w) s.heap.objs.size (upto xs xs.length) (many xs xs.length) ∧ ∀ b o, b < s.heap.objs.size → s.heap.get? b = some o → h'.get? b = some o
  refine codeAny_mono (code_set_new_1 (.ref l) (E := E) (Q₁ := Made) fun led => ⟨led, rfl, rfl⟩) fun r s1 hr => ?_
  match r, hr with
  | .error _, hr => exact hr
  | .ok .next, hr => exact hr.elim
  | .ok .brk, hr => exact hr.elim
  | .ok .cont, hr => exact hr.elim
  | .ok (.ret obj), hr =>
    obtain ⟨led, rfl, rfl⟩ := hr
    have there : (s.heap.push { cls := .type "set", dict := none, data := .set #[] 0 (.fresh 0 0 led) }).get? s.heap.objs.size = some { cls := .type "set", dict := none, data := .set #[] 0 (.fresh 0 0 led) } := Heap.get?_push_size _ rfl
    have typed : Shared.TypeIs { s with heap := s.heap.push { cls := .type "set", dict := none, data := .set #[] 0 (.fresh 0 0 led) } } (.ref s.heap.objs.size) "set" := ⟨_, there, rfl⟩
    have look := PySem.F.called_set.init.lookup
    have bind_ := PySem.F.called_set.init.bind (.ref s.heap.objs.size)
    repeat (any_goals (first | assumption | wp_step))
    refine codeAny_mono (codeAny_call_builtin (R := wants Full E) PySem.F.called_set.init.plain PySem.F.entry_set_init (check_set_init_1 typed ?_)) fun r2 s2 hr2 => ?_
    · obtain ⟨⟨oc, od, odata, osl⟩, lo, lc, ln, ld⟩ := at_
      simp only at lc ld
      subst lc ld
      have lo2 : (s.heap.push { cls := .type "set", dict := none, data := .set #[] 0 (.fresh 0 0 led) }).get? l = some { cls := .type "list", dict := od, data := .seq items ln, slots := osl } := Heap.get?_push_of_some _ lo
      have at2 : (s.heap.push { cls := .type "set", dict := none, data := .set #[] 0 (.fresh 0 0 led) }).IsList l items := ⟨_, lo2, rfl, ln, rfl⟩
      have n1 := PySem.F.sub_list_set
      have n2 := PySem.F.sub_list_frozenset
      have n3 : (Value.type "list" == Value.type "dict") = false := by decide
      unfold Builtin.«set.__init__» noKeywords Builtin.Frozenset.updateFrom
      generalize walk : pyIter = PI
      wp_walk
      subst walk
      refine wpAny_pyIter_list at2 (wpAny_bind (wpAny_runValue ?_))
      have below : l < s.heap.objs.size := Heap.lt_size lo
      have hh3 : A.in1.in1.in1.handled = none := by simp [calm]
      have sz : (s.heap.push { cls := .type "set", dict := none, data := .set #[] 0 (.fresh 0 0 led) }).objs.size = s.heap.objs.size + 1 := Heap.size_push ..
      have len : items.size = xs.length := by rw [← StrsAre.len_eq are, Array.length_toList]
      have far : l ≠ (s.heap.push { cls := .type "set", dict := none, data := .set #[] 0 (.fresh 0 0 led) }).objs.size := by
        rw [sz]
        exact Nat.ne_of_lt (Nat.lt_succ_of_lt below)
      have out : s.heap.objs.size ∉ [(s.heap.push { cls := .type "set", dict := none, data := .set #[] 0 (.fresh 0 0 led) }).objs.size, l] := by
        rw [sz]
        intro z
        simp only [List.mem_cons, List.not_mem_nil, or_false] at z
        exact z.elim (fun e => absurd e (Nat.ne_of_lt (Nat.lt_succ_self _))) fun e => absurd e (Nat.ne_of_gt below)
      refine fill len ((Walks.list hh3 _ l far items).toS) out few (fun i v hv => SS.strs_at are i v (by rw [Array.getElem?_toList]; exact hv)) _ 0 _ rfl (Nat.zero_le _) ⟨⟨_, Heap.get?_push_size _ rfl, rfl, rfl⟩, at2.push _⟩ ?_ ?_
      · have get_ := Heap.get?_push_of_some { cls := .type "list_iterator", data := .fields #[.ref l, .int 0 0] } there
        exact SetOf_congr ((setObjOf_fresh (knd := strKind prog w) led).setOf get_ (by unfold scanBound; omega)) (fun _ => rfl) rfl
      · rintro ⟨h', g', d', tk', os'⟩ mv done_
        obtain rfl : g' = s.gens := mv.gens
        obtain rfl : d' = s.drawn := mv.drawn
        obtain rfl : os' = s.os := mv.os
        refine wpAny_pure (wpAny_pure ⟨rfl, h', tk', rfl, done_, fun b o hb e => ?_⟩)
        refine mv.heap b o (fun z => ?_) (Heap.get?_push_of_some _ (Heap.get?_push_of_some _ e))
        simp only [List.mem_cons, List.not_mem_nil, or_false] at z
        rw [sz] at z
        exact z.elim (fun e => absurd e (Nat.ne_of_lt hb)) fun e => absurd e (Nat.ne_of_lt (Nat.lt_succ_of_lt hb))
    · match r2, hr2 with
      | .error _, hr2 => exact hr2
      | .ok .next, hr2 => exact hr2.elim
      | .ok .brk, hr2 => exact hr2.elim
      | .ok .cont, hr2 => exact hr2.elim
      | .ok (.ret v), hr2 =>
        obtain ⟨rfl, h', tk, rfl, full, keep⟩ := hr2
        repeat (any_goals (first | assumption | wp_step))
        exact h _ _ full keep
end
end LenS
namespace L2
open PySem PySem.Spec PyProof.Rows
theorem strs_vals : ∀ {ys : List Str} {us : List Value}, Vals (ys.map V.str) us → StrsAre us ys
  | [], _, .nil => .nil
  | y :: ys, _, .cons r t => by
    obtain ⟨k, rfl⟩ := r
    exact .cons y k (strs_vals t)
/-- len(set(xs)), xs a list of texts -/
def tLenS (K : PySem.W.Frag) (ta : TE) : TE := fun σ H Q => ta σ H fun x H1 => ∃ l, ∃ xs : List Str, x = .ref l ∧ SqL K H1 l (xs.map V.str) ∧ xs.length ≤ 100 ∧ Q (.int (LenS.many xs xs.length : Nat)) H1
theorem pe_lenS {X : Cx} {a : Expr} {ta : TE} {p p2 q pos : Pos} (hg : Gl X "len") (hm : X.mg "len" = none) (hg2 : Gl X "set") (hm2 : X.mg "set" = none) (ha : PE X a ta) (hc : X.calm = true := by rfl)
    (na : starEach [a] X.env = (false, eval a X.env) :: starEach [] X.env := by rfl) : PE X (.Call (.Name "len" p) [.Call (.Name "set" p2) [a] [] q] [] pos) (tLenS X.K ta) := by
  refine ⟨fun pins s σ H Q I h => ?_⟩
  refine Call_ (ld_blt I hg hm boot_len (callWith_builtin1 (args_cons ?_ rfl) rfl rfl))
  refine Call_ (ld_blt I hg2 hm2 boot_set (callWith_type1 (args_cons (thn (ha.run pins s σ H _ I h) fun v s1 ⟨x, H1, I1, r1, q1⟩ => args_nil ?_) na) na rfl))
  obtain ⟨l, xs, rfl, hq, few, q1⟩ := q1
  cases r1
  obtain ⟨its, r, pl, _⟩ := I1.list hq
  refine LenS.make (I1.ok.hd hc) pl.isList (by simpa using strs_vals r) (by unfold scanBound; omega) fun h' tk full keep => args_nil ?_
  obtain ⟨o, es, ep, t, ho, hex, hd, _, _, _, hf, hn⟩ := full
  have I2 : Inv X pins σ H1 { s1 with heap := h', toks := tk } := I1.kept fun b o e => keep b o (Heap.lt_size e) e
  have le := LenS.many_le xs xs.length
  exact call_len_set ho hex hd hf (by rw [hn]; omega) ⟨.int (LenS.many xs xs.length : Nat), H1, I2.tok _, ⟨_, by rw [hn]⟩, q1⟩
end L2
/-! from k03/TkV -/
namespace L2
open PySem PySem.Spec PyProof.Rows
/-! ### try with several clauses that name their error; one of them takes it -/
abbrev Cl := Value × Nat × (Addr → Value → Option Addr → TS)
/-- behind a clause its name is gone -/
def Ends.gone (D : Ends) (i : Nat) : Ends := { nx := fun σ H => D.nx (σ.set i none) H, rt := D.rt, bk := fun σ H => D.bk (σ.set i none) H, ct := fun σ H => D.ct (σ.set i none) H }
def wCl (K : PySem.W.Frag) (D : Ends) : List Cl → WX
  | [] => fun _ _ _ _ => False
  | k :: r => fun cls d σ H => (PySem.W.exmOne K cls k.1 = some true ∧ ∀ a, H a = none → k.2.2 a cls d (D.gone k.2.1) (σ.set k.2.1 (some (.ref a))) H) ∨ (PySem.W.exmOne K cls k.1 = some false ∧ wCl K D r cls d σ H)
inductive ClOk (X : Cx) : List ExceptHandler → List Cl → Prop
  | nil : ClOk X [] []
  | cons {x n : Str} {c : Value} {i : Nat} {ts : Addr → Value → Option Addr → TS} {b : Stmt} {bs : List Stmt} {p p' : Pos} {hs : List ExceptHandler} {l : List Cl} (hc : Names X x c) (hi : X.N[i]? = some n) (hl : X.env.kindOf n = some .local)
      (su : ∀ (a : Addr) (oe : Obj) (cls : Value) (d : Option Addr) (pn : List (Addr × Obj)), Zc cls d oe → (∃ vs, oe.data = .fields vs) → PSs (X.suite a ((a, oe) :: pn)) (b :: bs) (ts a cls d)) (r : ClOk X hs l) :
      ClOk X (.ExceptHandler (some (.Name x p)) (some n) (b :: bs) p' :: hs) ((c, i, ts) :: l)
section
variable {X : Cx}
/-- a caught error, while the clauses are asked -/
structure Caught (X : Cx) (pins : List (Addr × Obj)) (a : Addr) (G : Heap) (s0 s3 : Shared) (σ : St) (H : Hp) (cls : Value) (d : Option Addr) : Prop where
  inv : Inv X pins σ H s0
  nb : ∀ b o, s0.heap.get? b = some o → b ∉ frs X.stack → G.get? b = some o
  up : s0.heap.UpToSlots s3.heap
  fl : HandSPX.FlyingZ G (X.env :: X.outer) a (Zc cls d) s3.heap
  na : H a = none
  os : s3.os = s0.os
  ag : AllBare s3.gens
variable {pins : List (Addr × Obj)} {a : Addr} {G : Heap} {s0 s3 : Shared} {σ : St} {H : Hp} {cls : Value} {d : Option Addr}
theorem Caught.stand (C : Caught X pins a G s0 s3 σ H cls d) (hf : X.env.frame = some X.env.locals) : ∃ oe, Zc cls d oe ∧ (∃ vs, oe.data = .fields vs) ∧ s3.heap.get? a = some oe ∧ Inv X pins σ H s3 ∧ Inv (X.suite a ((a, oe) :: (X.pn ++ pins))) [] σ H s3 := by
  obtain ⟨oe, vs, e1, e2, e3⟩ := C.fl.there
  have nf : a ∉ frs (X.env :: X.outer) := fun m => by
    obtain ⟨_, o2, e4, q⟩ := C.fl.2.2.1.mem m
    have e5 := e1.symm.trans e4
    injection e5 with e5
    exact q _ (e5 ▸ e3)
  have J := C.inv.landed C.nb C.fl.1 C.up C.os C.ag
  refine ⟨oe, e2, ⟨vs, e3⟩, e1, J, J.suite e1 e3 C.na (fun z => nf ?_) (fun m => nf ?_)⟩
  · exact List.mem_filterMap.mpr ⟨X.env, List.mem_cons_self, by rw [hf, z]⟩
  · obtain ⟨v, hv, q⟩ := List.mem_filterMap.mp m
    exact List.mem_filterMap.mpr ⟨v, List.mem_cons_of_mem _ hv, q⟩
theorem Caught.on (C : Caught X pins a G s0 s3 σ H cls d) {h4 : Heap} (f : HandSPX.FlyingZ G (X.env :: X.outer) a (Zc cls d) h4) (u : s3.heap.UpToSlots h4) : Caught X pins a G s0 { s3 with heap := h4 } σ H cls d :=
  ⟨C.inv, C.nb, C.up.trans u, f, C.na, C.os, C.ag⟩
theorem handle_cl {D : Ends} (hf : X.env.frame = some X.env.locals) (nd : X.N.Nodup) : ∀ {hs : List ExceptHandler} {l : List Cl}, ClOk X hs l → ∀ {s3 : Shared}, Caught X pins a G s0 s3 σ H cls d → wCl X.K D l cls d σ H →
    wpAny (model X.prog X.w) X.A (handleBy (.ref a) X.env hs) (SP X pins D) X.xe s3 := by
  intro hs l ok
  induction ok with
  | nil => intro s3 _ w; exact w.elim
  | @cons x n c i ts b bs p p' hs l hc hi hl su r ih =>
    intro s3 C w
    obtain ⟨oe, z, hv, e1, J, S⟩ := C.stand hf
    refine wpAny_handleBy_cons (codeAny_handlers_test ?_) (fun q => nomatch q)
    have ty : PySem.W.Looks (model X.prog X.w) s3.heap (typeOf (.ref a)) cls := fun A Q E s k q => wpAny_typeOf_ref (k _ _ e1) (by rw [z.1]; exact q)
    have ask : ∀ {Q : Value → Shared → Prop} {E : Value → Shared → Prop}, Q c s3 → wpAny (model X.prog X.w) (X.A.mark (some (.ref a))) (eval (.Name x p) X.env) Q E s3 := fun {Q E} q => by
      obtain ⟨g1, g2, g3 | ⟨g3, g4, g5⟩⟩ := hc
      · exact ld_glob (X := X.suite a ((a, oe) :: (X.pn ++ pins))) S g1 g3 q g2
      · exact ld_blt (X := X.suite a ((a, oe) :: (X.pn ++ pins))) S g1 g3 g4 q g5 g2
    rcases w with ⟨yes, go⟩ | ⟨no, w⟩
    · refine ask ((PySem.W.exm_one (M := model X.prog X.w) J.kIn ty yes).here (codeAny_handlers_suite_as (HandSPX.lands_againZ C.fl fun h4 f u => ?_)))
      obtain ⟨oe4, z4, hv4, e4, J4, S4⟩ := (C.on f u).stand hf
      refine store_ok (X := X.suite a ((a, oe4) :: (X.pn ++ pins))) (v := .ref a) S4 nd hi (.inl hl) rfl (fun s5 S5 => ?_) (.inr hl)
      have last : ∀ {σ6 : St} {H6 : Hp} {s6 : Shared} {Q : Shared → Prop}, Inv (X.suite a ((a, oe4) :: (X.pn ++ pins))) [] σ6 H6 s6 → (∀ s7, Inv X pins (σ6.set i none) H6 s7 → Q s7) →
          wpAny (model X.prog X.w) X.A (do bindName X.env n .none; unbindBehindTheSuite X.env n p') (fun _ s7 => Q s7) X.xe s6 := fun {σ6 H6 s6 Q} T q => gone_ok (T.unsuite J.ok) nd hi hl q
      refine wpAny_mono ((su a oe4 cls d (X.pn ++ pins) z4 hv4).run [] s5 _ H (D.gone i) S5 (go a C.na)) (fun f6 s6 q6 => ?_) (fun _ _ y => False.elim y)
      match f6, q6 with
      | .next, ⟨_, _, T, y⟩ => exact last T fun _ I7 => ⟨_, _, I7, y⟩
      | .brk, ⟨_, _, T, y⟩ => exact last T fun _ I7 => ⟨_, _, I7, y⟩
      | .cont, ⟨_, _, T, y⟩ => exact last T fun _ I7 => ⟨_, _, I7, y⟩
      | .ret _, ⟨_, _, _, T, rv, y⟩ => exact last T fun _ I7 => ⟨_, _, _, I7, rv, y⟩
    · exact ask ((PySem.W.exm_one (M := model X.prog X.w) J.kIn ty no).here (ih C w))
theorem ps_try_cl {body : List Stmt} {h : ExceptHandler} {hs : List ExceptHandler} {l : List Cl} {pos : Pos} {tb : WX → TS} (st : X.stack = X.env :: X.outer) (hf : X.env.frame = some X.env.locals) (nd : X.N.Nodup)
    (hb : ∀ (W : WX) (pn : List (Addr × Obj)) (xe : Value → Shared → Prop), Takes (X.tr pn xe) W → PassesOwn (model X.prog X.w) X.A X.env xe → PSs (X.tr pn xe) body (tb W)) (ok : ClOk X (h :: hs) l) :
    PS X (.Try body (h :: hs) [] [] pos) (fun D σ H => tb (wCl X.K D l) D σ H) := by
  refine ⟨fun pins s σ H D I r => wpAny_Try_except ?_⟩
  refine wpAny_mono ((hb (wCl X.K D l) (X.pn ++ pins) _ (fun u s1 xx => ?_) PassesOwn.looking).run [] s σ H D (I.toTry _) r) (fun f s1 q => ?_) (fun _ _ y => y)
  · obtain ⟨a, G, s0, pins1, σ1, H1, cls, d, rfl, I1, nb, up, sky, na, os, ag, w⟩ := xx
    have fr : X.A.frames = some (X.env :: X.outer) := by rw [I.ok.frames, st]
    have sky1 : Sky G (X.env :: X.outer) a (Zc cls d) X.env.locals s1.heap := by rw [← st]; exact sky
    exact Sky.land Zc.steady fr hf sky1 fun h3 f3 u3 => handle_cl hf nd ok ⟨I1.ofTry I.ok, nb, up.trans u3, f3, na, os, ag⟩ w
  · match f, q with
    | .next, ⟨_, _, I1, y⟩ => exact wpAny_execs_nil ⟨_, _, I1.ofTry I.ok, y⟩
    | .brk, ⟨_, _, I1, y⟩ => exact ⟨_, _, I1.ofTry I.ok, y⟩
    | .cont, ⟨_, _, I1, y⟩ => exact ⟨_, _, I1.ofTry I.ok, y⟩
    | .ret _, ⟨_, _, _, I1, rv, y⟩ => exact ⟨_, _, _, I1.ofTry I.ok, rv, y⟩
end
end L2
set_option maxRecDepth 100000
/-! Objects over the plain data: fields, methods, a new object. -/
namespace Mm
open PySem L2
/-! ## fields -/
theorem lookup_zip {α : Type} : ∀ {fs : List Str} {xs : List α} {i : Nat} {f : Str} {x : α}, fs.Nodup → fs[i]? = some f → xs[i]? = some x → (fs.zip xs).lookup f = some x
  | [], xs, i, f, x, nd, h1, h2 => by simp at h1
  | g :: fs, [], i, f, x, nd, h1, h2 => by simp at h2
  | g :: fs, y :: xs, 0, f, x, nd, h1, h2 => by
    have e1 : g = f := Option.some.inj h1
    have e2 : y = x := Option.some.inj h2
    subst e1; subst e2
    rw [List.zip_cons_cons, List.lookup_cons_self]
  | g :: fs, y :: xs, i + 1, f, x, nd, h1, h2 => by
    rw [List.zip_cons_cons]
    have nd' := List.nodup_cons.mp nd
    have hm : f ∈ fs := List.mem_of_getElem? (i := i) h1
    have ne : (f == g) = false := beq_eq_false_iff_ne.mpr fun e => nd'.1 (e ▸ hm)
    rw [List.lookup_cons, ne]
    exact lookup_zip (i := i) nd'.2 h1 h2
theorem lookup_not {α : Type} : ∀ {fs : List Str} {xs : List α} {f : Str}, f ∉ fs → (fs.zip xs).lookup f = none
  | [], xs, f, h => rfl
  | g :: fs, [], f, h => rfl
  | g :: fs, y :: xs, f, h => by
    have ne : (f == g) = false := beq_eq_false_iff_ne.mpr fun e => h (by rw [e]; exact List.mem_cons_self)
    rw [List.zip_cons_cons, List.lookup_cons, ne]
    exact lookup_not fun z => h (List.mem_cons_of_mem _ z)
theorem putF_zip {v : V} : ∀ {fs : List Str} {xs : List V} {i : Nat} {f : Str}, fs.Nodup → fs[i]? = some f → i ≤ xs.length → putF f v (fs.zip xs) = fs.zip (if i < xs.length then xs.set i v else xs ++ [v])
  | [], xs, i, f, nd, h1, h2 => by simp at h1
  | g :: fs, [], 0, f, nd, h1, h2 => by
    have e1 : g = f := Option.some.inj h1
    subst e1
    cases fs <;> rfl
  | g :: fs, [], i + 1, f, nd, h1, h2 => by simp at h2
  | g :: fs, y :: xs, 0, f, nd, h1, h2 => by
    have e1 : g = f := Option.some.inj h1
    subst e1
    rw [List.zip_cons_cons, if_pos (by simp), List.set_cons_zero, List.zip_cons_cons]
    show (if g = g then (g, v) :: fs.zip xs else (g, y) :: putF g v (fs.zip xs)) = _
    rw [if_pos rfl]
  | g :: fs, y :: xs, i + 1, f, nd, h1, h2 => by
    have nd' := List.nodup_cons.mp nd
    have hm : f ∈ fs := List.mem_of_getElem? (i := i) h1
    have ne : g ≠ f := fun e => nd'.1 (by rw [e]; exact hm)
    rw [List.zip_cons_cons]
    show (if g = f then (g, v) :: fs.zip xs else (g, y) :: putF f v (fs.zip xs)) = _
    rw [if_neg ne, putF_zip (i := i) nd'.2 h1 (by simpa using h2)]
    by_cases hi : i < xs.length
    · rw [if_pos hi, if_pos (by simpa using hi), List.set_cons_succ, List.zip_cons_cons]
    · rw [if_neg hi, if_neg (by simpa using hi), List.cons_append, List.zip_cons_cons]
/-- the field f stands at place i of the class k -/
structure HasF (K : PySem.W.Frag) (Γ : Cls') (k i : Nat) (f : Str) : Prop where
  ok : ∀ C, Γ.at_ k = some C → Cls K C ∧ NoAttr K C f
  at_ : (Γ.fs k)[i]? = some f
  nd : (Γ.fs k).Nodup
  few : (Γ.fs k).length < 1000
section
variable {w : Wn} {W : WX} {σ : St} {c c' : Cn} {H H' : Hp} {n n' : Nat} {S : Sto} {env : Env}
variable {Γ : Cls'} {X : Cx} {a b e o tg : Expr} {es : List Expr} {ma mb mo : EM} {am : AM} {pos : Pos} {Dn : Ends}
/-- an instance: unchangeable, or in the store -/
def insOf (S : Sto) (d : D) : Option (Nat × List D) := match d with
  | .obj k ds => some (k, ds)
  | .loc j => match S[j]? with
    | some (.ins k ds) => some (k, ds)
    | _ => none
  | _ => none
@[simp] theorem insOf_obj (S : Sto) (k : Nat) (ds : List D) : insOf S (.obj k ds) = some (k, ds) := rfl
theorem insOf_loc {S : Sto} {j k : Nat} {ds : List D} (h : S[j]? = some (.ins k ds)) : insOf S (.loc j) = some (k, ds) := by
  unfold insOf; simp only [h]
theorem insOf_at {d : D} {v : V} {k : Nat} {ds : List D} (r : Rep w c H S) (at_ : At w c H S.length d v) (h : insOf S d = some (k, ds)) :
    ∃ p vs C dx, v = .ref p ∧ w.Γ.at_ k = some C ∧ vs.length ≤ (w.Γ.fs k).length ∧ H p = some (.ins C dx ((w.Γ.fs k).zip vs)) ∧ Ats w c H S.length ds vs := by
  cases d with
  | obj k' es =>
    cases h
    unfold At at at_
    obtain ⟨p, vs, C, dx, e, f, g, l, s, t⟩ := at_
    exact ⟨p, vs, C, dx, e, g, l, s, t⟩
  | loc j =>
    unfold insOf at h
    cases hj : S[j]? with
    | none => simp only [hj] at h; cases h
    | some o =>
      cases o with
      | ins k' es =>
        simp only [hj] at h
        cases h
        unfold At at at_
        obtain ⟨vs, C, dx, g, l, s, t⟩ := r.get hj
        exact ⟨_, vs, C, dx, at_.2, g, l, s, t⟩
      | _ => simp only [hj] at h; cases h
  | _ => cases h
/-- cs: the classes that may stand there, and the field's place in each -/
def fldD (cs : List (Nat × Nat)) (d : D) (S : Sto) : Option D := (insOf S d).bind fun p => (cs.lookup p.1).bind fun i => p.2[i]?
def e_fld (cs : List (Nat × Nat)) (m : EM) : EM := fun env S => (m env S).bind fun d S1 => .ofO (fldD cs d S1) S1
theorem mem_of_lookup {α β : Type} [BEq α] [LawfulBEq α] {k : α} {v : β} : ∀ {l : List (α × β)}, l.lookup k = some v → (k, v) ∈ l
  | [], h => by cases h
  | (j, u) :: r, h => by
    rw [List.lookup_cons] at h
    cases e : (k == j) with
    | true =>
      rw [e] at h; cases h
      rw [eq_of_beq e]; exact List.mem_cons_self
    | false => rw [e] at h; exact List.mem_cons_of_mem _ (mem_of_lookup h)
theorem c_fld {cs : List (Nat × Nat)} {f : Str} (hF : ∀ p ∈ cs, HasF X.K Γ p.1 p.2 f) (he : CE Γ X W e ma) (hb : attributeBase e f X.env (eval e X.env) = eval e X.env := by rfl) : CE Γ X W (.Attribute e f pos) (e_fld cs ma) := by
  refine PE.weak (pe_fld he hb) fun σ H Q ⟨c, env, S, r, ev, h⟩ => ?_
  refine ⟨c, env, S, r, ev, (Po.bind h).imp fun v H1 ⟨c1, S1, d1, e1, r1, a1, h1⟩ => ?_⟩
  obtain ⟨y, hy, h1⟩ := Po.ofO h1
  unfold fldD at hy
  cases hi : insOf S1 d1 with
  | none => rw [hi] at hy; cases hy
  | some p =>
    obtain ⟨k, ds⟩ := p
    rw [hi] at hy
    cases hl : cs.lookup k with
    | none => simp only [Option.bind_some, hl] at hy; cases hy
    | some i =>
      simp only [Option.bind_some, hl] at hy
      obtain ⟨q, vs, C, dx, rfl, g, l, s, t⟩ := insOf_at r1 a1 hi
      have F := hF (k, i) (mem_of_lookup hl)
      obtain ⟨u, hu, au⟩ := t.get hy
      exact ⟨q, C, dx, _, u, rfl, s, (F.ok C g).1, (F.ok C g).2, lookup_zip F.nd F.at_ hu, fin_ok h1 r1 au⟩
/-- o.f = e -/
def setF (cs : List (Nat × Nat)) (d z : D) (S : Sto) : Option Sto := match d with
  | .loc j => match S[j]? with
    | some (.ins k ds) => (cs.lookup k).bind fun i => if i < ds.length then some (S.set j (.ins k (ds.set i z))) else if i = ds.length then some (S.set j (.ins k (ds ++ [z]))) else none
    | _ => none
  | _ => none
theorem setF_loc {cs : List (Nat × Nat)} {S : Sto} {j k i : Nat} {ds : List D} {z : D} (h : S[j]? = some (.ins k ds)) (hc : cs.lookup k = some i) (hi : i ≤ ds.length) :
    setF cs (.loc j) z S = some (S.set j (.ins k (if i < ds.length then ds.set i z else ds ++ [z]))) := by
  unfold setF
  simp only [h, hc, Option.bind_some]
  by_cases hl : i < ds.length
  · rw [if_pos hl, if_pos hl]
  · rw [if_neg hl, if_neg hl, if_pos (by omega)]
theorem setF_at {cs : List (Nat × Nat)} {f : Str} {d z : D} {v u : V} {S' : Sto} (hF : ∀ p ∈ cs, HasF w.K w.Γ p.1 p.2 f) (r : Rep w c H S) (a1 : At w c H S.length d v) (a2 : At w c H S.length z u) (h : setF cs d z S = some S') :
    ∃ p C dx fs k, v = .ref p ∧ (∃ i, (k, i) ∈ cs) ∧ w.Γ.at_ k = some C ∧ H p = some (.ins C dx fs) ∧ Cls w.K C ∧ NoAttr w.K C f ∧ fs.length < 1000 ∧ S'.length = S.length ∧ Ext c H S.length c (upd H p (.ins C dx (putF f u fs))) S.length ∧ Rep w c (upd H p (.ins C dx (putF f u fs))) S' := by
  cases d with
  | loc j =>
    unfold setF at h
    cases hj : S[j]? with
    | none => simp only [hj] at h; cases h
    | some ob =>
      cases ob with
      | ins k ds =>
        simp only [hj] at h
        cases hl : cs.lookup k with
        | none => rw [hl] at h; cases h
        | some i =>
          rw [hl, Option.bind_some] at h
          unfold At at a1
          obtain ⟨vs, C, dx, g, l, s, t⟩ := r.get hj
          have F := hF (k, i) (mem_of_lookup hl)
          have few : ((w.Γ.fs k).zip vs).length < 1000 := by rw [List.length_zip]; exact Nat.lt_of_le_of_lt (Nat.min_le_left _ _) F.few
          refine ⟨c.ρ j, C, dx, _, k, a1.2, ⟨i, mem_of_lookup hl⟩, g, s, (F.ok C g).1, (F.ok C g).2, few, ?_⟩
          have fin : ∀ ds', (ds' = if i < ds.length then ds.set i z else ds ++ [z]) → i ≤ ds.length → S' = S.set j (.ins k ds') →
              S'.length = S.length ∧ Ext c H S.length c (upd H (c.ρ j) (.ins C dx (putF f u ((w.Γ.fs k).zip vs)))) S.length ∧ Rep w c (upd H (c.ρ j) (.ins C dx (putF f u ((w.Γ.fs k).zip vs)))) S' := fun ds' e hi es => by
            have il : i < (w.Γ.fs k).length := (List.getElem?_eq_some_iff.mp F.at_).1
            have ex := Ext.wr r (o := .ins C dx (putF f u ((w.Γ.fs k).zip vs))) a1.1 ⟨_, s, trivial⟩
            subst es
            refine ⟨List.length_set, ex, Rep.wr r a1.1 ⟨_, s, trivial⟩ ⟨if i < vs.length then vs.set i u else vs ++ [u], C, dx, g, ?_, ?_, ?_⟩⟩
            · split
              · rw [List.length_set]; exact l
              · rename_i hn
                rw [List.length_append, List.length_singleton]
                have := t.len; omega
            · rw [upd_same, putF_zip F.nd F.at_ (by rw [t.len]; exact hi)]
            · rw [e, t.len]
              split
              · exact (t.set a2 i).mono ex
              · exact (t.app (.one a2)).mono ex
          by_cases h1 : i < ds.length
          · rw [if_pos h1] at h
            exact fin _ (by rw [if_pos h1]) (Nat.le_of_lt h1) (Option.some.inj h).symm
          · rw [if_neg h1] at h
            by_cases h2 : i = ds.length
            · rw [if_pos h2] at h
              exact fin _ (by rw [if_neg h1]) (Nat.le_of_eq h2) (Option.some.inj h).symm
            · rw [if_neg h2] at h; cases h
      | _ => simp only [hj] at h; cases h
  | _ => cases h
def s_fld (cs : List (Nat × Nat)) (mo mv : EM) : SM := fun env S => (mv env S).toS env fun z S1 => (mo env S1).toS env fun d S2 => match setF cs d z S2 with
  | some S3 => .next env S3
  | none => .bad
theorem c_sfld {cs : List (Nat × Nat)} {f : Str} {p' : Pos} (hF : ∀ p ∈ cs, HasF X.K Γ p.1 p.2 f) (ho : CE Γ X W o mo) (hv : CE Γ X W e ma) (hs : swapsWith e (some (.Attribute o f p')) pos.line X.env = pure false := by rfl) : CS Γ X W (.Assign [.Attribute o f p'] e pos) (s_fld cs mo ma) := by
  refine PS.weak (ps_fld ho hv hs) fun Dn σ H ⟨c, env, S, r, ev, h⟩ => ?_
  refine ⟨c, env, S, r, ev, (PoS.part ev h).imp fun v H1 ⟨c1, S1, d1, e1, r1, a1, ev1, h1⟩ => ?_⟩
  refine ⟨c1, env, S1, r1, ev1, (PoS.part ev1 h1).imp fun v2 H2 ⟨c2, S2, d2, e2, r2, a2, ev2, h2⟩ => ?_⟩
  cases hs : setF cs d2 d1 S2 with
  | none => simp only [hs] at h2; exact h2.elim
  | some S3 =>
    simp only [hs] at h2
    obtain ⟨p, C, dx, fs, _, rfl, _, _, s, cl, na, few, hl, ex, rr⟩ := setF_at hF r2 a2 (a1.mono e2) hs
    exact ⟨p, C, dx, fs, rfl, s, cl, na, few, h2 c2 _ σ (by rw [hl]; exact ex) rr (by rw [hl]; exact ev2.mono ex)⟩
/-- o.f op= e, two ints, o of the class k -/
def s_fldaug (k i : Nat) (g : Int → Int → Int) (mo mv : EM) : SM := fun env S => (mo env S).toS env fun d S1 => (R.ofO (fldD [(k, i)] d S1) S1).toS env fun x S2 => (mv env S2).toS env fun y S3 => match x, y with
  | .int i1, .int j1 => match setF [(k, i)] d (.int (g i1 j1)) S3 with
    | some S4 => .next env S4
    | none => .bad
  | _, _ => .bad
theorem c_fldaug {k i : Nat} {f : Str} {op : Operator} {g : Int → Int → Int} {tp : Pos} (hop : InOp X op fun x y H Q => ∃ i j, x = .int i ∧ y = .int j ∧ Q (.int (g i j)) H) (F : HasF X.K Γ k i f) (ho : CE Γ X W o mo) (hv : CE Γ X W e ma) : CS Γ X W (.AugAssign (.Attribute o f tp) op e pos) (s_fldaug k i g mo ma) := by
  have hF : ∀ p ∈ [(k, i)], HasF X.K Γ p.1 p.2 f := fun p hp => by rw [List.mem_singleton.mp hp]; exact F
  refine PS.weak (ps_fldaug ho hv hop) fun Dn σ H ⟨c, env, S, r, ev, h⟩ => ?_
  refine ⟨c, env, S, r, ev, (PoS.part ev h).imp fun v H1 ⟨c1, S1, d1, e1, r1, a1, ev1, h1⟩ => ?_⟩
  cases hy : fldD [(k, i)] d1 S1 with
  | none => rw [hy] at h1; exact h1.elim
  | some x =>
    rw [hy, R.ofO_some, R.toS_ok] at h1
    unfold fldD at hy
    cases hi : insOf S1 d1 with
    | none => rw [hi] at hy; cases hy
    | some p =>
      obtain ⟨k', ds⟩ := p
      rw [hi, Option.bind_some] at hy
      by_cases ek : k' = k
      · subst ek
        rw [List.lookup_cons_self, Option.bind_some] at hy
        obtain ⟨q, vs, C, dx, rfl, gk, l, s, t⟩ := insOf_at r1 a1 hi
        obtain ⟨u, hu, au⟩ := t.get hy
        refine ⟨q, C, dx, _, u, rfl, s, (F.ok C gk).1, (F.ok C gk).2, lookup_zip F.nd F.at_ hu, c1, env, S1, r1, ev1, (PoS.part ev1 h1).imp fun v2 H2 ⟨c2, S2, d2, e2, r2, a2, ev2, h2⟩ => ?_⟩
        cases x with
        | int i1 =>
          cases d2 with
          | int j1 =>
            dsimp only at h2
            cases hs : setF [(k', i)] d1 (.int (g i1 j1)) S2 with
            | none => rw [hs] at h2; exact h2.elim
            | some S3 =>
              rw [hs] at h2
              obtain ⟨p, C', dx', fs', k2, ep, ⟨i2, hm⟩, g2, s', cl, na, few, hl', ex, rr⟩ := setF_at (w := ⟨X.K, Γ⟩) hF r2 (a1.mono e2) (.i (g i1 j1)) hs
              cases ep
              cases List.mem_singleton.mp hm
              rw [gk] at g2
              cases g2
              refine ⟨i1, j1, au.int, a2.int, dx', fs', s', few, ?_⟩
              exact h2 c2 _ σ (by rw [hl']; exact ex) rr (by rw [hl']; exact ev2.mono ex)
          | _ => exact h2.elim
        | _ => cases d2 <;> exact h2.elim
      · have : (k' == k) = false := beq_eq_false_iff_ne.mpr ek
        rw [List.lookup_cons, this] at hy
        cases hy
/-! ## methods -/
/-- the class k has the method x, which is m -/
structure Dm (P : Program) (wd : World) (K : PySem.W.Frag) (mg : Str → Option Value) (base : Heap) (Γ : Cls') (k : Nat) (x : Str) (lv : Nat) (m : FM) : Prop where
  ex : ∃ (C f : Addr) (fd : FuncData) (ps : List Str), Γ.at_ k = some C ∧ Cls K C ∧ Meth K C x f ∧ FnOk P wd K mg base (L2.CX P wd) lv f fd ps (spM K Γ m) ∧ Binds K fd ps []
  nf : x ∉ Γ.fs k
def isI (k : Nat) (d : D) (S : Sto) : Prop := ∃ ds, insOf S d = some (k, ds)
theorem isI_loc {k j : Nat} {ds : List D} {S : Sto} (h : S[j]? = some (.ins k ds)) : isI k (.loc j) S := ⟨ds, insOf_loc h⟩
open Classical in
noncomputable def e_mth (tr : TrF) (k : Nat) (m : FM) (mo : EM) (am : AM) : EM := fun env S => (mo env S).bind fun d S1 => .if (isI k d S1) ((am env S1).bind fun ds S2 => tr S2 (m (d :: ds) S2))
open Classical in
theorem mth_read {k : Nat} {x : Str} {m : FM} {C : Addr} {tr : TrF} {σ : St} {H : Hp} {Q : VK} (ht : TrOk tr) (gC : Γ.at_ k = some C) (nf : x ∉ Γ.fs k) (h : mE ⟨X.K, Γ⟩ W (e_mth tr k m mo am) σ H Q) : tMethXS C x (spM X.K Γ m) (fun σ => WE W σ) (mE ⟨X.K, Γ⟩ W mo) (mA ⟨X.K, Γ⟩ W am) σ H Q := by
  obtain ⟨c, env, S, r, ev, h⟩ := h
  refine ⟨c, env, S, r, ev, (Po.bind h).imp fun v H1 ⟨c1, S1, d1, e1, r1, a1, h1⟩ => ?_⟩
  obtain ⟨⟨ds, hi⟩, h1⟩ := Po.if h1
  obtain ⟨p, vs, C', dx, rfl, g, l, s, t⟩ := insOf_at r1 a1 hi
  rw [gC] at g; cases g
  refine ⟨p, dx, _, rfl, s, lookup_not nf, c1, env, S1, r1, ev.mono e1, (Po.bind h1).imp fun us H2 ⟨c2, S2, es, e2, r2, a2, h2⟩ => ?_⟩
  exact ⟨c2, S2, d1 :: es, r2, .cons (a1.mono e2) a2, (ht _ _ _ _ _ _ _ _ r2 h2).wish fun _ _ _ z => z⟩
theorem c_mth {k lv : Nat} {x : Str} {m : FM} {apos : Pos} {pl : Sem Bool} {tr : TrF} (tok : TrOk tr) (G : Dm X.prog X.w X.K X.mg X.base Γ k x lv m) (go : Goes X W) (hr : Room lv X.A) (ho : CE Γ X W o mo) (ha : CA Γ X W (e :: es) am)
    (ht : eval (.Call (.Attribute o x apos) (e :: es) [] pos) X.env = mcall X o x apos pos (e :: es) pl := by rfl) (h1 : starEach (e :: es) X.env = (false, eval e X.env) :: starEach es X.env := by rfl) (h2 : (backTo pos (starEach es X.env)).any (·.1) = false := by rfl) :
    CE Γ X W (.Call (.Attribute o x apos) (e :: es) [] pos) (e_mth tr k m mo am) := by
  obtain ⟨C, f, fd, ps, gC, cl, me, F, hb⟩ := G.ex
  exact PE.weak (pe_methXS (E := fun σ => WE W σ) ho cl me F hr hb go ha ht h1 h2) fun σ H Q h => mth_read tok gC G.nf h
end
end Mm
namespace L2
open PySem PySem.Spec PyProof.Rows
section
variable {X : Cx} {CX : CXT} {k : Nat} {f C : Addr} {fd : FuncData} {ps : List Str} {sp : Sp} {E : St → XK} {m x : Str} {pos apos p : Pos} {o : Expr} {ta : TE}
/-- o.m(), where an error may come out -/
theorem pe_methXS0 {pl : Sem Bool} (he : PE X o ta) (c : Cls X.K C) (hm : Meth X.K C m f) (F : FnOk X.prog X.w X.K X.mg X.base CX k f fd ps sp) (hr : Room k X.A) (hb : Binds X.K fd ps []) (hx : ∀ σ, PassesAt CX X σ (E σ))
    (ht : eval (.Call (.Attribute o m apos) [] [] pos) X.env = mcall X o m apos pos [] pl := by rfl) : PE X (.Call (.Attribute o m apos) [] [] pos) (tMethXS C m sp E ta tNil) := by
  constructor
  intro pins s σ H Q I h
  refine PySem.W.methodCall_KW (pl := pl) (thn (he.run pins s σ H _ I h) fun u s1 q => ?_) ht
  obtain ⟨_, H1, I1, ru, a, dx, fs, rfl, ea, l, q⟩ := q
  have eu : u = Value.ref a := ru
  subst eu
  refine getmeth_ok I1 ea c hm l ?_
  exact PySem.W.callWith_K0 (first := [.ref a]) I1.kIn hm.kp (run_fnS (us := [.ref a]) (vs := [.ref a]) F hr hb (hx σ) I1 (.cons rfl .nil) q)
/-- C(), where an error may come out of its __init__ -/
theorem pe_makeS0 (M : Mk X.K C f) (F : FnOk X.prog X.w X.K X.mg X.base CX k f fd ps sp) (hr : Room (k + 1) X.A) (hg : Gl X x) (hm : X.mg x = some (.ref C)) (hb : Binds X.K fd ps []) (hx : ∀ σ, PassesAt CX X σ (E σ))
    (hdb : (x == ("__debug__" : Str)) = false := by decide) : PE X (.Call (.Name x p) [] [] pos) (tMakeS C sp E tNil) := by
  constructor
  intro pins s σ H Q I q
  refine wpAny_Call_Name_kw (ld_glob I hg hm ?_ hdb)
  refine PySem.W.callWith_K0 I.kIn M.kp ?_
  have q1 := q (s.heap.objs.size + 1) s.heap.objs.size (I.hok.fresh (Nat.le_succ _)) (I.hok.fresh (Nat.le_refl _)) (Nat.ne_of_lt (Nat.lt_succ_self _))
  have J2 := Inv.made (C := C) I
  have rr : Vals (V.ref (s.heap.objs.size + 1) :: []) (Value.ref (s.heap.objs.size + 1) :: []) := .cons rfl .nil
  have hl : (Value.ref (s.heap.objs.size + 1) :: [] ++ []).length = ps.length := by
    rw [List.append_nil, ← rr.length]; exact F.len _ _ _ _ q1
  have bd := hb _ (Value.ref (s.heap.objs.size + 1) :: []) J2.kIn hl
  rw [List.append_nil] at bd
  refine wpAny_call (make_map (f := f) I.kIn M.makes M.init (beq_iff_eq.mp M.fn) (codeAny_mono (F.run _ X.stack _ _ ⟨Value.ref (s.heap.objs.size + 1) :: [], []⟩ _ _ _ (E σ) (hr.make C [] []) (J2.env0.make C [] []) bd rr q1) fun res s' hq => ?_))
  match res, hq with
  | .error err, hq => exact hx σ pins _ _ err s' J2 hq
  | .ok (.ret u), hq =>
    obtain ⟨v, H', J3, rv, ev, q3⟩ := J2.after hq
    subst ev
    exact ⟨rv, ⟨V.ref (s.heap.objs.size + 1), H', J3, rfl, q3⟩⟩
end
end L2
namespace Mm
open PySem L2
section
variable {w : Wn} {W : WX} {σ : St} {c c' : Cn} {H H' : Hp} {n n' : Nat} {S : Sto} {env : Env}
variable {Γ : Cls'} {X : Cx} {a b e o tg : Expr} {es : List Expr} {ma mb mo : EM} {am : AM} {pos : Pos} {Dn : Ends}
theorem ca_nil_read {Q : List V → Hp → Prop} (h : mA w W a_nil σ H Q) : tNil σ H Q := by
  obtain ⟨c, env, S, r, ev, h⟩ := h
  exact h c H [] Ext.refl r .nil
theorem tMethXS_nil {C : Addr} {x : Str} {sp : Sp} {E : St → XK} {m : EM} {Q : VK} (h : tMethXS C x sp E (mE w W m) (mA w W a_nil) σ H Q) : tMethXS C x sp E (mE w W m) tNil σ H Q := by
  obtain ⟨c, env, S, r, ev, h⟩ := h
  exact ⟨c, env, S, r, ev, h.imp fun v H ⟨a, dx, fs, h1, h2, h3, h4⟩ => ⟨a, dx, fs, h1, h2, h3, ca_nil_read h4⟩⟩
theorem mE.imp {m : EM} {Q Q' : VK} (i : ∀ v H, Q v H → Q' v H) (h : mE w W m σ H Q) : mE w W m σ H Q' := by
  obtain ⟨c, env, S, r, ev, h⟩ := h
  exact ⟨c, env, S, r, ev, h.imp i⟩
theorem c_mth0 {k lv : Nat} {x : Str} {m : FM} {apos : Pos} {pl : Sem Bool} {tr : TrF} (tok : TrOk tr) (G : Dm X.prog X.w X.K X.mg X.base Γ k x lv m) (go : Goes X W) (hr : Room lv X.A) (ho : CE Γ X W o mo)
    (ht : eval (.Call (.Attribute o x apos) [] [] pos) X.env = mcall X o x apos pos [] pl := by rfl) : CE Γ X W (.Call (.Attribute o x apos) [] [] pos) (e_mth tr k m mo a_nil) := by
  obtain ⟨C, f, fd, ps, gC, cl, me, F, hb⟩ := G.ex
  exact PE.weak (pe_methXS0 (E := fun σ => WE W σ) ho cl me F hr hb go ht) fun σ H Q h => tMethXS_nil (mth_read tok gC G.nf h)
/-! ## a new object -/
/-- the class k stands under its name; its __init__ is m -/
structure Dk (P : Program) (wd : World) (K : PySem.W.Frag) (mg : Str → Option Value) (base : Heap) (Γ : Cls') (k : Nat) (x : Str) (lv : Nat) (m : FM) : Prop where
  ex : ∃ (C f : Addr) (fd : FuncData) (ps : List Str), Γ.at_ k = some C ∧ mg x = some (.ref C) ∧ Mk K C f ∧ FnOk P wd K mg base (L2.CX P wd) lv f fd ps (spM K Γ m) ∧ Binds K fd ps []
def mkD (k : Nat) (m : FM) (ds : List D) (S : Sto) : R D := (m (.loc S.length :: ds) (S ++ [.ins k []])).bind fun d S2 => match d with
  | .non => .ok (.loc S.length) S2
  | _ => .bad
def e_mk (tr : TrF) (k : Nat) (m : FM) (am : AM) : EM := fun env S => (am env S).bind fun ds S1 => tr S1 (mkD k m ds S1)
/-- a new instance without fields -/
theorem mk_start {k : Nat} {C x dx : Addr} {ds : List D} {vs : List V} (r : Rep w c H S) (gC : w.Γ.at_ k = some C) (t : Ats w c H S.length ds vs) (hx : H x = none) (hd : H dx = none) (ne : dx ≠ x) :
    Ext c H S.length (c.nw S.length x) (upd (upd H dx (.own x)) x (.ins C dx [])) (S ++ [SO.ins k []]).length ∧ Rep w (c.nw S.length x) (upd (upd H dx (.own x)) x (.ins C dx [])) (S ++ [.ins k []]) ∧
      Ats w (c.nw S.length x) (upd (upd H dx (.own x)) x (.ins C dx [])) (S ++ [SO.ins k []]).length (.loc S.length :: ds) (.ref x :: vs) := by
  have hl : (S ++ [SO.ins k []]).length = S.length + 1 := by rw [List.length_append]; rfl
  have e1 : Ext c H S.length c (upd H dx (.own x)) S.length := Ext.grow hd
  have r1 : Rep w c (upd H dx (.own x)) S := r.grow hd
  have hx1 : (upd H dx (.own x)) x = none := by rw [upd_ne (Ne.symm ne)]; exact hx
  have e2 : Ext c (upd H dx (.own x)) S.length (c.nw S.length x) (upd (upd H dx (.own x)) x (.ins C dx [])) (S.length + 1) := Ext.nw hx1
  rw [hl]
  refine ⟨e1.trans e2, r1.nw hx1 ⟨[], C, dx, gC, Nat.zero_le _, by rw [upd_same, List.zip_nil_right], .nil⟩, .cons ?_ (t.mono (e1.trans e2))⟩
  unfold At
  exact ⟨Nat.lt_succ_self _, by rw [Cn.nw_at]⟩
theorem mk_read {k : Nat} {m : FM} {C : Addr} {tr : TrF} {σ : St} {H : Hp} {Q : VK} (ht : TrOk tr) (gC : Γ.at_ k = some C) (h : mE ⟨X.K, Γ⟩ W (e_mk tr k m am) σ H Q) : tMakeS C (spM X.K Γ m) (fun σ => WE W σ) (mA ⟨X.K, Γ⟩ W am) σ H Q := by
  obtain ⟨c, env, S, r, ev, h⟩ := h
  refine ⟨c, env, S, r, ev, (Po.bind h).imp fun vs H1 ⟨c1, S1, ds, e1, r1, a1, h1⟩ x dx hx hd ne => ?_⟩
  obtain ⟨e2, r2, t2⟩ := mk_start (w := ⟨X.K, Γ⟩) r1 gC a1 hx hd ne
  have h2 := Po.mono e2 (ht _ _ _ _ _ _ _ _ r1 h1)
  refine ⟨_, _, _, r2, t2, ?_⟩
  refine Po.wish ((Po.bind h2).imp fun v H3 ⟨c3, S3, d3, e3, r3, a3, h3⟩ => ?_) fun _ _ _ z => z
  cases d3 with
  | non =>
    refine ⟨a3.non, h3 c3 H3 _ Ext.refl r3 ?_⟩
    have hl : (S1 ++ [SO.ins k []]).length = S1.length + 1 := by rw [List.length_append]; rfl
    unfold At
    have hlt : S1.length < (S1 ++ [SO.ins k []]).length := by rw [hl]; exact Nat.lt_succ_self _
    exact ⟨Nat.lt_of_lt_of_le hlt e3.le, by rw [e3.rho _ hlt, Cn.nw_at]⟩
  | _ => exact h3.elim
theorem c_mk {k lv : Nat} {x : Str} {m : FM} {p : Pos} {tr : TrF} (tok : TrOk tr) (G : Dk X.prog X.w X.K X.mg X.base Γ k x lv m) (go : Goes X W) (hr : Room (lv + 1) X.A) (hg : Gl X x) (ha : CA Γ X W (e :: es) am)
    (hdb : (x == ("__debug__" : Str)) = false := by decide) (he : starEach (e :: es) X.env = (false, eval e X.env) :: starEach es X.env := by rfl) (hpl : (backTo pos (starEach es X.env)).any (·.1) = false := by rfl) : CE Γ X W (.Call (.Name x p) (e :: es) [] pos) (e_mk tr k m am) := by
  obtain ⟨C, f, fd, ps, gC, hm, M, F, hb⟩ := G.ex
  exact PE.weak (pe_makeS (E := fun σ => WE W σ) M F hr hg hm hb go ha hdb he hpl) fun σ H Q h => mk_read tok gC h
theorem tMakeS_nil {C : Addr} {sp : Sp} {E : St → XK} {Q : VK} (h : tMakeS C sp E (mA w W a_nil) σ H Q) : tMakeS C sp E tNil σ H Q := ca_nil_read h
theorem c_mk0 {k lv : Nat} {x : Str} {m : FM} {p : Pos} {tr : TrF} (tok : TrOk tr) (G : Dk X.prog X.w X.K X.mg X.base Γ k x lv m) (go : Goes X W) (hr : Room (lv + 1) X.A) (hg : Gl X x) (hdb : (x == ("__debug__" : Str)) = false := by decide) : CE Γ X W (.Call (.Name x p) [] [] pos) (e_mk tr k m a_nil) := by
  obtain ⟨C, f, fd, ps, gC, hm, M, F, hb⟩ := G.ex
  exact PE.weak (pe_makeS0 (E := fun σ => WE W σ) M F hr hg hm hb go hdb) fun σ H Q h => tMakeS_nil (mk_read tok gC h)
/-! ## a class's own operators -/
/-- the class k has its own operator x, which is m -/
structure Dn' (P : Program) (wd : World) (K : PySem.W.Frag) (mg : Str → Option Value) (base : Heap) (Γ : Cls') (k : Nat) (x : Str) (lv : Nat) (m : FM) : Prop where
  ex : ∃ (C f : Addr) (fd : FuncData) (ps : List Str), Γ.at_ k = some C ∧ OwnM K C x f ∧ PySem.W.fnIn K f = true ∧ FnOk P wd K mg base (L2.CX P wd) lv f fd ps (spM K Γ m) ∧ Binds K fd ps []
open Classical in
noncomputable def e_own2 (tr : TrF) (k : Nat) (m : FM) (ma mb : EM) : EM := fun env S => (ma env S).bind fun x S1 => (mb env S1).bind fun y S2 => .if (isI k x S2) (tr S2 (m [x, y] S2))
open Classical in
theorem c_ixOwn {k lv : Nat} {m : FM} {tr : TrF} (tok : TrOk tr) (G : Dn' X.prog X.w X.K X.mg X.base Γ k "__getitem__" lv m) (go : Goes X W) (hr : Room (lv + 1) X.A) (ha : CE Γ X W a ma) (hb : CE Γ X W b mb) (hs : ∀ o i, subscripted b true o i = runValue (.builtin "lifetime.subscript" ⟨[o, i], []⟩) := by exact fun _ _ => rfl) :
    CE Γ X W (.Subscript a b pos) (e_own2 tr k m ma mb) := by
  obtain ⟨C, f, fd, ps, gC, M, hf, F, hbi⟩ := G.ex
  refine PE.weak (ix_ownS (value := a) (slice := b) (E := fun σ => WE W σ) M hf F hr hbi go ha hb hs) fun σ H Q ⟨c, env, S, r, ev, h⟩ => ?_
  refine ⟨c, env, S, r, ev, (Po.bind h).imp fun v H1 ⟨c1, S1, d1, e1, r1, a1, h1⟩ => ?_⟩
  refine ⟨c1, env, S1, r1, ev.mono e1, (Po.bind h1).imp fun u H2 ⟨c2, S2, d2, e2, r2, a2, h2⟩ => ?_⟩
  obtain ⟨⟨ds, hi⟩, h2⟩ := Po.if h2
  obtain ⟨p, vs, C', dx, rfl, g, l, s, t⟩ := insOf_at r2 (a1.mono e2) hi
  rw [gC] at g; cases g
  exact ⟨p, dx, _, rfl, s, c2, S2, [d1, d2], r2, .cons (a1.mono e2) (.one a2), (tok _ _ _ _ _ _ _ _ r2 h2).wish fun _ _ _ z => z⟩
open Classical in
/-- y in x by x's own __contains__; neg: not in. No error comes out -/
noncomputable def e_ownIn (tr : TrF) (neg : Bool) (k : Nat) (m : FM) (ma mb : EM) : EM := fun env S => (ma env S).bind fun y S1 => (mb env S1).bind fun x S2 => .if (isI k x S2) ((tr S2 (m [x, y] S2)).nox.bind fun d S3 => match d with
  | .bl b => .ok (.bl (neg ^^ b)) S3
  | _ => .bad)
theorem passes_not {X : Cx} : Passes (L2.CX X.prog X.w) X (fun _ _ _ => False) := fun pins σ H s e s' I h => by
  obtain ⟨a, B, H', cls, d, _, _, _, _, _, _, _, z⟩ := h
  exact z.elim
theorem nox_bl {r : R D} {neg : Bool} {Q : VK} (h : PoE w W σ c H n (r.nox.bind fun d S3 => match d with
  | .bl b => .ok (.bl (neg ^^ b)) S3
  | _ => .bad) Q) : PoE w (fun _ _ _ _ => False) [] c H n r fun v H' => ∃ k, v = .bl k ∧ Q (.bl (if neg then !k else k)) H' := by
  cases r with
  | ok d S =>
    intro c1 H1 v e1 r1 a1
    cases d with
    | bl b =>
      refine ⟨b, a1.bl, ?_⟩
      have := h c1 H1 (.bl (neg ^^ b)) e1 r1 (.b _)
      cases neg <;> simpa using this
    | _ => exact h.elim
  | ex x S => exact h.elim
  | bad => exact h.elim
/-- trunc and nox: what tr does to an outcome without errors -/
theorem tr_nox {tr : TrF} (tok : TrOk tr) {r : R D} {Q : VK} (rp : Rep w c H S) (h : PoE w (fun _ _ _ _ => False) [] c H S.length (tr S r) Q) : PoE w (fun _ _ _ _ => False) [] c H S.length r Q := tok _ _ _ _ _ _ _ _ rp h
theorem g_ownIn {k lv : Nat} {m : FM} {tr : TrF} {neg : Bool} {C : Addr} (tok : TrOk tr) (gC : Γ.at_ k = some C) : ∀ (W : WX) (σ : St) (c : Cn) (H : Hp) (S : Sto) (y x : D) (u v : V) (Q : VK), Rep ⟨X.K, Γ⟩ c H S → At ⟨X.K, Γ⟩ c H S.length y u → At ⟨X.K, Γ⟩ c H S.length x v → ∀ ds, insOf S x = some (k, ds) → PoE ⟨X.K, Γ⟩ W σ c H S.length ((tr S (m [x, y] S)).nox.bind fun d S3 => match d with
  | .bl b => .ok (.bl (neg ^^ b)) S3
  | _ => .bad) Q → rOwnIn C (spM X.K Γ m) (fun _ _ _ => False) neg u v H Q := by
  intro W σ c H S y x u v Q r ay ax ds hi h
  obtain ⟨p, vs, C', dx, rfl, g, l, s, t⟩ := insOf_at r ax hi
  rw [gC] at g; cases g
  exact ⟨p, dx, _, rfl, s, c, S, [x, y], r, .cons ax (.one ay), tr_nox tok r (nox_bl h)⟩
open Classical in
theorem c_tinOwn {k lv : Nat} {m : FM} {tr : TrF} {neg : Bool} {op : CmpOp} (tok : TrOk tr) (G : Dn' X.prog X.w X.K X.mg X.base Γ k "__contains__" lv m) (hr : Room lv X.A) (ha : CE Γ X W a ma) (hb : CE Γ X W b mb) (hop : (op = .In ∧ neg = false) ∨ (op = .NotIn ∧ neg = true)) (hm : behindInMarks op b = false) : CT Γ X W (.Compare a [op] [b] pos) (t_b (e_ownIn tr neg k m ma mb)) := by
  obtain ⟨C, f, fd, ps, gC, M, hf, F, hbi⟩ := G.ex
  have oo : OpR X (compareOp op) (rOwnIn C (spM X.K Γ m) (fun _ _ _ => False) neg) := by
    rcases hop with ⟨rfl, rfl⟩ | ⟨rfl, rfl⟩
    · exact op_inOwn M F hr hbi passes_not
    · exact op_notInOwn M F hr hbi passes_not
  refine PT.weak (pt_cmpR oo ha hb hm) fun σ H Q h => ?_
  obtain ⟨c, env, S, r, ev, h⟩ := tB_ok h
  refine ⟨c, env, S, r, ev, (Po.bind h).imp fun v H1 ⟨c1, S1, d1, e1, r1, a1, h1⟩ => ?_⟩
  refine ⟨c1, env, S1, r1, ev.mono e1, (Po.bind h1).imp fun u H2 ⟨c2, S2, d2, e2, r2, a2, h2⟩ => ?_⟩
  obtain ⟨⟨ds, hi⟩, h2⟩ := Po.if h2
  exact g_ownIn (lv := lv) tok gC W σ c2 H2 S2 d1 d2 v u _ r2 (a1.mono e2) a2 ds hi h2
end
end Mm
set_option maxRecDepth 100000
/-! Short words for what a program says. -/
namespace Mm
open PySem L2
section
variable {w : Wn} {W : WX} {σ : St} {c c' : Cn} {H H' : Hp} {n n' : Nat} {S : Sto} {env : Env}
variable {Γ : Cls'} {X : Cx} {a b e o tg : Expr} {es : List Expr} {ma mb mo : EM} {am : AM} {pos : Pos} {Dn : Ends}
abbrev subD := intD0 fun i j => .int (i - j)
abbrev modD := intD (fun _ j => 0 < j) fun i j => .int (i % j)
abbrev divD := intD CDiv fun i j => .int (i / j)
abbrev powD := intD CPow fun i j => .int (i ^ j.toNat)
abbrev ltD := intD0 fun i j => .bl (decide (i < j))
abbrev leD := intD0 fun i j => .bl (decide (i ≤ j))
abbrev gtD := intD0 fun i j => .bl (decide (j < i))
abbrev geD := intD0 fun i j => .bl (decide (j ≤ i))
abbrev max2D := intD0 fun i j => .int (if j > i then j else i)
abbrev min2D := intD0 fun i j => .int (if j < i then j else i)
theorem g_sub : GOp Γ X subD (rI0 fun i j => .int (i - j)) := g_int0 fun _ _ => rfl
theorem g_mod : GOp Γ X modD (rI (fun _ j => 0 < j) fun i j => .int (i % j)) := g_int fun _ _ => rfl
theorem g_div : GOp Γ X divD (rI CDiv fun i j => .int (i / j)) := g_int fun _ _ => rfl
theorem g_pow : GOp Γ X powD (rI CPow fun i j => .int (i ^ j.toNat)) := g_int fun _ _ => rfl
theorem g_lt : GOp Γ X ltD (rI0 fun i j => .bl (decide (i < j))) := g_int0 fun _ _ => rfl
theorem g_le : GOp Γ X leD (rI0 fun i j => .bl (decide (i ≤ j))) := g_int0 fun _ _ => rfl
theorem g_gt : GOp Γ X gtD (rI0 fun i j => .bl (decide (j < i))) := g_int0 fun _ _ => rfl
theorem g_ge : GOp Γ X geD (rI0 fun i j => .bl (decide (j ≤ i))) := g_int0 fun _ _ => rfl
theorem g_max2 : GCall Γ X (f2 max2D) (fun xs H Q => ∃ i j, xs = [.int i, .int j] ∧ Q (.int (if j > i then j else i)) H) := g_int2
theorem g_isN : GOp Γ X (isD false) (fun x y H Q => y = .non ∧ Q (.bl (decide (x = .non))) H) := by
  intro W σ c H S x y v u Q r a b h
  cases y with
  | non => exact ⟨b.non, by rw [isNon_at a]; simpa using fin_ok h r (.b _)⟩
  | _ => exact h.elim
theorem g_notN : GOp Γ X (isD true) (fun x y H Q => y = .non ∧ Q (.bl (!decide (x = .non))) H) := by
  intro W σ c H S x y v u Q r a b h
  cases y with
  | non => exact ⟨b.non, by rw [isNon_at a]; simpa using fin_ok h r (.b _)⟩
  | _ => exact h.elim
def negD (x : D) (S : Sto) : R D := match x with
  | .int i => .ok (.int (-i)) S
  | _ => .bad
@[simp] theorem negD_int (i : Int) (S : Sto) : negD (.int i) S = .ok (.int (-i)) S := rfl
def e_neg (m : EM) : EM := fun env S => (m env S).bind negD
theorem c_neg (ha : CE Γ X W a ma) : CE Γ X W (.UnaryOp .USub a pos) (e_neg ma) := by
  refine PE.weak (pe_un un_neg ha) fun σ H Q ⟨c, env, S, r, ev, h⟩ => ?_
  refine ⟨c, env, S, r, ev, (Po.bind h).imp fun v H1 ⟨c1, S1, d1, e1, r1, a1, h1⟩ => ?_⟩
  cases d1 with
  | int i => exact ⟨i, a1.int, fin_ok h1 r1 (.i _)⟩
  | _ => exact h1.elim
/-! ## x in xs, the items as data -/
def inD (neg : Bool) (x y : D) (S : Sto) : R D := match pyOf S x, (seqOf S y).bind pyDs with
  | some p, some ps => .if (SeqAt.shaped p = true ∧ SeqAt.shaped (.list ps) = true) (.ok (.bl (neg ^^ ps.any fun z => PyData.eqv z p)) S)
  | _, _ => .bad
/-! ## names -/
theorem cv (i : Nat) {x : Str} {pos : Pos} (hN : X.N[i]? = some x := by rfl) (hv : Vis X.env.scope x := by first | exact Or.inl rfl | exact Or.inr (Or.inl rfl) | exact Or.inr (Or.inr rfl)) (hd : (x == ("__debug__" : Str)) = false := by decide)
    (hcd : (x == ("__classdict__" : Str)) = false := by decide) : CE Γ X W (.Name x pos) (e_v i) := c_var hN hv hd hcd
theorem cgn (i : Nat) {x : Str} {pos : Pos} (hN : X.N.Nodup) (hi : X.N[i]? = some x := by rfl) (hx : Loc X.env.scope x := by first | exact Or.inl rfl | exact Or.inr rfl) (hf : X.fn x = true ∨ X.env.scope.names.lookup x = some .local := by first | exact .inl rfl | exact .inr rfl) : CG Γ X (.Name x pos) [i] (g_name i) := c_gname hN hi hx hf
theorem cset (i : Nat) {x : Str} {pos pos' : Pos} (hN : X.N.Nodup) (he : CE Γ X W e ma) (hi : X.N[i]? = some x := by rfl) (hx : Loc X.env.scope x := by first | exact Or.inl rfl | exact Or.inr rfl) (hs : swapsWith e (some (.Name x pos')) pos.line X.env = pure false := by rfl) (hf : X.fn x = true ∨ X.env.scope.names.lookup x = some .local := by first | exact .inl rfl | exact .inr rfl) :
    CS Γ X W (.Assign [.Name x pos'] e pos) (s_set i ma) := c_set hN hi hx he hs hf
theorem hF1 {K : PySem.W.Frag} {p : Nat × Nat} {f : Str} (h : HasF K Γ p.1 p.2 f) : ∀ q ∈ [p], HasF K Γ q.1 q.2 f := fun q hq => by rw [List.mem_singleton.mp hq]; exact h
theorem hF2 {K : PySem.W.Frag} {p p2 : Nat × Nat} {f : Str} (h : HasF K Γ p.1 p.2 f) (h2 : HasF K Γ p2.1 p2.2 f) : ∀ q ∈ [p, p2], HasF K Γ q.1 q.2 f := fun q hq => by
  rcases List.mem_cons.mp hq with rfl | hq
  · exact h
  · rw [List.mem_singleton.mp hq]; exact h2
theorem hu64 {k : Nat} {A : Around} (hr : Room k A) : A.units + 64 < cLine := by have := hr.un; omega
theorem go_def {P : Program} {wd : World} {K : PySem.W.Frag} {mg : Str → Option Value} {base : Heap} {N : List Str} {qual : Str} {sc : Scope} {f : Addr} {cd : Value} {A : Around} {outer : List PySem.Env} {s : Shared} {H : Hp} {E : XK} :
    Goes (cxOf (L2.CX P wd) P wd K mg base N qual sc f cd A outer s H E) (fun C dd _ H => E C dd H) := goes_of (takes_of rfl rfl rfl rfl)
end
/-! ## what a term means: the parts' own equations -/
@[simp] theorem e_op_eq (g : D → D → Sto → R D) (ma mb : EM) (env : Env) (S : Sto) : e_op g ma mb env S = (ma env S).bind fun x S1 => (mb env S1).bind fun y S2 => g x y S2 := rfl
@[simp] theorem e_v_eq (i : Nat) (env : Env) (S : Sto) : e_v i env S = match env[i]? with
  | some (some d) => .ok d S
  | _ => .bad := rfl
@[simp] theorem a_nil_eq (env : Env) (S : Sto) : a_nil env S = .ok [] S := rfl
@[simp] theorem a_cons_eq (m : EM) (r : AM) (env : Env) (S : Sto) : a_cons m r env S = (m env S).bind fun d S1 => (r env S1).bind fun ds S2 => .ok (d :: ds) S2 := rfl
@[simp] theorem e_tup_eq (m : AM) (env : Env) (S : Sto) : e_tup m env S = (m env S).bind fun ds S1 => .if (ds.length ≤ 1000) (.ok (.tup ds) S1) := rfl
@[simp] theorem e_lst_eq (m : AM) (env : Env) (S : Sto) : e_lst m env S = (m env S).bind fun ds S1 => .if (ds.length ≤ 1000) (.ok (.lst ds) S1) := rfl
@[simp] theorem e_new_eq (m : AM) (env : Env) (S : Sto) : e_new m env S = (m env S).bind fun ds S1 => .if (ds.length ≤ 1000) (.ok (.loc S1.length) (S1 ++ [.lst ds])) := rfl
@[simp] theorem e_call_eq (g : List D → Sto → R D) (m : AM) (env : Env) (S : Sto) : e_call g m env S = (m env S).bind fun ds S1 => g ds S1 := rfl
@[simp] theorem e_fn_eq (tr : TrF) (m : FM) (am : AM) (env : Env) (S : Sto) : e_fn tr m am env S = (am env S).bind fun ds S1 => tr S1 (m ds S1) := rfl
@[simp] theorem e_sl_eq (m : EM) (l h : OM) (env : Env) (S : Sto) : e_sl m l h env S = (m env S).bind fun d S1 => (l env S1).bind fun lo S2 => (h env S2).bind fun hi S3 => slD d lo hi S3 := rfl
@[simp] theorem o_none_eq (env : Env) (S : Sto) : o_none env S = .ok none S := rfl
@[simp] theorem o_some_eq (m : EM) (env : Env) (S : Sto) : o_some m env S = (m env S).bind fun d S1 => match d with
  | .int i => .ok (some i) S1
  | _ => .bad := rfl
@[simp] theorem s_seq_eq (m f : SM) (env : Env) (S : Sto) : s_seq m f env S = (m env S).bind f := rfl
@[simp] theorem s_nil_eq (env : Env) (S : Sto) : s_nil env S = .next env S := rfl
@[simp] theorem s_set_eq (i : Nat) (m : EM) (env : Env) (S : Sto) : s_set i m env S = (m env S).toS env fun d S1 => .next (env.set i (some d)) S1 := rfl
@[simp] theorem s_ret_eq (m : EM) (env : Env) (S : Sto) : s_ret m env S = (m env S).toS env fun d S1 => .ret d S1 := rfl
@[simp] theorem s_ex_eq (m : EM) (env : Env) (S : Sto) : s_ex m env S = (m env S).toS env fun _ S1 => .next env S1 := rfl
@[simp] theorem s_if_eq (t : TM) (p q : SM) (env : Env) (S : Sto) : s_if t p q env S = (t env S).toS env fun k S1 => if k = true then p env S1 else q env S1 := rfl
@[simp] theorem s_asg_eq (m : EM) (g : GM) (env : Env) (S : Sto) : s_asg m g env S = (m env S).toS env fun d S1 => match g d env with
  | some env1 => .next env1 S1
  | none => .bad := rfl
@[simp] theorem s_put_eq (mv mo mi : EM) (env : Env) (S : Sto) : s_put mv mo mi env S = (mv env S).toS env fun z S1 => (mo env S1).toS env fun x S2 => (mi env S2).toS env fun y S3 => match setL S3 x y z with
  | some S4 => .next env S4
  | none => .bad := rfl
@[simp] theorem s_for_eq (im : IM) (g : GM) (body : SM) (env : Env) (S : Sto) : s_for im g body env S = (im env S).toS env fun it S1 => loopS g body it.2 it.1 env S1 := rfl
@[simp] theorem t_v_eq (m : EM) (env : Env) (S : Sto) : t_v m env S = (m env S).bind fun d S1 => .ofO (truD S1 d) S1 := rfl
@[simp] theorem t_b_eq (m : EM) (env : Env) (S : Sto) : t_b m env S = (m env S).bind fun d S1 => .ofO (blD d) S1 := rfl
@[simp] theorem t_and_eq (p q : TM) (env : Env) (S : Sto) : t_and p q env S = (p env S).bind fun k S1 => if k = true then q env S1 else .ok false S1 := rfl
@[simp] theorem t_or_eq (p q : TM) (env : Env) (S : Sto) : t_or p q env S = (p env S).bind fun k S1 => if k = true then .ok true S1 else q env S1 := rfl
@[simp] theorem t_not_eq (p : TM) (env : Env) (S : Sto) : t_not p env S = (p env S).bind fun k S1 => .ok (!k) S1 := rfl
@[simp] theorem e_if_eq (t : TM) (p q : EM) (env : Env) (S : Sto) : e_if t p q env S = (t env S).bind fun k S1 => if k = true then p env S1 else q env S1 := rfl
@[simp] theorem i_seq_eq (m : EM) (env : Env) (S : Sto) : i_seq m env S = (m env S).bind fun d S1 => .ofO (itsOf S1 d) S1 := rfl
@[simp] theorem e_meth_eq (ty : D → Sto → Bool) (g : D → List D → Sto → R D) (mo : EM) (m : AM) (env : Env) (S : Sto) : e_meth ty g mo m env S = (mo env S).bind fun x S1 => .if (ty x S1 = true) ((m env S1).bind fun ds S2 => g x ds S2) := rfl
@[simp] theorem e_fld_eq (cs : List (Nat × Nat)) (m : EM) (env : Env) (S : Sto) : e_fld cs m env S = (m env S).bind fun d S1 => .ofO (fldD cs d S1) S1 := rfl
@[simp] theorem s_fld_eq (cs : List (Nat × Nat)) (mo mv : EM) (env : Env) (S : Sto) : s_fld cs mo mv env S = (mv env S).toS env fun z S1 => (mo env S1).toS env fun d S2 => match setF cs d z S2 with
  | some S3 => .next env S3
  | none => .bad := rfl
@[simp] theorem g_name_eq (i : Nat) (d : D) (env : Env) : g_name i d env = some (env.set i (some d)) := rfl
@[simp] theorem e_lcG_eq (vs : List Nat) (im : IM) (g : GM) (t : TM) (m : EM) (fin : List D → Sto → R D) (env : Env) (S : Sto) : e_lcG vs im g t m fin env S = (im env S).bind fun it S1 => (lcM g t m (wipeE env vs) it.2 it.1 [] S1).bind fin := rfl
@[simp] theorem e_not_eq (p : EM) (env : Env) (S : Sto) : e_not p env S = (p env S).bind fun d S1 => match d with
  | .bl k => .ok (.bl (!k)) S1
  | _ => .bad := rfl
@[simp] theorem e_and_eq (p q : EM) (env : Env) (S : Sto) : e_and p q env S = (p env S).bind fun d S1 => match d with
  | .bl true => q env S1
  | .bl false => .ok (.bl false) S1
  | _ => .bad := rfl
@[simp] theorem e_or_eq (p q : EM) (env : Env) (S : Sto) : e_or p q env S = (p env S).bind fun d S1 => match d with
  | .bl true => .ok (.bl true) S1
  | .bl false => q env S1
  | _ => .bad := rfl
theorem runDef_eq {np nl : Nat} {b : SM} {ds : List D} {S : Sto} (h : ds.length = np) : runDef np nl b ds S = endF (b (ds.map some ++ List.replicate (nl - np) none) S) := if_pos h
/-! ## places of the store, read and written -/
@[simp] theorem lstOf_loc' (S : Sto) (k : Nat) : lstOf S (.loc k) = match S[k]? with
  | some (.lst ds) => some ds
  | _ => none := rfl
@[simp] theorem seqOf_loc' (S : Sto) (k : Nat) : seqOf S (.loc k) = match S[k]? with
  | some (.lst ds) => some ds
  | _ => none := rfl
@[simp] theorem ixD_loc' (S : Sto) (k : Nat) (i : Int) : ixD (.loc k) (.int i) S = .ofO ((seqOf S (.loc k)).bind fun ds => atI ds i) S := rfl
@[simp] theorem lenD_loc' (S : Sto) (k : Nat) : lenD (.loc k) S = .ofO ((seqOf S (.loc k)).map fun ds => D.int ds.length) S := rfl
@[simp] theorem truD_loc' (S : Sto) (k : Nat) : truD S (.loc k) = (seqOf S (.loc k)).map fun ds => !ds.isEmpty := rfl
@[simp] theorem tyL_loc' (S : Sto) (k : Nat) : tyL (.loc k) S = (seqOf S (.loc k)).isSome := rfl
@[simp] theorem appD_loc' (S : Sto) (k : Nat) (y : D) : appD (.loc k) [y] S = match S[k]? with
  | some (.lst es) => .if (es.length < sizeLine) (.ok .non (S.set k (.lst (es ++ [y]))))
  | _ => .bad := rfl
@[simp] theorem extD_loc' (S : Sto) (k : Nat) (y : D) : extD (.loc k) [y] S = match S[k]?, lstOf S y with
  | some (.lst es), some fs => .if (es.length + fs.length ≤ sizeLine) (.ok .non (S.set k (.lst (es ++ fs))))
  | _, _ => .bad := rfl
@[simp] theorem setL_loc' (S : Sto) (k : Nat) (i : Int) (z : D) : setL S (.loc k) (.int i) z = match S[k]? with
  | some (.lst ds) => (ixN ds.length i).map fun j => S.set k (.lst (ds.set j z))
  | _ => none := rfl
@[simp] theorem itsOf_loc' (S : Sto) (k : Nat) : itsOf S (.loc k) = match S[k]? with
  | some (.lst ds) => some (ds, some (k, ds))
  | _ => none := rfl
@[simp] theorem insOf_loc' (S : Sto) (k : Nat) : insOf S (.loc k) = match S[k]? with
  | some (.ins c ds) => some (c, ds)
  | _ => none := rfl
@[simp] theorem tupleD_loc' (S : Sto) (k : Nat) : tupleD (.loc k) S = .ofO ((seqOf S (.loc k)).map D.tup) S := rfl
@[simp] theorem listD_loc' (S : Sto) (k : Nat) : listD (.loc k) S = .ofO ((seqOf S (.loc k)).map D.lst) S := rfl
@[simp] theorem listN_loc' (S : Sto) (k : Nat) : listN (.loc k) S = match S[k]? with
  | some (.lst ds) => .ok (.loc S.length) (S ++ [.lst ds])
  | _ => .bad := by
  unfold listN
  rw [seqOf_loc']
  cases S[k]? with
  | none => rfl
  | some o => cases o <;> rfl
@[simp] theorem addD_locl (S : Sto) (k : Nat) (y : D) : addD (.loc k) y S = match lstOf S (.loc k), lstOf S y with
  | some a, some b => .if (a.length + b.length ≤ sizeLine) (.ok (.lst (a ++ b)) S)
  | _, _ => .bad := by cases y <;> rfl
@[simp] theorem addD_lstl (S : Sto) (a : List D) (k : Nat) : addD (.lst a) (.loc k) S = match lstOf S (.loc k) with
  | some b => .if (a.length + b.length ≤ sizeLine) (.ok (.lst (a ++ b)) S)
  | _ => .bad := by
  show addL S (.lst a) (.loc k) = _
  unfold addL
  rw [lstOf_lst]
  cases lstOf S (.loc k) <;> rfl
@[simp] theorem endF_ite (c : Prop) [Decidable c] (x y : RS) : endF (if c then x else y) = if c then endF x else endF y := by split <;> rfl
@[simp] theorem R.ofO_none {α : Type} (S : Sto) : R.ofO (none : Option α) S = .bad := rfl
@[simp] theorem atI_lit0 {α : Type} (x : α) (xs : List α) : atI (x :: xs) 0 = some x := by
  unfold atI ixN; simp
theorem atI_k {α : Type} (k : Nat) (xs : List α) : atI xs ((k : Nat) : Int) = xs[k]? := by
  cases h : xs[k]? with
  | some v => exact atI_nat h
  | none =>
    have := List.getElem?_eq_none_iff.mp h
    unfold atI ixN
    rw [if_pos (by omega), if_neg (by omega)]; rfl
@[simp] theorem atI_lit1 {α : Type} (xs : List α) : atI xs 1 = xs[1]? := atI_k 1 xs
@[simp] theorem atI_lit2 {α : Type} (xs : List α) : atI xs 2 = xs[2]? := atI_k 2 xs
@[simp] theorem atI_lit3 {α : Type} (xs : List α) : atI xs 3 = xs[3]? := atI_k 3 xs
@[simp] theorem atI_lit4 {α : Type} (xs : List α) : atI xs 4 = xs[4]? := atI_k 4 xs
@[simp] theorem atI_lit5 {α : Type} (xs : List α) : atI xs 5 = xs[5]? := atI_k 5 xs
@[simp] theorem atI_lit6 {α : Type} (xs : List α) : atI xs 6 = xs[6]? := atI_k 6 xs
@[simp] theorem atI_lit7 {α : Type} (xs : List α) : atI xs 7 = xs[7]? := atI_k 7 xs
@[simp] theorem atI_lit8 {α : Type} (xs : List α) : atI xs 8 = xs[8]? := atI_k 8 xs
@[simp] theorem atI_lit9 {α : Type} (xs : List α) : atI xs 9 = xs[9]? := atI_k 9 xs
theorem set_get {S : Sto} {p : Nat} {a : SO} (h : S[p]? = some a) (o : SO) : (S.set p o)[p]? = some o := List.getElem?_set_self (Rep.lt h)
theorem set_set (S : Sto) (p : Nat) (a b : SO) : (S.set p a).set p b = S.set p b := List.set_set ..
end Mm
set_option maxRecDepth 100000
/-! max(xs, default=None) of a list of ints: the library's walk with a keyword. -/
namespace PySem
open Sem (wp)
namespace MaxD
abbrev kw : List (Str × Value) := [("default", .none)]
theorem args_d (a : Value) : argsOk "max" ⟨[a], kw⟩ := by unfold argsOk; kernel_rfl
section
variable {prog : Program} {w : World} {A : Around} {R : Result → Shared → Prop} {I : Addr} {fp wr : List Addr} {n : Nat} {P : Nat → Value → Prop} {St : Nat → Heap → Prop}
/-- the best so far against the rest -/
theorem turn (W : Walks prog w A.in1 I fp wr n P St) (bt : Nat → Nat → Bool) (hcmp : CmpOf prog w A.in1 .Gt P bt) (S : Addr) (out : S ∉ fp) :
    ∀ (m j : Nat) (s : Shared) (best : Value) (c : Nat), n - (j + 1) = m → j + 1 ≤ n → St (j + 1) s.heap → P (argBest bt j) best → s.heap.get? S = some { cls := .type "list", dict := none, data := .seq #[best, best] c, slots := #[] } →
      (∀ v g t, P (argBest bt (n - 1)) v → (∀ b o, b ∉ wr → b ≠ S → s.heap.get? b = some o → g.get? b = some o) → R (.ok (.ret v)) { s with heap := g, toks := t }) → codeAny (model prog w) A (.builtin "max.loop" ⟨[.ref I, .none, .ref S], kw⟩) R s := by
  have aside : S ∉ wr := fun z => out (W.sub _ z)
  have nm : (toString "max" ++ toString ".loop" : String) = "max.loop" := by decide
  intro m
  induction m with
  | zero =>
    intro j s best c em le st pb at_ fin
    have ej : j + 1 = n := by omega
    refine codeAny_builtin F.entry_max_loop ?_
    rw [Around.under_plainId F.plain_max_loop _]
    show wpAny _ A.in1 (seqItems? (.ref S) >>= _) _ _ s
    refine wpAny_bind (wpAny_seqItems at_ rfl ?_)
    show wpAny _ A.in1 (tryCatch (pyNext (.ref I)) _ >>= _) _ _ s
    refine wpAny_bind (wpAny_tryCatch (W.done s _ _ (ej ▸ st) fun g t kg => ?_))
    have at2 := kg S _ aside at_
    show wpAny _ A.in1 (updateSeq S (fun _ => #[]) >>= _) _ _ _
    refine wpAny_bind (wpAny_updateSeq at2 rfl (wpAny_bind (wpAny_letGo (wpAny_pure ?_))))
    exact fin best _ t (by rw [← ej]; exact pb) fun b o b1 b2 e => (Heap.get?_update_other _ _ (Ne.symm b2)).trans (kg b o b1 e)
  | succ m ih =>
    intro j s best c em le st pb at_ fin
    have lt : j + 1 < n := by omega
    refine codeAny_builtin F.entry_max_loop ?_
    rw [Around.under_plainId F.plain_max_loop _]
    show wpAny _ A.in1 (seqItems? (.ref S) >>= _) _ _ s
    refine wpAny_bind (wpAny_seqItems at_ rfl ?_)
    show wpAny _ A.in1 (tryCatch (pyNext (.ref I)) _ >>= _) _ _ s
    refine wpAny_bind (wpAny_tryCatch (W.item (j + 1) s _ _ lt st fun v g t pv st2 kg => ?_))
    have at2 := kg S _ aside at_
    show wpAny _ A.in1 (tryCatch (holding [v, v] (richCompare .Gt v best >>= _)) _ >>= _) _ _ _
    refine wpAny_bind (wpAny_tryCatch (wpAny_holding (wpAny_bind (hcmp (j + 1) (argBest bt j) v best _ _ _ pv pb ?_))))
    refine wpAny_bind (wpAny_holding (wpAny_truthy_bool ?_))
    refine wpAny_bind (wpAny_letGo (wpAny_pure ?_))
    cases more : bt (j + 1) (argBest bt j) with
    | true =>
      simp only [if_true]
      refine wpAny_bind (wpAny_updateSeq at2 rfl (wpAny_bind (wpAny_letGo ?_)))
      rw [nm]
      refine wpAny_pure ⟨plainId_quiet F.plain_max_loop _, ih (j + 1) _ v _ (by omega) lt (W.frame _ _ _ st2 fun b hb o e => (Heap.get?_update_other _ _ (fun z : S = b => out (by rw [z]; exact hb))).trans e) (by simp only [argBest, more, if_true]; exact pv) (Heap.get?_update_self _ at2 rfl) fun v2 g2 t2 p2 k2 => ?_⟩
      exact fin v2 g2 t2 p2 fun b o b1 b2 e => k2 b o b1 b2 ((Heap.get?_update_other _ _ (Ne.symm b2)).trans (kg b o b1 e))
    | false =>
      simp only [Bool.false_eq_true, if_false]
      refine wpAny_bind (wpAny_letGo ?_)
      rw [nm]
      refine wpAny_pure ⟨plainId_quiet F.plain_max_loop _, ih (j + 1) _ best c (by omega) lt st2 (by simp only [argBest, more, Bool.false_eq_true, if_false]; exact pb) at2 fun v2 g2 t2 p2 k2 => ?_⟩
      exact fin v2 g2 t2 p2 fun b o b1 b2 e => k2 b o b1 b2 (kg b o b1 e)
/-- from the start: nothing there, or a first -/
theorem first (W : Walks prog w A.in1 I fp wr n P St) (bt : Nat → Nat → Bool) (hcmp : CmpOf prog w A.in1 .Gt P bt) (S : Addr) (out : S ∉ fp) {s : Shared} {c : Nat} (st : St 0 s.heap) (at_ : s.heap.get? S = some { cls := .type "list", dict := none, data := .seq #[] c, slots := #[] })
    (fin : ∀ v g t, (n = 0 ∧ v = Value.none ∨ 0 < n ∧ P (argBest bt (n - 1)) v) → (∀ b o, b ∉ wr → b ≠ S → s.heap.get? b = some o → g.get? b = some o) → R (.ok (.ret v)) { s with heap := g, toks := t }) : codeAny (model prog w) A (.builtin "max.loop" ⟨[.ref I, .none, .ref S], kw⟩) R s := by
  have aside : S ∉ wr := fun z => out (W.sub _ z)
  have nm : (toString "max" ++ toString ".loop" : String) = "max.loop" := by decide
  refine codeAny_builtin F.entry_max_loop ?_
  rw [Around.under_plainId F.plain_max_loop _]
  show wpAny _ A.in1 (seqItems? (.ref S) >>= _) _ _ s
  refine wpAny_bind (wpAny_seqItems at_ rfl ?_)
  show wpAny _ A.in1 (tryCatch (pyNext (.ref I)) _ >>= _) _ _ s
  by_cases n0 : n = 0
  · refine wpAny_bind (wpAny_tryCatch (W.done s _ _ (by rw [n0]; exact st) fun g t kg => ?_))
    show wpAny _ A.in1 (rule _ >>= _) _ _ _
    refine wpAny_bind (wpAny_rule (wpAny_pure ?_))
    exact fin _ _ t (.inl ⟨n0, rfl⟩) fun b o b1 _ e => kg b o b1 e
  · have np : 0 < n := Nat.pos_of_ne_zero n0
    refine wpAny_bind (wpAny_tryCatch (W.item 0 s _ _ np st fun v g t pv st2 kg => ?_))
    have at2 := kg S _ aside at_
    show wpAny _ A.in1 (updateSeq S (fun _ => #[v, v]) >>= _) _ _ _
    refine wpAny_bind (wpAny_updateSeq at2 rfl ?_)
    rw [nm]
    refine wpAny_pure ⟨plainId_quiet F.plain_max_loop _, turn W bt hcmp S out _ 0 _ v _ rfl np (W.frame _ _ _ st2 fun b hb o e => (Heap.get?_update_other _ _ (fun z : S = b => out (by rw [z]; exact hb))).trans e) pv (Heap.get?_update_self _ at2 rfl) fun v2 g2 t2 p2 k2 => ?_⟩
    exact fin v2 g2 t2 (.inr ⟨np, p2⟩) fun b o b1 b2 e => k2 b o b1 b2 ((Heap.get?_update_other _ _ (Ne.symm b2)).trans (kg b o b1 e))
end
section
variable {prog : Program} {w : World} {A : Around} {E : Value → Shared → Prop} {s : Shared}
theorem walk {x : Value} {Q : Value → Shared → Prop}
    (h : wpAny (model prog w) A.in1 (pyIter x) (fun it s2 => ∃ I fp wr n P St bt, it = .ref I ∧ Walks prog w A.in1 I fp wr n P St ∧ St 0 s2.heap ∧ (∀ b ∈ fp, b < s2.heap.objs.size) ∧ CmpOf prog w A.in1 .Gt P bt ∧
      ∀ v g t, (n = 0 ∧ v = Value.none ∨ 0 < n ∧ P (argBest bt (n - 1)) v) → (∀ b o, b ∉ wr → s2.heap.get? b = some o → g.get? b = some o) → Q v { s2 with heap := g, toks := t }) E s) : wpAny (model prog w) A (call (.builtin "max") [x] kw) Q E s := by
  have nm : (toString "max" ++ toString ".loop" : String) = "max.loop" := by decide
  refine PyProof.Rows.kmk_tree F.kind_max F.plain_max F.entry_max (args_d _) ?_
  show wpAny _ A.in1 (Builtin.Builtins.bindParams "max" ["key", "default"] 0 ⟨[], kw⟩ >>= _) _ _ s
  refine wpAny_bind (wpAny_of_eq (show Builtin.Builtins.bindParams "max" ["key", "default"] 0 ⟨[], kw⟩ = pure [none, some .none] from rfl) ?_)
  refine wpAny_bind (wpAny_pure ?_)
  refine wpAny_bind (wpAny_mono h (fun it s2 h2 => ?_) fun _ _ e => e)
  obtain ⟨I, fp, wr, n, P, St, bt, rfl, W, st, young, hcmp, fin⟩ := h2
  refine wpAny_bind (wpAny_newObj_type ?_)
  have out : s2.heap.objs.size ∉ fp := fun z => Nat.lt_irrefl _ (young _ z)
  rw [nm]
  refine wpAny_pure ⟨plainId_quiet F.plain_max_loop _, first W bt hcmp s2.heap.objs.size out (W.frame _ _ _ st fun b _ o e => Heap.get?_push_of_some _ e) (Heap.get?_push_size _ rfl) fun v g t pv kg => ?_⟩
  exact fin v g t pv fun b o b1 e => kg b o b1 (Nat.ne_of_lt (Heap.lt_size e)) (Heap.get?_push_of_some _ e)
end
end MaxD
end PySem
namespace L2
open PySem PySem.Spec PyProof.Rows
/-- max(xs, default=None) of a list of ints -/
def rMaxDef (K : PySem.W.Frag) : List V → List V → Hp → VK → Prop := fun vs zs H Q => ∃ (a : Addr) (ns : List Int), vs = [V.ref a] ∧ zs = [.non] ∧ SqL K H a (ns.map V.int) ∧ (ns = [] → Q .non H) ∧ ∀ m, m ∈ ns → (∀ y, y ∈ ns → y ≤ m) → Q (.int m) H
section
variable {prog : Program} {w : World} {A : Around} {E : Value → Shared → Prop} {s : Shared} {its : List Value} {ns : List Int} {l : Addr}
end
end L2
set_option maxRecDepth 100000
/-! Constants of the module, isinstance, chains, all / any / sum / max / sorted, loops by test, range as a value. -/
namespace Mm
open PySem L2
section
variable {w : Wn} {W : WX} {σ : St} {c c' : Cn} {H H' : Hp} {n n' : Nat} {S : Sto} {env : Env}
variable {Γ : Cls'} {X : Cx} {a b e o tg : Expr} {es : List Expr} {ma mb mo : EM} {am : AM} {pos : Pos} {Dn : Ends}
/-- the module's name x holds d -/
structure GlD (K : PySem.W.Frag) (Γ : Cls') (mg : Str → Option Value) (x : Str) (d : D) : Prop where
  ex : ∃ u v, mg x = some u ∧ RelV v u ∧ ∀ c H n, At ⟨K, Γ⟩ c H n d v
theorem c_gl {x : Str} {d : D} (G : GlD X.K Γ X.mg x d) (hg : Gl X x := by rfl) (hd : (x == ("__debug__" : Str)) = false := by decide) : CE Γ X W (.Name x pos) (e_k d) := by
  obtain ⟨u, v, hm, rv, a⟩ := G.ex
  exact PE.weak (pe_glob hg hm rv hd) fun σ H Q ⟨c, env, S, r, ev, h⟩ => fin_ok h r (a c H S.length)
/-- a part that is not reached -/
def e_bad : EM := fun _ _ => .bad
@[simp] theorem e_bad_eq (env : Env) (S : Sto) : e_bad env S = .bad := rfl
def t_bad : TM := fun _ _ => .bad
@[simp] theorem t_bad_eq (env : Env) (S : Sto) : t_bad env S = .bad := rfl
@[simp] theorem s_bad_eq (env : Env) (S : Sto) : s_bad env S = .bad := rfl
/-! ## isinstance -/
abbrev Ty := String ⊕ Nat
def tyOf (S : Sto) (d : D) : Option Ty := match d with
  | .non => some (.inl "NoneType")
  | .bl _ => some (.inl "bool")
  | .int _ => some (.inl "int")
  | .str _ => some (.inl "str")
  | .tup _ => some (.inl "tuple")
  | .ttp _ => some (.inl "tuple")
  | .lst _ => some (.inl "list")
  | .fz _ => some (.inl "list")
  | .dic (.bl _ :: _) _ => none
  | .dic _ _ => some (.inl "dict")
  | .obj k _ => some (.inr k)
  | .loc j => match S[j]? with
    | some (.lst _) => some (.inl "list")
    | some (.dic (.bl _ :: _) _) => none
    | some (.dic _ _) => some (.inl "dict")
    | some (.ins k _) => some (.inr k)
    | none => none
  | .oth _ => none
  | .xn _ _ => none
@[simp] theorem tyOf_non (S : Sto) : tyOf S .non = some (.inl "NoneType") := rfl
@[simp] theorem tyOf_bl (S : Sto) (b : Bool) : tyOf S (.bl b) = some (.inl "bool") := rfl
@[simp] theorem tyOf_int (S : Sto) (i : Int) : tyOf S (.int i) = some (.inl "int") := rfl
@[simp] theorem tyOf_str (S : Sto) (x : Str) : tyOf S (.str x) = some (.inl "str") := rfl
@[simp] theorem tyOf_tup (S : Sto) (ds : List D) : tyOf S (.tup ds) = some (.inl "tuple") := rfl
@[simp] theorem tyOf_lst (S : Sto) (ds : List D) : tyOf S (.lst ds) = some (.inl "list") := rfl
@[simp] theorem tyOf_obj (S : Sto) (k : Nat) (ds : List D) : tyOf S (.obj k ds) = some (.inr k) := rfl
@[simp] theorem tyOf_loc (S : Sto) (j : Nat) : tyOf S (.loc j) = match S[j]? with
    | some (.lst _) => some (.inl "list")
    | some (.dic (.bl _ :: _) _) => none
    | some (.dic _ _) => some (.inl "dict")
    | some (.ins k _) => some (.inr k)
    | none => none := rfl
/-- what isinstance must know of a class of the text -/
structure InsC (K : PySem.W.Frag) (C : Addr) : Prop where
  cl : Cls K C
  ha : PySem.W.findIn K (.ref C) "__class__" = some (some (.builtin "object.__class__"))
  hn : PySem.W.specialIn K (.builtin "object.__class__") "__get__" = some (some (.builtin "getset_descriptor.__get__"))
  ht : PySem.W.takesIn K (.builtin "object.__class__") = some true
  hm : PySem.W.mroIn K C (.type "object") = some true
structure KitOk (K : PySem.W.Frag) (Γ : Cls') (u : Value) (kt : Ty → Option Bool) : Prop where
  b : ∀ a r, kt (.inl a) = some r → PySem.W.kitOne K (.type a) u = some r
  o : ∀ k r C, kt (.inr k) = some r → Γ.at_ k = some C → InsC K C ∧ PySem.W.kitOne K (.ref C) u = some r
def ktB (T : String) : Ty → Option Bool := fun t => match t with
  | .inl a => kitB a T
  | .inr _ => none
theorem ktB_ok {K : PySem.W.Frag} {T : String} : KitOk K Γ (.type T) (ktB T) := ⟨fun a r h => kit_ty h, fun k r C h => by cases h⟩
theorem sqT_ty {K : PySem.W.Frag} {p : Addr} {xs : List V} (h : SqT K H p xs) : TyX K H (.ref p) (.type "tuple") := by
  rcases h with (h | ⟨o, h⟩) | ⟨o, its, n, h, hc, _⟩
  · exact .base (.tup h)
  · exact .fTuple h
  · exact .kTuple h hc
theorem sqL_ty {K : PySem.W.Frag} {p : Addr} {xs : List V} (h : SqL K H p xs) : TyX K H (.ref p) (.type "list") := by
  rcases h with (h | ⟨o, h⟩) | ⟨o, its, n, h, hc, _⟩
  · exact .base (.lst h)
  · exact .base (.frz h)
  · exact .kList h hc
theorem dic_ty {w : Wn} {p : Addr} {ks : List D} {vs : List V} (hl : w.Γ.lk = none) (n : ∀ b r, ks ≠ .bl b :: r) (h : (∃ kk : List Key, DkA w H p (.dK (kk.zip vs)) ∧ kk.length = vs.length ∧ ks = kk.map keyD) ∨ (∃ kk : List (List Key), DkA w H p (.dT (kk.zip vs)) ∧ kk.length = vs.length ∧ ks = .non :: kk.map fun k => .tup (k.map keyD)) ∨ DkN w H p ks vs) : TyX w.K H (.ref p) (.type "dict") := by
  rcases h with ⟨kk, h, _⟩ | ⟨kk, h, _⟩ | ⟨o, kk, as, h, _, e⟩
  · exact .base (.dK (h.ex hl))
  · exact .base (.dT (h.ex hl))
  · exact (n _ _ e).elim
theorem tyOf_dic {S : Sto} {ks ds : List D} (n : ∀ b r, ks ≠ .bl b :: r) : tyOf S (.dic ks ds) = some (.inl "dict") := by
  cases ks with
  | nil => rfl
  | cons k r => cases k <;> first | rfl | exact (n _ _ rfl).elim
theorem tyOf_at {d : D} {v : V} {t : Ty} (hl : w.Γ.lk = none) (r : Rep w c H S) (at_ : At w c H S.length d v) (h : tyOf S d = some t) :
    (∃ s, t = .inl s ∧ TyX w.K H v (.type s)) ∨ ∃ k C dx fs p, t = .inr k ∧ v = .ref p ∧ w.Γ.at_ k = some C ∧ H p = some (.ins C dx fs) := by
  cases d with
  | non => cases h; rw [at_.non]; exact .inl ⟨_, rfl, .base .non⟩
  | bl b => cases h; rw [at_.bl]; exact .inl ⟨_, rfl, .base (.bl _)⟩
  | int b => cases h; rw [at_.int]; exact .inl ⟨_, rfl, .base (.int _)⟩
  | str b => cases h; rw [at_.str]; exact .inl ⟨_, rfl, .base (.str _)⟩
  | tup ds =>
    cases h
    obtain ⟨p, vs, rfl, g, _⟩ := at_.tup
    exact .inl ⟨_, rfl, sqT_ty g⟩
  | ttp ds =>
    cases h
    unfold At at at_
    obtain ⟨p, vs, rfl, g, _⟩ := at_
    exact .inl ⟨_, rfl, .base (.tup g)⟩
  | lst ds =>
    cases h
    unfold At at at_
    obtain ⟨p, vs, rfl, f, g, _⟩ := at_
    exact .inl ⟨_, rfl, .base (.lst g)⟩
  | fz ns =>
    cases h
    unfold At at at_
    obtain ⟨p, rfl, g⟩ := at_
    exact .inl ⟨_, rfl, sqL_ty g.sq⟩
  | dic ks ds =>
    unfold At at at_
    obtain ⟨p, vs, rfl, f, g, _⟩ := at_
    by_cases n : ∀ b r, ks ≠ .bl b :: r
    · rw [tyOf_dic n] at h
      cases h
      exact .inl ⟨_, rfl, dic_ty hl n g⟩
    · simp only [Classical.not_forall, Classical.not_not] at n
      obtain ⟨b, r, rfl⟩ := n
      cases h
  | obj k ds =>
    cases h
    unfold At at at_
    obtain ⟨p, vs, C, dx, rfl, f, g, l, s, _⟩ := at_
    exact .inr ⟨k, C, dx, _, p, rfl, rfl, g, s⟩
  | loc j =>
    rw [tyOf_loc] at h
    unfold At at at_
    obtain ⟨hj, rfl⟩ := at_
    cases ho : S[j]? with
    | none => rw [ho] at h; cases h
    | some o =>
      rw [ho] at h
      have oa := r.get ho
      cases o with
      | lst ds => cases h; obtain ⟨vs, g, _⟩ := oa; exact .inl ⟨_, rfl, .base (.lst g)⟩
      | dic ks ds =>
        obtain ⟨vs, g, _⟩ := oa
        by_cases n : ∀ b r, ks ≠ .bl b :: r
        · have h : tyOf S (.dic ks ds) = some t := by
            rw [← h, tyOf_dic n]
            cases ks with
            | nil => rfl
            | cons k r => cases k <;> first | rfl | exact (n _ _ rfl).elim
          rw [tyOf_dic n] at h
          cases h
          exact .inl ⟨_, rfl, dic_ty hl n g⟩
        · simp only [Classical.not_forall, Classical.not_not] at n
          obtain ⟨b, r, rfl⟩ := n
          cases h
      | ins k ds => cases h; obtain ⟨vs, C, dx, g, l, s, _⟩ := oa; exact .inr ⟨k, C, dx, _, _, rfl, rfl, g, s⟩
  | oth u => cases h
  | xn k ds => cases h
def isiD (kt : Ty → Option Bool) (d : D) (S : Sto) : R D := .ofO (((tyOf S d).bind kt).map D.bl) S
def e_isi (kt : Ty → Option Bool) (m : EM) : EM := fun env S => (m env S).bind (isiD kt)
@[simp] theorem e_isi_eq (kt : Ty → Option Bool) (m : EM) (env : Env) (S : Sto) : e_isi kt m env S = (m env S).bind (isiD kt) := rfl
theorem isi_read {kt : Ty → Option Bool} {u : Value} {cv : V} {Q : VK} (hl : w.Γ.lk = none) (kk : KitOk w.K w.Γ u kt) (hc : ClsV cv u) (h : mE w W (e_isi kt ma) σ H Q) : tCB (rIsi w.K) (tCons (mE w W ma) (tCons (tC cv) tNil)) σ H Q := by
  obtain ⟨c, env, S, r, ev, h⟩ := h
  refine ⟨c, env, S, r, ev, (Po.bind h).imp fun v H1 ⟨c1, S1, d1, e1, r1, a1, h1⟩ => ?_⟩
  obtain ⟨y, hy, h1⟩ := Po.ofO h1
  cases ht : tyOf S1 d1 with
  | none => rw [ht] at hy; cases hy
  | some t =>
    rw [ht, Option.bind_some] at hy
    cases hk : kt t with
    | none => rw [hk] at hy; cases hy
    | some bb =>
      rw [hk] at hy; cases hy
      have q := fin_ok h1 r1 (.b bb)
      rcases tyOf_at hl r1 a1 ht with ⟨s, rfl, tx⟩ | ⟨k, C, dx, fs, p, rfl, rfl, g, hs⟩
      · exact ⟨v, cv, _, u, bb, rfl, hc, tx, kk.b _ _ hk, q⟩
      · obtain ⟨ic, ko⟩ := kk.o _ _ _ hk g
        exact ⟨_, cv, _, u, bb, rfl, hc, .base (.ins hs ic.cl ic.ha ic.hn ic.ht ic.hm), ko, q⟩
theorem c_isiT {T : String} {x : Str} {p q : Pos} (hl : Γ.lk = none) (hm : X.mg "isinstance" = none) (hT : X.mg x = none) (hb : bootBuiltins x = some (.type T)) (he : CE Γ X W e ma) (hg : Gl X "isinstance" := by rfl) (hgT : Gl X x := by rfl) (hn : x ≠ "__name__" := by decide) (hdb : (x == ("__debug__" : Str)) = false := by decide)
    (h1 : starEach [e, .Name x q] X.env = (false, eval e X.env) :: starEach [.Name x q] X.env := by rfl) (h2 : starEach [.Name x q] X.env = (false, eval (.Name x q) X.env) :: starEach [] X.env := by rfl) (hpl : (backTo pos (starEach [.Name x q] X.env)).any (·.1) = false := by rfl) :
    CE Γ X W (.Call (.Name "isinstance" p) [e, .Name x q] [] pos) (e_isi (ktB T) ma) :=
  PE.weak (pe_callB call_isi hg hm (by decide +kernel) (pa_cons he (pa_cons (pe_bltn (v := .ty T) hgT hT hb rfl hn hdb) pa_nil h2) h1) (by decide) (by decide) h1 hpl) fun σ H Q h => isi_read hl ktB_ok (.ty T) h
/-- the class's name -/
theorem c_isiC {C : Addr} {x : Str} {kt : Ty → Option Bool} {p q : Pos} (hl : Γ.lk = none) (hm : X.mg "isinstance" = none) (hC : X.mg x = some (.ref C)) (kk : KitOk X.K Γ (.ref C) kt) (he : CE Γ X W e ma) (hg : Gl X "isinstance" := by rfl) (hgT : Gl X x := by rfl) (hdb : (x == ("__debug__" : Str)) = false := by decide)
    (h1 : starEach [e, .Name x q] X.env = (false, eval e X.env) :: starEach [.Name x q] X.env := by rfl) (h2 : starEach [.Name x q] X.env = (false, eval (.Name x q) X.env) :: starEach [] X.env := by rfl) (hpl : (backTo pos (starEach [.Name x q] X.env)).any (·.1) = false := by rfl) :
    CE Γ X W (.Call (.Name "isinstance" p) [e, .Name x q] [] pos) (e_isi kt ma) :=
  PE.weak (pe_callB call_isi hg hm (by decide +kernel) (pa_cons he (pa_cons (pe_glob (v := .ref C) hgT hC rfl hdb) pa_nil h2) h1) (by decide) (by decide) h1 hpl) fun σ H Q h => isi_read hl kk (.own C) h
/-! ## a <= b <= c -/
def e_chain (g g' : D → D → Sto → R D) (ma mb mc : EM) : EM := fun env S => (ma env S).bind fun x S1 => (mb env S1).bind fun y S2 => (g x y S2).bind fun z S3 => match z with
  | .bl true => (mc env S3).bind fun u S4 => g' y u S4
  | .bl false => .ok (.bl false) S3
  | _ => .bad
@[simp] theorem e_chain_eq (g g' : D → D → Sto → R D) (ma mb mc : EM) (env : Env) (S : Sto) : e_chain g g' ma mb mc env S = (ma env S).bind fun x S1 => (mb env S1).bind fun y S2 => (g x y S2).bind fun z S3 => match z with
  | .bl true => (mc env S3).bind fun u S4 => g' y u S4
  | .bl false => .ok (.bl false) S3
  | _ => .bad := rfl
variable {op op' : CmpOp} {r r' : R2} {g g' : D → D → Sto → R D} {cc : Expr} {mc : EM}
theorem chain_read {Q : VK} (hg : GOp Γ X g r) (hg' : GOp Γ X g' r') (h : mE ⟨X.K, Γ⟩ W (e_chain g g' ma mb mc) σ H Q) : tChain r r' (mE ⟨X.K, Γ⟩ W ma) (mE ⟨X.K, Γ⟩ W mb) (mE ⟨X.K, Γ⟩ W mc) σ H Q := by
  obtain ⟨c, env, S, rp, ev, h⟩ := h
  refine ⟨c, env, S, rp, ev, (Po.bind h).imp fun v H1 ⟨c1, S1, d1, e1, r1, a1, h1⟩ => ?_⟩
  refine ⟨c1, env, S1, r1, ev.mono e1, (Po.bind h1).imp fun u H2 ⟨c2, S2, d2, e2, r2, a2, h2⟩ => ?_⟩
  refine hg W σ c2 H2 S2 d1 d2 v u _ r2 (a1.mono e2) a2 ((Po.bind h2).imp fun z H3 ⟨c3, S3, d3, e3, r3, a3, h3⟩ => ?_)
  cases d3 with
  | bl k =>
    refine ⟨k, a3.bl, ?_⟩
    cases k with
    | true => exact ⟨c3, env, S3, r3, ((ev.mono e1).mono e2).mono e3, (Po.bind h3).imp fun u4 H4 ⟨c4, S4, d4, e4, r4, a4, h4⟩ => hg' W σ c4 H4 S4 d2 d4 u u4 Q r4 ((a2.mono e3).mono e4) a4 h4⟩
    | false => exact fin_ok h3 r3 (.b _)
  | _ => exact h3.elim
theorem c_chain (ho : OpR X (compareOp op) r) (hg : GOp Γ X g r) (ho' : OpR X (compareOp op') r') (hg' : GOp Γ X g' r') (ha : CE Γ X W a ma) (hb : CE Γ X W b mb) (hc : CE Γ X W cc mc) (hl : lastMarks [op, op'] [b, cc] = false := by rfl) : CE Γ X W (.Compare a [op, op'] [b, cc] pos) (e_chain g g' ma mb mc) :=
  PE.weak (pe_chain ho ho' ha hb hc hl) fun σ H Q h => chain_read hg hg' h
theorem c_tchain (ho : OpR X (compareOp op) r) (hg : GOp Γ X g r) (ho' : OpR X (compareOp op') r') (hg' : GOp Γ X g' r') (ha : CE Γ X W a ma) (hb : CE Γ X W b mb) (hc : CE Γ X W cc mc) (hl : lastMarks [op, op'] [b, cc] = false := by rfl) : CT Γ X W (.Compare a [op, op'] [b, cc] pos) (t_b (e_chain g g' ma mb mc)) :=
  PT.weak (pt_chain ho ho' ha hb hc hl) fun σ H Q h => chain_read hg hg' (tB_ok h)
/-! ## lists of one kind -/
def blO : D → Option Bool
  | .bl b => some b
  | _ => none
def inO : D → Option Int
  | .int i => some i
  | _ => none
def stO : D → Option Str
  | .str x => some x
  | _ => none
def allO {α : Type} (f : D → Option α) : List D → Option (List α)
  | [] => some []
  | d :: r => (f d).bind fun x => (allO f r).map fun y => x :: y
@[simp] theorem allO_nil {α : Type} (f : D → Option α) : allO f [] = some [] := rfl
@[simp] theorem allO_cons {α : Type} (f : D → Option α) (d : D) (r : List D) : allO f (d :: r) = (f d).bind fun x => (allO f r).map fun y => x :: y := rfl
@[simp] theorem inO_int (i : Int) : inO (.int i) = some i := rfl
@[simp] theorem stO_str (i : Str) : stO (.str i) = some i := rfl
@[simp] theorem blO_bl (i : Bool) : blO (.bl i) = some i := rfl
theorem allO_map {α : Type} {f : D → Option α} {g : α → D} (h : ∀ x, f (g x) = some x) : ∀ xs : List α, allO f (xs.map g) = some xs
  | [] => rfl
  | x :: r => by rw [List.map_cons, allO_cons, h, Option.bind_some, allO_map h r]; rfl
theorem allO_at {α : Type} {f : D → Option α} {fv : α → V} (hf : ∀ d x v, f d = some x → At w c H n d v → v = fv x) : ∀ {ds : List D} {xs : List α} {vs : List V}, allO f ds = some xs → Ats w c H n ds vs → vs = xs.map fv
  | [], xs, vs, h, a => by cases h; exact a.unnil
  | d :: r, xs, vs, h, a => by
    rw [allO_cons] at h
    obtain ⟨v, vr, rfl, a1, a2⟩ := a.uncons
    cases hx : f d with
    | none => rw [hx] at h; cases h
    | some x =>
      rw [hx, Option.bind_some] at h
      cases hr : allO f r with
      | none => rw [hr] at h; cases h
      | some rs => rw [hr] at h; cases h; rw [List.map_cons, hf d x v hx a1, allO_at hf hr a2]
theorem inO_at {d : D} {i : Int} {v : V} (h : inO d = some i) (a : At w c H n d v) : v = .int i := by
  cases d with
  | int j => cases h; exact a.int
  | _ => cases h
theorem stO_at {d : D} {i : Str} {v : V} (h : stO d = some i) (a : At w c H n d v) : v = .str i := by
  cases d with
  | str j => cases h; exact a.str
  | _ => cases h
theorem blO_at {d : D} {i : Bool} {v : V} (h : blO d = some i) (a : At w c H n d v) : v = .bl i := by
  cases d with
  | bl j => cases h; exact a.bl
  | _ => cases h
theorem lstO {α : Type} {f : D → Option α} {fv : α → V} (hf : ∀ {c : Cn} {H : Hp} {n : Nat} d x v, f d = some x → At w c H n d v → v = fv x) {d : D} {v : V} {xs : List α} (r : Rep w c H S) (a : At w c H S.length d v) (h : (lstOf S d).bind (allO f) = some xs) : ∃ p, v = .ref p ∧ SqL w.K H p (xs.map fv) := by
  cases hl : lstOf S d with
  | none => rw [hl] at h; cases h
  | some ds =>
    rw [hl, Option.bind_some] at h
    obtain ⟨p, vs, rfl, g, t⟩ := lstOf_at r a hl
    rw [allO_at (f := f) (fv := fv) (fun d x v => hf d x v) h t] at g
    exact ⟨p, rfl, SqL.of g⟩
def allD (x : D) (S : Sto) : R D := .ofO (((lstOf S x).bind (allO blO)).map fun bs => D.bl (bs.all id)) S
def anyD (x : D) (S : Sto) : R D := .ofO (((lstOf S x).bind (allO blO)).map fun bs => D.bl (bs.any id)) S
def sumD (x : D) (S : Sto) : R D := .ofO (((lstOf S x).bind (allO inO)).map fun bs => D.int bs.sum) S
theorem Po.ofM {α β : Type} {o : Option α} {f : α → β} {rel : Cn → Hp → Nat → β → V → Prop} {Q : V → Hp → Prop} (h : Po w W rel σ c H n (R.ofO (o.map f) S) Q) : ∃ x, o = some x ∧ Po w W rel σ c H n (.ok (f x) S) Q := by
  obtain ⟨y, hy, h⟩ := Po.ofO h
  cases o with
  | none => cases hy
  | some x => cases hy; exact ⟨x, rfl, h⟩
theorem g_all : GCall Γ X (f1 allD) (rAll X.K) := by
  refine .one fun W σ c H S x v Q r a h => ?_
  obtain ⟨bs, hb, h⟩ := Po.ofM h
  obtain ⟨p, rfl, g⟩ := lstO (fv := V.bl) (fun d x v h a => blO_at h a) r a hb
  exact ⟨p, bs, rfl, g, fin_ok h r (.b _)⟩
theorem g_sum : GCall Γ X (f1 sumD) (rSum X.K) := by
  refine .one fun W σ c H S x v Q r a h => ?_
  obtain ⟨bs, hb, h⟩ := Po.ofM h
  obtain ⟨p, rfl, g⟩ := lstO (fv := V.int) (fun d x v h a => inO_at h a) r a hb
  exact ⟨p, bs, rfl, g, fin_ok h r (.i _)⟩
/-- the greatest -/
def maxL : List Int → Int
  | [] => 0
  | [x] => x
  | x :: y :: r => max x (maxL (y :: r))
theorem maxL_mem : ∀ {ns : List Int}, ns ≠ [] → maxL ns ∈ ns
  | [], h => absurd rfl h
  | [x], _ => by simp [maxL]
  | x :: y :: r, _ => by
    have ih := maxL_mem (ns := y :: r) (by simp)
    unfold maxL
    by_cases hx : x ≤ maxL (y :: r)
    · rw [Int.max_eq_right hx]; exact List.mem_cons_of_mem _ ih
    · rw [Int.max_eq_left (by omega)]; exact List.mem_cons_self
theorem maxL_le : ∀ {ns : List Int} {y : Int}, y ∈ ns → y ≤ maxL ns
  | [], y, h => by cases h
  | [x], y, h => by simp at h; simp [maxL, h]
  | x :: z :: r, y, h => by
    unfold maxL
    rcases List.mem_cons.mp h with rfl | h
    · exact Int.le_max_left _ _
    · exact Int.le_trans (maxL_le h) (Int.le_max_right _ _)
theorem maxL_uniq {ns : List Int} {m : Int} (h : m ∈ ns) (g : ∀ y ∈ ns, y ≤ m) : m = maxL ns := Int.le_antisymm (maxL_le h) (g _ (maxL_mem fun e => by rw [e] at h; cases h))
def maxD (x : D) (S : Sto) : R D := .ofO (((lstOf S x).bind (allO inO)).bind fun ns => if 0 < ns.length then some (D.int (maxL ns)) else none) S
theorem g_max : GCall Γ X (f1 maxD) (rMax X.K) := by
  refine .one fun W σ c H S x v Q r a h => ?_
  obtain ⟨y, hy, h⟩ := Po.ofO h
  cases hb : (lstOf S x).bind (allO inO) with
  | none => rw [hb] at hy; cases hy
  | some ns =>
    rw [hb, Option.bind_some] at hy
    by_cases hn : 0 < ns.length
    · rw [if_pos hn] at hy; cases hy
      obtain ⟨p, rfl, g⟩ := lstO (fv := V.int) (fun d x v h a => inO_at h a) r a hb
      exact ⟨p, ns, rfl, g, hn, fun m hm hg => by rw [maxL_uniq hm hg]; exact fin_ok h r (.i _)⟩
    · rw [if_neg hn] at hy; cases hy
/-- max(.., default=None) -/
def maxdD (x : D) (S : Sto) : R D := .ofO (((lstOf S x).bind (allO inO)).map fun ns => if ns = [] then D.non else D.int (maxL ns)) S
/-- sorted ints -/
def sortI (ns : List Int) : List Int := ns.mergeSort fun x y => decide (x ≤ y)
def sortD (x : D) (S : Sto) : R D := .ofO (((lstOf S x).bind (allO inO)).map fun ns => D.lst ((sortI ns).map D.int)) S
/-! ## max(.., default=None) -/
/-! ## a range as a tuple, as a list -/
def rgD (f : List D → D) (x y : D) (S : Sto) : R D := match x, y with
  | .int i, .int j => .if (-(2 ^ 62) ≤ i ∧ i < 2 ^ 62 ∧ -(2 ^ 62) ≤ j ∧ j < 2 ^ 62 ∧ (j - i).toNat ≤ 2 ^ 24) (.ok (f (rngD i (j - i).toNat)) S)
  | _, _ => .bad
@[simp] theorem rgD_int (f : List D → D) (i j : Int) (S : Sto) : rgD f (.int i) (.int j) S = .if (-(2 ^ 62) ≤ i ∧ i < 2 ^ 62 ∧ -(2 ^ 62) ≤ j ∧ j < 2 ^ 62 ∧ (j - i).toNat ≤ 2 ^ 24) (.ok (f (rngD i (j - i).toNat)) S) := rfl
/-! ## t1 = t2 = e -/
def s_asg2 (m : EM) (g1 g2 : GM) : SM := fun env S => (m env S).toS env fun d S1 => match (g1 d env).bind (g2 d) with
  | some env1 => .next env1 S1
  | none => .bad
@[simp] theorem s_asg2_eq (m : EM) (g1 g2 : GM) (env : Env) (S : Sto) : s_asg2 m g1 g2 env S = (m env S).toS env fun d S1 => match (g1 d env).bind (g2 d) with
  | some env1 => .next env1 S1
  | none => .bad := rfl
/-- x, y = a, b -/
def s_par (i j : Nat) (m : AM) : SM := fun env S => (m env S).toS env fun ds S1 => match ds with
  | [x, y] => .next ((env.set i (some x)).set j (some y)) S1
  | _ => .bad
@[simp] theorem s_par_eq (i j : Nat) (m : AM) (env : Env) (S : Sto) : s_par i j m env S = (m env S).toS env fun ds S1 => match ds with
  | [x, y] => .next ((env.set i (some x)).set j (some y)) S1
  | _ => .bad := rfl
/-! ## while -/
def whileS (t : TM) (body : SM) : Nat → SM
  | 0 => fun _ _ => .bad
  | f + 1 => fun env S => (t env S).toS env fun k S1 => if k = true then (match body env S1 with
      | .next env2 S2 => whileS t body f env2 S2
      | .cnt env2 S2 => whileS t body f env2 S2
      | .brk env2 S2 => .next env2 S2
      | x => x) else .next env S1
theorem c_while {fuel : Nat} {body : List Stmt} {pm : TM} {m : SM} (hp : PassesOwn (model X.prog X.w) X.A X.env X.xe) (ht : CT Γ X W a pm) (hb : CSs Γ X W body m) : CS Γ X W (.While a body [] pos) (whileS pm m fuel) := by
  refine PS.weak (ps_while hp ht hb) fun Dn σ H ⟨c, env, S, r, ev, h⟩ => ?_
  refine ⟨fun f σ' H' => ∃ c2 env2 S2, Rep ⟨X.K, Γ⟩ c2 H' S2 ∧ EnvR ⟨X.K, Γ⟩ c2 H' S2.length σ' env2 ∧ PoS ⟨X.K, Γ⟩ W c2 H' S2.length (whileS pm m f env2 S2) Dn, ⟨fuel, c, env, S, r, ev, h⟩, ?_⟩
  rintro f σ' H' ⟨c2, env2, S2, r2, ev2, h2⟩
  cases f with
  | zero => exact h2.elim
  | succ f =>
    refine ⟨c2, env2, S2, r2, ev2, (PoS.part ev2 h2).imp fun k H1 ⟨c1, S1, d1, e1, r1, a1, ev1, h1⟩ => ?_⟩
    cases (show k = d1 from a1)
    cases k with
    | false => exact h1 c1 H1 σ' Ext.refl r1 ev1
    | true =>
      refine ⟨fun σ3 H3 => ∃ c3 env3 S3, Rep ⟨X.K, Γ⟩ c3 H3 S3 ∧ EnvR ⟨X.K, Γ⟩ c3 H3 S3.length σ3 env3 ∧ PoS ⟨X.K, Γ⟩ W c3 H3 S3.length (whileS pm m f env3 S3) Dn, fun σ3 H3 q => ⟨f, Nat.lt_succ_self _, q⟩, c1, env2, S1, r1, ev1, ?_⟩
      rw [if_pos rfl] at h1
      cases hm : m env2 S1 with
      | next env4 S4 => rw [hm] at h1; exact fun c4 H4 σ4 e4 r4 ev4 => ⟨c4, env4, S4, r4, ev4, PoS.mono e4 h1⟩
      | cnt env4 S4 => rw [hm] at h1; exact fun c4 H4 σ4 e4 r4 ev4 => ⟨c4, env4, S4, r4, ev4, PoS.mono e4 h1⟩
      | brk env4 S4 => rw [hm] at h1; exact h1
      | ret d S4 => rw [hm] at h1; exact h1
      | ex x env4 S4 => rw [hm] at h1; exact h1
      | bad => rw [hm] at h1; exact h1.elim
/-! ## texts walked, compared -/
def i_str (m : EM) : IM := fun env S => (m env S).bind fun d S1 => match d with
  | .str x => .ok (x.cps.toList.map fun k => .str ⟨#[k]⟩, none) S1
  | _ => .bad
def strLeD (x y : D) (S : Sto) : R D := match x, y with
  | .str i, .str j => .ok (.bl (!decide (j.cps.toList < i.cps.toList))) S
  | _, _ => .bad
@[simp] theorem strLeD_eq (i j : Str) (S : Sto) : strLeD (.str i) (.str j) S = .ok (.bl (!decide (j.cps.toList < i.cps.toList))) S := rfl
theorem g_strLe : GOp Γ X strLeD (fun x y H Q => ∃ i j, x = .str i ∧ y = .str j ∧ Q (.bl (!decide (j.cps.toList < i.cps.toList))) H) := by
  intro W σ c H S x y v u Q r a b h
  cases x with
  | str i =>
    cases y with
    | str j => exact ⟨i, j, a.str, b.str, fin_ok h r (.b _)⟩
    | _ => exact h.elim
  | _ => exact h.elim
/-! ## x in xs -/
def rIn3 (K : PySem.W.Frag) : R2 := fun x y H Q => rIn K false x y H Q ∨ rInD K x y H Q
def rNi3 (K : PySem.W.Frag) : R2 := fun x y H Q => rIn K true x y H Q ∨ rNotInD K x y H Q
/-- plain values -/
def flD : D → Option V := DV
def inF (neg : Bool) (x y : D) (S : Sto) : R D := match DV x, (seqOf S y).bind (allO DV) with
  | some p, some ps => .ok (.bl (neg ^^ inV p ps)) S
  | _, _ => .bad
theorem DV_at {d : D} {u v : V} (h : DV d = some u) (a : At w c H n d v) : v = u ∧ flatV u = true := by
  cases d with
  | int i => cases h; exact ⟨a.int, rfl⟩
  | bl i => cases h; exact ⟨a.bl, rfl⟩
  | str i => cases h; exact ⟨a.str, rfl⟩
  | non => cases h; exact ⟨a.non, rfl⟩
  | _ => cases h
theorem DV_all : ∀ {ds : List D} {ps vs : List V}, allO DV ds = some ps → Ats w c H n ds vs → vs = ps ∧ ps.all flatV = true
  | [], ps, vs, h, a => by cases h; exact ⟨a.unnil, rfl⟩
  | d :: r, ps, vs, h, a => by
    rw [allO_cons] at h
    obtain ⟨v, vr, rfl, a1, a2⟩ := a.uncons
    cases hx : DV d with
    | none => rw [hx] at h; cases h
    | some x =>
      rw [hx, Option.bind_some] at h
      cases hr : allO DV r with
      | none => rw [hr] at h; cases h
      | some rs =>
        rw [hr] at h; cases h
        obtain ⟨e1, f1⟩ := DV_at hx a1
        obtain ⟨e2, f2⟩ := DV_all hr a2
        exact ⟨by rw [e1, e2], by rw [List.all_cons, f1, f2]; rfl⟩
theorem inF_at {neg : Bool} {x y : D} {v u : V} {Q : VK} (r : Rep w c H S) (a : At w c H S.length x v) (b : At w c H S.length y u) (h : PoE w W σ c H S.length (inF neg x y S) Q) : rIn w.K neg v u H Q := by
  unfold inF at h
  cases hx : DV x with
  | none => rw [hx] at h; exact h.elim
  | some p =>
    cases hs : seqOf S y with
    | none => rw [hx, hs] at h; exact h.elim
    | some ds =>
      cases ha : allO DV ds with
      | none => rw [hx, hs, Option.bind_some, ha] at h; exact h.elim
      | some ps =>
        rw [hx, hs, Option.bind_some, ha] at h
        obtain ⟨q, vs, rfl, g, t⟩ := seqOf_at r b hs
        obtain ⟨e1, f1⟩ := DV_at hx a
        obtain ⟨e2, f2⟩ := DV_all ha t
        subst e1; subst e2
        refine ⟨q, vs, rfl, g, f1, f2, ?_⟩
        have := fin_ok h r (.b _)
        cases neg <;> simpa using this
theorem g_inF : GOp Γ X (inF false) (rIn X.K false) := fun W σ c H S x y v u Q r a b h => inF_at (w := ⟨X.K, Γ⟩) r a b h
end
end Mm
set_option maxRecDepth 100000
/-! A list extended by a tuple; dicts. -/
namespace L2
open PySem PySem.Spec PyProof.Rows
set_option maxRecDepth 100000 in
theorem ext_tup (l : Addr) (items : Array Value) (n : Nat) (b : Addr) (items2 : Array Value) (n2 : Nat) (dd : Option Addr) (sl : Array (Option Value)) (hs0 : ¬(!items.isEmpty && Builtin.List.listTooLong (items.size + items2.size)) = true) (hs1 : items.size ≤ sizeLine) (hs2 : items.size + items2.size ≤ sizeLine + 1) :
    Meets (Builtin.«list.extend» ⟨[.ref l, .ref b], []⟩) (fun _ R s => s.heap.get? l = some { cls := .type "list", dict := none, data := .seq items n, slots := #[] } ∧ s.heap.get? b = some { cls := .type "tuple", dict := dd, data := .seq items2 n2, slots := sl } ∧ R (.ok (.ret Value.none)) { s with heap := s.heap.update l (Obj.mapSeq fun x => x ++ items2), toks := s.toks }) :=
  .of_wp fun prog w A R s h => by
    obtain ⟨hp, g, d, tk, os⟩ := s
    obtain ⟨hl, hb, h⟩ := h
    have f1 := AutoSeq1.idx_int
    have f2 := AutoSeq1.sub_tuple_tuple
    have f3 := AutoSeq1.sub_list_list
    have f4 := AutoSeq1.sub_tuple_list
    have f5 := AutoSeq1.sub_list_tuple
    have hz' : (items ++ items2).size ≤ sizeLine + 1 := by rw [Array.size_append]; exact hs2
    wp_walk using (wpAny_updateSeq hl rfl (hz := hs1) (_hz' := hz')), wpAny_loadPart' hl, wpAny_loadPart' hb
    exact ⟨_, rfl, h⟩
/-- xs.extend(ys), ys a list or a tuple -/
def rExtT (K : PySem.W.Frag) : V → List V → Hp → VK → Prop := fun x vs H Q => rExtend x vs H Q ∨ ∃ l b xs zs, x = V.ref l ∧ vs = [V.ref b] ∧ H l = some (HO.lst xs) ∧ SqT K H b zs ∧ xs.length + zs.length ≤ sizeLine ∧ Q V.non (upd H l (HO.lst (xs ++ zs)))
theorem mt_ext2 {X : Cx} : MtM X "list.extend" (rExtT X.K) := by
  intro pins s σ H x vs v us Q I rx rv h
  rcases h with h | h
  · exact mt_extend pins s σ H x vs v us Q I rx rv h
  obtain ⟨l, b, xs, zs, rfl, rfl, hH, hB, hz, q⟩ := h
  cases rx
  obtain ⟨u, rfl, ru⟩ := rv.one
  cases ru
  obtain ⟨z, its, n, r, hl, e⟩ := I.lstM hH
  obtain ⟨its2, r2, ⟨o2, e2, c2, n2, d2⟩, z2⟩ := I.tuple hB
  obtain ⟨oc, od, odt, os⟩ := o2
  dsimp only at c2 d2
  subst c2; subst d2
  have hl2 : its2.length = zs.length := r2.length.symm
  have hsz : its.toArray.size + its2.toArray.size ≤ sizeLine := by rw [List.size_toArray, List.size_toArray]; omega
  have hlong : ¬ (!its.toArray.isEmpty && Builtin.List.listTooLong (its.toArray.size + its2.toArray.size)) = true := by
    rw [notLongL hsz, Bool.and_false]
    exact Bool.false_ne_true
  refine call_meets F.slot_list_extend ⟨_, e, rfl⟩ F.entry_list_extend (F.args_list_extend_2 _ _)
    (ext_tup l its.toArray n b its2.toArray n2 _ _ hlong (by rw [List.size_toArray]; omega) (by omega)) ⟨e, e2, ?_⟩
  refine ⟨.non, _, I.lset (its' := its ++ its2) hH e (by simp) (r.append r2) ?_, rfl, q⟩
  rw [List.length_append]
  omega
/-! ## keys that are any tuple -/
/-- what the dict at a holds at the key y; the key may be a written tuple -/
def DGetK (K : PySem.W.Frag) (H : Hp) (a : Addr) (y : V) (r : Option V) : Prop :=
  (∃ kvs k, Rd H a (.dK kvs) ∧ y = kV k ∧ r = valV kvs k) ∨ ∃ kvs k b, Rd H a (.dT kvs) ∧ y = .ref b ∧ SqT K H b (k.map kV) ∧ r = valV kvs k
section
variable {X : Cx} {pins : List (Addr × Obj)} {σ : St} {H : Hp} {s : Shared} {a : Addr} {y v : V} {u r : Value} {o : Option V}
theorem key_sq {b : Addr} {k : List Key} (I : Inv X pins σ H s) (h : SqT X.K H b (k.map kV)) : (tupleKind (mixKind X.prog X.w)).is s.heap k b := by
  obtain ⟨its, r, ⟨o, h1, h2, n, h3⟩, _⟩ := I.tuple h
  exact ⟨o, its.toArray, n, h1, h2, h3, by simpa using items_are r⟩
theorem dk_type (I : Inv X pins σ H s) (g : DGetK X.K H a y o) : s.TypeIs (.ref a) "dict" := by
  rcases g with ⟨kvs, k, e, _, _⟩ | ⟨kvs, k, b, e, _, _, _⟩
  · exact dict_typeIs I (.inl ⟨kvs, k, e, rfl, rfl⟩)
  · obtain ⟨_, _, xs, _, dd⟩ := dt_rd I.hok e
    exact dd.typeIs
theorem dk_getItem {A : Around} {E : Value → Shared → Prop} {Q : Value → Shared → Prop} (hu : A.units + 1 < cLine) (I : Inv X pins σ H s) (g : DGetK X.K H a y (some v)) (ry : RelV y u) (h : ∀ w' s', Inv X pins σ H s' → RelV v w' → Q w' s') :
    wpAny (model X.prog X.w) A (getItem (.ref a) u) Q E s := by
  rcases g with ⟨kvs, k, e, ey, l⟩ | ⟨kvs, k, b, e, ey, eb, l⟩
  · exact d_getItem hu I (.inl ⟨kvs, k, e, ey, l⟩) ry h
  · subst ey
    cases (show u = Value.ref b from ry)
    obtain ⟨z, hd, xs, rel, dd⟩ := dt_rd I.hok e
    obtain ⟨w', hw, rw'⟩ := RelO.some_of (v := v) (o := (atKey xs k).map (·.2)) (by rw [l]; exact rel.val k)
    obtain ⟨p, hp, hp2⟩ := Option.map_eq_some_iff.mp hw
    refine wpAny_getItem_heap (tupleKind_room_in1 hu) (key_sq I eb) dd hp ?_
    rw [hp2]
    exact h w' _ (I.tok _) rw'
theorem dk_in {A : Around} {E : Value → Shared → Prop} {Q : Value → Shared → Prop} (hu : A.units + 1 < cLine) (I : Inv X pins σ H s) (g : DGetK X.K H a y o) (ry : RelV y u) (h : ∀ s', Inv X pins σ H s' → Q (.bool o.isSome) s') :
    wpAny (model X.prog X.w) A (compareOp .In u (.ref a)) Q E s := by
  rcases g with ⟨kvs, k, e, ey, l⟩ | ⟨kvs, k, b, e, ey, eb, l⟩
  · exact d_in hu I (.inl ⟨kvs, k, e, ey, l⟩) ry h
  · subst ey
    cases (show u = Value.ref b from ry)
    obtain ⟨z, hd, xs, rel, dd⟩ := dt_rd I.hok e
    refine wpAny_in_heap (tupleKind_room_in1 hu) (key_sq I eb) hd dd ?_
    have q := (rel.val k).isSome_eq
    rw [Option.isSome_map] at q
    rw [← q, ← l]
    exact h _ (I.tok _)
/-- y in d -/
def rDIn (K : PySem.W.Frag) : R2 := fun y x H Q => ∃ a o, x = .ref a ∧ DGetK K H a y o ∧ Q (.bl o.isSome) H
theorem op_dIn (hu : X.A.units + 1 < cLine) : OpR X (compareOp .In) (rDIn X.K) := by
  intro pins s σ H y x u v Q I ry rx h
  obtain ⟨a, o, rfl, g, q⟩ := h
  obtain rfl : v = Value.ref a := rx
  exact dk_in hu I g ry fun s' I' => ⟨.bl o.isSome, H, I', rfl, q⟩
/-- d[y] -/
def tDGetK (K : PySem.W.Frag) (td ty : TE) : TE := fun σ H Q => td σ H fun x H1 => ty σ H1 fun y H2 => ∃ a v, x = .ref a ∧ DGetK K H2 a y (some v) ∧ Q v H2
theorem pe_dgetK {o i : Expr} {pos : Pos} {td ty : TE} (hu : X.A.units + 1 < cLine) (ho : PE X o td) (hi : PE X i ty) (hs : NoSl i) : PE X (.Subscript o i pos) (tDGetK X.K td ty) := by
  refine ⟨fun pins s σ H Q I h => ?_⟩
  refine subD_of PySem.F.slot_dict_getitem.lookup hs (thn (ho.run pins s σ H _ I h) fun u s1 ⟨x, H1, I1, rx, q1⟩ => thn (hi.run pins s1 σ H1 _ I1 q1) fun iv s2 ⟨y, H2, I2, ry, a, v, ex, g, q2⟩ => ?_)
  subst ex
  obtain rfl : u = Value.ref a := rx
  exact ⟨dk_type I2 g, dk_getItem hu I2 g ry fun w' s3 I3 rw' => ⟨v, H2, I3, rw', q2⟩⟩
end
end L2
namespace Mm
open PySem L2
section
variable {w : Wn} {W : WX} {σ : St} {c c' : Cn} {H H' : Hp} {n n' : Nat} {S : Sto} {env : Env}
variable {Γ : Cls'} {X : Cx} {a b e o tg : Expr} {es : List Expr} {ma mb mo : EM} {am : AM} {pos : Pos} {Dn : Ends}
/-! ## xs.extend(ys) -/
def ext2D (x : D) (ds : List D) (S : Sto) : R D := match x, ds with
  | .loc k, [.tup fs] => match S[k]? with
    | some (.lst es) => .if (es.length + fs.length ≤ sizeLine) (.ok .non (S.set k (.lst (es ++ fs))))
    | _ => .bad
  | x, ds => extD x ds S
@[simp] theorem ext2D_tup (S : Sto) (k : Nat) (fs : List D) : ext2D (.loc k) [.tup fs] S = match S[k]? with
    | some (.lst es) => .if (es.length + fs.length ≤ sizeLine) (.ok .non (S.set k (.lst (es ++ fs))))
    | _ => .bad := rfl
@[simp] theorem ext2D_lst (S : Sto) (k : Nat) (fs : List D) : ext2D (.loc k) [.lst fs] S = extD (.loc k) [.lst fs] S := rfl
@[simp] theorem ext2D_loc (S : Sto) (k j : Nat) : ext2D (.loc k) [.loc j] S = extD (.loc k) [.loc j] S := rfl
theorem gm_ext2 : GMt Γ X ext2D (rExtT X.K) := by
  intro W σ c H S x v ds vs Q r a t h
  have go : ext2D x ds S = extD x ds S → rExtT X.K v vs H Q := fun e => by
    rw [e] at h
    exact .inl (gm_ext W σ c H S x v ds vs Q r a t h)
  cases x with
  | loc k =>
    cases ds with
    | nil => exact go rfl
    | cons y rs =>
      cases rs with
      | cons z rs => cases y <;> exact go rfl
      | nil =>
        cases y with
        | tup fs =>
          rw [ext2D_tup] at h
          cases hk : S[k]? with
          | none => rw [hk] at h; exact h.elim
          | some o =>
            cases o with
            | lst es =>
              rw [hk] at h
              obtain ⟨u, rfl, ay⟩ := t.un1
              obtain ⟨hl, h⟩ := Po.if h
              unfold At at a
              obtain ⟨us, g, te⟩ := r.get hk
              obtain ⟨q, ws, rfl, g2, tf⟩ := ay.tup
              exact .inr ⟨c.ρ k, q, us, ws, a.2, rfl, g, g2, by rw [te.len, tf.len]; exact hl, wr_end rfl r a.1 ⟨_, g, trivial⟩ (te.app tf) h⟩
            | _ => rw [hk] at h; exact h.elim
        | _ => exact go rfl
  | _ => exact go rfl
/-! ## dicts -/
def unK : D → Option Key
  | .int i => some (.inl i)
  | .str x => some (.inr x)
  | _ => none
def unT : D → Option (List Key)
  | .tup ds => allO unK ds
  | _ => none
/-- a tracked tuple's keys -/
def unR : D → Option (List Key)
  | .ttp ds => allO unK ds
  | _ => none
def kkO (ks : List D) : Option (List Key) := allO unK ks
def ktO : List D → Option (List (List Key))
  | .non :: r => allO unT r
  | _ => none
abbrev tupD (k : List Key) : D := .tup (k.map keyD)
theorem unK_key (k : Key) : unK (keyD k) = some k := by cases k <;> rfl
theorem unT_key (k : List Key) : unT (tupD k) = some k := allO_map unK_key k
theorem kkO_map (kk : List Key) : kkO (kk.map keyD) = some kk := allO_map unK_key kk
theorem ktO_map (kk : List (List Key)) : ktO (.non :: kk.map tupD) = some kk := allO_map (g := tupD) unT_key kk
theorem kkO_bl (b : Bool) (ks : List D) : kkO (.bl b :: ks) = none := rfl
theorem ktO_bl (b : Bool) (ks : List D) : ktO (.bl b :: ks) = none := rfl
theorem kkO_non (ks : List D) : kkO (.non :: ks) = none := rfl
theorem unK_inv {d : D} {k : Key} (h : unK d = some k) : d = keyD k := by
  cases d with
  | int i => cases h; rfl
  | str i => cases h; rfl
  | _ => cases h
theorem allK_inv : ∀ {ds : List D} {k : List Key}, allO unK ds = some k → ds = k.map keyD
  | [], k, h => by cases h; rfl
  | d :: r, k, h => by
    rw [allO_cons] at h
    cases hx : unK d with
    | none => rw [hx] at h; cases h
    | some x =>
      rw [hx, Option.bind_some] at h
      cases hr : allO unK r with
      | none => rw [hr] at h; cases h
      | some rs => rw [hr] at h; cases h; rw [List.map_cons, unK_inv hx, allK_inv hr]
theorem unT_inv {d : D} {k : List Key} (h : unT d = some k) : d = tupD k := by
  cases d with
  | tup ds => exact congrArg D.tup (allK_inv h)
  | _ => cases h
theorem unR_inv {d : D} {k : List Key} (h : unR d = some k) : d = .ttp (k.map keyD) := by
  cases d with
  | ttp ds => exact congrArg D.ttp (allK_inv h)
  | _ => cases h
theorem keyD_at {k : Key} {v : V} (a : At w c H n (keyD k) v) : v = kV k := by
  cases k with
  | inl i => exact a.int
  | inr i => exact a.str
theorem keysD_at : ∀ {k : List Key} {vs : List V}, Ats w c H n (k.map keyD) vs → vs = k.map kV
  | [], vs, a => a.unnil
  | k :: r, vs, a => by
    obtain ⟨v, vr, rfl, a1, a2⟩ := a.uncons
    rw [keyD_at a1, keysD_at a2]; rfl
def dicOf (S : Sto) (d : D) : Option (List D × List D) := match d with
  | .dic ks ds => some (ks, ds)
  | .loc j => match S[j]? with
    | some (.dic ks ds) => some (ks, ds)
    | _ => none
  | _ => none
@[simp] theorem dicOf_dic (S : Sto) (ks ds : List D) : dicOf S (.dic ks ds) = some (ks, ds) := rfl
@[simp] theorem dicOf_loc (S : Sto) (j : Nat) : dicOf S (.loc j) = match S[j]? with
    | some (.dic ks ds) => some (ks, ds)
    | _ => none := rfl
theorem dicOf_at {d : D} {v : V} {ks ds : List D} (r : Rep w c H S) (at_ : At w c H S.length d v) (h : dicOf S d = some (ks, ds)) :
    ∃ p vs, v = .ref p ∧ Ats w c H S.length ds vs ∧ ((∃ kk : List Key, DkA w H p (.dK (kk.zip vs)) ∧ kk.length = vs.length ∧ ks = kk.map keyD) ∨ (∃ kk : List (List Key), DkA w H p (.dT (kk.zip vs)) ∧ kk.length = vs.length ∧ ks = .non :: kk.map tupD) ∨ DkN w H p ks vs) := by
  cases d with
  | dic ks' ds' =>
    cases h
    unfold At at at_
    obtain ⟨p, vs, rfl, f, g, t⟩ := at_
    exact ⟨p, vs, rfl, t, g⟩
  | loc j =>
    rw [dicOf_loc] at h
    cases hj : S[j]? with
    | none => rw [hj] at h; cases h
    | some ob =>
      cases ob with
      | dic ks' ds' =>
        rw [hj] at h
        cases h
        unfold At at at_
        obtain ⟨vs, g, t⟩ := r.get hj
        refine ⟨_, vs, at_.2, t, ?_⟩
        rcases g with ⟨kk, g⟩ | ⟨kk, g⟩ | g
        · exact .inl ⟨kk, g.1, g.2⟩
        · exact .inr (.inl ⟨kk, g.1, g.2⟩)
        · exact .inr (.inr g)
      | _ => rw [hj] at h; cases h
  | _ => cases h
/-- what stands at the key k -/
def getDs {κ : Type} [DecidableEq κ] (kk : List κ) (ds : List D) (k : κ) : Option D := ((kk.zip ds).find? fun p => decide (p.1 = k)).map (·.2)
theorem getDs_at {κ : Type} [DecidableEq κ] {k : κ} : ∀ {kk : List κ} {ds : List D} {vs : List V}, Ats w c H n ds vs →
    (∃ d v, getDs kk ds k = some d ∧ valV (kk.zip vs) k = some v ∧ At w c H n d v) ∨ (getDs kk ds k = none ∧ valV (kk.zip vs) k = none)
  | [], ds, vs, t => .inr ⟨rfl, rfl⟩
  | k' :: r, [], vs, t => by rw [t.unnil]; exact .inr ⟨rfl, rfl⟩
  | k' :: r, d :: ds, vs, t => by
    obtain ⟨v, vr, rfl, a1, a2⟩ := t.uncons
    unfold getDs valV
    rw [List.zip_cons_cons, List.zip_cons_cons, List.find?_cons, List.find?_cons]
    by_cases e : k' = k
    · subst e
      simp only [decide_true, Option.map_some]
      exact .inl ⟨d, v, rfl, rfl, a1⟩
    · simp only [e, decide_false]
      exact getDs_at a2
/-- d[y] as it is looked up: none where it is not a key, or not there -/
def dgetO (p : List D × List D) (y : D) : Option (Option D) := match kkO p.1 with
  | some kk => (unK y).map fun k => getDs kk p.2 k
  | none => match ktO p.1 with
    | some kk => (unT y).map fun k => getDs kk p.2 k
    | none => none
theorem dget_at {x y : D} {v u : V} {p : List D × List D} {r : Option D} (rp : Rep w c H S) (a : At w c H S.length x v) (b : At w c H S.length y u) (h1 : dicOf S x = some p) (h2 : dgetO p y = some r) :
    ∃ q, v = .ref q ∧ ∃ ov, DGetK w.K H q u ov ∧ ((∃ d z, r = some d ∧ ov = some z ∧ At w c H S.length d z) ∨ (r = none ∧ ov = none)) := by
  obtain ⟨q, vs, rfl, t, g⟩ := dicOf_at (ks := p.1) (ds := p.2) rp a h1
  refine ⟨q, rfl, ?_⟩
  unfold dgetO at h2
  rcases g with ⟨kk, hq, hl, hk⟩ | ⟨kk, hq, hl, hk⟩ | ⟨o, kk, as, _, _, hk⟩
  · rw [hk, kkO_map] at h2
    obtain ⟨k, hy, rfl⟩ := Option.map_eq_some_iff.mp h2
    have ey := unK_inv hy
    subst ey
    refine ⟨valV (kk.zip vs) k, .inl ⟨_, k, hq.rd, keyD_at b, rfl⟩, ?_⟩
    rcases getDs_at (k := k) (kk := kk) t with ⟨d, z, h1, h2, h3⟩ | ⟨h1, h2⟩
    · exact .inl ⟨d, z, h1, h2, h3⟩
    · exact .inr ⟨h1, h2⟩
  · rw [hk, kkO_non] at h2
    dsimp only at h2
    rw [ktO_map] at h2
    obtain ⟨k, hy, rfl⟩ := Option.map_eq_some_iff.mp h2
    have ey := unT_inv hy
    subst ey
    obtain ⟨p2, us, rfl, sq, tk⟩ := b.tup
    rw [keysD_at tk] at sq
    refine ⟨valV (kk.zip vs) k, .inr ⟨_, k, p2, hq.rd, rfl, sq, rfl⟩, ?_⟩
    rcases getDs_at (k := k) (kk := kk) t with ⟨d, z, h1, h2, h3⟩ | ⟨h1, h2⟩
    · exact .inl ⟨d, z, h1, h2, h3⟩
    · exact .inr ⟨h1, h2⟩
  · rw [hk, kkO_bl] at h2
    dsimp only at h2
    rw [ktO_bl] at h2
    cases h2
def dgetD (x y : D) (S : Sto) : R D := .ofO (((dicOf S x).bind fun p => dgetO p y).bind id) S
def dinD (neg : Bool) (y x : D) (S : Sto) : R D := .ofO (((dicOf S x).bind fun p => dgetO p y).map fun r => D.bl (neg ^^ r.isSome)) S
theorem c_dget (hu : X.A.units + 1 < cLine) (ha : CE Γ X W a ma) (hb : CE Γ X W b mb) (hs : NoSl b := by exact fun _ _ => rfl) : CE Γ X W (.Subscript a b pos) (e_op dgetD ma mb) := by
  refine PE.weak (pe_dgetK hu ha hb hs) fun σ H Q ⟨c, env, S, r, ev, h⟩ => ?_
  refine ⟨c, env, S, r, ev, (Po.bind h).imp fun v H1 ⟨c1, S1, d1, e1, r1, a1, h1⟩ => ?_⟩
  refine ⟨c1, env, S1, r1, ev.mono e1, (Po.bind h1).imp fun u H2 ⟨c2, S2, d2, e2, r2, a2, h2⟩ => ?_⟩
  obtain ⟨d, hd, h2⟩ := Po.ofO h2
  cases hp : dicOf S2 d1 with
  | none => rw [hp] at hd; cases hd
  | some p =>
    rw [hp, Option.bind_some] at hd
    cases hg : dgetO p d2 with
    | none => rw [hg] at hd; cases hd
    | some rr =>
      rw [hg] at hd
      have hd : rr = some d := hd
      obtain ⟨q, rfl, ov, g, z⟩ := dget_at r2 (a1.mono e2) a2 hp hg
      rcases z with ⟨d', v', e1', e2', a'⟩ | ⟨e1', _⟩
      · rw [hd] at e1'; cases e1'
        rw [e2'] at g
        exact ⟨q, v', rfl, g, fin_ok h2 r2 a'⟩
      · rw [hd] at e1'; cases e1'
theorem g_din : GOp Γ X (dinD false) (rDIn X.K) := by
  intro W σ c H S y x u v Q r b a h
  obtain ⟨rr, hd, h⟩ := Po.ofM h
  cases hp : dicOf S x with
  | none => rw [hp] at hd; cases hd
  | some p =>
    rw [hp, Option.bind_some] at hd
    obtain ⟨q, rfl, ov, g, z⟩ := dget_at (w := ⟨X.K, Γ⟩) r a b hp hd
    refine ⟨q, ov, rfl, g, ?_⟩
    rcases z with ⟨d', v', rfl, rfl, _⟩ | ⟨rfl, rfl⟩
    · exact fin_ok h r (.b _)
    · exact fin_ok h r (.b _)
/-! ## {} -/
def e_dnew (ks : List D) : EM := fun _ S => .ok (.loc S.length) (S ++ [.dic ks []])
@[simp] theorem e_dnew_eq (ks : List D) (env : Env) (S : Sto) : e_dnew ks env S = .ok (.loc S.length) (S ++ [.dic ks []]) := rfl
theorem fin_dnew {ks : List D} {o : HO} {Q : VK} (h : PoE w W σ c H S.length (.ok (.loc S.length) (S ++ [.dic ks []])) Q) (r : Rep w c H S) {p : Addr} (hp : H p = none) (hq : ∀ c n, OAt w c (upd H p o) n p (.dic ks [])) : Q (.ref p) (upd H p o) := by
  have hl : (S ++ [SO.dic ks []]).length = S.length + 1 := by rw [List.length_append]; rfl
  refine h (c.nw S.length p) _ (.ref p) (by rw [hl]; exact Ext.nw hp) (r.nw hp (hq _ _)) ?_
  unfold At
  exact ⟨by rw [hl]; exact Nat.lt_succ_self _, by rw [Cn.nw_at]⟩
theorem c_dnewT : CE Γ X W (.Dict [] [] pos) (e_dnew [.non]) := PE.weak pe_dnewT fun σ H Q ⟨c, env, S, r, ev, h⟩ p hp => fin_dnew h r hp fun c n => ⟨[], .inr (.inl ⟨[], .inl upd_same, rfl, rfl⟩), .nil⟩
/-! ## d[y] = v -/
def putDs {κ : Type} [DecidableEq κ] (kk : List κ) (ds : List D) (k : κ) (z : D) : List κ × List D :=
  if (kk.any fun x => decide (x = k)) = true then (kk, List.zipWith (fun k' d => if k' = k then z else d) kk ds) else (kk ++ [k], ds ++ [z])
theorem any_zip {κ : Type} (p : κ → Bool) : ∀ {kk : List κ} {vs : List V}, kk.length = vs.length → ((kk.zip vs).any fun kv => p kv.1) = kk.any p
  | [], vs, h => rfl
  | k :: r, [], h => by simp at h
  | k :: r, v :: vs, h => by rw [List.zip_cons_cons, List.any_cons, List.any_cons, any_zip p (by simpa using h)]
theorem map_zip {κ : Type} [DecidableEq κ] (k : κ) (z : V) : ∀ {kk : List κ} {vs : List V}, kk.length = vs.length → ((kk.zip vs).map fun kv => if kv.1 = k then (kv.1, z) else kv) = kk.zip (List.zipWith (fun k' d => if k' = k then z else d) kk vs)
  | [], vs, h => rfl
  | k' :: r, [], h => by simp at h
  | k' :: r, v :: vs, h => by
    rw [List.zip_cons_cons, List.map_cons, map_zip k z (by simpa using h), List.zipWith_cons_cons, List.zip_cons_cons]
    by_cases e : k' = k
    · simp [e]
    · simp [e]
theorem zip_snoc {κ : Type} (k : κ) (z : V) : ∀ {kk : List κ} {vs : List V}, kk.length = vs.length → kk.zip vs ++ [(k, z)] = (kk ++ [k]).zip (vs ++ [z])
  | [], [], h => rfl
  | [], v :: vs, h => by simp at h
  | k :: r, [], h => by simp at h
  | k :: r, v :: vs, h => by
    rw [List.zip_cons_cons, List.cons_append, zip_snoc _ z (by simpa using h)]; rfl
theorem ats_zipW {κ : Type} [DecidableEq κ] {k : κ} {z : D} {u : V} (az : At w c H n z u) : ∀ {kk : List κ} {ds : List D} {vs : List V}, Ats w c H n ds vs → Ats w c H n (List.zipWith (fun k' d => if k' = k then z else d) kk ds) (List.zipWith (fun k' d => if k' = k then u else d) kk vs)
  | [], ds, vs, t => .nil
  | k' :: r, [], vs, t => by rw [t.unnil]; exact .nil
  | k' :: r, d :: ds, vs, t => by
    obtain ⟨v, vr, rfl, a1, a2⟩ := t.uncons
    rw [List.zipWith_cons_cons, List.zipWith_cons_cons]
    refine .cons ?_ (ats_zipW az a2)
    by_cases e : k' = k
    · rw [if_pos e, if_pos e]; exact az
    · rw [if_neg e, if_neg e]; exact a1
/-- the store's dict behind it -/
theorem put_zip {κ : Type} [DecidableEq κ] {k : κ} {z : D} {u : V} {kk : List κ} {ds : List D} {vs : List V} (az : At w c H n z u) (t : Ats w c H n ds vs) (hl : kk.length = vs.length) :
    ∃ us, putK (kk.zip vs) k u = (putDs kk ds k z).1.zip us ∧ (putDs kk ds k z).1.length = us.length ∧ Ats w c H n (putDs kk ds k z).2 us := by
  unfold putK putDs
  rw [any_zip (fun x => decide (x = k)) hl]
  by_cases e : (kk.any fun x => decide (x = k)) = true
  · rw [if_pos e, if_pos e]
    exact ⟨_, map_zip k u hl, by rw [List.length_zipWith, hl]; simp, ats_zipW az t⟩
  · rw [if_neg e, if_neg e]
    exact ⟨vs ++ [u], zip_snoc k u hl, by simp [hl], t.app (.one az)⟩
def dputO (ks ds : List D) (y z : D) : Option (List D × List D) := match kkO ks with
  | some kk => (unK y).bind fun k => if kk.length < sizeLine then some ((putDs kk ds k z).1.map keyD, (putDs kk ds k z).2) else none
  | none => match ktO ks with
    | some kk => (unR y).bind fun k => if kk.length < sizeLine then some (.non :: (putDs kk ds k z).1.map tupD, (putDs kk ds k z).2) else none
    | none => none
def dput (S : Sto) (x y z : D) : Option Sto := match x with
  | .loc j => match S[j]? with
    | some (.dic ks ds) => (dputO ks ds y z).map fun p => S.set j (.dic p.1 p.2)
    | _ => none
  | _ => none
@[simp] theorem dput_loc (S : Sto) (j : Nat) (y z : D) : dput S (.loc j) y z = match S[j]? with
    | some (.dic ks ds) => (dputO ks ds y z).map fun p => S.set j (.dic p.1 p.2)
    | _ => none := rfl
def s_dput (mv mo mi : EM) : SM := fun env S => (mv env S).toS env fun z S1 => (mo env S1).toS env fun x S2 => (mi env S2).toS env fun y S3 => match dput S3 x y z with
  | some S4 => .next env S4
  | none => .bad
@[simp] theorem s_dput_eq (mv mo mi : EM) (env : Env) (S : Sto) : s_dput mv mo mi env S = (mv env S).toS env fun z S1 => (mo env S1).toS env fun x S2 => (mi env S2).toS env fun y S3 => match dput S3 x y z with
  | some S4 => .next env S4
  | none => .bad := rfl
theorem dput_at {S' : Sto} {x y z : D} {v u t : V} (lk : w.Γ.lk = none) (r : Rep w c H S) (ax : At w c H S.length x v) (ay : At w c H S.length y u) (az : At w c H S.length z t) (h : dput S x y z = some S') :
    ∃ p H', v = .ref p ∧ DPut H p u t H' ∧ S'.length = S.length ∧ Ext c H S.length c H' S.length ∧ Rep w c H' S' := by
  cases x with
  | loc j =>
    rw [dput_loc] at h
    cases hj : S[j]? with
    | none => rw [hj] at h; cases h
    | some ob =>
      cases ob with
      | dic ks ds =>
        rw [hj] at h
        obtain ⟨p, hp, rfl⟩ := Option.map_eq_some_iff.mp h
        unfold At at ax
        obtain ⟨vs, g, ta⟩ := r.get hj
        unfold dputO at hp
        rcases g with ⟨kk, hq, hl, hk⟩ | ⟨kk, hq, hl, hk⟩ | ⟨o, kk, as, _, _, hk⟩
        · have hq := hq.ex lk
          rw [hk, kkO_map] at hp
          dsimp only at hp
          cases hy : unK y with
          | none => rw [hy] at hp; cases hp
          | some k =>
            rw [hy, Option.bind_some] at hp
            by_cases hz : kk.length < sizeLine
            · rw [if_pos hz] at hp; cases hp
              have ey := unK_inv hy
              subst ey
              obtain ⟨us, e1, e2, e3⟩ := put_zip (k := k) (kk := kk) az ta hl
              have ex := Ext.wr r (o := .dK (putK (kk.zip vs) k t)) ax.1 ⟨_, hq, trivial⟩
              refine ⟨c.ρ j, _, ax.2, .inl ⟨_, k, hq, keyD_at ay, by rw [List.length_zip]; omega, rfl⟩, List.length_set, ex, Rep.wr r ax.1 ⟨_, hq, trivial⟩ ⟨us, .inl ⟨_, .inl (by rw [upd_same, e1]), e2, rfl⟩, e3.mono ex⟩⟩
            · rw [if_neg hz] at hp; cases hp
        · have hq := hq.ex lk
          rw [hk, kkO_non] at hp
          dsimp only at hp
          rw [ktO_map] at hp
          dsimp only at hp
          cases hy : unR y with
          | none => rw [hy] at hp; cases hp
          | some k =>
            rw [hy, Option.bind_some] at hp
            by_cases hz : kk.length < sizeLine
            · rw [if_pos hz] at hp; cases hp
              have ey := unR_inv hy
              subst ey
              obtain ⟨us, e1, e2, e3⟩ := put_zip (k := k) (kk := kk) az ta hl
              have ex := Ext.wr r (o := .dT (putK (kk.zip vs) k t)) ax.1 ⟨_, hq, trivial⟩
              unfold At at ay
              obtain ⟨b, xs, rfl, hb, tk⟩ := ay
              rw [keysD_at tk] at hb
              refine ⟨c.ρ j, _, ax.2, .inr ⟨_, k, b, hq, rfl, hb, by rw [List.length_zip]; omega, rfl⟩, List.length_set, ex, Rep.wr r ax.1 ⟨_, hq, trivial⟩ ⟨us, .inr (.inl ⟨_, .inl (by rw [upd_same, e1]), e2, rfl⟩), e3.mono ex⟩⟩
            · rw [if_neg hz] at hp; cases hp
        · rw [hk, kkO_bl] at hp
          dsimp only at hp
          rw [ktO_bl] at hp
          cases hp
      | _ => rw [hj] at h; cases h
  | _ => cases h
theorem c_dput {o i : Expr} {mo mi : EM} {p0 : Pos} (lk : Γ.lk = none) (hu : X.A.units + 1 < cLine) (he : CE Γ X W e ma) (ho : CE Γ X W o mo) (hi : CE Γ X W i mi) (hs : swapsWith e (some (.Subscript o i p0)) pos.line X.env = pure false := by rfl) : CS Γ X W (.Assign [.Subscript o i p0] e pos) (s_dput ma mo mi) := by
  refine PS.weak (ps_dput hu ho hi he hs) fun Dn σ H ⟨c, env, S, r, ev, h⟩ => ?_
  refine ⟨c, env, S, r, ev, (PoS.part ev h).imp fun v H1 ⟨c1, S1, d1, e1, r1, a1, ev1, h1⟩ => ?_⟩
  refine ⟨c1, env, S1, r1, ev1, (PoS.part ev1 h1).imp fun v2 H2 ⟨c2, S2, d2, e2, r2, a2, ev2, h2⟩ => ?_⟩
  refine ⟨c2, env, S2, r2, ev2, (PoS.part ev2 h2).imp fun v3 H3 ⟨c3, S3, d3, e3, r3, a3, ev3, h3⟩ => ?_⟩
  cases hs : dput S3 d2 d3 d1 with
  | none => simp only [hs] at h3; exact h3.elim
  | some S4 =>
    simp only [hs] at h3
    obtain ⟨p, H', rfl, g, hl, ex, rr⟩ := dput_at (w := ⟨X.K, Γ⟩) lk r3 (a2.mono e3) a3 ((a1.mono e2).mono e3) hs
    exact ⟨p, H', rfl, g, h3 c3 H' σ (by rw [hl]; exact ex) rr (by rw [hl]; exact ev3.mono ex)⟩
/-! ## tracked tuples -/
def e_ttp (m : AM) : EM := fun env S => (m env S).bind fun ds S1 => .if (ds.length ≤ 1000) (.ok (.ttp ds) S1)
@[simp] theorem e_ttp_eq (m : AM) (env : Env) (S : Sto) : e_ttp m env S = (m env S).bind fun ds S1 => .if (ds.length ≤ 1000) (.ok (.ttp ds) S1) := rfl
theorem fin_ttp {ds : List D} {vs : List V} {Q : VK} (h : PoE w W σ c H S.length (.ok (.ttp ds) S) Q) (r : Rep w c H S) (a : Ats w c H S.length ds vs) {p : Addr} (hp : H p = none) : Q (.ref p) (upd H p (.tup vs)) := by
  refine h c _ (.ref p) (Ext.grow hp) (r.grow hp) ?_
  unfold At
  exact ⟨p, vs, rfl, upd_same, a.mono (Ext.grow hp)⟩
theorem c_ttp {k : Nat} (ha : CA Γ X W es am) : CE Γ X W (.Tuple es k pos) (e_ttp am) := by
  refine PE.weak (pe_tup ha) fun σ H Q ⟨c, env, S, r, ev, h⟩ => ?_
  refine ⟨c, env, S, r, ev, (Po.bind h).imp fun vs H1 ⟨c1, S1, ds, e1, r1, a1, h1⟩ => ?_⟩
  obtain ⟨hl, h1⟩ := Po.if h1
  exact ⟨by rw [a1.len]; exact Nat.le_trans hl (by decide), fun p hp => fin_ttp h1 r1 a1 hp⟩
def addT (x y : D) (S : Sto) : R D := match x, y with
  | .ttp a, .ttp b => .if (a.length + b.length ≤ sizeLine) (.ok (.ttp (a ++ b)) S)
  | _, _ => .bad
@[simp] theorem addT_eq (i j : List D) (S : Sto) : addT (.ttp i) (.ttp j) S = .if (i.length + j.length ≤ sizeLine) (.ok (.ttp (i ++ j)) S) := rfl
theorem g_addT : GOp Γ X addT (rAdd4 X.K) := by
  intro W σ c H S x y v u Q r a b h
  cases x with
  | ttp i =>
    cases y with
    | ttp j =>
      obtain ⟨hl, h⟩ := Po.if h
      have a' := a
      have b' := b
      unfold At at a b
      obtain ⟨p, vs, rfl, g, t⟩ := a
      obtain ⟨q, us, rfl, g', t'⟩ := b
      refine .inl (.inr ⟨p, q, vs, us, rfl, rfl, SqT.of g, SqT.of g', by rw [t.len, t'.len]; exact hl, fun e => ?_, fun _ e => ?_, fun _ _ z hz => fin_ttp h r (t.app t') hz⟩)
      · have : i = [] := by
          have := t.len; rw [e] at this; exact List.length_eq_zero_iff.mp this.symm
        subst this
        exact fin_ok h r b'
      · have : j = [] := by
          have := t'.len; rw [e] at this; exact List.length_eq_zero_iff.mp this.symm
        subst this
        exact fin_ok h r (by rw [List.append_nil]; exact a')
    | _ => exact h.elim
  | _ => exact h.elim
/-- a tracked tuple as any other -/
def looseD (d : D) : D := match d with
  | .ttp ds => .tup ds
  | d => d
/-! ## len(d), list(d) -/
def rLenN (K : PySem.W.Frag) : List V → Hp → VK → Prop := fun xs H Q => ∃ (a : Addr) (o : Obj) (nh : NestedKey → Int) (kk : List NestedKey) (as : List Addr) (vs : List V), xs = [V.ref a] ∧ H a = some (.ext (ObX a o)) ∧ DnR K nh H a o kk as vs ∧ Q (.int vs.length) H
theorem call_lenN {K : PySem.W.Frag} : CallR X (.builtin "len") (rLenN K) := by
  intro pins s σ H xs us Q I r h
  obtain ⟨a, o, nh, kk, as, vs, rfl, ha, g, q⟩ := h
  obtain ⟨u, rfl, rx⟩ := vals1 r
  obtain rfl : u = .ref a := rx
  obtain ⟨es, ep, us, hx, hdt, he, rv⟩ := g.ob
  have ho : s.heap.get? a = some o := (I.hok a _ ha).1
  have hm : s.heap.DictRaw a es ep := ⟨o, ho, hx, hdt⟩
  have hz := g.sz
  have hs : es.size = vs.length := by rw [← Array.length_toList, he]; simp [g.l1, g.l2, rv.length.symm]
  refine PyProof.Rows.call_len_slot (n := (es.size : Nat)) hm.typeIs F.slot_dict_len (fun Q' hq => call_len_raw g.sm hm hq) (by omega) (by rw [sizeLine_eq] at hz; omega) ?_
  rw [hs]
  exact ⟨.int (vs.length : Nat), H, I.tok _, ⟨_, rfl⟩, q⟩
def rLen2 : List V → Hp → VK → Prop := fun xs H Q => (∃ a kvs, xs = [.ref a] ∧ H a = some (.dK kvs) ∧ Q (.int kvs.length) H) ∨ rLenT xs H Q ∨ ∃ K, rLenN K xs H Q
theorem call_lenD2 : CallR X (.builtin "len") rLen2 := by
  intro pins s σ H xs us Q I rx h
  rcases h with h | h | h
  rotate_left 2
  · obtain ⟨K, h⟩ := h
    exact call_lenN pins s σ H xs us Q I rx h
  · exact call_lenD pins s σ H xs us Q I rx h
  · exact call_len_dT pins s σ H xs us Q I rx h
def dlenD (x : D) (S : Sto) : R D := .ofO ((dicOf S x).map fun p => D.int p.2.length) S
theorem g_dlen (lk : Γ.lk = none) : GCall Γ X (f1 dlenD) rLen2 := by
  refine .one fun W σ c H S x v Q r a h => ?_
  obtain ⟨p, hp, h⟩ := Po.ofM h
  obtain ⟨q, vs, rfl, t, g⟩ := dicOf_at (ks := p.1) (ds := p.2) r a hp
  have q1 := fin_ok h r (.i _)
  rcases g with ⟨kk, hq, hl, hk⟩ | ⟨kk, hq, hl, hk⟩ | ⟨o, kk, as, hq, g, _⟩
  · exact .inl ⟨q, _, rfl, hq.ex lk, by rw [List.length_zip, hl, Nat.min_self, t.len]; exact q1⟩
  · exact .inr (.inl ⟨q, _, rfl, hq.ex lk, by rw [List.length_zip, hl, Nat.min_self, t.len]; exact q1⟩)
  · exact .inr (.inr ⟨X.K, q, o, _, kk, as, vs, rfl, hq.ex lk, g, by rw [t.len]; exact q1⟩)
def rListD2 : List V → Hp → VK → Prop := fun xs H Q => rListD xs H Q ∨ ∃ d kvs, xs = [.ref d] ∧ Rd H d (.dT kvs) ∧ ∀ (p : Addr) (bs : List Addr), H p = none → IsKeys H kvs bs → Q (.ref p) (upd H p (.lst (bs.map V.ref)))
theorem call_listD2 (hc : X.calm = true) : CallR X (.type "list") rListD2 := by
  intro pins s σ H xs us Q I rx h
  rcases h with h | h
  · exact call_list_dK hc pins s σ H xs us Q I rx h
  · exact call_list_dT hc pins s σ H xs us Q I rx h
def keysO (ks : List D) : Option (List D) := match kkO ks with
  | some kk => some (kk.map keyD)
  | none => (ktO ks).map fun kk => kk.map tupD
def dlistD (x : D) (S : Sto) : R D := .ofO (((dicOf S x).bind fun p => keysO p.1).map D.lst) S
theorem ats_keys : ∀ kk : List Key, Ats w c H n (kk.map keyD) (kk.map kV)
  | [] => .nil
  | .inl i :: r => .cons (.i _) (ats_keys r)
  | .inr i :: r => .cons (.s _) (ats_keys r)
theorem ats_tkeys : ∀ {kk : List (List Key)} {vs : List V} {bs : List Addr}, kk.length = vs.length → IsKeys H (kk.zip vs) bs → Ats w c H n (kk.map tupD) (bs.map V.ref)
  | [], vs, bs, h, k => by cases k; exact .nil
  | k :: r, [], bs, h, q => by simp at h
  | k :: r, v :: vs, bs, h, q => by
    rw [List.zip_cons_cons] at q
    cases q with
    | cons a b =>
      refine .cons ?_ (ats_tkeys (by simpa using h) b)
      unfold At
      exact ⟨_, _, rfl, SqT.of a, ats_keys _⟩
theorem zip_fst {α β : Type} : ∀ {xs : List α} {ys : List β}, xs.length = ys.length → (xs.zip ys).map (·.1) = xs
  | [], ys, h => rfl
  | x :: r, [], h => by simp at h
  | x :: r, y :: s, h => by rw [List.zip_cons_cons, List.map_cons, zip_fst (by simpa using h)]
theorem g_dlist (lk : Γ.lk = none) : GCall Γ X (f1 dlistD) rListD2 := by
  refine .one fun W σ c H S x v Q r a h => ?_
  obtain ⟨ds, hd, h⟩ := Po.ofM h
  cases hp : dicOf S x with
  | none => rw [hp] at hd; cases hd
  | some p =>
    rw [hp, Option.bind_some] at hd
    obtain ⟨q, vs, rfl, t, g⟩ := dicOf_at (ks := p.1) (ds := p.2) r a hp
    unfold keysO at hd
    rcases g with ⟨kk, hq, hl, hk⟩ | ⟨kk, hq, hl, hk⟩ | ⟨o, kk, as, _, _, hk⟩
    · rw [hk, kkO_map] at hd
      cases hd
      refine .inl ⟨q, _, rfl, hq.ex lk, fun z hz => ?_⟩
      rw [show (kk.zip vs).map (fun kv => kV kv.1) = kk.map kV from by rw [show (kk.zip vs).map (fun kv => kV kv.1) = ((kk.zip vs).map (·.1)).map kV from by rw [List.map_map]; rfl, zip_fst hl]]
      exact fin_lst h r (ats_keys kk) hz
    · rw [hk, kkO_non] at hd
      dsimp only at hd
      rw [ktO_map] at hd
      cases hd
      exact .inr ⟨q, _, rfl, hq.rd, fun z bs hz hb => fin_lst h r (ats_tkeys hl hb) hz⟩
    · rw [hk, kkO_bl] at hd
      dsimp only at hd
      rw [ktO_bl] at hd
      cases hd
end
end Mm
set_option maxRecDepth 100000
/-! A dict comprehension of two clauses; comprehensions of two clauses over plain data. -/
namespace L2
open PySem PySem.Spec PyProof.Rows
section
variable {kx vx t0 i0 t1 i1 : Expr} {f0 f1 : List Expr} {sc : Scope} {pos : Pos}
abbrev dcE (kx vx t0 i0 t1 i1 : Expr) (f0 f1 : List Expr) (sc : Scope) (pos : Pos) : Expr := .DictComp kx vx [⟨t0, i0, f0, 0⟩, ⟨t1, i1, f1, 0⟩] sc pos
abbrev tests (fs : List Expr) (env : Env) : Sem Bool := forIn fs true fun c r => if r = true then do let ok ← isTrue c env (eval c env); pure (ForInStep.yield ok) else pure (ForInStep.yield r)
variable {prog : Program} {w : World} {A : Around} {R : Result → Shared → Prop} {s : Shared} {it : Value} {D : Addr} {env : Env}
abbrev er (prog : Program) (w : World) (A : Around) (env : Env) (R : Result → Shared → Prop) : Value → Shared → Prop := notedBy (model prog w) A env fun e s' => R (.error e) s'
end
end L2
namespace L2
open PySem PySem.Spec PyProof.Rows
/-- two clauses; st: what a turn of the second does to the new object at D, o0: what is new. vs: the block's names, vs1: the second target's -/
def tC2 (o0 : HO) (wi : TI) (g : TG) (tt : TT) (wi1 : TI) (g1 : TG) (tt1 : TT) (st : Addr → St → Hp → (Hp → Prop) → Prop) (vs vs1 : List Nat) : TE := fun σ H Q => wi σ H fun J H1 => ∀ D, H1 D = none → ∃ W : Nat → Nat → Hp → Prop, (∃ m, W 0 m (upd H1 D o0)) ∧ ∀ i m H, W i m H →
  (J.stop i H ∧ Q (.ref D) H) ∨ (J.go i H ∧ ∃ Nx : Hp → Prop, (∀ H', Nx H' → ∃ m', m' < m ∧ W (i + 1) m' H') ∧ ∀ x H', J.yld i H x H' → g x (wipe σ vs) H' fun σ2 H2 => wipe σ2 vs = wipe σ vs ∧ tt σ2 H2 fun b H3 =>
    if b = true then wi1 σ2 H3 fun J1 H4 => ∃ W1 : Nat → Nat → Hp → Prop, (∃ m, W1 0 m H4) ∧ ∀ j k H, W1 j k H →
      (J1.stop j H ∧ Nx H) ∨ (J1.go j H ∧ ∃ Nx1 : Hp → Prop, (∀ H', Nx1 H' → ∃ k', k' < k ∧ W1 (j + 1) k' H') ∧ ∀ x H', J1.yld j H x H' → g1 x (wipe σ2 vs1) H' fun σ3 H5 => wipe σ3 vs1 = wipe σ2 vs1 ∧ tt1 σ3 H5 fun b H6 =>
        if b = true then st D σ3 H6 Nx1 else Nx1 H6)
    else Nx H3)
def stL (te : TE) : Addr → St → Hp → (Hp → Prop) → Prop := fun D σ H N => te σ H fun y H7 => ∃ acc, H7 D = some (.lst acc) ∧ acc.length < sizeLine ∧ N (upd H7 D (.lst (acc ++ [y])))
def stD (tk tv : TE) : Addr → St → Hp → (Hp → Prop) → Prop := fun D σ H N => tk σ H fun y H1 => tv σ H1 fun z H2 => ∃ kvs k, y = kV k ∧ H2 D = some (.dK kvs) ∧ kvs.length < sizeLine ∧ N (upd H2 D (.dK (putK kvs k z)))
section
variable {X : Cx} {pins : List (Addr × Obj)} {s : Shared} {σ : St} {H : Hp} {Q : VK} {kx vx tg iter tg1 iter1 : Expr} {ifs ifs1 : List Expr} {scope : Scope} {own : List (Str × Nat)} {vs1 : List Nat} {pos pos' : Pos} {wi wi1 : TI} {g g1 : TG} {tt tt1 : TT} {tk tv : TE}
/-- all blocks of the comprehension -/
abbrev Blk (X : Cx) (scope : Scope) (P : Cx → Prop) : Prop := ∀ (s : Shared) (H : Hp) (C : Addr) (cl : List (Str × Addr)) (fp : List Addr), P (X.blk s H scope (compEnvC scope cl C X.env) fp)
end
end L2
set_option maxRecDepth 100000
/-! Comprehensions of two clauses over plain data. -/
namespace Mm
open PySem L2
section
variable {w : Wn} {W : WX} {σ : St} {c c' : Cn} {H H' : Hp} {n n' : Nat} {S : Sto} {env : Env}
variable {Γ : Cls'} {X : Cx} {a b e tg : Expr} {es : List Expr} {ma mb : EM} {am : AM} {pos : Pos} {Dn : Ends}
/-- from one heap to the next while the object at D is put together -/
structure Stp (D : Addr) (c : Cn) (H : Hp) (n : Nat) (c' : Cn) (H' : Hp) (n' : Nat) : Prop where
  A : ExtA c H n c' H' n'
  far : ∀ c0 H0 n0, Ext c0 H0 n0 c H n → H0 D = none → Ext c0 H0 n0 c' H' n'
theorem Stp.of {D : Addr} (e : Ext c H n c' H' n') : Stp D c H n c' H' n' := ⟨e.A, fun c0 H0 n0 z _ => z.trans e⟩
theorem ExtA.trans {c c1 c2 : Cn} {H H1 H2 : Hp} {n n1 n2 : Nat} (a : ExtA c H n c1 H1 n1) (b : ExtA c1 H1 n1 c2 H2 n2) : ExtA c H n c2 H2 n2 :=
  ⟨Nat.le_trans a.le b.le, fun k h => (b.rho k (Nat.lt_of_lt_of_le h a.le)).trans (a.rho k h), fun x h => b.fro x (a.fro x h), fun x xs h => b.tup x xs (a.tup x xs h), fun x o u h => b.frz x o u (a.frz x o u h), fun x u h => b.xd x u (a.xd x u h), fun x o f h t => b.keepG x o (a.fro x f) (a.keepG x o f h t) t⟩
theorem Stp.trans {D : Addr} {c c1 c2 : Cn} {H H1 H2 : Hp} {n n1 n2 : Nat} (a : Stp D c H n c1 H1 n1) (b : Stp D c1 H1 n1 c2 H2 n2) : Stp D c H n c2 H2 n2 := ⟨a.A.trans b.A, fun c0 H0 n0 z h => b.far _ _ _ (a.far _ _ _ z h) h⟩
theorem EnvR.monoA (e : ExtA c H n c' H' n') (h : EnvR w c H n σ env) : EnvR w c' H' n' σ env := ⟨h.1, fun i d q => by
  obtain ⟨v, a, b⟩ := h.2 i d q
  exact ⟨v, a, At.monoA e d v b⟩⟩
/-- something that is put together at D -/
structure AccT (α : Type) where
  rel : Wn → Cn → Hp → Nat → α → HO → Prop
  mono : ∀ {w c H n c' H' n' a o}, ExtA c H n c' H' n' → rel w c H n a o → rel w c' H' n' a o
  nt : ∀ {w c H n a o}, rel w c H n a o → ∀ ps, o ≠ HO.tbl ps
def accL : AccT (List D) := ⟨fun w c H n ds o => ∃ us, o = .lst us ∧ Ats w c H n ds us, fun e ⟨us, h, t⟩ => ⟨us, h, Ats.monoA e _ _ t⟩, fun ⟨us, h, t⟩ ps z => by rw [h] at z; cases z⟩
def accD : AccT (List Key × List D) := ⟨fun w c H n a o => ∃ us, o = .dK (a.1.zip us) ∧ a.1.length = us.length ∧ Ats w c H n a.2 us, fun e ⟨us, h, l, t⟩ => ⟨us, h, l, Ats.monoA e _ _ t⟩, fun ⟨us, h, l, t⟩ ps z => by rw [h] at z; cases z⟩
variable {α : Type} {T : AccT α}
/-- what stands around D -/
structure Arnd (w : Wn) (T : AccT α) (D : Addr) (c : Cn) (H : Hp) (S : Sto) (acc : α) : Prop where
  rep : Rep w c H S
  side : Side c H S.length D
  at_ : ∃ o, H D = some o ∧ T.rel w c H S.length acc o
theorem Arnd.step {D : Addr} {S' : Sto} {acc : α} (a : Arnd w T D c H S acc) (e : Ext c H S.length c' H' S'.length) (r : Rep w c' H' S') : Arnd w T D c' H' S' acc := by
  obtain ⟨o, ho, t⟩ := a.at_
  obtain ⟨s, h⟩ := a.side.step ho e (T.nt t)
  exact ⟨r, s, o, h, T.mono e.A t⟩
/-- one thing is added -/
abbrev AddM (α : Type) := α → Env → Sto → R α
def StepOk (w : Wn) (T : AccT α) (add : AddM α) (st : Addr → St → Hp → (Hp → Prop) → Prop) : Prop := ∀ (c : Cn) (H : Hp) (S : Sto) (σ : St) (env : Env) (D : Addr) (acc acc' : α) (S' : Sto), Arnd w T D c H S acc → EnvR w c H S.length σ env → add acc env S = .ok acc' S' →
  ∀ N : Hp → Prop, (∀ c' H', Stp D c H S.length c' H' S'.length → Arnd w T D c' H' S' acc' → N H') → st D σ H N
open Classical in
noncomputable def inM (g : GM) (t : TM) (add : AddM α) (env : Env) (st : Option (Nat × List D)) : List D → α → Sto → R α
  | [], acc, S => .if (Stay S ([], st)) (.ok acc S)
  | d :: r, acc, S => .if (Stay S ([], st)) (match g d env with
    | none => .bad
    | some env1 => (t env1 S).nox.bind fun k S1 => if k = true then (add acc env1 S1).nox.bind fun acc1 S2 => inM g t add env st r acc1 S2 else inM g t add env st r acc S1)
open Classical in
noncomputable def outM (g : GM) (t : TM) (im : IM) (g1 : GM) (t1 : TM) (add : AddM α) (vs1 : List Nat) (env : Env) (st : Option (Nat × List D)) : List D → α → Sto → R α
  | [], acc, S => .if (Stay S ([], st)) (.ok acc S)
  | d :: r, acc, S => .if (Stay S ([], st)) (match g d env with
    | none => .bad
    | some env1 => (t env1 S).nox.bind fun k S1 => if k = true then (im env1 S1).nox.bind fun it S2 => (inM g1 t1 add (wipeE env1 vs1) it.2 it.1 acc S2).nox.bind fun acc1 S3 => outM g t im g1 t1 add vs1 env st r acc1 S3 else outM g t im g1 t1 add vs1 env st r acc S1)
noncomputable def e_c2 (vs vs1 : List Nat) (im : IM) (g : GM) (t : TM) (im1 : IM) (g1 : GM) (t1 : TM) (add : AddM α) (a0 : α) (fin : α → Sto → R D) : EM := fun env S => (im env S).bind fun it S1 => (outM g t im1 g1 t1 add vs1 (wipeE env vs) it.2 it.1 a0 S1).nox.bind fin
@[simp] theorem e_c2_eq (vs vs1 : List Nat) (im : IM) (g : GM) (t : TM) (im1 : IM) (g1 : GM) (t1 : TM) (add : AddM α) (a0 : α) (fin : α → Sto → R D) (env : Env) (S : Sto) : e_c2 vs vs1 im g t im1 g1 t1 add a0 fin env S = (im env S).bind fun it S1 => (outM g t im1 g1 t1 add vs1 (wipeE env vs) it.2 it.1 a0 S1).nox.bind fin := rfl
theorem nox_ok {α : Type} {r : R α} {β : Type} {f : α → Sto → R β} {b : β} {S' : Sto} (h : r.nox.bind f = .ok b S') : ∃ a S1, r = .ok a S1 ∧ f a S1 = .ok b S' := by
  cases r with
  | ok a S1 => exact ⟨a, S1, rfl, h⟩
  | ex x S1 => cases h
  | bad => cases h
theorem if_ok' {α : Type} {p : Prop} [Decidable p] {r : R α} {a : α} {S' : Sto} (h : R.if p r = .ok a S') : p ∧ r = .ok a S' := by
  unfold R.if at h
  by_cases hp : p
  · rw [_root_.if_pos hp] at h; exact ⟨hp, h⟩
  · rw [if_neg hp] at h; cases h
/-- a result that is none but ok, read as a promise -/
theorem Po.of_ok {α β : Type} {rel : Cn → Hp → Nat → α → β → Prop} {r : R α} {d : α} {S' : Sto} {Q : β → Hp → Prop} (h : r = .ok d S') (q : ∀ c' H' v, Ext c H n c' H' S'.length → Rep w c' H' S' → rel c' H' S'.length d v → Q v H') : Po w W rel σ c H n r Q := by
  rw [h]; exact q
def FinA (T : AccT α) (fin : α → Sto → R D) : Prop := ∀ (w : Wn) (W : WX) (σ : St) (c : Cn) (H : Hp) (S : Sto) (acc : α) (p : Addr) (Q : VK), Arnd w T p c H S acc →
  ∀ (c0 : Cn) (H0 : Hp) (n0 : Nat), Ext c0 H0 n0 c H S.length → H0 p = none → PoE w W σ c0 H0 n0 (fin acc S) Q → Q (.ref p) H
theorem finA_L {fin : List D → Sto → R D} (h : FinOk fin) : FinA accL fin := by
  intro w W σ c H S acc p Q a c0 H0 n0 e h0 q
  obtain ⟨o, ho, us, rfl, t⟩ := a.at_
  exact h w W σ c H S acc us p Q a.rep t ho a.side.out a.side.nF c0 H0 n0 e h0 q
def finDL (a : List Key × List D) (S : Sto) : R D := .ok (.dic (a.1.map keyD) a.2) S
@[simp] theorem finDL_eq (a : List Key × List D) (S : Sto) : finDL a S = .ok (.dic (a.1.map keyD) a.2) S := rfl
open Classical in
theorem c2_read {vs vs1 sl sl1 : List Nat} {im im1 : IM} {g g1 : GM} {t t1 : TM} {add : AddM α} {a0 : α} {o0 : HO} {fin : α → Sto → R D} {st : Addr → St → Hp → (Hp → Prop) → Prop} {Q : VK} (hf : FinA T fin) (hst : StepOk w T add st) (h0 : ∀ c H n, T.rel w c H n a0 o0) (hsl : ∀ j ∈ sl, j ∈ vs) (hsl1 : ∀ j ∈ sl1, j ∈ vs1)
    (h : mE w W (e_c2 vs vs1 im g t im1 g1 t1 add a0 fin) σ H Q) : tC2 o0 (mI w W im) (mTg w sl g) (mT w W0 t) (mI w W0 im1) (mTg w sl1 g1) (mT w W0 t1) st vs vs1 σ H Q := by
  obtain ⟨c, env, S, r, ev, h⟩ := h
  refine ⟨c, env, S, r, ev, (Po.bind h).imp fun J H1 ⟨c1, S1, it, e1, r1, wk, h1⟩ D hD => ?_⟩
  have ev1 := (ev.mono e1).wipe vs
  cases ho : outM g t im1 g1 t1 add vs1 (wipeE env vs) it.2 it.1 a0 S1 with
  | ex x SF => rw [ho] at h1; exact h1.elim
  | bad => rw [ho] at h1; exact h1.elim
  | ok accF SF =>
  rw [ho, R.nox_ok, R.bind_ok] at h1
  have ex0 : Ext c1 H1 S1.length c1 (upd H1 D o0) S1.length := Ext.grow hD
  refine ⟨fun i m' H' => ∃ c2 S2 acc, Stp D c1 H1 S1.length c2 H' S2.length ∧ Arnd w T D c2 H' S2 acc ∧ EnvR w c2 H' S2.length (wipe σ vs) (wipeE env vs) ∧ m' = it.1.length - i ∧ i ≤ it.1.length ∧ outM g t im1 g1 t1 add vs1 (wipeE env vs) it.2 (it.1.drop i) acc S2 = .ok accF SF,
    ⟨it.1.length, c1, S1, a0, .of ex0, ⟨r1.grow hD, ⟨fun k hk => r1.ne hD hk, r1.nF hD⟩, o0, upd_same, h0 _ _ _⟩, ev1.mono ex0, by simp, Nat.zero_le _, ho⟩, ?_⟩
  rintro i m' H' ⟨c2, S2, acc, s2, ar, ev2, rfl, hi, h2⟩
  have e2 := s2.far c1 H1 S1.length Ext.refl hD
  by_cases hlt : i < it.1.length
  · right
    have hd : it.1.drop i = it.1[i] :: it.1.drop (i + 1) := List.drop_eq_getElem_cons hlt
    rw [hd] at h2
    unfold outM at h2
    obtain ⟨sy, h2⟩ := if_ok' h2
    obtain ⟨w1, _⟩ := wk c2 H' S2 s2.A ar.rep (Stay.of (ds := it.1) sy) i
    obtain ⟨go, yl⟩ := w1 it.1[i] (List.getElem?_eq_getElem hlt)
    refine ⟨go, fun H3 => ∃ c3 S3 acc, Stp D c1 H1 S1.length c3 H3 S3.length ∧ Arnd w T D c3 H3 S3 acc ∧ EnvR w c3 H3 S3.length (wipe σ vs) (wipeE env vs) ∧ outM g t im1 g1 t1 add vs1 (wipeE env vs) it.2 (it.1.drop (i + 1)) acc S3 = .ok accF SF,
      fun H3 ⟨c3, S3, acc, q1, q2, q3, q4⟩ => ⟨it.1.length - (i + 1), by omega, c3, S3, acc, q1, q2, q3, rfl, hlt, q4⟩, fun x H3 y => ?_⟩
    obtain ⟨ey, ry, ay⟩ := yl x H3 y
    cases hg : g it.1[i] (wipeE env vs) with
    | none => rw [hg] at h2; cases h2
    | some env3 =>
      rw [hg] at h2
      obtain ⟨k, S4, ht, h2⟩ := nox_ok h2
      refine ⟨c2, wipeE env vs, S2, it.1[i], env3, ry, ev2.mono ey, ay, hg, fun σ3 evx bt => ⟨wipe_bt bt hsl, c2, env3, S2, ry, evx, Po.of_ok ht fun c4 H4 b e4 r4 eb => ?_⟩⟩
      cases (show b = k from eb)
      have s4 : Stp D c2 H' S2.length c4 H4 S4.length := .of (ey.trans e4)
      have ar4 := (ar.step ey ry).step e4 r4
      have ev4 := ev2.mono (ey.trans e4)
      cases k with
      | false => exact ⟨c4, S4, acc, s2.trans s4, ar4, ev4, h2⟩
      | true =>
        rw [if_pos rfl]
        rw [if_pos rfl] at h2
        obtain ⟨it1, S5, hi1, h2⟩ := nox_ok h2
        obtain ⟨acc6, S6, h6, h2⟩ := nox_ok h2
        refine ⟨c4, env3, S4, r4, evx.mono e4, Po.of_ok hi1 fun c5 H5 J1 e5 r5 wk1 => ?_⟩
        have s5 := s2.trans (s4.trans (.of e5))
        have ar5 := ar4.step e5 r5
        have ev5 := ev4.mono e5
        have evi := ((evx.mono e4).mono e5).wipe vs1
        refine ⟨fun j k H' => ∃ c6 S' acc, Stp D c5 H5 S5.length c6 H' S'.length ∧ Arnd w T D c6 H' S' acc ∧ k = it1.1.length - j ∧ j ≤ it1.1.length ∧ inM g1 t1 add (wipeE env3 vs1) it1.2 (it1.1.drop j) acc S' = .ok acc6 S6,
          ⟨it1.1.length, c5, S5, acc, .of Ext.refl, ar5, by simp, Nat.zero_le _, h6⟩, ?_⟩
        rintro j k H7 ⟨c7, S7, acc7, s7, ar7, rfl, hj, h7⟩
        by_cases hlt1 : j < it1.1.length
        · right
          have hd1 : it1.1.drop j = it1.1[j] :: it1.1.drop (j + 1) := List.drop_eq_getElem_cons hlt1
          rw [hd1] at h7
          unfold inM at h7
          obtain ⟨sy1, h7⟩ := if_ok' h7
          obtain ⟨w3, _⟩ := wk1 c7 H7 S7 s7.A ar7.rep (Stay.of (ds := it1.1) sy1) j
          obtain ⟨go1, yl1⟩ := w3 it1.1[j] (List.getElem?_eq_getElem hlt1)
          refine ⟨go1, fun H8 => ∃ c8 S8 acc, Stp D c5 H5 S5.length c8 H8 S8.length ∧ Arnd w T D c8 H8 S8 acc ∧ inM g1 t1 add (wipeE env3 vs1) it1.2 (it1.1.drop (j + 1)) acc S8 = .ok acc6 S6,
            fun H8 ⟨c8, S8, acc8, q1, q2, q3⟩ => ⟨it1.1.length - (j + 1), by omega, c8, S8, acc8, q1, q2, rfl, hlt1, q3⟩, fun x1 H8 y1 => ?_⟩
          obtain ⟨ey1, ry1, ay1⟩ := yl1 x1 H8 y1
          cases hg1 : g1 it1.1[j] (wipeE env3 vs1) with
          | none => rw [hg1] at h7; cases h7
          | some env5 =>
            rw [hg1] at h7
            obtain ⟨k1, S9, ht1, h7⟩ := nox_ok h7
            refine ⟨c7, wipeE env3 vs1, S7, it1.1[j], env5, ry1, (evi.monoA s7.A).mono ey1, ay1, hg1, fun σ5 evy bt1 => ⟨wipe_bt bt1 hsl1, c7, env5, S7, ry1, evy, Po.of_ok ht1 fun c9 H9 b1 e9 r9 eb1 => ?_⟩⟩
            cases (show b1 = k1 from eb1)
            have s9 := s7.trans (.of (ey1.trans e9))
            have ar9 := (ar7.step ey1 ry1).step e9 r9
            cases k1 with
            | false => exact ⟨c9, S9, acc7, s9, ar9, h7⟩
            | true =>
              rw [if_pos rfl]
              rw [if_pos rfl] at h7
              obtain ⟨acc10, S10, h10, h7⟩ := nox_ok h7
              exact hst c9 H9 S9 σ5 env5 D acc7 acc10 S10 ar9 (evy.mono e9) h10 _ fun c' H' sx arx => ⟨c', S10, acc10, s9.trans sx, arx, h7⟩
        · left
          have e : j = it1.1.length := by omega
          subst e
          rw [List.drop_length] at h7
          unfold inM at h7
          obtain ⟨sy1, h7⟩ := if_ok' h7
          rw [R.ok.injEq] at h7
          obtain ⟨rfl, rfl⟩ := h7
          obtain ⟨_, w4⟩ := wk1 c7 H7 S7 s7.A ar7.rep (Stay.of (ds := it1.1) sy1) it1.1.length
          exact ⟨w4 rfl, c7, S7, acc7, s5.trans s7, ar7, ev5.monoA s7.A, h2⟩
  · left
    have e : i = it.1.length := by omega
    subst e
    rw [List.drop_length] at h2
    unfold outM at h2
    obtain ⟨sy, h2⟩ := if_ok' h2
    rw [R.ok.injEq] at h2
    obtain ⟨rfl, rfl⟩ := h2
    obtain ⟨_, w2⟩ := wk c2 H' S2 s2.A ar.rep (Stay.of (ds := it.1) sy) it.1.length
    exact ⟨w2 rfl, hf w W σ c2 H' S2 acc D Q ar c1 H1 S1.length e2 hD h1⟩
/-- a list's next item -/
def addL2 (m : EM) : AddM (List D) := fun acc env S => (m env S).nox.bind fun y S1 => .if (acc.length < sizeLine) (.ok (acc ++ [y]) S1)
def addD2 (mk mv : EM) : AddM (List Key × List D) := fun acc env S => (mk env S).nox.bind fun k S1 => (mv env S1).nox.bind fun z S2 => (R.ofO (unK k) S2).bind fun key S3 => .if (acc.1.length < sizeLine) (.ok (putDs acc.1 acc.2 key z) S3)
@[simp] theorem addL2_eq (m : EM) (acc : List D) (env : Env) (S : Sto) : addL2 m acc env S = (m env S).nox.bind fun y S1 => .if (acc.length < sizeLine) (.ok (acc ++ [y]) S1) := rfl
@[simp] theorem addD2_eq (mk mv : EM) (acc : List Key × List D) (env : Env) (S : Sto) : addD2 mk mv acc env S = (mk env S).nox.bind fun k S1 => (mv env S1).nox.bind fun z S2 => (R.ofO (unK k) S2).bind fun key S3 => .if (acc.1.length < sizeLine) (.ok (putDs acc.1 acc.2 key z) S3) := rfl
/-- the object at D is changed -/
theorem Ext.sideO {c0 : Cn} {H0 : Hp} {n0 n : Nat} {p : Addr} {o u : HO} (e : Ext c0 H0 n0 c H n) (h0 : H0 p = none) (hp : H p = .some u) : Ext c0 H0 n0 c (upd H p o) n := e.side h0 hp
theorem ExtA.sideO {n : Nat} {p : Addr} {o u : HO} (hp : H p = .some u) (m : Mut (.some u)) (hf : ¬ c.F p) : ExtA c H n c (upd H p o) n :=
  ⟨Nat.le_refl _, fun _ _ => rfl, fun _ h => h, fun a us h => by rw [upd_ne fun e => by rw [e, hp] at h; cases h; exact m]; exact h, fun a x y h => by rw [upd_ne fun e => by rw [e, hp] at h; cases h; exact m]; exact h, fun a x h => by rw [upd_ne fun e => by rw [e, hp] at h; cases h; exact m]; exact h, fun a o f h _ => by
    rw [upd_ne fun e => hf (by rw [← e]; exact f)]; exact h⟩
theorem Rep.sideO (r : Rep w c H S) {p : Addr} {o u : HO} (hp : H p = .some u) (m : Mut (.some u)) (hf : ¬ c.F p) (hn : ∀ k, k < S.length → c.ρ k ≠ p) (hx : ∀ φ, u ≠ .ext φ := by intro φ h; cases h) : Rep w c (upd H p o) S :=
  ⟨fun k ob h => (r.obj k ob h).monoA (ExtA.sideO hp m hf) fun x hx => by rw [upd_ne (hn k (Rep.lt h))]; exact hx, r.inj, r.live, fun a f => by
    obtain ⟨x, q⟩ := r.fro a f
    exact ⟨x, by rw [upd_ne fun e => hf (by rw [← e]; exact f)]; exact q⟩, tabs_upd r.tab fun v e => by rw [hp] at e; cases e; exact ⟨fun ps z => by rw [z] at m; exact m, fun q => hx _⟩⟩
theorem stepL {m : EM} : StepOk w accL (addL2 m) (stL (mE w W0 m)) := by
  intro c H S σ env D acc acc' S' ar ev h N nx
  obtain ⟨y, S1, hm, h⟩ := nox_ok h
  obtain ⟨hl, h⟩ := if_ok' h
  cases h
  refine ⟨c, env, S, ar.rep, ev, Po.of_ok hm fun c1 H1 v e1 r1 a1 => ?_⟩
  have a2 := ar.step e1 r1
  obtain ⟨o, ho, us, rfl, t⟩ := a2.at_
  have mu : Mut (some (HO.lst us)) := trivial
  refine ⟨us, ho, by rw [t.len]; exact hl, nx c1 _ ⟨e1.A.trans (ExtA.sideO ho mu a2.side.nF), fun c0 H0 n0 z h0 => (z.trans e1).side h0 ho⟩ ⟨r1.sideO ho mu a2.side.nF a2.side.out, ⟨a2.side.out, a2.side.nF⟩, _, upd_same, us ++ [v], rfl, ?_⟩⟩
  have sA := ExtA.sideO (c := c1) (n := S'.length) (o := .lst (us ++ [v])) ho mu a2.side.nF
  exact (Ats.monoA sA _ _ t).app (.one (At.monoA sA _ _ a1))
theorem c_lc2 {elt tg1 iter iter1 : Expr} {ifs ifs1 : List Expr} {scope : Scope} {own : List (Str × Nat)} {vs1 : List Nat} {im im1 : IM} {g g1 : GM} {t t1 : TM} {m : EM} {fin : List D → Sto → R D} {sl sl1 : List Nat} (hf : FinOk fin) (hsl : ∀ j ∈ sl, j ∈ own.map (·.2)) (hsl1 : ∀ j ∈ sl1, j ∈ vs1) (hv : ∀ i ∈ vs1, i ∈ own.map (·.2)) (hc : X.calm = true) (hN : X.N.Nodup) (hi : CI Γ X W tg iter im) (ok : BlkOk X.N X.env.scope scope own)
    (hg : Blk X scope fun Y => CG Γ Y tg sl g) (ht : Blk X scope fun Y => CTs Γ Y W0 ifs t) (hi1 : Blk X scope fun Y => CI Γ Y W0 tg1 iter1 im1) (hg1 : Blk X scope fun Y => CG Γ Y tg1 sl1 g1) (ht1 : Blk X scope fun Y => CTs Γ Y W0 ifs1 t1) (he : Blk X scope fun Y => CE Γ Y W0 elt m)
    (hs : ∀ x, foldedSetIterable iter X.env x = pure x := by intro _; rfl) (hs1 : ∀ env x, foldedSetIterable iter1 env x = pure x := by intro _ _; rfl) :
    CE Γ X W (.ListComp elt [⟨tg, iter, ifs, 0⟩, ⟨tg1, iter1, ifs1, 0⟩] scope pos) (e_c2 (own.map (·.2)) vs1 im g t im1 g1 t1 (addL2 m) [] fin) :=
  PE.weak (pe_lc2 hc hN hi ok hv hg ht hi1 hg1 ht1 he hs hs1) fun σ H Q h => c2_read (T := accL) (o0 := .lst []) (finA_L hf) stepL (fun _ _ _ => ⟨[], rfl, .nil⟩) hsl hsl1 h
end
end Mm
set_option maxRecDepth 100000
/-! Calls with keywords, of any many values; try without an error; dicts that are equal; the letters of a text. -/
namespace Mm
open PySem L2
section
variable {w : Wn} {W : WX} {σ : St} {c c' : Cn} {H H' : Hp} {n n' : Nat} {S : Sto} {env : Env}
variable {Γ : Cls'} {X : Cx} {a b e tg : Expr} {es : List Expr} {ma mb : EM} {am km : AM} {pos : Pos} {Dn : Ends} {kws : List Keyword}
theorem PK.weak {kws : List Keyword} {t t' : TA} (h : PK X kws t) (i : ∀ σ H Q, t' σ H Q → t σ H Q) : PK X kws t' := ⟨fun pos pins s σ H Q I q => h.run pos pins s σ H Q I (i σ H Q q)⟩
abbrev CK (Γ : Cls') (X : Cx) (W : WX) (kws : List Keyword) (m : AM) : Prop := PK X kws (mA ⟨X.K, Γ⟩ W m)
theorem c_knil : CK Γ X W [] a_nil := PK.weak pk_nil fun σ H Q h => ca_nil_read h
theorem cons_read {Q : List V → Hp → Prop} (h : mA w W (a_cons ma am) σ H Q) : tCons (mE w W ma) (mA w W am) σ H Q := by
  obtain ⟨c, env, S, r, ev, h⟩ := h
  refine ⟨c, env, S, r, ev, (Po.bind h).imp fun v H1 ⟨c1, S1, d1, e1, r1, a1, h1⟩ => ?_⟩
  refine ⟨c1, env, S1, r1, ev.mono e1, (Po.bind h1).imp fun vs H2 ⟨c2, S2, ds, e2, r2, a2, h2⟩ => ?_⟩
  exact h2 c2 H2 _ Ext.refl r2 (.cons (a1.mono e2) a2)
theorem c_kcons {nm : Option Str} {kpos : Pos} (he : CE Γ X W e ma) (hk : CK Γ X W kws am) : CK Γ X W (⟨nm, e, kpos⟩ :: kws) (a_cons ma am) := PK.weak (pk_cons he hk) fun σ H Q h => cons_read h
/-! ## a new object, keywords -/
def mkDk (k : Nat) (m : FM) (f : D → List D) (S : Sto) : R D := (m (f (.loc S.length)) (S ++ [.ins k []])).bind fun d S2 => match d with
  | .non => .ok (.loc S.length) S2
  | _ => .bad
def e_mkk (tr : TrF) (k : Nat) (m : FM) (g : D → List D → List D → List D) (n nk : Nat) (am km : AM) : EM := fun env S => (am env S).bind fun ds S1 => (km env S1).bind fun es S2 => .if (ds.length = n ∧ es.length = nk) (tr S2 (mkDk k m (fun x => g x ds es) S2))
@[simp] theorem e_mkk_eq (tr : TrF) (k : Nat) (m : FM) (g : D → List D → List D → List D) (n nk : Nat) (am km : AM) (env : Env) (S : Sto) : e_mkk tr k m g n nk am km env S = (am env S).bind fun ds S1 => (km env S1).bind fun es S2 => .if (ds.length = n ∧ es.length = nk) (tr S2 (mkDk k m (fun x => g x ds es) S2)) := rfl
/-- the class k stands under its name; its __init__ is m; n values and the keywords ks, put in order by g -/
structure Dkk (P : Program) (wd : World) (K : PySem.W.Frag) (mg : Str → Option Value) (base : Heap) (Γ : Cls') (k : Nat) (x : Str) (lv : Nat) (m : FM) (n : Nat) (ks : List Str) (g : D → List D → List D → List D) : Prop where
  ex : ∃ (C f : Addr) (fd : FuncData) (ps : List Str) (g0 : List Value → List Value → List Value) (gV : List V → List V → List V), Γ.at_ k = some C ∧ mg x = some (.ref C) ∧ Mk K C f ∧ FnOk P wd K mg base (L2.CX P wd) lv f fd ps (spM K Γ m) ∧ KBn K fd ps (n + 1) ks g0 gV ∧
    ∀ (c : Cn) (H : Hp) (j : Nat) (x : D) (v : V) (ds es : List D) (vs zs : List V), At ⟨K, Γ⟩ c H j x v → Ats ⟨K, Γ⟩ c H j ds vs → Ats ⟨K, Γ⟩ c H j es zs → ds.length = n → es.length = ks.length → Ats ⟨K, Γ⟩ c H j (g x ds es) (gV (v :: vs) zs)
/-- the end of a new object's __init__ -/
theorem mk_end {k : Nat} {C x dx : Addr} {m : FM} {f : D → List D} {us : List V} {tr : TrF} {Q : VK} (ht : TrOk tr) (r : Rep ⟨X.K, Γ⟩ c H S) (gC : Γ.at_ k = some C) (hx : H x = none) (hd : H dx = none) (ne : dx ≠ x)
    (ha : ∀ (c' : Cn) (H' : Hp) (j : Nat), Ext c H S.length c' H' j → At ⟨X.K, Γ⟩ c' H' j (.loc S.length) (.ref x) → Ats ⟨X.K, Γ⟩ c' H' j (f (.loc S.length)) us) (h : PoE ⟨X.K, Γ⟩ W σ c H S.length (tr S (mkDk k m f S)) Q) :
    spM X.K Γ m us (upd (upd H dx (.own x)) x (.ins C dx [])) (fun v H3 => v = .non ∧ Q (.ref x) H3) fun C dd H => W C dd σ H := by
  obtain ⟨e2, r2, t2⟩ := mk_start (w := ⟨X.K, Γ⟩) (ds := []) (vs := []) r gC .nil hx hd ne
  obtain ⟨_, _, he, al, _⟩ := t2.uncons
  cases he
  have h2 := Po.mono e2 (ht _ _ _ _ _ _ _ _ r h)
  refine ⟨_, _, _, r2, ha _ _ _ e2 al, ?_⟩
  refine Po.wish ((Po.bind h2).imp fun v H3 ⟨c3, S3, d3, e3, r3, a3, h3⟩ => ?_) fun _ _ _ z => z
  cases d3 with
  | non =>
    refine ⟨a3.non, h3 c3 H3 _ Ext.refl r3 ?_⟩
    have hl : (S ++ [SO.ins k []]).length = S.length + 1 := by rw [List.length_append]; rfl
    unfold At
    have hlt : S.length < (S ++ [SO.ins k []]).length := by rw [hl]; exact Nat.lt_succ_self _
    exact ⟨Nat.lt_of_lt_of_le hlt e3.le, by rw [e3.rho _ hlt, Cn.nw_at]⟩
  | _ => exact h3.elim
theorem c_mkk {k lv n : Nat} {x : Str} {m : FM} {p : Pos} {tr : TrF} {ks : List Str} {g : D → List D → List D → List D} (tok : TrOk tr) (G : Dkk X.prog X.w X.K X.mg X.base Γ k x lv m n ks g) (go : Goes X W) (hr : Room (lv + 1) X.A) (hg : Gl X x) (ha : CA Γ X W (e :: es) am) (hk : CK Γ X W kws km)
    (hall : (backToKw pos (keywordEach kws X.env)).all (·.1.isSome) = true := by rfl) (hks : (backToKw pos (keywordEach kws X.env)).filterMap (·.1) = ks := by rfl) (hdb : (x == ("__debug__" : Str)) = false := by decide)
    (he : starEach (e :: es) X.env = (false, eval e X.env) :: starEach es X.env := by rfl) (hpl : ((backTo pos (starEach (e :: es) X.env)).any (·.1) || (backToKw pos (keywordEach kws X.env)).any (·.1.isNone)) = false := by rfl) : CE Γ X W (.Call (.Name x p) (e :: es) kws pos) (e_mkk tr k m g n ks.length am km) := by
  obtain ⟨C, f, fd, ps, g0, gV, gC, hm, M, F, hb, hrel⟩ := G.ex
  refine PE.weak (pe_makeKS (E := fun σ => WE W σ) M F hr hg hm hb go ha hk hall hks hdb he hpl) fun σ H Q ⟨c, env, S, r, ev, h⟩ => ?_
  refine ⟨c, env, S, r, ev, (Po.bind h).imp fun vs H1 ⟨c1, S1, ds, e1, r1, a1, h1⟩ => ?_⟩
  refine ⟨c1, env, S1, r1, ev.mono e1, (Po.bind h1).imp fun zs H2 ⟨c2, S2, ds2, e2, r2, a2, h2⟩ => ?_⟩
  obtain ⟨⟨l1, l2⟩, h2⟩ := Po.if h2
  refine ⟨by rw [a1.len]; exact l1, by rw [a2.len]; exact l2, fun x dx hx hd ne => ?_⟩
  exact mk_end tok r2 gC hx hd ne (fun c' H' j ex al => hrel c' H' j _ _ _ _ _ _ al ((a1.mono e2).mono ex) (a2.mono ex) l1 l2) h2
/-! ## any many values, keywords -/
def e_mks (tr : TrF) (k : Nat) (m : FM) (g : D → List D → List D) (nk : Nat) (am km : AM) : EM := fun env S => (am env S).bind fun ds S1 => (km env S1).bind fun es S2 => .if (ds.length ≤ 1000 ∧ es.length = nk) (tr S2 (mkDk k m (fun x => g x es ++ [.tup ds]) S2))
@[simp] theorem e_mks_eq (tr : TrF) (k : Nat) (m : FM) (g : D → List D → List D) (nk : Nat) (am km : AM) (env : Env) (S : Sto) : e_mks tr k m g nk am km env S = (am env S).bind fun ds S1 => (km env S1).bind fun es S2 => .if (ds.length ≤ 1000 ∧ es.length = nk) (tr S2 (mkDk k m (fun x => g x es ++ [.tup ds]) S2)) := rfl
structure Dks (P : Program) (wd : World) (K : PySem.W.Frag) (mg : Str → Option Value) (base : Heap) (Γ : Cls') (k : Nat) (x : Str) (lv : Nat) (m : FM) (ks : List Str) (g : D → List D → List D) : Prop where
  ex : ∃ (C f : Addr) (gV : List V → List V → List V), Γ.at_ k = some C ∧ mg x = some (.ref C) ∧ Mk K C f ∧ StK.FnRK P wd K mg base (L2.CX P wd) lv f ks (fun zs vs H Q E => ∃ ws rest, vs = ws ++ rest ∧ ws.length = 1 ∧ rest.length ≤ sizeLine ∧ ∀ p, H p = none → spM K Γ m (gV ws zs ++ [V.ref p]) (upd H p (.tup rest)) Q E) ∧
    ∀ (c : Cn) (H : Hp) (j : Nat) (x : D) (v : V) (es : List D) (zs : List V), At ⟨K, Γ⟩ c H j x v → Ats ⟨K, Γ⟩ c H j es zs → es.length = ks.length → Ats ⟨K, Γ⟩ c H j (g x es) (gV [v] zs)
theorem c_mks {k lv : Nat} {x : Str} {m : FM} {p : Pos} {tr : TrF} {ks : List Str} {g : D → List D → List D} (tok : TrOk tr) (G : Dks X.prog X.w X.K X.mg X.base Γ k x lv m ks g) (go : Goes X W) (hr : Room (lv + 1) X.A) (hg : Gl X x) (ha : CA Γ X W (e :: es) am) (hk : CK Γ X W kws km)
    (hall : (backToKw pos (keywordEach kws X.env)).all (·.1.isSome) = true := by rfl) (hks : (backToKw pos (keywordEach kws X.env)).filterMap (·.1) = ks := by rfl) (hdb : (x == ("__debug__" : Str)) = false := by decide)
    (he : starEach (e :: es) X.env = (false, eval e X.env) :: starEach es X.env := by rfl) (hpl : ((backTo pos (starEach (e :: es) X.env)).any (·.1) || (backToKw pos (keywordEach kws X.env)).any (·.1.isNone)) = false := by rfl) : CE Γ X W (.Call (.Name x p) (e :: es) kws pos) (e_mks tr k m g ks.length am km) := by
  obtain ⟨C, f, gV, gC, hm, M, F, hrel⟩ := G.ex
  refine PE.weak (StK.pe_makeRK (E := fun σ => WE W σ) M F hr hg hm go ha hk hall hks hdb he hpl) fun σ H Q ⟨c, env, S, r, ev, h⟩ => ?_
  refine ⟨c, env, S, r, ev, (Po.bind h).imp fun vs H1 ⟨c1, S1, ds, e1, r1, a1, h1⟩ => ?_⟩
  refine ⟨c1, env, S1, r1, ev.mono e1, (Po.bind h1).imp fun zs H2 ⟨c2, S2, ds2, e2, r2, a2, h2⟩ => ?_⟩
  obtain ⟨⟨l1, l2⟩, h2⟩ := Po.if h2
  refine ⟨by rw [a2.len]; exact l2, fun x dx hx hd ne => ⟨[.ref x], vs, rfl, rfl, by rw [a1.len]; exact Nat.le_trans l1 (by decide), fun q hq => ?_⟩⟩
  obtain ⟨e3, r3, t3⟩ := mk_start (w := ⟨X.K, Γ⟩) (ds := []) (vs := []) r2 gC .nil hx hd ne
  obtain ⟨_, _, hE, al, _⟩ := t3.uncons
  cases hE
  have e4 := e3.trans (Ext.grow (o := .tup vs) (n := (S2 ++ [SO.ins k []]).length) (c := c2.nw S2.length x) hq)
  have h3 := Po.mono e4 (tok _ _ _ _ _ _ _ _ r2 h2)
  have al4 := al.mono (Ext.grow (o := .tup vs) hq)
  have at_ : At ⟨X.K, Γ⟩ (c2.nw S2.length x) (upd (upd (upd H2 dx (.own x)) x (.ins C dx [])) q (.tup vs)) (S2 ++ [SO.ins k []]).length (.tup ds) (.ref q) := by
    unfold At
    exact ⟨q, vs, rfl, SqT.of upd_same, (a1.mono e2).mono e4⟩
  refine ⟨_, _, _, r3.grow (o := .tup vs) hq, (hrel _ _ _ _ _ _ _ al4 (a2.mono e4) l2).app (.one at_), ?_⟩
  refine Po.wish ((Po.bind h3).imp fun v H3 ⟨c3, S3, d3, e5, r5, a5, h5⟩ => ?_) fun _ _ _ z => z
  cases d3 with
  | non =>
    refine ⟨a5.non, h5 c3 H3 _ Ext.refl r5 ?_⟩
    unfold At at al4
    unfold At
    exact ⟨Nat.lt_of_lt_of_le al4.1 e5.le, by rw [e5.rho _ al4.1]; exact al4.2⟩
  | _ => exact h5.elim
def s_nox (m : SM) : SM := fun env S => match m env S with
  | .ex _ _ _ => .bad
  | r => r
@[simp] theorem s_nox_eq (m : SM) (env : Env) (S : Sto) : s_nox m env S = match m env S with
  | .ex _ _ _ => .bad
  | r => r := rfl
theorem c_tryNo {body : List Stmt} {h0 : ExceptHandler} {hs : List ExceptHandler} {m : SM} (hb : CSs Γ X.nox W0 body m) : CS Γ X W (.Try body (h0 :: hs) [] [] pos) (s_nox m) := by
  refine PS.weak (ps_try_thru0 hb) fun Dn σ H ⟨c, env, S, r, ev, h⟩ => ⟨c, env, S, r, ev, ?_⟩
  unfold s_nox at h
  cases hm : m env S with
  | ex x env1 S1 => rw [hm] at h; exact h.elim
  | next env1 S1 => rw [hm] at h; exact h
  | ret d S1 => rw [hm] at h; exact h
  | brk env1 S1 => rw [hm] at h; exact h
  | cnt env1 S1 => rw [hm] at h; exact h
  | bad => rw [hm] at h; exact h.elim
/-! ## dicts that are equal -/
def sameDs (p q : List D × List D) : Bool := match kkO p.1, kkO q.1 with
  | some kk, some ll => p.2.length == q.2.length && (kk.zip p.2).all fun kd => match getDs ll q.2 kd.1 with
    | some z => match DV kd.2, DV z with
      | some u, some v => decide (u = v)
      | _, _ => false
    | none => false
  | _, _ => false
def dneD (x y : D) (S : Sto) : R D := match dicOf S x, dicOf S y with
  | some p, some q => .if (sameDs p q = true) (.ok (.bl false) S)
  | _, _ => .bad
/-! ## letters -/
@[simp] theorem i_str_eq (m : EM) (env : Env) (S : Sto) : i_str m env S = (m env S).bind fun d S1 => match d with
  | .str x => .ok (x.cps.toList.map fun k => .str ⟨#[k]⟩, none) S1
  | _ => .bad := rfl
theorem ci_str (he : CE Γ X W e ma) : CI Γ X W tg e (i_str ma) := by
  refine PI.weak (pi_str he) fun σ H R ⟨c, env, S, r, ev, h⟩ => ?_
  refine ⟨c, env, S, r, ev, (Po.bind h).imp fun v H1 ⟨c1, S1, d1, e1, r1, a1, h1⟩ => ?_⟩
  cases d1 with
  | str x =>
    refine ⟨x, a1.str, h1 c1 H1 _ Ext.refl r1 ?_⟩
    intro c2 H2 S2 e2 r2 st i
    refine ⟨fun d hd => ?_, fun hi => ?_⟩
    · rw [List.getElem?_map] at hd
      cases hx : x.cps.toList[i]? with
      | none => rw [hx] at hd; cases hd
      | some k =>
        rw [hx] at hd
        cases hd
        have hi : i < x.cps.size := by
          have := (List.getElem?_eq_some_iff.mp hx).1
          simpa using this
        refine ⟨hi, ?_⟩
        rintro y H3 ⟨rfl, k', hk, rfl⟩
        have : x.cps[i]? = some k := by rw [← Array.getElem?_toList]; exact hx
        rw [this] at hk; cases hk
        exact ⟨Ext.refl, r2, .s _⟩
    · rw [List.length_map] at hi
      show x.cps.size ≤ i
      simp at hi; omega
  | _ => exact h1.elim
end
end Mm
set_option maxRecDepth 100000
/-! A written dict of numbers; defs of keyword parameters; short words. -/
namespace Mm
open PySem L2
section
variable {w : Wn} {W : WX} {σ : St} {c c' : Cn} {H H' : Hp} {n n' : Nat} {S : Sto} {env : Env}
variable {Γ : Cls'} {X : Cx} {a b e tg : Expr} {es : List Expr} {ma mb mo : EM} {am km : AM} {pos : Pos} {Dn : Ends} {kws : List Keyword}
/-- the module's name x holds a written dict: the numbers of these words -/
structure Kd (K : PySem.W.Frag) (wd : World) (mg : Str → Option Value) (x : Str) (tb : List (Str × Int)) : Prop where
  ex : ∃ it, mg x = some (.ref it) ∧ (∃ es n, K.lookup it = some ⟨.type "dict", none, .dict es n, #[]⟩) ∧ ∀ z i, tb.lookup z = some i → KG K wd it z (.int i)
def kgetD (tb : List (Str × Int)) (y : D) (S : Sto) : R D := match y with
  | .str z => .ofO ((tb.lookup z).map D.int) S
  | _ => .bad
@[simp] theorem kgetD_str (tb : List (Str × Int)) (z : Str) (S : Sto) : kgetD tb (.str z) S = .ofO ((tb.lookup z).map D.int) S := rfl
def e_kget (tb : List (Str × Int)) (m : EM) : EM := fun env S => (m env S).bind (kgetD tb)
@[simp] theorem e_kget_eq (tb : List (Str × Int)) (m : EM) (env : Env) (S : Sto) : e_kget tb m env S = (m env S).bind (kgetD tb) := rfl
theorem c_kget {tb : List (Str × Int)} {x : Str} {p apos cpos : Pos} (G : Kd X.K X.w X.mg x tb) (he : CE Γ X W e ma) (hg : Gl X x := by rfl) (hd : (x == ("__debug__" : Str)) = false := by decide) (h1 : M1 X (.Name x p) "get" apos e cpos := by exact ⟨rfl, rfl, rfl, rfl⟩) : CE Γ X W (.Call (.Attribute (.Name x p) "get" apos) [e] [] cpos) (e_kget tb ma) := by
  obtain ⟨it, hm, ⟨es, nn, lk⟩, hk⟩ := G.ex
  refine PE.weak (pe_kget (pe_glob (v := .ref it) hg hm rfl hd) he (fun σ H Q h => ⟨⟨it, _, es, nn, rfl, lk, rfl⟩, h⟩) h1) fun σ H Q ⟨c, env, S, r, ev, h⟩ => ?_
  refine ⟨c, env, S, r, ev, (Po.bind h).imp fun v H1 ⟨c1, S1, d1, e1, r1, a1, h1⟩ => ?_⟩
  cases d1 with
  | str z =>
    obtain ⟨i, hi, h1⟩ := Po.ofM h1
    exact ⟨it, z, .int i, rfl, a1.str, hk z i hi, fin_ok h1 r1 (.i _)⟩
  | _ => exact h1.elim
/-- a def with keyword-only parameters -/
theorem def_okD {P : Program} {wd : World} {K : PySem.W.Frag} {mg : Str → Option Value} {base : Heap} {x qual : Str} {params : Arguments} {body : List Stmt} {scope : Scope} {dvs : List V} {kws : List (Str × V)} {f : Addr} {fd : FuncData} {N ps : List Str} {k : Nat} {b : SM} (F : FunD K x qual params body scope dvs kws f fd) (Sc : FnScope N ps scope)
    (hb : ∀ (cdv : Value) (A : Around) (outer : List PySem.Env) (s : Shared) (H : Hp) (E : XK), Room k (A.deeper (PyProof.Rows.envOfC qual scope s.heap.objs.size f cdv)) → CSs Γ (cxOf (L2.CX P wd) P wd K mg base N qual scope f cdv A outer s H E) (fun C dd _ H => E C dd H) body b) :
    FnOk P wd K mg base (L2.CX P wd) (k + 1) f fd ps (spM K Γ (runDef ps.length N.length b)) := by
  refine F.ok Sc (fun vs H Q E ⟨c, S, ds, r, t, h⟩ => ?_) (fun cdv A outer s H vs Q E hr ⟨c, S, ds, r, t, h⟩ => ⟨_, hb cdv A outer s H E hr, ?_⟩)
  · unfold runDef at h
    by_cases hl : ds.length = ps.length
    · rw [t.len]; exact hl
    · rw [if_neg hl] at h; exact h.elim
  · unfold runDef at h
    by_cases hl : ds.length = ps.length
    · rw [if_pos hl, ← hl] at h
      refine ⟨c, _, S, r, envR_start t, ?_⟩
      cases hx : b (ds.map some ++ List.replicate (N.length - ds.length) none) S with
      | next env' S' => rw [hx] at h; exact fun c2 H2 s2 e2 r2 a2 => h c2 H2 .non e2 r2 .o
      | ret d S' => rw [hx] at h; exact fun c2 H2 v e2 r2 a2 => h c2 H2 v e2 r2 a2
      | ex x env' S' => rw [hx] at h; exact fun c2 H2 s2 C dd e2 r2 a2 xa => h c2 H2 C dd e2 r2 xa
      | brk env' S' => rw [hx] at h; exact h.elim
      | cnt env' S' => rw [hx] at h; exact h.elim
      | bad => rw [hx] at h; exact h.elim
    · rw [if_neg hl] at h; exact h.elim
theorem hu1 {k : Nat} {A : Around} (hr : Room k A) : A.units + 1 < cLine := by have := hu64 hr; omega
/-- the class's name, for isinstance -/
structure KcOk (K : PySem.W.Frag) (Γ : Cls') (mg : Str → Option Value) (x : Str) (kt : Ty → Option Bool) : Prop where
  ex : ∃ C, mg x = some (.ref C) ∧ KitOk K Γ (.ref C) kt
theorem c_isiK {x : Str} {kt : Ty → Option Bool} {p q : Pos} (hl : Γ.lk = none) (hm : X.mg "isinstance" = none) (G : KcOk X.K Γ X.mg x kt) (he : CE Γ X W e ma) (hg : Gl X "isinstance" := by rfl) (hgT : Gl X x := by rfl) (hdb : (x == ("__debug__" : Str)) = false := by decide)
    (h1 : starEach [e, .Name x q] X.env = (false, eval e X.env) :: starEach [.Name x q] X.env := by rfl) (h2 : starEach [.Name x q] X.env = (false, eval (.Name x q) X.env) :: starEach [] X.env := by rfl) (hpl : (backTo pos (starEach [.Name x q] X.env)).any (·.1) = false := by rfl) :
    CE Γ X W (.Call (.Name "isinstance" p) [e, .Name x q] [] pos) (e_isi kt ma) := by
  obtain ⟨C, hC, kk⟩ := G.ex
  exact c_isiC hl hm hC kk he hg hgT hdb h1 h2 hpl
/-- len(set(xs)), texts -/
def lensD (x : D) (S : Sto) : R D := .ofO (((lstOf S x).bind (allO stO)).bind fun xs => if xs.length ≤ 100 then some (D.int (LenS.many xs xs.length : Nat)) else none) S
def e_lens (m : EM) : EM := fun env S => (m env S).bind lensD
@[simp] theorem e_lens_eq (m : EM) (env : Env) (S : Sto) : e_lens m env S = (m env S).bind lensD := rfl
theorem c_lens {p p2 q : Pos} (hg : Gl X "len") (hm : X.mg "len" = none) (hg2 : Gl X "set") (hm2 : X.mg "set" = none) (ha : CE Γ X W a ma) (hc : X.calm = true := by rfl) (na : starEach [a] X.env = (false, eval a X.env) :: starEach [] X.env := by rfl) : CE Γ X W (.Call (.Name "len" p) [.Call (.Name "set" p2) [a] [] q] [] pos) (e_lens ma) := by
  refine PE.weak (pe_lenS hg hm hg2 hm2 ha hc na) fun σ H Q ⟨c, env, S, r, ev, h⟩ => ?_
  refine ⟨c, env, S, r, ev, (Po.bind h).imp fun v H1 ⟨c1, S1, d1, e1, r1, a1, h1⟩ => ?_⟩
  obtain ⟨y, hy, h1⟩ := Po.ofO h1
  cases hb : (lstOf S1 d1).bind (allO stO) with
  | none => rw [hb] at hy; cases hy
  | some xs =>
    rw [hb, Option.bind_some] at hy
    by_cases hl : xs.length ≤ 100
    · rw [if_pos hl] at hy; cases hy
      obtain ⟨l, rfl, g⟩ := lstO (fv := V.str) (fun d x v h a => stO_at h a) r1 a1 hb
      exact ⟨l, xs, rfl, g, hl, fin_ok h1 r1 (.i _)⟩
    · rw [if_neg hl] at hy; cases hy
/-- not x, x of any kind -/
def e_nott (m : EM) : EM := fun env S => (m env S).bind fun d S1 => .ofO ((truD S1 d).map fun k => D.bl (!k)) S1
@[simp] theorem e_nott_eq (m : EM) (env : Env) (S : Sto) : e_nott m env S = (m env S).bind fun d S1 => .ofO ((truD S1 d).map fun k => D.bl (!k)) S1 := rfl
theorem c_nott (ha : CE Γ X W a ma) : CE Γ X W (.UnaryOp .Not a pos) (e_nott ma) := by
  refine PE.weak (pe_notT ha) fun σ H Q ⟨c, env, S, r, ev, h⟩ => ?_
  refine ⟨c, env, S, r, ev, (Po.bind h).imp fun v H1 ⟨c1, S1, d1, e1, r1, a1, h1⟩ => ?_⟩
  obtain ⟨k, hk, h1⟩ := Po.ofM h1
  exact ⟨k, truD_at r1 a1 hk, fin_ok h1 r1 (.b _)⟩
end
end Mm
set_option maxRecDepth 100000
/-! [*xs, y]; sorted texts; min; an own __len__. -/
namespace Mm
open PySem L2 StX
section
variable {w : Wn} {W : WX} {σ : St} {c c' : Cn} {H H' : Hp} {n n' : Nat} {S : Sto} {env : Env}
variable {Γ : Cls'} {X : Cx} {a b e tg : Expr} {es : List Expr} {ma mb mo : EM} {am km : AM} {pos : Pos} {Dn : Ends} {kws : List Keyword}
/-! ## *xs among the items -/
def a_star (m : EM) (r : AM) : AM := fun env S => (m env S).bind fun d S1 => match seqOf S1 d with
  | some xs => (r env S1).bind fun ds S2 => .ok (xs ++ ds) S2
  | none => .bad
@[simp] theorem a_star_eq (m : EM) (r : AM) (env : Env) (S : Sto) : a_star m r env S = (m env S).bind fun d S1 => match seqOf S1 d with
  | some xs => (r env S1).bind fun ds S2 => .ok (xs ++ ds) S2
  | none => .bad := rfl
theorem c_astar {p : Pos} (ha : CE Γ X W e ma) (hr : CA Γ X W es am) (hs : starEach (.Starred e p :: es) X.env = (true, eval e X.env) :: starEach es X.env := by rfl) : CA Γ X W (.Starred e p :: es) (a_star ma am) := by
  refine PA.weak (pa_star ha hr hs) fun σ H Q ⟨c, env, S, r, ev, h⟩ => ?_
  refine ⟨c, env, S, r, ev, (Po.bind h).imp fun v H1 ⟨c1, S1, d1, e1, r1, a1, h1⟩ => ?_⟩
  cases hq : seqOf S1 d1 with
  | none => simp only [hq] at h1; exact h1.elim
  | some xs =>
    simp only [hq] at h1
    obtain ⟨q, vs, rfl, sq, t⟩ := seqOf_at r1 a1 hq
    refine ⟨q, vs, rfl, sq.symm, c1, env, S1, r1, ev.mono e1, (Po.bind h1).imp fun us H2 ⟨c2, S2, ds, e2, r2, a2, h2⟩ => ?_⟩
    exact h2 c2 H2 _ Ext.refl r2 ((t.mono e2).app a2)
/-! ## sorted texts -/
def leS (x y : Str) : Bool := !decide (y.cps.toList < x.cps.toList)
def sortS (xs : List Str) : List Str := xs.mergeSort leS
def sortSD (x : D) (S : Sto) : R D := .ofO (((lstOf S x).bind (allO stO)).bind fun ns => if ns.length < 64 then some (D.lst ((sortS ns).map D.str)) else none) S
/-! ## min -/
def minL : List Int → Int
  | [] => 0
  | [x] => x
  | x :: y :: r => min x (minL (y :: r))
def minD (x : D) (S : Sto) : R D := .ofO (((lstOf S x).bind (allO inO)).bind fun ns => if 0 < ns.length then some (D.int (minL ns)) else none) S
/-! ## len(x) by an own __len__ -/
theorem pass_no {P : Program} {w : World} {X : Cx} : Passes (L2.CX P w) X (fun _ _ _ => False) := fun pins σ H s e s' I h => by
  obtain ⟨a, B, H', cls, d, _, _, _, _, _, _, _, z⟩ := h
  exact z.elim
open Classical in
noncomputable def lenOwnD (k : Nat) (m : FM) (d : D) (S : Sto) : R D := .if (isI k d S) ((m [d] S).nox.bind fun y S1 => match y with
  | .int i => .if (0 ≤ i ∧ i < 2 ^ 63) (.ok (.int i) S1)
  | _ => .bad)
open Classical in
@[simp] theorem lenOwnD_eq (k : Nat) (m : FM) (d : D) (S : Sto) : lenOwnD k m d S = .if (isI k d S) ((m [d] S).nox.bind fun y S1 => match y with
  | .int i => .if (0 ≤ i ∧ i < 2 ^ 63) (.ok (.int i) S1)
  | _ => .bad) := rfl
open Classical in
theorem c_lenOwn {k lv : Nat} {m : FM} {p : Pos} (G : Dn' X.prog X.w X.K X.mg X.base Γ k "__len__" lv m) (hr : Room (lv + 1) X.A) (hg : Gl X "len") (hm : X.mg "len" = none) (ha : CE Γ X W a ma)
    (he : starEach (a :: []) X.env = (false, eval a X.env) :: starEach [] X.env := by rfl) (hpl : (backTo pos (starEach [] X.env)).any (·.1) = false := by rfl) : CE Γ X W (.Call (.Name "len" p) [a] [] pos) (e_call (f1 (lenOwnD k m)) (a_cons ma a_nil)) := by
  obtain ⟨C, f, fd, ps, gC, M, hf, F, hb⟩ := G.ex
  refine c_callB (call_lenOwn M F hr hb pass_no) (.one fun W σ c H S x v Q r a h => ?_) hg hm PySem.boot_len (c_acons ha c_anil he) (he := he) (hpl := hpl)
  obtain ⟨⟨ds, hi⟩, h⟩ := Po.if h
  obtain ⟨q, vs, C', dx, rfl, g, l, s, t⟩ := insOf_at r a hi
  rw [gC] at g; cases g
  refine ⟨q, dx, _, rfl, s, c, S, [x], r, .one a, (Po.nox Ext.refl h).imp fun v H1 ⟨c1, S1, d1, e1, e2, r1, a1, h1⟩ => ?_⟩
  cases d1 with
  | int i =>
    obtain ⟨⟨i0, i1⟩, h1⟩ := Po.if h1
    exact ⟨i, a1.int, i0, i1, h1 c1 H1 v e2 r1 a1⟩
  | _ => exact h1.elim
/-! ## x, y, z = a, b, c -/
def s_par3 (i j l : Nat) (m : AM) : SM := fun env S => (m env S).toS env fun ds S1 => match ds with
  | [x, y, z] => .next (((env.set i (some x)).set j (some y)).set l (some z)) S1
  | _ => .bad
@[simp] theorem s_par3_eq (i j l : Nat) (m : AM) (env : Env) (S : Sto) : s_par3 i j l m env S = (m env S).toS env fun ds S1 => match ds with
  | [x, y, z] => .next (((env.set i (some x)).set j (some y)).set l (some z)) S1
  | _ => .bad := rfl
end
end Mm
set_option maxRecDepth 100000
/-! Errors over the plain data: raise, try with named clauses, what a clause reads of its error. -/
namespace Mm
open PySem L2
/-! ## no caught error in a value -/
mutual
def D.nxn : D → Bool
  | .tup ds => nxns ds
  | .ttp ds => nxns ds
  | .lst ds => nxns ds
  | .dic _ ds => nxns ds
  | .obj _ ds => nxns ds
  | .xn _ _ => false
  | _ => true
def nxns : List D → Bool
  | [] => true
  | d :: r => d.nxn && nxns r
end
def SO.nxn : SO → Bool
  | .lst ds => nxns ds
  | .dic _ ds => nxns ds
  | .ins _ ds => nxns ds
def Cls'.on (Γ : Cls') (a dd : Addr) : Cls' := { Γ with ex := some (a, dd) }
section
variable {K : PySem.W.Frag} {Γ Γ' : Cls'} {c : Cn} {H : Hp} {n : Nat}
mutual
theorem At.nxn (hx : Γ.ex = none) : ∀ (d : D) (v : V), At ⟨K, Γ⟩ c H n d v → d.nxn = true
  | .non, v, h => rfl
  | .bl b, v, h => rfl
  | .int i, v, h => rfl
  | .str x, v, h => rfl
  | .tup ds, v, h => by
    unfold At at h; unfold D.nxn
    obtain ⟨a, vs, r, s, t⟩ := h
    exact Ats.nxn hx ds vs t
  | .ttp ds, v, h => by
    unfold At at h; unfold D.nxn
    obtain ⟨a, vs, r, s, t⟩ := h
    exact Ats.nxn hx ds vs t
  | .lst ds, v, h => by
    unfold At at h; unfold D.nxn
    obtain ⟨a, vs, r, f, s, t⟩ := h
    exact Ats.nxn hx ds vs t
  | .dic ks ds, v, h => by
    unfold At at h; unfold D.nxn
    obtain ⟨a, vs, r, f, s, t⟩ := h
    exact Ats.nxn hx ds vs t
  | .obj k ds, v, h => by
    unfold At at h; unfold D.nxn
    obtain ⟨a, vs, C, dx, r, f, g, l, s, t⟩ := h
    exact Ats.nxn hx ds vs t
  | .fz ns, v, h => rfl
  | .loc k, v, h => rfl
  | .oth u, v, h => rfl
  | .xn k ds, v, h => by
    unfold At at h
    obtain ⟨a, dd, C, vs, r, x, _⟩ := h
    rw [show Γ.ex = _ from x] at hx; cases hx
theorem Ats.nxn (hx : Γ.ex = none) : ∀ (ds : List D) (vs : List V), Ats ⟨K, Γ⟩ c H n ds vs → nxns ds = true
  | [], vs, h => rfl
  | d :: ds, vs, h => by
    unfold Ats at h; unfold nxns
    obtain ⟨v, r, e, a, b⟩ := h
    rw [At.nxn hx d v a, Ats.nxn hx ds r b]; rfl
end
mutual
theorem At.sw (e1 : Γ'.at_ = Γ.at_) (e2 : Γ'.fs = Γ.fs) (e3 : Γ'.lk = Γ.lk) (e0 : Γ'.nh = Γ.nh) : ∀ (d : D) (v : V), d.nxn = true → At ⟨K, Γ⟩ c H n d v → At ⟨K, Γ'⟩ c H n d v
  | .non, v, _, h => h
  | .bl b, v, _, h => h
  | .int i, v, _, h => h
  | .str x, v, _, h => h
  | .tup ds, v, q, h => by
    unfold At at h ⊢; unfold D.nxn at q
    obtain ⟨a, vs, r, s, t⟩ := h
    exact ⟨a, vs, r, s, Ats.sw e1 e2 e3 e0 ds vs q t⟩
  | .ttp ds, v, q, h => by
    unfold At at h ⊢; unfold D.nxn at q
    obtain ⟨a, vs, r, s, t⟩ := h
    exact ⟨a, vs, r, s, Ats.sw e1 e2 e3 e0 ds vs q t⟩
  | .lst ds, v, q, h => by
    unfold At at h ⊢; unfold D.nxn at q
    obtain ⟨a, vs, r, f, s, t⟩ := h
    exact ⟨a, vs, r, f, s, Ats.sw e1 e2 e3 e0 ds vs q t⟩
  | .dic ks ds, v, q, h => by
    unfold At at h ⊢; unfold D.nxn at q
    obtain ⟨a, vs, r, f, s, t⟩ := h
    refine ⟨a, vs, r, f, ?_, Ats.sw e1 e2 e3 e0 ds vs q t⟩
    rcases s with ⟨kk, s⟩ | ⟨kk, s⟩ | s
    · exact .inl ⟨kk, s.1.imp id (fun z => ⟨e3 ▸ z.1, z.2⟩), s.2⟩
    · exact .inr (.inl ⟨kk, s.1.imp id (fun z => ⟨e3 ▸ z.1, z.2⟩), s.2⟩)
    · exact .inr (.inr (DkN.cong (w := ⟨K, Γ⟩) (w' := ⟨K, Γ'⟩) rfl e0 (fun o _ d => d.imp id (fun z => ⟨e3 ▸ z.1, z.2⟩)) (fun _ _ q => q) s))
  | .obj k ds, v, q, h => by
    unfold At at h ⊢; unfold D.nxn at q
    obtain ⟨a, vs, C, dx, r, f, g, l, s, t⟩ := h
    refine ⟨a, vs, C, dx, r, f, ?_, ?_, ?_, Ats.sw e1 e2 e3 e0 ds vs q t⟩
    · show Γ'.at_ k = _; rw [e1]; exact g
    · show vs.length ≤ (Γ'.fs k).length; rw [e2]; exact l
    · show H a = some (.ins C dx ((Γ'.fs k).zip vs)); rw [e2]; exact s
  | .fz ns, v, _, h => by
    unfold At at h ⊢
    exact h
  | .loc k, v, _, h => h
  | .oth u, v, _, h => h
  | .xn k ds, v, q, h => by cases q
theorem Ats.sw (e1 : Γ'.at_ = Γ.at_) (e2 : Γ'.fs = Γ.fs) (e3 : Γ'.lk = Γ.lk) (e0 : Γ'.nh = Γ.nh) : ∀ (ds : List D) (vs : List V), nxns ds = true → Ats ⟨K, Γ⟩ c H n ds vs → Ats ⟨K, Γ'⟩ c H n ds vs
  | [], vs, _, h => h
  | d :: ds, vs, q, h => by
    unfold Ats at h ⊢; unfold nxns at q
    rw [Bool.and_eq_true] at q
    obtain ⟨v, r, e, a, b⟩ := h
    exact ⟨v, r, e, At.sw e1 e2 e3 e0 d v q.1 a, Ats.sw e1 e2 e3 e0 ds r q.2 b⟩
end
theorem OAt.nxn (hx : Γ.ex = none) {a : Addr} : ∀ {o : SO}, OAt ⟨K, Γ⟩ c H n a o → o.nxn = true
  | .lst ds, ⟨vs, g, t⟩ => Ats.nxn hx ds vs t
  | .dic ks ds, ⟨vs, g, t⟩ => Ats.nxn hx ds vs t
  | .ins k ds, ⟨vs, C, dx, g, l, s, t⟩ => Ats.nxn hx ds vs t
theorem OAt.sw (e1 : Γ'.at_ = Γ.at_) (e2 : Γ'.fs = Γ.fs) (e3 : Γ'.lk = Γ.lk) (e0 : Γ'.nh = Γ.nh) {a : Addr} : ∀ {o : SO}, o.nxn = true → OAt ⟨K, Γ⟩ c H n a o → OAt ⟨K, Γ'⟩ c H n a o
  | .lst ds, q, ⟨vs, g, t⟩ => ⟨vs, g, Ats.sw e1 e2 e3 e0 ds vs q t⟩
  | .dic ks ds, q, ⟨vs, g, t⟩ => ⟨vs, by
    rcases g with ⟨kk, s⟩ | ⟨kk, s⟩ | s
    · exact .inl ⟨kk, s.1.imp id (fun z => ⟨e3 ▸ z.1, z.2⟩), s.2⟩
    · exact .inr (.inl ⟨kk, s.1.imp id (fun z => ⟨e3 ▸ z.1, z.2⟩), s.2⟩)
    · exact .inr (.inr (DkN.cong (w := ⟨K, Γ⟩) (w' := ⟨K, Γ'⟩) rfl e0 (fun o _ d => d.imp id (fun z => ⟨e3 ▸ z.1, z.2⟩)) (fun _ _ q => q) s)), Ats.sw e1 e2 e3 e0 ds vs q t⟩
  | .ins k ds, q, ⟨vs, C, dx, g, l, s, t⟩ => ⟨vs, C, dx, by show Γ'.at_ k = _; rw [e1]; exact g, by show vs.length ≤ (Γ'.fs k).length; rw [e2]; exact l, by show H a = Option.some (HO.ins C dx ((Γ'.fs k).zip vs)); rw [e2]; exact s, Ats.sw e1 e2 e3 e0 ds vs q t⟩
theorem Rep.sw (e1 : Γ'.at_ = Γ.at_) (e2 : Γ'.fs = Γ.fs) (e3 : Γ'.lk = Γ.lk) (e0 : Γ'.nh = Γ.nh) {S : Sto} (q : ∀ o ∈ S, o.nxn = true) (r : Rep ⟨K, Γ⟩ c H S) (e4 : Γ'.tb = Γ.tb := by rfl) : Rep ⟨K, Γ'⟩ c H S :=
  ⟨fun k o h => (r.obj k o h).sw e1 e2 e3 e0 (q o (List.mem_of_getElem? h)), r.inj, r.live, r.fro, by show LamX.Tabs Γ'.tb H; rw [e4]; exact r.tab⟩
theorem Rep.nxn (hx : Γ.ex = none) {S : Sto} (r : Rep ⟨K, Γ⟩ c H S) : ∀ o ∈ S, o.nxn = true := fun o h => by
  obtain ⟨k, hk⟩ := List.getElem?_of_mem h
  exact (r.obj k o hk).nxn hx
end
/-! ## raise -/
/-- the error class k with the one field f -/
structure Xk (P : Program) (wd : World) (K : PySem.W.Frag) (mg : Str → Option Value) (base : Heap) (Γ : Cls') (k : Nat) (nm f : Str) : Prop where
  ex : ∃ (C fI : Addr) (fd : FuncData), Γ.at_ k = some C ∧ Γ.fs k = [f] ∧ Ecl K mg nm f C fI ∧ FnOk P wd K mg base CX0 1 fI fd ["self", f] (spEI C f) ∧ Binds K fd ["self", f] []
def s_raise1 (k : Nat) (m : EM) : SM := fun env S => (m env S).toS env fun d S1 => .ex ⟨k, [d]⟩ env S1
@[simp] theorem s_raise1_eq (k : Nat) (m : EM) (env : Env) (S : Sto) : s_raise1 k m env S = (m env S).toS env fun d S1 => .ex ⟨k, [d]⟩ env S1 := rfl
section
variable {w : Wn} {W : WX} {σ : St} {c c' : Cn} {H H' : Hp} {n n' : Nat} {S : Sto} {env : Env}
variable {Γ : Cls'} {X : Cx} {e : Expr} {ma : EM} {pos p ppos p' : Pos} {nm f : Str} {k : Nat}
theorem c_raise1 (T : Xk X.prog X.w X.K X.mg X.base Γ k nm f) (hc : X.calm = true) (tk : Takes X W) (hr : Room 2 X.A) (hg : Gl X nm) (he : CE Γ X W e ma) (hdb : (nm == ("__debug__" : Str)) = false := by decide)
    (hst : starEach [e] X.env = [(false, eval e X.env)] := by rfl) : CS Γ X W (.Raise (some (.Call (.Name nm p) [e] [] pos)) none ppos) (s_raise1 k ma) := by
  obtain ⟨C, fI, fd, gC, fC, E, F1, hb⟩ := T.ex
  refine PS.weak (ps_raise1 (ta := tCons (mE ⟨X.K, Γ⟩ W ma) tNil) hc tk E F1 hr hb hg (pa_cons he pa_nil hst) hdb hst rfl) fun Dn σ H ⟨c, env, S, r, ev, h⟩ => ?_
  refine ⟨c, env, S, r, ev, (PoS.part ev h).imp fun v H1 ⟨c1, S1, d1, e1, r1, a1, ev1, h1⟩ => ?_⟩
  refine (made1 (C := C) (f := f) (v := v) (H1 := H1) (Q := fun cls d H' => W cls d σ H') fun d hd => ?_ :)
  refine h1 c1 _ σ _ _ (Ext.grow hd) (r1.grow hd) (ev1.mono (Ext.grow hd)) ⟨C, d, [v], gC, rfl, rfl, ?_, ?_, .one (a1.mono (Ext.grow hd))⟩
  · show 1 ≤ (Γ.fs k).length; rw [fC]; exact Nat.le_refl 1
  · show _ = some (HO.xd ((Γ.fs k).zip [v])); rw [fC, upd_same]; rfl
/-! ## what a clause reads of its error -/
def e_xf (k : Nat) (m : EM) : EM := fun env S => (m env S).bind fun d S1 => match d with
  | .xn j ds => .if (j = k) (.ofO ds[0]? S1)
  | _ => .bad
theorem e_xf_eq (k : Nat) (m : EM) (env : Env) (S : Sto) : e_xf k m env S = (m env S).bind fun d S1 => match d with
  | .xn j ds => .if (j = k) (.ofO ds[0]? S1)
  | _ => .bad := rfl
theorem c_xf {a dd C : Addr} {oe : Obj} {pn : List (Addr × Obj)} (T : Xk X.prog X.w X.K X.mg X.base Γ k nm f) (gC : Γ.at_ k = some C) (hz : Zc (.ref C) (some dd) oe) (hf : ∃ vs, oe.data = .fields vs) (he : CE (Γ.on a dd) (X.suite a ((a, oe) :: pn)) W e ma) (hb : attributeBase e f X.env (eval e X.env) = eval e X.env := by rfl) :
    CE (Γ.on a dd) (X.suite a ((a, oe) :: pn)) W (.Attribute e f pos) (e_xf k ma) := by
  obtain ⟨C', fI, fd, gC', fC, E, F1, hb1⟩ := T.ex
  rw [gC] at gC'; cases gC'
  refine PE.weak (pe_xf E.xf E.noF hz hf he hb) fun σ H Q ⟨c, env, S, r, ev, h⟩ => ?_
  refine ⟨c, env, S, r, ev, (Po.bind h).imp fun v H1 ⟨c1, S1, d1, e1, r1, a1, h1⟩ => ?_⟩
  cases d1 with
  | xn j ds =>
    obtain ⟨hj, h2⟩ := Po.if h1
    obtain ⟨x, hx, h3⟩ := Po.ofO h2
    subst hj
    unfold At at a1
    obtain ⟨a', dd', C', vs, rfl, ex, g, l, s, t⟩ := a1
    have ex' : some (a, dd) = some (a', dd') := ex
    injection ex' with ex'
    injection ex' with ea ed
    subst ea; subst ed
    have fs : (Γ.on a dd).fs j = [f] := fC
    obtain ⟨v0, hv0, av⟩ := t.get hx
    have s' : H1 dd = some (.xd (([f] : List Str).zip vs)) := by rw [← fs]; exact s
    refine ⟨rfl, rfl, dd, _, v0, rfl, s', ?_, fin_ok h3 r1 av⟩
    cases vs with
    | nil => cases hv0
    | cons u r => cases hv0; rw [List.zip_cons_cons, List.lookup_cons_self]
  | _ => exact h1.elim
/-- isinstance(e, C2), e the caught error -/
def e_xis (k : Nat) (b : Bool) (m : EM) : EM := fun env S => (m env S).bind fun d S1 => match d with
  | .xn j _ => .if (j = k) (.ok (.bl b) S1)
  | _ => .bad
theorem e_xis_eq (k : Nat) (b : Bool) (m : EM) (env : Env) (S : Sto) : e_xis k b m env S = (m env S).bind fun d S1 => match d with
  | .xn j _ => .if (j = k) (.ok (.bl b) S1)
  | _ => .bad := rfl
/-- the class nm2 stands under its name; instances of the class k: b -/
def XisOk (K : PySem.W.Frag) (Γ : Cls') (mg : Str → Option Value) (k : Nat) (nm2 : Str) (b : Bool) : Prop := ∃ (cv : Value) (v2 : V), ((mg nm2 = some cv) ∨ (mg nm2 = none ∧ bootBuiltins nm2 = some cv ∧ nm2 ≠ "__name__")) ∧ RelV v2 cv ∧ (∀ u, RelV v2 u → u = cv) ∧ ∀ C, Γ.at_ k = some C → PySem.W.kitOne K (.ref C) cv = some b
theorem c_xis {a dd C : Addr} {oe : Obj} {pn : List (Addr × Obj)} {nm2 : Str} {b : Bool} {p1 p2 : Pos} (T : Xk X.prog X.w X.K X.mg X.base Γ k nm f) (gC : Γ.at_ k = some C) (hz : Zc (.ref C) (some dd) oe) (hf : ∃ vs, oe.data = .fields vs) (hi : X.mg "isinstance" = none) (hgi : Gl X "isinstance") (G2 : XisOk X.K Γ X.mg k nm2 b) (hg2 : Gl X nm2) (he : CE (Γ.on a dd) (X.suite a ((a, oe) :: pn)) W e ma)
    (hd2 : (nm2 == ("__debug__" : Str)) = false := by decide) (hst : starEach [e, .Name nm2 p2] X.env = (false, eval e X.env) :: starEach [.Name nm2 p2] X.env := by rfl) :
    CE (Γ.on a dd) (X.suite a ((a, oe) :: pn)) W (.Call (.Name "isinstance" p1) [e, .Name nm2 p2] [] pos) (e_xis k b ma) := by
  obtain ⟨C', fI, fd, gC', fC, E, F1, hb1⟩ := T.ex
  rw [gC] at gC'; cases gC'
  obtain ⟨cv, v2, hm, rv, un, kit⟩ := G2
  have p2' : PE (X.suite a ((a, oe) :: pn)) (.Name nm2 p2) (tC v2) := by
    rcases hm with hm | ⟨hm, hv, hn⟩
    · exact pe_glob hg2 hm rv hd2
    · exact pe_bltn hg2 hm hv rv hn hd2
  refine PE.weak (pe_callB (X := X.suite a ((a, oe) :: pn)) (call_isX E hz hf) hgi hi (by decide +kernel) (pa_cons he (pa_cons p2' pa_nil) hst) (by decide) (by decide) hst rfl) fun σ H Q ⟨c, env, S, r, ev, h⟩ => ?_
  refine ⟨c, env, S, r, ev, (Po.bind h).imp fun v H1 ⟨c1, S1, d1, e1, r1, a1, h1⟩ => ?_⟩
  cases d1 with
  | xn j ds =>
    obtain ⟨hj, h2⟩ := Po.if h1
    subst hj
    unfold At at a1
    obtain ⟨a', dd', C', vs, rfl, ex, g, l, s, t⟩ := a1
    have ex' : some (a, dd) = some (a', dd') := ex
    injection ex' with ex'
    injection ex' with ea ed
    subst ea; subst ed
    exact ⟨v2, cv, b, dd, _, rfl, rfl, s, rfl, un, kit C gC, fin_ok h2 r1 (.b b)⟩
  | _ => exact h1.elim
/-! ## try with named clauses -/
structure Clm where
  /-- the one class that comes here -/
  k : Nat
  /-- of an error of a class: whether the clause takes it -/
  mt : Nat → Option Bool
  i : Nat
  h : SM
open Classical in
noncomputable def endH (i : Nat) (S : Sto) (r : RS) : RS := match r with
  | .next env S' => .if (S' = S ∧ ∀ d, some d ∈ env.set i none → d.nxn = true) (.next (env.set i none) S')
  | .brk env S' => .if (S' = S ∧ ∀ d, some d ∈ env.set i none → d.nxn = true) (.brk (env.set i none) S')
  | .cnt env S' => .if (S' = S ∧ ∀ d, some d ∈ env.set i none → d.nxn = true) (.cnt (env.set i none) S')
  | .ret d S' => .if (S' = S ∧ d.nxn = true) (.ret d S')
  | _ => .bad
noncomputable def runCl (x : Exn) (env : Env) (S : Sto) : List Clm → RS
  | [] => .bad
  | q :: r => match q.mt x.c with
    | some true => .if (x.c = q.k) (endH q.i S (q.h (env.set q.i (some (.xn x.c x.ds))) S))
    | some false => runCl x env S r
    | none => .bad
noncomputable def s_try (b : SM) (l : List Clm) : SM := fun env S => match b env S with
  | .ex x env1 S1 => runCl x env1 S1 l
  | r => r
theorem EnvR.sw {K : PySem.W.Frag} {Γ Γ' : Cls'} (e1 : Γ'.at_ = Γ.at_) (e2 : Γ'.fs = Γ.fs) (e3 : Γ'.lk = Γ.lk) (e0 : Γ'.nh = Γ.nh) (q : ∀ d, some d ∈ env → d.nxn = true) (h : EnvR ⟨K, Γ⟩ c H n σ env) : EnvR ⟨K, Γ'⟩ c H n σ env := ⟨h.1, fun i d hd => by
  obtain ⟨v, hv, av⟩ := h.2 i d hd
  exact ⟨v, hv, At.sw e1 e2 e3 e0 d v (q d (List.mem_of_getElem? hd)) av⟩⟩
theorem EnvR.nxn {K : PySem.W.Frag} (hx : Γ.ex = Option.none) (h : EnvR ⟨K, Γ⟩ c H n σ env) : ∀ d, some d ∈ env → d.nxn = true := fun d hd => by
  obtain ⟨i, hi⟩ := List.getElem?_of_mem hd
  obtain ⟨v, hv, av⟩ := h.2 i d hi
  exact At.nxn hx d v av
theorem EnvR.gone {w : Wn} {i : Nat} (h : EnvR w c H n σ env) : EnvR w c H n (σ.set i Option.none) (env.set i Option.none) := by
  refine ⟨by rw [List.length_set, List.length_set]; exact h.1, fun j d q => ?_⟩
  by_cases e : i = j
  · subst e
    by_cases hl : i < env.length
    · rw [List.getElem?_set_self hl] at q; cases q
    · rw [List.getElem?_eq_none (by rw [List.length_set]; omega)] at q; cases q
  · rw [List.getElem?_set_ne e] at q ⊢
    exact h.2 j d q
open Classical in
/-- a clause's suite, seen from within -/
theorem end_read {K : PySem.W.Frag} (hx : Γ.ex = none) {a dd : Addr} {i : Nat} {r : RS} {Dn : Ends} (rp : Rep ⟨K, Γ⟩ c H S) (h : PoS ⟨K, Γ⟩ W c H S.length (endH i S r) Dn) : PoS ⟨K, Γ.on a dd⟩ (fun _ _ _ _ => False) c H S.length r (Dn.gone i) := by
  have nS := rp.nxn hx
  cases r with
  | next env2 S2 =>
    obtain ⟨⟨eS, q⟩, h⟩ := PoS.if h
    subst eS
    exact fun c2 H2 σ2 e2 r2 ev2 => h c2 H2 _ e2 (r2.sw (Γ := Γ.on a dd) (Γ' := Γ) rfl rfl rfl rfl nS) (ev2.gone.sw (Γ := Γ.on a dd) (Γ' := Γ) rfl rfl rfl rfl q)
  | brk env2 S2 =>
    obtain ⟨⟨eS, q⟩, h⟩ := PoS.if h
    subst eS
    exact fun c2 H2 σ2 e2 r2 ev2 => h c2 H2 _ e2 (r2.sw (Γ := Γ.on a dd) (Γ' := Γ) rfl rfl rfl rfl nS) (ev2.gone.sw (Γ := Γ.on a dd) (Γ' := Γ) rfl rfl rfl rfl q)
  | cnt env2 S2 =>
    obtain ⟨⟨eS, q⟩, h⟩ := PoS.if h
    subst eS
    exact fun c2 H2 σ2 e2 r2 ev2 => h c2 H2 _ e2 (r2.sw (Γ := Γ.on a dd) (Γ' := Γ) rfl rfl rfl rfl nS) (ev2.gone.sw (Γ := Γ.on a dd) (Γ' := Γ) rfl rfl rfl rfl q)
  | ret d S2 =>
    obtain ⟨⟨eS, q⟩, h⟩ := PoS.if h
    subst eS
    exact fun c2 H2 v e2 r2 a2 => h c2 H2 v e2 (r2.sw (Γ := Γ.on a dd) (Γ' := Γ) rfl rfl rfl rfl nS) (At.sw (Γ := Γ.on a dd) (Γ' := Γ) rfl rfl rfl rfl d v q a2)
  | ex x env S2 => exact h.elim
  | bad => exact h.elim
/-- the clauses of a try -/
inductive CH (Γ : Cls') (X : Cx) : List ExceptHandler → List Clm → Prop
  | nil : CH Γ X [] []
  | cons {nm n : Str} {q : Clm} {C0 : Addr} {b : Stmt} {bs : List Stmt} {p p' : Pos} {hs : List ExceptHandler} {l : List Clm} (hN : Names X nm (.ref C0)) (hm : ∀ k b C, Γ.at_ k = some C → q.mt k = some b → PySem.W.exmOne X.K (.ref C) (.ref C0) = some b) (hi : X.N[q.i]? = some n) (hl : X.env.kindOf n = some .local)
      (hh : ∀ (a dd C : Addr) (oe : Obj) (pn : List (Addr × Obj)), Γ.at_ q.k = some C → Zc (.ref C) (some dd) oe → (∃ vs, oe.data = .fields vs) → CSs (Γ.on a dd) (X.suite a ((a, oe) :: pn)) (fun _ _ _ _ => False) (b :: bs) q.h) (r : CH Γ X hs l) :
      CH Γ X (.ExceptHandler (some (.Name nm p)) (some n) (b :: bs) p' :: hs) (q :: l)
open Classical in
/-- what stands for the clauses below -/
theorem CH.cl {hs : List ExceptHandler} {l : List Clm} (h : CH Γ X hs l) (hx : Γ.ex = none) : ∃ L : List Cl, ClOk X hs L ∧ ∀ (Dn : Ends) (x : Exn) (c : Cn) (H : Hp) (S : Sto) (env : Env) (σ : St) (cv : Value) (d : Option Addr), Rep ⟨X.K, Γ⟩ c H S → EnvR ⟨X.K, Γ⟩ c H S.length σ env → XAt ⟨X.K, Γ⟩ c H S.length x cv d → PoS ⟨X.K, Γ⟩ W c H S.length (runCl x env S l) Dn → wCl X.K Dn L cv d σ H := by
  induction h with
  | nil => exact ⟨[], .nil, fun Dn x c H S env σ cv d r ev xa h => h.elim⟩
  | @cons nm n q C0 b bs p p' hs l hN hm hi hl hh r ih =>
    obtain ⟨L, ok, go⟩ := ih
    refine ⟨(.ref C0, q.i, fun a cls d => fun Dn σ H => ∃ C dd, cls = .ref C ∧ d = some dd ∧ Γ.at_ q.k = some C ∧ mS ⟨X.K, Γ.on a dd⟩ (fun _ _ _ _ => False) q.h Dn σ H) :: L, .cons hN hi hl (fun a oe cls d pn hz hf => ⟨fun pins s σ H D I ⟨C, dd, e1, e2, g, h⟩ => ?_⟩) ok, fun Dn x c H S env σ cv d rp ev xa h => ?_⟩
    · subst e1; subst e2
      exact (hh a dd C oe pn g hz hf).run pins s σ H D I h
    · unfold runCl at h
      obtain ⟨C, dd, vs, g, e1, e2, l1, s, t⟩ := xa
      subst e1; subst e2
      cases hq : q.mt x.c with
      | none => rw [hq] at h; exact h.elim
      | some bb =>
        rw [hq] at h
        cases bb with
        | true =>
          obtain ⟨ek, h⟩ := PoS.if h
          refine .inl ⟨hm _ _ _ g hq, fun a ha => ⟨C, dd, rfl, rfl, by rw [← ek]; exact g, c, _, S, rp.sw (Γ := Γ) (Γ' := Γ.on a dd) rfl rfl rfl rfl (rp.nxn hx), ?_, end_read hx rp h⟩⟩
          refine (ev.sw (Γ := Γ) (Γ' := Γ.on a dd) rfl rfl rfl rfl (ev.nxn hx)).set ?_
          unfold At
          exact ⟨a, dd, C, vs, rfl, rfl, g, l1, s, Ats.sw (Γ := Γ) (Γ' := Γ.on a dd) rfl rfl rfl rfl _ _ (Ats.nxn hx _ _ t) t⟩
        | false => exact .inr ⟨hm _ _ _ g hq, go Dn x c H S env σ _ _ rp ev ⟨C, dd, vs, g, rfl, rfl, l1, s, t⟩ h⟩
theorem c_try {body : List Stmt} {h0 : ExceptHandler} {hs : List ExceptHandler} {b : SM} {l : List Clm} (hx : Γ.ex = none) (st : X.stack = X.env :: X.outer) (hf : X.env.frame = some X.env.locals) (nd : X.N.Nodup)
    (hb : ∀ (W : WX) (pn : List (Addr × Obj)) (xe : Value → Shared → Prop), Takes (X.tr pn xe) W → PassesOwn (model X.prog X.w) X.A X.env xe → CSs Γ (X.tr pn xe) W body b) (hh : CH Γ X (h0 :: hs) l) : CS Γ X W (.Try body (h0 :: hs) [] [] pos) (s_try b l) := by
  obtain ⟨L, ok, go⟩ := hh.cl (W := W) hx
  refine PS.weak (ps_try_cl (tb := fun W' => mS ⟨X.K, Γ⟩ W' b) st hf nd hb ok) fun Dn σ H ⟨c, env, S, r, ev, h⟩ => ?_
  refine ⟨c, env, S, r, ev, ?_⟩
  unfold s_try at h
  cases hm : b env S with
  | ex x env1 S1 =>
    rw [hm] at h
    exact fun c2 H2 σ2 C dd e2 r2 ev2 xa => go Dn x c2 H2 S1 env1 σ2 C dd r2 ev2 xa (PoS.mono e2 h)
  | next env1 S1 => rw [hm] at h; exact h
  | ret d S1 => rw [hm] at h; exact h
  | brk env1 S1 => rw [hm] at h; exact h
  | cnt env1 S1 => rw [hm] at h; exact h
  | bad => rw [hm] at h; exact h.elim
/-! ## except C: without a name -/
def s_tryO (mt : Nat → Option Bool) (b hm : SM) : SM := fun env S => match b env S with
  | .ex x env1 S1 => match mt x.c with
    | some true => hm env1 S1
    | _ => .bad
  | r => r
end
end Mm
namespace Mm
open PySem L2
section
variable {W : WX} {Γ : Cls'} {X : Cx} {pos p p' : Pos} {nm n : Str}
/-- the class nm stands under its name; mt: of the errors of the classes, which it takes -/
def MtOk (K : PySem.W.Frag) (Γ : Cls') (mg : Str → Option Value) (nm : Str) (mt : Nat → Option Bool) : Prop := ∃ C0, mg nm = some (.ref C0) ∧ ∀ k b C, Γ.at_ k = some C → mt k = some b → PySem.W.exmOne K (.ref C) (.ref C0) = some b
theorem CHc {q : Clm} {b : Stmt} {bs : List Stmt} {hs : List ExceptHandler} {l : List Clm} (M : MtOk X.K Γ X.mg nm q.mt) (hg : Gl X nm) (hi : X.N[q.i]? = some n) (hl : X.env.kindOf n = some .local)
    (hh : ∀ (a dd C : Addr) (oe : Obj) (pn : List (Addr × Obj)), Γ.at_ q.k = some C → Zc (.ref C) (some dd) oe → (∃ vs, oe.data = .fields vs) → CSs (Γ.on a dd) (X.suite a ((a, oe) :: pn)) (fun _ _ _ _ => False) (b :: bs) q.h) (r : CH Γ X hs l) (hd : (nm == ("__debug__" : Str)) = false := by decide) :
    CH Γ X (.ExceptHandler (some (.Name nm p)) (some n) (b :: bs) p' :: hs) (q :: l) := by
  obtain ⟨C0, hm, hx⟩ := M
  exact .cons ⟨hg, hd, .inl hm⟩ hx hi hl hh r
end
end Mm
set_option maxRecDepth 100000
/-! a method with keywords; a new object of a sequence's items and keywords -/
namespace Mm
open PySem L2
section
variable {W : WX} {Γ : Cls'} {X : Cx} {pos : Pos} {a o e : Expr} {ma mo : EM} {km : AM} {kws : List Keyword} {c : Cn} {H : Hp} {S : Sto}
/-- the class k has the method x, which is m, with the keywords ks alone, put in order by g -/
structure Dmn (P : Program) (wd : World) (K : PySem.W.Frag) (mg : Str → Option Value) (base : Heap) (Γ : Cls') (k : Nat) (x : Str) (lv : Nat) (m : FM) (ks : List Str) (g : D → List D → List D) : Prop where
  ex : ∃ (C f : Addr) (fd : FuncData) (ps : List Str) (g0 : List Value → List Value → List Value) (gV : List V → List V → List V), Γ.at_ k = some C ∧ Cls K C ∧ Meth K C x f ∧ FnOk P wd K mg base (L2.CX P wd) lv f fd ps (spM K Γ m) ∧ KBn K fd ps 1 ks g0 gV ∧
    ∀ (c : Cn) (H : Hp) (j : Nat) (x : D) (v : V) (es : List D) (zs : List V), At ⟨K, Γ⟩ c H j x v → Ats ⟨K, Γ⟩ c H j es zs → es.length = ks.length → Ats ⟨K, Γ⟩ c H j (g x es) (gV [v] zs)
  nf : x ∉ Γ.fs k
open Classical in
noncomputable def e_mthN (tr : TrF) (k : Nat) (m : FM) (g : D → List D → List D) (nk : Nat) (mo : EM) (km : AM) : EM := fun env S => (mo env S).bind fun d S1 => .if (isI k d S1) ((km env S1).bind fun es S2 => .if (es.length = nk) (tr S2 (m (g d es) S2)))
open Classical in
@[simp] theorem e_mthN_eq (tr : TrF) (k : Nat) (m : FM) (g : D → List D → List D) (nk : Nat) (mo : EM) (km : AM) (env : Env) (S : Sto) : e_mthN tr k m g nk mo km env S = (mo env S).bind fun d S1 => .if (isI k d S1) ((km env S1).bind fun es S2 => .if (es.length = nk) (tr S2 (m (g d es) S2))) := rfl
def e_mkr (tr : TrF) (k : Nat) (m : FM) (g : D → List D → List D) (nk : Nat) (me : EM) (km : AM) : EM := fun env S => (me env S).bind fun d S1 => (km env S1).bind fun es S2 => match seqOf S2 d with
  | some ds => .if (ds.length ≤ 1000 ∧ es.length = nk) (tr S2 (mkDk k m (fun x => g x es ++ [.tup ds]) S2))
  | none => .bad
@[simp] theorem e_mkr_eq (tr : TrF) (k : Nat) (m : FM) (g : D → List D → List D) (nk : Nat) (me : EM) (km : AM) (env : Env) (S : Sto) : e_mkr tr k m g nk me km env S = (me env S).bind fun d S1 => (km env S1).bind fun es S2 => match seqOf S2 d with
  | some ds => .if (ds.length ≤ 1000 ∧ es.length = nk) (tr S2 (mkDk k m (fun x => g x es ++ [.tup ds]) S2))
  | none => .bad := rfl
theorem c_mkr {k lv : Nat} {x : Str} {m : FM} {p sp_ : Pos} {tr : TrF} {ks : List Str} {g : D → List D → List D} {me : EM} (tok : TrOk tr) (G : Dks X.prog X.w X.K X.mg X.base Γ k x lv m ks g) (go : Goes X W) (hr : Room (lv + 1) X.A) (hg : Gl X x) (he : CE Γ X W e me) (hk : CK Γ X W kws km)
    (hall : (backToKw pos (keywordEach kws X.env)).all (·.1.isSome) = true := by rfl) (hks : (backToKw pos (keywordEach kws X.env)).filterMap (·.1) = ks := by rfl) (hdb : (x == ("__debug__" : Str)) = false := by decide)
    (hst : starEach [.Starred e sp_] X.env = [(true, eval e X.env)] := by rfl) : CE Γ X W (.Call (.Name x p) [.Starred e sp_] kws pos) (e_mkr tr k m g ks.length me km) := by
  obtain ⟨C, f, gV, gC, hm, M, F, hrel⟩ := G.ex
  refine PE.weak (StK.pe_makeRS (E := fun σ => WE W σ) M F hr hg hm go he hk hall hks hdb hst) fun σ H Q ⟨c, env, S, r, ev, h⟩ => ?_
  refine ⟨c, env, S, r, ev, (Po.bind h).imp fun v H1 ⟨c1, S1, d, e1, r1, a1, h1⟩ => ?_⟩
  refine ⟨c1, env, S1, r1, ev.mono e1, (Po.bind h1).imp fun zs H2 ⟨c2, S2, ds2, e2, r2, a2, h2⟩ => ?_⟩
  cases hq : seqOf S2 d with
  | none => simp only [hq] at h2; exact h2.elim
  | some ds =>
    simp only [hq] at h2
    obtain ⟨⟨l1, l2⟩, h2⟩ := Po.if h2
    obtain ⟨p, vs, ev', hs, as⟩ := seqOf_at r2 (a1.mono e2) hq
    refine ⟨by rw [a2.len]; exact l2, p, vs, ev', hs.symm, fun x dx hx hd ne => ⟨[.ref x], vs, rfl, rfl, by rw [as.len]; exact Nat.le_trans l1 (by decide), fun q hq => ?_⟩⟩
    obtain ⟨e3, r3, t3⟩ := mk_start (w := ⟨X.K, Γ⟩) (ds := []) (vs := []) r2 gC .nil hx hd ne
    obtain ⟨_, _, hE, al, _⟩ := t3.uncons
    cases hE
    have e4 := e3.trans (Ext.grow (o := .tup vs) (n := (S2 ++ [SO.ins k []]).length) (c := c2.nw S2.length x) hq)
    have h3 := Po.mono e4 (tok _ _ _ _ _ _ _ _ r2 h2)
    have al4 := al.mono (Ext.grow (o := .tup vs) hq)
    have at_ : At ⟨X.K, Γ⟩ (c2.nw S2.length x) (upd (upd (upd H2 dx (.own x)) x (.ins C dx [])) q (.tup vs)) (S2 ++ [SO.ins k []]).length (.tup ds) (.ref q) := by
      unfold At
      exact ⟨q, vs, rfl, SqT.of upd_same, as.mono e4⟩
    refine ⟨_, _, _, r3.grow (o := .tup vs) hq, (hrel _ _ _ _ _ _ _ al4 (a2.mono e4) l2).app (.one at_), ?_⟩
    refine Po.wish ((Po.bind h3).imp fun v H3 ⟨c3, S3, d3, e5, r5, a5, h5⟩ => ?_) fun _ _ _ z => z
    cases d3 with
    | non =>
      refine ⟨a5.non, h5 c3 H3 _ Ext.refl r5 ?_⟩
      unfold At at al4
      unfold At
      exact ⟨Nat.lt_of_lt_of_le al4.1 e5.le, by rw [e5.rho _ al4.1]; exact al4.2⟩
    | _ => exact h5.elim
end
end Mm
set_option maxRecDepth 100000
/-! A for loop over a dict that is a field: the dict is locked while it is walked. -/
namespace Mm
open PySem L2
def Cls'.lock (Γ : Cls') (p : Addr) : Cls' := { Γ with lk := some p }
theorem HasF.lk {K : PySem.W.Frag} {Γ : Cls'} {k i : Nat} {f : Str} {p : Addr} (h : HasF K Γ k i f) : HasF K (Γ.lock p) k i f := ⟨h.ok, h.at_, h.nd, h.few⟩
def isDK : HO → Prop
  | .dK _ => True
  | _ => False
section
variable {K : PySem.W.Frag} {Γ : Cls'} {c c' : Cn} {H H' : Hp} {n n' : Nat} {p : Addr} {od : Obj} {u : HO}
theorem lk_ne {a : Addr} {o : HO} (hp : H p = some u) (hu : isDK u) (h : H a = some o) (ho : ¬ isDK o) : a ≠ p := fun e => by
  rw [e, hp] at h; cases h; exact ho hu
theorem lk_nf {a : Addr} {o : HO} (hp : H p = some (.frz od u)) (hu : isDK u) (h : H a = some o) (ho : ∀ x, o = .frz od x → ¬ isDK x) : a ≠ p := fun e => by
  rw [e, hp] at h; cases h; exact ho _ rfl hu
theorem SqT.lock {a : Addr} {xs : List V} (hp : H p = some u) (hu : isDK u) (o : HO) (h : SqT K H a xs) : SqT K (upd H p o) a xs := by
  rcases h with (h | ⟨o, h⟩) | h
  · exact .inl (.inl (by rw [upd_ne (lk_ne hp hu h fun z => z)]; exact h))
  · exact .inl (.inr ⟨o, by rw [upd_ne (lk_ne hp hu h fun z => z)]; exact h⟩)
  · exact .inr h
theorem FzL.lock {a : Addr} {xs : List V} (hp : H p = some u) (hu : isDK u) (o : HO) (h : FzL K H a xs) : FzL K (upd H p o) a xs := by
  rcases h with ⟨o, h⟩ | h
  · exact .inl ⟨o, by rw [upd_ne (lk_ne hp hu h fun z => z)]; exact h⟩
  · exact .inr h
theorem SqT.unlock {a : Addr} {xs : List V} (hp : H p = some (.frz od u)) (hu : isDK u) (o : HO) (h : SqT K H a xs) : SqT K (upd H p o) a xs := by
  rcases h with (h | ⟨o, h⟩) | h
  · exact .inl (.inl (by rw [upd_ne (lk_nf hp hu h fun x e => nomatch e)]; exact h))
  · exact .inl (.inr ⟨o, by rw [upd_ne (lk_nf hp hu h fun x e z => by cases e; exact z)]; exact h⟩)
  · exact .inr h
theorem FzL.unlock {a : Addr} {xs : List V} (hp : H p = some (.frz od u)) (hu : isDK u) (o : HO) (h : FzL K H a xs) : FzL K (upd H p o) a xs := by
  rcases h with ⟨o, h⟩ | h
  · exact .inl ⟨o, by rw [upd_ne (lk_nf hp hu h fun x e z => by cases e; exact z)]; exact h⟩
  · exact .inr h
theorem DkA.lock {a : Addr} {o : HO} (hl : Γ.lk = none) (hp : H p = some u) (h : DkA ⟨K, Γ⟩ H a o) : DkA ⟨K, Γ.lock p⟩ (upd H p (.frz od u)) a o := by
  have h := h.ex hl
  by_cases e : a = p
  · subst e
    rw [hp] at h; cases h
    exact .inr ⟨rfl, od, upd_same⟩
  · exact .inl (by rw [upd_ne e]; exact h)
theorem DkA.unlock {a : Addr} {o : HO} (hp : H p = some (.frz od u)) (ho : ∀ x, o ≠ .frz od x) (h : DkA ⟨K, Γ.lock p⟩ H a o) : DkA ⟨K, Γ⟩ (upd H p u) a o := by
  rcases h with h | ⟨e, od', h⟩
  · refine .inl ?_
    rw [upd_ne fun e => by rw [e, hp] at h; cases h; exact ho u rfl]; exact h
  · cases e
    rw [hp] at h; cases h
    exact .inl upd_same
mutual
theorem At.lock (hl : Γ.lk = none) (hp : H p = some u) (hu : isDK u) : ∀ (d : D) (v : V), At ⟨K, Γ⟩ c H n d v → At ⟨K, Γ.lock p⟩ c (upd H p (.frz od u)) n d v
  | .non, v, h => h
  | .bl b, v, h => h
  | .int i, v, h => h
  | .str x, v, h => h
  | .tup ds, v, h => by
    unfold At at h ⊢
    obtain ⟨a, vs, r, s, t⟩ := h
    exact ⟨a, vs, r, SqT.lock hp hu _ s, Ats.lock hl hp hu ds vs t⟩
  | .ttp ds, v, h => by
    unfold At at h ⊢
    obtain ⟨a, vs, r, s, t⟩ := h
    exact ⟨a, vs, r, by rw [upd_ne (lk_ne hp hu s fun z => z)]; exact s, Ats.lock hl hp hu ds vs t⟩
  | .lst ds, v, h => by
    unfold At at h ⊢
    obtain ⟨a, vs, r, f, s, t⟩ := h
    exact ⟨a, vs, r, f, by rw [upd_ne (lk_ne hp hu s fun z => z)]; exact s, Ats.lock hl hp hu ds vs t⟩
  | .dic ks ds, v, h => by
    unfold At at h ⊢
    obtain ⟨a, vs, r, f, s, t⟩ := h
    refine ⟨a, vs, r, f, ?_, Ats.lock hl hp hu ds vs t⟩
    rcases s with ⟨kk, s⟩ | ⟨kk, s⟩ | s
    · exact .inl ⟨kk, s.1.lock hl hp, s.2⟩
    · exact .inr (.inl ⟨kk, s.1.lock hl hp, s.2⟩)
    · exact .inr (.inr (DkN.cong (w := ⟨K, Γ⟩) (w' := ⟨K, Γ.lock p⟩) rfl rfl (fun o _ d => d.lock hl hp) (fun a xs q => SqT.lock hp hu _ q) s))
  | .obj k ds, v, h => by
    unfold At at h ⊢
    obtain ⟨a, vs, C, dx, r, f, g, l, s, t⟩ := h
    exact ⟨a, vs, C, dx, r, f, g, l, by rw [upd_ne (lk_ne hp hu s fun z => z)]; exact s, Ats.lock hl hp hu ds vs t⟩
  | .fz ns, v, h => by
    unfold At at h ⊢
    obtain ⟨a, r, s⟩ := h
    exact ⟨a, r, FzL.lock hp hu _ s⟩
  | .loc k, v, h => by unfold At at h ⊢; exact h
  | .oth x, v, h => h
  | .xn k ds, v, h => by
    unfold At at h ⊢
    obtain ⟨a, dd, C, vs, r, x, g, l, s, t⟩ := h
    exact ⟨a, dd, C, vs, r, x, g, l, by rw [upd_ne (lk_ne hp hu s fun z => z)]; exact s, Ats.lock hl hp hu ds vs t⟩
theorem Ats.lock (hl : Γ.lk = none) (hp : H p = some u) (hu : isDK u) : ∀ (ds : List D) (vs : List V), Ats ⟨K, Γ⟩ c H n ds vs → Ats ⟨K, Γ.lock p⟩ c (upd H p (.frz od u)) n ds vs
  | [], vs, h => by unfold Ats at h ⊢; exact h
  | d :: ds, vs, h => by
    unfold Ats at h ⊢
    obtain ⟨v, r, q, a, b⟩ := h
    exact ⟨v, r, q, At.lock hl hp hu d v a, Ats.lock hl hp hu ds r b⟩
end
mutual
theorem At.unlock (hp : H p = some (.frz od u)) (hu : isDK u) : ∀ (d : D) (v : V), At ⟨K, Γ.lock p⟩ c H n d v → At ⟨K, Γ⟩ c (upd H p u) n d v
  | .non, v, h => h
  | .bl b, v, h => h
  | .int i, v, h => h
  | .str x, v, h => h
  | .tup ds, v, h => by
    unfold At at h ⊢
    obtain ⟨a, vs, r, s, t⟩ := h
    exact ⟨a, vs, r, SqT.unlock hp hu _ s, Ats.unlock hp hu ds vs t⟩
  | .ttp ds, v, h => by
    unfold At at h ⊢
    obtain ⟨a, vs, r, s, t⟩ := h
    exact ⟨a, vs, r, by rw [upd_ne (lk_nf hp hu s fun x e => nomatch e)]; exact s, Ats.unlock hp hu ds vs t⟩
  | .lst ds, v, h => by
    unfold At at h ⊢
    obtain ⟨a, vs, r, f, s, t⟩ := h
    exact ⟨a, vs, r, f, by rw [upd_ne (lk_nf hp hu s fun x e => nomatch e)]; exact s, Ats.unlock hp hu ds vs t⟩
  | .dic ks ds, v, h => by
    unfold At at h ⊢
    obtain ⟨a, vs, r, f, s, t⟩ := h
    refine ⟨a, vs, r, f, ?_, Ats.unlock hp hu ds vs t⟩
    rcases s with ⟨kk, s⟩ | ⟨kk, s⟩ | s
    · exact .inl ⟨kk, s.1.unlock hp (fun x e => nomatch e), s.2⟩
    · exact .inr (.inl ⟨kk, s.1.unlock hp (fun x e => nomatch e), s.2⟩)
    · exact .inr (.inr (DkN.cong (w := ⟨K, Γ.lock p⟩) (w' := ⟨K, Γ⟩) rfl rfl (fun o ⟨φ, e⟩ d => d.unlock hp (by subst e; exact fun x e => nomatch e)) (fun a xs q => SqT.unlock hp hu _ q) s))
  | .obj k ds, v, h => by
    unfold At at h ⊢
    obtain ⟨a, vs, C, dx, r, f, g, l, s, t⟩ := h
    exact ⟨a, vs, C, dx, r, f, g, l, by rw [upd_ne (lk_nf hp hu s fun x e => nomatch e)]; exact s, Ats.unlock hp hu ds vs t⟩
  | .fz ns, v, h => by
    unfold At at h ⊢
    obtain ⟨a, r, s⟩ := h
    exact ⟨a, r, FzL.unlock hp hu _ s⟩
  | .loc k, v, h => by unfold At at h ⊢; exact h
  | .oth x, v, h => h
  | .xn k ds, v, h => by
    unfold At at h ⊢
    obtain ⟨a, dd, C, vs, r, x, g, l, s, t⟩ := h
    exact ⟨a, dd, C, vs, r, x, g, l, by rw [upd_ne (lk_nf hp hu s fun x e => nomatch e)]; exact s, Ats.unlock hp hu ds vs t⟩
theorem Ats.unlock (hp : H p = some (.frz od u)) (hu : isDK u) : ∀ (ds : List D) (vs : List V), Ats ⟨K, Γ.lock p⟩ c H n ds vs → Ats ⟨K, Γ⟩ c (upd H p u) n ds vs
  | [], vs, h => by unfold Ats at h ⊢; exact h
  | d :: ds, vs, h => by
    unfold Ats at h ⊢
    obtain ⟨v, r, q, a, b⟩ := h
    exact ⟨v, r, q, At.unlock hp hu d v a, Ats.unlock hp hu ds r b⟩
end
theorem Ext.unlock (hp : H p = some u) (hu : isDK u) (e : Ext c (upd H p (.frz od u)) n c' H' n') : Ext c H n c' (upd H' p u) n' where
  le := e.le
  rho := e.rho
  fro := e.fro
  tup := fun a xs h => by
    have ne := lk_ne hp hu h fun z => z
    rw [upd_ne ne]; exact e.tup a xs (by rw [upd_ne ne]; exact h)
  frz := fun a o x h => by
    have ne := lk_ne hp hu h fun z => z
    rw [upd_ne ne]; exact e.frz a o x (by rw [upd_ne ne]; exact h)
  xd := fun a x h => by
    have ne := lk_ne hp hu h fun z => z
    rw [upd_ne ne]; exact e.xd a x (by rw [upd_ne ne]; exact h)
  keep := fun a o h t q => by
    by_cases ne : a = p
    · subst ne
      rw [hp] at h; cases h; exact upd_same
    · rw [upd_ne ne]; exact e.keep a o (by rw [upd_ne ne]; exact h) t q
  keepG := fun a o f h t => by
    by_cases ne : a = p
    · subst ne
      rw [hp] at h; cases h; exact upd_same
    · rw [upd_ne ne]; exact e.keepG a o f (by rw [upd_ne ne]; exact h) t
  new := fun k h1 h2 => by
    have q := e.new k h1 h2
    by_cases ne : c'.ρ k = p
    · rw [ne, upd_same] at q; cases q
    · rw [upd_ne ne] at q; exact q
  there := fun a o h => by
    by_cases ne : a = p
    · subst ne; exact ⟨_, upd_same⟩
    · obtain ⟨o', q⟩ := e.there a o (by rw [upd_ne ne]; exact h)
      exact ⟨o', by rw [upd_ne ne]; exact q⟩
  nF := fun a f => by
    rcases e.nF a f with h | h
    · exact .inl h
    · by_cases ne : a = p
      · subst ne; rw [upd_same] at h; cases h
      · rw [upd_ne ne] at h; exact .inr h
end
def RS.noex (r : RS) : RS := match r with
  | .ex _ _ _ => .bad
  | r => r
@[simp] theorem RS.noex_next (env : Env) (S : Sto) : (RS.next env S).noex = .next env S := rfl
@[simp] theorem RS.noex_ret (d : D) (S : Sto) : (RS.ret d S).noex = .ret d S := rfl
/-- the keys of a dict -/
def keysK (ks : List D) : Option (List D) := (kkO ks).map fun kk => kk.map keyD
noncomputable def s_forK (cs : List (Nat × Nat)) (i : Nat) (g : GM) (m : SM) : SM := fun env S => match env[i]? with
  | some (some d) => match fldD cs d S with
    | some (.dic ks ds) => match keysK ks with
      | some l => (loopS g m none l env S).noex
      | none => .bad
    | _ => .bad
  | _ => .bad
@[simp] theorem s_forK_eq (cs : List (Nat × Nat)) (i : Nat) (g : GM) (m : SM) (env : Env) (S : Sto) : s_forK cs i g m env S = match env[i]? with
  | some (some d) => match fldD cs d S with
    | some (.dic ks ds) => match keysK ks with
      | some l => (loopS g m none l env S).noex
      | none => .bad
    | _ => .bad
  | _ => .bad := rfl
section
variable {Γ : Cls'} {X : Cx} {W : WX} {tg : Expr} {pos : Pos}
end
end Mm
set_option maxRecDepth 100000
/-! texts: " " * n, sep.join(xs), str(n), f"..". -/
namespace L2
open PySem PySem.Spec PyProof.Rows PySem.W
/-- a text so many times -/
def repS (x : Str) (n : Int) : Str := if n < 1 then Str.empty else if (n == 1 || x.length == 0) = true then x else { cps := List.foldl (fun x1 x2 => x1 ++ x2) #[] (List.replicate n.toNat x.cps) }
def rMulS : R2 := fun x y H Q => ∃ s k, x = .str s ∧ y = .int k ∧ s.length ≤ 1000 ∧ 0 ≤ k ∧ k ≤ 1000 ∧ (repS s k).length ≤ sizeLine ∧ s.length * k.toNat ≤ sizeLine ∧ Q (.str (repS s k)) H
theorem op_mulS {X : Cx} : OpR X (binaryOp .Mult) rMulS := by
  intro pins s σ H x y v u Q I rx ry h
  obtain ⟨a, k, rfl, rfl, ha, h0, h1, hl, hz, q⟩ := h
  obtain ⟨t, rfl⟩ := rx
  obtain ⟨t', rfl⟩ := ry
  refine P.mul_str ?_ (fun hn hm => ?_) (fun hn hm => ?_) ?_
  · rw [Bool.or_eq_false_iff]
    exact ⟨decide_eq_false (by omega), decide_eq_false (by omega)⟩
  · have e : (2 : Int) ^ 63 - 1 = 9223372036854775807 := by decide
    have hk : (a.length : Int) * k ≤ 1000 * 1000 := Int.mul_le_mul (by omega) h1 h0 (by omega)
    have : (a.length : Int) ≤ (2 ^ 63 - 1) / k := Int.le_ediv_of_mul_le (by omega) (by rw [e]; omega)
    omega
  · unfold Builtin.Str.tooLong
    simp
    omega
  · unfold repS at q hl
    split
    · rename_i hn
      rw [if_pos hn] at q hl
      exact ⟨hl, .str Str.empty, H, I.tok _, ⟨_, rfl⟩, q⟩
    · rename_i hn
      rw [if_neg hn] at q hl
      split
      · rename_i hm
        rw [if_pos hm] at q
        exact ⟨.str a, H, I, ⟨_, rfl⟩, q⟩
      · rename_i hm
        rw [if_neg hm] at q hl
        exact ⟨hl, .str _, H, I.tok _, ⟨_, rfl⟩, q⟩
end L2
namespace Mm
open PySem L2 PySem.W
section
variable {w : Wn} {W : WX} {σ : St} {c c' : Cn} {H H' : Hp} {n n' : Nat} {S : Sto} {env : Env} {Γ : Cls'} {X : Cx} {e : Expr} {ma : EM} {pos : Pos}
def mulSD (x y : D) (S : Sto) : R D := match x, y with
  | .str s, .int k => .if (s.length ≤ 1000 ∧ 0 ≤ k ∧ k ≤ 1000 ∧ (repS s k).length ≤ sizeLine ∧ s.length * k.toNat ≤ sizeLine) (.ok (.str (repS s k)) S)
  | _, _ => .bad
@[simp] theorem mulSD_eq (s : Str) (k : Int) (S : Sto) : mulSD (.str s) (.int k) S = .if (s.length ≤ 1000 ∧ 0 ≤ k ∧ k ≤ 1000 ∧ (repS s k).length ≤ sizeLine ∧ s.length * k.toNat ≤ sizeLine) (.ok (.str (repS s k)) S) := rfl
theorem g_mulS : GOp Γ X mulSD rMulS := by
  intro W σ c H S x y v u Q r a b h
  cases x with
  | str s =>
    cases y with
    | int k =>
      obtain ⟨⟨h1, h2, h3, h4, h5⟩, h⟩ := Po.if h
      exact ⟨s, k, a.str, b.int, h1, h2, h3, h4, h5, fin_ok h r (.s _)⟩
    | _ => exact h.elim
  | _ => cases y <;> exact h.elim
/-- str(n) -/
def strID (x : D) (S : Sto) : R D := match x with
  | .int i => .if (i.natAbs.log2 < 1920) (.ok (.str (Str.ofString (toString i))) S)
  | _ => .bad
@[simp] theorem strID_eq (i : Int) (S : Sto) : strID (.int i) S = .if (i.natAbs.log2 < 1920) (.ok (.str (Str.ofString (toString i))) S) := rfl
theorem g_strI : GCall Γ X (f1 strID) (fun xs H Q => ∃ i, xs = [V.int i] ∧ i.natAbs.log2 < 1920 ∧ Q (V.str (Str.ofString (toString i))) H) := by
  refine .one fun W σ c H S x v Q r a h => ?_
  cases x with
  | int i =>
    obtain ⟨h1, h⟩ := Po.if h
    exact ⟨i, by rw [a.int], h1, fin_ok h r (.s _)⟩
  | _ => exact h.elim
/-- sep.join(xs) -/
def txsO : List D → Option (List Str)
  | [] => some []
  | .str s :: r => (txsO r).map (s :: ·)
  | _ => none
theorem txsO_at : ∀ {ds : List D} {vs : List V} {ys : List Str}, Ats w c H n ds vs → txsO ds = some ys → vs = ys.map V.str
  | [], vs, ys, a, h => by
    cases h; rw [a.unnil]; rfl
  | d :: ds, vs, ys, a, h => by
    obtain ⟨v, vr, rfl, a1, a2⟩ := a.uncons
    cases d with
    | str s =>
      unfold txsO at h
      obtain ⟨zs, hz, rfl⟩ := Option.map_eq_some_iff.mp h
      rw [a1.str, txsO_at a2 hz]; rfl
    | _ => cases h
def tyS (x : D) (_ : Sto) : Bool := match x with
  | .str _ => true
  | _ => false
@[simp] theorem tyS_str (s : Str) (S : Sto) : tyS (.str s) S = true := rfl
theorem gty_str : GTy "str" tyS := by
  intro w c H S x v r a h
  cases x with
  | str s => rw [a.str]; rfl
  | _ => cases h
def joinD (x : D) (ds : List D) (S : Sto) : R D := match x, ds with
  | .str a, [y] => .ofO (((seqOf S y).bind txsO).bind fun ys => if (ys.map (·.length)).sum + ys.length * a.length ≤ 16777216 then some (.str (Txt.join a ys)) else none) S
  | _, _ => .bad
@[simp] theorem joinD_eq (a : Str) (y : D) (S : Sto) : joinD (.str a) [y] S = .ofO (((seqOf S y).bind txsO).bind fun ys => if (ys.map (·.length)).sum + ys.length * a.length ≤ 16777216 then some (.str (Txt.join a ys)) else none) S := rfl
theorem gm_join : GMt Γ X joinD (fun x xs H Q => ∃ a p, ∃ ys : List Str, x = V.str a ∧ xs = [V.ref p] ∧ (SqL X.K H p (ys.map V.str) ∨ SqT X.K H p (ys.map V.str)) ∧ (ys.map (·.length)).sum + ys.length * a.length ≤ 16777216 ∧ Q (V.str (Txt.join a ys)) H) := by
  intro W σ c H S x v ds vs Q r a t h
  cases x with
  | str s =>
    cases ds with
    | nil => exact h.elim
    | cons y rs =>
      cases rs with
      | nil =>
        obtain ⟨u, rfl, ay⟩ := t.un1
        rw [joinD_eq] at h
        obtain ⟨d, hd, h⟩ := Po.ofO h
        cases hs : seqOf S y with
        | none => rw [hs] at hd; cases hd
        | some es =>
          rw [hs, Option.bind_some] at hd
          cases hy : txsO es with
          | none => rw [hy] at hd; cases hd
          | some ys =>
            rw [hy, Option.bind_some] at hd
            split at hd
            · rename_i hz
              cases hd
              obtain ⟨p, us, rfl, g, te⟩ := seqOf_at (w := ⟨X.K, Γ⟩) r ay hs
              rw [txsO_at te hy] at g
              exact ⟨s, p, ys, a.str, rfl, g, hz, fin_ok h r (.s _)⟩
            · cases hd
      | cons z rs => exact h.elim
  | _ => exact h.elim
/-! f-strings -/
def fmtD (x : D) (S : Sto) : R D := match x with
  | .str y => .if (y.length ≤ sizeLine) (.ok (.str y) S)
  | .int i => .if (i.natAbs.log2 < 1920) (.ok (.str (Str.ofString (toString i))) S)
  | _ => .bad
@[simp] theorem fmtD_str (y : Str) (S : Sto) : fmtD (.str y) S = .if (y.length ≤ sizeLine) (.ok (.str y) S) := rfl
@[simp] theorem fmtD_int (i : Int) (S : Sto) : fmtD (.int i) S = .if (i.natAbs.log2 < 1920) (.ok (.str (Str.ofString (toString i))) S) := rfl
def e_fmt (m : EM) : EM := fun env S => (m env S).bind fmtD
@[simp] theorem e_fmt_eq (m : EM) (env : Env) (S : Sto) : e_fmt m env S = (m env S).bind fmtD := rfl
theorem c_fmt (he : CE Γ X W e ma) : CE Γ X W (.FormattedValue e (-1) none pos) (e_fmt ma) := by
  refine PE.weak (pe_fmt he) fun σ H Q ⟨c, env, S, r, ev, h⟩ => ?_
  refine ⟨c, env, S, r, ev, (Po.bind h).imp fun v H1 ⟨c1, S1, d1, e1, r1, a1, h1⟩ => ?_⟩
  cases d1 with
  | str y =>
    obtain ⟨hl, h1⟩ := Po.if h1
    exact .inl ⟨y, a1.str, hl, fin_ok h1 r1 (.s _)⟩
  | int i =>
    obtain ⟨hl, h1⟩ := Po.if h1
    exact .inr ⟨i, a1.int, hl, fin_ok h1 r1 (.s _)⟩
  | _ => exact h1.elim
def e_js : List EM → Str → EM
  | [], acc, _, S => .ok (.str acc) S
  | m :: r, acc, env, S => (m env S).bind fun d S1 => match d with
    | .str y => .if ((acc ++ y).length ≤ sizeLine) (e_js r (acc ++ y) env S1)
    | _ => .bad
@[simp] theorem e_js_nil (acc : Str) (env : Env) (S : Sto) : e_js [] acc env S = .ok (.str acc) S := rfl
@[simp] theorem e_js_cons (m : EM) (r : List EM) (acc : Str) (env : Env) (S : Sto) : e_js (m :: r) acc env S = (m env S).bind fun d S1 => match d with
    | .str y => .if ((acc ++ y).length ≤ sizeLine) (e_js r (acc ++ y) env S1)
    | _ => .bad := rfl
inductive CJ (Γ : Cls') (X : Cx) (W : WX) : List Expr → List EM → Prop
  | nil : CJ Γ X W [] []
  | cons {e : Expr} {m : EM} {es : List Expr} {ms : List EM} : CE Γ X W e m → CJ Γ X W es ms → CJ Γ X W (e :: es) (m :: ms)
theorem CJ.pj {es : List Expr} {ms : List EM} (h : CJ Γ X W es ms) : PJ X es (ms.map (mE ⟨X.K, Γ⟩ W)) := by
  induction h with
  | nil => exact .nil
  | cons a _ ih => exact .cons a ih
theorem js_read {w : Wn} {Q : VK} : ∀ (ms : List EM) (acc : Str) (σ : L2.St) (H : Hp), mE w W (e_js ms acc) σ H Q → tJs (ms.map (mE w W)) acc σ H fun out H1 => Q (.str out) H1
  | [], acc, σ, H, ⟨c, env, S, r, ev, h⟩ => fin_ok h r (.s _)
  | m :: ms, acc, σ, H, ⟨c, env, S, r, ev, h⟩ => by
    refine ⟨c, env, S, r, ev, (Po.bind h).imp fun v H1 ⟨c1, S1, d1, e1, r1, a1, h1⟩ => ?_⟩
    cases d1 with
    | str y =>
      obtain ⟨hl, h1⟩ := Po.if h1
      exact ⟨y, a1.str, hl, js_read ms (acc ++ y) σ H1 ⟨c1, env, S1, r1, ev.mono e1, h1⟩⟩
    | _ => exact h1.elim
theorem c_joined {e1 e2 : Expr} {es : List Expr} {ms : List EM} (h : CJ Γ X W (e1 :: e2 :: es) ms) : CE Γ X W (.JoinedStr (e1 :: e2 :: es) pos) (e_js ms Str.empty) :=
  PE.weak (pe_joined h.pj) fun σ H Q z => js_read ms Str.empty σ H z
end
end Mm
set_option maxRecDepth 100000
/-! list.insert, list.reverse; two lists put together as a new place; a property -/
namespace Mm
open PySem L2
section
variable {w : Wn} {W : WX} {σ : St} {c c' : Cn} {H H' : Hp} {n n' : Nat} {S : Sto} {env : Env}
variable {Γ : Cls'} {X : Cx} {e : Expr} {ma : EM} {pos : Pos}
def insD (x : D) (ds : List D) (S : Sto) : R D := match x, ds with
  | .loc k, [.int i, y] => match S[k]? with
    | some (.lst es) => .if (es.length < sizeLine ∧ 0 ≤ i ∧ i < 2 ^ 63) (.ok .non (S.set k (.lst (es.take i.toNat ++ [y] ++ es.drop i.toNat))))
    | _ => .bad
  | _, _ => .bad
theorem Ats.tk {n : Nat} : ∀ {ds : List D} {vs : List V} (k : Nat), Ats w c H n ds vs → Ats w c H n (ds.take k) (vs.take k)
  | [], vs, k, h => by have := h.len; cases vs with | nil => simp; exact .nil | cons v vs => simp at this
  | d :: ds, vs, 0, h => by rw [List.take_zero, List.take_zero]; exact .nil
  | d :: ds, vs, k + 1, h => by
    obtain ⟨v, vr, rfl, a, b⟩ := h.uncons
    rw [List.take_succ_cons, List.take_succ_cons]; exact .cons a (Ats.tk k b)
theorem Ats.dp {n : Nat} : ∀ {ds : List D} {vs : List V} (k : Nat), Ats w c H n ds vs → Ats w c H n (ds.drop k) (vs.drop k)
  | [], vs, k, h => by have := h.len; cases vs with | nil => simp; exact .nil | cons v vs => simp at this
  | d :: ds, vs, 0, h => h
  | d :: ds, vs, k + 1, h => by
    obtain ⟨v, vr, rfl, a, b⟩ := h.uncons
    rw [List.drop_succ_cons, List.drop_succ_cons]; exact Ats.dp k b
def revD (x : D) (ds : List D) (S : Sto) : R D := match x, ds with
  | .loc k, [] => match S[k]? with
    | some (.lst es) => .ok .non (S.set k (.lst es.reverse))
    | _ => .bad
  | _, _ => .bad
theorem Ats.rv {n : Nat} : ∀ {ds : List D} {vs : List V}, Ats w c H n ds vs → Ats w c H n ds.reverse vs.reverse
  | [], vs, h => by have := h.len; cases vs with | nil => exact .nil | cons v vs => simp at this
  | d :: ds, vs, h => by
    obtain ⟨v, vr, rfl, a, b⟩ := h.uncons
    rw [List.reverse_cons, List.reverse_cons]; exact (Ats.rv b).app (.one a)
/-- two lists put together, as a new place of the store -/
def addN (x y : D) (S : Sto) : R D := match lstOf S x, lstOf S y with
  | some a, some b => .if (a.length + b.length ≤ sizeLine) (.ok (.loc S.length) (S ++ [.lst (a ++ b)]))
  | _, _ => .bad
theorem addN_eq {x y : D} {a b : List D} (hx : lstOf S x = some a) (hy : lstOf S y = some b) (hl : a.length + b.length ≤ sizeLine) : addN x y S = .ok (.loc S.length) (S ++ [.lst (a ++ b)]) := by
  unfold addN; rw [hx, hy]; exact if_pos hl
theorem g_addN : GOp Γ X addN (rAdd4 X.K) := by
  intro W σ c H S x y v u Q r a b h
  unfold addN at h
  cases hx : lstOf S x with
  | none => rw [hx] at h; exact h.elim
  | some as =>
    cases hy : lstOf S y with
    | none => rw [hx, hy] at h; exact h.elim
    | some bs =>
      rw [hx, hy] at h
      obtain ⟨hl, h⟩ := Po.if h
      obtain ⟨p, vs, rfl, g, t⟩ := lstOf_at r a hx
      obtain ⟨q, us, rfl, g', t'⟩ := lstOf_at r b hy
      exact .inr ⟨p, q, vs, us, rfl, rfl, g, g', by rw [t.len, t'.len]; exact hl, fun z hz => fin_new h r (t.app t') hz⟩
/-- the class k has the property f, whose getter gives the field at i -/
structure PrF (P : Program) (wd : World) (K : PySem.W.Frag) (mg : Str → Option Value) (base : Heap) (Γ : Cls') (k i : Nat) (f : Str) : Prop where
  ex : ∃ (C p g : Addr) (fd : FuncData) (fl : Str), Γ.at_ k = some C ∧ Cls K C ∧ PropOf K C f p g ∧ FnOk P wd K mg base CX0 1 g fd ["self"] (getSp C fl) ∧ Binds K fd ["self"] [] ∧ (Γ.fs k)[i]? = some fl ∧ (Γ.fs k).Nodup
/-- sorted ints, as a new place of the store -/
def sortN (x : D) (S : Sto) : R D := match (lstOf S x).bind (allO inO) with
  | some ns => .ok (.loc S.length) (S ++ [.lst ((sortI ns).map D.int)])
  | none => .bad
end
end Mm
set_option maxRecDepth 100000
/-! list.count over data; list.pop(i) -/
namespace Mm
open PySem L2
/-- how often a list holds what is equal to y, both as data -/
def rCntD (K : PySem.W.Frag) : V → List V → Hp → VK → Prop := fun x xs H Q => ∃ (a : Addr) (us : List V) (y : V) (ds : List PyData) (d : PyData), x = .ref a ∧ xs = [y] ∧ SqL K H a us ∧ DpAll K H us ds ∧ Dp K H y d ∧ SeqAt.shaped d = true ∧ SeqAt.shaped (.list ds) = true ∧ Q (.int ((ds.countP fun z => PyData.eqv z d) : Nat)) H
section
variable {w : Wn} {W : WX} {σ : St} {c : Cn} {H : Hp} {n : Nat} {S : Sto}
variable {Γ : Cls'} {X : Cx}
def cntO (S : Sto) (x y : D) : Option (List PyData × PyData) := (lstOf S x).bind fun es => (pyDs es).bind fun ps => (pyD y).map fun q => (ps, q)
def cntD (x : D) (ds : List D) (S : Sto) : R D := match ds with
  | [y] => match cntO S x y with
    | some (ps, q) => .if (SeqAt.shaped q = true ∧ SeqAt.shaped (.list ps) = true) (.ok (.int ((ps.countP fun z => PyData.eqv z q) : Nat)) S)
    | none => .bad
  | _ => .bad
theorem wr_endA {k : Nat} {es : List D} {us : List V} {Q : VK} {d : D} {v : V} (hd : At w c H S.length d v) (r : Rep w c H S) (hk : k < S.length) (hm : ∃ u, H (c.ρ k) = .some u ∧ Mut (.some u)) (t : Ats w c H S.length es us) (h : PoE w W σ c H S.length (.ok d (S.set k (.lst es))) Q) : Q v (upd H (c.ρ k) (.lst us)) := by
  have ex := Ext.wr r (o := .lst us) hk hm
  have rr := Rep.wr r (o := .lst us) (so := .lst es) hk hm ⟨_, upd_same, t.mono ex⟩
  have hl : (S.set k (.lst es)).length = S.length := List.length_set
  exact h c _ v (by rw [hl]; exact ex) rr (by rw [hl]; exact hd.mono ex)
theorem Ats.er {n : Nat} : ∀ {ds : List D} {vs : List V} (j : Nat), Ats w c H n ds vs → Ats w c H n (ds.eraseIdx j) (vs.eraseIdx j)
  | [], vs, j, h => by
    have := h.len
    cases vs with
    | nil => exact .nil
    | cons v vs => simp at this
  | d :: ds, vs, 0, h => by
    obtain ⟨v, vr, rfl, a, b⟩ := h.uncons
    exact b
  | d :: ds, vs, j + 1, h => by
    obtain ⟨v, vr, rfl, a, b⟩ := h.uncons
    rw [List.eraseIdx_cons_succ, List.eraseIdx_cons_succ]
    exact .cons a (Ats.er j b)
/-- list.pop(i) -/
def popAtD (x : D) (ds : List D) (S : Sto) : R D := match x, ds with
  | .loc k, [.int i] => match S[k]? with
    | some (.lst es) => .if (-(2 ^ 63) ≤ i ∧ i < 2 ^ 63) ((R.ofO ((seqIndex? i es.length).bind fun j => (es[j]?).map fun y => (j, y)) S).bind fun q _ => .ok q.2 (S.set k (.lst (es.eraseIdx q.1))))
    | _ => .bad
  | _, _ => .bad
/-- a slice of a list as a new place -/
def slN (x : D) (lo hi : Option Int) (S : Sto) : R D := match lstOf S x with
  | some ds => .ok (.loc S.length) (S ++ [.lst (cutD ds lo hi)])
  | none => .bad
def e_slN (m : EM) (l h : OM) : EM := fun env S => (m env S).bind fun d S1 => (l env S1).bind fun lo S2 => (h env S2).bind fun hi S3 => slN d lo hi S3
@[simp] theorem e_slN_eq (m : EM) (l h : OM) (env : Env) (S : Sto) : e_slN m l h env S = (m env S).bind fun d S1 => (l env S1).bind fun lo S2 => (h env S2).bind fun hi S3 => slN d lo hi S3 := rfl
end
end Mm
set_option maxRecDepth 100000
/-! `with` over an object of one's own whose body may raise -/
namespace WithX
open PySem PySem.W L2 PyProof.Rows PySem.Spec
/-- what happens behind an error of the body -/
def WErr (prog : Program) (w : World) (A : Around) (E : Value → Shared → Prop) (env : Env) (x fx : Addr) (Q : Flow → Shared → Prop) (e : Value) (s : Shared) : Prop :=
  wpAny (model prog w) A (noteFrame e env) (fun _ s5 => wpAny (model prog w) A (setFlight e none) (fun _ s6 => wpAny (model prog w) A (typeOf e) (fun ty s7 => wpAny (model prog w) A (tracebackOf e) (fun tb s8 =>
    wpAny (model prog w) A (withItem.marked e (Code.call (.ref fx) { pos := [.ref x, ty, e, tb] })) (fun r s9 => r = Value.none ∧ wpAny (model prog w) A (PySem.passOn "with" e env : Sem Flow) Q E s9) E s8) E s7) E s6) E s5) E s
/-! a heap without some objects -/
def er (h : Heap) (l : List Addr) : Heap := ⟨h.objs.mapIdx fun i o => if i ∈ l then { o with data := .freed } else o, h.life⟩
/-- a def whose body raises nothing and may run while an error is handled -/
structure FnQ (P : Program) (w : World) (K : PySem.W.Frag) (mg : Str → Option Value) (base : Heap) (k : Nat) (f : Addr) (fd : FuncData) (ps : List Str) (sp : Sp) : Prop where
  len : ∀ vs H Q E, sp vs H Q E → vs.length = ps.length
  run : ∀ (A : Around) (outer : List Env) (s : Shared) (H : Hp) (args : Args) (us : List Value) (vs : List V) (Q : VK) (p : Addr × Obj), L2H.RoomH k A → L2H.PinOk outer H s p → Env0 P w K mg base A outer s H → BindsTo s fd args (ps.zip us) → Vals vs us → sp vs H Q E0 →
    codeAny (model P w) A (.call (.ref f) args) (CR (L2.CX P w) outer P w H s Q E0) s
/-- what an error of the body leads to -/
def wWith (spX : Sp) (a : Addr) (Wout : WX) : WX := fun cls d σ H => ∃ Ce, cls = Value.ref Ce ∧ ∀ y z u : V, spX [.ref a, y, z, u] H (fun v H' => v = .non ∧ Wout cls d σ H') E0
section
variable {X : Cx} {C fe fx : Addr} {fde fdx : FuncData} {pse psx : List Str} {spE spX : Sp} {ke kx : Nat} {pos : Pos} {body : List Stmt} {ctx : Expr} {te : TE} {tb : WX → TS} {Wout : WX}
def tWith (te : TE) (C : Addr) (spE spX : Sp) (tb : WX → TS) (Wout : WX) : TS := fun D σ H => te σ H fun x H1 => ∃ a dx fs, x = .ref a ∧ H1 a = some (.ins C dx fs) ∧ spE [.ref a] H1 (fun _ H2 => tb (wWith spX a Wout)
  { nx := fun σ3 H3 => spX [.ref a, .non, .non, .non] H3 (fun _ H4 => D.nx σ3 H4) E0, rt := fun v H3 => spX [.ref a, .non, .non, .non] H3 (fun _ H4 => D.rt v H4) E0, bk := fun _ _ => False, ct := fun _ _ => False } σ H2) E0
end
end WithX
namespace Mm
open PySem L2
/-! ## `with` over an instance of one's own -/
section
variable {w : Wn} {W : WX} {σ : St} {c c' : Cn} {H H' : Hp} {n n' : Nat} {S : Sto} {env : Env}
variable {Γ : Cls'} {X : Cx} {pos : Pos} {k lv : Nat} {me : FM} {bx b : SM} {m : EM}
/-- what the exit does: of its four arguments it looks at the first alone -/
def runX (bx : SM) (d : D) (S : Sto) : R D := endF (bx [some d, none, none, none] S)
def spQ (K : PySem.W.Frag) (Γ : Cls') (bx : SM) : Sp := fun vs H Q E => ∃ c S d v w1 w2 w3, vs = [v, w1, w2, w3] ∧ Rep ⟨K, Γ⟩ c H S ∧ At ⟨K, Γ⟩ c H S.length d v ∧ PoE ⟨K, Γ⟩ (fun C dd _ H => E C dd H) [] c H S.length (runX bx d S) Q
structure Dw (P : Program) (wd : World) (K : PySem.W.Frag) (mg : Str → Option Value) (base : Heap) (Γ : Cls') (k lv : Nat) (me : FM) (bx : SM) : Prop where
  ex : ∃ (C fe fx : Addr) (fde fdx : FuncData) (pse psx : List Str), Γ.at_ k = some C ∧ OwnM K C "__enter__" fe ∧ OwnM K C "__exit__" fx ∧ FnOk P wd K mg base (L2.CX P wd) lv fe fde pse (spM K Γ me) ∧ Binds K fde pse [] ∧
    FnOk P wd K mg base (L2.CX P wd) 2 fx fdx psx (spQ K Γ bx) ∧ WithX.FnQ P wd K mg base 2 fx fdx psx (spQ K Γ bx) ∧ Binds K fdx psx []
def withB (g : Sto → R D) : RS → RS
  | .next env S => match g S with | .ok _ S' => .next env S' | _ => .bad
  | .ret d S => match g S with | .ok _ S' => .ret d S' | _ => .bad
  | .ex x env S => match g S with | .ok .non S' => .ex x env S' | _ => .bad
  | _ => .bad
def s_with (k : Nat) (me : FM) (bx : SM) (m : EM) (b : SM) : SM := fun env S => (m env S).toS env fun d S1 => match insOf S1 d with
  | some (k', _) => if k' = k then (match me [d] S1 with | .ok _ S2 => withB (runX bx d) (b env S2) | _ => .bad) else .bad
  | none => .bad
end
end Mm
set_option maxRecDepth 100000
/-! texts: s.split(sep), s.find(part) -/
namespace Mm
open PySem L2 PySem.W
section
variable {w : Wn} {W : WX} {σ : St} {c c' : Cn} {H H' : Hp} {n n' : Nat} {S : Sto} {env : Env} {Γ : Cls'} {X : Cx} {e : Expr} {ma : EM} {pos : Pos}
theorem Ats.strs : ∀ l : List Str, Ats w c H n (l.map D.str) (l.map V.str)
  | [] => .nil
  | s :: r => .cons (.s s) (Ats.strs r)
def splitD (x : D) (ds : List D) (S : Sto) : R D := match x, ds with
  | .str a, [.str b] => .if ((b.length == 0) = false ∧ a.length + 2 ≤ sizeLine) (.ok (.lst ((Txt.split a b).map .str)) S)
  | _, _ => .bad
def splitN (x : D) (ds : List D) (S : Sto) : R D := match x, ds with
  | .str a, [.str b] => .if ((b.length == 0) = false ∧ a.length + 2 ≤ sizeLine) (.ok (.loc S.length) (S ++ [.lst ((Txt.split a b).map .str)]))
  | _, _ => .bad
def findD (x : D) (ds : List D) (S : Sto) : R D := match x, ds with
  | .str a, [.str b] => .ok (.int (Txt.find a b)) S
  | _, _ => .bad
@[simp] theorem splitD_eq (a b : Str) (S : Sto) : splitD (.str a) [.str b] S = .if ((b.length == 0) = false ∧ a.length + 2 ≤ sizeLine) (.ok (.lst ((Txt.split a b).map .str)) S) := rfl
@[simp] theorem splitN_eq (a b : Str) (S : Sto) : splitN (.str a) [.str b] S = .if ((b.length == 0) = false ∧ a.length + 2 ≤ sizeLine) (.ok (.loc S.length) (S ++ [.lst ((Txt.split a b).map .str)])) := rfl
@[simp] theorem findD_eq (a b : Str) (S : Sto) : findD (.str a) [.str b] S = .ok (.int (Txt.find a b)) S := rfl
theorem gm_split : GMt Γ X splitD (fun x xs H Q => ∃ a b, x = V.str a ∧ xs = [V.str b] ∧ (b.length == 0) = false ∧ a.length + 2 ≤ sizeLine ∧ rNewStrs (Txt.split a b) H Q) := by
  intro W σ c H S x v ds vs Q r a t h
  cases x with
  | str s =>
    cases ds with
    | nil => exact h.elim
    | cons y rs =>
      cases rs with
      | nil =>
        cases y with
        | str b =>
          obtain ⟨u, rfl, ay⟩ := t.un1
          obtain ⟨⟨h1, h2⟩, h⟩ := Po.if h
          exact ⟨s, b, a.str, by rw [ay.str], h1, h2, fun p hp => fin_lst h r (Ats.strs _) hp⟩
        | _ => exact h.elim
      | cons z rs => cases y <;> exact h.elim
  | _ => exact h.elim
theorem gm_splitN : GMt Γ X splitN (fun x xs H Q => ∃ a b, x = V.str a ∧ xs = [V.str b] ∧ (b.length == 0) = false ∧ a.length + 2 ≤ sizeLine ∧ rNewStrs (Txt.split a b) H Q) := by
  intro W σ c H S x v ds vs Q r a t h
  cases x with
  | str s =>
    cases ds with
    | nil => exact h.elim
    | cons y rs =>
      cases rs with
      | nil =>
        cases y with
        | str b =>
          obtain ⟨u, rfl, ay⟩ := t.un1
          obtain ⟨⟨h1, h2⟩, h⟩ := Po.if h
          exact ⟨s, b, a.str, by rw [ay.str], h1, h2, fun p hp => fin_new h r (Ats.strs _) hp⟩
        | _ => exact h.elim
      | cons z rs => cases y <;> exact h.elim
  | _ => exact h.elim
theorem gm_find : GMt Γ X findD (fun x xs H Q => ∃ a b, x = V.str a ∧ xs = [V.str b] ∧ Q (V.int (Txt.find a b)) H) := by
  intro W σ c H S x v ds vs Q r a t h
  cases x with
  | str s =>
    cases ds with
    | nil => exact h.elim
    | cons y rs =>
      cases rs with
      | nil =>
        cases y with
        | str b =>
          obtain ⟨u, rfl, ay⟩ := t.un1
          exact ⟨s, b, a.str, by rw [ay.str], fin_ok h r (.i _)⟩
        | _ => exact h.elim
      | cons z rs => cases y <;> exact h.elim
  | _ => exact h.elim
/-- xs.pop() -/
def popLD (x : D) (ds : List D) (S : Sto) : R D := match x, ds with
  | .loc k, [] => match S[k]? with
    | some (.lst es) => (R.ofO es[es.length - 1]? S).bind fun y _ => .ok y (S.set k (.lst (es.eraseIdx (es.length - 1))))
    | _ => .bad
  | _, _ => .bad
theorem popLD_loc {k : Nat} {es : List D} {y : D} (h : S[k]? = some (.lst (es ++ [y]))) : popLD (.loc k) [] S = .ok y (S.set k (.lst es)) := by
  unfold popLD
  simp only [h]
  have e1 : (es ++ [y])[(es ++ [y]).length - 1]? = some y := by simp
  have e2 : (es ++ [y]).eraseIdx ((es ++ [y]).length - 1) = es := by
    rw [List.length_append, List.length_singleton, Nat.add_sub_cancel, List.eraseIdx_append_of_length_le (Nat.le_refl _), Nat.sub_self]
    simp
  rw [e1, e2]
  rfl
theorem drop_er {α : Type} : ∀ l : List α, l.dropLast = l.eraseIdx (l.length - 1)
  | [] => rfl
  | [a] => rfl
  | a :: b :: r => by
    have ih := drop_er (b :: r)
    show a :: (b :: r).dropLast = (a :: b :: r).eraseIdx ((b :: r).length - 1 + 1)
    rw [List.eraseIdx_cons_succ, ← ih]
theorem gm_pop : GMt Γ X popLD rPop := by
  intro W σ c H S x v ds vs Q r a t h
  cases x with
  | loc k =>
    cases ds with
    | nil =>
      have := t.len
      obtain rfl : vs = [] := by cases vs with | nil => rfl | cons _ _ => simp at this
      cases hk : S[k]? with
      | none => unfold popLD at h; simp only [hk] at h; exact h.elim
      | some o =>
        cases o with
        | lst es =>
          unfold popLD at h
          simp only [hk] at h
          cases hy : es[es.length - 1]? with
          | none => rw [hy] at h; exact h.elim
          | some y =>
            rw [hy] at h
            unfold At at a
            obtain ⟨us, g, te⟩ := r.get hk
            obtain ⟨y', hy', ay⟩ := te.get hy
            have hl : us.length = es.length := by rw [te.len]
            refine ⟨c.ρ k, us, y', a.2, rfl, g, by rw [hl]; exact hy', ?_⟩
            rw [drop_er us, hl]
            exact wr_endA ay r a.1 ⟨_, g, trivial⟩ (te.er (es.length - 1)) h
        | _ => unfold popLD at h; simp only [hk] at h; exact h.elim
    | cons _ _ => exact h.elim
  | _ => exact h.elim
end
end Mm
set_option maxRecDepth 100000
set_option maxHeartbeats 1000000
/-! zip of a list and a tuple: any two iterators that pass one item a turn -/
namespace ZipX
open PySem
section
variable {P : Program} {w : World} {A : Around}
/-- an iterator i over l: where it is told by J -/
structure NX (P : Program) (w : World) (A : Around) (i l : Addr) (J : Heap → Nat → Prop) (f : Nat → Option Value) : Prop where
  fr : ∀ {g g' k b}, J g k → Heap.ExtBut b g g' → i ≠ b → l ≠ b → J g' k
  item : ∀ {s : Shared} {k x} {Q : Value → Shared → Prop} {E}, J s.heap k → f k = some x → (∀ g, J g (k + 1) → Heap.SameBut i s.heap g → Q x { s with heap := g }) → wpAny (model P w) A (Builtin.SmallTypes.nextOf (.ref i)) Q E s
  done : ∀ {s : Shared} {k} {Q : Value → Shared → Prop} {E : Value → Shared → Prop}, J s.heap k → f k = none → (∀ g e, Heap.ExtBut i s.heap g → (∃ o, g.get? e = some o ∧ o.cls = .type "StopIteration") → E (.ref e) { s with heap := g }) → wpAny (model P w) A (Builtin.SmallTypes.nextOf (.ref i)) Q E s
def JL (i l : Addr) (xs : Array Value) (g : Heap) (k : Nat) : Prop := g.IsListIter i l k ∧ g.IsList l xs
def JT (i l : Addr) (xs : Array Value) (g : Heap) (k : Nat) : Prop := g.IsTupleIter i l k ∧ g.IsTuple l xs
theorem nx_list {i l : Addr} {xs : Array Value} (hh : A.handled = none) (ne : l ≠ i) : NX P w A i l (JL i l xs) (fun k => xs[k]?) :=
  ⟨fun j e a b => ⟨j.1.extBut e a, j.2.extBut e b⟩, fun j hx hQ => wpAny_nextOf_list_item j.1 j.2 hx fun g t sb => hQ g ⟨t, j.2.extBut sb.extBut ne⟩ sb, fun j hx hE => wpAny_nextOf_list_end hh j.1 j.2 hx hE⟩
theorem nx_tuple {i l : Addr} {xs : Array Value} (hh : A.handled = none) (ne : l ≠ i) : NX P w A i l (JT i l xs) (fun k => xs[k]?) :=
  ⟨fun j e a b => ⟨j.1.extBut e a, j.2.extBut e b⟩, fun j hx hQ => RZ.nextOf_tuple_item j.1 j.2 hx fun g t sb => hQ g ⟨t, j.2.extBut sb.extBut ne⟩ sb, fun j hx hE => RZ.nextOf_tuple_end hh j.1 j.2 hx hE⟩
variable {s : Shared} {E : Value → Shared → Prop} {z TI TO i1 i2 l1 l2 : Addr} {J1 J2 : Heap → Nat → Prop} {f1 f2 : Nat → Option Value} {k : Nat} {x y a b : Value}
/-- what stays as it was at a turn -/
def Stays (z TO i1 i2 : Addr) (g g' : Heap) : Prop := ∀ c o, c ≠ z → c ≠ TO → c ≠ i1 → c ≠ i2 → g.get? c = some o → g'.get? c = some o
theorem zip_item {Q : Value → Shared → Prop} (Z : ZipApart z TI TO i1 i2 l1 l2) (n1 : NX P w A i1 l1 J1 f1) (n2 : NX P w A i2 l2 J2 f2) (gz : IsZip s.heap z TI TO .none) (gi : IsPair s.heap TI (.ref i1) (.ref i2)) (go : IsPair s.heap TO a b) (j1 : J1 s.heap k) (j2 : J2 s.heap k) (hx : f1 k = some x) (hy : f2 k = some y)
    (hQ : ∀ g, IsZip g z TI TO (rawInt s.heap.objs.size) → IsPair g TO x y → J1 g (k + 1) → J2 g (k + 1) → IsPair g s.heap.objs.size x y → g.objs.size = s.heap.objs.size + 1 → Stays z TO i1 i2 s.heap g → Q (.ref s.heap.objs.size) { s with heap := g }) :
    wpAny (model P w) A (Builtin.«zip.__next__» ⟨[.ref z], []⟩) (fun fin s' => ∃ v, fin = .done (.ret v) ∧ Q v s') E s := by
  show wpAny _ _ (field (.ref z) 2 >>= _) _ _ _; refine wpAny_bind (wpAny_field gz rfl (x := .bool false) rfl ?_)
  show wpAny _ _ (field (.ref z) 3 >>= _) _ _ _; refine wpAny_bind (wpAny_field gz rfl (x := .ref TI) rfl (wpAny_bind (wpAny_seqItems gi rfl ?_)))
  show wpAny _ _ (Builtin.SmallTypes.ownedTupleIsFree (.ref z) >>= _) _ _ _; refine wpAny_bind ?_; unfold Builtin.SmallTypes.ownedTupleIsFree
  refine wpAny_bind (wpAny_field gz rfl (x := .none) rfl (wpAny_pure ?_)); simp only [if_true]
  refine wpAny_bind (wpAny_rule (wpAny_bind (wpAny_field gz rfl (x := .ref TO) rfl (wpAny_bind (wpAny_setField_rec gz (by simp) fun g1 z1 b1 => ?_)))))
  replace z1 : IsZip g1 z TI TO .ellipsis := z1
  refine wpAny_bind ?_; simp only [List.forIn_cons, List.forIn_nil, List.zipIdx_cons, List.zipIdx_nil]
  refine wpAny_bind (wpAny_bind (wpAny_onRaise ?_)); show wpAny _ _ (Builtin.SmallTypes.nextOf (.ref i1) >>= _) _ _ _
  refine wpAny_bind (n1.item (n1.fr j1 b1.extBut Z.i1z Z.l1z) hx fun g2 p1 b2 => wpAny_pure ?_)
  have o2 : IsPair g2 TO a b := b2.extBut _ _ Z.TOi1 (b1.extBut _ _ Z.TOz go)
  refine wpAny_bind (wpAny_seqItems o2 rfl (wpAny_bind (wpAny_updateSeq_pair o2 fun g3 o3 b3 => ?_)))
  replace o3 : IsPair g3 TO x b := o3
  refine wpAny_bind (wpAny_letGo (wpAny_pure ?_))
  refine wpAny_bind (wpAny_bind (wpAny_onRaise ?_)); show wpAny _ _ (Builtin.SmallTypes.nextOf (.ref i2) >>= _) _ _ _
  refine wpAny_bind (n2.item (n2.fr (n2.fr (n2.fr j2 b1.extBut Z.i2z Z.l2z) b2.extBut Z.i12.symm Z.l2i1) b3.extBut Z.TOi2.symm Z.l2TO) hy fun g4 p2 b4 => wpAny_pure ?_)
  have o4 : IsPair g4 TO x b := b4.extBut _ _ Z.TOi2 o3
  refine wpAny_bind (wpAny_seqItems o4 rfl (wpAny_bind (wpAny_updateSeq_pair o4 fun g5 o5 b5 => ?_)))
  replace o5 : IsPair g5 TO x y := o5
  refine wpAny_bind (wpAny_letGo (wpAny_pure (wpAny_pure (wpAny_bind (wpAny_seqItems o5 rfl (wpAny_bind (wpAny_newTuple ?_)))))))
  have hsz : g5.objs.size = s.heap.objs.size := b5.1.trans (b4.1.trans (b3.1.trans (b2.1.trans b1.1)))
  have z5 : IsZip g5 z TI TO .ellipsis := b5.extBut _ _ Z.TOz.symm (b4.extBut _ _ Z.i2z.symm (b3.extBut _ _ Z.TOz.symm (b2.extBut _ _ Z.i1z.symm z1)))
  have st5 : Stays z TO i1 i2 s.heap g5 := fun c o c1 c2 c3 c4 e => b5.extBut _ _ c2 (b4.extBut _ _ c4 (b3.extBut _ _ c2 (b2.extBut _ _ c3 (b1.extBut _ _ c1 e))))
  have p1' : J1 g5 (k + 1) := n1.fr (n1.fr (n1.fr p1 b3.extBut Z.TOi1.symm Z.l1TO) b4.extBut Z.i12 Z.l1i2) b5.extBut Z.TOi1.symm Z.l1TO
  have p2' : J2 g5 (k + 1) := n2.fr p2 b5.extBut Z.TOi2.symm Z.l2TO
  have zl : z < g5.objs.size := Heap.lt_size z5
  show wpAny _ _ (Builtin.SmallTypes.ownedTupleHandOut (.ref z) (.ref g5.objs.size) >>= _) _ _ _; refine wpAny_bind ?_; unfold Builtin.SmallTypes.ownedTupleHandOut
  have z6 : IsZip (g5.push { cls := .type "tuple", data := .seq #[x, y] }) z TI TO .ellipsis := Heap.get?_push_of_some _ z5
  refine wpAny_bind (wpAny_setField_rec z6 (by simp) fun g7 z7 b7 => ?_)
  replace z7 : IsZip g7 z TI TO (rawInt g5.objs.size) := z7
  refine wpAny_setField_rec z7 (by simp) fun g8 z8 b8 => ?_
  replace z8 : IsZip g8 z TI TO (rawInt g5.objs.size) := z8
  have up : Heap.ExtBut z g5 g8 := fun c o c1 e => b8.extBut _ _ c1 (b7.extBut _ _ c1 (Heap.get?_push_of_some _ e))
  have t8 : IsPair g8 g5.objs.size x y := b8.extBut _ _ (Nat.ne_of_gt zl) (b7.extBut _ _ (Nat.ne_of_gt zl) (Heap.get?_push_size _ rfl))
  have s8 : g8.objs.size = g5.objs.size + 1 := b8.1.trans (b7.1.trans (Heap.size_push ..))
  rw [hsz] at z8 t8 s8
  refine wpAny_pure ⟨_, rfl, ?_⟩
  show Q (.ref g5.objs.size) _
  rw [hsz]
  exact hQ g8 z8 (up _ _ Z.TOz o5) (n1.fr p1' up Z.i1z Z.l1z) (n2.fr p2' up Z.i2z Z.l2z) t8 s8 fun c o c1 c2 c3 c4 e => up c o c1 (st5 c o c1 c2 c3 c4 e)
theorem zip_done {Q : Fin → Shared → Prop} (Z : ZipApart z TI TO i1 i2 l1 l2) (n1 : NX P w A i1 l1 J1 f1) (n2 : NX P w A i2 l2 J2 f2) (gz : IsZip s.heap z TI TO .none) (gi : IsPair s.heap TI (.ref i1) (.ref i2)) (go : IsPair s.heap TO a b) (j1 : J1 s.heap k) (j2 : J2 s.heap k) (hx : f1 k = none ∨ f2 k = none)
    (hE : ∀ g e, Stays z TO i1 i2 s.heap g → (∃ o, g.get? e = some o ∧ o.cls = .type "StopIteration") → E (.ref e) { s with heap := g }) :
    wpAny (model P w) A (Builtin.«zip.__next__» ⟨[.ref z], []⟩) Q E s := by
  show wpAny _ _ (field (.ref z) 2 >>= _) _ _ _; refine wpAny_bind (wpAny_field gz rfl (x := .bool false) rfl ?_)
  show wpAny _ _ (field (.ref z) 3 >>= _) _ _ _; refine wpAny_bind (wpAny_field gz rfl (x := .ref TI) rfl (wpAny_bind (wpAny_seqItems gi rfl ?_)))
  show wpAny _ _ (Builtin.SmallTypes.ownedTupleIsFree (.ref z) >>= _) _ _ _; refine wpAny_bind ?_; unfold Builtin.SmallTypes.ownedTupleIsFree
  refine wpAny_bind (wpAny_field gz rfl (x := .none) rfl (wpAny_pure ?_)); simp only [if_true]
  refine wpAny_bind (wpAny_rule (wpAny_bind (wpAny_field gz rfl (x := .ref TO) rfl (wpAny_bind (wpAny_setField_rec gz (by simp) fun g1 z1 b1 => ?_)))))
  replace z1 : IsZip g1 z TI TO .ellipsis := z1
  refine wpAny_bind ?_; simp only [List.forIn_cons, List.forIn_nil, List.zipIdx_cons, List.zipIdx_nil]
  refine wpAny_bind (wpAny_bind (wpAny_onRaise ?_)); show wpAny _ _ (Builtin.SmallTypes.nextOf (.ref i1) >>= _) _ _ _
  cases h1 : f1 k with
  | none =>
    refine wpAny_bind (n1.done (n1.fr j1 b1.extBut Z.i1z Z.l1z) h1 fun g2 e b2 ⟨oe, he, ce⟩ => ?_)
    have z2 : IsZip g2 z TI TO .ellipsis := b2 _ _ Z.i1z.symm z1
    have ez : e ≠ z := by rintro rfl; rw [z2] at he; cases he; simp at ce
    exact wpAny_setField_rec z2 (by simp) fun g3 _ b3 => hE g3 e (fun c o c1 _ c3 _ q => b3.extBut _ _ c1 (b2 _ _ c3 (b1.extBut _ _ c1 q))) ⟨oe, b3.extBut _ _ ez he, ce⟩
  | some x =>
    have h2 : f2 k = none := hx.resolve_left (by rw [h1]; exact fun q => nomatch q)
    refine wpAny_bind (n1.item (n1.fr j1 b1.extBut Z.i1z Z.l1z) h1 fun g2 p1 b2 => wpAny_pure ?_)
    have o2 : IsPair g2 TO a b := b2.extBut _ _ Z.TOi1 (b1.extBut _ _ Z.TOz go)
    refine wpAny_bind (wpAny_seqItems o2 rfl (wpAny_bind (wpAny_updateSeq_pair o2 fun g3 o3 b3 => ?_)))
    refine wpAny_bind (wpAny_letGo (wpAny_pure ?_))
    refine wpAny_bind (wpAny_bind (wpAny_onRaise ?_)); show wpAny _ _ (Builtin.SmallTypes.nextOf (.ref i2) >>= _) _ _ _
    refine wpAny_bind (n2.done (n2.fr (n2.fr (n2.fr j2 b1.extBut Z.i2z Z.l2z) b2.extBut Z.i12.symm Z.l2i1) b3.extBut Z.TOi2.symm Z.l2TO) h2 fun g4 e b4 ⟨oe, he, ce⟩ => ?_)
    have z4 : IsZip g4 z TI TO .ellipsis := b4 _ _ Z.i2z.symm (b3.extBut _ _ Z.TOz.symm (b2.extBut _ _ Z.i1z.symm z1))
    have ez : e ≠ z := by rintro rfl; rw [z4] at he; cases he; simp at ce
    exact wpAny_setField_rec z4 (by simp) fun g5 _ b5 => hE g5 e (fun c o c1 c2 c3 c4 q => b5.extBut _ _ c1 (b4 _ _ c4 (b3.extBut _ _ c2 (b2.extBut _ _ c3 (b1.extBut _ _ c1 q))))) ⟨oe, b5.extBut _ _ ez he, ce⟩
theorem next_item {Q : Option Value → Shared → Prop} (Z : ZipApart z TI TO i1 i2 l1 l2) (n1 : NX P w A.in1 i1 l1 J1 f1) (n2 : NX P w A.in1 i2 l2 J2 f2) (gz : IsZip s.heap z TI TO .none) (gi : IsPair s.heap TI (.ref i1) (.ref i2)) (go : IsPair s.heap TO a b) (j1 : J1 s.heap k) (j2 : J2 s.heap k) (hx : f1 k = some x) (hy : f2 k = some y)
    (hQ : ∀ g, IsZip g z TI TO (rawInt s.heap.objs.size) → IsPair g TO x y → J1 g (k + 1) → J2 g (k + 1) → IsPair g s.heap.objs.size x y → g.objs.size = s.heap.objs.size + 1 → Stays z TO i1 i2 s.heap g → Q (some (.ref s.heap.objs.size)) { s with heap := g }) : wpAny (model P w) A (pyNext (.ref z)) Q E s := by
  have ty : s.TypeIs (.ref z) "zip" := ⟨_, gz, rfl⟩
  unfold pyNext
  exact wpAny_bind (wpAny_attempt (wpAny_callSpecial?_slot (name := Str.ofString "__next__") ty F.slot_zip_next (wpAny_call_entry F.slot_zip_next ty F.entry_zip_next (zip_item Z n1 n2 gz gi go j1 j2 hx hy fun g a1 a2 a3 a4 a5 a6 a7 => wpAny_pure (hQ g a1 a2 a3 a4 a5 a6 a7)) (F.args_zip_next_1 _))))
theorem next_done {Q : Option Value → Shared → Prop} (Z : ZipApart z TI TO i1 i2 l1 l2) (n1 : NX P w A.in1 i1 l1 J1 f1) (n2 : NX P w A.in1 i2 l2 J2 f2) (gz : IsZip s.heap z TI TO .none) (gi : IsPair s.heap TI (.ref i1) (.ref i2)) (go : IsPair s.heap TO a b) (j1 : J1 s.heap k) (j2 : J2 s.heap k) (hx : f1 k = none ∨ f2 k = none)
    (hQ : ∀ g, Stays z TO i1 i2 s.heap g → Q none { s with heap := g }) : wpAny (model P w) A (pyNext (.ref z)) Q E s := by
  have ty : s.TypeIs (.ref z) "zip" := ⟨_, gz, rfl⟩
  unfold pyNext
  refine wpAny_bind (wpAny_attempt (wpAny_callSpecial?_slot (name := Str.ofString "__next__") ty F.slot_zip_next (wpAny_call_entry F.slot_zip_next ty F.entry_zip_next (zip_done Z n1 n2 gz gi go j1 j2 hx fun g e st ⟨o, ho, hc⟩ => ?_) (F.args_zip_next_1 _))))
  exact wpAny_bind (wpAny_isInstance (T := "StopIteration") (b := true) ⟨o, ho, hc⟩ isSubtype_stop (wpAny_pure (hQ _ st)))
end
abbrev zh1 (g : Heap) (p : Addr) : Heap := g.push { cls := .type "list_iterator", data := .fields #[.ref p, .int 0 0] }
abbrev zh2 (g : Heap) (p q : Addr) : Heap := (zh1 g p).push { cls := .type "tuple_iterator", data := .fields #[.ref q, .int 0 0] }
abbrev zh3 (g : Heap) (p q : Addr) : Heap := (zh2 g p q).push { cls := .type "tuple", data := .seq #[.ref g.objs.size, .ref (zh1 g p).objs.size] }
abbrev zh4 (g : Heap) (p q : Addr) : Heap := (zh3 g p q).push { cls := .type "tuple", data := .seq #[.none, .none] }
abbrev zh5 (g : Heap) (p q : Addr) : Heap := (zh4 g p q).push { cls := .type "zip", data := .fields #[.none, .bool false, .bool false, .ref (zh2 g p q).objs.size, .ref (zh3 g p q).objs.size] }
theorem new_zip (p q : Addr) (xs ys : Array Value) : Meets (Builtin.«zip.__new__» ⟨[.type "zip", .ref p, .ref q], []⟩) (fun _ R s => s.heap.IsList p xs ∧ s.heap.IsTuple q ys ∧ R (.ok (.ret (.ref (zh4 s.heap p q).objs.size))) { s with heap := zh5 s.heap p q }) :=
  .of_wp fun prog w A R s ⟨hp, hq, h⟩ => by
    obtain ⟨hh, g, d, tk, os⟩ := s
    have sz := sub_zip
    have m1 : Heap.IsList (Shared.heap ⟨hh, g, d, tk, os⟩) p xs := hp
    have m2 : Heap.IsTuple (Shared.heap ⟨zh1 hh p, g, d, tk, os⟩) q ys := Heap.IsTuple.push hq _
    wp_walk using wpAny_pyIter_list m1, wpAny_pyIter_tuple m2
    exact ⟨_, rfl, h⟩
theorem call_zip {P : Program} {w : World} {A : Around} {E : Value → Shared → Prop} {s : Shared} {p q : Addr} {xs ys : Array Value} {Q : Value → Shared → Prop} (hp : s.heap.IsList p xs) (hq : s.heap.IsTuple q ys)
    (h : ∀ g n, n = s.heap.objs.size → IsZip g (n + 4) (n + 2) (n + 3) .none → IsPair g (n + 2) (.ref n) (.ref (n + 1)) → IsPair g (n + 3) .none .none → g.IsListIter n p 0 → g.IsTupleIter (n + 1) q 0 → (∀ c o, s.heap.get? c = some o → g.get? c = some o) → Q (.ref (n + 4)) { s with heap := g }) :
    wpAny (model P w) A (call (.type "zip") [.ref p, .ref q]) Q E s := by
  refine callType_new F.called_zip (by decide) (F.typeCall_zip_2 _ _) (F.newCall_zip_2 _ _) (fun o => F.args_object_init_3 o _ _) F.entry_zip_new (new_zip p q xs ys) ⟨hp, hq, ?_⟩
  have e1 : (zh1 s.heap p).objs.size = s.heap.objs.size + 1 := Heap.size_push ..
  have e2 : (zh2 s.heap p q).objs.size = s.heap.objs.size + 2 := (Heap.size_push ..).trans (congrArg (· + 1) e1)
  have e3 : (zh3 s.heap p q).objs.size = s.heap.objs.size + 3 := (Heap.size_push ..).trans (congrArg (· + 1) e2)
  have e4 : (zh4 s.heap p q).objs.size = s.heap.objs.size + 4 := (Heap.size_push ..).trans (congrArg (· + 1) e3)
  have up : ∀ {g : Heap} {c o} (o' : Obj), g.get? c = some o → (g.push o').get? c = some o := fun o' e => Heap.get?_push_of_some _ e
  have g5 : (zh5 s.heap p q).get? (zh4 s.heap p q).objs.size = some _ := Heap.get?_push_size _ rfl
  have g4 : (zh5 s.heap p q).get? (zh3 s.heap p q).objs.size = some _ := up _ (Heap.get?_push_size _ rfl)
  have g3 : (zh5 s.heap p q).get? (zh2 s.heap p q).objs.size = some _ := up _ (up _ (Heap.get?_push_size _ rfl))
  have g2 : (zh5 s.heap p q).get? (zh1 s.heap p).objs.size = some _ := up _ (up _ (up _ (Heap.get?_push_size _ rfl)))
  have g1 : (zh5 s.heap p q).get? s.heap.objs.size = some _ := up _ (up _ (up _ (up _ (Heap.get?_push_size _ rfl))))
  show _ ∧ _
  rw [e2, e3, e4] at g5
  rw [e1, e2] at g3
  rw [e3] at g4
  rw [e1] at g2
  rw [e4]
  exact ⟨⟨_, g5, rfl⟩, h _ _ rfl g5 g3 g4 ⟨_, g1, rfl, rfl⟩ ⟨_, g2, rfl, rfl⟩ fun c o x => up _ (up _ (up _ (up _ (up _ x))))⟩
end ZipX
set_option maxRecDepth 100000
/-! what zip of a list and a tuple gives -/
namespace L2
open PySem PySem.Spec PyProof.Rows ZipX
/-- the list at a and the tuple at b, item by item, in new pairs -/
def ItzM (K : PySem.W.Frag) (a b : Addr) : It :=
  ⟨fun i H => ∃ (xs ys : List V) (x y : V), SqL K H a xs ∧ SqT K H b ys ∧ xs[i]? = some x ∧ ys[i]? = some y,
    fun i H v H' => ∃ T x y, v = .ref T ∧ H T = none ∧ H' = upd H T (.tup [x, y]) ∧ (∀ l, SqL K H a l → l[i]? = some x) ∧ ∀ l, SqT K H b l → l[i]? = some y,
    fun i H => ∃ xs ys : List V, SqL K H a xs ∧ SqT K H b ys ∧ (xs.length ≤ i ∨ ys.length ≤ i)⟩
theorem five {p : Addr → Prop} {z a b c d : Addr} (hz : p z) (ha : p a) (hb : p b) (hc : p c) (hd : p d) : ∀ x ∈ [z, a, b, c, d], p x := by
  intro x hx
  simp only [List.mem_cons, List.not_mem_nil, or_false] at hx
  rcases hx with rfl | rfl | rfl | rfl | rfl <;> assumption
theorem stays_kept {z TI TO i1 i2 : Addr} {g g' : Heap} (st : Stays z TO i1 i2 g g') : ∀ c o, ¬ c ∈ [z, TI, TO, i1, i2] → g.get? c = some o → g'.get? c = some o :=
  fun c o h => st c o (fun q => h (by simp [q])) (fun q => h (by simp [q])) (fun q => h (by simp [q])) (fun q => h (by simp [q]))
/-- where such a zip stands -/
def ZAt (z TI TO i1 i2 a b : Addr) (i : Nat) (h : Heap) : Prop := IsZip h z TI TO .none ∧ IsPair h TI (.ref i1) (.ref i2) ∧ (∃ x y, IsPair h TO x y) ∧ h.IsListIter i1 a i ∧ h.IsTupleIter i2 b i
theorem turn_zipM {P : Program} {w : World} {K : PySem.W.Frag} {elts : List Expr} {kk : Nat} {tpos : Pos} {a b z TI TO i1 i2 : Addr} (Z : ZipApart z TI TO i1 i2 a b) :
    Turn P w K (.Tuple elts kk tpos) (ItzM K a b) [z, TI, TO, i1, i2] z (ZAt z TI TO i1 i2 a b) where
  mem := List.mem_cons_self ..
  obj := fun i h ⟨gz, gi, ⟨x, y, go⟩, ⟨o1, e1, _, d1⟩, ⟨o2, e2, _, d2⟩⟩ =>
    five (p := fun c => ∃ o, h.get? c = some o ∧ ∀ v, o.data ≠ .cell v) ⟨_, gz, fun v q => nomatch q⟩ ⟨_, gi, fun v q => nomatch q⟩ ⟨_, go, fun v q => nomatch q⟩ ⟨o1, e1, fun v q => by rw [d1] at q; cases q⟩ ⟨o2, e2, fun v q => by rw [d2] at q; cases q⟩
  keep := fun i h h' ⟨gz, gi, ⟨x, y, go⟩, t1, t2⟩ k => ⟨k z (by simp) _ gz, k TI (by simp) _ gi, ⟨x, y, k TO (by simp) _ go⟩, t1.at fun o q => k i1 (by simp) o q, t2.at fun o q => k i2 (by simp) o q⟩
  item := by
    intro X hP hw hK hc i pins s σ H E I hf ⟨gz, gi, ⟨x0, y0, go⟩, t1, t2⟩ ⟨xs, ys, x, y, qx, qy, hx, hy⟩
    subst hP hw hK
    obtain ⟨its, rv, p, _⟩ := I.list qx
    obtain ⟨its2, rv2, p2, _⟩ := I.tuple qy
    obtain ⟨u, hu, ru⟩ := rv.get hx
    obtain ⟨u2, hu2, ru2⟩ := rv2.get hy
    have zl : z < s.heap.objs.size := Heap.lt_size gz
    have hd : X.A.in1.handled = none := I.ok.hd hc
    refine ZipX.next_item Z (nx_list hd Z.l1i1) (nx_tuple hd Z.l2i2) gz gi go ⟨t1, p.isList⟩ ⟨t2, p2⟩ (x := u) (y := u2) (by simpa using hu) (by simpa using hu2) fun g z' o' t1' t2' hT hsz st => ?_
    refine ⟨_, rfl, wpAny_letOwnedTupleGo_zip (s := { s with heap := g }) z' fun g2 z2 sb => ?_⟩
    have hT2 : g2.get? s.heap.objs.size = some { cls := .type "tuple", data := .seq #[u, u2] } := (sb.2 _ (Nat.ne_of_gt zl)).trans hT
    have new : ObjOk X.prog X.w (upd H s.heap.objs.size (.tup [x, y])) g2 s.heap.objs.size (.tup [x, y]) := ⟨show 2 ≤ sizeLine by decide, [u, u2], .cons ru (.cons ru2 .nil), ⟨_, hT2, rfl, _, rfl⟩⟩
    have I1 : Inv X pins σ (upd H s.heap.objs.size (.tup [x, y])) { s with heap := g2 } :=
      I.turnedNew (t' := s.toks) (ch := [z, TI, TO, i1, i2]) (fun c o hb q => (sb.2 c fun q' => hb (by simp [q'])).trans (stays_kept st c o hb q)) hf (Nat.le_refl _) new
    refine ⟨.ref s.heap.objs.size, _, I1, rfl, ⟨_, x, y, rfl, I.hok.fresh (Nat.le_refl _), rfl, fun l hl => (I.list_inj hl qx) ▸ hx, fun l hl => (I.tuple_inj hl qy) ▸ hy⟩, ⟨z2, (sb.2 _ Z.TIz).trans (st _ _ Z.TIz Z.TITO Z.TIi1 Z.TIi2 gi), ⟨u, u2, (sb.2 _ Z.TOz).trans o'⟩, t1'.1.at fun o q => (sb.2 _ Z.i1z).trans q, t2'.1.at fun o q => (sb.2 _ Z.i2z).trans q⟩, ?_⟩
    have lt : ∀ c ∈ [z, TI, TO, i1, i2], c < s.heap.objs.size := five zl (Heap.lt_size gi) (Heap.lt_size go) (by obtain ⟨_, e, _⟩ := t1; exact Heap.lt_size e) (by obtain ⟨_, e, _⟩ := t2; exact Heap.lt_size e)
    intro c hm
    rw [upd_ne (Nat.ne_of_lt (lt c hm))]
    exact (hf c hm).1
  done := by
    intro X hP hw hK hc i pins s σ H E I hf ⟨gz, gi, ⟨x0, y0, go⟩, t1, t2⟩ ⟨xs, ys, qx, qy, hend⟩
    subst hP hw hK
    obtain ⟨its, rv, p, _⟩ := I.list qx
    obtain ⟨its2, rv2, p2, _⟩ := I.tuple qy
    have r1 := rv.length
    have r2 := rv2.length
    have hd : X.A.in1.handled = none := I.ok.hd hc
    refine ZipX.next_done Z (nx_list hd Z.l1i1) (nx_tuple hd Z.l2i2) gz gi go ⟨t1, p.isList⟩ ⟨t2, p2⟩ (hend.imp (fun q => by simp; omega) (fun q => by simp; omega)) fun g st => ?_
    exact ⟨rfl, I.turnedL (t' := s.toks) (ch := [z, TI, TO, i1, i2]) (stays_kept st) hf⟩
  self := fun A i s Q E st h => wpAny_pyIter_zip st.1 h
/-- what the two calls' values give to the loop -/
def iZipM (K : PySem.W.Frag) (ta : TA) : TI := fun σ H R => ta σ H fun vs H1 => ∃ a b xs ys, vs = [.ref a, .ref b] ∧ SqL K H1 a xs ∧ SqT K H1 b ys ∧ R (ItzM K a b) H1
theorem pi_zipM {X : Cx} {e e2 : Expr} {ta : TA} {p pos tpos : Pos} {elts : List Expr} {kk : Nat} (hg : Gl X "zip") (hm : X.mg "zip" = none) (ha : PA X [e, e2] ta)
    (hs : starEach [e, e2] X.env = (false, eval e X.env) :: starEach [e2] X.env := by rfl) (hpl : (backTo pos (starEach [e2] X.env)).any (·.1) = false := by rfl) : PI X (.Tuple elts kk tpos) (.Call (.Name "zip" p) [e, e2] [] pos) (iZipM X.K ta) := by
  refine ⟨fun pins s σ H R I h => Call_ (ld_blt I hg hm PyProof.Rows.boot_zip (PyProof.Rows.callWith_type1 (thn (ha.run pos pins s σ H _ I h) fun us s1 ⟨vs, H1, I1, r1, a, b, xs, ys, ex, qx, qy, q⟩ => ?_) hs hpl))⟩
  subst ex
  cases r1 with
  | cons ra r1 =>
    cases r1 with
    | cons rb r1 =>
      cases r1; cases ra; cases rb
      obtain ⟨its, rv, l1, _⟩ := I1.list qx
      obtain ⟨its2, rv2, l2, _⟩ := I1.tuple qy
      have lt2 : b < s1.heap.objs.size := by obtain ⟨_, e, _⟩ := id l2; exact Heap.lt_size e
      refine ZipX.call_zip l1.isList l2 fun g n hn hz hi ho t1 t2 hk => wpAny_pyIter_zip hz ?_
      subst hn
      have new : ∀ c, s1.heap.objs.size ≤ c → FpOk X pins H1 c := fun c hle => I1.fpOk hle (I1.hok.fresh hle)
      exact ⟨_, _, _, _, H1, rfl, I1.kept (t' := s1.toks) hk, turn_zipM (PySem.W.ktu_apart s1.heap.objs.size a b l1.lt lt2), ⟨hz, hi, ⟨_, _, ho⟩, t1, t2⟩, five (new _ (Nat.le_add_right _ _)) (new _ (Nat.le_add_right _ _)) (new _ (Nat.le_add_right _ _)) (new _ (Nat.le_refl _)) (new _ (Nat.le_add_right _ _)), q⟩
end L2
namespace Mm
open PySem L2 PySem.W
section
variable {w : Wn} {W : WX} {σ : St} {c c' : Cn} {H H' : Hp} {n n' : Nat} {S : Sto} {env : Env} {Γ : Cls'} {X : Cx} {a b : Expr} {ma mb : EM} {pos : Pos}
theorem Later.wkZM {xs ys : List D} {p q : Addr} (l : Later w c H n (xs, none) (fun H vs => SqL w.K H p vs)) (m : Later w c H n (ys, none) (fun H vs => SqT w.K H q vs)) : Wk w c H n (zipD xs ys, none) (ItzM w.K p q) := by
  intro c1 H1 S e r st i
  obtain ⟨vs, g, t⟩ := l c1 H1 S e r (stay_none _ _)
  obtain ⟨us, g2, t2⟩ := m c1 H1 S e r (stay_none _ _)
  refine ⟨fun d hd => ?_, fun hi => ⟨vs, us, g, g2, ?_⟩⟩
  · obtain ⟨x, y, hx, hy, rfl⟩ := zipD_get _ _ _ _ hd
    obtain ⟨v, hv, aa⟩ := t.get hx
    obtain ⟨u, hu, ab⟩ := t2.get hy
    refine ⟨⟨vs, us, v, u, g, g2, hv, hu⟩, ?_⟩
    rintro z H2 ⟨T, x1, y1, rfl, hT, rfl, q1, q2⟩
    cases hv.symm.trans (q1 vs g)
    cases hu.symm.trans (q2 us g2)
    exact tup_new r hT (.cons aa (.one ab))
  · have hi : i = min xs.length ys.length := hi.trans (zipD_len xs ys)
    rw [t.len, t2.len]
    show xs.length ≤ i ∨ ys.length ≤ i
    omega
/-- a list and a tuple, item by item -/
def i_zipM (m m2 : EM) : IM := fun env S => (m env S).bind fun d S1 => (m2 env S1).bind fun e S2 => (R.ofO (match d, e with | .lst xs, .tup ys => some (xs, ys) | _, _ => none) S2).bind fun p S3 => .ok (zipD p.1 p.2, none) S3
@[simp] theorem i_zipM_eq (m m2 : EM) (env : Env) (S : Sto) : i_zipM m m2 env S = (m env S).bind fun d S1 => (m2 env S1).bind fun e S2 => (R.ofO (match d, e with | .lst xs, .tup ys => some (xs, ys) | _, _ => none) S2).bind fun p S3 => .ok (zipD p.1 p.2, none) S3 := rfl
theorem ci_zipM {p tpos : Pos} {elts : List Expr} {kk : Nat} (hg : Gl X "zip") (hm : X.mg "zip" = none) (ha : CE Γ X W a ma) (hb : CE Γ X W b mb)
    (hs : starEach [a, b] X.env = (false, eval a X.env) :: starEach [b] X.env := by rfl) (hpl : (backTo pos (starEach [b] X.env)).any (·.1) = false := by rfl) (hs4 : starEach [b] X.env = (false, eval b X.env) :: starEach [] X.env := by rfl) :
    CI Γ X W (.Tuple elts kk tpos) (.Call (.Name "zip" p) [a, b] [] pos) (i_zipM ma mb) := by
  refine PI.weak (pi_zipM hg hm (pa_cons ha (pa_cons hb pa_nil hs4) hs) hs hpl) fun σ H R ⟨c, env, S, r, ev, h⟩ => ?_
  refine ⟨c, env, S, r, ev, (Po.bind h).imp fun v H1 ⟨c1, S1, d1, e1, r1, a1, h1⟩ => ?_⟩
  refine ⟨c1, env, S1, r1, ev.mono e1, (Po.bind h1).imp fun u H2 ⟨c2, S2, d2, e2, r2, a2, h2⟩ => ?_⟩
  have a1 := a1.mono e2
  cases d1 with
  | lst xs =>
    cases d2 with
    | tup ys =>
      obtain ⟨p, rfl, l⟩ := later_lst a1
      obtain ⟨q, rfl, l2⟩ := later_tup a2
      obtain ⟨vs, g, _⟩ := l c2 H2 S2 Ext.refl.A r2 (stay_none _ _)
      obtain ⟨us, g2, _⟩ := l2 c2 H2 S2 Ext.refl.A r2 (stay_none _ _)
      exact ⟨p, q, vs, us, rfl, g, g2, h2 c2 H2 _ Ext.refl r2 (l.wkZM l2)⟩
    | _ => exact h2.elim
  | _ => cases d2 <;> exact h2.elim
end
end Mm
set_option maxRecDepth 100000
/-! any of a list of bools and texts: a text's truth takes tokens -/
namespace L2
open PySem PySem.Spec PyProof.Rows
section
variable {prog : Program} {w : World} {A : Around} {R : Result → Shared → Prop} {I : Addr} {fp wr : List Addr} {n : Nat} {P : Nat → Value → Prop} {St : Nat → Heap → Prop}
/-- a truth that may take tokens -/
def TruthT (prog : Program) (w : World) (A : Around) (P : Nat → Value → Prop) (tr : Nat → Bool) : Prop :=
  ∀ i v (s : Shared) (Q : Bool → Shared → Prop) (E : Value → Shared → Prop), P i v → (∀ t, Q (tr i) { s with toks := t }) → wpAny (model prog w) A (truthy v) Q E s
theorem any_loopT (W : Walks prog w A.in1 I fp wr n P St) (tr : Nat → Bool) (ht : TruthT prog w A.in1 P tr) : ∀ (k i : Nat) (s : Shared), n = i + k → St i s.heap →
    (∀ g t, (∀ b o, b ∉ wr → s.heap.get? b = some o → g.get? b = some o) → R (.ok (.ret (.bool (((List.range n).drop i).any tr)))) { s with heap := g, toks := t }) → codeAny (model prog w) A (.builtin "any.loop" ⟨[.ref I], []⟩) R s
  | 0, i, s, hn, st, hR => by
    subst hn
    refine codeAny_builtin F.entry_any_loop ?_; rw [Around.under_plainId F.plain_any_loop _]
    show wpAny _ A.in1 (pyNext (.ref I) >>= _) _ _ s
    refine wpAny_bind (W.done s _ _ st fun g t hk => wpAny_bind (wpAny_rule (wpAny_pure ?_)))
    have q := hR g t hk
    rw [List.drop_of_length_le (by simp)] at q
    exact q
  | k + 1, i, s, hn, st, hR => by
    have lt : i < n := by omega
    have e : (List.range n).drop i = i :: (List.range n).drop (i + 1) := by rw [List.drop_eq_getElem_cons (by simpa using lt)]; simp
    refine codeAny_builtin F.entry_any_loop ?_; rw [Around.under_plainId F.plain_any_loop _]
    show wpAny _ A.in1 (pyNext (.ref I) >>= _) _ _ s
    refine wpAny_bind (W.item i s _ _ lt st fun v g t hP st' hk => wpAny_bind (wpAny_holding (ht i v _ _ _ hP fun t2 => wpAny_bind (wpAny_letGo ?_))))
    cases hb : tr i with
    | false =>
      simp only [Bool.false_eq_true, if_false]
      refine wpAny_pure ⟨plainId_quiet F.plain_any_loop _, any_loopT W tr ht k (i + 1) _ (by omega) st' fun g2 t3 hk2 => ?_⟩
      have q := hR g2 t3 fun b o hb e => hk2 b o hb (hk b o hb e)
      rw [e, List.any_cons, hb, Bool.false_or] at q
      exact q
    | true =>
      simp only [if_true]
      refine wpAny_bind (wpAny_rule (wpAny_pure ?_))
      have q := hR g t2 hk
      rw [e, List.any_cons, hb, Bool.true_or] at q
      exact q
end
/-- the truth of a bool or a text -/
def trV : V → Bool
  | .bl b => b
  | .str x => (x.length : Int) != 0
  | _ => false
def isTr : V → Prop
  | .bl _ => True
  | .str x => x.length ≤ sizeLine
  | _ => False
theorem any_rangeT : ∀ vs : List V, (List.range vs.length).any (fun i => (vs[i]?.map trV).getD false) = vs.any trV
  | [] => rfl
  | v :: vs => by
    rw [List.length_cons, List.range_succ_eq_map, List.any_cons, List.any_map, List.any_cons, ← any_rangeT vs]
    rfl
def rAnyT (K : PySem.W.Frag) : List V → Hp → VK → Prop := fun vs H Q => ∃ (a : Addr) (xs : List V), vs = [V.ref a] ∧ SqL K H a xs ∧ (∀ x ∈ xs, isTr x) ∧ Q (.bl (xs.any trV)) H
theorem cr_anyT {X : Cx} (hc : X.calm = true) : CallR X (.builtin "any") (rAnyT X.K) := by
  intro pins s σ H vs us Q I r ⟨a, xs, e, hs, hx, q⟩
  subst e
  obtain ⟨its, rv, hl, _⟩ := I.list hs
  rw [Vals.ref1 r]
  have lines := line63
  refine call_function_tree F.kind_any F.plain_any F.entry_any (F.args_any1 _) ?_
  unfold Builtin.«any»
  refine wpAny_bind (m := oneArg "any" _) (wpAny_pure (wpAny_bind (iter_any hl.isList fun s2 e2 st hne => ?_)))
  subst e2
  have tt : TruthT X.prog X.w X.A.in1 (fun i v => its.toArray[i]? = some v) (fun i => (xs[i]?.map trV).getD false) := by
    intro i v s Q E hv hq
    have hv' : its[i]? = some v := by simpa using hv
    have li : i < xs.length := by rw [rv.length]; exact (List.getElem?_eq_some_iff.mp hv').1
    have hxi : xs[i]? = some xs[i] := List.getElem?_eq_getElem li
    obtain ⟨u, hu, rx⟩ := rv.get hxi
    cases hv'.symm.trans hu
    generalize xs[i] = x at *
    have hq : ∀ t, Q (trV x) { s with toks := t } := fun t => by
      have := hq t
      dsimp only at this
      rw [hxi] at this
      exact this
    cases x with
    | bl b => cases rx; exact wpAny_truthy_bool (hq s.toks)
    | str y =>
      obtain ⟨t, rfl⟩ := rx
      have : y.length ≤ sizeLine := hx _ (List.mem_of_getElem? hxi)
      exact PySem.P.truthy_str (by omega) (hq _)
    | _ => exact (hx _ (List.mem_of_getElem? hxi)).elim
  refine wpAny_pure ⟨plainId_quiet F.plain_any_loop _, any_loopT (Walks.list (A := X.A.in1) (I.ok.hd hc) _ a hne its.toArray) _ tt its.toArray.size 0 _ (by simp) st fun g t hk => ?_⟩
  refine ⟨.bl _, H, I.kept fun b o eo => hk b o (fun hm => ?_) (Heap.get?_push_of_some _ eo), ?_, q⟩
  · rcases List.mem_cons.mp hm with e1 | hm
    · exact absurd (e1 ▸ Heap.lt_size eo) (Nat.lt_irrefl _)
    · cases hm
  · show Value.bool _ = Value.bool _
    rw [← any_rangeT, List.size_toArray, ← rv.length, List.drop_zero]
end L2
namespace Mm
open PySem L2 PySem.W
section
variable {w : Wn} {W : WX} {σ : St} {c c' : Cn} {H H' : Hp} {n n' : Nat} {S : Sto} {env : Env} {Γ : Cls'} {X : Cx}
/-- a bool, or a text in a line's size -/
def tvO : D → Option V
  | .bl b => some (.bl b)
  | .str x => if x.length ≤ sizeLine then some (.str x) else none
  | _ => none
@[simp] theorem tvO_bl (b : Bool) : tvO (.bl b) = some (.bl b) := rfl
@[simp] theorem tvO_str (x : Str) : tvO (.str x) = if x.length ≤ sizeLine then some (.str x) else none := rfl
@[simp] theorem trV_bl (b : Bool) : trV (.bl b) = b := rfl
@[simp] theorem trV_str (x : Str) : trV (.str x) = ((x.length : Int) != 0) := rfl
theorem tvO_at {d : D} {x v : V} (h : tvO d = some x) (a : At w c H n d v) : v = x ∧ isTr x := by
  cases d with
  | bl b => cases h; exact ⟨a.bl, trivial⟩
  | str y =>
    have h : (if y.length ≤ sizeLine then some (V.str y) else none) = some x := h
    by_cases hl : y.length ≤ sizeLine
    · rw [if_pos hl] at h; cases h; exact ⟨a.str, hl⟩
    · rw [if_neg hl] at h; cases h
  | _ => cases h
theorem tvO_tr {d : D} {x : V} (h : tvO d = some x) : isTr x := by
  cases d with
  | bl b => cases h; trivial
  | str y =>
    have h : (if y.length ≤ sizeLine then some (V.str y) else none) = some x := h
    by_cases hl : y.length ≤ sizeLine
    · rw [if_pos hl] at h; cases h; exact hl
    · rw [if_neg hl] at h; cases h
  | _ => cases h
theorem allO_tr : ∀ {ds : List D} {xs : List V}, allO tvO ds = some xs → ∀ x ∈ xs, isTr x
  | [], xs, h, x, hx => by cases h; cases hx
  | d :: r, xs, h, x, hx => by
    unfold allO at h
    cases e1 : tvO d with
    | none => rw [e1] at h; cases h
    | some y =>
      cases e2 : allO tvO r with
      | none => rw [e1, e2] at h; cases h
      | some ys =>
        rw [e1, e2] at h
        cases h
        rcases List.mem_cons.mp hx with rfl | hx
        · exact tvO_tr e1
        · exact allO_tr e2 x hx
def anyT (x : D) (S : Sto) : R D := .ofO (((lstOf S x).bind (allO tvO)).map fun xs => D.bl (xs.any trV)) S
theorem g_anyT : GCall Γ X (f1 anyT) (rAnyT X.K) := by
  refine .one fun W σ c H S x v Q r a h => ?_
  obtain ⟨xs, hb, h⟩ := Po.ofM h
  obtain ⟨p, rfl, g⟩ := lstO (fv := id) (fun d x v h a => (tvO_at h a).1) r a hb
  rw [List.map_id] at g
  refine ⟨p, xs, rfl, g, ?_, fin_ok h r (.b _)⟩
  cases e : lstOf S x with
  | none => rw [e] at hb; cases hb
  | some ds => rw [e] at hb; exact allO_tr hb
end
end Mm
set_option maxRecDepth 100000
/-! a and b as a value, by truth -/
namespace Mm
open PySem L2 PySem.W
section
variable {w : Wn} {W : WX} {σ : St} {c c' : Cn} {H H' : Hp} {n n' : Nat} {S : Sto} {env : Env} {Γ : Cls'} {X : Cx} {a b : Expr} {ma mb : EM} {rest : List Expr} {pos : Pos}
def e_andT (p q : EM) : EM := fun env S => (p env S).bind fun d S1 => (R.ofO (truD S1 d) S1).bind fun k S2 => if k = true then q env S2 else .ok d S2
@[simp] theorem e_andT_eq (p q : EM) (env : Env) (S : Sto) : e_andT p q env S = (p env S).bind fun d S1 => (R.ofO (truD S1 d) S1).bind fun k S2 => if k = true then q env S2 else .ok d S2 := rfl
theorem c_andT (ha : CE Γ X W a ma) (hb : CE Γ X W (.BoolOp .And (b :: rest) pos) mb) : CE Γ X W (.BoolOp .And (a :: b :: rest) pos) (e_andT ma mb) := by
  refine PE.weak (pe_andT ha hb) fun σ H Q ⟨c, env, S, r, ev, h⟩ => ?_
  refine ⟨c, env, S, r, ev, (Po.bind h).imp fun v H1 ⟨c1, S1, d1, e1, r1, a1, h1⟩ => ?_⟩
  cases hk : truD S1 d1 with
  | none => rw [hk] at h1; exact h1.elim
  | some k =>
  rw [hk] at h1
  refine ⟨k, truD_at r1 a1 hk, ?_⟩
  cases k with
  | true => exact ⟨c1, env, S1, r1, ev.mono e1, h1⟩
  | false => exact fin_ok h1 r1 a1
end
end Mm
set_option maxRecDepth 100000
/-! a, b, .. = a list -/
namespace Mm
open PySem L2 PySem.W
section
variable {W : WX} {Γ : Cls'} {X : Cx} {pos : Pos}
def g_lstT (gs : GMs) : GM := fun d env => match d with
  | .lst ds => gs ds env
  | _ => none
@[simp] theorem g_lstT_eq (gs : GMs) (ds : List D) (env : Env) : g_lstT gs (.lst ds) env = gs ds env := rfl
theorem c_glst {es : List Expr} {k n : Nat} {gs : GMs} {sls : List Nat} (hc : X.calm = true) (h : CGs Γ X es sls gs) (ht : Takes' n gs) (hn : (assignEach es X.env).length = n := by rfl) (hst : (assignEach es X.env).findIdx? (·.1) = none := by rfl) : CG Γ X (.Tuple es k pos) sls (g_lstT gs) :=
  PG.weak (pg_unl (n := n) hc h hn hst) fun v σ H Q ⟨c, env, S, d, env', r, ev, a, g, q⟩ => by
    cases d with
    | lst ds =>
      obtain ⟨p, vs, rfl, s, t⟩ := lstOf_at r a rfl
      exact ⟨p, vs, rfl, SqL.of s, by rw [t.len]; exact ht ds env env' g, c, env, S, ds, env', r, ev, t, g, q⟩
    | _ => cases g
end
end Mm
set_option maxRecDepth 100000
namespace Mm
open PySem L2
def top (i : Nat) : Stmt := PySem.Challenge.pw_takenahead_k80_lines_inside_of_scripts.main.body.getD i (.Pass ⟨0, 0, 0, 0⟩)
def items : List (Str × Int) := [("take", 1), ("commit", 1), ("rollback", 1), ("drop", 1), ("leave", 1), ("lock", 2), ("unlock", 2), ("choose", 3)]
def kt_Script : Ty → Option Bool := fun t => match t with
  | .inl "tuple" => some false
  | .inr 1 => some true
  | _ => none
def kt_Kind : Ty → Option Bool := fun t => match t with
  | .inr 4 => some true
  | _ => none
def gKind (x : D) (ds es : List D) : List D := x :: (ds ++ es)
def gSystem (x : D) (es : List D) : List D := x :: es
def mt_BadText : Nat → Option Bool := fun k => match k with
  | 7 => some true
  | _ => none

structure WdT (wd : World) (K : PySem.W.Frag) (Γ : Cls') (mg : Str → Option Value) : Prop where
  b_all : mg "all" = none
  b_any : mg "any" = none
  b_bool : mg "bool" = none
  b_enumerate : mg "enumerate" = none
  b_int : mg "int" = none
  b_isinstance : mg "isinstance" = none
  b_len : mg "len" = none
  b_list : mg "list" = none
  b_max : mg "max" = none
  b_range : mg "range" = none
  b_set : mg "set" = none
  b_str : mg "str" = none
  b_sum : mg "sum" = none
  b_tuple : mg "tuple" = none
  b_zip : mg "zip" = none
  c_Kind : KcOk K Γ mg "Kind" kt_Kind
  c_Script : KcOk K Γ mg "Script" kt_Script
  f_Check_found : HasF K Γ 2 0 "found"
  f_Kind_block : HasF K Γ 4 2 "block"
  f_Kind_many : HasF K Γ 4 3 "many"
  f_Kind_name : HasF K Γ 4 0 "name"
  f_Kind_script : HasF K Γ 4 1 "script"
  f_Reading_at : HasF K Γ 10 1 "at"
  f_Reading_room : HasF K Γ 10 2 "room"
  f_Reading_rows : HasF K Γ 10 0 "rows"
  f_Script_found : HasF K Γ 1 1 "found"
  f_Script_places : HasF K Γ 1 2 "places"
  f_Script_statements : HasF K Γ 1 0 "statements"
  f_System_ahead : HasF K Γ 5 1 "ahead"
  f_System_crashes : HasF K Γ 5 3 "crashes"
  f_System_kinds : HasF K Γ 5 0 "kinds"
  f_System_sessions : HasF K Γ 5 4 "sessions"
  f_System_window : HasF K Γ 5 2 "window"
  g_DIGITS : GlD K Γ mg "DIGITS" (.str "0123456789")
  g_KIND_ROW : GlD K Γ mg "KIND_ROW" (.tup [.str "kind", .str "", .str "block", .str "", .str "many", .str ""])
  g_LONGEST_NAME : GlD K Γ mg "LONGEST_NAME" (.int 8)
  g_LONGEST_OF_MANY : GlD K Γ mg "LONGEST_OF_MANY" (.int 4)
  g_MOST_AHEAD : GlD K Γ mg "MOST_AHEAD" (.int 4)
  g_MOST_BLOCK : GlD K Γ mg "MOST_BLOCK" (.int 3)
  g_MOST_CRASHES : GlD K Γ mg "MOST_CRASHES" (.int 2)
  g_MOST_HELD : GlD K Γ mg "MOST_HELD" (.int 3)
  g_MOST_NESTED : GlD K Γ mg "MOST_NESTED" (.int 2)
  g_MOST_SESSIONS : GlD K Γ mg "MOST_SESSIONS" (.int 3)
  g_MOST_STATEMENTS : GlD K Γ mg "MOST_STATEMENTS" (.int 8)
  g_MOST_WINDOW : GlD K Γ mg "MOST_WINDOW" (.int 8)
  g_OF_BRANCHES : GlD K Γ mg "OF_BRANCHES" (.int 4)
  g_OF_KINDS : GlD K Γ mg "OF_KINDS" (.int 2)
  g_OF_SCRIPTS : GlD K Γ mg "OF_SCRIPTS" (.int 4)
  g_OF_WORDS : GlD K Γ mg "OF_WORDS" (.int 2)
  g_SYSTEM_ROW : GlD K Γ mg "SYSTEM_ROW" (.tup [.str "system", .str "ahead", .str "", .str "window", .str "", .str "crashes", .str ""])
  k_ITEMS : Kd K wd mg "ITEMS" items
  noex : Γ.ex = none
  nolk : Γ.lk = none
  t_BadText : MtOk K Γ mg "BadText" mt_BadText
  y_BadText_BadScript : XisOk K Γ mg 7 "BadScript" false
  y_BadText_BadSystem : XisOk K Γ mg 7 "BadSystem" false
  y_BadText_TakeError : XisOk K Γ mg 7 "TakeError" true
  y_BadText_ValueError : XisOk K Γ mg 7 "ValueError" true
abbrev s_is_integer : Stmt := top 12
noncomputable def b_is_integer : SM := (s_ret (e_and (e_isi (ktB "int") (e_v 0)) (e_nott (e_isi (ktB "bool") (e_v 0)))))
noncomputable def m_is_integer : FM := runDef 1 1 (b_is_integer)

abbrev s_is_within : Stmt := top 13
noncomputable def b_is_within : SM := (s_ret (e_and (e_fn tr0 m_is_integer (a_cons (e_v 0) a_nil)) (e_chain leD leD (e_v 1) (e_v 0) (e_v 2))))
noncomputable def m_is_within : FM := runDef 3 3 (b_is_within)

abbrev s_is_name : Stmt := top 14
noncomputable def b_is_name : SM := (s_seq (s_if (t_or (t_not (t_v (e_isi (ktB "str") (e_v 0)))) (t_not (t_b (e_chain leD leD (e_k (.int 1)) (e_call (f1 lenD) (a_cons (e_v 0) a_nil)) (e_k (.int 8)))))) (s_ret (e_k (.bl false))) s_nil)
  (s_ret (e_call (f1 allD) (a_cons (e_lcG [1] (i_str (e_v 0)) (g_name 1) t_yes (e_chain strLeD strLeD (e_k (.str "a")) (e_v 1) (e_k (.str "z"))) finL) a_nil))))
noncomputable def m_is_name : FM := runDef 1 2 (b_is_name)

abbrev s_held_after : Stmt := top 25
noncomputable def b_held_after : SM := (s_seq (s_if (t_b (e_op (eqD false) (e_v 0) (e_k (.str "take")))) (s_ret (e_op addD (e_v 1) (e_k (.int 1)))) s_nil)
  (s_ret (e_if (t_b (e_op (inF false) (e_v 0) (e_tup (a_cons (e_k (.str "commit")) (a_cons (e_k (.str "rollback")) (a_cons (e_k (.str "leave")) a_nil)))))) (e_k (.int 0)) (e_v 1))))
noncomputable def m_held_after : FM := runDef 2 2 (b_held_after)

abbrev s_has_form : Stmt := top 26
noncomputable def b_has_form : SM := (s_seq (s_if (t_or (t_not (t_v (e_isi (ktB "tuple") (e_v 0)))) (t_not (t_v (e_v 0)))) (s_ret (e_k (.bl false))) s_nil)
  (s_seq (s_set 1 (e_op ixD (e_v 0) (e_k (.int 0))))
  (s_seq (s_if (t_or (t_not (t_v (e_isi (ktB "str") (e_v 1)))) (t_b (e_op (eqD true) (e_call (f1 lenD) (a_cons (e_v 0) a_nil)) (e_kget items (e_v 1))))) (s_ret (e_k (.bl false))) s_nil)
  (s_seq (s_if (t_b (e_op (eqD false) (e_v 1) (e_k (.str "choose")))) (s_ret (e_and (e_isi (ktB "tuple") (e_op ixD (e_v 0) (e_k (.int 1)))) (e_isi (ktB "tuple") (e_op ixD (e_v 0) (e_k (.int 2)))))) s_nil)
  (s_ret (e_k (.bl true)))))))
noncomputable def m_has_form : FM := runDef 1 2 (b_has_form)

abbrev s_fault_of : Stmt := top 24
noncomputable def b_fault_of : SM := (s_seq (s_if (t_b (e_op (eqD false) (e_v 2) (e_k (.int 8)))) (s_ret (e_k (.str "size"))) s_nil)
  (s_seq (s_if (t_not (t_v (e_fn tr0 m_has_form (a_cons (e_v 0) a_nil)))) (s_ret (e_k (.str "form"))) s_nil)
  (s_seq (s_set 4 (e_op ixD (e_v 0) (e_k (.int 0))))
  (s_seq (s_if (t_and (t_b (e_op (eqD false) (e_v 4) (e_k (.str "choose")))) (t_b (e_op (eqD false) (e_op divD (e_call (f1 lenD) (a_cons (e_v 1) a_nil)) (e_k (.int 2))) (e_k (.int 2))))) (s_ret (e_k (.str "nested"))) s_nil)
  (s_seq (s_if (t_and (t_b (e_op (inF false) (e_v 4) (e_tup (a_cons (e_k (.str "lock")) (a_cons (e_k (.str "unlock")) a_nil))))) (t_not (t_v (e_fn tr0 m_is_name (a_cons (e_op ixD (e_v 0) (e_k (.int 1))) a_nil))))) (s_ret (e_k (.str "name"))) s_nil)
  (s_seq (s_if (t_and (t_b (e_op (eqD false) (e_v 4) (e_k (.str "take")))) (t_b (e_op (eqD false) (e_v 3) (e_k (.int 3))))) (s_ret (e_k (.str "full"))) s_nil)
  (s_ret (e_k .non))))))))
noncomputable def m_fault_of : FM := runDef 4 5 (b_fault_of)

abbrev s_Check___init__ : Stmt := inClass (top 23) 0
noncomputable def b_Check___init__ : SM := (s_fld [(2, 0)] (e_v 0) (e_dnew [.non]))
noncomputable def m_Check___init__ : FM := runDef 1 1 (b_Check___init__)

abbrev s_Check_check_branch : Stmt := inClass (top 23) 1
noncomputable def b_Check_check_branch (m_Check_check_statement : FM) : SM := (s_seq (s_for (i_enum (e_v 1)) (g_tup (g_cons (g_name 4) (g_cons (g_name 5) g_nil))) (s_set 3 (e_mth tr0 2 m_Check_check_statement (e_v 0) (a_cons (e_v 5) (a_cons (e_op addT (e_v 2) (e_ttp (a_cons (e_v 4) a_nil))) (a_cons (e_v 3) a_nil))))))
  (s_ret (e_v 3)))
noncomputable def m_Check_check_branch' (m_Check_check_statement : FM) : FM := runDef 4 6 (b_Check_check_branch m_Check_check_statement)

abbrev s_Check_check_statement : Stmt := inClass (top 23) 2
noncomputable def b_Check_check_statement (m_Check_check_branch : FM) : SM := (s_seq (s_set 4 (e_fn tr0 m_fault_of (a_cons (e_v 1) (a_cons (e_v 2) (a_cons (e_call (f1 dlenD) (a_cons (e_fld [(2, 0)] (e_v 0)) a_nil)) (a_cons (e_v 3) a_nil))))))
  (s_seq (s_if (t_b (e_op (isD true) (e_v 4) (e_k .non))) s_bad s_nil)
  (s_seq (s_dput (e_v 1) (e_fld [(2, 0)] (e_v 0)) (e_v 2))
  (s_seq (s_if (t_b (e_op (eqD false) (e_op ixD (e_v 1) (e_k (.int 0))) (e_k (.str "choose")))) (s_seq (s_set 5 (e_mth tr0 2 m_Check_check_branch (e_v 0) (a_cons (e_op ixD (e_v 1) (e_k (.int 1))) (a_cons (e_op addT (e_v 2) (e_ttp (a_cons (e_k (.int 0)) a_nil))) (a_cons (e_v 3) a_nil)))))
  (s_seq (s_set 6 (e_mth tr0 2 m_Check_check_branch (e_v 0) (a_cons (e_op ixD (e_v 1) (e_k (.int 2))) (a_cons (e_op addT (e_v 2) (e_ttp (a_cons (e_k (.int 1)) a_nil))) (a_cons (e_v 3) a_nil)))))
  (s_ret (e_call (f2 max2D) (a_cons (e_v 5) (a_cons (e_v 6) a_nil)))))) s_nil)
  (s_ret (e_fn tr0 m_held_after (a_cons (e_op ixD (e_v 1) (e_k (.int 0))) (a_cons (e_v 3) a_nil))))))))
noncomputable def m_Check_check_statement' (m_Check_check_branch : FM) : FM := runDef 4 7 (b_Check_check_statement m_Check_check_branch)

noncomputable def mCC : Nat → FM × FM
  | 0 => (runDef 4 6 s_bad, runDef 4 7 s_bad)
  | n + 1 => (m_Check_check_branch' (mCC n).2, m_Check_check_statement' (mCC n).1)
noncomputable def m_Check_check_branch : FM := (mCC 6).1

abbrev s_Script___init__ : Stmt := inClass (top 20) 0
noncomputable def b_Script___init__ : SM := (s_seq (s_if (t_not (t_v (e_isi (ktB "tuple") (e_v 1)))) s_bad s_nil)
  (s_seq (s_if (t_not (t_v (e_v 1))) s_bad s_nil)
  (s_seq (s_set 2 (e_mk tr0 2 m_Check___init__ a_nil))
  (s_seq (s_ex (e_mth tr0 2 m_Check_check_branch (e_v 2) (a_cons (e_v 1) (a_cons (e_ttp a_nil) (a_cons (e_k (.int 0)) a_nil)))))
  (s_seq (s_fld [(1, 0)] (e_v 0) (e_v 1))
  (s_seq (s_fld [(1, 1)] (e_v 0) (e_fld [(1, 1), (2, 0)] (e_v 2)))
  (s_fld [(1, 2)] (e_v 0) (e_call (f1 tupleD) (a_cons (e_call (f1 dlistD) (a_cons (e_fld [(1, 1)] (e_v 0)) a_nil)) a_nil)))))))))
noncomputable def m_Script___init__ : FM := runDef 2 3 (b_Script___init__)

abbrev s_Script___len__ : Stmt := inClass (top 20) 1
noncomputable def b_Script___len__ : SM := (s_ret (e_call (f1 lenD) (a_cons (e_fld [(1, 2)] (e_v 0)) a_nil)))
noncomputable def m_Script___len__ : FM := runDef 1 1 (b_Script___len__)

abbrev s_Script___contains__ : Stmt := inClass (top 20) 2
noncomputable def b_Script___contains__ : SM := (s_seq (s_if (t_or (t_not (t_v (e_isi (ktB "tuple") (e_v 1)))) (t_not (t_v (e_call (f1 allD) (a_cons (e_lcG [2] (i_seq (e_v 1)) (g_name 2) t_yes (e_fn tr0 m_is_integer (a_cons (e_v 2) a_nil)) finL) a_nil))))) (s_ret (e_k (.bl false))) s_nil)
  (s_ret (e_op (dinD false) (e_v 1) (e_fld [(1, 1)] (e_v 0)))))
noncomputable def m_Script___contains__ : FM := runDef 2 3 (b_Script___contains__)

abbrev s_Script___getitem__ : Stmt := inClass (top 20) 3
noncomputable def b_Script___getitem__ : SM := (s_seq (s_if (t_b (e_ownIn tr0 true 1 m_Script___contains__ (e_v 1) (e_v 0))) s_bad s_nil)
  (s_ret (e_op dgetD (e_fld [(1, 1)] (e_v 0)) (e_v 1))))
noncomputable def m_Script___getitem__ : FM := runDef 2 2 (b_Script___getitem__)

abbrev s_answers_of : Stmt := top 21
noncomputable def b_answers_of : SM := (s_ret (e_if (t_b (e_op (eqD false) (e_op ixD (e_v 0) (e_k (.int 0))) (e_k (.str "choose")))) (e_tup (a_cons (e_k (.int 0)) (a_cons (e_k (.int 1)) a_nil))) (e_tup (a_cons (e_k (.int 0)) a_nil))))
noncomputable def m_answers_of : FM := runDef 1 1 (b_answers_of)

abbrev s_is_answer : Stmt := top 22
noncomputable def b_is_answer : SM := (s_ret (e_and (e_fn tr0 m_is_integer (a_cons (e_v 1) a_nil)) (e_op (inF false) (e_v 1) (e_fn tr0 m_answers_of (a_cons (e_v 0) a_nil)))))
noncomputable def m_is_answer : FM := runDef 2 2 (b_is_answer)

abbrev s_Script_behind : Stmt := inClass (top 20) 7
noncomputable def b_Script_behind : SM := (s_seq (whileS (t_v (e_v 1)) (s_seq (s_set 2 (e_op addD (e_sl (e_v 1) o_none (o_some (e_neg (e_k (.int 1))))) (e_tup (a_cons (e_op addD (e_op ixD (e_v 1) (e_neg (e_k (.int 1)))) (e_k (.int 1))) a_nil))))
  (s_seq (s_if (t_b (e_op (dinD false) (e_v 2) (e_fld [(1, 1)] (e_v 0)))) (s_ret (e_v 2)) s_nil)
  (s_set 1 (e_sl (e_v 1) o_none (o_some (e_neg (e_k (.int 2)))))))) 20)
  (s_ret (e_k .non)))
noncomputable def m_Script_behind : FM := runDef 2 3 (b_Script_behind)

abbrev s_Script_after : Stmt := inClass (top 20) 6
noncomputable def b_Script_after : SM := (s_seq (s_set 3 (e_own2 tr0 1 m_Script___getitem__ (e_v 0) (e_v 1)))
  (s_seq (s_set 4 (e_op ixD (e_v 3) (e_k (.int 0))))
  (s_seq (s_if (t_not (t_v (e_fn tr0 m_is_answer (a_cons (e_v 3) (a_cons (e_v 2) a_nil))))) s_bad s_nil)
  (s_seq (s_if (t_b (e_op (eqD false) (e_v 4) (e_k (.str "leave")))) (s_ret (e_k .non)) s_nil)
  (s_seq (s_if (t_and (t_b (e_op (eqD false) (e_v 4) (e_k (.str "choose")))) (t_v (e_op ixD (e_v 3) (e_op addD (e_k (.int 1)) (e_v 2))))) (s_ret (e_op addD (e_v 1) (e_tup (a_cons (e_v 2) (a_cons (e_k (.int 0)) a_nil))))) s_nil)
  (s_ret (e_mth tr0 1 m_Script_behind (e_v 0) (a_cons (e_v 1) a_nil))))))))
noncomputable def m_Script_after : FM := runDef 3 5 (b_Script_after)

abbrev s_script_of : Stmt := top 36
noncomputable def b_script_of : SM := (s_seq (s_if (t_v (e_isi kt_Script (e_v 0))) (s_ret (e_v 0)) s_nil)
  (s_nox (s_ret (e_mk trunc 1 m_Script___init__ (a_cons (e_v 0) a_nil)))))
noncomputable def m_script_of : FM := runDef 1 2 (b_script_of)

abbrev s_Kind___init__ : Stmt := inClass (top 34) 0
noncomputable def b_Kind___init__ : SM := (s_seq (s_if (t_not (t_v (e_fn tr0 m_is_name (a_cons (e_v 1) a_nil)))) s_bad s_nil)
  (s_seq (s_set 2 (e_fn tr0 m_script_of (a_cons (e_v 2) a_nil)))
  (s_seq (s_if (t_not (t_v (e_fn tr0 m_is_within (a_cons (e_v 3) (a_cons (e_k (.int 1)) (a_cons (e_k (.int 3)) a_nil)))))) s_bad s_nil)
  (s_seq (s_if (t_not (t_v (e_fn tr0 m_is_within (a_cons (e_v 4) (a_cons (e_k (.int 1)) (a_cons (e_k (.int 3)) a_nil)))))) s_bad s_nil)
  (s_seq (s_fld [(4, 0)] (e_v 0) (e_v 1))
  (s_seq (s_fld [(4, 1)] (e_v 0) (e_v 2))
  (s_seq (s_fld [(4, 2)] (e_v 0) (e_v 3))
  (s_fld [(4, 3)] (e_v 0) (e_v 4)))))))))
noncomputable def m_Kind___init__ : FM := runDef 5 5 (b_Kind___init__)

abbrev s_count_of_sessions : Stmt := top 39
noncomputable def b_count_of_sessions : SM := (s_ret (e_call (f1 sumD) (a_cons (e_lcG [1] (i_seq (e_v 0)) (g_name 1) t_yes (e_fld [(4, 3)] (e_v 1)) finL) a_nil)))
noncomputable def m_count_of_sessions : FM := runDef 1 2 (b_count_of_sessions)

abbrev s_are_kinds : Stmt := top 38
noncomputable def b_are_kinds : SM := (s_seq (s_if (t_or (t_not (t_v (e_v 0))) (t_not (t_v (e_call (f1 allD) (a_cons (e_lcG [1] (i_seq (e_v 0)) (g_name 1) t_yes (e_isi kt_Kind (e_v 1)) finL) a_nil))))) (s_ret (e_k (.bl false))) s_nil)
  (s_seq (s_if (t_b (e_op ltD (e_lens (e_lcG [1] (i_seq (e_v 0)) (g_name 1) t_yes (e_fld [(4, 0)] (e_v 1)) finL)) (e_call (f1 lenD) (a_cons (e_v 0) a_nil)))) (s_ret (e_k (.bl false))) s_nil)
  (s_ret (e_op leD (e_fn tr0 m_count_of_sessions (a_cons (e_v 0) a_nil)) (e_k (.int 3))))))
noncomputable def m_are_kinds : FM := runDef 1 2 (b_are_kinds)

abbrev s_fault_of_system : Stmt := top 37
noncomputable def b_fault_of_system : SM := (s_seq (s_if (t_not (t_v (e_fn tr0 m_are_kinds (a_cons (e_v 0) a_nil)))) (s_ret (e_k (.str "kinds"))) s_nil)
  (s_seq (s_set 4 (e_op (eqD false) (e_fn tr0 m_count_of_sessions (a_cons (e_v 0) a_nil)) (e_k (.int 3))))
  (s_seq (s_if (t_and (t_v (e_v 4)) (t_b (e_op gtD (e_call (f1 maxD) (a_cons (e_lcG [5] (i_seq (e_v 0)) (g_name 5) t_yes (e_call (f1 (lenOwnD 1 m_Script___len__)) (a_cons (e_fld [(4, 1)] (e_v 5)) a_nil)) finL) a_nil)) (e_k (.int 4))))) (s_ret (e_k (.str "size"))) s_nil)
  (s_seq (s_if (t_not (t_v (e_fn tr0 m_is_within (a_cons (e_v 1) (a_cons (e_k (.int 0)) (a_cons (e_k (.int 4)) a_nil)))))) (s_ret (e_k (.str "ahead"))) s_nil)
  (s_seq (s_set 6 (e_call (f1 maxD) (a_cons (e_lcG [5] (i_seq (e_v 0)) (g_name 5) t_yes (e_fld [(4, 2)] (e_v 5)) finL) a_nil)))
  (s_seq (s_if (t_and (t_b (e_op (isD true) (e_v 2) (e_k .non))) (t_not (t_v (e_fn tr0 m_is_within (a_cons (e_v 2) (a_cons (e_v 6) (a_cons (e_k (.int 8)) a_nil))))))) (s_ret (e_k (.str "window"))) s_nil)
  (s_seq (s_if (t_not (t_v (e_fn tr0 m_is_within (a_cons (e_v 3) (a_cons (e_k (.int 0)) (a_cons (e_k (.int 2)) a_nil)))))) (s_ret (e_k (.str "crashes"))) s_nil)
  (s_ret (e_k .non)))))))))
noncomputable def m_fault_of_system : FM := runDef 4 7 (b_fault_of_system)

abbrev s_System___init__ : Stmt := inClass (top 35) 0
noncomputable def b_System___init__ : SM := (s_seq (s_set 5 (e_fn tr0 m_fault_of_system (a_cons (e_v 4) (a_cons (e_v 1) (a_cons (e_v 2) (a_cons (e_v 3) a_nil))))))
  (s_seq (s_if (t_b (e_op (isD true) (e_v 5) (e_k .non))) s_bad s_nil)
  (s_seq (s_fld [(5, 0)] (e_v 0) (e_v 4))
  (s_seq (s_fld [(5, 1)] (e_v 0) (e_v 1))
  (s_seq (s_fld [(5, 2)] (e_v 0) (e_v 2))
  (s_seq (s_fld [(5, 3)] (e_v 0) (e_v 3))
  (s_fld [(5, 4)] (e_v 0) (e_call (f1 tupleD) (a_cons (e_c2 [6, 7] [7] (i_seq (e_v 4)) (g_name 6) t_yes (i_rng1 (e_fld [(4, 3)] (e_v 6))) (g_name 7) t_yes (addL2 (e_fld [(4, 0)] (e_v 6))) [] finL) a_nil)))))))))
noncomputable def m_System___init__ : FM := runDef 5 8 (b_System___init__)

abbrev s_System___getitem__ : Stmt := inClass (top 35) 1
noncomputable def b_System___getitem__ : SM := (s_seq (s_for (i_seq (e_fld [(5, 0)] (e_v 0))) (g_name 2) (s_if (t_and (t_v (e_isi (ktB "str") (e_v 1))) (t_b (e_op (eqD false) (e_fld [(4, 0)] (e_v 2)) (e_v 1)))) (s_ret (e_v 2)) s_nil))
  s_bad)
noncomputable def m_System___getitem__ : FM := runDef 2 3 (b_System___getitem__)

abbrev s_indented : Stmt := top 50
noncomputable def b_indented : SM := (s_ret (e_op addD (e_op mulSD (e_k (.str " ")) (e_v 0)) (e_v 1)))
noncomputable def m_indented : FM := runDef 2 2 (b_indented)

abbrev s_rows_of : Stmt := top 49
noncomputable def b_rows_of (m_rows_of : FM) : SM := (s_seq (s_set 2 (e_new a_nil))
  (s_seq (s_for (i_seq (e_v 0)) (g_name 3) (s_if (t_b (e_op (eqD false) (e_op ixD (e_v 3) (e_k (.int 0))) (e_k (.str "choose")))) (s_seq (s_ex (e_meth tyL appD (e_v 2) (a_cons (e_fn tr0 m_indented (a_cons (e_v 1) (a_cons (e_k (.str "choose")) a_nil))) a_nil)))
  (s_for (i_zip (e_tup (a_cons (e_k (.str "yes")) (a_cons (e_k (.str "no")) a_nil))) (e_sl (e_v 3) (o_some (e_k (.int 1))) o_none)) (g_tup (g_cons (g_name 4) (g_cons (g_name 5) g_nil))) (s_seq (s_ex (e_meth tyL appD (e_v 2) (a_cons (e_fn tr0 m_indented (a_cons (e_op addD (e_v 1) (e_k (.int 2))) (a_cons (e_v 4) a_nil))) a_nil)))
  (s_ex (e_meth tyL ext2D (e_v 2) (a_cons (e_fn trunc m_rows_of (a_cons (e_v 5) (a_cons (e_op addD (e_v 1) (e_k (.int 4))) a_nil))) a_nil)))))) (s_ex (e_meth tyL appD (e_v 2) (a_cons (e_fn tr0 m_indented (a_cons (e_v 1) (a_cons (e_meth tyS joinD (e_k (.str " ")) (a_cons (e_v 3) a_nil)) a_nil))) a_nil)))))
  (s_ret (e_v 2))))
noncomputable def m_rows_of' (m_rows_of : FM) : FM := runDef 2 6 (b_rows_of m_rows_of)

noncomputable def mRO : Nat → FM
  | 0 => runDef 2 6 s_bad
  | n + 1 => m_rows_of' (mRO n)
noncomputable def m_rows_of : FM := mRO 3

abbrev s_write_system : Stmt := top 48
noncomputable def b_write_system : SM := (s_seq (s_set 1 (e_if (t_b (e_op (isD false) (e_fld [(5, 2)] (e_v 0)) (e_k .non))) (e_k (.str "none")) (e_fld [(5, 2)] (e_v 0))))
  (s_seq (s_set 2 (e_new (a_cons (e_js [(e_k (.str "system ahead ")), (e_fmt (e_fld [(5, 1)] (e_v 0))), (e_k (.str " window ")), (e_fmt (e_v 1)), (e_k (.str " crashes ")), (e_fmt (e_fld [(5, 3)] (e_v 0)))] Str.empty) a_nil)))
  (s_seq (s_for (i_seq (e_fld [(5, 0)] (e_v 0))) (g_name 3) (s_seq (s_ex (e_meth tyL appD (e_v 2) (a_cons (e_fn tr0 m_indented (a_cons (e_k (.int 2)) (a_cons (e_js [(e_k (.str "kind ")), (e_fmt (e_fld [(4, 0)] (e_v 3))), (e_k (.str " block ")), (e_fmt (e_fld [(4, 2)] (e_v 3))), (e_k (.str " many ")), (e_fmt (e_fld [(4, 3)] (e_v 3)))] Str.empty) a_nil))) a_nil)))
  (s_ex (e_meth tyL ext2D (e_v 2) (a_cons (e_fn trunc m_rows_of (a_cons (e_fld [(1, 0)] (e_fld [(4, 1)] (e_v 3))) (a_cons (e_k (.int 4)) a_nil))) a_nil)))))
  (s_ret (e_meth tyS joinD (e_k (.str "")) (a_cons (e_lcG [4] (i_seq (e_v 2)) (g_name 4) t_yes (e_op addD (e_v 4) (e_k (.str "\n"))) finL) a_nil))))))
noncomputable def m_write_system : FM := runDef 1 5 (b_write_system)

abbrev s_shortest_kind : Stmt := top 53
noncomputable def b_shortest_kind : SM := (s_ret (e_mkk trunc 4 m_Kind___init__ gKind 2 2 (a_cons (e_v 0) (a_cons (e_tup (a_cons (e_tup (a_cons (e_k (.str "take")) a_nil)) a_nil)) a_nil)) (a_cons (e_v 1) (a_cons (e_v 2) a_nil))))
noncomputable def m_shortest_kind : FM := runDef 3 3 (b_shortest_kind)

abbrev s_with_kinds : Stmt := top 54
noncomputable def b_with_kinds : SM := (s_ret (e_mkr trunc 5 m_System___init__ gSystem 3 (e_v 1) (a_cons (e_fld [(5, 1)] (e_v 0)) (a_cons (e_fld [(5, 2)] (e_v 0)) (a_cons (e_fld [(5, 3)] (e_v 0)) a_nil)))))
noncomputable def m_with_kinds : FM := runDef 2 2 (b_with_kinds)

abbrev s_digit_of : Stmt := top 55
noncomputable def b_digit_of : SM := (s_ret (e_if (t_b (e_op (eqD false) (e_call (f1 lenD) (a_cons (e_v 0) a_nil)) (e_k (.int 1)))) (e_meth tyS findD (e_k (.str "0123456789")) (a_cons (e_v 0) a_nil)) (e_neg (e_k (.int 1)))))
noncomputable def m_digit_of : FM := runDef 1 1 (b_digit_of)

abbrev s_Reading___init__ : Stmt := inClass (top 52) 0
noncomputable def b_Reading___init__ : SM := (s_seq (s_set 2 (e_meth tyS splitN (e_v 1) (a_cons (e_k (.str "\n")) a_nil)))
  (s_seq (s_set 3 (e_meth tyL popLD (e_v 2) a_nil))
  (s_seq (s_fld [(10, 0)] (e_v 0) (e_if (t_v (e_v 3)) (e_lst (a_star (e_v 2) (a_cons (e_k (.str "")) a_nil))) (e_v 2)))
  (s_seq (s_fld [(10, 1)] (e_v 0) (e_k (.int 0)))
  (s_fld [(10, 2)] (e_v 0) (e_k (.int 0)))))))
noncomputable def m_Reading___init__ : FM := runDef 2 4 (b_Reading___init__)

abbrev s_Reading_words : Stmt := inClass (top 52) 1
noncomputable def b_Reading_words : SM := (s_seq (s_if (t_b (e_op (eqD false) (e_fld [(10, 1)] (e_v 0)) (e_call (f1 lenD) (a_cons (e_fld [(10, 0)] (e_v 0)) a_nil)))) (s_ret (e_lst a_nil)) s_nil)
  (s_seq (s_set 2 (e_op ixD (e_fld [(10, 0)] (e_v 0)) (e_fld [(10, 1)] (e_v 0))))
  (s_seq (s_set 3 (e_meth tyS splitD (e_sl (e_v 2) (o_some (e_v 1)) o_none) (a_cons (e_k (.str " ")) a_nil)))
  (s_ret (e_if (t_and (t_b (e_op (eqD false) (e_sl (e_v 2) o_none (o_some (e_v 1))) (e_op mulSD (e_k (.str " ")) (e_v 1)))) (t_v (e_op ixD (e_v 3) (e_k (.int 0))))) (e_v 3) (e_lst a_nil))))))
noncomputable def m_Reading_words : FM := runDef 2 4 (b_Reading_words)

abbrev s_Reading_fields : Stmt := inClass (top 52) 2
noncomputable def b_Reading_fields : SM := (s_seq (s_set 3 (e_mth tr0 10 m_Reading_words (e_v 0) (a_cons (e_v 1) a_nil)))
  (s_seq (s_if (t_or (t_b (e_op (eqD true) (e_call (f1 lenD) (a_cons (e_v 3) a_nil)) (e_call (f1 lenD) (a_cons (e_v 2) a_nil)))) (t_v (e_call (f1 anyT) (a_cons (e_lcG [4, 5] (i_zipM (e_v 3) (e_v 2)) (g_tup (g_cons (g_name 4) (g_cons (g_name 5) g_nil))) t_yes (e_andT (e_v 5) (e_op (eqD true) (e_v 4) (e_v 5))) finL) a_nil)))) (s_raise1 7 (e_fld [(10, 1)] (e_v 0))) s_nil)
  (s_ret (e_lcG [4, 5] (i_zipM (e_v 3) (e_v 2)) (g_tup (g_cons (g_name 4) (g_cons (g_name 5) g_nil))) (t_not (t_v (e_v 5))) (e_v 4) finL))))
noncomputable def m_Reading_fields : FM := runDef 3 6 (b_Reading_fields)

abbrev s_Reading_read_frame : Stmt := inClass (top 52) 3
noncomputable def b_Reading_read_frame : SM := (s_seq (s_asg (e_mth tr0 10 m_Reading_fields (e_v 0) (a_cons (e_k (.int 0)) (a_cons (e_k (.tup [.str "system", .str "ahead", .str "", .str "window", .str "", .str "crashes", .str ""])) a_nil))) (g_lstT (g_cons (g_name 1) (g_cons (g_name 2) (g_cons (g_name 3) g_nil)))))
  (s_seq (s_set 2 (e_if (t_b (e_op (eqD false) (e_v 2) (e_k (.str "none")))) (e_k .non) (e_fn tr0 m_digit_of (a_cons (e_v 2) a_nil))))
  (s_seq (s_nox (s_set 4 (e_mks trunc 5 m_System___init__ gSystem 3 (a_cons (e_fn tr0 m_shortest_kind (a_cons (e_k (.str "a")) (a_cons (e_k (.int 1)) (a_cons (e_k (.int 1)) a_nil)))) a_nil) (a_cons (e_fn tr0 m_digit_of (a_cons (e_v 1) a_nil)) (a_cons (e_v 2) (a_cons (e_fn tr0 m_digit_of (a_cons (e_v 3) a_nil)) a_nil))))))
  (s_seq (s_fldaug 10 1 (· + ·) (e_v 0) (e_k (.int 1)))
  (s_ret (e_v 4))))))
noncomputable def m_Reading_read_frame : FM := runDef 1 5 (b_Reading_read_frame)

abbrev s_Reading_read_branch : Stmt := inClass (top 52) 5
noncomputable def b_Reading_read_branch (m_Reading_read_statement : FM) : SM := (s_seq (s_set 4 (e_new a_nil))
  (s_seq (whileS (t_v (e_mth tr0 10 m_Reading_words (e_v 0) (a_cons (e_v 1) a_nil))) (s_seq (s_asg (e_mth tr0 10 m_Reading_read_statement (e_v 0) (a_cons (e_v 1) (a_cons (e_op addD (e_v 2) (e_tup (a_cons (e_call (f1 lenD) (a_cons (e_v 4) a_nil)) a_nil))) (a_cons (e_v 3) a_nil)))) (g_tup (g_cons (g_name 5) (g_cons (g_name 3) g_nil))))
  (s_ex (e_meth tyL appD (e_v 4) (a_cons (e_v 5) a_nil)))) 20)
  (s_ret (e_tup (a_cons (e_call (f1 tupleD) (a_cons (e_v 4) a_nil)) (a_cons (e_v 3) a_nil))))))
noncomputable def m_Reading_read_branch' (m_Reading_read_statement : FM) : FM := runDef 4 6 (b_Reading_read_branch m_Reading_read_statement)

abbrev s_Reading_read_statement : Stmt := inClass (top 52) 6
noncomputable def b_Reading_read_statement (m_Reading_read_branch : FM) : SM := (s_seq (s_set 4 (e_mth tr0 10 m_Reading_words (e_v 0) (a_cons (e_v 1) a_nil)))
  (s_seq (s_set 5 (e_op (eqD false) (e_v 4) (e_lst (a_cons (e_k (.str "choose")) a_nil))))
  (s_seq (s_set 6 (e_if (t_v (e_v 5)) (e_tup (a_cons (e_k (.str "choose")) (a_cons (e_tup a_nil) (a_cons (e_tup a_nil) a_nil)))) (e_call (f1 tupleD) (a_cons (e_v 4) a_nil))))
  (s_seq (s_if (t_or (t_b (e_op (eqD false) (e_fld [(10, 2)] (e_v 0)) (e_k (.int 0)))) (t_b (e_op (isD true) (e_fn tr0 m_fault_of (a_cons (e_v 6) (a_cons (e_v 2) (a_cons (e_k (.int 0)) (a_cons (e_v 3) a_nil))))) (e_k .non)))) (s_raise1 7 (e_fld [(10, 1)] (e_v 0))) s_nil)
  (s_seq (s_fldaug 10 1 (· + ·) (e_v 0) (e_k (.int 1)))
  (s_seq (s_fldaug 10 2 (· - ·) (e_v 0) (e_k (.int 1)))
  (s_seq (s_if (t_not (t_v (e_v 5))) (s_ret (e_tup (a_cons (e_v 6) (a_cons (e_fn tr0 m_held_after (a_cons (e_op ixD (e_v 6) (e_k (.int 0))) (a_cons (e_v 3) a_nil))) a_nil)))) s_nil)
  (s_seq (s_set 7 (e_new a_nil))
  (s_seq (s_set 8 (e_new a_nil))
  (s_seq (s_for (i_enum (e_tup (a_cons (e_k (.str "yes")) (a_cons (e_k (.str "no")) a_nil)))) (g_tup (g_cons (g_name 9) (g_cons (g_name 10) g_nil))) (s_seq (s_ex (e_mth tr0 10 m_Reading_fields (e_v 0) (a_cons (e_op addD (e_v 1) (e_k (.int 2))) (a_cons (e_tup (a_cons (e_v 10) a_nil)) a_nil))))
  (s_seq (s_fldaug 10 1 (· + ·) (e_v 0) (e_k (.int 1)))
  (s_seq (s_asg (e_mth tr0 10 m_Reading_read_branch (e_v 0) (a_cons (e_op addD (e_v 1) (e_k (.int 4))) (a_cons (e_op addD (e_v 2) (e_tup (a_cons (e_v 9) a_nil))) (a_cons (e_v 3) a_nil)))) (g_tup (g_cons (g_name 11) (g_cons (g_name 12) g_nil))))
  (s_seq (s_ex (e_meth tyL appD (e_v 7) (a_cons (e_v 11) a_nil)))
  (s_ex (e_meth tyL appD (e_v 8) (a_cons (e_v 12) a_nil))))))))
  (s_ret (e_tup (a_cons (e_tup (a_cons (e_k (.str "choose")) (a_star (e_v 7) a_nil))) (a_cons (e_call (f1 maxD) (a_cons (e_v 8) a_nil)) a_nil))))))))))))))
noncomputable def m_Reading_read_statement' (m_Reading_read_branch : FM) : FM := runDef 4 13 (b_Reading_read_statement m_Reading_read_branch)

noncomputable def mRR : Nat → FM × FM
  | 0 => (runDef 4 6 s_bad, runDef 4 13 s_bad)
  | n + 1 => (m_Reading_read_branch' (mRR n).2, m_Reading_read_statement' (mRR n).1)
noncomputable def m_Reading_read_branch : FM := (mRR 6).1

abbrev s_Reading_read_kind : Stmt := inClass (top 52) 4
noncomputable def b_Reading_read_kind : SM := (s_seq (s_asg (e_mth tr0 10 m_Reading_fields (e_v 0) (a_cons (e_k (.int 2)) (a_cons (e_k (.tup [.str "kind", .str "", .str "block", .str "", .str "many", .str ""])) a_nil))) (g_lstT (g_cons (g_name 3) (g_cons (g_name 4) (g_cons (g_name 5) g_nil)))))
  (s_seq (s_nox (s_seq (s_set 6 (e_fn tr0 m_shortest_kind (a_cons (e_v 3) (a_cons (e_fn tr0 m_digit_of (a_cons (e_v 4) a_nil)) (a_cons (e_fn tr0 m_digit_of (a_cons (e_v 5) a_nil)) a_nil)))))
  (s_set 7 (e_fn tr0 m_with_kinds (a_cons (e_v 1) (a_cons (e_lst (a_star (e_v 2) (a_cons (e_v 6) a_nil))) a_nil))))))
  (s_seq (s_fldaug 10 1 (· + ·) (e_v 0) (e_k (.int 1)))
  (s_seq (s_fld [(10, 2)] (e_v 0) (e_if (t_b (e_op (eqD false) (e_call (f1 lenD) (a_cons (e_fld [(5, 4)] (e_v 7)) a_nil)) (e_k (.int 3)))) (e_k (.int 4)) (e_k (.int 8))))
  (s_seq (s_asg (e_mth tr0 10 m_Reading_read_branch (e_v 0) (a_cons (e_k (.int 4)) (a_cons (e_tup a_nil) (a_cons (e_k (.int 0)) a_nil)))) (g_tup (g_cons (g_name 8) (g_cons (g_name 9) g_nil))))
  (s_seq (s_if (t_not (t_v (e_v 8))) (s_raise1 7 (e_fld [(10, 1)] (e_v 0))) s_nil)
  (s_ret (e_mkk trunc 4 m_Kind___init__ gKind 2 2 (a_cons (e_v 3) (a_cons (e_v 8) a_nil)) (a_cons (e_fld [(4, 2)] (e_v 6)) (a_cons (e_fld [(4, 3)] (e_v 6)) a_nil))))))))))
noncomputable def m_Reading_read_kind : FM := runDef 3 10 (b_Reading_read_kind)

abbrev s_read_system : Stmt := top 51
noncomputable def b_read_system : SM := (s_seq (s_if (t_not (t_v (e_isi (ktB "str") (e_v 0)))) (s_raise1 7 (e_neg (e_k (.int 1)))) s_nil)
  (s_seq (s_set 1 (e_mk tr0 10 m_Reading___init__ (a_cons (e_v 0) a_nil)))
  (s_seq (s_set 2 (e_mth tr0 10 m_Reading_read_frame (e_v 1) a_nil))
  (s_seq (s_set 3 (e_new a_nil))
  (s_seq (whileS (t_or (t_not (t_v (e_v 3))) (t_b (e_op ltD (e_fld [(10, 1)] (e_v 1)) (e_call (f1 lenD) (a_cons (e_fld [(10, 0)] (e_v 1)) a_nil))))) (s_ex (e_meth tyL appD (e_v 3) (a_cons (e_mth tr0 10 m_Reading_read_kind (e_v 1) (a_cons (e_v 2) (a_cons (e_v 3) a_nil))) a_nil))) 20)
  (s_ret (e_fn tr0 m_with_kinds (a_cons (e_v 2) (a_cons (e_v 3) a_nil)))))))))
noncomputable def m_read_system : FM := runDef 1 4 (b_read_system)

abbrev s__law_box : Stmt := top 57
noncomputable def b__law_box : SM := (s_seq (s_set 2 (e_k (.int 0)))
  (s_seq (s_if (t_b (e_op ltD (e_v 1) (e_call (f1 lenD) (a_cons (e_v 0) a_nil)))) (s_set 2 (e_call (f1 intcD) (a_cons (e_op ixD (e_v 0) (e_v 1)) a_nil))) s_nil)
  (s_seq (s_if (t_b (e_op geD (e_v 2) (e_op powD (e_k (.int 10)) (e_k (.int 18))))) (s_ret (e_new (a_cons (e_op subD (e_v 2) (e_op powD (e_k (.int 10)) (e_k (.int 18)))) (a_cons (e_op addD (e_op modD (e_call (f1 intcD) (a_cons (e_v 2) a_nil)) (e_k (.int 2147483629))) (e_v 1)) (a_cons (e_k (.int 0)) a_nil))))) s_nil)
  (s_ret (e_new (a_cons (e_k (.int 0)) (a_cons (e_op addD (e_op modD (e_call (f1 intcD) (a_cons (e_v 2) a_nil)) (e_k (.int 2147483629))) (e_op mulD (e_k (.int 104729)) (e_v 1))) (a_cons (e_k (.int 0)) a_nil))))))))
noncomputable def m__law_box : FM := runDef 2 3 (b__law_box)

abbrev s__law_pick : Stmt := top 58
noncomputable def b__law_pick : SM := (s_seq (s_if (t_b (e_op gtD (e_op ixD (e_v 0) (e_k (.int 0))) (e_k (.int 0)))) (s_seq (s_set 2 (e_op modD (e_call (f1 intcD) (a_cons (e_op ixD (e_v 0) (e_k (.int 0))) a_nil)) (e_v 1)))
  (s_seq (s_put (e_op divD (e_op ixD (e_v 0) (e_k (.int 0))) (e_v 1)) (e_v 0) (e_k (.int 0)))
  (s_ret (e_v 2)))) s_nil)
  (s_seq (s_put (e_op addD (e_op ixD (e_v 0) (e_k (.int 2))) (e_k (.int 1))) (e_v 0) (e_k (.int 2)))
  (s_seq (s_set 3 (e_op modD (e_call (f1 intcD) (a_cons (e_op mulD (e_op addD (e_op addD (e_op ixD (e_v 0) (e_k (.int 1))) (e_op mulD (e_k (.int 7919)) (e_op ixD (e_v 0) (e_k (.int 2))))) (e_k (.int 1))) (e_k (.int 48271))) a_nil)) (e_k (.int 2147483647))))
  (s_seq (s_set 3 (e_op modD (e_call (f1 intcD) (a_cons (e_op mulD (e_v 3) (e_op addD (e_op divD (e_v 3) (e_k (.int 1009))) (e_k (.int 69621)))) a_nil)) (e_k (.int 2147483647))))
  (s_seq (s_set 3 (e_op modD (e_call (f1 intcD) (a_cons (e_op mulD (e_v 3) (e_op addD (e_op divD (e_v 3) (e_k (.int 2003))) (e_k (.int 40692)))) a_nil)) (e_k (.int 2147483399))))
  (s_ret (e_op modD (e_call (f1 intcD) (a_cons (e_op divD (e_v 3) (e_k (.int 16))) a_nil)) (e_v 1))))))))
noncomputable def m__law_pick : FM := runDef 2 4 (b__law_pick)

abbrev s__law_found : Stmt := top 59
noncomputable def b__law_found : SM := (s_seq (s_set 1 (e_tup (a_cons (e_k (.str "wrong")) (a_cons (e_k (.int 0)) a_nil))))
  (s_seq (s_try (s_seq (s_set 2 (e_fn tr0 m_read_system (a_cons (e_v 0) a_nil)))
  (s_set 1 (e_tup (a_cons (e_k (.str "told")) (a_cons (e_fn trunc m_write_system (a_cons (e_v 2) a_nil)) a_nil)))))
  [⟨7, mt_BadText, 3, (s_seq (s_set 4 (e_or (e_xis 7 false (e_v 3)) (e_xis 7 false (e_v 3))))
  (s_if (t_and (t_v (e_xis 7 true (e_v 3))) (t_and (t_v (e_xis 7 true (e_v 3))) (t_not (t_v (e_v 4))))) (s_set 1 (e_tup (a_cons (e_k (.str "line")) (a_cons (e_xf 7 (e_v 3)) a_nil)))) s_nil))⟩])
  (s_ret (e_v 1))))
noncomputable def m__law_found : FM := runDef 1 5 (b__law_found)

abbrev s__law_joined : Stmt := top 60
noncomputable def b__law_joined : SM := (s_ret (e_meth tyS joinD (e_k (.str "")) (a_cons (e_lcG [1] (i_seq (e_v 0)) (g_name 1) t_yes (e_op addD (e_v 1) (e_k (.str "\n"))) finL) a_nil)))
noncomputable def m__law_joined : FM := runDef 1 2 (b__law_joined)

abbrev s__law_deep : Stmt := top 61
noncomputable def b__law_deep : SM := (s_seq (s_set 1 (e_op addD (e_lst (a_cons (e_k (.str "choose")) (a_cons (e_k (.str "  yes")) a_nil))) (e_op mulD (e_lst (a_cons (e_k (.str "  no")) a_nil)) (e_fn tr0 m__law_pick (a_cons (e_v 0) (a_cons (e_k (.int 2)) a_nil))))))
  (s_seq (s_set 1 (e_op addD (e_op addD (e_v 1) (e_lst (a_cons (e_k (.str "    choose")) (a_cons (e_k (.str "      yes")) a_nil)))) (e_op mulD (e_lst (a_cons (e_k (.str "      no")) a_nil)) (e_fn tr0 m__law_pick (a_cons (e_v 0) (a_cons (e_k (.int 2)) a_nil))))))
  (s_ret (e_op addD (e_v 1) (e_lst (a_cons (e_k (.str "        choose")) a_nil))))))
noncomputable def m__law_deep : FM := runDef 1 2 (b__law_deep)

abbrev s__law_full : Stmt := top 62
noncomputable def b__law_full : SM := (s_seq (s_set 1 (e_fn tr0 m__law_pick (a_cons (e_v 0) (a_cons (e_k (.int 4)) a_nil))))
  (s_seq (s_set 2 (e_op addN (e_op mulD (e_lst (a_cons (e_k (.str "take")) a_nil)) (e_v 1)) (e_lst (a_cons (e_k (.str "choose")) (a_cons (e_k (.str "  yes")) a_nil)))))
  (s_seq (s_set 3 (e_fn tr0 m__law_pick (a_cons (e_v 0) (a_cons (e_k (.int 3)) a_nil))))
  (s_seq (s_if (t_b (e_op (eqD false) (e_v 3) (e_k (.int 0)))) (s_ret (e_op addD (e_v 2) (e_op mulD (e_lst (a_cons (e_k (.str "    take")) a_nil)) (e_op subD (e_k (.int 4)) (e_v 1))))) s_nil)
  (s_seq (s_if (t_b (e_op (eqD false) (e_v 3) (e_k (.int 1)))) (s_ret (e_op addD (e_op addD (e_v 2) (e_lst (a_cons (e_k (.str "    commit")) (a_cons (e_k (.str "  no")) a_nil)))) (e_op mulD (e_lst (a_cons (e_k (.str "    take")) a_nil)) (e_op subD (e_k (.int 4)) (e_v 1))))) s_nil)
  (s_seq (s_set 2 (e_op addN (e_op addD (e_v 2) (e_op mulD (e_lst (a_cons (e_k (.str "    take")) a_nil)) (e_op subD (e_k (.int 3)) (e_v 1)))) (e_lst (a_cons (e_k (.str "  no")) a_nil))))
  (s_seq (s_if (t_b (e_op (eqD false) (e_fn tr0 m__law_pick (a_cons (e_v 0) (a_cons (e_k (.int 2)) a_nil))) (e_k (.int 0)))) (s_ex (e_meth tyL appD (e_v 2) (a_cons (e_k (.str "    commit")) a_nil))) s_nil)
  (s_ret (e_op addD (e_v 2) (e_lst (a_cons (e_k (.str "take")) a_nil)))))))))))
noncomputable def m__law_full : FM := runDef 1 4 (b__law_full)

abbrev s__law_long : Stmt := top 63
noncomputable def b__law_long : SM := (s_seq (s_set 2 (e_op addD (e_op mulD (e_lst (a_cons (e_k (.str "commit")) a_nil)) (e_op subD (e_k (.int 6)) (e_v 1))) (e_lst (a_cons (e_k (.str "choose")) (a_cons (e_k (.str "  yes")) (a_cons (e_k (.str "    drop")) a_nil))))))
  (s_seq (s_if (t_b (e_op (eqD false) (e_fn tr0 m__law_pick (a_cons (e_v 0) (a_cons (e_k (.int 2)) a_nil))) (e_k (.int 0)))) (s_set 2 (e_op addD (e_v 2) (e_lst (a_cons (e_k (.str "  no")) a_nil)))) s_nil)
  (s_ret (e_op addD (e_v 2) (e_lst (a_cons (e_k (.str "    unlock a")) a_nil))))))
noncomputable def m__law_long : FM := runDef 2 3 (b__law_long)

abbrev s__law_pairs : Stmt := top 64
noncomputable def b__law_pairs : SM := (s_seq (s_set 1 (e_lst (a_cons (e_lst (a_cons (e_k (.str "choose")) (a_cons (e_k (.str "  no")) a_nil))) (a_cons (e_lst (a_cons (e_k (.str "choose")) (a_cons (e_k (.str "commit")) a_nil))) (a_cons (e_lst (a_cons (e_k (.str "choose")) (a_cons (e_k (.str "    commit")) a_nil))) (a_cons (e_lst (a_cons (e_k (.str "choose")) (a_cons (e_k (.str "  yes")) (a_cons (e_k (.str "commit")) a_nil)))) a_nil))))))
  (s_seq (s_set 1 (e_op addD (e_v 1) (e_lst (a_cons (e_lst (a_cons (e_k (.str "choose")) (a_cons (e_k (.str "  yes")) (a_cons (e_k (.str "    drop")) (a_cons (e_k (.str "drop")) a_nil))))) (a_cons (e_lst (a_cons (e_k (.str "choose")) (a_cons (e_k (.str "  yes")) (a_cons (e_k (.str "  yes")) a_nil)))) a_nil)))))
  (s_seq (s_set 1 (e_op addD (e_v 1) (e_lst (a_cons (e_lst (a_cons (e_k (.str "choose")) (a_cons (e_k (.str "  yes")) (a_cons (e_k (.str "  no")) (a_cons (e_k (.str "  no")) a_nil))))) (a_cons (e_lst (a_cons (e_k (.str "choose")) (a_cons (e_k (.str "  yes")) (a_cons (e_k (.str "    take")) (a_cons (e_k (.str "  no")) (a_cons (e_k (.str "  yes")) a_nil)))))) a_nil)))))
  (s_seq (s_set 1 (e_op addD (e_v 1) (e_lst (a_cons (e_lst (a_cons (e_k (.str "choose")) (a_cons (e_k (.str "  yes")) (a_cons (e_k (.str "      commit")) a_nil)))) (a_cons (e_lst (a_cons (e_k (.str "choose")) (a_cons (e_k (.str "yes")) a_nil))) (a_cons (e_lst (a_cons (e_k (.str "choose")) (a_cons (e_k (.str "  yes")) (a_cons (e_k (.str "no")) a_nil)))) a_nil))))))
  (s_seq (s_set 1 (e_op addD (e_v 1) (e_lst (a_cons (e_lst (a_cons (e_k (.str "  yes")) a_nil)) (a_cons (e_lst (a_cons (e_k (.str "  no")) a_nil)) a_nil)))))
  (s_ret (e_op ixD (e_v 1) (e_fn tr0 m__law_pick (a_cons (e_v 0) (a_cons (e_k (.int 13)) a_nil))))))))))
noncomputable def m__law_pairs : FM := runDef 1 2 (b__law_pairs)

abbrev s__law_names : Stmt := top 65
noncomputable def b__law_names : SM := (s_seq (s_set 1 (e_op ixD (e_lst (a_cons (e_k (.str "lock")) (a_cons (e_k (.str "unlock")) a_nil))) (e_fn tr0 m__law_pick (a_cons (e_v 0) (a_cons (e_k (.int 2)) a_nil)))))
  (s_ret (e_lst (a_cons (e_op addD (e_v 1) (e_op ixD (e_lst (a_cons (e_k (.str " abcdefghi")) (a_cons (e_k (.str " A")) (a_cons (e_k (.str "")) (a_cons (e_k (.str " a b")) (a_cons (e_k (.str " ")) (a_cons (e_k (.str " a1")) (a_cons (e_k (.str "  a")) (a_cons (e_k (.str " aBc")) a_nil))))))))) (e_fn tr0 m__law_pick (a_cons (e_v 0) (a_cons (e_k (.int 8)) a_nil))))) a_nil))))
noncomputable def m__law_names : FM := runDef 1 2 (b__law_names)

abbrev s_law : Stmt := top 66
noncomputable def b_law : SM := (s_seq (s_set 1 (e_fn tr0 m__law_box (a_cons (e_v 0) (a_cons (e_k (.int 0)) a_nil))))
  (s_seq (s_set 2 (e_fn tr0 m__law_pick (a_cons (e_v 1) (a_cons (e_k (.int 7)) a_nil))))
  (s_seq (s_set 3 (e_fn tr0 m__law_pick (a_cons (e_v 1) (a_cons (e_k (.int 3)) a_nil))))
  (s_seq (s_set 4 (e_and (e_op gtD (e_v 2) (e_k (.int 2))) (e_op (eqD false) (e_fn tr0 m__law_pick (a_cons (e_v 1) (a_cons (e_k (.int 2)) a_nil))) (e_k (.int 0)))))
  (s_seq (s_set 5 (e_op addD (e_k (.int 1)) (e_fn tr0 m__law_pick (a_cons (e_v 1) (a_cons (e_k (.int 2)) a_nil)))))
  (s_seq (s_set 6 (e_lst (a_cons (e_k (.str "system ahead 0 window none crashes 0")) (a_cons (e_op addD (e_k (.str "  kind web block 2 many ")) (e_call (f1 strID) (a_cons (e_v 5) a_nil))) a_nil))))
  (s_seq (s_set 6 (e_op addD (e_v 6) (e_op mulD (e_lst (a_cons (e_k (.str "    commit")) a_nil)) (e_v 3))))
  (s_seq (s_set 7 (e_k (.str "    ")))
  (s_seq (s_if (t_v (e_v 4)) (s_seq (s_set 6 (e_op addD (e_v 6) (e_lst (a_cons (e_k (.str "    choose")) (a_cons (e_k (.str "      yes")) a_nil)))))
  (s_seq (s_if (t_b (e_op (eqD false) (e_fn tr0 m__law_pick (a_cons (e_v 1) (a_cons (e_k (.int 2)) a_nil))) (e_k (.int 0)))) (s_set 6 (e_op addD (e_v 6) (e_lst (a_cons (e_k (.str "        commit")) (a_cons (e_k (.str "      no")) a_nil))))) s_nil)
  (s_set 7 (e_k (.str "        "))))) s_nil)
  (s_seq (s_set 8 (e_fn tr0 m__law_deep (a_cons (e_v 1) a_nil)))
  (s_seq (s_if (t_b (e_op (eqD false) (e_v 2) (e_k (.int 1)))) (s_set 8 (e_fn tr0 m__law_full (a_cons (e_v 1) a_nil))) (s_if (t_b (e_op (eqD false) (e_v 2) (e_k (.int 2)))) (s_set 8 (e_fn tr0 m__law_long (a_cons (e_v 1) (a_cons (e_v 3) a_nil)))) (s_if (t_b (e_op (inF false) (e_v 2) (e_lst (a_cons (e_k (.int 3)) (a_cons (e_k (.int 4)) a_nil))))) (s_set 8 (e_fn tr0 m__law_pairs (a_cons (e_v 1) a_nil))) (s_if (t_b (e_op gtD (e_v 2) (e_k (.int 4)))) (s_set 8 (e_fn tr0 m__law_names (a_cons (e_v 1) a_nil))) s_nil))))
  (s_seq (s_set 6 (e_op addD (e_v 6) (e_lcG [9] (i_seq (e_v 8)) (g_name 9) t_yes (e_op addD (e_v 7) (e_v 9)) finL)))
  (s_seq (s_set 10 (e_op subD (e_call (f1 lenD) (a_cons (e_v 6) a_nil)) (e_k (.int 1))))
  (s_seq (s_set 6 (e_op addD (e_v 6) (e_op mulD (e_lst (a_cons (e_k (.str "    commit")) a_nil)) (e_fn tr0 m__law_pick (a_cons (e_v 1) (a_cons (e_k (.int 3)) a_nil))))))
  (s_ret (e_op (eqD false) (e_fn tr0 m__law_found (a_cons (e_fn tr0 m__law_joined (a_cons (e_v 6) a_nil)) a_nil)) (e_tup (a_cons (e_k (.str "line")) (a_cons (e_v 10) a_nil)))))))))))))))))))
noncomputable def m_law : FM := runDef 1 11 (b_law)

abbrev s_BadText___init__ : Stmt := inClass (top 9) 0
end Mm
set_option maxRecDepth 100000
namespace Mm
open PySem L2
/-! words -/
@[simp] theorem w_take_commit : (("take" : Str) = "commit") = False := by simp only [eq_iff_iff, iff_false]; decide +kernel
@[simp] theorem w_take_rollback : (("take" : Str) = "rollback") = False := by simp only [eq_iff_iff, iff_false]; decide +kernel
@[simp] theorem w_take_drop : (("take" : Str) = "drop") = False := by simp only [eq_iff_iff, iff_false]; decide +kernel
@[simp] theorem w_take_leave : (("take" : Str) = "leave") = False := by simp only [eq_iff_iff, iff_false]; decide +kernel
@[simp] theorem w_take_lock : (("take" : Str) = "lock") = False := by simp only [eq_iff_iff, iff_false]; decide +kernel
@[simp] theorem w_take_unlock : (("take" : Str) = "unlock") = False := by simp only [eq_iff_iff, iff_false]; decide +kernel
@[simp] theorem w_take_choose : (("take" : Str) = "choose") = False := by simp only [eq_iff_iff, iff_false]; decide +kernel
@[simp] theorem w_take_crash : (("take" : Str) = "crash") = False := by simp only [eq_iff_iff, iff_false]; decide +kernel
@[simp] theorem w_commit_take : (("commit" : Str) = "take") = False := by simp only [eq_iff_iff, iff_false]; decide +kernel
@[simp] theorem w_commit_rollback : (("commit" : Str) = "rollback") = False := by simp only [eq_iff_iff, iff_false]; decide +kernel
@[simp] theorem w_commit_drop : (("commit" : Str) = "drop") = False := by simp only [eq_iff_iff, iff_false]; decide +kernel
@[simp] theorem w_commit_leave : (("commit" : Str) = "leave") = False := by simp only [eq_iff_iff, iff_false]; decide +kernel
@[simp] theorem w_commit_lock : (("commit" : Str) = "lock") = False := by simp only [eq_iff_iff, iff_false]; decide +kernel
@[simp] theorem w_commit_unlock : (("commit" : Str) = "unlock") = False := by simp only [eq_iff_iff, iff_false]; decide +kernel
@[simp] theorem w_commit_choose : (("commit" : Str) = "choose") = False := by simp only [eq_iff_iff, iff_false]; decide +kernel
@[simp] theorem w_commit_crash : (("commit" : Str) = "crash") = False := by simp only [eq_iff_iff, iff_false]; decide +kernel
@[simp] theorem w_rollback_take : (("rollback" : Str) = "take") = False := by simp only [eq_iff_iff, iff_false]; decide +kernel
@[simp] theorem w_rollback_commit : (("rollback" : Str) = "commit") = False := by simp only [eq_iff_iff, iff_false]; decide +kernel
@[simp] theorem w_rollback_drop : (("rollback" : Str) = "drop") = False := by simp only [eq_iff_iff, iff_false]; decide +kernel
@[simp] theorem w_rollback_leave : (("rollback" : Str) = "leave") = False := by simp only [eq_iff_iff, iff_false]; decide +kernel
@[simp] theorem w_rollback_lock : (("rollback" : Str) = "lock") = False := by simp only [eq_iff_iff, iff_false]; decide +kernel
@[simp] theorem w_rollback_unlock : (("rollback" : Str) = "unlock") = False := by simp only [eq_iff_iff, iff_false]; decide +kernel
@[simp] theorem w_rollback_choose : (("rollback" : Str) = "choose") = False := by simp only [eq_iff_iff, iff_false]; decide +kernel
@[simp] theorem w_rollback_crash : (("rollback" : Str) = "crash") = False := by simp only [eq_iff_iff, iff_false]; decide +kernel
@[simp] theorem w_drop_take : (("drop" : Str) = "take") = False := by simp only [eq_iff_iff, iff_false]; decide +kernel
@[simp] theorem w_drop_commit : (("drop" : Str) = "commit") = False := by simp only [eq_iff_iff, iff_false]; decide +kernel
@[simp] theorem w_drop_rollback : (("drop" : Str) = "rollback") = False := by simp only [eq_iff_iff, iff_false]; decide +kernel
@[simp] theorem w_drop_leave : (("drop" : Str) = "leave") = False := by simp only [eq_iff_iff, iff_false]; decide +kernel
@[simp] theorem w_drop_lock : (("drop" : Str) = "lock") = False := by simp only [eq_iff_iff, iff_false]; decide +kernel
@[simp] theorem w_drop_unlock : (("drop" : Str) = "unlock") = False := by simp only [eq_iff_iff, iff_false]; decide +kernel
@[simp] theorem w_drop_choose : (("drop" : Str) = "choose") = False := by simp only [eq_iff_iff, iff_false]; decide +kernel
@[simp] theorem w_drop_crash : (("drop" : Str) = "crash") = False := by simp only [eq_iff_iff, iff_false]; decide +kernel
@[simp] theorem w_leave_take : (("leave" : Str) = "take") = False := by simp only [eq_iff_iff, iff_false]; decide +kernel
@[simp] theorem w_leave_commit : (("leave" : Str) = "commit") = False := by simp only [eq_iff_iff, iff_false]; decide +kernel
@[simp] theorem w_leave_rollback : (("leave" : Str) = "rollback") = False := by simp only [eq_iff_iff, iff_false]; decide +kernel
@[simp] theorem w_leave_drop : (("leave" : Str) = "drop") = False := by simp only [eq_iff_iff, iff_false]; decide +kernel
@[simp] theorem w_leave_lock : (("leave" : Str) = "lock") = False := by simp only [eq_iff_iff, iff_false]; decide +kernel
@[simp] theorem w_leave_unlock : (("leave" : Str) = "unlock") = False := by simp only [eq_iff_iff, iff_false]; decide +kernel
@[simp] theorem w_leave_choose : (("leave" : Str) = "choose") = False := by simp only [eq_iff_iff, iff_false]; decide +kernel
@[simp] theorem w_leave_crash : (("leave" : Str) = "crash") = False := by simp only [eq_iff_iff, iff_false]; decide +kernel
@[simp] theorem w_lock_take : (("lock" : Str) = "take") = False := by simp only [eq_iff_iff, iff_false]; decide +kernel
@[simp] theorem w_lock_commit : (("lock" : Str) = "commit") = False := by simp only [eq_iff_iff, iff_false]; decide +kernel
@[simp] theorem w_lock_rollback : (("lock" : Str) = "rollback") = False := by simp only [eq_iff_iff, iff_false]; decide +kernel
@[simp] theorem w_lock_drop : (("lock" : Str) = "drop") = False := by simp only [eq_iff_iff, iff_false]; decide +kernel
@[simp] theorem w_lock_leave : (("lock" : Str) = "leave") = False := by simp only [eq_iff_iff, iff_false]; decide +kernel
@[simp] theorem w_lock_unlock : (("lock" : Str) = "unlock") = False := by simp only [eq_iff_iff, iff_false]; decide +kernel
@[simp] theorem w_lock_choose : (("lock" : Str) = "choose") = False := by simp only [eq_iff_iff, iff_false]; decide +kernel
@[simp] theorem w_lock_crash : (("lock" : Str) = "crash") = False := by simp only [eq_iff_iff, iff_false]; decide +kernel
@[simp] theorem w_unlock_take : (("unlock" : Str) = "take") = False := by simp only [eq_iff_iff, iff_false]; decide +kernel
@[simp] theorem w_unlock_commit : (("unlock" : Str) = "commit") = False := by simp only [eq_iff_iff, iff_false]; decide +kernel
@[simp] theorem w_unlock_rollback : (("unlock" : Str) = "rollback") = False := by simp only [eq_iff_iff, iff_false]; decide +kernel
@[simp] theorem w_unlock_drop : (("unlock" : Str) = "drop") = False := by simp only [eq_iff_iff, iff_false]; decide +kernel
@[simp] theorem w_unlock_leave : (("unlock" : Str) = "leave") = False := by simp only [eq_iff_iff, iff_false]; decide +kernel
@[simp] theorem w_unlock_lock : (("unlock" : Str) = "lock") = False := by simp only [eq_iff_iff, iff_false]; decide +kernel
@[simp] theorem w_unlock_choose : (("unlock" : Str) = "choose") = False := by simp only [eq_iff_iff, iff_false]; decide +kernel
@[simp] theorem w_unlock_crash : (("unlock" : Str) = "crash") = False := by simp only [eq_iff_iff, iff_false]; decide +kernel
@[simp] theorem w_choose_take : (("choose" : Str) = "take") = False := by simp only [eq_iff_iff, iff_false]; decide +kernel
@[simp] theorem w_choose_commit : (("choose" : Str) = "commit") = False := by simp only [eq_iff_iff, iff_false]; decide +kernel
@[simp] theorem w_choose_rollback : (("choose" : Str) = "rollback") = False := by simp only [eq_iff_iff, iff_false]; decide +kernel
@[simp] theorem w_choose_drop : (("choose" : Str) = "drop") = False := by simp only [eq_iff_iff, iff_false]; decide +kernel
@[simp] theorem w_choose_leave : (("choose" : Str) = "leave") = False := by simp only [eq_iff_iff, iff_false]; decide +kernel
@[simp] theorem w_choose_lock : (("choose" : Str) = "lock") = False := by simp only [eq_iff_iff, iff_false]; decide +kernel
@[simp] theorem w_choose_unlock : (("choose" : Str) = "unlock") = False := by simp only [eq_iff_iff, iff_false]; decide +kernel
@[simp] theorem w_choose_crash : (("choose" : Str) = "crash") = False := by simp only [eq_iff_iff, iff_false]; decide +kernel
@[simp] theorem w_crash_take : (("crash" : Str) = "take") = False := by simp only [eq_iff_iff, iff_false]; decide +kernel
@[simp] theorem w_crash_commit : (("crash" : Str) = "commit") = False := by simp only [eq_iff_iff, iff_false]; decide +kernel
@[simp] theorem w_crash_rollback : (("crash" : Str) = "rollback") = False := by simp only [eq_iff_iff, iff_false]; decide +kernel
@[simp] theorem w_crash_drop : (("crash" : Str) = "drop") = False := by simp only [eq_iff_iff, iff_false]; decide +kernel
@[simp] theorem w_crash_leave : (("crash" : Str) = "leave") = False := by simp only [eq_iff_iff, iff_false]; decide +kernel
@[simp] theorem w_crash_lock : (("crash" : Str) = "lock") = False := by simp only [eq_iff_iff, iff_false]; decide +kernel
@[simp] theorem w_crash_unlock : (("crash" : Str) = "unlock") = False := by simp only [eq_iff_iff, iff_false]; decide +kernel
@[simp] theorem w_crash_choose : (("crash" : Str) = "choose") = False := by simp only [eq_iff_iff, iff_false]; decide +kernel
@[simp] theorem it_take : items.lookup ("take" : Str) = some 1 := by decide +kernel
@[simp] theorem it_commit : items.lookup ("commit" : Str) = some 1 := by decide +kernel
@[simp] theorem it_rollback : items.lookup ("rollback" : Str) = some 1 := by decide +kernel
@[simp] theorem it_drop : items.lookup ("drop" : Str) = some 1 := by decide +kernel
@[simp] theorem it_leave : items.lookup ("leave" : Str) = some 1 := by decide +kernel
@[simp] theorem it_lock : items.lookup ("lock" : Str) = some 2 := by decide +kernel
@[simp] theorem it_unlock : items.lookup ("unlock" : Str) = some 2 := by decide +kernel
@[simp] theorem it_choose : items.lookup ("choose" : Str) = some 3 := by decide +kernel

theorem kitbs : kitB "int" "int" = some true ∧ kitB "int" "bool" = some false ∧ kitB "str" "str" = some true ∧ kitB "tuple" "tuple" = some true ∧ kitB "list" "list" = some true ∧ kitB "NoneType" "tuple" = some false := by decide +kernel
@[simp] theorem kb1 : ktB "int" (.inl "int") = some true := kitbs.1
@[simp] theorem kb2 : ktB "bool" (.inl "int") = some false := kitbs.2.1
@[simp] theorem kb3 : ktB "str" (.inl "str") = some true := kitbs.2.2.1
@[simp] theorem kb4 : ktB "tuple" (.inl "tuple") = some true := kitbs.2.2.2.1
@[simp] theorem kb5 : ktB "list" (.inl "list") = some true := kitbs.2.2.2.2.1
/-! loops over what does not stand in the store -/
@[simp] theorem loopS_nil (g : GM) (b : SM) (env : Env) (S : Sto) : loopS g b none [] env S = .next env S := by unfold loopS; simp
open Classical in
@[simp] theorem loopS_cons (g : GM) (b : SM) (d : D) (r : List D) (env : Env) (S : Sto) : loopS g b none (d :: r) env S = match g d env with
    | none => .bad
    | some env1 => match b env1 S with
      | .next env2 S2 => loopS g b none r env2 S2
      | .cnt env2 S2 => loopS g b none r env2 S2
      | .brk env2 S2 => .next env2 S2
      | x => x := by
  conv => lhs; unfold loopS
  rw [RS.if_pos (stay_none S [])] <;>
  (cases g d env with
  | none => rfl
  | some env1 => cases hb : b env1 S <;> simp only [hb])
@[simp] theorem lcM_nil (g : GM) (t : TM) (m : EM) (env : Env) (acc : List D) (S : Sto) : lcM g t m env none [] acc S = .ok acc S := by unfold lcM; simp
open Classical in
@[simp] theorem lcM_cons (g : GM) (t : TM) (m : EM) (env : Env) (d : D) (r acc : List D) (S : Sto) : lcM g t m env none (d :: r) acc S = match g d env with
    | none => .bad
    | some env1 => (t env1 S).nox.bind fun k S1 => if k = true then (m env1 S1).nox.bind fun y S2 => .if (acc.length < sizeLine) (lcM g t m env none r (acc ++ [y]) S2) else lcM g t m env none r acc S1 := by
  conv => lhs; unfold lcM
  rw [R.if_pos (stay_none S [])] <;> (cases g d env <;> rfl)
@[simp] theorem stay_iff (S : Sto) (xs ds : List D) (k : Nat) : Stay S (xs, some (k, ds)) ↔ S[k]? = some (.lst ds) := ⟨fun h => h k ds rfl, fun h j es e => by cases e; exact h⟩
/-! small defs -/
@[simp] theorem is_integer_i (i : Int) (S : Sto) : m_is_integer [.int i] S = .ok (.bl true) S := by
  unfold m_is_integer; rw [runDef_eq (by rfl)]; unfold b_is_integer; simp [isiD]
@[simp] theorem is_within_i (i lo hi : Int) (S : Sto) : m_is_within [.int i, .int lo, .int hi] S = .ok (.bl (decide (lo ≤ i) && decide (i ≤ hi))) S := by
  unfold m_is_within; rw [runDef_eq (by rfl)]; unfold b_is_within; simp
  by_cases h : lo ≤ i <;> simp [h]
@[simp] theorem has_form_1 (x : Str) (h : items.lookup x = some 1) (S : Sto) : m_has_form [.tup [.str x]] S = .ok (.bl true) S := by
  unfold m_has_form; rw [runDef_eq (by rfl)]; unfold b_has_form
  have hc : (x = "choose") = False := by
    simp only [eq_iff_iff, iff_false]; rintro rfl; simp at h
  simp [isiD, h, hc]
@[simp] theorem has_form_c (a b : List D) (S : Sto) : m_has_form [.tup [.str "choose", .tup a, .tup b]] S = .ok (.bl true) S := by
  unfold m_has_form; rw [runDef_eq (by rfl)]; unfold b_has_form
  simp [isiD]
end Mm
namespace Tk
open PySem L2
abbrev Pl := List Int
mutual
/-- the statements at and below the place p, in reading order -/
def Stm.walk : Stm → Pl → List (Pl × Stm)
  | .one w, p => [(p, .one w)]
  | .nam b n, p => [(p, .nam b n)]
  | .ch y n, p => (p, .ch y n) :: (walkAll y (p ++ [0]) 0 ++ walkAll n (p ++ [1]) 0)
def walkAll : List Stm → Pl → Nat → List (Pl × Stm)
  | [], _, _ => []
  | s :: r, p, i => s.walk (p ++ [(i : Int)]) ++ walkAll r p (i + 1)
end
def lk : List (Pl × Stm) → Pl → Option Stm
  | [], _ => none
  | (p, s) :: r, k => if p = k then some s else lk r k
theorem lk_app (k : Pl) : ∀ a b : List (Pl × Stm), lk (a ++ b) k = (lk a k).or (lk b k)
  | [], b => rfl
  | (p, s) :: r, b => by
    show (if p = k then some s else lk (r ++ b) k) = (if p = k then some s else lk r k).or (lk b k)
    by_cases h : p = k
    · rw [if_pos h, if_pos h]; rfl
    · rw [if_neg h, if_neg h, lk_app k r b]
def nth (B : List Stm) (j : Int) : Option Stm := if 0 ≤ j then B[j.toNat]? else none
def sub : Stm → Pl → Option Stm
  | s, [] => some s
  | .ch y n, a :: j :: q => if a = 0 then (nth y j).bind fun t => sub t q else if a = 1 then (nth n j).bind fun t => sub t q else none
  | _, _ => none
def look : List Stm → Pl → Option Stm
  | B, [] => none
  | B, j :: q => (nth B j).bind fun s => sub s q
theorem pre_ne {p q : Pl} {a b : Int} (h : a ≠ b) : ∀ r : Pl, p ++ a :: q ≠ (p ++ [b]) ++ r := fun r e => by
  rw [List.append_assoc] at e
  have := List.append_cancel_left e
  simp at this
  exact h this.1
mutual
theorem walk_none : ∀ (s : Stm) (p k : Pl), (∀ q, k ≠ p ++ q) → lk (s.walk p) k = none
  | .one w, p, k, h => by
    rw [Stm.walk, lk, if_neg (fun e => h [] (by rw [← e]; simp)), lk]
  | .nam b n, p, k, h => by
    rw [Stm.walk, lk, if_neg (fun e => h [] (by rw [← e]; simp)), lk]
  | .ch y n, p, k, h => by
    rw [Stm.walk, lk, if_neg (fun e => h [] (by rw [← e]; simp)), lk_app, walkAll_none y (p ++ [0]) 0 k (fun j q e => h (0 :: j :: q) (by rw [e]; simp)), walkAll_none n (p ++ [1]) 0 k (fun j q e => h (1 :: j :: q) (by rw [e]; simp))]
    rfl
theorem walkAll_none : ∀ (B : List Stm) (p : Pl) (i : Nat) (k : Pl), (∀ j q, k ≠ p ++ j :: q) → lk (walkAll B p i) k = none
  | [], p, i, k, h => by rw [walkAll, lk]
  | s :: r, p, i, k, h => by
    rw [walkAll, lk_app, walk_none s (p ++ [(i : Int)]) k (fun q e => h i q (by rw [e]; simp)), walkAll_none r p (i + 1) k h]
    rfl
end
theorem nth_nil (j : Int) : nth [] j = none := by
  unfold nth
  by_cases h : 0 ≤ j
  · rw [if_pos h]; rfl
  · rw [if_neg h]
theorem nth_succ (s : Stm) (r : List Stm) (j : Int) (h : j ≠ 0) : nth (s :: r) j = nth r (j - 1) := by
  unfold nth
  by_cases h0 : 0 ≤ j
  · rw [if_pos h0, if_pos (by omega)]
    have e : j.toNat = (j - 1).toNat + 1 := by omega
    rw [e, List.getElem?_cons_succ]
  · rw [if_neg h0, if_neg (by omega)]
mutual
theorem walk_lk : ∀ (s : Stm) (p q : Pl), lk (s.walk p) (p ++ q) = sub s q
  | .one w, p, [] => by rw [Stm.walk, lk, if_pos (by simp), sub]
  | .one w, p, a :: q => by
    rw [Stm.walk, lk, if_neg (fun e => by have := congrArg List.length e; simp at this), lk]
    cases q <;> rfl
  | .nam b n, p, [] => by rw [Stm.walk, lk, if_pos (by simp), sub]
  | .nam b n, p, a :: q => by
    rw [Stm.walk, lk, if_neg (fun e => by have := congrArg List.length e; simp at this), lk]
    cases q <;> rfl
  | .ch y n, p, [] => by rw [Stm.walk, lk, if_pos (by simp), sub]
  | .ch y n, p, [a] => by
    rw [Stm.walk, lk, if_neg (fun e => by have := congrArg List.length e; simp at this), lk_app, walkAll_none, walkAll_none]
    · rfl
    · intro j q e; have := congrArg List.length e; simp at this
    · intro j q e; have := congrArg List.length e; simp at this
  | .ch y n, p, a :: j :: q => by
    rw [Stm.walk, lk, if_neg (fun e => by have := congrArg List.length e; simp at this), lk_app, sub]
    by_cases h0 : a = 0
    · subst h0
      rw [if_pos rfl]
      have e : p ++ (0 : Int) :: j :: q = (p ++ [0]) ++ j :: q := by simp
      have z : lk (walkAll n (p ++ [1]) 0) (p ++ (0 : Int) :: j :: q) = none := walkAll_none n (p ++ [1]) 0 _ (fun j' q' => pre_ne (by decide) _)
      rw [z, e, walkAll_lk y (p ++ [0]) 0 j q]
      simp
    · rw [if_neg h0]
      have z : lk (walkAll y (p ++ [0]) 0) (p ++ a :: j :: q) = none := walkAll_none y (p ++ [0]) 0 _ (fun j' q' => pre_ne h0 _)
      rw [z]
      by_cases h1 : a = 1
      · subst h1
        rw [if_pos rfl]
        have e : p ++ (1 : Int) :: j :: q = (p ++ [1]) ++ j :: q := by simp
        rw [e, walkAll_lk n (p ++ [1]) 0 j q]
        simp
      · rw [if_neg h1]
        have z2 : lk (walkAll n (p ++ [1]) 0) (p ++ a :: j :: q) = none := walkAll_none n (p ++ [1]) 0 _ (fun j' q' => pre_ne h1 _)
        rw [z2]; rfl
theorem walkAll_lk : ∀ (B : List Stm) (p : Pl) (i : Nat) (j : Int) (q : Pl), lk (walkAll B p i) (p ++ j :: q) = (nth B (j - i)).bind fun s => sub s q
  | [], p, i, j, q => by rw [walkAll, lk, nth_nil]; rfl
  | s :: r, p, i, j, q => by
    rw [walkAll, lk_app]
    by_cases h : j = i
    · subst h
      have e : p ++ (i : Int) :: q = (p ++ [(i : Int)]) ++ q := by simp
      have z : lk (walkAll r p (i + 1)) (p ++ (i : Int) :: q) = none ∨ True := .inr trivial
      rw [e, walk_lk s (p ++ [(i : Int)]) q, ← e, walkAll_lk r p (i + 1) i q]
      have e1 : nth (s :: r) ((i : Int) - i) = some s := by rw [Int.sub_self]; rfl
      have e2 : nth r ((i : Int) - ((i + 1 : Nat) : Int)) = none := by unfold nth; rw [if_neg (by omega)]
      rw [e1, e2]
      simp
    · have z : lk (s.walk (p ++ [(i : Int)])) (p ++ j :: q) = none := walk_none s _ _ (fun q' => pre_ne h _)
      rw [z, walkAll_lk r p (i + 1) j q, nth_succ s r (j - i) (by omega)]
      have e : j - ((i + 1 : Nat) : Int) = j - i - 1 := by omega
      rw [e]; rfl
end
mutual
theorem walk_len : ∀ (s : Stm) (p : Pl), (s.walk p).length = s.cnt
  | .one w, p => by rw [Stm.walk, Stm.cnt]; rfl
  | .nam b n, p => by rw [Stm.walk, Stm.cnt]; rfl
  | .ch y n, p => by
    rw [Stm.walk, Stm.cnt, List.length_cons, List.length_append, walkAll_len y, walkAll_len n]; omega
theorem walkAll_len : ∀ (B : List Stm) (p : Pl) (i : Nat), (walkAll B p i).length = cntAll B
  | [], p, i => by rw [walkAll, cntAll]; rfl
  | s :: r, p, i => by rw [walkAll, cntAll, List.length_append, walk_len s, walkAll_len r]
end
/-! ## the found statements as a dict -/
def key (p : Pl) : List Key := p.map Sum.inl
theorem key_inj : ∀ {p q : Pl}, key p = key q → p = q
  | [], [], _ => rfl
  | [], _ :: _, h => by cases h
  | _ :: _, [], h => by cases h
  | a :: p, b :: q, h => by
    have h' : Sum.inl a :: key p = Sum.inl b :: key q := h
    injection h' with h1 h2
    injection h1 with h1
    rw [h1, key_inj h2]
def FRel (H : Hp) : List (List Key × V) → List (Pl × Stm) → Prop
  | [], [] => True
  | (k, v) :: r, (p, s) :: r' => k = key p ∧ s.at H v ∧ FRel H r r'
  | _, _ => False
theorem FRel.len {H : Hp} : ∀ {a : List (List Key × V)} {b : List (Pl × Stm)}, FRel H a b → a.length = b.length
  | [], [], _ => rfl
  | _ :: _, _ :: _, h => by rw [List.length_cons, List.length_cons, FRel.len h.2.2]
  | [], _ :: _, h => h.elim
  | _ :: _, [], h => h.elim
theorem FRel.keep {H H' : Hp} (k : TK H H') : ∀ {a : List (List Key × V)} {b : List (Pl × Stm)}, FRel H a b → FRel H' a b
  | [], [], _ => trivial
  | _ :: _, _ :: _, h => ⟨h.1, Stm.at_keep k _ _ h.2.1, FRel.keep k h.2.2⟩
  | [], _ :: _, h => h.elim
  | _ :: _, [], h => h.elim
theorem FRel.val {H : Hp} (p : Pl) : ∀ {a : List (List Key × V)} {b : List (Pl × Stm)}, FRel H a b → (lk b p = none → valV a (key p) = none) ∧ (∀ s, lk b p = some s → ∃ v, valV a (key p) = some v ∧ s.at H v)
  | [], [], _ => ⟨fun _ => rfl, fun s e => by cases e⟩
  | (k, v) :: r, (q, s) :: r', h => by
    obtain ⟨rfl, h1, h2⟩ := h
    by_cases e : q = p
    · subst e
      rw [lk, if_pos rfl, valV_pos (p := (key q, v)) rfl]
      exact ⟨(fun z => nomatch z), fun t z => ⟨v, rfl, Option.some.inj z ▸ h1⟩⟩
    · rw [lk, if_neg e, valV_neg (p := (key q, v)) (fun z => e (key_inj z))]
      exact FRel.val p h2
  | [], _ :: _, h => h.elim
  | _ :: _, [], h => h.elim
end Tk
namespace Tk
open PySem L2
def br (a : Int) (y n : List Stm) : List Stm := if a = 0 then y else n
/-- R is what follows the statement at p, to the end of the script -/
inductive After : List Stm → Pl → List Stm → Prop
  | here (B : List Stm) (i : Nat) : i < B.length → After B [(i : Int)] (B.drop (i + 1))
  | inn (B : List Stm) (i : Nat) (a : Int) (y n : List Stm) (q : Pl) (R : List Stm) : B[i]? = some (.ch y n) → (a = 0 ∨ a = 1) → After (br a y n) q R → After B ((i : Int) :: a :: q) (R ++ B.drop (i + 1))
theorem nth_nat (B : List Stm) (i : Nat) : nth B (i : Int) = B[i]? := by
  unfold nth
  rw [if_pos (by omega), Int.toNat_natCast]
theorem After.ne {B : List Stm} {p : Pl} {R : List Stm} (h : After B p R) : p ≠ [] := by cases h <;> simp
theorem look_in {B : List Stm} {i : Nat} {a : Int} {y n : List Stm} {q : Pl} (h : B[i]? = some (.ch y n)) (ha : a = 0 ∨ a = 1) (hq : q ≠ []) : look B ((i : Int) :: a :: q) = look (br a y n) q := by
  cases q with
  | nil => exact absurd rfl hq
  | cons j r =>
    rw [look, nth_nat, h]
    show sub (.ch y n) (a :: j :: r) = _
    rw [sub, look]
    rcases ha with rfl | rfl
    · rw [if_pos rfl]; rfl
    · rw [if_neg (by decide), if_pos rfl]; rfl
theorem look_one (B : List Stm) (i : Nat) : look B [(i : Int)] = B[i]? := by
  rw [look, nth_nat]
  cases B[i]? <;> rfl
theorem After.step {S : List Stm} {p : Pl} {R : List Stm} (h : After S p R) : ∃ q j, p = q ++ [j] ∧
    ((∃ s R', look S (q ++ [j + 1]) = some s ∧ R = s :: R' ∧ After S (q ++ [j + 1]) R') ∨
     (look S (q ++ [j + 1]) = none ∧ ((q = [] ∧ R = []) ∨ ∃ q' a, q = q' ++ [a] ∧ q' ≠ [] ∧ After S q' R))) := by
  induction h with
  | here B i hi =>
    refine ⟨[], (i : Int), rfl, ?_⟩
    have e : ([] : Pl) ++ [(i : Int) + 1] = [((i + 1 : Nat) : Int)] := by simp
    rw [e, look_one]
    cases g : B[i + 1]? with
    | none =>
      refine .inr ⟨rfl, .inl ⟨rfl, ?_⟩⟩
      rw [List.drop_eq_nil_of_le]
      exact List.getElem?_eq_none_iff.mp g
    | some s =>
      obtain ⟨lt, e1⟩ := List.getElem?_eq_some_iff.mp g
      exact .inl ⟨s, B.drop (i + 1 + 1), rfl, by rw [List.drop_eq_getElem_cons lt, e1], .here B (i + 1) lt⟩
  | inn B i a y n q R hb ha hq ih =>
    obtain ⟨q0, j, e, ih⟩ := ih
    refine ⟨(i : Int) :: a :: q0, j, by rw [e]; rfl, ?_⟩
    have le : look B (((i : Int) :: a :: q0) ++ [j + 1]) = look (br a y n) (q0 ++ [j + 1]) := look_in hb ha (by simp)
    rw [le]
    rcases ih with ⟨s, R', l, eR, af⟩ | ⟨l, ⟨rfl, eR⟩ | ⟨q', a', eq, nq, af⟩⟩
    · exact .inl ⟨s, R' ++ B.drop (i + 1), l, by rw [eR]; rfl, .inn B i a y n _ R' hb ha af⟩
    · refine .inr ⟨l, .inr ⟨[(i : Int)], a, rfl, by simp, ?_⟩⟩
      rw [eR]
      exact .here B i (List.getElem?_eq_some_iff.mp hb).1
    · refine .inr ⟨l, .inr ⟨(i : Int) :: a :: q', a', by rw [eq]; rfl, by simp, ?_⟩⟩
      exact .inn B i a y n q' R hb ha af
theorem After.first {S : List Stm} (h : S ≠ []) : look S [0] = S[0]? ∧ After S [0] (S.drop 1) :=
  ⟨look_one S 0, .here S 0 (List.length_pos_iff.mpr h)⟩
theorem okAll_get : ∀ {d : Nat} {B : List Stm} {h : Int} {i : Nat} {s : Stm}, okAll d B h → B[i]? = some s → ∃ h', s.ok d h'
  | d, [], h, i, s, _, e => by simp at e
  | d, t :: r, h, 0, s, g, e => by
    rw [okAll] at g
    have e' : t = s := Option.some.inj e
    exact ⟨h, e' ▸ g.1⟩
  | d, t :: r, h, i + 1, s, g, e => by
    rw [okAll] at g
    exact okAll_get g.2 (i := i) (s := s) e
theorem After.len {S : List Stm} {p : Pl} {R : List Stm} (h : After S p R) : ∀ (d : Nat) (k : Int), okAll d S k → d ≤ 2 → p.length + 2 * d ≤ 5 := by
  induction h with
  | here B i hi => intro d k _ hd; show 1 + 2 * d ≤ 5; omega
  | inn B i a y n q R hb ha hq ih =>
    intro d k g hd
    obtain ⟨h', o⟩ := okAll_get g hb
    rw [Stm.ok] at o
    have z : q.length + 2 * (d + 1) ≤ 5 := by
      rcases ha with rfl | rfl
      · exact ih (d + 1) h' o.2.1 (by omega)
      · exact ih (d + 1) h' o.2.2 (by omega)
    show q.length + 1 + 1 + 2 * d ≤ 5
    omega
/-! ## greater places -/
def Gt (x y : Pl) : Prop := (∃ q i j r s, x = q ++ i :: r ∧ y = q ++ j :: s ∧ j < i) ∨ ∃ c, x = y ++ c ∧ c ≠ []
end Tk
set_option maxRecDepth 100000
namespace Mm
open PySem L2
/-! places behind a store -/
@[simp] theorem ga0 (S l : Sto) : (S ++ l)[S.length]? = l[0]? := by rw [List.getElem?_append_right (Nat.le_refl _), Nat.sub_self]
@[simp] theorem gak (S l : Sto) (k : Nat) : (S ++ l)[S.length + k]? = l[k]? := by rw [List.getElem?_append_right (by omega)]; congr 1; omega
@[simp] theorem sa0 (S l : Sto) (o : SO) : (S ++ l).set S.length o = S ++ l.set 0 o := by rw [List.set_append_right _ _ (Nat.le_refl _), Nat.sub_self]
@[simp] theorem sak (S l : Sto) (k : Nat) (o : SO) : (S ++ l).set (S.length + k) o = S ++ l.set k o := by rw [List.set_append_right _ _ (by omega)]; congr 2; omega
open Classical in
theorem tr_app (S l : Sto) : Tr S.length S (S ++ l) := fun k hk => .inl (List.getElem?_append_left hk)
open Classical in
@[simp] theorem trunc_app (S l : Sto) (d : D) : trunc S (.ok d (S ++ l)) = .ofO (rsvD S.length (S ++ l) d) S := by
  unfold trunc
  dsimp only
  rw [R.if_pos (tr_app S l)]
  simp
open Classical in
@[simp] theorem trunc_self (S : Sto) (d : D) : trunc S (.ok d S) = .ofO (rsvD S.length S d) S := by
  have := trunc_app S [] d
  simpa using this
@[simp] theorem lenD_ttp (ds : List D) (S : Sto) : lenD (.ttp ds) S = .ok (.int ds.length) S := rfl
open Classical in
@[simp] theorem isI_iff (k j : Nat) (S : Sto) : isI k (.loc j) S ↔ ∃ ds, S[j]? = some (.ins k ds) := by
  unfold isI
  simp only [insOf_loc']
  constructor
  · rintro ⟨ds, h⟩
    cases ho : S[j]? with
    | none => rw [ho] at h; cases h
    | some o => cases o with
      | ins c es => rw [ho] at h; simp at h; exact ⟨es, by rw [h.1]⟩
      | _ => rw [ho] at h; cases h
  · rintro ⟨ds, h⟩
    exact ⟨ds, by rw [h]⟩
@[simp] theorem isI_ob (k j : Nat) (ds : List D) (S : Sto) : isI k (.obj j ds) S ↔ j = k := ⟨fun ⟨es, h⟩ => by cases h; rfl, fun h => ⟨ds, by rw [h]; rfl⟩⟩
open Classical in
@[simp] theorem e_mth_eq' (tr : TrF) (k : Nat) (m : FM) (mo : EM) (am : AM) (env : Env) (S : Sto) : e_mth tr k m mo am env S = (mo env S).bind fun d S1 => .if (isI k d S1) ((am env S1).bind fun ds S2 => tr S2 (m (d :: ds) S2)) := rfl
open Classical in
@[simp] theorem e_own2_eq' (tr : TrF) (k : Nat) (m : FM) (ma mb : EM) (env : Env) (S : Sto) : e_own2 tr k m ma mb env S = (ma env S).bind fun x S1 => (mb env S1).bind fun y S2 => .if (isI k x S2) (tr S2 (m [x, y] S2)) := rfl
open Classical in
@[simp] theorem e_ownIn_eq' (tr : TrF) (neg : Bool) (k : Nat) (m : FM) (ma mb : EM) (env : Env) (S : Sto) : e_ownIn tr neg k m ma mb env S = (ma env S).bind fun y S1 => (mb env S1).bind fun x S2 => .if (isI k x S2) ((tr S2 (m [x, y] S2)).nox.bind fun d S3 => match d with
  | .bl b => .ok (.bl (neg ^^ b)) S3
  | _ => .bad) := rfl
@[simp] theorem e_mk_eq' (tr : TrF) (k : Nat) (m : FM) (am : AM) (env : Env) (S : Sto) : e_mk tr k m am env S = (am env S).bind fun ds S1 => tr S1 (mkD k m ds S1) := rfl
@[simp] theorem i_enum_eq (m : EM) (env : Env) (S : Sto) : i_enum m env S = (m env S).bind fun d S1 => (R.ofO (itsOf S1 d) S1).bind fun it S2 => .ok (numD 0 it.1, it.2) S2 := rfl
@[simp] theorem i_rng1_eq (m : EM) (env : Env) (S : Sto) : i_rng1 m env S = (m env S).bind fun d S1 => match d with
  | .int j => .if (-(2 ^ 62) ≤ j ∧ j < 2 ^ 62) (.ok (rngD 0 j.toNat, none) S1)
  | _ => .bad := rfl
@[simp] theorem i_rng2_eq (m m2 : EM) (env : Env) (S : Sto) : i_rng2 m m2 env S = (m env S).bind fun d S1 => (m2 env S1).bind fun e S2 => match d, e with
  | .int i, .int j => .if (-(2 ^ 62) ≤ i ∧ i < 2 ^ 62 ∧ -(2 ^ 62) ≤ j ∧ j < 2 ^ 62) (.ok (rngD i (j - i).toNat, none) S2)
  | _, _ => .bad := rfl
@[simp] theorem numD_nil (i : Nat) : numD i [] = [] := rfl
@[simp] theorem numD_cons (i : Nat) (d : D) (r : List D) : numD i (d :: r) = .tup [.int i, d] :: numD (i + 1) r := rfl
@[simp] theorem g_tup_eq (gs : GMs) (ds : List D) (env : Env) : g_tup gs (.tup ds) env = gs ds env := rfl
@[simp] theorem g_cons_eq (g : GM) (gs : GMs) (d : D) (r : List D) (env : Env) : g_cons g gs (d :: r) env = (g d env).bind fun env1 => gs r env1 := rfl
@[simp] theorem g_nil_eq (env : Env) : g_nil [] env = some env := rfl
@[simp] theorem isNon_non : isNon .non = true := rfl
@[simp] theorem isNon_int (i : Int) : isNon (.int i) = false := rfl
@[simp] theorem isNon_str (i : Str) : isNon (.str i) = false := rfl
@[simp] theorem isNon_tup (i : List D) : isNon (.tup i) = false := rfl
@[simp] theorem isNon_obj (k : Nat) (i : List D) : isNon (.obj k i) = false := rfl
@[simp] theorem isNon_loc (k : Nat) : isNon (.loc k) = false := rfl
@[simp] theorem nlt (n k : Nat) : (n + k < n) = False := by simp
theorem mCC_s (n : Nat) : mCC (n + 1) = (m_Check_check_branch' (mCC n).2, m_Check_check_statement' (mCC n).1) := rfl
theorem cdiv2 (k : Nat) : CDiv ((k : Nat) : Int) 2 := by unfold CDiv; omega
@[simp] theorem unK_int (i : Int) : unK (.int i) = some (.inl i) := rfl
@[simp] theorem unK_str (i : Str) : unK (.str i) = some (.inr i) := rfl
@[simp] theorem unK_non : unK .non = none := rfl
@[simp] theorem unR_ttp (ds : List D) : unR (.ttp ds) = allO unK ds := rfl
@[simp] theorem unT_tup (ds : List D) : unT (.tup ds) = allO unK ds := rfl
@[simp] theorem kkO_cons (d : D) (r : List D) : kkO (d :: r) = (unK d).bind fun x => (kkO r).map fun y => x :: y := rfl
@[simp] theorem kkO_nil : kkO [] = some [] := rfl
@[simp] theorem ktO_non (r : List D) : ktO (.non :: r) = allO unT r := rfl
@[simp] theorem keyD_i (i : Int) : keyD (.inl i) = .int i := rfl
@[simp] theorem keyD_s (i : Str) : keyD (.inr i) = .str i := rfl
theorem szb : 1000 < sizeLine := by decide
@[simp] theorem szp0 : (0 < sizeLine) = True := eq_true (by have := szb; omega)
@[simp] theorem szq0 : (0 ≤ sizeLine) = True := eq_true (by have := szb; omega)
@[simp] theorem szp1 : (1 < sizeLine) = True := eq_true (by have := szb; omega)
@[simp] theorem szq1 : (1 ≤ sizeLine) = True := eq_true (by have := szb; omega)
@[simp] theorem szp2 : (2 < sizeLine) = True := eq_true (by have := szb; omega)
@[simp] theorem szq2 : (2 ≤ sizeLine) = True := eq_true (by have := szb; omega)
@[simp] theorem szp3 : (3 < sizeLine) = True := eq_true (by have := szb; omega)
@[simp] theorem szq3 : (3 ≤ sizeLine) = True := eq_true (by have := szb; omega)
@[simp] theorem szp4 : (4 < sizeLine) = True := eq_true (by have := szb; omega)
@[simp] theorem szq4 : (4 ≤ sizeLine) = True := eq_true (by have := szb; omega)
@[simp] theorem szp5 : (5 < sizeLine) = True := eq_true (by have := szb; omega)
@[simp] theorem szq5 : (5 ≤ sizeLine) = True := eq_true (by have := szb; omega)
@[simp] theorem szp6 : (6 < sizeLine) = True := eq_true (by have := szb; omega)
@[simp] theorem szq6 : (6 ≤ sizeLine) = True := eq_true (by have := szb; omega)
@[simp] theorem szp7 : (7 < sizeLine) = True := eq_true (by have := szb; omega)
@[simp] theorem szq7 : (7 ≤ sizeLine) = True := eq_true (by have := szb; omega)
@[simp] theorem szp8 : (8 < sizeLine) = True := eq_true (by have := szb; omega)
@[simp] theorem szq8 : (8 ≤ sizeLine) = True := eq_true (by have := szb; omega)
@[simp] theorem szp9 : (9 < sizeLine) = True := eq_true (by have := szb; omega)
@[simp] theorem szq9 : (9 ≤ sizeLine) = True := eq_true (by have := szb; omega)
@[simp] theorem szp10 : (10 < sizeLine) = True := eq_true (by have := szb; omega)
@[simp] theorem szq10 : (10 ≤ sizeLine) = True := eq_true (by have := szb; omega)
@[simp] theorem szp11 : (11 < sizeLine) = True := eq_true (by have := szb; omega)
@[simp] theorem szq11 : (11 ≤ sizeLine) = True := eq_true (by have := szb; omega)
@[simp] theorem szp12 : (12 < sizeLine) = True := eq_true (by have := szb; omega)
@[simp] theorem szq12 : (12 ≤ sizeLine) = True := eq_true (by have := szb; omega)
@[simp] theorem szp13 : (13 < sizeLine) = True := eq_true (by have := szb; omega)
@[simp] theorem szq13 : (13 ≤ sizeLine) = True := eq_true (by have := szb; omega)
theorem dlen_loc (S : Sto) (k : Nat) : dlenD (.loc k) S = .ofO ((dicOf S (.loc k)).map fun p => D.int p.2.length) S := rfl
theorem dlist_loc (S : Sto) (k : Nat) : dlistD (.loc k) S = .ofO (((dicOf S (.loc k)).bind fun p => keysO p.1).map D.lst) S := rfl
@[simp] theorem e_neg_eq (m : EM) (env : Env) (S : Sto) : e_neg m env S = (m env S).bind negD := rfl
section
variable {α : Type} (g : GM) (t : TM) (im : IM) (g1 : GM) (t1 : TM) (add : AddM α) (vs : List Nat) (env : Env) (so : Option (Nat × List D)) (d : D) (r : List D) (acc : α) (S : Sto)
open Classical in
@[simp] theorem inM_nil : inM g t add env none [] acc S = .ok acc S := by
  unfold inM
  exact R.if_pos (stay_none S [])
open Classical in
@[simp] theorem inM_cons : inM g t add env none (d :: r) acc S = match g d env with
    | none => .bad
    | some env1 => (t env1 S).nox.bind fun k S1 => if k = true then (add acc env1 S1).nox.bind fun acc1 S2 => inM g t add env none r acc1 S2 else inM g t add env none r acc S1 := by
  conv => lhs; unfold inM
  rw [R.if_pos (stay_none S [])] <;> (cases g d env <;> rfl)
open Classical in
theorem outM_nil (h : Stay S ([], so)) : outM g t im g1 t1 add vs env so [] acc S = .ok acc S := by
  unfold outM
  exact R.if_pos h
open Classical in
theorem outM_cons (h : Stay S ([], so)) : outM g t im g1 t1 add vs env so (d :: r) acc S = match g d env with
    | none => .bad
    | some env1 => (t env1 S).nox.bind fun k S1 => if k = true then (im env1 S1).nox.bind fun it S2 => (inM g1 t1 add (wipeE env1 vs) it.2 it.1 acc S2).nox.bind fun acc1 S3 => outM g t im g1 t1 add vs env so r acc1 S3 else outM g t im g1 t1 add vs env so r acc S1 := by
  conv => lhs; unfold outM
  rw [R.if_pos h] <;> (cases g d env <;> rfl)
end
@[simp] theorem s_fldaug_eq (k i : Nat) (g : Int → Int → Int) (mo mv : EM) (env : Env) (S : Sto) : s_fldaug k i g mo mv env S = (mo env S).toS env fun d S1 => (R.ofO (fldD [(k, i)] d S1) S1).toS env fun x S2 => (mv env S2).toS env fun y S3 => match x, y with
  | .int i1, .int j1 => match setF [(k, i)] d (.int (g i1 j1)) S3 with
    | some S4 => .next env S4
    | none => .bad
  | _, _ => .bad := rfl
theorem azs : ("a" : Str).cps.toList = [97] ∧ ("z" : Str).cps.toList = [122] := by decide +kernel
theorem le_low {c : Nat} (h : 97 ≤ c ∧ c ≤ 122) : decide (([c] : List Nat) < [97]) = false ∧ decide (([122] : List Nat) < [c]) = false := by
  constructor
  · rw [decide_eq_false_iff_not]; rw [List.cons_lt_cons_iff]; rintro (q | ⟨_, q⟩); omega; exact absurd q (List.not_lt_nil _)
  · rw [decide_eq_false_iff_not]; rw [List.cons_lt_cons_iff]; rintro (q | ⟨_, q⟩); omega; exact absurd q (List.not_lt_nil _)
theorem lc_low (S : Sto) : ∀ (cs : List Nat) (n : Nat) (z : D), (∀ c ∈ cs, 97 ≤ c ∧ c ≤ 122) → n + cs.length ≤ 100 → lcM (g_name 1) t_yes (e_chain strLeD strLeD (e_k (.str "a")) (e_v 1) (e_k (.str "z"))) [some z, none] none (cs.map fun k => .str ⟨#[k]⟩) (List.replicate n (.bl true)) S = .ok (List.replicate (n + cs.length) (.bl true)) S
  | [], n, z, h, hn => by simp
  | c :: r, n, z, h, hn => by
    have hc := le_low (h c List.mem_cons_self)
    have z1 : (n < sizeLine) = True := eq_true (by have := szb; simp at hn; omega)
    have ih := lc_low S r (n + 1) z (fun d m => h d (List.mem_cons_of_mem _ m)) (by simp at hn ⊢; omega)
    rw [List.replicate_succ'] at ih
    simp only [List.map_cons, lcM_cons]
    simp [azs, hc, z1, ih]
    omega
theorem is_name_ok {z : Str} (h : Tk.IsName z) (S : Sto) : m_is_name [.str z] S = .ok (.bl true) S := by
  obtain ⟨h1, h8, hl⟩ := h
  have z1 : (z.length ≤ sizeLine) = True := eq_true (by have := szb; omega)
  have z2 : ((1 : Int) ≤ (z.length : Int)) = True := eq_true (by omega)
  have z3 : ((z.length : Int) ≤ 8) = True := eq_true (by omega)
  have lc := lc_low S z.cps.toList 0 (.str z) hl (by have : z.cps.toList.length = z.length := by simp [Str.length]
                                                     omega)
  simp only [List.replicate_zero, Nat.zero_add] at lc
  have hb : allO blO (List.replicate z.cps.toList.length (.bl true)) = some (List.replicate z.cps.toList.length true) := by
    have := allO_map (f := blO) (g := D.bl) (fun _ => rfl) (List.replicate z.cps.toList.length true)
    rwa [List.map_replicate] at this
  have hall : (List.replicate z.cps.toList.length true).all id = true := by rw [List.all_eq_true]; intro x hx; rw [List.mem_replicate] at hx; simp [hx.2]
  simp only [m_is_name, runDef, b_is_name]
  simp [isiD, z1, z2, z3, wipeE]
  simp only [Array.length_toList] at lc hb hall
  simp [lc, allD, hb, hall]
end Mm
set_option maxRecDepth 100000
namespace Mm
open PySem L2
/-! statements -/
mutual
def sD : Tk.Stm → D
  | .one w => .tup [.str w.s]
  | .nam b n => .tup [.str (Tk.lockS b), .str n]
  | .ch y n => .tup [.str "choose", .tup (sDs y), .tup (sDs n)]
def sDs : List Tk.Stm → List D
  | [] => []
  | s :: r => sD s :: sDs r
end
theorem sDs_map : ∀ l : List Tk.Stm, sDs l = l.map sD
  | [] => by rw [sDs]; rfl
  | s :: r => by rw [sDs, sDs_map r]; rfl
theorem sDs_len (l : List Tk.Stm) : (sDs l).length = l.length := by rw [sDs_map, List.length_map]
def wd : Tk.Stm → Str
  | .one w => w.s
  | .nam b _ => Tk.lockS b
  | .ch _ _ => "choose"
abbrev plD (p : Tk.Pl) : List D := p.map .int
@[simp] theorem has_form_2 (x n : Str) (h : items.lookup x = some 2) (S : Sto) : m_has_form [.tup [.str x, .str n]] S = .ok (.bl true) S := by
  unfold m_has_form; rw [runDef_eq (by rfl)]; unfold b_has_form
  have hc : (x = "choose") = False := by
    simp only [eq_iff_iff, iff_false]; rintro rfl; simp at h
  simp [isiD, h, hc]
theorem fault_ok (s : Tk.Stm) (d : Nat) (h : Int) (hs : s.ok d h) (pl : List D) (hp : pl.length = 2 * d + 1) (n : Int) (n8 : (n = 8) = False) (S : Sto) : m_fault_of [sD s, .ttp pl, .int n, .int h] S = .ok .non S := by
  cases s with
  | one w =>
    unfold Tk.Stm.ok at hs
    cases w with
    | take =>
      have h3 : (h = 3) = False := eq_false (hs rfl)
      simp [sD, Tk.Wd.s, m_fault_of, runDef, b_fault_of, inF, DV, inV, eqV, n8, h3]
    | _ => simp [sD, Tk.Wd.s, m_fault_of, runDef, b_fault_of, inF, DV, inV, eqV, n8]
  | nam b x =>
    unfold Tk.Stm.ok at hs
    have hn := fun S => is_name_ok hs S
    cases b with
    | true => simp [sD, Tk.lockS, m_fault_of, runDef, b_fault_of, inF, DV, inV, eqV, n8, hn]
    | false => simp [sD, Tk.lockS, m_fault_of, runDef, b_fault_of, inF, DV, inV, eqV, n8, hn]
  | ch y z =>
    unfold Tk.Stm.ok at hs
    have hq : ((pl.length : Int) / 2 = 2) = False := eq_false (by rw [hp]; omega)
    simp [sD, m_fault_of, runDef, b_fault_of, inF, DV, inV, eqV, n8, hq, cdiv2]
theorem held_ok (w : Tk.Wd) (h : Int) (S : Sto) : m_held_after [.str w.s, .int h] S = .ok (.int (w.held h)) S := by
  cases w <;> simp [Tk.Wd.s, Tk.Wd.held, m_held_after, runDef, b_held_after, inF, DV, inV, eqV]
theorem held_nam (b : Bool) (h : Int) (S : Sto) : m_held_after [.str (Tk.lockS b), .int h] S = .ok (.int h) S := by
  cases b <;> simp [Tk.lockS, m_held_after, runDef, b_held_after, inF, DV, inV, eqV]
/-! the found statements -/
def kD (ks : List Tk.Pl) : List D := .non :: ks.map fun p => .tup (plD p)
theorem unK_pl (p : Tk.Pl) : allO unK (plD p) = some (Tk.key p) := by
  induction p with
  | nil => rfl
  | cons i r ih => simp only [plD, List.map_cons, allO] at ih ⊢; rw [ih]; rfl
theorem ktO_pl : ∀ ks : List Tk.Pl, allO unT (ks.map fun p => D.tup (plD p)) = some (ks.map Tk.key)
  | [] => rfl
  | p :: r => by
    rw [List.map_cons, allO, unT_tup, unK_pl, Option.bind_some, ktO_pl r]; rfl
theorem key_inj {p q : Tk.Pl} (h : Tk.key p = Tk.key q) : p = q := by
  unfold Tk.key at h
  induction p generalizing q with
  | nil => cases q with
    | nil => rfl
    | cons _ _ => cases h
  | cons a r ih => cases q with
    | nil => cases h
    | cons b t =>
      rw [List.map_cons, List.map_cons] at h
      injection h with h1 h2
      rw [Sum.inl.inj h1, ih h2]
theorem dputO_new (ks : List Tk.Pl) (vs : List D) (p : Tk.Pl) (z : D) (hp : p ∉ ks) (hl : ks.length ≤ 1000) : dputO (kD ks) vs (.ttp (plD p)) z = some (kD (ks ++ [p]), vs ++ [z]) := by
  have h1 : ((ks.map Tk.key).any fun x => decide (x = Tk.key p)) = false := by
    rw [List.any_eq_false]
    intro x hx e
    obtain ⟨q, hq, rfl⟩ := List.mem_map.mp hx
    exact hp (by rw [← key_inj (of_decide_eq_true e)]; exact hq)
  have h2 : (ks.map Tk.key).length < sizeLine := by rw [List.length_map]; have := szb; omega
  have h3 : ((ks ++ [p]).map Tk.key).map tupD = (ks ++ [p]).map fun q => .tup (plD q) := by
    rw [List.map_map]
    refine List.map_congr_left fun q _ => ?_
    show tupD (Tk.key q) = _
    unfold tupD Tk.key
    rw [List.map_map]; rfl
  unfold dputO kD
  rw [show kkO (D.non :: ks.map fun p => D.tup (plD p)) = none from rfl]
  dsimp only
  rw [ktO_non, ktO_pl]
  dsimp only
  rw [unR_ttp, unK_pl, Option.bind_some, if_pos h2]
  unfold putDs
  rw [h1]
  simp only [Bool.false_eq_true, if_false]
  rw [← h3]
  simp only [List.map_append, List.map_cons, List.map_nil]
end Mm
set_option maxRecDepth 100000
namespace Mm
open PySem L2
mutual
theorem walk_pre : ∀ (s : Tk.Stm) (p : Tk.Pl) (x : Tk.Pl × Tk.Stm), x ∈ s.walk p → ∃ q, x.1 = p ++ q
  | .one w, p, x, h => by rw [Tk.Stm.walk, List.mem_singleton] at h; rw [h]; exact ⟨[], (List.append_nil _).symm⟩
  | .nam b n, p, x, h => by rw [Tk.Stm.walk, List.mem_singleton] at h; rw [h]; exact ⟨[], (List.append_nil _).symm⟩
  | .ch y n, p, x, h => by
    rw [Tk.Stm.walk] at h
    rcases List.mem_cons.mp h with h | h
    · rw [h]; exact ⟨[], (List.append_nil _).symm⟩
    · rcases List.mem_append.mp h with h | h
      · obtain ⟨j, q, _, e⟩ := walkAll_pre y _ 0 x h
        exact ⟨0 :: j :: q, by rw [e]; simp⟩
      · obtain ⟨j, q, _, e⟩ := walkAll_pre n _ 0 x h
        exact ⟨1 :: j :: q, by rw [e]; simp⟩
theorem walkAll_pre : ∀ (B : List Tk.Stm) (p : Tk.Pl) (i : Nat) (x : Tk.Pl × Tk.Stm), x ∈ Tk.walkAll B p i → ∃ (j : Nat) (q : Tk.Pl), i ≤ j ∧ x.1 = p ++ (j : Int) :: q
  | [], p, i, x, h => by rw [Tk.walkAll] at h; cases h
  | s :: r, p, i, x, h => by
    rw [Tk.walkAll] at h
    rcases List.mem_append.mp h with h | h
    · obtain ⟨q, e⟩ := walk_pre s _ x h
      exact ⟨i, q, Nat.le_refl _, by rw [e]; simp⟩
    · obtain ⟨j, q, l, e⟩ := walkAll_pre r p (i + 1) x h
      exact ⟨j, q, by omega, e⟩
end
abbrev plcs (l : List (Tk.Pl × Tk.Stm)) : List Tk.Pl := l.map (·.1)
abbrev stms (l : List (Tk.Pl × Tk.Stm)) : List D := l.map fun x => sD x.2
theorem pl_snoc (p : Tk.Pl) (i : Int) : plD (p ++ [i]) = plD p ++ [.int i] := by simp [plD]
theorem set_self {T : Sto} {f : Nat} {a : SO} (h : T[f]? = some a) : T.set f a = T := by
  obtain ⟨h1, rfl⟩ := List.getElem?_eq_some_iff.mp h
  exact List.set_getElem_self h1
theorem get_ne {T : Sto} {c f : Nat} {a o : SO} (n : f ≠ c) (h : T[c]? = some o) : (T.set f a)[c]? = some o := by rw [List.getElem?_set_ne n]; exact h
theorem get_eq {T : Sto} {f : Nat} {a o : SO} (h : T[f]? = some o) : (T.set f a)[f]? = some a := List.getElem?_set_self (Rep.lt h)
theorem dic_loc {T : Sto} {f : Nat} {ks ds : List D} (h : T[f]? = some (.dic ks ds)) : dicOf T (.loc f) = some (ks, ds) := by rw [dicOf_loc, h]
theorem fld_at {T : Sto} {k c i : Nat} {ds : List D} {x : D} (h : T[c]? = some (.ins k ds)) (hi : ds[i]? = some x) : fldD [(k, i)] (.loc c) T = some x := by
  unfold fldD
  rw [insOf_loc h]
  simp [List.lookup, hi]
abbrev Tst (T : Sto) (c f : Nat) (ks : List Tk.Pl) (vs : List D) : Prop := T[c]? = some (.ins 2 [.loc f]) ∧ T[f]? = some (.dic (kD ks) vs)
theorem Tst.step {T : Sto} {c f : Nat} {ks : List Tk.Pl} {vs : List D} (h : Tst T c f ks vs) (ks' : List Tk.Pl) (vs' : List D) : Tst (T.set f (.dic (kD ks') vs')) c f ks' vs' := by
  refine ⟨get_ne (fun e => ?_) h.1, get_eq h.2⟩
  have h1 := h.1
  rw [← e, h.2] at h1
  exact nomatch h1
theorem isI_at {T : Sto} {k c : Nat} {ds : List D} (h : T[c]? = some (.ins k ds)) : isI k (.loc c) T := isI_loc h
/-- the body of the loop over a branch -/
noncomputable def cbB (m : FM) : SM := s_set 3 (e_mth tr0 2 m (e_v 0) (a_cons (e_v 5) (a_cons (e_op addT (e_v 2) (e_ttp (a_cons (e_v 4) a_nil))) (a_cons (e_v 3) a_nil))))
mutual
theorem chk_stm (c f : Nat) : ∀ (s : Tk.Stm) (d : Nat) (h : Int) (n : Nat) (p : Tk.Pl) (ks : List Tk.Pl) (vs : List D) (T : Sto), s.ok d h → p.length = 2 * d + 1 → d ≤ 2 → 2 * (2 - d) + 1 ≤ n → vs.length = ks.length → ks.length + s.cnt ≤ 8 → (∀ q, p ++ q ∉ ks) → Tst T c f ks vs →
    (mCC n).2 [.loc c, sD s, .ttp (plD p), .int h] T = .ok (.int (s.held h)) (T.set f (.dic (kD (ks ++ plcs (s.walk p))) (vs ++ stms (s.walk p))))
  | s, d, h, 0, p, ks, vs, T, hs, hp, hd, hn, hl, hc, hf, t => by omega
  | .one w, d, h, n + 1, p, ks, vs, T, hs, hp, hd, hn, hl, hc, hf, t => by
    have n8 : ((vs.length : Int) = 8) = False := eq_false (by rw [Tk.Stm.cnt] at hc; omega)
    have hF := fun S => fault_ok (.one w) d h hs (plD p) (by simp [hp]) vs.length n8 S
    have hP := dputO_new ks vs p (sD (.one w)) (by have := hf []; simpa using this) (by rw [Tk.Stm.cnt] at hc; omega)
    have hch : (w.s = "choose") = False := by cases w <;> simp [Tk.Wd.s]
    simp only [sD, plD] at hF hP
    simp [mCC_s, m_Check_check_statement', runDef, b_Check_check_statement, sD, fld_at t.1, dlen_loc, dic_loc t.2, hF, t.2, hP, hch, held_ok, Tk.Stm.walk, Tk.Stm.held]
  | .nam b x, d, h, n + 1, p, ks, vs, T, hs, hp, hd, hn, hl, hc, hf, t => by
    have n8 : ((vs.length : Int) = 8) = False := eq_false (by rw [Tk.Stm.cnt] at hc; omega)
    have hF := fun S => fault_ok (.nam b x) d h hs (plD p) (by simp [hp]) vs.length n8 S
    have hP := dputO_new ks vs p (sD (.nam b x)) (by have := hf []; simpa using this) (by rw [Tk.Stm.cnt] at hc; omega)
    have hch : (Tk.lockS b = "choose") = False := by cases b <;> simp [Tk.lockS]
    simp only [sD, plD] at hF hP
    simp [mCC_s, m_Check_check_statement', runDef, b_Check_check_statement, sD, fld_at t.1, dlen_loc, dic_loc t.2, hF, t.2, hP, hch, held_nam, Tk.Stm.walk, Tk.Stm.held]
  | .ch y z, d, h, n + 1, p, ks, vs, T, hs, hp, hd, hn, hl, hc, hf, t => by
    have n8 : ((vs.length : Int) = 8) = False := eq_false (by rw [Tk.Stm.cnt] at hc; omega)
    have hF := fun S => fault_ok (.ch y z) d h hs (plD p) (by simp [hp]) vs.length n8 S
    have hP := dputO_new ks vs p (sD (.ch y z)) (by have := hf []; simpa using this) (by rw [Tk.Stm.cnt] at hc; omega)
    rw [Tk.Stm.ok] at hs
    rw [Tk.Stm.cnt] at hc
    simp only [sD, plD] at hF hP
    have t1 := t.step (ks ++ [p]) (vs ++ [sD (.ch y z)])
    have e1 := chk_all c f y (d + 1) h n (p ++ [0]) (ks ++ [p]) (vs ++ [sD (.ch y z)]) _ hs.2.1 (by simp [hp]; omega) (by omega) (by omega) (by simp [hl]) (by simp; omega) (fun j q _ hm => by
      rcases List.mem_append.mp hm with hm | hm
      · exact hf (0 :: j :: q) (by simpa using hm)
      · rw [List.mem_singleton] at hm
        have := congrArg List.length hm
        simp at this) t1
    have t2 := t1.step (ks ++ [p] ++ plcs (Tk.walkAll y (p ++ [0]) 0)) (vs ++ [sD (.ch y z)] ++ stms (Tk.walkAll y (p ++ [0]) 0))
    have e2 := chk_all c f z (d + 1) h n (p ++ [1]) (ks ++ [p] ++ plcs (Tk.walkAll y (p ++ [0]) 0)) (vs ++ [sD (.ch y z)] ++ stms (Tk.walkAll y (p ++ [0]) 0)) _ hs.2.2 (by simp [hp]; omega) (by omega) (by omega) (by simp [hl]) (by simp [Tk.walkAll_len]; omega) (fun j q _ hm => by
      rcases List.mem_append.mp hm with hm | hm
      · rcases List.mem_append.mp hm with hm | hm
        · exact hf (1 :: j :: q) (by simpa using hm)
        · rw [List.mem_singleton] at hm
          have := congrArg List.length hm
          simp at this
      · obtain ⟨x, hx, ex⟩ := List.mem_map.mp hm
        obtain ⟨j2, q2, _, e⟩ := walkAll_pre y _ 0 x hx
        rw [e] at ex
        simp at ex) t2
    have zl : (List.length p + 1 ≤ sizeLine) = True := eq_true (by have := szb; omega)
    rw [pl_snoc] at e1 e2
    rw [List.set_set] at e1 e2
    rw [List.set_set] at e2
    simp only [sD] at e1 e2 t1 t2
    rw [List.set_set] at t2
    have i1 := isI_at t1.1
    have i2 := isI_at t2.1
    simp only [List.append_assoc, List.cons_append, List.nil_append] at e1 e2 i1 i2
    simp [mCC_s, m_Check_check_statement', runDef, b_Check_check_statement, sD, fld_at t.1, dlen_loc, dic_loc t.2, hF, t.2, hP, zl, e1, e2, i1, i2, Tk.Stm.walk, Tk.Stm.held]
    split <;> omega


theorem chk_all (c f : Nat) : ∀ (B : List Tk.Stm) (d : Nat) (h : Int) (n : Nat) (p : Tk.Pl) (ks : List Tk.Pl) (vs : List D) (T : Sto), Tk.okAll d B h → p.length = 2 * d → d ≤ 2 → 2 * (2 - d) + 2 ≤ n → vs.length = ks.length → ks.length + Tk.cntAll B ≤ 8 → (∀ (j : Nat) q, 0 ≤ j → p ++ (j : Int) :: q ∉ ks) → Tst T c f ks vs →
    (mCC n).1 [.loc c, .tup (sDs B), .ttp (plD p), .int h] T = .ok (.int (Tk.heldAll B h)) (T.set f (.dic (kD (ks ++ plcs (Tk.walkAll B p 0))) (vs ++ stms (Tk.walkAll B p 0))))
  | B, d, h, 0, p, ks, vs, T, hs, hp, hd, hn, hl, hc, hf, t => by omega
  | B, d, h, n + 1, p, ks, vs, T, hs, hp, hd, hn, hl, hc, hf, t => by
    obtain ⟨x, y, e⟩ := chk_loop c f B d h n p 0 ks vs T (.tup (sDs B)) none none hs hp hd (by omega) hl hc hf t
    unfold cbB at e
    simp [mCC_s, m_Check_check_branch', runDef, b_Check_check_branch, e]
theorem chk_loop (c f : Nat) : ∀ (B : List Tk.Stm) (d : Nat) (h : Int) (n : Nat) (p : Tk.Pl) (i : Nat) (ks : List Tk.Pl) (vs : List D) (T : Sto) (z : D) (x y : Option D), Tk.okAll d B h → p.length = 2 * d → d ≤ 2 → 2 * (2 - d) + 1 ≤ n → vs.length = ks.length → ks.length + Tk.cntAll B ≤ 8 → (∀ (j : Nat) q, i ≤ j → p ++ (j : Int) :: q ∉ ks) → Tst T c f ks vs →
    ∃ x' y', loopS (g_tup (g_cons (g_name 4) (g_cons (g_name 5) g_nil))) (cbB (mCC n).2) none (numD i (sDs B)) [some (.loc c), some z, some (.ttp (plD p)), some (.int h), x, y] T = .next [some (.loc c), some z, some (.ttp (plD p)), some (.int (Tk.heldAll B h)), x', y'] (T.set f (.dic (kD (ks ++ plcs (Tk.walkAll B p i))) (vs ++ stms (Tk.walkAll B p i))))
  | [], d, h, n, p, i, ks, vs, T, z, x, y, hs, hp, hd, hn, hl, hc, hf, t => by
    refine ⟨x, y, ?_⟩
    simp [sDs, Tk.walkAll, Tk.heldAll, set_self t.2]
  | s :: r, d, h, n, p, i, ks, vs, T, z, x, y, hs, hp, hd, hn, hl, hc, hf, t => by
    rw [Tk.okAll] at hs
    rw [Tk.cntAll] at hc
    have e1 := chk_stm c f s d h n (p ++ [(i : Int)]) ks vs T hs.1 (by simp [hp]) hd hn hl (by omega) (fun q hm => hf i q (Nat.le_refl _) (by simpa using hm)) t
    have t1 := t.step (ks ++ plcs (s.walk (p ++ [(i : Int)]))) (vs ++ stms (s.walk (p ++ [(i : Int)])))
    obtain ⟨x', y', e2⟩ := chk_loop c f r d (s.held h) n p (i + 1) (ks ++ plcs (s.walk (p ++ [(i : Int)]))) (vs ++ stms (s.walk (p ++ [(i : Int)]))) _ z (some (.int i)) (some (sD s)) hs.2 hp hd hn (by simp [hl]) (by simp [Tk.walk_len]; omega) (fun j q hj hm => by
      rcases List.mem_append.mp hm with hm | hm
      · exact hf j q (by omega) hm
      · obtain ⟨x, hx, ex⟩ := List.mem_map.mp hm
        obtain ⟨q2, e⟩ := walk_pre s _ x hx
        rw [e] at ex
        simp at ex
        omega) t1
    refine ⟨x', y', ?_⟩
    have zl : (List.length p + 1 ≤ sizeLine) = True := eq_true (by have := szb; omega)
    rw [pl_snoc] at e1
    rw [List.set_set] at e2
    unfold cbB at e2
    simp only [sDs, numD_cons, loopS_cons]
    simp [cbB, isI_at t.1, zl, e1, e2, Tk.walkAll, Tk.heldAll]
end
end Mm
set_option maxRecDepth 100000
namespace Mm
open PySem L2
/-! what stands nowhere in the store -/
mutual
def D.dp : D → Nat
  | .tup ds => dps ds + 1
  | .ttp ds => dps ds + 1
  | .lst ds => dps ds + 1
  | .dic _ ds => dps ds + 1
  | .obj _ ds => dps ds + 1
  | .xn _ ds => dps ds + 1
  | _ => 0
def dps : List D → Nat
  | [] => 0
  | d :: r => max d.dp (dps r)
end
mutual
theorem rsv_pure {n : Nat} {S : Sto} : ∀ (f : Nat) (d : D), d.lo 0 = true → d.dp < f → rsv n S f d = some d
  | 0, d, h, hf => absurd hf (Nat.not_lt_zero _)
  | f + 1, .tup ds, h, hf => by unfold D.lo at h; unfold D.dp at hf; unfold rsv; rw [rsvs_pure f ds h (by omega)]; rfl
  | f + 1, .ttp ds, h, hf => by unfold D.lo at h; unfold D.dp at hf; unfold rsv; rw [rsvs_pure f ds h (by omega)]; rfl
  | f + 1, .lst ds, h, hf => by unfold D.lo at h; unfold D.dp at hf; unfold rsv; rw [rsvs_pure f ds h (by omega)]; rfl
  | f + 1, .dic ks ds, h, hf => by unfold D.lo at h; unfold D.dp at hf; unfold rsv; rw [rsvs_pure f ds h (by omega)]; rfl
  | f + 1, .obj k ds, h, hf => by unfold D.lo at h; unfold D.dp at hf; unfold rsv; rw [rsvs_pure f ds h (by omega)]; rfl
  | f + 1, .xn k ds, h, hf => by unfold D.lo at h; unfold D.dp at hf; unfold rsv; rw [rsvs_pure f ds h (by omega)]; rfl
  | f + 1, .loc k, h, hf => by unfold D.lo at h; exact absurd (of_decide_eq_true h) (Nat.not_lt_zero _)
  | f + 1, .non, h, hf => by unfold rsv; rfl
  | f + 1, .bl b, h, hf => by unfold rsv; rfl
  | f + 1, .int i, h, hf => by unfold rsv; rfl
  | f + 1, .str x, h, hf => by unfold rsv; rfl
  | f + 1, .fz ns, h, hf => by unfold rsv; rfl
  | f + 1, .oth u, h, hf => by unfold rsv; rfl
theorem rsvs_pure {n : Nat} {S : Sto} : ∀ (f : Nat) (ds : List D), los 0 ds = true → dps ds < f ∨ ds = [] ∨ dps ds < f → rsvs n S f ds = some ds
  | f, [], h, hf => by unfold rsvs; rfl
  | f, d :: r, h, hf => by
    unfold los at h; unfold rsvs
    rw [Bool.and_eq_true] at h
    have hf' : dps (d :: r) < f := by rcases hf with hf | hf | hf <;> simp_all
    unfold dps at hf'
    rw [rsv_pure f d h.1 (by omega), rsvs_pure f r h.2 (by omega)]; rfl
end
mutual
theorem lo_mono {n m : Nat} (hm : n ≤ m) : ∀ d : D, d.lo n = true → d.lo m = true
  | .tup ds, h => by unfold D.lo at h ⊢; exact los_mono hm ds h
  | .ttp ds, h => by unfold D.lo at h ⊢; exact los_mono hm ds h
  | .lst ds, h => by unfold D.lo at h ⊢; exact los_mono hm ds h
  | .dic ks ds, h => by unfold D.lo at h ⊢; exact los_mono hm ds h
  | .obj k ds, h => by unfold D.lo at h ⊢; exact los_mono hm ds h
  | .xn k ds, h => by unfold D.lo at h ⊢; exact los_mono hm ds h
  | .loc k, h => by unfold D.lo at h ⊢; exact decide_eq_true (Nat.lt_of_lt_of_le (of_decide_eq_true h) hm)
  | .non, h => rfl
  | .bl b, h => rfl
  | .int i, h => rfl
  | .str x, h => rfl
  | .fz ns, h => rfl
  | .oth u, h => rfl
theorem los_mono {n m : Nat} (hm : n ≤ m) : ∀ ds : List D, los n ds = true → los m ds = true
  | [], h => rfl
  | d :: r, h => by
    unfold los at h ⊢
    rw [Bool.and_eq_true] at h
    rw [lo_mono hm d h.1, los_mono hm r h.2]; rfl
end
theorem los_all : ∀ {ds : List D}, (∀ d ∈ ds, d.lo 0 = true) → los 0 ds = true
  | [], h => rfl
  | d :: r, h => by unfold los; rw [h d List.mem_cons_self, los_all fun x hx => h x (List.mem_cons_of_mem _ hx)]; rfl
theorem dps_all {k : Nat} : ∀ {ds : List D}, (∀ d ∈ ds, d.dp ≤ k) → dps ds ≤ k
  | [], h => by unfold dps; exact Nat.zero_le _
  | d :: r, h => by
    unfold dps
    have h1 := h d List.mem_cons_self
    have h2 := dps_all fun x hx => h x (List.mem_cons_of_mem _ hx)
    omega
/-! statements, places -/
mutual
theorem sD_lo : ∀ s : Tk.Stm, (sD s).lo 0 = true
  | .one w => rfl
  | .nam b n => rfl
  | .ch y n => by
    unfold sD; simp only [D.lo, los, sDs_lo y, sDs_lo n, Bool.and_self]
theorem sDs_lo : ∀ B : List Tk.Stm, los 0 (sDs B) = true
  | [] => rfl
  | s :: r => by unfold sDs los; rw [sD_lo s, sDs_lo r]; rfl
end
mutual
theorem sD_dp : ∀ (s : Tk.Stm) (d : Nat) (h : Int), s.ok d h → d ≤ 2 → (sD s).dp ≤ 2 * (2 - d) + 1
  | .one w, d, h, hs, hd => by unfold sD; simp only [D.dp, dps]; omega
  | .nam b n, d, h, hs, hd => by unfold sD; simp only [D.dp, dps]; omega
  | .ch y n, d, h, hs, hd => by
    unfold Tk.Stm.ok at hs
    have h1 := sDs_dp y (d + 1) h hs.2.1 (by omega)
    have h2 := sDs_dp n (d + 1) h hs.2.2 (by omega)
    unfold sD; simp only [D.dp, dps]; omega
theorem sDs_dp : ∀ (B : List Tk.Stm) (d : Nat) (h : Int), Tk.okAll d B h → d ≤ 2 → dps (sDs B) ≤ 2 * (2 - d) + 1
  | [], d, h, hs, hd => by unfold sDs dps; omega
  | s :: r, d, h, hs, hd => by
    unfold Tk.okAll at hs
    have h1 := sD_dp s d h hs.1 hd
    have h2 := sDs_dp r d _ hs.2 hd
    unfold sDs dps; omega
end
theorem pl_lo : ∀ p : Tk.Pl, los 0 (plD p) = true
  | [] => rfl
  | i :: r => by show (true && los 0 (plD r)) = true; rw [pl_lo r]; rfl
theorem pl_dp : ∀ p : Tk.Pl, dps (plD p) = 0
  | [] => rfl
  | i :: r => by show max 0 (dps (plD r)) = 0; rw [pl_dp r]; rfl
mutual
theorem walk_dp : ∀ (s : Tk.Stm) (d : Nat) (h : Int) (p : Tk.Pl), s.ok d h → d ≤ 2 → ∀ x ∈ s.walk p, (sD x.2).dp ≤ 5
  | .one w, d, h, p, hs, hd, x, hx => by rw [Tk.Stm.walk, List.mem_singleton] at hx; rw [hx]; exact Nat.le_trans (sD_dp _ d h hs hd) (by omega)
  | .nam b n, d, h, p, hs, hd, x, hx => by rw [Tk.Stm.walk, List.mem_singleton] at hx; rw [hx]; exact Nat.le_trans (sD_dp _ d h hs hd) (by omega)
  | .ch y n, d, h, p, hs, hd, x, hx => by
    rw [Tk.Stm.walk] at hx
    rcases List.mem_cons.mp hx with e | hx
    · rw [e]; exact Nat.le_trans (sD_dp _ d h hs hd) (by omega)
    · unfold Tk.Stm.ok at hs
      rcases List.mem_append.mp hx with hx | hx
      · exact walkAll_dp y (d + 1) h _ 0 hs.2.1 (by omega) x hx
      · exact walkAll_dp n (d + 1) h _ 0 hs.2.2 (by omega) x hx
theorem walkAll_dp : ∀ (B : List Tk.Stm) (d : Nat) (h : Int) (p : Tk.Pl) (i : Nat), Tk.okAll d B h → d ≤ 2 → ∀ x ∈ Tk.walkAll B p i, (sD x.2).dp ≤ 5
  | [], d, h, p, i, hs, hd, x, hx => by rw [Tk.walkAll] at hx; cases hx
  | s :: r, d, h, p, i, hs, hd, x, hx => by
    rw [Tk.walkAll] at hx
    unfold Tk.okAll at hs
    rcases List.mem_append.mp hx with hx | hx
    · exact walk_dp s d h _ hs.1 hd x hx
    · exact walkAll_dp r d _ p (i + 1) hs.2 hd x hx
end
/-- a good script -/
structure GoodS (B : List Tk.Stm) : Prop where
  ok : Tk.okAll 0 B 0
  cnt : Tk.cntAll B ≤ 8
  ne : B ≠ []
abbrev wk (B : List Tk.Stm) := Tk.walkAll B [] 0
def scrD (B : List Tk.Stm) : D := .obj 1 [.tup (sDs B), .dic (kD (plcs (wk B))) (stms (wk B)), .tup ((plcs (wk B)).map fun p => .tup (plD p))]
theorem stms_lo (l : List (Tk.Pl × Tk.Stm)) : los 0 (stms l) = true := los_all fun d hd => by
  obtain ⟨x, _, rfl⟩ := List.mem_map.mp hd
  exact sD_lo _
theorem plcs_lo (l : List Tk.Pl) : los 0 (l.map fun p => D.tup (plD p)) = true := los_all fun d hd => by
  obtain ⟨x, _, rfl⟩ := List.mem_map.mp hd
  unfold D.lo; exact pl_lo _
theorem plcs_dp (l : List Tk.Pl) : dps (l.map fun p => D.tup (plD p)) ≤ 1 := dps_all fun d hd => by
  obtain ⟨x, _, rfl⟩ := List.mem_map.mp hd
  unfold D.dp; rw [pl_dp]; exact Nat.le_refl _
theorem stms_dp {B : List Tk.Stm} (g : GoodS B) : dps (stms (wk B)) ≤ 5 := dps_all fun d hd => by
  obtain ⟨x, hx, rfl⟩ := List.mem_map.mp hd
  exact walkAll_dp B 0 0 [] 0 g.ok (by decide) x hx
theorem keysO_kD (ks : List Tk.Pl) : keysO (kD ks) = some (ks.map fun p => .tup (plD p)) := by
  unfold keysO kD
  rw [show kkO (D.non :: ks.map fun p => D.tup (plD p)) = none from rfl]
  simp only [ktO_non, ktO_pl]
  rw [Option.map_some, List.map_map]
  congr 1
  refine List.map_congr_left fun q _ => ?_
  show tupD (Tk.key q) = _
  unfold tupD Tk.key
  rw [List.map_map]; rfl
theorem script_mk {B : List Tk.Stm} (g : GoodS B) (S : Sto) : trunc S (mkD 1 m_Script___init__ [.tup (sDs B)] S) = .ok (scrD B) S := by
  have hc := chk_all (S.length + 1) (S.length + 2) B 0 0 6 [] [] [] (S ++ [.ins 1 [], .ins 2 [.loc (S.length + 2)], .dic [.non] []]) g.ok rfl (by decide) (by decide) rfl (by simpa using g.cnt) (fun _ _ _ h => by cases h) ⟨by simp, by simp [kD]⟩
  have hne : (sDs B = []) = False := eq_false fun e => g.ne (by have := congrArg List.length e; rw [sDs_len] at this; exact List.length_eq_zero_iff.mp this)
  have hl : ((plcs (wk B)).length ≤ sizeLine) = True := eq_true (by have := szb; have := g.cnt; simp [Tk.walkAll_len]; omega)
  have r1 := fun S' => rsvs_pure (n := S.length) (S := S') 10 (sDs B) (sDs_lo B) (.inl (by have := sDs_dp B 0 0 g.ok (by decide); omega))
  have r2 := fun S' => rsvs_pure (n := S.length) (S := S') 10 (stms (wk B)) (stms_lo _) (.inl (by have := stms_dp g; omega))
  have r3 := fun S' => rsvs_pure (n := S.length) (S := S') 10 ((plcs (wk B)).map fun p => D.tup (plD p)) (plcs_lo _) (.inl (by have := plcs_dp (plcs (wk B)); omega))
  have hk := keysO_kD (plcs (wk B))
  simp [kD] at hc hk hl
  simp at r3
  simp [mkD, m_Script___init__, runDef, b_Script___init__, isiD, m_Check___init__, b_Check___init__, setF, Nat.add_assoc, fldD, List.lookup, hne, m_Check_check_branch, hc, dlist_loc, hk, hl, rsvD, rsv, rsvs, D.lo, los, r1, r2, r3, scrD, kD]
end Mm
set_option maxRecDepth 100000
namespace Mm
open PySem L2
open Classical in
@[simp] theorem isI_scr (B : List Tk.Stm) (S : Sto) : isI 1 (scrD B) S := ⟨_, rfl⟩
variable (B : List Tk.Stm) (S : Sto)
@[simp] theorem scr_stm : fldD [(1, 0)] (scrD B) S = some (.tup (sDs B)) := rfl
@[simp] theorem scr_found : fldD [(1, 1)] (scrD B) S = some (.dic (kD (plcs (wk B))) (stms (wk B))) := rfl
@[simp] theorem scr_found2 : fldD [(1, 1), (2, 0)] (scrD B) S = some (.dic (kD (plcs (wk B))) (stms (wk B))) := rfl
@[simp] theorem scr_places : fldD [(1, 2)] (scrD B) S = some (.tup ((plcs (wk B)).map fun p => .tup (plD p))) := rfl
theorem len_eq : m_Script___len__ [scrD B] S = .ok (.int (Tk.cntAll B)) S := by
  simp [m_Script___len__, runDef, b_Script___len__, Tk.walkAll_len]
end Mm
set_option maxRecDepth 100000
namespace Mm
open PySem L2
abbrev sL (l : List Str) : List D := l.map .str
abbrev iL (l : List Int) : List D := l.map .int
/-! kinds, systems -/
structure KA where
  nm : Str
  sc : List Tk.Stm
  bl : Int
  mn : Nat
structure YA where
  ks : List KA
  ah : Int
  wi : Option Int
  cr : Int
def kinD (k : KA) : D := .obj 4 [.str k.nm, scrD k.sc, .int k.bl, .int k.mn]
def wiD : Option Int → D
  | none => .non
  | some w => .int w
@[simp] theorem wiD_none : wiD none = .non := rfl
@[simp] theorem wiD_some (w : Int) : wiD (some w) = .int w := rfl
/-- the kinds of the sessions -/
def YA.ses (y : YA) : List KA := y.ks.flatMap fun k => List.replicate k.mn k
def sysD (y : YA) : D := .obj 5 [.tup (y.ks.map kinD), .int y.ah, wiD y.wi, .int y.cr, .tup (sL (y.ses.map (·.nm)))]
structure GoodK (k : KA) : Prop where
  nm : Tk.IsName k.nm
  sc : GoodS k.sc
  bl : 1 ≤ k.bl ∧ k.bl ≤ 3
  mn : 1 ≤ k.mn ∧ k.mn ≤ 3
structure GoodY (y : YA) : Prop where
  ks : ∀ k ∈ y.ks, GoodK k
  nd : (y.ks.map (·.nm)).Nodup
  ne : y.ks ≠ []
  few : y.ses.length ≤ 3
  size : y.ses.length = 3 → ∀ k ∈ y.ks, Tk.cntAll k.sc ≤ 4
  ah : 0 ≤ y.ah ∧ y.ah ≤ 4
  wi : ∀ w, y.wi = some w → w ≤ 8 ∧ ∀ k ∈ y.ks, k.bl ≤ w
  cr : 0 ≤ y.cr ∧ y.cr ≤ 2
variable (y : YA) (S : Sto)
@[simp] theorem k_name (k : KA) : fldD [(4, 0)] (kinD k) S = some (.str k.nm) := rfl
@[simp] theorem k_script (k : KA) : fldD [(4, 1)] (kinD k) S = some (scrD k.sc) := rfl
@[simp] theorem k_block (k : KA) : fldD [(4, 2)] (kinD k) S = some (.int k.bl) := rfl
@[simp] theorem k_many (k : KA) : fldD [(4, 3)] (kinD k) S = some (.int k.mn) := rfl
@[simp] theorem y_kinds : fldD [(5, 0)] (sysD y) S = some (.tup (y.ks.map kinD)) := rfl
@[simp] theorem y_ahead : fldD [(5, 1)] (sysD y) S = some (.int y.ah) := rfl
@[simp] theorem y_window : fldD [(5, 2)] (sysD y) S = some (wiD y.wi) := rfl
@[simp] theorem y_crashes : fldD [(0, 5), (3, 3), (5, 3)] (sysD y) S = some (.int y.cr) := rfl
@[simp] theorem y_crashes2 : fldD [(3, 3), (5, 3)] (sysD y) S = some (.int y.cr) := rfl
@[simp] theorem y_sessions : fldD [(5, 4)] (sysD y) S = some (.tup (sL (y.ses.map (·.nm)))) := rfl
@[simp] theorem y_sessions2 : fldD [(3, 4), (5, 4)] (sysD y) S = some (.tup (sL (y.ses.map (·.nm)))) := rfl
open Classical in
@[simp] theorem isI_sys : isI 5 (sysD y) S := ⟨_, rfl⟩
theorem atI_nat {α : Type} (l : List α) (i : Nat) : atI l (i : Int) = l[i]? := by
  unfold atI ixN
  by_cases h : i < l.length
  · simp [h]
  · simp [h]
theorem rsv_wi (n : Nat) (S : Sto) (f : Nat) (w : Option Int) : rsv n S (f + 1) (wiD w) = some (wiD w) := by
  cases w <;> (unfold wiD rsv; rfl)
@[simp] theorem y_crashes3 : fldD [(5, 3)] (sysD y) S = some (.int y.cr) := rfl
end Mm
set_option maxRecDepth 100000
namespace Mm
open PySem L2
theorem scr_lo (B : List Tk.Stm) : (scrD B).lo 0 = true := by
  unfold scrD; simp only [D.lo, los, sDs_lo, stms_lo, plcs_lo, Bool.and_self]
theorem scr_dp {B : List Tk.Stm} (g : GoodS B) : (scrD B).dp ≤ 7 := by
  have := sDs_dp B 0 0 g.ok (by decide)
  have := stms_dp g
  have := plcs_dp (plcs (wk B))
  unfold scrD; simp only [D.dp, dps]; omega
theorem kin_lo (k : KA) : (kinD k).lo 0 = true := by
  unfold kinD; simp only [D.lo, los, scr_lo, Bool.and_self]
theorem kin_dp {k : KA} (g : GoodK k) : (kinD k).dp ≤ 8 := by
  have := scr_dp g.sc
  unfold kinD; simp only [D.dp, dps]; omega
theorem script_of_eq {B : List Tk.Stm} (g : GoodS B) (S : Sto) : m_script_of [.tup (sDs B)] S = .ok (scrD B) S := by
  have := script_mk g
  simp [m_script_of, runDef, b_script_of, isiD, kt_Script, this]
theorem kind_mk {k : KA} (g : GoodK k) (S : Sto) : trunc S (mkDk 4 m_Kind___init__ (fun x => gKind x [.str k.nm, .tup (sDs k.sc)] [.int k.bl, .int k.mn]) S) = .ok (kinD k) S := by
  have b1 := (And.intro g.bl g.mn)
  have n0 : (1 : Int) ≤ k.mn := by have := g.mn; omega
  have n3 : (k.mn : Int) ≤ 3 := by have := g.mn; omega
  have nm := fun S => is_name_ok g.nm S
  have so := fun S => script_of_eq g.sc S
  have r1 := fun S' => rsv_pure (n := S.length) (S := S') 11 (scrD k.sc) (scr_lo _) (by have := scr_dp g.sc; omega)
  simp [mkDk, gKind, m_Kind___init__, runDef, b_Kind___init__, nm, so, g.bl.1, g.bl.2, n0, n3, setF, List.lookup, rsvD, rsv, rsvs, D.lo, los, r1, kinD]
open Classical in
theorem len_own (B : List Tk.Stm) (S : Sto) (h : Tk.cntAll B ≤ 8) : lenOwnD 1 m_Script___len__ (scrD B) S = .ok (.int (Tk.cntAll B)) S := by
  have e := len_eq B S
  have hP : (0 ≤ (Tk.cntAll B : Int) ∧ (Tk.cntAll B : Int) < 2 ^ 63) := ⟨Int.natCast_nonneg _, Int.lt_of_le_of_lt (Int.ofNat_le.mpr h) (by decide +kernel)⟩
  rw [lenOwnD_eq, R.if_pos (isI_scr B S), e, R.nox_ok, R.bind_ok]
  dsimp only
  rw [R.if_pos hP]
@[simp] theorem kin_ty (k : KA) (S : Sto) : tyOf S (kinD k) = some (.inr 4) := rfl
@[simp] theorem within_non (lo hi : Int) (S : Sto) : m_is_within [.non, .int lo, .int hi] S = .ok (.bl false) S := by
  have h : ktB "int" (.inl "NoneType") = some false := by decide +kernel
  simp [m_is_within, runDef, b_is_within, m_is_integer, b_is_integer, isiD, h]
theorem fault_sys1 {k : KA} (gk : GoodK k) (hs : k.mn = 3 → Tk.cntAll k.sc ≤ 4) {ah cr : Int} {wi : Option Int} (a : 0 ≤ ah ∧ ah ≤ 4) (hw : ∀ w, wi = some w → w ≤ 8 ∧ k.bl ≤ w) (c : 0 ≤ cr ∧ cr ≤ 2) (S : Sto) : m_fault_of_system [.tup [kinD k], .int ah, wiD wi, .int cr] S = .ok .non S := by
  have n3' : ((k.mn : Int) ≤ 3) = True := eq_true (by have := gk.mn; omega)
  have co : ∀ S, m_count_of_sessions [.tup [kinD k]] S = .ok (.int k.mn) S := fun S => by
    simp [m_count_of_sessions, runDef, b_count_of_sessions, wipeE, sumD]
  have mn1 : LenS.many [k.nm] 1 = 1 := by simp [LenS.many]
  have ar : ∀ S, m_are_kinds [.tup [kinD k]] S = .ok (.bl true) S := fun S => by
    simp [m_are_kinds, runDef, b_are_kinds, wipeE, isiD, kt_Kind, allD, lensD, mn1, co, n3']
  have l1 := fun S => len_own k.sc S gk.sc.cnt
  by_cases h3 : k.mn = 3
  · have h3' : ((k.mn : Int) = 3) = True := eq_true (by omega)
    have ml : ((4 : Int) < (Tk.cntAll k.sc : Int)) = False := eq_false (by have := hs h3; omega)
    cases wi with
    | none => simp -implicitDefEqProofs [m_fault_of_system, runDef, b_fault_of_system, ar, co, wipeE, maxD, h3', maxL, a.1, a.2, c.1, c.2, l1, ml, -lenOwnD_eq]
    | some w =>
      have := hw w rfl
      simp -implicitDefEqProofs [m_fault_of_system, runDef, b_fault_of_system, ar, co, wipeE, maxD, h3', maxL, a.1, a.2, c.1, c.2, this.1, this.2, l1, ml, -lenOwnD_eq]
  · have h3' : ((k.mn : Int) = 3) = False := eq_false (by omega)
    cases wi with
    | none => simp -implicitDefEqProofs [m_fault_of_system, runDef, b_fault_of_system, ar, co, wipeE, maxD, h3', maxL, a.1, a.2, c.1, c.2]
    | some w =>
      have := hw w rfl
      simp -implicitDefEqProofs [m_fault_of_system, runDef, b_fault_of_system, ar, co, wipeE, maxD, h3', maxL, a.1, a.2, c.1, c.2, this.1, this.2]
theorem fault_sys2 {k k2 : KA} (gk : GoodK k) (gk2 : GoodK k2) (hn : k.nm ≠ k2.nm) (hm : k.mn + k2.mn ≤ 3) (hs : k.mn + k2.mn = 3 → Tk.cntAll k.sc ≤ 4 ∧ Tk.cntAll k2.sc ≤ 4) {ah cr : Int} {wi : Option Int} (a : 0 ≤ ah ∧ ah ≤ 4) (hw : ∀ w, wi = some w → w ≤ 8 ∧ k.bl ≤ w ∧ k2.bl ≤ w) (c : 0 ≤ cr ∧ cr ≤ 2) (S : Sto) : m_fault_of_system [.tup [kinD k, kinD k2], .int ah, wiD wi, .int cr] S = .ok .non S := by
  have n3' : ((k.mn : Int) + (k2.mn : Int) ≤ 3) = True := eq_true (by omega)
  have co : ∀ S, m_count_of_sessions [.tup [kinD k, kinD k2]] S = .ok (.int ((k.mn : Int) + k2.mn)) S := fun S => by
    simp [m_count_of_sessions, runDef, b_count_of_sessions, wipeE, sumD]
  have mn2 : LenS.many [k.nm, k2.nm] 2 = 2 := by simp [LenS.many, hn]
  have ar : ∀ S, m_are_kinds [.tup [kinD k, kinD k2]] S = .ok (.bl true) S := fun S => by
    simp [m_are_kinds, runDef, b_are_kinds, wipeE, isiD, kt_Kind, allD, lensD, mn2, co, n3']
  have l1 := fun S => len_own k.sc S gk.sc.cnt
  have l2 := fun S => len_own k2.sc S gk2.sc.cnt
  have mb : ∀ w, wi = some w → (max k.bl k2.bl ≤ w) = True := fun w h => eq_true (by have := hw w h; omega)
  have ml : k.mn + k2.mn = 3 → (4 < max (Tk.cntAll k.sc : Int) (Tk.cntAll k2.sc : Int)) = False := fun h => eq_false (by have := hs h; omega)
  by_cases h3 : k.mn + k2.mn = 3
  · have h3' : ((k.mn : Int) + (k2.mn : Int) = 3) = True := eq_true (by omega)
    have ml' := ml h3
    cases wi with
    | none => simp -implicitDefEqProofs [m_fault_of_system, runDef, b_fault_of_system, ar, co, wipeE, maxD, h3', maxL, a.1, a.2, c.1, c.2, l1, l2, ml', -lenOwnD_eq]
    | some w =>
      have := hw w rfl
      simp -implicitDefEqProofs [m_fault_of_system, runDef, b_fault_of_system, ar, co, wipeE, maxD, h3', maxL, a.1, a.2, c.1, c.2, l1, l2, ml', mb w rfl, this.1, -lenOwnD_eq]
  · have h3' : ((k.mn : Int) + (k2.mn : Int) = 3) = False := eq_false (by omega)
    cases wi with
    | none => simp -implicitDefEqProofs [m_fault_of_system, runDef, b_fault_of_system, ar, co, wipeE, maxD, h3', maxL, a.1, a.2, c.1, c.2]
    | some w =>
      have := hw w rfl
      simp -implicitDefEqProofs [m_fault_of_system, runDef, b_fault_of_system, ar, co, wipeE, maxD, h3', maxL, a.1, a.2, c.1, c.2, mb w rfl, this.1]
theorem fault_sys3 {k k2 k3 : KA} (gk : GoodK k) (gk2 : GoodK k2) (gk3 : GoodK k3) (h1 : k.mn = 1) (h2 : k2.mn = 1) (h3 : k3.mn = 1) (n1 : k.nm ≠ k2.nm) (n2 : k.nm ≠ k3.nm) (n3 : k2.nm ≠ k3.nm) (hs : Tk.cntAll k.sc ≤ 4 ∧ Tk.cntAll k2.sc ≤ 4 ∧ Tk.cntAll k3.sc ≤ 4) {ah cr : Int} {wi : Option Int} (a : 0 ≤ ah ∧ ah ≤ 4) (hw : ∀ w, wi = some w → w ≤ 8 ∧ k.bl ≤ w ∧ k2.bl ≤ w ∧ k3.bl ≤ w) (c : 0 ≤ cr ∧ cr ≤ 2) (S : Sto) : m_fault_of_system [.tup [kinD k, kinD k2, kinD k3], .int ah, wiD wi, .int cr] S = .ok .non S := by
  have co : ∀ S, m_count_of_sessions [.tup [kinD k, kinD k2, kinD k3]] S = .ok (.int 3) S := fun S => by
    simp [m_count_of_sessions, runDef, b_count_of_sessions, wipeE, sumD, h1, h2, h3]
  have mn2 : LenS.many [k.nm, k2.nm, k3.nm] 3 = 3 := by simp [LenS.many, n1, n2, n3]
  have ar : ∀ S, m_are_kinds [.tup [kinD k, kinD k2, kinD k3]] S = .ok (.bl true) S := fun S => by
    simp [m_are_kinds, runDef, b_are_kinds, wipeE, isiD, kt_Kind, allD, lensD, mn2, co]
  have l1 := fun S => len_own k.sc S gk.sc.cnt
  have l2 := fun S => len_own k2.sc S gk2.sc.cnt
  have l3 := fun S => len_own k3.sc S gk3.sc.cnt
  have mb : ∀ w, wi = some w → (max (max k.bl k2.bl) k3.bl ≤ w) = True := fun w h => eq_true (by have := hw w h; omega)
  have mb' : ∀ w, wi = some w → (max k.bl (max k2.bl k3.bl) ≤ w) = True := fun w h => eq_true (by have := hw w h; omega)
  have ml : (4 < max (Tk.cntAll k.sc : Int) (max (Tk.cntAll k2.sc : Int) (Tk.cntAll k3.sc : Int))) = False := eq_false (by omega)
  have ml2 : (4 < max (max (Tk.cntAll k.sc : Int) (Tk.cntAll k2.sc : Int)) (Tk.cntAll k3.sc : Int)) = False := eq_false (by omega)
  cases wi with
  | none => simp -implicitDefEqProofs [m_fault_of_system, runDef, b_fault_of_system, ar, co, wipeE, maxD, maxL, a.1, a.2, c.1, c.2, l1, l2, l3, ml, ml2, -lenOwnD_eq]
  | some w =>
    have := hw w rfl
    simp -implicitDefEqProofs [m_fault_of_system, runDef, b_fault_of_system, ar, co, wipeE, maxD, maxL, a.1, a.2, c.1, c.2, l1, l2, l3, ml, ml2, mb w rfl, mb' w rfl, this.1, -lenOwnD_eq]
end Mm
set_option maxRecDepth 100000
namespace Mm
open PySem L2
theorem sL_lo (l : List Str) : los 0 (sL l) = true := los_all fun d hd => by
  obtain ⟨x, _, rfl⟩ := List.mem_map.mp hd
  rfl
theorem sL_dp (l : List Str) : dps (sL l) ≤ 0 := dps_all fun d hd => by
  obtain ⟨x, _, rfl⟩ := List.mem_map.mp hd
  exact Nat.le_refl _
theorem kins_lo (l : List KA) : los 0 (l.map kinD) = true := los_all fun d hd => by
  obtain ⟨x, _, rfl⟩ := List.mem_map.mp hd
  exact kin_lo x
theorem kins_dp {l : List KA} (g : ∀ k ∈ l, GoodK k) : dps (l.map kinD) ≤ 8 := dps_all fun d hd => by
  obtain ⟨x, hx, rfl⟩ := List.mem_map.mp hd
  exact kin_dp (g x hx)
open Classical in
theorem ses_in (k : KA) (env : Env) (S : Sto) (h6 : env[6]? = some (some (kinD k))) (hl : 7 < env.length) : ∀ (n : Nat) (lo : Int) (acc : List D), acc.length + n ≤ 900 → inM (g_name 7) t_yes (addL2 (e_fld [(4, 0)] (e_v 6))) env none (rngD lo n) acc S = .ok (acc ++ List.replicate n (.str k.nm)) S
  | 0, lo, acc, hn => by unfold rngD; simp
  | n + 1, lo, acc, hn => by
    have z1 : (acc.length < sizeLine) = True := eq_true (by have := szb; omega)
    have h7 : (env.set 7 (some (D.int lo)))[6]? = some (some (kinD k)) := by rw [List.getElem?_set_ne (by decide)]; exact h6
    have ih := ses_in k env S h6 hl n (lo + 1) (acc ++ [.str k.nm]) (by simp; omega)
    show inM _ _ _ _ none (.int lo :: rngD (lo + 1) n) _ _ = _
    rw [inM_cons]
    simp [addL2, h7, z1, ih, List.replicate_succ]
open Classical in
theorem ses_out (S : Sto) (env : Env) (hl : env.length = 8) (l : List KA) : ∀ (acc : List D), (∀ k ∈ l, k.mn ≤ 3) → acc.length + 3 * l.length ≤ 100 → outM (g_name 6) t_yes (i_rng1 (e_fld [(4, 3)] (e_v 6))) (g_name 7) t_yes (addL2 (e_fld [(4, 0)] (e_v 6))) [7] env none (l.map kinD) acc S = .ok (acc ++ sL ((l.flatMap fun k => List.replicate k.mn k).map (·.nm))) S := by
  induction l with
  | nil =>
    intro acc hm hn
    rw [List.map_nil, outM_nil _ _ _ _ _ _ _ _ _ _ _ (stay_none _ _)]
    simp
  | cons k r ih =>
    intro acc hm hn
    have m3 := hm k List.mem_cons_self
    have q1 : (-4611686018427387904 ≤ (k.mn : Int)) = True := eq_true (by omega)
    have q2 : ((k.mn : Int) < 4611686018427387904) = True := eq_true (by omega)
    have w : ∀ z : Option D, wipeE (env.set 6 z) [7] = (env.set 6 z).set 7 none := fun z => by simp [wipeE]
    have g6 : ∀ z : Option D, (env.set 6 z)[6]? = some z := fun z => List.getElem?_set_self (by omega)
    have i1 := ses_in k ((env.set 6 (some (kinD k))).set 7 none) S (by rw [List.getElem?_set_ne (by decide)]; exact g6 _) (by simp [hl]) k.mn 0 acc (by simp at hn; omega)
    have ih' := ih (acc ++ List.replicate k.mn (.str k.nm)) (fun k' h => hm k' (List.mem_cons_of_mem _ h)) (by simp at hn ⊢; omega)
    rw [List.map_cons, outM_cons _ _ _ _ _ _ _ _ _ _ _ _ _ (stay_none _ _)]
    simp -implicitDefEqProofs [g6, q1, q2, w, i1, ih', hl]
theorem sys_mk {y : YA} (g : GoodY y) (hf : ∀ S, m_fault_of_system [.tup (y.ks.map kinD), .int y.ah, wiD y.wi, .int y.cr] S = .ok .non S) (hl : y.ks.length ≤ 3) (S : Sto) : trunc S (mkDk 5 m_System___init__ (fun x => gSystem x [.int y.ah, wiD y.wi, .int y.cr] ++ [.tup (y.ks.map kinD)]) S) = .ok (sysD y) S := by
  have so := fun S env he => ses_out S env he y.ks [] (fun k h => (g.ks k h).mn.2) (by simp; omega)
  have zl : (y.ses.length ≤ sizeLine) = True := eq_true (by have := g.few; have := szb; omega)
  have e1 : (y.ks.flatMap fun k => List.replicate k.mn k) = y.ses := rfl
  have r1 := fun S' => rsvs_pure (n := S.length) (S := S') 10 (y.ks.map kinD) (kins_lo _) (.inl (by have := kins_dp g.ks; omega))
  have r2 := fun S' => rsvs_pure (n := S.length) (S := S') 10 (sL (y.ses.map (·.nm))) (sL_lo _) (.inl (by have := sL_dp (y.ses.map (·.nm)); omega))
  have r3 := fun S' => rsv_wi S.length S' 10 y.wi
  simp only [e1, sL, List.map_map, List.nil_append] at so r2
  simp -implicitDefEqProofs [mkDk, gSystem, m_System___init__, runDef, b_System___init__, hf, setF, List.lookup, wipeE, so, zl, rsvD, rsv, rsvs, D.lo, los, r1, r2, r3, sysD]
end Mm
set_option maxRecDepth 100000
namespace Mm
open PySem L2
/-! the law's numbers -/
theorem cmul_mod (x y : Int) : CMul (x % 2147483647) y := .inl ⟨by have := Int.emod_nonneg x (show (2147483647 : Int) ≠ 0 by decide); omega, by have := Int.emod_lt_of_pos x (show (0 : Int) < 2147483647 by decide); omega⟩
theorem cmul_r (x : Int) : CMul x 48271 := .inr ⟨by decide, by decide⟩
theorem cmul_l (x : Int) : CMul 7919 x := .inl ⟨by decide, by decide⟩
def lcg (b c : Int) : Int := (((b + 7919 * (c + 1) + 1) * 48271 % 2147483647 * ((b + 7919 * (c + 1) + 1) * 48271 % 2147483647 / 1009 + 69621)) % 2147483647 * (((b + 7919 * (c + 1) + 1) * 48271 % 2147483647 * ((b + 7919 * (c + 1) + 1) * 48271 % 2147483647 / 1009 + 69621)) % 2147483647 / 2003 + 40692)) % 2147483399
theorem pick_eq {S : Sto} {p : Nat} {a b c n : Int} (h : S[p]? = some (.lst [.int a, .int b, .int c])) (n0 : 0 < n) (n1 : n < 1073741824) :
    ∃ r a' b' c', m__law_pick [.loc p, .int n] S = .ok (.int r) (S.set p (.lst [.int a', .int b', .int c'])) ∧ 0 ≤ r ∧ r < n := by
  unfold m__law_pick
  rw [runDef_eq (by rfl)]
  unfold b__law_pick
  by_cases ha : 0 < a
  · refine ⟨a % n, a / n, b, c, ?_, Int.emod_nonneg _ (by omega), Int.emod_lt_of_pos _ n0⟩
    simp [h, ha, n0, n1, CDiv, ixN]
  · refine ⟨lcg b c / 16 % n, a, b, c + 1, ?_, Int.emod_nonneg _ (by omega), Int.emod_lt_of_pos _ n0⟩
    simp [h, ha, n0, n1, CDiv, ixN, set_get h, cmul_mod, cmul_r, cmul_l, lcg]
abbrev pO (a b c : Int) : SO := .lst [.int a, .int b, .int c]
theorem box_eq (ns : List Int) (k : Nat) (S : Sto) : ∃ a b c, m__law_box [.fz ns, .int k] S = .ok (.loc S.length) (S ++ [pO a b c]) := by
  have cp : CPow 10 18 := by unfold CPow; decide
  have cm : CMul 104729 (k : Int) := .inl ⟨by decide, by decide⟩
  by_cases hk : k < ns.length
  · have g : (ns.map D.int)[k]? = some (.int ns[k]) := by rw [List.getElem?_map, List.getElem?_eq_getElem hk]; rfl
    by_cases hz : (1000000000000000000 : Int) ≤ ns[k]
    · refine ⟨ns[k] - 1000000000000000000, ns[k] % 2147483629 + k, 0, ?_⟩
      simp [m__law_box, runDef, b__law_box, hk, ixD, atI_nat, g, cp, cm, hz]
    · refine ⟨0, ns[k] % 2147483629 + 104729 * k, 0, ?_⟩
      simp [m__law_box, runDef, b__law_box, hk, ixD, atI_nat, g, cp, cm, hz]
  · refine ⟨0, 0 % 2147483629 + 104729 * k, 0, ?_⟩
    simp [m__law_box, runDef, b__law_box, hk, cp, cm]
end Mm
set_option maxRecDepth 100000
namespace Mm
open PySem L2
/-! texts -/
theorem str_ext {a b : Str} (h : a.cps.toList = b.cps.toList) : a = b := by
  cases a; cases b
  congr 1
  exact Array.ext' h
theorem app_list (a b : Str) : (a ++ b).cps.toList = a.cps.toList ++ b.cps.toList := by
  show (a.cps ++ b.cps).toList = _
  simp
theorem len_list (a : Str) : a.length = a.cps.toList.length := by
  show a.cps.size = _
  simp
theorem fold_rep (c : Nat) : ∀ (k : Nat) (acc : Array Nat), (List.foldl (fun x1 x2 => x1 ++ x2) acc (List.replicate k #[c])).toList = acc.toList ++ List.replicate k c
  | 0, acc => by simp
  | k + 1, acc => by
    rw [List.replicate_succ, List.foldl_cons, fold_rep c k]
    simp [List.replicate_succ]
theorem sp_cps : (" " : Str).cps = #[32] := by decide +kernel
theorem rep_list {n : Int} (h : 0 ≤ n) : (repS " " n).cps.toList = List.replicate n.toNat 32 := by
  unfold repS
  by_cases h1 : n < 1
  · have : n = 0 := by omega
    subst this
    rfl
  · rw [if_neg h1]
    by_cases h2 : (n == 1 || (" " : Str).length == 0) = true
    · rw [if_pos h2]
      have : n = 1 := by
        rw [Bool.or_eq_true] at h2
        rcases h2 with h2 | h2
        · exact of_decide_eq_true (by simpa using h2)
        · exact absurd h2 (by decide)
      subst this
      rw [sp_cps]; rfl
    · rw [if_neg h2, sp_cps]
      show (List.foldl (fun x1 x2 => x1 ++ x2) #[] (List.replicate n.toNat #[32])).toList = _
      rw [fold_rep]
      rfl
theorem rep_len {n : Int} (h : 0 ≤ n) : (repS " " n).length = n.toNat := by rw [len_list, rep_list h, List.length_replicate]
def lineS (n : Int) (x : Str) : Str := repS " " n ++ x
theorem line_len {n : Int} (h : 0 ≤ n) (x : Str) : (lineS n x).length = n.toNat + x.length := by unfold lineS; rw [Tk.len_app, rep_len h]
/-- " " * n + x -/
theorem mul_ok {n : Int} (h0 : 0 ≤ n) (h1 : n ≤ 100) (S : Sto) : mulSD (.str " ") (.int n) S = .ok (.str (repS " " n)) S := by
  rw [mulSD_eq, R.if_pos]
  have l1 : (" " : Str).length = 1 := rfl
  have hs : sizeLine = 16777216 := by decide
  rw [l1, rep_len h0, hs]
  omega
theorem add_ok {a b : Str} (h : a.length + b.length ≤ 1000) (S : Sto) : addD (.str a) (.str b) S = .ok (.str (a ++ b)) S := by
  rw [addD_str, R.if_pos]
  have := szb
  omega
/-! statements -/
def stT : Tk.Stm → List Str
  | .one w => [w.s]
  | .nam b n => [Tk.lockS b, n]
  | .ch _ _ => []
def jn (s : Tk.Stm) : Str := Txt.join " " (stT s)
mutual
def rowS : Tk.Stm → Int → List Str
  | .one w, n => [lineS n (jn (.one w))]
  | .nam b m, n => [lineS n (jn (.nam b m))]
  | .ch y z, n => lineS n "choose" :: lineS (n + 2) "yes" :: (rowsS y (n + 4) ++ lineS (n + 2) "no" :: rowsS z (n + 4))
def rowsS : List Tk.Stm → Int → List Str
  | [], _ => []
  | s :: r, n => rowS s n ++ rowsS r n
end
theorem jn_one (w : Tk.Wd) : jn (.one w) = w.s := by
  unfold jn stT Txt.join
  simp [Builtin.Str.glued]
theorem jn_len (s : Tk.Stm) (h : ∀ b n, s = .nam b n → n.length ≤ 8) : (jn s).length ≤ 30 := by
  cases s with
  | one w => rw [jn_one]; cases w <;> decide
  | nam b n =>
    have hn := h b n rfl
    have e : (jn (.nam b n)).length = (Tk.lockS b).length + 1 + n.length := by
      unfold jn stT Txt.join
      have e1 : Builtin.Str.glued " " [Tk.lockS b, n] = Tk.lockS b ++ " " ++ n := by
        apply str_ext
        simp only [app_list]
        simp [Builtin.Str.glued]
      rw [e1, Tk.len_app, Tk.len_app]
      rfl
    have hb : (Tk.lockS b).length ≤ 6 := by cases b <;> decide
    omega
  | ch y z =>
    show (Txt.join " " []).length ≤ 30
    decide
mutual
theorem row_len : ∀ (s : Tk.Stm) (d : Nat) (h : Int) (n : Int), s.ok d h → d ≤ 2 → 0 ≤ n → n ≤ 4 * d + 4 → (rowS s n).length ≤ 3 * s.cnt ∧ ∀ x ∈ rowS s n, x.length ≤ 60
  | .one w, d, h, n, ho, hd, h0, h1 => by
    unfold rowS
    refine ⟨by show 1 ≤ 3 * 1; omega, fun x hx => ?_⟩
    rw [List.mem_singleton] at hx
    have := jn_len (.one w) (fun b n e => by cases e)
    rw [hx, line_len h0]
    omega
  | .nam b m, d, h, n, ho, hd, h0, h1 => by
    unfold rowS
    refine ⟨by show 1 ≤ 3 * 1; omega, fun x hx => ?_⟩
    rw [List.mem_singleton] at hx
    have := jn_len (.nam b m) (fun b' n' e => by cases e; unfold Tk.Stm.ok at ho; exact ho.2.1)
    rw [hx, line_len h0]
    omega
  | .ch y z, d, h, n, ho, hd, h0, h1 => by
    unfold Tk.Stm.ok at ho
    obtain ⟨o1, o2, o3⟩ := ho
    obtain ⟨a1, a2⟩ := rows_len y (d + 1) h (n + 4) o2 (by omega) (by omega) (by omega)
    obtain ⟨b1, b2⟩ := rows_len z (d + 1) h (n + 4) o3 (by omega) (by omega) (by omega)
    have l1 : ("choose" : Str).length = 6 := by decide
    have l2 : ("yes" : Str).length = 3 := by decide
    have l3 : ("no" : Str).length = 2 := by decide
    unfold rowS
    refine ⟨by simp only [List.length_cons, List.length_append, Tk.Stm.cnt]; omega, fun x hx => ?_⟩
    rcases List.mem_cons.mp hx with rfl | hx
    · rw [line_len h0]; omega
    · rcases List.mem_cons.mp hx with rfl | hx
      · rw [line_len (by omega)]; omega
      · rcases List.mem_append.mp hx with hx | hx
        · exact a2 x hx
        · rcases List.mem_cons.mp hx with rfl | hx
          · rw [line_len (by omega)]; omega
          · exact b2 x hx
theorem rows_len : ∀ (B : List Tk.Stm) (d : Nat) (h : Int) (n : Int), Tk.okAll d B h → d ≤ 2 → 0 ≤ n → n ≤ 4 * d + 4 → (rowsS B n).length ≤ 3 * Tk.cntAll B ∧ ∀ x ∈ rowsS B n, x.length ≤ 60
  | [], d, h, n, ho, hd, h0, h1 => by unfold rowsS; exact ⟨Nat.zero_le _, fun x hx => by cases hx⟩
  | s :: r, d, h, n, ho, hd, h0, h1 => by
    unfold Tk.okAll at ho
    obtain ⟨a1, a2⟩ := row_len s d h n ho.1 hd h0 h1
    obtain ⟨b1, b2⟩ := rows_len r d (s.held h) n ho.2 hd h0 h1
    unfold rowsS
    refine ⟨by rw [List.length_append, Tk.cntAll]; omega, fun x hx => ?_⟩
    rcases List.mem_append.mp hx with hx | hx
    · exact a2 x hx
    · exact b2 x hx
end
end Mm
set_option maxRecDepth 100000
namespace Mm
open PySem L2
/-! the lines of a system -/
def nS (i : Int) : Str := Str.ofString (toString i)
theorem nS_len {i : Int} (h0 : 0 ≤ i) (h1 : i ≤ 8) : (nS i).length = 1 ∧ i.natAbs.log2 < 1920 := by
  have h : i = 0 ∨ i = 1 ∨ i = 2 ∨ i = 3 ∨ i = 4 ∨ i = 5 ∨ i = 6 ∨ i = 7 ∨ i = 8 := by omega
  rcases h with rfl | rfl | rfl | rfl | rfl | rfl | rfl | rfl | rfl <;> decide +kernel
def wS : Option Int → Str
  | none => "none"
  | some w => nS w
def headS (y : YA) : Str := "system ahead " ++ nS y.ah ++ " window " ++ wS y.wi ++ " crashes " ++ nS y.cr
def kindS (k : KA) : Str := "kind " ++ k.nm ++ " block " ++ nS k.bl ++ " many " ++ nS k.mn
def kindL (k : KA) : Str := "  kind " ++ k.nm ++ " block " ++ nS k.bl ++ " many " ++ nS k.mn
def kinds (ks : List KA) : List Str := ks.flatMap fun k => kindL k :: rowsS k.sc 4
def linesS (y : YA) : List Str := headS y :: kinds y.ks
theorem lits : ("system ahead " : Str).length = 13 ∧ (" window " : Str).length = 8 ∧ (" crashes " : Str).length = 9 ∧ ("kind " : Str).length = 5 ∧ ("  kind " : Str).length = 7 ∧ (" block " : Str).length = 7 ∧ (" many " : Str).length = 6 ∧ ("none" : Str).length = 4 ∧ ("\n" : Str).length = 1 := by decide
/-- str(n) -/
theorem strI_ok {i : Int} (h0 : 0 ≤ i) (h1 : i ≤ 8) (S : Sto) : strID (.int i) S = .ok (.str (nS i)) S := by
  rw [strID_eq, R.if_pos (nS_len h0 h1).2]; rfl
open Classical in
theorem lcM_consG (g : GM) (t : TM) (m : EM) (env : Env) (so : Option (Nat × List D)) (d : D) (r acc : List D) (S : Sto) (h : Stay S ([], so)) : lcM g t m env so (d :: r) acc S = match g d env with
    | none => .bad
    | some env1 => (t env1 S).nox.bind fun k S1 => if k = true then (m env1 S1).nox.bind fun y S2 => .if (acc.length < sizeLine) (lcM g t m env so r (acc ++ [y]) S2) else lcM g t m env so r acc S1 := by
  conv => lhs; unfold lcM
  rw [R.if_pos h] <;> (cases g d env <;> rfl)
open Classical in
theorem lcM_nilG (g : GM) (t : TM) (m : EM) (env : Env) (so : Option (Nat × List D)) (acc : List D) (S : Sto) (h : Stay S ([], so)) : lcM g t m env so [] acc S = .ok acc S := by
  unfold lcM
  rw [R.if_pos h]
def nl (x : Str) : Str := x ++ "\n"
end Mm
set_option maxRecDepth 100000
namespace Mm
open PySem L2
/-! what was put together comes apart again -/
def jl (c : Nat) : List (List Nat) → List Nat
  | [] => []
  | [p] => p
  | p :: q :: r => p ++ c :: jl c (q :: r)
theorem join_list (c : Nat) : ∀ ps : List Str, (Str.join ⟨#[c]⟩ ps).cps.toList = jl c (ps.map fun p => p.cps.toList)
  | [] => rfl
  | [p] => by rw [Str.join.eq_2]; rfl
  | p :: q :: r => by
    rw [Str.join.eq_3 _ _ _ (by simp), app_list, app_list, join_list c (q :: r)]
    show _ = p.cps.toList ++ c :: jl c ((q :: r).map fun p => p.cps.toList)
    simp
theorem jl_inj (c : Nat) : ∀ {ps qs : List (List Nat)}, ps ≠ [] → qs ≠ [] → (∀ p ∈ ps, c ∉ p) → (∀ q ∈ qs, c ∉ q) → jl c ps = jl c qs → ps = qs
  | [], _, h, _, _, _, _ => (h rfl).elim
  | _ :: _, [], _, h, _, _, _ => (h rfl).elim
  | [p], [q], _, _, _, _, h => by rw [show p = q from h]
  | [p], q :: q' :: r, _, _, hp, _, h => by
    have : c ∈ p := by rw [show p = q ++ c :: jl c (q' :: r) from h]; simp
    exact (hp p (by simp) this).elim
  | p :: p' :: r, [q], _, _, _, hq, h => by
    have : c ∈ q := by rw [← show p ++ c :: jl c (p' :: r) = q from h]; simp
    exact (hq q (by simp) this).elim
  | p :: p' :: r, q :: q' :: s, _, _, hp, hq, h => by
    have h' : p ++ c :: jl c (p' :: r) = q ++ c :: jl c (q' :: s) := h
    obtain ⟨e1, e2⟩ := List.append_eq_append_iff.mp h' |> fun z => (by
      rcases z with ⟨a, ha, hb⟩ | ⟨a, ha, hb⟩
      · cases a with
        | nil => simp at ha hb; exact ⟨ha.symm, hb⟩
        | cons z a =>
          have hz : z = c := by simp at hb; exact hb.1.symm
          exact (hq q (by simp) (by rw [ha, hz]; simp)).elim
      · cases a with
        | nil => simp at ha hb; exact ⟨ha, hb.symm⟩
        | cons z a =>
          have hz : z = c := by simp at hb; exact hb.1.symm
          exact (hp p (by simp) (by rw [ha, hz]; simp)).elim : p = q ∧ jl c (p' :: r) = jl c (q' :: s))
    rw [e1, jl_inj c (by simp) (by simp) (fun x hx => hp x (List.mem_cons_of_mem _ hx)) (fun x hx => hq x (List.mem_cons_of_mem _ hx)) e2]
theorem split_ne (x : Str) (c : Nat) : Txt.split x ⟨#[c]⟩ ≠ [] := by
  intro h
  have := PyProof.Rows.split_pos x ⟨#[c]⟩
  rw [h] at this
  simp at this
theorem map_inj_list : ∀ {ps qs : List Str}, (ps.map fun p => p.cps.toList) = qs.map (fun p => p.cps.toList) → ps = qs
  | [], [], _ => rfl
  | [], _ :: _, h => by cases h
  | _ :: _, [], h => by cases h
  | p :: r, q :: s, h => by
    simp only [List.map_cons, List.cons.injEq] at h
    rw [str_ext h.1, map_inj_list h.2]
theorem split_join {c : Nat} {ps : List Str} (hne : ps ≠ []) (hp : ∀ p ∈ ps, c ∉ p.cps.toList) : Txt.split (Str.join ⟨#[c]⟩ ps) ⟨#[c]⟩ = ps := by
  have h1 := StrLaws.join_split (Str.join ⟨#[c]⟩ ps) ⟨#[c]⟩
  have h2 := congrArg (fun s => s.cps.toList) h1
  simp only [join_list] at h2
  refine map_inj_list (jl_inj c (by simpa using split_ne _ c) (by simpa using hne) (fun q hq => ?_) (fun q hq => ?_) h2)
  · obtain ⟨p, hp', rfl⟩ := List.mem_map.mp hq
    exact StrLaws.split_free _ _ _ hp'
  · obtain ⟨p, hp', rfl⟩ := List.mem_map.mp hq
    exact hp p hp'
end Mm
set_option maxRecDepth 100000
namespace Mm
open PySem L2
variable {T : Sto} {p q at_ : Nat} {room : Int} {rows : List Str}
/-! a reading: its rows, where it stands, how many statements there is room for -/
structure RdAt (T : Sto) (p q : Nat) (rows : List Str) (at_ : Nat) (room : Int) : Prop where
  p0 : T[p]? = some (.ins 10 [.loc q, .int at_, .int room])
  q0 : T[q]? = some (.lst (sL rows))
  ne : p ≠ q
  few : rows.length ≤ 200
  short : ∀ r ∈ rows, r.length ≤ 100
  at_le : at_ ≤ rows.length
theorem sp_eq : (" " : Str) = ⟨#[32]⟩ := str_ext (by rw [sp_cps])
theorem cutS_to (z : Str) (n : Nat) : (cutS z none (some (n : Int))).cps.toList = z.cps.toList.take n := by
  unfold cutS HT.sIx
  have h : ¬ ((n : Int) < 0) := by omega
  simp only [h, if_false, Int.toNat_natCast, List.drop_zero, Nat.sub_zero]
  by_cases hl : n ≤ z.length
  · rw [Nat.min_eq_left hl]
  · rw [Nat.min_eq_right (by omega)]
    rw [len_list] at hl ⊢
    rw [List.take_of_length_le (Nat.le_refl _), List.take_of_length_le (by omega)]
theorem cutS_from (z : Str) (n : Nat) : (cutS z (some (n : Int)) none).cps.toList = z.cps.toList.drop n := by
  unfold cutS HT.sIx
  have h : ¬ ((n : Int) < 0) := by omega
  simp only [h, if_false, Int.toNat_natCast]
  by_cases hl : n ≤ z.length
  · rw [Nat.min_eq_left hl, len_list]
    rw [List.take_of_length_le (by rw [List.length_drop]; exact Nat.le_refl _)]
  · rw [Nat.min_eq_right (by omega)]
    rw [len_list] at hl ⊢
    rw [List.drop_of_length_le (Nat.le_refl _), List.drop_of_length_le (by omega)]
    simp
theorem cut_line (n : Nat) (x : Str) : cutS (lineS n x) none (some (n : Int)) = repS " " n ∧ cutS (lineS n x) (some (n : Int)) none = x := by
  have e : (lineS n x).cps.toList = List.replicate n 32 ++ x.cps.toList := by
    unfold lineS
    rw [app_list, rep_list (by omega), Int.toNat_natCast]
  constructor
  · refine str_ext ?_
    rw [cutS_to, e, rep_list (by omega), Int.toNat_natCast, List.take_append_of_le_length (by simp)]
    rw [List.take_of_length_le (by simp)]
  · refine str_ext ?_
    rw [cutS_from, e, List.drop_append_of_le_length (by simp), List.drop_of_length_le (by simp)]
    rfl
theorem jl_len (c : Nat) : ∀ {ps : List (List Nat)} {p : List Nat}, p ∈ ps → p.length ≤ (jl c ps).length
  | [p], q, h => by
    rcases List.mem_singleton.mp h with rfl
    exact Nat.le_refl _
  | p :: p' :: r, q, h => by
    have e : (jl c (p :: p' :: r)).length = p.length + ((jl c (p' :: r)).length + 1) := by
      show (p ++ c :: jl c (p' :: r)).length = _
      simp
    rcases List.mem_cons.mp h with rfl | h
    · omega
    · have := jl_len c h
      omega
theorem split_len {z : Str} {c : Nat} {w : Str} (h : w ∈ Txt.split z ⟨#[c]⟩) : w.length ≤ z.length := by
  have e := StrLaws.join_split z ⟨#[c]⟩
  have e2 := congrArg (fun s => s.cps.toList.length) e
  simp only [join_list] at e2
  rw [len_list, len_list, ← e2]
  exact jl_len c (List.mem_map.mpr ⟨w, h, rfl⟩)
/-- words that can stand in a row -/
structure Wds (ws : List Str) : Prop where
  ne : ws ≠ []
  fr : ∀ w ∈ ws, 32 ∉ w.cps.toList
  hd : ∀ w, ws.head? = some w → w.cps.toList ≠ []
def jw (ws : List Str) : Str := Str.join " " ws
theorem split_jw {ws : List Str} (h : Wds ws) : Txt.split (jw ws) " " = ws := by
  unfold jw
  rw [sp_eq]
  exact split_join h.ne h.fr
theorem rd_at (G : RdAt T p q rows at_ room) : fldD [(10, 1)] (.loc p) T = some (.int at_) ∧ fldD [(10, 0)] (.loc p) T = some (.loc q) ∧ fldD [(10, 2)] (.loc p) T = some (.int room) := ⟨fld_at (i := 1) G.p0 rfl, fld_at (i := 0) G.p0 rfl, fld_at (i := 2) G.p0 rfl⟩
theorem sL_get {rows : List Str} {i : Nat} {r : Str} (h : rows[i]? = some r) : (sL rows)[i]? = some (.str r) := by
  unfold sL
  rw [List.getElem?_map, h]; rfl
/-- behind the last row -/
theorem words_end (G : RdAt T p q rows rows.length room) (i : Int) : m_Reading_words [.loc p, .int i] T = .ok (.lst []) T := by
  obtain ⟨f1, f0, _⟩ := rd_at G
  have q0 := G.q0
  have hl : (sL rows).length = rows.length := by unfold sL; simp
  simp -implicitDefEqProofs [m_Reading_words, runDef, b_Reading_words, f1, f0, q0, hl]
theorem words_row (G : RdAt T p q rows at_ room) {r : Str} (hr : rows[at_]? = some r) {n : Nat} (hn : n ≤ 50) :
    m_Reading_words [.loc p, .int n] T = .ok (.lst (if cutS r none (some (n : Int)) = repS " " n ∧ (∃ w, (Txt.split (cutS r (some (n : Int)) none) " ").head? = some w ∧ w.cps.toList ≠ []) then sL (Txt.split (cutS r (some (n : Int)) none) " ") else [])) T := by
  obtain ⟨f1, f0, _⟩ := rd_at G
  have q0 := G.q0
  have lt : at_ < rows.length := (List.getElem?_eq_some_iff.mp hr).1
  have hl : (sL rows).length = rows.length := by unfold sL; simp
  have n1 : ((at_ : Int) = (rows.length : Int)) = False := eq_false (by omega)
  have g := sL_get hr
  have ix : ixD (.loc q) (.int at_) T = .ok (.str r) T := by simp [ixD, q0, atI_nat, g]
  have rl : (r.length ≤ sizeLine) = True := eq_true (by have := sizeLine_eq; have := G.short r (List.mem_of_getElem? hr); omega)
  have ml := mul_ok (n := n) (by omega) (by omega) T
  have cl : (cutS r (some (n : Int)) none).length ≤ 100 := by
    rw [len_list, cutS_from, List.length_drop, ← len_list]
    have := G.short r (List.mem_of_getElem? hr)
    omega
  have cnd : (¬(" " : Str).length = 0 ∧ (cutS r (some (n : Int)) none).length + 2 ≤ sizeLine) := ⟨by decide +kernel, by have := sizeLine_eq; omega⟩
  have wn : Txt.split (cutS r (some (n : Int)) none) " " ≠ [] := by rw [sp_eq]; exact split_ne _ _
  obtain ⟨w, ws', hws⟩ := List.exists_cons_of_ne_nil wn
  have tr : truD T (.str w) = some (!decide (w.cps = #[])) := by
    have wl : w.length ≤ sizeLine := by
      have := sizeLine_eq
      have : w.length ≤ _ := split_len (c := 32) (z := cutS r (some (n : Int)) none) (by rw [← sp_eq, hws]; simp)
      omega
    show (if w.length ≤ sizeLine then some ((w.length : Int) != 0) else none) = _
    rw [if_pos wl]
    congr 1
    by_cases hw : w.cps = #[]
    · simp [hw, Str.length]
    · simp [hw, Str.length]
  by_cases c1 : cutS r none (some (n : Int)) = repS " " n
  · by_cases c2 : w.cps = #[]
    · simp -implicitDefEqProofs [-mulSD_eq, m_Reading_words, runDef, b_Reading_words, f1, f0, q0, hl, n1, ix, rl, ml, cnd, hws, R.if_pos, c1, c2, tr, sL]
    · simp -implicitDefEqProofs [-mulSD_eq, m_Reading_words, runDef, b_Reading_words, f1, f0, q0, hl, n1, ix, rl, ml, cnd, hws, R.if_pos, c1, c2, tr, sL]
  · simp -implicitDefEqProofs [-mulSD_eq, m_Reading_words, runDef, b_Reading_words, f1, f0, q0, hl, n1, ix, rl, ml, cnd, hws, R.if_pos, c1, sL]
end Mm
set_option maxRecDepth 100000
namespace Mm
open PySem L2
variable {T : Sto} {p q at_ : Nat} {room : Int} {rows : List Str}
theorem words_eq (G : RdAt T p q rows at_ room) {ws : List Str} (h : Wds ws) {n : Nat} (hn : n ≤ 50) (hr : rows[at_]? = some (lineS n (jw ws))) : m_Reading_words [.loc p, .int n] T = .ok (.lst (sL ws)) T := by
  obtain ⟨c1, c2⟩ := cut_line n (jw ws)
  rw [words_row G hr hn, c1, c2, split_jw h]
  obtain ⟨w, ws', rfl⟩ := List.exists_cons_of_ne_nil h.ne
  rw [if_pos ⟨rfl, w, rfl, h.hd w rfl⟩]
/-- what stands where the form is open -/
def outs : List Str → List Str → List Str
  | w :: ws, f :: fs => if f.cps = #[] then w :: outs ws fs else outs ws fs
  | _, _ => []
inductive Fits : List Str → List Str → Prop
  | nil : Fits [] []
  | opn {w ws f fs} : f.cps = #[] → Fits ws fs → Fits (w :: ws) (f :: fs)
  | eq {w ws fs} : w.cps ≠ #[] → w.length ≤ 100 → Fits ws fs → Fits (w :: ws) (w :: fs)
theorem Fits.len {ws fs : List Str} (h : Fits ws fs) : ws.length = fs.length := by
  induction h with
  | nil => rfl
  | opn _ _ ih => simp [ih]
  | eq _ _ _ ih => simp [ih]
theorem tr_str {T : Sto} {w : Str} (h : w.length ≤ sizeLine) : truD T (.str w) = some (!decide (w.cps = #[])) := by
  show (if w.length ≤ sizeLine then some ((w.length : Int) != 0) else none) = _
  rw [if_pos h]
  congr 1
  by_cases hw : w.cps = #[]
  · simp [hw, Str.length]
  · simp [hw, Str.length]
def gPair : GM := g_tup (g_cons (g_name 4) (g_cons (g_name 5) g_nil))
theorem lcStep {t : TM} {m : EM} {env : Env} (he : env.length = 6) (x y : D) (r acc : List D) : lcM gPair t m env none (.tup [x, y] :: r) acc T = (t ((env.set 4 (some x)).set 5 (some y)) T).nox.bind fun k S1 => if k = true then (m ((env.set 4 (some x)).set 5 (some y)) S1).nox.bind fun z S2 => .if (acc.length < sizeLine) (lcM gPair t m env none r (acc ++ [z]) S2) else lcM gPair t m env none r acc S1 := by
  rw [lcM_consG (h := stay_none _ _)]
  rfl
theorem at4 {env : Env} (he : env.length = 6) (x y : D) : ((env.set 4 (some x)).set 5 (some y))[4]? = some (some x) := by
  rw [List.getElem?_set_ne (by decide), List.getElem?_set_self (by omega)]
theorem at5 {env : Env} (he : env.length = 6) (x y : D) : ((env.set 4 (some x)).set 5 (some y))[5]? = some (some y) := List.getElem?_set_self (by rw [List.length_set]; omega)
theorem any_fits {env : Env} (he : env.length = 6) {ws fs : List Str} (h : Fits ws fs) : ∀ (acc : List D), acc.length + ws.length ≤ 100 → ∃ ds vs, lcM gPair t_yes (e_andT (e_v 5) (e_op (eqD true) (e_v 4) (e_v 5))) env none (zipD (sL ws) (sL fs)) acc T = .ok (acc ++ ds) T ∧ allO tvO ds = some vs ∧ vs.any trV = false := by
  induction h with
  | nil => exact fun acc _ => ⟨[], [], by simp [sL, zipD, lcM_nilG, stay_none], rfl, rfl⟩
  | @opn w ws f fs hf _ ih =>
    intro acc hl
    obtain ⟨ds, vs, e1, e2, e3⟩ := ih (acc ++ [.str f]) (by simp at hl ⊢; omega)
    have fe : f = "" := str_ext (by rw [hf]; rfl)
    subst fe
    have tv : tvO (.str "") = some (.str "") := by rw [tvO_str, if_pos (show ("" : Str).length ≤ sizeLine by decide +kernel)]
    have tr0 : trV (.str "") = false := by decide +kernel
    refine ⟨.str "" :: ds, .str "" :: vs, ?_, by rw [allO_cons, tv, e2]; rfl, by rw [List.any_cons, tr0, e3]; rfl⟩
    show lcM gPair _ _ _ _ (.tup [.str w, .str ""] :: zipD (sL ws) (sL fs)) _ _ = _
    rw [lcStep he]
    have g4 := at4 he (.str w) (.str "")
    have g5 := at5 he (.str w) (.str "")
    have z1 : (acc.length < sizeLine) = True := eq_true (by have := sizeLine_eq; simp at hl; omega)
    have tr : truD T (.str "") = some false := (tr_str (w := "") (by decide +kernel)).trans (by decide +kernel)
    generalize lcM gPair = L at *
    simp -implicitDefEqProofs [g4, g5, z1, tr, e1]
  | @eq w ws fs hw hwl _ ih =>
    intro acc hl
    obtain ⟨ds, vs, e1, e2, e3⟩ := ih (acc ++ [.bl false]) (by simp at hl ⊢; omega)
    refine ⟨.bl false :: ds, .bl false :: vs, ?_, by rw [allO_cons, tvO_bl, e2]; rfl, by rw [List.any_cons, trV_bl, e3]; rfl⟩
    show lcM gPair _ _ _ _ (.tup [.str w, .str w] :: zipD (sL ws) (sL fs)) _ _ = _
    rw [lcStep he]
    have g4 := at4 he (.str w) (.str w)
    have g5 := at5 he (.str w) (.str w)
    have z1 : (acc.length < sizeLine) = True := eq_true (by have := sizeLine_eq; simp at hl; omega)
    have tr : truD T (.str w) = some true := (tr_str (w := w) (by have := sizeLine_eq; omega)).trans (by rw [decide_eq_false hw]; rfl)
    generalize lcM gPair = L at *
    simp -implicitDefEqProofs [g4, g5, z1, tr, e1]
theorem out_fits {env : Env} (he : env.length = 6) {ws fs : List Str} (h : Fits ws fs) : ∀ (acc : List D), acc.length + ws.length ≤ 100 → lcM gPair (t_not (t_v (e_v 5))) (e_v 4) env none (zipD (sL ws) (sL fs)) acc T = .ok (acc ++ sL (outs ws fs)) T := by
  induction h with
  | nil => exact fun acc _ => by simp [sL, zipD, lcM_nilG, stay_none, outs]
  | @opn w ws f fs hf _ ih =>
    intro acc hl
    have e1 := ih (acc ++ [.str w]) (by simp at hl ⊢; omega)
    have fe : f = "" := str_ext (by rw [hf]; rfl)
    subst fe
    show lcM gPair _ _ _ _ (.tup [.str w, .str ""] :: zipD (sL ws) (sL fs)) _ _ = _
    rw [lcStep he, show outs (w :: ws) ("" :: fs) = w :: outs ws fs from if_pos hf]
    have g4 := at4 he (.str w) (.str "")
    have g5 := at5 he (.str w) (.str "")
    have z1 : (acc.length < sizeLine) = True := eq_true (by have := sizeLine_eq; simp at hl; omega)
    have tr : truD T (.str "") = some false := (tr_str (w := "") (by decide +kernel)).trans (by decide +kernel)
    have sl : sL (w :: outs ws fs) = .str w :: sL (outs ws fs) := rfl
    generalize lcM gPair = L at *
    generalize sL (outs ws fs) = oo at *
    simp -implicitDefEqProofs [g4, g5, z1, tr, e1, sl]
  | @eq w ws fs hw hwl _ ih =>
    intro acc hl
    have e1 := ih acc (by simp at hl ⊢; omega)
    show lcM gPair _ _ _ _ (.tup [.str w, .str w] :: zipD (sL ws) (sL fs)) _ _ = _
    rw [lcStep he, show outs (w :: ws) (w :: fs) = outs ws fs from if_neg hw]
    have g4 := at4 he (.str w) (.str w)
    have g5 := at5 he (.str w) (.str w)
    have tr : truD T (.str w) = some true := (tr_str (w := w) (by have := sizeLine_eq; omega)).trans (by rw [decide_eq_false hw]; rfl)
    generalize lcM gPair = L at *
    generalize sL (outs ws fs) = oo at *
    simp -implicitDefEqProofs [g4, g5, tr, e1]
theorem sL_len (l : List Str) : (sL l).length = l.length := by unfold sL; simp
theorem fields_eq (G : RdAt T p q rows at_ room) {ws fs : List Str} (h : Wds ws) (hf : Fits ws fs) (few : ws.length ≤ 100) {n : Nat} (hn : n ≤ 50) (hr : rows[at_]? = some (lineS n (jw ws))) : m_Reading_fields [.loc p, .int n, .tup (sL fs)] T = .ok (.lst (sL (outs ws fs))) T := by
  have w1 := words_eq G h hn hr
  have hl := hf.len
  have l1 := sL_len ws
  have l2 := sL_len fs
  obtain ⟨ds, vs, a1, a2, a3⟩ := any_fits (T := T) (env := [some (.loc p), some (.int n), some (.tup (sL fs)), some (.lst (sL ws)), none, none]) rfl hf [] (by simp; omega)
  have o1 := out_fits (T := T) (env := [some (.loc p), some (.int n), some (.tup (sL fs)), some (.lst (sL ws)), none, none]) rfl hf [] (by simp; omega)
  have ne : ((fs.length : Int) = (fs.length : Int)) = True := eq_self _
  have gp : (g_tup (g_cons (g_name 4) (g_cons (g_name 5) g_nil))) = gPair := rfl
  rw [List.nil_append] at a1 o1
  generalize sL ws = sw at *
  generalize sL fs = sf at *
  have ii : isI 10 (.loc p) T = True := eq_true (isI_at G.p0)
  have an : anyT (.lst ds) T = .ok (.bl false) T := by
    show R.ofO (((lstOf T (.lst ds)).bind (allO tvO)).map fun xs => D.bl (xs.any trV)) T = _
    rw [show lstOf T (.lst ds) = some ds from rfl, Option.bind_some, a2, Option.map_some, a3]; rfl
  simp -implicitDefEqProofs [m_Reading_fields, runDef, b_Reading_fields, w1, l1, l2, hl, gp, ii, wipeE, a1, o1, an]
end Mm
set_option maxRecDepth 100000
namespace Mm
open PySem L2
theorem digit_eq {i : Int} (h : 0 ≤ i ∧ i ≤ 9) (T : Sto) : m_digit_of [.str (nS i)] T = .ok (.int i) T := by
  have hc : i = 0 ∨ i = 1 ∨ i = 2 ∨ i = 3 ∨ i = 4 ∨ i = 5 ∨ i = 6 ∨ i = 7 ∨ i = 8 ∨ i = 9 := by omega
  have k : (nS i).length = 1 ∧ Txt.find ("0123456789" : Str) (nS i) = i := by
    rcases hc with rfl | rfl | rfl | rfl | rfl | rfl | rfl | rfl | rfl | rfl <;> decide +kernel
  obtain ⟨k1, k2⟩ := k
  have kl : (nS i).cps.size = 1 := k1
  generalize nS i = z at *
  have hs : ∀ T, lenD (.str z) T = .ok (.int 1) T := fun T => by
    rw [lenD_str, k1]
    first | rfl | (rw [R.if_pos (by rw [sizeLine_eq]; decide)]; rfl)
  simp -implicitDefEqProofs [-lenD_str, m_digit_of, runDef, b_digit_of, hs, k2]
theorem join0_list : ∀ ps : List Str, (Str.join "" ps).cps.toList = (ps.map fun p => p.cps.toList).flatten
  | [] => rfl
  | [p] => by rw [Str.join.eq_2]; simp
  | p :: q :: r => by
    rw [Str.join.eq_3 _ _ _ (by simp), app_list, app_list, join0_list (q :: r)]
    have e : ("" : Str).cps.toList = [] := by decide +kernel
    simp [e]
theorem nl_list (x : Str) : (nl x).cps.toList = x.cps.toList ++ [10] := by
  unfold nl
  rw [app_list]
  congr 1
theorem jl_nl : ∀ ls : List Str, jl 10 ((ls ++ [("" : Str)]).map fun p => p.cps.toList) = ((ls.map nl).map fun p => p.cps.toList).flatten
  | [] => by decide +kernel
  | x :: r => by
    have ih := jl_nl r
    have e : ∃ a b, ((r ++ [("" : Str)]).map fun p => p.cps.toList) = a :: b := by cases r <;> exact ⟨_, _, rfl⟩
    obtain ⟨a, b, e⟩ := e
    rw [List.cons_append, List.map_cons, e]
    show x.cps.toList ++ 10 :: jl 10 (a :: b) = _
    rw [← e, ih, List.map_cons, List.map_cons, List.flatten_cons, nl_list]
    simp
/-- a text's lines come apart again -/
theorem join_nl (ls : List Str) : Txt.join "" (ls.map nl) = Str.join ⟨#[10]⟩ (ls ++ [("" : Str)]) := by
  rw [TL.join_eq]
  exact str_ext (by rw [join0_list, join_list, jl_nl])
theorem nlS : ("\n" : Str) = ⟨#[10]⟩ := str_ext (by decide +kernel)
theorem split_lines {ls : List Str} (h : ∀ l ∈ ls, 10 ∉ l.cps.toList) : Txt.split (Txt.join "" (ls.map nl)) "\n" = ls ++ [("" : Str)] := by
  rw [join_nl, nlS]
  refine split_join (by simp) fun p hp => ?_
  rcases List.mem_append.mp hp with hp | hp
  · exact h p hp
  · rw [List.mem_singleton.mp hp]; decide +kernel
theorem setF_top {S : Sto} {ds : List D} {r : Sto} {k i : Nat} {z : D} (hi : i = ds.length) : setF [(k, i)] (.loc S.length) z (S ++ (.ins k ds :: r)) = some (S ++ (.ins k (ds ++ [z]) :: r)) := by
  have h : (S ++ (SO.ins k ds :: r))[S.length]? = some (.ins k ds) := by simp
  rw [setF_loc h (i := i) (by simp [List.lookup]) (by omega), if_neg (by omega)]
  congr 1
  rw [List.set_append_right _ _ (Nat.le_refl _), Nat.sub_self]
  rfl
theorem init_eq {S : Sto} {t : Str} {ls : List Str} (ht : t.length + 2 ≤ sizeLine) (hs : Txt.split t "\n" = ls ++ [("" : Str)]) :
    mkD 10 m_Reading___init__ [.str t] S = .ok (.loc S.length) (S ++ [.ins 10 [.loc (S.length + 1), .int 0, .int 0], .lst (sL ls)]) := by
  have cnd : (¬("\n" : Str).length = 0 ∧ t.length + 2 ≤ sizeLine) := ⟨by decide +kernel, ht⟩
  have sl : (ls ++ [("" : Str)]).map D.str = sL ls ++ [.str ""] := by unfold sL; simp
  have pop : popLD (.loc (S.length + 1)) [] (S ++ [.ins 10 [], .lst (sL ls ++ [.str ""])]) = .ok (.str "") (S ++ [.ins 10 [], .lst (sL ls)]) := by
    have h : (S ++ [SO.ins 10 [], .lst (sL ls ++ [.str ""])])[S.length + 1]? = some (.lst (sL ls ++ [.str ""])) := by simp
    rw [popLD_loc h]
    congr 1
    rw [List.set_append_right _ _ (by omega), show S.length + 1 - S.length = 1 from by omega]
    rfl
  have spl : splitN (.str t) [.str "\n"] (S ++ [.ins 10 []]) = .ok (.loc (S.length + 1)) (S ++ [.ins 10 [], .lst (sL ls ++ [.str ""])]) := by
    rw [splitN_eq, hs, sl, R.if_pos ⟨by decide +kernel, ht⟩]
    simp
  have f0 := setF_top (S := S) (ds := []) (r := [.lst (sL ls)]) (k := 10) (i := 0) (z := .loc (S.length + 1)) rfl
  have f1 := setF_top (S := S) (ds := [.loc (S.length + 1)]) (r := [.lst (sL ls)]) (k := 10) (i := 1) (z := .int 0) rfl
  have f2 := setF_top (S := S) (ds := [.loc (S.length + 1), .int 0]) (r := [.lst (sL ls)]) (k := 10) (i := 2) (z := .int 0) rfl
  have tr : ∀ T, truD T (.str "") = some false := fun T => (tr_str (w := "") (by decide +kernel)).trans (by decide +kernel)
  simp -implicitDefEqProofs [-splitN_eq, mkD, m_Reading___init__, runDef, b_Reading___init__, spl, pop, tr, f0, f1, f2]
end Mm
set_option maxRecDepth 100000
namespace Mm
open PySem L2
theorem nofault {y : YA} (g : GoodY y) (h3 : y.ks.length ≤ 3) : ∀ S, m_fault_of_system [.tup (y.ks.map kinD), .int y.ah, wiD y.wi, .int y.cr] S = .ok .non S := by
  have hc : (∃ k, y.ks = [k]) ∨ (∃ k k2, y.ks = [k, k2]) ∨ ∃ k k2 k3, y.ks = [k, k2, k3] := by
    have ne := g.ne
    match h : y.ks with
    | [] => exact absurd h ne
    | [k] => exact .inl ⟨k, rfl⟩
    | [k, k2] => exact .inr (.inl ⟨k, k2, rfl⟩)
    | [k, k2, k3] => exact .inr (.inr ⟨k, k2, k3, rfl⟩)
    | _ :: _ :: _ :: _ :: _ => rw [h] at h3; simp at h3
  intro S
  obtain ⟨ks, ah, wi, cr⟩ := y
  have f := g.few
  have z := g.size
  have nd := g.nd
  rcases hc with ⟨k, e⟩ | ⟨k, k2, e⟩ | ⟨k, k2, k3, e⟩
  · subst e
    have e : YA.ses ⟨[k], ah, wi, cr⟩ = List.replicate k.mn k := by simp [YA.ses]
    rw [e, List.length_replicate] at f z
    exact fault_sys1 (g.ks k (by simp)) (fun h => z h k (by simp)) g.ah (fun w hw => ⟨(g.wi w hw).1, (g.wi w hw).2 k (by simp)⟩) g.cr S
  · subst e
    have e : (YA.ses ⟨[k, k2], ah, wi, cr⟩).length = k.mn + k2.mn := by simp [YA.ses]
    rw [e] at f z
    simp at nd
    exact fault_sys2 (g.ks k (by simp)) (g.ks k2 (by simp)) nd f (fun h => ⟨z h k (by simp), z h k2 (by simp)⟩) g.ah (fun w hw => ⟨(g.wi w hw).1, (g.wi w hw).2 k (by simp), (g.wi w hw).2 k2 (by simp)⟩) g.cr S
  · subst e
    have e : (YA.ses ⟨[k, k2, k3], ah, wi, cr⟩).length = k.mn + k2.mn + k3.mn := by simp [YA.ses]; omega
    rw [e] at f z
    simp at nd
    have m1 := (g.ks k (by simp)).mn
    have m2 := (g.ks k2 (by simp)).mn
    have m3 := (g.ks k3 (by simp)).mn
    have z := z (by omega)
    exact fault_sys3 (g.ks k (by simp)) (g.ks k2 (by simp)) (g.ks k3 (by simp)) (by omega) (by omega) (by omega) (fun e => nd.1.1 e) (fun e => nd.1.2 e) nd.2 ⟨z k (by simp), z k2 (by simp), z k3 (by simp)⟩ g.ah (fun w hw => ⟨(g.wi w hw).1, (g.wi w hw).2 k (by simp), (g.wi w hw).2 k2 (by simp), (g.wi w hw).2 k3 (by simp)⟩) g.cr S
theorem sys_mk' {y : YA} (g : GoodY y) (h3 : y.ks.length ≤ 3) (S : Sto) : trunc S (mkDk 5 m_System___init__ (fun x => gSystem x [.int y.ah, wiD y.wi, .int y.cr] ++ [.tup (y.ks.map kinD)]) S) = .ok (sysD y) S := sys_mk g (nofault g h3) h3 S
/-- the shortest script -/
def k1 (nm : Str) (bl : Int) (mn : Nat) : KA := ⟨nm, [.one .take], bl, mn⟩
theorem k1_good {nm : Str} {bl : Int} {mn : Nat} (hn : Tk.IsName nm) (hb : 1 ≤ bl ∧ bl ≤ 3) (hm : 1 ≤ mn ∧ mn ≤ 3) : GoodK (k1 nm bl mn) := by
  refine ⟨hn, ⟨?_, by show Tk.cntAll [Tk.Stm.one .take] ≤ 8; decide +kernel, by simp [k1]⟩, hb, hm⟩
  show Tk.okAll 0 [Tk.Stm.one .take] 0
  simp [Tk.okAll, Tk.Stm.ok]
theorem shortest_eq {nm : Str} {bl : Int} {mn : Nat} (hn : Tk.IsName nm) (hb : 1 ≤ bl ∧ bl ≤ 3) (hm : 1 ≤ mn ∧ mn ≤ 3) (S : Sto) : m_shortest_kind [.str nm, .int bl, .int mn] S = .ok (kinD (k1 nm bl mn)) S := by
  have km := kind_mk (k1_good hn hb hm) S
  have e : (.tup (sDs (k1 nm bl mn).sc) : D) = .tup [.tup [.str "take"]] := rfl
  rw [e] at km
  simp only [k1] at km
  simp -implicitDefEqProofs [m_shortest_kind, runDef, b_shortest_kind, km, k1]
end Mm
set_option maxRecDepth 100000
namespace Mm
open PySem L2
variable {T : Sto} {p q at_ : Nat} {room : Int} {rows : List Str} {y : YA}
theorem nS_fr {i : Int} (h0 : 0 ≤ i) (h1 : i ≤ 8) : 32 ∉ (nS i).cps.toList ∧ 10 ∉ (nS i).cps.toList ∧ nS i ≠ "none" := by
  have h : i = 0 ∨ i = 1 ∨ i = 2 ∨ i = 3 ∨ i = 4 ∨ i = 5 ∨ i = 6 ∨ i = 7 ∨ i = 8 := by omega
  rcases h with rfl | rfl | rfl | rfl | rfl | rfl | rfl | rfl | rfl <;> decide +kernel
theorem jw_list (ws : List Str) : (jw ws).cps.toList = jl 32 (ws.map fun p => p.cps.toList) := by
  unfold jw
  rw [sp_eq, join_list]
def headW (y : YA) : List Str := ["system", "ahead", nS y.ah, "window", wS y.wi, "crashes", nS y.cr]
theorem head_row (y : YA) : headS y = lineS 0 (jw (headW y)) := by
  refine str_ext ?_
  unfold headS lineS headW
  simp only [app_list, jw_list, rep_list (Int.le_refl 0), List.map_cons, List.map_nil, jl]
  have e1 : ("system ahead " : Str).cps.toList = ("system" : Str).cps.toList ++ 32 :: (("ahead" : Str).cps.toList ++ [32]) := by decide +kernel
  have e2 : (" window " : Str).cps.toList = 32 :: (("window" : Str).cps.toList ++ [32]) := by decide +kernel
  have e3 : (" crashes " : Str).cps.toList = 32 :: (("crashes" : Str).cps.toList ++ [32]) := by decide +kernel
  rw [e1, e2, e3]
  simp
theorem wS_fr (g : GoodY y) : 32 ∉ (wS y.wi).cps.toList ∧ 10 ∉ (wS y.wi).cps.toList := by
  cases h : y.wi with
  | none => decide +kernel
  | some w =>
    obtain ⟨k, r, e⟩ := List.exists_cons_of_ne_nil g.ne
    have := (g.wi w h).2 k (by rw [e]; simp)
    have := (g.ks k (by rw [e]; simp)).bl
    have := nS_fr (i := w) (by omega) (g.wi w h).1
    exact ⟨this.1, this.2.1⟩
theorem head_wds (g : GoodY y) : Wds (headW y) := by
  have a := nS_fr (i := y.ah) g.ah.1 (by have := g.ah; omega)
  have c := nS_fr (i := y.cr) g.cr.1 (by have := g.cr; omega)
  have w := wS_fr g
  refine ⟨by simp [headW], fun x hx => ?_, fun x hx => ?_⟩
  · simp only [headW, List.mem_cons, List.not_mem_nil, or_false] at hx
    rcases hx with rfl | rfl | rfl | rfl | rfl | rfl | rfl
    · decide +kernel
    · decide +kernel
    · exact a.1
    · decide +kernel
    · exact w.1
    · decide +kernel
    · exact c.1
  · have e : (headW y).head? = some "system" := rfl
    cases e.symm.trans hx
    decide +kernel
def sysF : List Str := ["system", "ahead", "", "window", "", "crashes", ""]
theorem head_fits (y : YA) : Fits (headW y) sysF :=
  .eq (by decide +kernel) (by decide +kernel) (.eq (by decide +kernel) (by decide +kernel) (.opn (by decide +kernel) (.eq (by decide +kernel) (by decide +kernel) (.opn (by decide +kernel) (.eq (by decide +kernel) (by decide +kernel) (.opn (by decide +kernel) .nil))))))
theorem head_outs (y : YA) : outs (headW y) sysF = [nS y.ah, wS y.wi, nS y.cr] := by
  have e : ("" : Str).cps = #[] := by decide +kernel
  have n1 : ("system" : Str).cps ≠ #[] := by decide +kernel
  have n2 : ("ahead" : Str).cps ≠ #[] := by decide +kernel
  have n3 : ("window" : Str).cps ≠ #[] := by decide +kernel
  have n4 : ("crashes" : Str).cps ≠ #[] := by decide +kernel
  simp only [headW, sysF, outs, if_pos e, if_neg n1, if_neg n2, if_neg n3, if_neg n4]
/-- the system with the shortest kind -/
def y0 (y : YA) : YA := ⟨[k1 "a" 1 1], y.ah, y.wi, y.cr⟩
theorem a_name : Tk.IsName "a" := by
  refine ⟨by decide +kernel, by decide +kernel, ?_⟩
  unfold Tk.Low
  decide +kernel
theorem y0_good (g : GoodY y) : GoodY (y0 y) := by
  have k := k1_good (bl := 1) (mn := 1) a_name (by decide) (by decide)
  refine ⟨fun x hx => by rw [List.mem_singleton.mp hx]; exact k, by simp [y0], by simp [y0], by simp [y0, YA.ses, k1], by simp [y0, YA.ses, k1], g.ah, fun w hw => ⟨(g.wi w hw).1, fun x hx => ?_⟩, g.cr⟩
  rw [List.mem_singleton.mp hx]
  obtain ⟨k, r, e⟩ := List.exists_cons_of_ne_nil g.ne
  have := (g.wi w hw).2 k (by rw [e]; simp)
  have := (g.ks k (by rw [e]; simp)).bl
  show (1 : Int) ≤ w
  omega
end Mm
set_option maxRecDepth 100000
namespace Mm
open PySem L2
variable {T : Sto} {p q at_ : Nat} {room : Int} {rows : List Str} {y : YA}
/-- the reading one row on -/
def rdO (q : Nat) (at_ : Nat) (room : Int) : SO := .ins 10 [.loc q, .int at_, .int room]
theorem RdAt.set (G : RdAt T p q rows at_ room) (a : Nat) (r : Int) (h : a ≤ rows.length) : RdAt (T.set p (rdO q a r)) p q rows a r :=
  ⟨List.getElem?_set_self (Rep.lt G.p0), by rw [List.getElem?_set_ne G.ne]; exact G.q0, G.ne, G.few, G.short, h⟩
theorem RdAt.app (G : RdAt T p q rows at_ room) (l : Sto) : RdAt (T ++ l) p q rows at_ room :=
  ⟨by rw [List.getElem?_append_left (Rep.lt G.p0)]; exact G.p0, by rw [List.getElem?_append_left (Rep.lt G.q0)]; exact G.q0, G.ne, G.few, G.short, G.at_le⟩
theorem set_rd {T : Sto} {p q at_ : Nat} {room : Int} (h : T[p]? = some (rdO q at_ room)) (a : Nat) : setF [(10, 1)] (.loc p) (.int a) T = some (T.set p (rdO q a room)) := by
  rw [setF_loc h (i := 1) rfl (by simp)]
  rfl
theorem frame_eq (g : GoodY y) (G : RdAt T p q rows 0 room) (hr : rows[0]? = some (headS y)) : m_Reading_read_frame [.loc p] T = .ok (sysD (y0 y)) (T.set p (rdO q 1 room)) := by
  rw [head_row] at hr
  have f1 := fields_eq (n := 0) G (head_wds g) (head_fits y) (by simp [headW]) (by decide) hr
  rw [head_outs] at f1
  have ii : isI 10 (.loc p) T = True := eq_true (isI_at G.p0)
  obtain ⟨a1, _, _⟩ := rd_at G
  have d1 := digit_eq (i := y.ah) ⟨g.ah.1, by have := g.ah; omega⟩ T
  have d2 := digit_eq (i := y.cr) ⟨g.cr.1, by have := g.cr; omega⟩ T
  have sh := shortest_eq (bl := 1) (mn := 1) a_name (by decide) (by decide) T
  have sm := sys_mk' (y0_good g) (by simp [y0]) T
  have e : (y0 y).ks.map kinD = [kinD (k1 "a" 1 1)] := rfl
  rw [e] at sm
  simp only [y0] at sm
  have up := set_rd G.p0 1
  have lit : (sysF.map D.str) = [.str "system", .str "ahead", .str "", .str "window", .str "", .str "crashes", .str ""] := rfl
  simp only [sL] at f1
  rw [lit] at f1
  simp only [show ((0 : Nat) : Int) = 0 from rfl, show ((1 : Nat) : Int) = 1 from rfl] at f1 a1 sh up sm
  cases hw : y.wi with
  | none =>
    have w1 : wS y.wi = "none" := by rw [hw]; rfl
    rw [w1] at f1
    rw [hw] at sm
    simp only [wiD_none, wiD_some] at sm
    simp -implicitDefEqProofs [m_Reading_read_frame, runDef, b_Reading_read_frame, f1, ii, d1, d2, sh, sm, a1, up, y0, hw]
  | some w =>
    obtain ⟨k, r, ek⟩ := List.exists_cons_of_ne_nil g.ne
    have := (g.wi w hw).2 k (by rw [ek]; simp)
    have := (g.ks k (by rw [ek]; simp)).bl
    have w8 := (g.wi w hw).1
    have w1 : wS y.wi = nS w := by rw [hw]; rfl
    have nn := (nS_fr (i := w) (by omega) w8).2.2
    have d3 := digit_eq (i := w) ⟨by omega, by omega⟩ T
    rw [w1] at f1
    rw [hw] at sm
    simp only [wiD_none, wiD_some] at sm
    simp -implicitDefEqProofs [m_Reading_read_frame, runDef, b_Reading_read_frame, f1, ii, d1, d2, d3, nn, sh, sm, a1, up, y0, hw]
end Mm
set_option maxRecDepth 100000
namespace Mm
open PySem L2
variable {T : Sto} {p q at_ : Nat} {room : Int} {rows : List Str} {y : YA}
theorem fault_tup (s : Tk.Stm) (d : Nat) (h : Int) (hs : s.ok d h) (pl : List D) (hp : pl.length = 2 * d + 1) (n : Int) (n8 : (n = 8) = False) (S : Sto) : m_fault_of [sD s, .tup pl, .int n, .int h] S = .ok .non S := by
  cases s with
  | one w =>
    unfold Tk.Stm.ok at hs
    cases w with
    | take =>
      have h3 : (h = 3) = False := eq_false (hs rfl)
      simp [sD, Tk.Wd.s, m_fault_of, runDef, b_fault_of, inF, DV, inV, eqV, n8, h3]
    | _ => simp [sD, Tk.Wd.s, m_fault_of, runDef, b_fault_of, inF, DV, inV, eqV, n8]
  | nam b x =>
    unfold Tk.Stm.ok at hs
    have hn := fun S => is_name_ok hs S
    cases b with
    | true => simp [sD, Tk.lockS, m_fault_of, runDef, b_fault_of, inF, DV, inV, eqV, n8, hn]
    | false => simp [sD, Tk.lockS, m_fault_of, runDef, b_fault_of, inF, DV, inV, eqV, n8, hn]
  | ch y z =>
    unfold Tk.Stm.ok at hs
    have hq : ((pl.length : Int) / 2 = 2) = False := eq_false (by rw [hp]; omega)
    simp [sD, m_fault_of, runDef, b_fault_of, inF, DV, inV, eqV, n8, hq, cdiv2]
theorem pyl (l : List Str) : pyD (.lst (sL l)) = some (.list (l.map PyData.str)) := by
  have : ∀ l : List Str, pyDs (sL l) = some (l.map PyData.str) := by
    intro l
    induction l with
    | nil => rfl
    | cons x r ih => 
      show (pyD (.str x)).bind _ = _
      simp [ih, pyD]
  simp [pyD, this]
theorem ch_ok : PyData.strOk "choose" = true := by decide +kernel
/-- the words of a statement's first row -/
def fw : Tk.Stm → List Str
  | .one w => [w.s]
  | .nam b n => [Tk.lockS b, n]
  | .ch _ _ => ["choose"]
theorem low_fr {z : Str} (h : Tk.IsName z) : 32 ∉ z.cps.toList ∧ 10 ∉ z.cps.toList ∧ z.cps.toList ≠ [] := by
  refine ⟨fun hm => by have := h.2.2 32 hm; omega, fun hm => by have := h.2.2 10 hm; omega, fun e => ?_⟩
  have := h.1
  rw [len_list, e] at this
  exact absurd this (by decide)
theorem rd_room (h : T[p]? = some (rdO q at_ room)) : fldD [(10, 2)] (.loc p) T = some (.int room) := fld_at (i := 2) h rfl
theorem rd_here (h : T[p]? = some (rdO q at_ room)) : fldD [(10, 1)] (.loc p) T = some (.int at_) := fld_at (i := 1) h rfl
theorem set_rm {T : Sto} {p q at_ : Nat} {room : Int} (h : T[p]? = some (rdO q at_ room)) (r : Int) : setF [(10, 2)] (.loc p) (.int r) T = some (T.set p (rdO q at_ r)) := by
  rw [setF_loc h (i := 2) rfl (by simp)]
  rfl
end Mm
set_option maxRecDepth 100000
namespace Mm
open PySem L2
/-- what stands behind a branch -/
def Post (n : Nat) (l : List Str) : Prop := l = [] ∨ ∃ (m : Nat) (ws : List Str) (r : List Str), l = lineS m (jw ws) :: r ∧ Wds ws ∧ m < n
theorem Post.mono {n m : Nat} {l : List Str} (h : Post n l) (hm : n ≤ m) : Post m l := h.imp id fun ⟨a, b, c, d, e, f⟩ => ⟨a, b, c, d, e, Nat.lt_of_lt_of_le f hm⟩
theorem while_s (t : TM) (b : SM) (f : Nat) (env : Env) (S : Sto) : whileS t b (f + 1) env S = (t env S).toS env fun k S1 => if k = true then (match b env S1 with
      | .next env2 S2 => whileS t b f env2 S2
      | .cnt env2 S2 => whileS t b f env2 S2
      | .brk env2 S2 => .next env2 S2
      | r => r) else .next env S1 := rfl
/-- the store while a branch is read -/
def BrS (T : Sto) (p q at_ : Nat) (room : Int) (X : List D) (l : Sto) : Sto := T.set p (rdO q at_ room) ++ (.lst X :: l)
section
variable {T : Sto} {p q at_ : Nat} {room : Int} {rows : List Str} {X : List D} {l : Sto}
theorem brs_rd (G : RdAt T p q rows at_ room) {a : Nat} {r : Int} (ha : a ≤ rows.length) (X : List D) (l : Sto) : RdAt (BrS T p q a r X l) p q rows a r := (G.set a r ha).app _
theorem brs_at (T : Sto) (p q a : Nat) (r : Int) (X : List D) (l : Sto) : (BrS T p q a r X l)[T.length]? = some (.lst X) := by
  unfold BrS
  rw [List.getElem?_append_right (by simp)]
  simp
theorem brs_set (hp : p < T.length) (a b : Nat) (r s : Int) (X : List D) (l m : Sto) : (BrS T p q a r X l).set p (rdO q b s) ++ m = BrS T p q b s X (l ++ m) := by
  unfold BrS
  rw [List.set_append_left _ _ (by simpa using hp), List.set_set, List.append_assoc]
  rfl
theorem brs_app (T : Sto) (p q a : Nat) (r : Int) (X Y : List D) (l : Sto) : (BrS T p q a r X l).set T.length (.lst Y) = BrS T p q a r Y l := by
  unfold BrS
  rw [List.set_append_right _ _ (by simp)]
  simp
end
/-- a statement is read -/
def SP (f : FM) (s : Tk.Stm) (d : Nat) (h : Int) : Prop := ∀ (T : Sto) (p q at_ : Nat) (room : Int) (rows post : List Str) (n : Nat) (pl : List D), RdAt T p q rows at_ room → rows.drop at_ = rowS s n ++ post → Post (n + 4) post → n + 4 * (2 - d) ≤ 46 → (s.cnt : Int) ≤ room → s.cnt ≤ 8 → pl.length = 2 * d + 1 →
  ∃ l, f [.loc p, .int n, .tup pl, .int h] T = .ok (.tup [sD s, .int (s.held h)]) (T.set p (rdO q (at_ + (rowS s n).length) (room - s.cnt)) ++ l)
end Mm
set_option maxRecDepth 100000
namespace Mm
open PySem L2
/-- a branch is read -/
def BP (f : FM) (B : List Tk.Stm) (d : Nat) (h : Int) : Prop := ∀ (T : Sto) (p q at_ : Nat) (room : Int) (rows post : List Str) (n : Nat) (pl : List D), RdAt T p q rows at_ room → rows.drop at_ = rowsS B n ++ post → Post n post → n + 4 * (2 - d) ≤ 46 → (Tk.cntAll B : Int) ≤ room → Tk.cntAll B ≤ 8 → pl.length = 2 * d →
  ∃ l, f [.loc p, .int n, .tup pl, .int h] T = .ok (.tup [.tup (sDs B), .int (Tk.heldAll B h)]) (T.set p (rdO q (at_ + (rowsS B n).length) (room - Tk.cntAll B)) ++ l)
theorem set_same {T : Sto} {p : Nat} {o : SO} (h : T[p]? = some o) : T.set p o = T := by
  obtain ⟨h1, h2⟩ := List.getElem?_eq_some_iff.mp h
  rw [← h2]
  exact List.set_getElem_self h1
end Mm
set_option maxRecDepth 100000
namespace Mm
open PySem L2
/-- the store while a choose is read -/
def ChS (T : Sto) (p q at_ : Nat) (room : Int) (X Y : List D) (l : Sto) : Sto := T.set p (rdO q at_ room) ++ (.lst X :: .lst Y :: l)
section
variable {T : Sto} {p q at_ : Nat} {room : Int} {rows : List Str} {X : List D} {l : Sto}
theorem chs_rd (G : RdAt T p q rows at_ room) {a : Nat} {r : Int} (ha : a ≤ rows.length) (X Y : List D) (l : Sto) : RdAt (ChS T p q a r X Y l) p q rows a r := (G.set a r ha).app _
theorem chs_at (T : Sto) (p q a : Nat) (r : Int) (X Y : List D) (l : Sto) : (ChS T p q a r X Y l)[T.length]? = some (.lst X) ∧ (ChS T p q a r X Y l)[T.length + 1]? = some (.lst Y) := by
  unfold ChS
  constructor
  · rw [List.getElem?_append_right (by simp)]
    simp
  · rw [List.getElem?_append_right (by simp)]
    simp
theorem chs_set (hp : p < T.length) (a b : Nat) (r s : Int) (X Y : List D) (l m : Sto) : (ChS T p q a r X Y l).set p (rdO q b s) ++ m = ChS T p q b s X Y (l ++ m) := by
  unfold ChS
  rw [List.set_append_left _ _ (by simpa using hp), List.set_set, List.append_assoc]
  rfl
theorem chs_app0 (T : Sto) (p q a : Nat) (r : Int) (X Y Z : List D) (l : Sto) : (ChS T p q a r X Y l).set T.length (.lst Z) = ChS T p q a r Z Y l := by
  unfold ChS
  rw [List.set_append_right _ _ (by simp)]
  simp
theorem chs_app1 (T : Sto) (p q a : Nat) (r : Int) (X Y Z : List D) (l : Sto) : (ChS T p q a r X Y l).set (T.length + 1) (.lst Z) = ChS T p q a r X Z l := by
  unfold ChS
  rw [List.set_append_right _ _ (by simp)]
  simp
end
/-- one answer's branch, read -/
noncomputable def rdB (f : FM) : SM := (s_seq (s_ex (e_mth tr0 10 m_Reading_fields (e_v 0) (a_cons (e_op addD (e_v 1) (e_k (.int 2))) (a_cons (e_tup (a_cons (e_v 10) a_nil)) a_nil))))
  (s_seq (s_fldaug 10 1 (· + ·) (e_v 0) (e_k (.int 1)))
  (s_seq (s_asg (e_mth tr0 10 f (e_v 0) (a_cons (e_op addD (e_v 1) (e_k (.int 4))) (a_cons (e_op addD (e_v 2) (e_tup (a_cons (e_v 9) a_nil))) (a_cons (e_v 3) a_nil)))) (g_tup (g_cons (g_name 11) (g_cons (g_name 12) g_nil))))
  (s_seq (s_ex (e_meth tyL appD (e_v 7) (a_cons (e_v 11) a_nil)))
  (s_ex (e_meth tyL appD (e_v 8) (a_cons (e_v 12) a_nil)))))))
end Mm
set_option maxRecDepth 100000
namespace Mm
open PySem L2
variable {y : YA}
def kindW (k : KA) : List Str := ["kind", k.nm, "block", nS k.bl, "many", nS k.mn]
theorem kindL_row (k : KA) : kindL k = lineS 2 (jw (kindW k)) := by
  refine str_ext ?_
  unfold kindL lineS kindW
  simp only [app_list, jw_list, rep_list (show (0 : Int) ≤ 2 by decide), List.map_cons, List.map_nil, jl]
  have e1 : ("  kind " : Str).cps.toList = 32 :: 32 :: (("kind" : Str).cps.toList ++ [32]) := by decide +kernel
  have e2 : (" block " : Str).cps.toList = 32 :: (("block" : Str).cps.toList ++ [32]) := by decide +kernel
  have e3 : (" many " : Str).cps.toList = 32 :: (("many" : Str).cps.toList ++ [32]) := by decide +kernel
  rw [e1, e2, e3, show (2 : Int).toNat = 2 from rfl]
  simp [List.replicate]
theorem kindW_wds {k : KA} (g : GoodK k) : Wds (kindW k) := by
  have a := nS_fr (i := k.bl) (by have := g.bl; omega) (by have := g.bl; omega)
  have c := nS_fr (i := k.mn) (by have := g.mn; omega) (by have := g.mn; omega)
  refine ⟨by simp [kindW], fun x hx => ?_, fun x hx => ?_⟩
  · simp only [kindW, List.mem_cons, List.not_mem_nil, or_false] at hx
    rcases hx with rfl | rfl | rfl | rfl | rfl | rfl
    · decide +kernel
    · exact (low_fr g.nm).1
    · decide +kernel
    · exact a.1
    · decide +kernel
    · exact c.1
  · have e : (kindW k).head? = some "kind" := rfl
    cases e.symm.trans hx
    decide +kernel
def kinF : List Str := ["kind", "", "block", "", "many", ""]
theorem kind_fits (k : KA) : Fits (kindW k) kinF :=
  .eq (by decide +kernel) (by decide +kernel) (.opn (by decide +kernel) (.eq (by decide +kernel) (by decide +kernel) (.opn (by decide +kernel) (.eq (by decide +kernel) (by decide +kernel) (.opn (by decide +kernel) .nil)))))
theorem kind_outs (k : KA) : outs (kindW k) kinF = [k.nm, nS k.bl, nS k.mn] := by
  have e : ("" : Str).cps = #[] := by decide +kernel
  have n1 : ("kind" : Str).cps ≠ #[] := by decide +kernel
  have n2 : ("block" : Str).cps ≠ #[] := by decide +kernel
  have n3 : ("many" : Str).cps ≠ #[] := by decide +kernel
  simp only [kindW, kinF, outs, if_pos e, if_neg n1, if_neg n2, if_neg n3]
/-- the system of the kinds so far and the shortest of the next -/
def y1 (y : YA) (ks : List KA) (k : KA) : YA := ⟨ks ++ [k1 k.nm k.bl k.mn], y.ah, y.wi, y.cr⟩
theorem ses_len (y : YA) : y.ses.length = (y.ks.map (·.mn)).sum := by
  unfold YA.ses
  rw [List.length_flatMap]
  congr 1
  refine List.map_congr_left fun k _ => ?_
  rw [List.length_replicate]
theorem y1_good (g : GoodY y) {a b : List KA} {k : KA} (e : y.ks = a ++ k :: b) : GoodY (y1 y a k) ∧ ((y1 y a k).ses.length = 3 → y.ses.length = 3) := by
  have hk : k ∈ y.ks := by rw [e]; simp
  have gk := g.ks k hk
  have hsum : (y1 y a k).ses.length + (b.map (·.mn)).sum = y.ses.length := by
    rw [ses_len, ses_len, e]
    simp [y1, k1]
    omega
  have few := g.few
  have h3 : (y1 y a k).ses.length = 3 → y.ses.length = 3 := by omega
  refine ⟨⟨fun x hx => ?_, ?_, by simp [y1], by omega, fun h x hx => ?_, g.ah, fun w hw => ⟨(g.wi w hw).1, fun x hx => ?_⟩, g.cr⟩, h3⟩
  · rcases List.mem_append.mp hx with hx | hx
    · exact g.ks x (by rw [e]; simp [hx])
    · rw [List.mem_singleton.mp hx]; exact k1_good gk.nm gk.bl gk.mn
  · have nd := g.nd
    rw [e, List.map_append, List.map_cons] at nd
    have : ((y1 y a k).ks.map (·.nm)) = a.map (·.nm) ++ [k.nm] := by simp [y1, k1]
    rw [this]
    refine List.Sublist.nodup ?_ nd
    exact List.Sublist.append (List.Sublist.refl _) (by simp)
  · rcases List.mem_append.mp hx with hx | hx
    · exact g.size (h3 h) x (by rw [e]; simp [hx])
    · rw [List.mem_singleton.mp hx]; show Tk.cntAll [Tk.Stm.one .take] ≤ 4; decide +kernel
  · rcases List.mem_append.mp hx with hx | hx
    · exact (g.wi w hw).2 x (by rw [e]; simp [hx])
    · rw [List.mem_singleton.mp hx]; exact (g.wi w hw).2 k hk
theorem with_eq {z : YA} (g : GoodY z) (h3 : z.ks.length ≤ 3) {f : YA} (e1 : f.ah = z.ah) (e2 : f.wi = z.wi) (e3 : f.cr = z.cr) (S : Sto) : m_with_kinds [sysD f, .lst (z.ks.map kinD)] S = .ok (sysD z) S := by
  have sm := sys_mk' g h3 S
  have a1 := y_ahead f S
  have a2 := y_window f S
  have a3 : fldD [(5, 3)] (sysD f) S = some (.int f.cr) := rfl
  rw [e1] at a1
  rw [e2] at a2
  rw [e3] at a3
  generalize sysD f = sf at *
  generalize sysD z = sz at *
  have hl : (z.ks.map kinD).length ≤ 3 := by simpa using h3
  generalize z.ks.map kinD = zk at *
  have x1 : (zk.length ≤ 1000) = True := eq_true (by omega)
  simp -implicitDefEqProofs [m_with_kinds, runDef, b_with_kinds, a1, a2, a3, sm, x1]
end Mm
set_option maxRecDepth 100000
namespace Mm
open PySem L2
/-! rows as lists of code points, and their words -/
def tS (l : List Nat) : Str := ⟨l.toArray⟩
theorem tS_list (l : List Nat) : (tS l).cps.toList = l := by simp [tS]
theorem tS_inj {a b : List Nat} (h : tS a = tS b) : a = b := by rw [← tS_list a, h, tS_list]
def spl (c : Nat) : List Nat → List (List Nat)
  | [] => [[]]
  | x :: r => if x = c then [] :: spl c r else match spl c r with
    | [] => [[x]]
    | w :: ws => (x :: w) :: ws
theorem spl_cons (c : Nat) : ∀ l, ∃ w ws, spl c l = w :: ws
  | [] => ⟨_, _, rfl⟩
  | x :: r => by
    obtain ⟨w, ws, e⟩ := spl_cons c r
    by_cases h : x = c
    · exact ⟨[], w :: ws, by rw [spl, if_pos h, e]⟩
    · exact ⟨x :: w, ws, by rw [spl, if_neg h, e]⟩
theorem spl_free (c : Nat) : ∀ l, ∀ w ∈ spl c l, c ∉ w
  | [], w, h => by rw [List.mem_singleton.mp h]; simp
  | x :: r, w, h => by
    obtain ⟨v, vs, e⟩ := spl_cons c r
    have ih := spl_free c r
    rw [e] at ih
    by_cases hx : x = c
    · rw [spl, if_pos hx, e] at h
      rcases List.mem_cons.mp h with rfl | h
      · simp
      · exact ih w h
    · rw [spl, if_neg hx, e] at h
      rcases List.mem_cons.mp h with rfl | h
      · intro hm
        rcases List.mem_cons.mp hm with rfl | hm
        · exact hx rfl
        · exact ih v (by simp) hm
      · exact ih w (List.mem_cons_of_mem _ h)
theorem spl_jl (c : Nat) : ∀ l, jl c (spl c l) = l
  | [] => rfl
  | x :: r => by
    obtain ⟨v, vs, e⟩ := spl_cons c r
    have ih := spl_jl c r
    rw [e] at ih
    by_cases hx : x = c
    · rw [spl, if_pos hx, e]
      show [] ++ c :: jl c (v :: vs) = _
      rw [ih, hx]; rfl
    · rw [spl, if_neg hx, e]
      cases vs with
      | nil => rw [← ih]; rfl
      | cons u us =>
        rw [← ih]; rfl
theorem split_spl (z : Str) : Txt.split z " " = (spl 32 z.cps.toList).map tS := by
  have e : Str.join ⟨#[32]⟩ ((spl 32 z.cps.toList).map tS) = z := by
    refine str_ext ?_
    rw [join_list, List.map_map]
    have : ((fun p : Str => p.cps.toList) ∘ tS) = id := funext fun l => tS_list l
    rw [this, List.map_id, spl_jl]
  have h := split_join (c := 32) (ps := (spl 32 z.cps.toList).map tS) (by
    obtain ⟨w, ws, e⟩ := spl_cons 32 z.cps.toList
    rw [e]; simp) (fun p hp => by
    obtain ⟨w, hw, rfl⟩ := List.mem_map.mp hp
    rw [tS_list]; exact spl_free 32 _ w hw)
  rw [e] at h
  rw [sp_eq]; exact h
/-- the words of a row behind n spaces -/
def wL (r : List Nat) (n : Nat) : List (List Nat) := if r.take n = List.replicate n 32 ∧ (spl 32 (r.drop n)).head? ≠ some [] then spl 32 (r.drop n) else []
def wAt (rs : List (List Nat)) (a n : Nat) : List (List Nat) := match rs[a]? with
  | none => []
  | some r => wL r n
section
variable {T : Sto} {p q at_ : Nat} {room : Int} {rs : List (List Nat)}
theorem words_at (G : RdAt T p q (rs.map tS) at_ room) {n : Nat} (hn : n ≤ 50) : m_Reading_words [.loc p, .int n] T = .ok (.lst (sL ((wAt rs at_ n).map tS))) T := by
  cases h : rs[at_]? with
  | none =>
    have l1 := List.getElem?_eq_none_iff.mp h
    have l2 := G.at_le
    rw [List.length_map] at l2
    have e : at_ = (rs.map tS).length := by rw [List.length_map]; omega
    have hw : wAt rs at_ n = [] := by unfold wAt; rw [h]
    rw [hw]
    subst e
    exact words_end G n
  | some r =>
    have hr : (rs.map tS)[at_]? = some (tS r) := by rw [List.getElem?_map, h]; rfl
    rw [words_row G hr hn, split_spl, cutS_from, tS_list]
    have hw : wAt rs at_ n = wL r n := by unfold wAt; rw [h]
    rw [hw]
    have c1 : cutS (tS r) none (some (n : Int)) = repS " " n ↔ r.take n = List.replicate n 32 := by
      constructor
      · intro e
        have e2 := congrArg (fun s => s.cps.toList) e
        simp only [cutS_to, tS_list] at e2
        rw [e2, rep_list (by omega), Int.toNat_natCast]
      · intro e
        refine str_ext ?_
        rw [cutS_to, tS_list, e, rep_list (by omega), Int.toNat_natCast]
    obtain ⟨w, ws, ew⟩ := spl_cons 32 (r.drop n)
    unfold wL
    rw [ew]
    have c2 : (∃ x, ((w :: ws).map tS).head? = some x ∧ x.cps.toList ≠ []) ↔ (w :: ws).head? ≠ some [] := by
      simp [tS]
    by_cases hc : r.take n = List.replicate n 32 ∧ (w :: ws).head? ≠ some []
    · rw [if_pos hc, if_pos ⟨c1.mpr hc.1, c2.mpr hc.2⟩]
    · rw [if_neg hc, if_neg (fun z => hc ⟨c1.mp z.1, c2.mp z.2⟩)]; rfl
end
end Mm
set_option maxRecDepth 100000
namespace Mm
open PySem L2
/-! is_name of any text -/
def lowB (c : Nat) : Bool := decide (97 ≤ c ∧ c ≤ 122)
def isN (l : List Nat) : Bool := decide (1 ≤ l.length ∧ l.length ≤ 8) && l.all lowB
theorem lt_low {c : Nat} : (decide (([c] : List Nat) < [97]) = decide (c < 97)) ∧ (decide (([122] : List Nat) < [c]) = decide (122 < c)) := by
  constructor
  · congr 1; rw [eq_iff_iff, List.cons_lt_cons_iff]
    constructor
    · rintro (q | ⟨_, q⟩)
      · exact q
      · exact absurd q (List.not_lt_nil _)
    · exact fun q => .inl q
  · congr 1; rw [eq_iff_iff, List.cons_lt_cons_iff]
    constructor
    · rintro (q | ⟨_, q⟩)
      · exact q
      · exact absurd q (List.not_lt_nil _)
    · exact fun q => .inl q
theorem lc_any (S : Sto) : ∀ (cs : List Nat) (acc : List Bool) (z : D), acc.length + cs.length ≤ 100 → lcM (g_name 1) t_yes (e_chain strLeD strLeD (e_k (.str "a")) (e_v 1) (e_k (.str "z"))) [some z, none] none (cs.map fun k => .str ⟨#[k]⟩) (acc.map .bl) S = .ok ((acc ++ cs.map lowB).map .bl) S
  | [], acc, z, hn => by simp
  | c :: r, acc, z, hn => by
    have z1 : (acc.length < sizeLine) = True := eq_true (by have := szb; simp at hn; omega)
    have ih := lc_any S r (acc ++ [lowB c]) z (by simp at hn ⊢; omega)
    simp only [List.map_append, List.map_cons, List.map_nil, List.append_assoc, List.cons_append, List.nil_append] at ih ⊢
    obtain ⟨l1, l2⟩ := lt_low (c := c)
    simp only [List.map_cons, lcM_cons]
    by_cases c1 : c < 97
    · have lb : lowB c = false := by unfold lowB; rw [decide_eq_false_iff_not]; omega
      rw [lb] at ih ⊢
      simp [azs, l1, l2, c1, z1, ih]
    · by_cases c2 : 122 < c
      · have lb : lowB c = false := by unfold lowB; rw [decide_eq_false_iff_not]; omega
        rw [lb] at ih ⊢
        simp [azs, l1, l2, c1, c2, z1, ih]
      · have lb : lowB c = true := by unfold lowB; rw [decide_eq_true_iff]; omega
        rw [lb] at ih ⊢
        simp [azs, l1, l2, c1, c2, z1, ih]
theorem is_name_any {z : Str} (hz : z.length ≤ 100) (S : Sto) : m_is_name [.str z] S = .ok (.bl (isN z.cps.toList)) S := by
  have z1 : (z.length ≤ sizeLine) = True := eq_true (by have := szb; omega)
  have zl : z.cps.toList.length = z.length := by simp [Str.length]
  by_cases h : 1 ≤ z.length ∧ z.length ≤ 8
  · have z2 : ((1 : Int) ≤ (z.length : Int)) = True := eq_true (by omega)
    have z3 : ((z.length : Int) ≤ 8) = True := eq_true (by omega)
    have lc := lc_any S z.cps.toList [] (.str z) (by rw [List.length_nil]; omega)
    simp only [List.map_nil, List.nil_append] at lc
    have hb : allO blO ((z.cps.toList.map lowB).map D.bl) = some (z.cps.toList.map lowB) := allO_map (f := blO) (g := D.bl) (fun _ => rfl) _
    have e : isN z.cps.toList = (z.cps.toList.map lowB).all id := by
      unfold isN
      rw [zl, decide_eq_true h, Bool.true_and, List.all_map]; rfl
    rw [e]
    generalize z.cps.toList.map lowB = bs at *
    simp only [m_is_name, runDef, b_is_name]
    simp [isiD, z1, z2, z3, wipeE, lc, allD, hb]
  · have e : isN z.cps.toList = false := by
      unfold isN
      rw [zl, decide_eq_false h, Bool.false_and]
    rw [e]
    simp only [m_is_name, runDef, b_is_name]
    by_cases h1 : (1 : Int) ≤ (z.length : Int)
    · have z2 : ((1 : Int) ≤ (z.length : Int)) = True := eq_true h1
      have z3 : ((z.length : Int) ≤ 8) = False := eq_false (by omega)
      simp [isiD, z1, z2, z3, wipeE]
    · have z2 : ((1 : Int) ≤ (z.length : Int)) = False := eq_false h1
      simp [isiD, z1, z2, wipeE]
end Mm
set_option maxRecDepth 100000
namespace Mm
open PySem L2
theorem form_any {w : Str} {r : List Str} {k : Int} (hr : r.length ≤ 100) (h : items.lookup w = some k) (hc : w ≠ "choose") (S : Sto) : m_has_form [.tup (sL (w :: r))] S = .ok (.bl (decide ((r.length : Int) + 1 = k))) S := by
  have sl : sL (w :: r) = .str w :: sL r := rfl
  have sn : (sL r).length = r.length := by simp
  rw [sl]
  generalize sL r = sr at *
  by_cases hk : (r.length : Int) + 1 = k
  · simp -implicitDefEqProofs [m_has_form, runDef, b_has_form, h, isiD, sn, hk, hc]
  · simp -implicitDefEqProofs [m_has_form, runDef, b_has_form, h, isiD, sn, hk, hc]
def kTake : List Nat := [116, 97, 107, 101]
def kCommit : List Nat := [99, 111, 109, 109, 105, 116]
def kRollback : List Nat := [114, 111, 108, 108, 98, 97, 99, 107]
def kDrop : List Nat := [100, 114, 111, 112]
def kLeave : List Nat := [108, 101, 97, 118, 101]
def kLock : List Nat := [108, 111, 99, 107]
def kUnlock : List Nat := [117, 110, 108, 111, 99, 107]
def kChoose : List Nat := [99, 104, 111, 111, 115, 101]
def kYes : List Nat := [121, 101, 115]
def kNo : List Nat := [110, 111]
theorem k_str : tS kTake = "take" ∧ tS kCommit = "commit" ∧ tS kRollback = "rollback" ∧ tS kDrop = "drop" ∧ tS kLeave = "leave" ∧ tS kLock = "lock" ∧ tS kUnlock = "unlock" ∧ tS kChoose = "choose" ∧ tS kYes = "yes" ∧ tS kNo = "no" := by decide +kernel
/-- a word with no name behind it -/
def wdOf (w : List Nat) : Option Tk.Wd :=
  if w = kTake then some .take else if w = kCommit then some .commit else if w = kRollback then some .rollback else if w = kDrop then some .drop else if w = kLeave then some .leave else none
def lkOf (w : List Nat) : Option Bool := if w = kLock then some true else if w = kUnlock then some false else none
inductive Dc
  | out | fault | ok (s : Tk.Stm)
/-- a row's words as a statement -/
def dcW (ws : List (List Nat)) (h : Int) : Dc := match ws with
  | [] => .out
  | w :: r => match wdOf w with
    | some x => if r = [] then (if x = .take ∧ h = 3 then .fault else .ok (.one x)) else .fault
    | none => match lkOf w with
      | some b => match r with
        | [n] => if isN n then .ok (.nam b (tS n)) else .fault
        | _ => .fault
      | none => .out
theorem wdOf_s {w : List Nat} {x : Tk.Wd} (h : wdOf w = some x) : tS w = x.s := by
  obtain ⟨h1, h2, h3, h4, h5, _⟩ := k_str
  unfold wdOf at h
  repeat' split at h
  all_goals first | (cases h; subst_vars; assumption) | cases h
theorem lkOf_s {w : List Nat} {x : Bool} (h : lkOf w = some x) : tS w = Tk.lockS x := by
  obtain ⟨_, _, _, _, _, h6, h7, _⟩ := k_str
  unfold lkOf at h
  repeat' split at h
  all_goals first | (cases h; subst_vars; assumption) | cases h
theorem wd_items (x : Tk.Wd) : items.lookup x.s = some 1 ∧ x.s ≠ "choose" ∧ x.s ≠ "lock" ∧ x.s ≠ "unlock" := by cases x <;> decide +kernel
theorem lk_items (b : Bool) : items.lookup (Tk.lockS b) = some 2 ∧ Tk.lockS b ≠ "choose" ∧ Tk.lockS b ≠ "take" ∧ (Tk.lockS b = "lock" ∨ Tk.lockS b = "unlock") := by cases b <;> decide +kernel
/-- what fault_of says of a row's words -/
def FW (ws : List (List Nat)) (pl : List D) (h : Int) (S : Sto) : Dc → Prop
  | .out => True
  | .fault => ∃ s, m_fault_of [.tup (sL (ws.map tS)), .tup pl, .int 0, .int h] S = .ok (.str s) S
  | .ok s => m_fault_of [.tup (sL (ws.map tS)), .tup pl, .int 0, .int h] S = .ok .non S ∧ sD s = .tup (sL (ws.map tS)) ∧ s.ok 0 h ∧ s.cnt = 1 ∧ ∀ w, (ws.map tS).head? = some w → ∀ S, m_held_after [.str w, .int h] S = .ok (.int (s.held h)) S
theorem isN_name {n : List Nat} (h : isN n = true) : Tk.IsName (tS n) := by
  unfold isN at h
  rw [Bool.and_eq_true, decide_eq_true_iff, List.all_eq_true] at h
  have hl : (tS n).length = n.length := by rw [len_list, tS_list]
  refine ⟨by omega, by omega, fun c hc => ?_⟩
  rw [tS_list] at hc
  have := h.2 c hc
  unfold lowB at this
  rwa [decide_eq_true_iff] at this
theorem fault_W (ws : List (List Nat)) (pl : List D) (hp : pl.length ≤ 100) (hl : ws.length ≤ 100) (hw : ∀ w ∈ ws, w.length ≤ 100) (h : Int) (S : Sto) : FW ws pl h S (dcW ws h) := by
  cases ws with
  | nil => trivial
  | cons w r =>
    have rl : (r.map tS).length ≤ 100 := by simp at hl ⊢; omega
    have em : (w :: r).map tS = tS w :: r.map tS := rfl
    have el : ((r.map tS).length : Int) = (r.length : Int) := by simp
    unfold dcW
    dsimp only
    cases hx : wdOf w with
    | some x =>
      have ex := wdOf_s hx
      obtain ⟨i1, c1, c2, c3⟩ := wd_items x
      have ff := fun S => form_any (w := x.s) (r := r.map tS) rl i1 c1 S
      dsimp only
      by_cases hr : r = []
      · subst hr
        rw [if_pos rfl]
        have sl : sL ((w :: ([] : List (List Nat))).map tS) = [.str x.s] := by rw [em, ex]; rfl
        have sl2 : sL (x.s :: ([] : List (List Nat)).map tS) = [.str x.s] := rfl
        rw [sl2] at ff
        by_cases ht : x = .take ∧ h = 3
        · obtain ⟨rfl, rfl⟩ := ht
          rw [if_pos ⟨rfl, rfl⟩]
          refine ⟨"full", ?_⟩
          rw [sl]
          simp only [Tk.Wd.s] at *
          simp -implicitDefEqProofs [m_fault_of, runDef, b_fault_of, ff, inF, DV, inV, eqV]
        · rw [if_neg ht]
          have ok : Tk.Stm.ok 0 (.one x) h := by
            unfold Tk.Stm.ok
            exact fun e e2 => ht ⟨e, e2⟩
          refine ⟨?_, by rw [sl]; rfl, ok, rfl, fun v hv S => ?_⟩
          · rw [sl]
            have := fun pl hp S => fault_tup (.one x) 0 h ok pl hp 0 (by simp) S
            unfold Tk.Stm.ok at ok
            cases x with
            | take =>
              have h3 : (h = 3) = False := eq_false (ok rfl)
              simp only [Tk.Wd.s] at *
              simp -implicitDefEqProofs [m_fault_of, runDef, b_fault_of, ff, inF, DV, inV, eqV, h3]
            | _ =>
              simp only [Tk.Wd.s] at *
              simp -implicitDefEqProofs [m_fault_of, runDef, b_fault_of, ff, inF, DV, inV, eqV]
          · rw [em, ex] at hv
            cases hv
            exact held_ok x h S
      · rw [if_neg hr]
        refine ⟨"form", ?_⟩
        have e2 : ((r.map tS).length : Int) + 1 ≠ 1 := by
          rw [el]
          have : r.length ≠ 0 := fun e => hr (List.eq_nil_of_length_eq_zero e)
          omega
        rw [decide_eq_false e2] at ff
        rw [em, ex]
        have ff := ff S
        generalize sL (x.s :: r.map tS) = z at *
        simp -implicitDefEqProofs [m_fault_of, runDef, b_fault_of, ff]
    | none =>
      dsimp only
      cases hb : lkOf w with
      | none => trivial
      | some b =>
        have ex := lkOf_s hb
        obtain ⟨i1, c1, c2, c3⟩ := lk_items b
        have ff := fun S => form_any (w := Tk.lockS b) (r := r.map tS) rl i1 c1 S
        have bad : ((r.map tS).length : Int) + 1 ≠ 2 → FW (w :: r) pl h S .fault := fun e2 => by
          refine ⟨"form", ?_⟩
          rw [decide_eq_false e2] at ff
          rw [em, ex]
          have ff := ff S
          generalize sL (Tk.lockS b :: r.map tS) = z at *
          simp -implicitDefEqProofs [m_fault_of, runDef, b_fault_of, ff]
        match r with
        | [] => exact bad (by simp)
        | n :: m :: r => exact bad (by simp; omega)
        | [n] =>
          dsimp only
          have sl : sL ((w :: [n]).map tS) = [.str (Tk.lockS b), .str (tS n)] := by rw [em, ex]; rfl
          have sl2 : sL (Tk.lockS b :: [n].map tS) = [.str (Tk.lockS b), .str (tS n)] := rfl
          rw [sl2] at ff
          have nn := fun S => is_name_any (z := tS n) (by rw [len_list, tS_list]; exact hw n (by simp)) S
          rw [tS_list] at nn
          by_cases hi : isN n = true
          · rw [if_pos hi]
            rw [hi] at nn
            refine ⟨?_, by rw [sl]; rfl, by unfold Tk.Stm.ok; exact isN_name hi, rfl, fun v hv S => ?_⟩
            · rw [sl]
              have : ((([n].map tS).length : Int) + 1 = 2) = True := by simp
              cases b with
              | true =>
                simp only [Tk.lockS] at *
                simp -implicitDefEqProofs [m_fault_of, runDef, b_fault_of, ff, inF, DV, inV, eqV, nn]
              | false =>
                simp only [Tk.lockS] at *
                simp -implicitDefEqProofs [m_fault_of, runDef, b_fault_of, ff, inF, DV, inV, eqV, nn]
            · rw [em, ex] at hv
              cases hv
              exact held_nam b h S
          · rw [if_neg hi]
            rw [Bool.not_eq_true] at hi
            rw [hi] at nn
            refine ⟨"name", ?_⟩
            rw [sl]
            cases b with
            | true =>
              simp only [Tk.lockS] at *
              simp -implicitDefEqProofs [m_fault_of, runDef, b_fault_of, ff, inF, DV, inV, eqV, nn]
            | false =>
              simp only [Tk.lockS] at *
              simp -implicitDefEqProofs [m_fault_of, runDef, b_fault_of, ff, inF, DV, inV, eqV, nn]
end Mm
set_option maxRecDepth 100000
namespace Mm
open PySem L2
theorem lay_strs : ∀ {ws : List Str}, (∀ w ∈ ws, PyData.strOk w = true) → PyData.canLayAll0 (ws.map PyData.str) = true ∧ PyData.depthAll (ws.map PyData.str) ≤ 20
  | [], _ => ⟨by simp [PyData.canLayAll0], by simp [PyData.depthAll]⟩
  | w :: r, h => by
    obtain ⟨a, b⟩ := lay_strs (ws := r) fun x hx => h x (List.mem_cons_of_mem _ hx)
    have hw := h w (by simp)
    refine ⟨?_, ?_⟩
    · rw [List.map_cons, PyData.canLayAll0.eq_2, a]
      simp [PyData.canLay0, hw]
    · rw [List.map_cons, PyData.depthAll.eq_2]
      simp [PyData.depth]
      omega
theorem eqv_one (ws : List Str) (z : Str) : PyData.eqvAll (ws.map PyData.str) [PyData.str z] = decide (ws = [z]) := by
  match ws with
  | [] => simp [PyData.eqvAll]
  | [a] => simp [PyData.eqvAll, PyData.eqv]; exact Bool.eq_iff_iff.mpr (by simp)
  | a :: b :: r => simp [PyData.eqvAll]
theorem eq_lsts {ws : List Str} (h : ∀ w ∈ ws, PyData.strOk w = true) (S : Sto) : eqD false (.lst (sL ws)) (.lst [.str "choose"]) S = .ok (.bl (decide (ws = [("choose" : Str)]))) S := by
  have p1 := pyl ws
  have p2 := pyl ["choose"]
  obtain ⟨a, b⟩ := lay_strs h
  have e := eqv_one ws "choose"
  obtain ⟨a2, b2⟩ := lay_strs (ws := [("choose" : Str)]) (by simp [ch_ok])
  simp only [sL, List.map_cons, List.map_nil] at p1 p2 e a2 b2
  simp [eqD, pyOf, p1, p2, SeqAt.shaped]
  generalize ws.map PyData.str = zs at *
  have c1 : (PyData.list zs).canLay0 = true := by simp [PyData.canLay0, a]
  have c2 : (PyData.list zs).depth ≤ 64 := by simp [PyData.depth]; omega
  have c3 : (PyData.list [PyData.str (Str.ofString "choose")]).canLay0 = true := by simp [PyData.canLay0, a2]
  have c4 : (PyData.list [PyData.str (Str.ofString "choose")]).depth ≤ 64 := by simp [PyData.depth]; omega
  have c5 : (PyData.list zs).eqv (PyData.list [PyData.str (Str.ofString "choose")]) = decide (ws = [("choose" : Str)]) := by rw [← e]; simp [PyData.eqv]
  rw [R.if_pos ⟨⟨c1, c2⟩, c3, c4⟩, c5]
/-! rows as the law writes them: short, of plain signs -/
def RwOk (rs : List (List Nat)) : Prop := ∀ r ∈ rs, r.length ≤ 60 ∧ ∀ c ∈ r, c < 128
instance (rs : List (List Nat)) : Decidable (RwOk rs) := by unfold RwOk; infer_instance
theorem spl_small (c : Nat) : ∀ l, (spl c l).length ≤ l.length + 1 ∧ ∀ w ∈ spl c l, w.length ≤ l.length ∧ ∀ x ∈ w, x ∈ l
  | [] => ⟨by simp [spl], fun w h => by rw [List.mem_singleton.mp h]; simp⟩
  | x :: r => by
    obtain ⟨v, vs, e⟩ := spl_cons c r
    obtain ⟨i1, i2⟩ := spl_small c r
    rw [e] at i1 i2
    by_cases hx : x = c
    · rw [spl, if_pos hx, e]
      refine ⟨by simp at i1 ⊢; omega, fun w h => ?_⟩
      rcases List.mem_cons.mp h with rfl | h
      · simp
      · have := i2 w h
        exact ⟨by simp; omega, fun y hy => List.mem_cons_of_mem _ (this.2 y hy)⟩
    · rw [spl, if_neg hx, e]
      refine ⟨by simp at i1 ⊢; omega, fun w h => ?_⟩
      rcases List.mem_cons.mp h with rfl | h
      · have := i2 v (by simp)
        refine ⟨by simp; omega, fun y hy => ?_⟩
        rcases List.mem_cons.mp hy with rfl | hy
        · simp
        · exact List.mem_cons_of_mem _ (this.2 y hy)
      · have := i2 w (List.mem_cons_of_mem _ h)
        exact ⟨by simp; omega, fun y hy => List.mem_cons_of_mem _ (this.2 y hy)⟩
theorem wAt_small {rs : List (List Nat)} (hk : RwOk rs) (a n : Nat) : (wAt rs a n).length ≤ 61 ∧ ∀ w ∈ wAt rs a n, w.length ≤ 60 ∧ ∀ c ∈ w, c < 128 := by
  unfold wAt
  cases h : rs[a]? with
  | none => simp
  | some r =>
    obtain ⟨k1, k2⟩ := hk r (List.mem_of_getElem? h)
    dsimp only
    unfold wL
    by_cases hc : r.take n = List.replicate n 32 ∧ (spl 32 (r.drop n)).head? ≠ some []
    · rw [if_pos hc]
      obtain ⟨i1, i2⟩ := spl_small 32 (r.drop n)
      have : (r.drop n).length ≤ r.length := by simp
      exact ⟨by omega, fun w hw => ⟨by have := (i2 w hw).1; omega, fun c hcw => k2 c (List.mem_of_mem_drop ((i2 w hw).2 c hcw))⟩⟩
    · rw [if_neg hc]; simp
theorem wAt_lt {rs : List (List Nat)} {a n : Nat} (h : wAt rs a n ≠ []) : a < rs.length := by
  refine Nat.lt_of_not_le fun hl => h ?_
  unfold wAt
  rw [List.getElem?_eq_none_iff.mpr hl]
theorem tS_ok {w : List Nat} (h : ∀ c ∈ w, c < 128) : PyData.strOk (tS w) = true := by
  unfold PyData.strOk
  rw [← Array.all_toList, List.all_eq_true]
  intro c hc
  rw [tS_list] at hc
  have := h c hc
  simp; omega
section
variable {T : Sto} {p q at_ : Nat} {room : Int} {rs : List (List Nat)}
/-- a row that must hold one word -/
theorem fields_one (G : RdAt T p q (rs.map tS) at_ room) (hk : RwOk rs) {z : List Nat} (hz : z ≠ []) (hz2 : z.length ≤ 60) {n : Nat} (hn : n ≤ 50) : m_Reading_fields [.loc p, .int n, .tup [.str (tS z)]] T = if wAt rs at_ n = [z] then .ok (.lst []) T else .ex ⟨7, [.int at_]⟩ T := by
  have w1 := words_at G hn
  have f2 := rd_here G.p0
  have ii : isI 10 (.loc p) T = True := eq_true (isI_at G.p0)
  obtain ⟨s1, s2⟩ := wAt_small hk at_ n
  have zc : (tS z).cps ≠ #[] := fun e => hz (by have := congrArg Array.toList e; rwa [tS_list] at this)
  have zl : (tS z).length ≤ 100 := by rw [len_list, tS_list]; omega
  have gp : (g_tup (g_cons (g_name 4) (g_cons (g_name 5) g_nil))) = gPair := rfl
  by_cases h : wAt rs at_ n = [z]
  · rw [if_pos h]
    rw [h] at w1
    have hf : Fits [tS z] [tS z] := .eq zc zl .nil
    obtain ⟨ds, vs, a1, a2, a3⟩ := any_fits (T := T) (env := [some (.loc p), some (.int n), some (.tup [.str (tS z)]), some (.lst [.str (tS z)]), none, none]) rfl hf [] (by simp)
    have o1 := out_fits (T := T) (env := [some (.loc p), some (.int n), some (.tup [.str (tS z)]), some (.lst [.str (tS z)]), none, none]) rfl hf [] (by simp)
    rw [show outs [tS z] [tS z] = [] by simp only [outs, if_neg zc]] at o1
    rw [List.nil_append] at a1 o1
    have sl : sL ([z].map tS) = [.str (tS z)] := rfl
    have sl2 : sL [tS z] = [.str (tS z)] := rfl
    rw [sl] at w1
    rw [sl2] at a1 o1
    have sl3 : sL [] = [] := rfl
    rw [sl3] at o1
    have an : anyT (.lst ds) T = .ok (.bl false) T := by
      show R.ofO (((lstOf T (.lst ds)).bind (allO tvO)).map fun xs => D.bl (xs.any trV)) T = _
      rw [show lstOf T (.lst ds) = some ds from rfl, Option.bind_some, a2, Option.map_some, a3]; rfl
    generalize tS z = zz at *
    simp -implicitDefEqProofs [m_Reading_fields, runDef, b_Reading_fields, w1, gp, ii, wipeE, a1, o1, an]
  · rw [if_neg h]
    match e : wAt rs at_ n with
    | [] =>
      rw [e] at w1
      simp -implicitDefEqProofs [m_Reading_fields, runDef, b_Reading_fields, w1, ii, f2, sL]
    | a :: b :: r =>
      rw [e] at w1
      have l : ((sL ((a :: b :: r).map tS)).length : Int) = r.length + 2 := by simp; omega
      have l2 : (((r.length : Int) + 2) = 1) = False := eq_false (by omega)
      generalize sL ((a :: b :: r).map tS) = sw at *
      generalize tS z = zz at *
      simp -implicitDefEqProofs [m_Reading_fields, runDef, b_Reading_fields, w1, ii, f2, l, l2]
    | [a] =>
      rw [e] at w1 h
      have ne : tS a ≠ tS z := fun x => h (by rw [tS_inj x])
      have sl : sL ([a].map tS) = [.str (tS a)] := rfl
      rw [sl] at w1
      have z1 : ((0 : Nat) < sizeLine) = True := eq_true (by have := sizeLine_eq; omega)
      have he : ([some (.loc p), some (.int n), some (.tup [.str (tS z)]), some (.lst [.str (tS a)]), none, none] : Env).length = 6 := rfl
      have a1 : lcM gPair t_yes (e_andT (e_v 5) (e_op (eqD true) (e_v 4) (e_v 5))) [some (.loc p), some (.int n), some (.tup [.str (tS z)]), some (.lst [.str (tS a)]), none, none] none [.tup [.str (tS a), .str (tS z)]] [] T = .ok [.bl true] T := by
        rw [lcStep he]
        have g4 := at4 he (.str (tS a)) (.str (tS z))
        have g5 := at5 he (.str (tS a)) (.str (tS z))
        have tr : truD T (.str (tS z)) = some true := (tr_str (by have := sizeLine_eq; omega)).trans (by rw [decide_eq_false zc]; rfl)
        have nl : ∀ (e : Env) (acc : List D), lcM gPair t_yes (e_andT (e_v 5) (e_op (eqD true) (e_v 4) (e_v 5))) e none [] acc T = .ok acc T := fun e acc => lcM_nilG _ _ _ _ _ _ _ (stay_none _ _)
        generalize lcM gPair = L at *
        generalize tS a = aa at *
        generalize tS z = zz at *
        simp -implicitDefEqProofs [g4, g5, z1, tr, nl, ne]
      have zp : zipD [D.str (tS a)] [.str (tS z)] = [.tup [.str (tS a), .str (tS z)]] := rfl
      have an : anyT (.lst [.bl true]) T = .ok (.bl true) T := by
        show R.ofO (((lstOf T (.lst [.bl true])).bind (allO tvO)).map fun xs => D.bl (xs.any trV)) T = _
        rw [show lstOf T (.lst [.bl true]) = some [.bl true] from rfl, Option.bind_some, allO_cons, tvO_bl]; rfl
      clear he
      have l1 : [D.str (tS a)].length = 1 := rfl
      have l2 : [D.str (tS z)].length = 1 := rfl
      generalize [D.tup [D.str (tS a), D.str (tS z)]] = Z at a1 zp
      generalize [D.str (tS a)] = sw at *
      generalize [D.str (tS z)] = sf at *
      simp -implicitDefEqProofs [m_Reading_fields, runDef, b_Reading_fields, w1, gp, ii, wipeE, a1, an, zp, f2, l1, l2]
end
end Mm
set_option maxRecDepth 100000
namespace Mm
open PySem L2
/-! a reader of rows, as data: what it reads, where it stands then and what room is left; or where it finds a fault -/
inductive Rs
  | out | er (a : Nat) | ok (B : List Tk.Stm) (a : Nat) (room : Int)
abbrev BRd := Nat → Int → Nat → Int → Rs
def rdStm (bR : BRd) (rs : List (List Nat)) (d : Nat) : BRd := fun a room n h =>
  if wAt rs a n = [kChoose] then
    if room = 0 ∨ d = 2 then .er a
    else if wAt rs (a + 1) (n + 2) = [kYes] then
      match bR (a + 2) (room - 1) (n + 4) h with
      | .ok y a2 r2 =>
        if wAt rs a2 (n + 2) = [kNo] then
          match bR (a2 + 1) r2 (n + 4) h with
          | .ok z a3 r3 => .ok [.ch y z] a3 r3
          | x => x
        else .er a2
      | x => x
    else .er (a + 1)
  else if room = 0 then .er a
  else match dcW (wAt rs a n) h with
    | .out => .out
    | .fault => .er a
    | .ok s => .ok [s] (a + 1) (room - 1)
def SPx (f : FM) (rs : List (List Nat)) (d : Nat) (g : BRd) : Prop := ∀ (T : Sto) (p q a : Nat) (room : Int) (n : Nat) (pl : List D) (h : Int), RdAt T p q (rs.map tS) a room → pl.length = 2 * d + 1 → n + 4 * (2 - d) ≤ 46 → wAt rs a n ≠ [] →
  match g a room n h with
  | .out => True
  | .er x => ∃ S', f [.loc p, .int n, .tup pl, .int h] T = .ex ⟨7, [.int x]⟩ S'
  | .ok B x r => x ≤ rs.length ∧ ∃ s l, B = [s] ∧ f [.loc p, .int n, .tup pl, .int h] T = .ok (.tup [sD s, .int (s.held h)]) (T.set p (rdO q x r) ++ l)
def BPx (f : FM) (rs : List (List Nat)) (d : Nat) (g : BRd) : Prop := ∀ (T : Sto) (p q a : Nat) (room : Int) (n : Nat) (pl : List D) (h : Int), RdAt T p q (rs.map tS) a room → pl.length = 2 * d → n + 4 * (2 - d) ≤ 46 →
  match g a room n h with
  | .out => True
  | .er x => ∃ S', f [.loc p, .int n, .tup pl, .int h] T = .ex ⟨7, [.int x]⟩ S'
  | .ok B x r => x ≤ rs.length ∧ ∃ l, f [.loc p, .int n, .tup pl, .int h] T = .ok (.tup [.tup (sDs B), .int (Tk.heldAll B h)]) (T.set p (rdO q x r) ++ l)
variable {rs : List (List Nat)}
/-- one answer's branch -/
theorem ch_itX (hk : RwOk rs) {f : FM} {d : Nat} {g : BRd} (d1 : d ≤ 1) (hB : BPx f rs (d + 1) g) {z : List Nat} (hz : z ≠ []) (hz2 : z.length ≤ 60) (T : Sto) (p q a : Nat) (room : Int) (n : Nat) (pl X Y : List D) (h : Int) (l : Sto) (i : Int) (e4 e5 e6 e11 e12 : Option D) {a0 : Nat} {r0 : Int}
    (G : RdAt T p q (rs.map tS) a0 r0) (ha : a ≤ rs.length) (hn : n + 4 * (2 - d) ≤ 46) (hp : pl.length = 2 * d + 1) (xl : X.length ≤ 4) (yl : Y.length ≤ 4) :
    if wAt rs a (n + 2) = [z] then match g (a + 1) room (n + 4) h with
      | .out => True
      | .er x => ∃ v S', rdB f [some (.loc p), some (.int n), some (.tup pl), some (.int h), e4, e5, e6, some (.loc T.length), some (.loc (T.length + 1)), some (.int i), some (.str (tS z)), e11, e12] (ChS T p q a room X Y l) = .ex ⟨7, [.int x]⟩ v S'
      | .ok B x r => x ≤ rs.length ∧ ∃ l', rdB f [some (.loc p), some (.int n), some (.tup pl), some (.int h), e4, e5, e6, some (.loc T.length), some (.loc (T.length + 1)), some (.int i), some (.str (tS z)), e11, e12] (ChS T p q a room X Y l) =
        .next [some (.loc p), some (.int n), some (.tup pl), some (.int h), e4, e5, e6, some (.loc T.length), some (.loc (T.length + 1)), some (.int i), some (.str (tS z)), some (.tup (sDs B)), some (.int (Tk.heldAll B h))] (ChS T p q x r (X ++ [.tup (sDs B)]) (Y ++ [.int (Tk.heldAll B h)]) l')
    else ∃ v S', rdB f [some (.loc p), some (.int n), some (.tup pl), some (.int h), e4, e5, e6, some (.loc T.length), some (.loc (T.length + 1)), some (.int i), some (.str (tS z)), e11, e12] (ChS T p q a room X Y l) = .ex ⟨7, [.int a]⟩ v S' := by
  have ml : (rs.map tS).length = rs.length := by simp
  have G1 := chs_rd G (a := a) (r := room) (by omega) X Y l
  have ii : isI 10 (.loc p) (ChS T p q a room X Y l) = True := eq_true (isI_at G1.p0)
  have f1 := fields_one G1 hk hz hz2 (n := n + 2) (by omega)
  have q2 : ((n + 2 : Nat) : Int) = (n : Int) + 2 := by omega
  have q4 : ((n + 4 : Nat) : Int) = (n : Int) + 4 := by omega
  rw [q2] at f1
  by_cases hw : wAt rs a (n + 2) = [z]
  · rw [if_pos hw]
    rw [if_pos hw] at f1
    have lt := wAt_lt (rs := rs) (a := a) (n := n + 2) (by rw [hw]; simp)
    have G2 := chs_rd G (a := a + 1) (r := room) (by omega) X Y l
    have ii2 : isI 10 (.loc p) (ChS T p q (a + 1) room X Y l) = True := eq_true (isI_at G2.p0)
    have f2 := rd_here G1.p0
    have u1 := set_rd G1.p0 (a + 1)
    have us := chs_set (q := q) (Rep.lt G.p0) a (a + 1) room room X Y l []
    rw [List.append_nil, List.append_nil] at us
    rw [us] at u1
    have q1 : ((a + 1 : Nat) : Int) = (a : Int) + 1 := by omega
    rw [q1] at u1
    have b1 := hB _ p q (a + 1) room (n + 4) (pl ++ [.int i]) h G2 (by simp [hp]; omega) (by omega)
    rw [q4] at b1
    have x1 : ((pl.length + 1 : Nat) ≤ sizeLine) = True := eq_true (by have := sizeLine_eq; omega)
    have x2 : (X.length < sizeLine) = True := eq_true (by have := sizeLine_eq; omega)
    have x3 : (Y.length < sizeLine) = True := eq_true (by have := sizeLine_eq; omega)
    cases e : g (a + 1) room (n + 4) h with
    | out => trivial
    | er x =>
      rw [e] at b1
      obtain ⟨S', b1⟩ := b1
      dsimp only
      generalize ChS T p q a room X Y l = T0 at *
      generalize ChS T p q (a + 1) room X Y l = T1 at *
      refine ⟨[some (.loc p), some (.int n), some (.tup pl), some (.int h), e4, e5, e6, some (.loc T.length), some (.loc (T.length + 1)), some (.int i), some (.str (tS z)), e11, e12], S', ?_⟩
      generalize tS z = zz at *
      simp -implicitDefEqProofs [rdB, ii, ii2, f1, f2, u1, b1, x1, x2, x3]
    | ok B x r =>
      rw [e] at b1
      obtain ⟨hx, l1, b1⟩ := b1
      rw [chs_set (Rep.lt G.p0)] at b1
      obtain ⟨c0, c1⟩ := chs_at T p q x r X Y (l ++ l1)
      have s0 := chs_app0 T p q x r X Y (X ++ [.tup (sDs B)]) (l ++ l1)
      obtain ⟨c2, c3⟩ := chs_at T p q x r (X ++ [.tup (sDs B)]) Y (l ++ l1)
      have s1 := chs_app1 T p q x r (X ++ [.tup (sDs B)]) Y (Y ++ [.int (Tk.heldAll B h)]) (l ++ l1)
      refine ⟨hx, l ++ l1, ?_⟩
      generalize ChS T p q a room X Y l = T0 at *
      generalize ChS T p q (a + 1) room X Y l = T1 at *
      generalize ChS T p q x r X Y (l ++ l1) = T2 at *
      generalize ChS T p q x r (X ++ [.tup (sDs B)]) Y (l ++ l1) = T3 at *
      generalize ChS T p q x r (X ++ [.tup (sDs B)]) (Y ++ [.int (Tk.heldAll B h)]) (l ++ l1) = T4 at *
      generalize tS z = zz at *
      generalize sDs B = sb at *
      generalize Tk.heldAll B h = hh at *
      simp -implicitDefEqProofs [rdB, ii, ii2, f1, f2, u1, b1, c0, c1, c2, c3, s0, s1, x1, x2, x3]
  · rw [if_neg hw]
    rw [if_neg hw] at f1
    generalize ChS T p q a room X Y l = T0 at *
    refine ⟨[some (.loc p), some (.int n), some (.tup pl), some (.int h), e4, e5, e6, some (.loc T.length), some (.loc (T.length + 1)), some (.int i), some (.str (tS z)), e11, e12], T0, ?_⟩
    generalize tS z = zz at *
    simp -implicitDefEqProofs [rdB, ii, f1]
end Mm
set_option maxRecDepth 100000
namespace Mm
open PySem L2
variable {rs : List (List Nat)}
theorem sL_ne {ws : List (List Nat)} (h : ws ≠ []) : ∃ w r, ws.map tS = w :: r ∧ sL (ws.map tS) = .str w :: sL r := by
  obtain ⟨a, b, rfl⟩ := List.exists_cons_of_ne_nil h
  exact ⟨tS a, b.map tS, rfl, rfl⟩
theorem stm_eq (hk : RwOk rs) {f : FM} {d : Nat} {g : BRd} (d2 : d ≤ 2) (hB : d ≤ 1 → BPx f rs (d + 1) g) : SPx (m_Reading_read_statement' f) rs d (rdStm g rs d) := by
  intro T p q a room n pl h G hp hn hne
  obtain ⟨w1, w2⟩ := wAt_small hk a n
  have wd := words_at G (n := n) (by omega)
  have lt := wAt_lt hne
  have ml : (rs.map tS).length = rs.length := by simp
  have ii : isI 10 (.loc p) T = True := eq_true (isI_at G.p0)
  have g1 := rd_room G.p0
  have g2 := rd_here G.p0
  have u1 := set_rd G.p0 (a + 1)
  have G1 := G.set (a + 1) room (by omega)
  have g3 := rd_room G1.p0
  have u2 := set_rm G1.p0 (room - 1)
  rw [show (T.set p (rdO q (a + 1) room)).set p (rdO q (a + 1) (room - 1)) = T.set p (rdO q (a + 1) (room - 1)) from List.set_set ..] at u2
  have c1 : ((a + 1 : Nat) : Int) = (a : Int) + 1 := by omega
  rw [c1] at u1
  have e1 := fun S => eq_lsts (ws := (wAt rs a n).map tS) (fun w hw => by
    obtain ⟨v, hv, rfl⟩ := List.mem_map.mp hw
    exact tS_ok (w2 v hv).2) S
  have ech : decide ((wAt rs a n).map tS = [("choose" : Str)]) = decide (wAt rs a n = [kChoose]) := by
    congr 1
    rw [eq_iff_iff, ← k_str.2.2.2.2.2.2.2.1]
    constructor
    · intro e
      have : [kChoose].map tS = [tS kChoose] := rfl
      rw [← this] at e
      exact List.map_inj_right (fun x y hxy => tS_inj hxy) |>.mp e
    · intro e; rw [e]; rfl
  simp only [ech] at e1
  unfold rdStm
  by_cases hc : wAt rs a n = [kChoose]
  · rw [if_pos hc]
    rw [decide_eq_true hc] at e1
    have sl : sL ((wAt rs a n).map tS) = [.str "choose"] := by rw [hc, ← k_str.2.2.2.2.2.2.2.1]; rfl
    rw [sl] at wd
    simp only [sl] at e1
    by_cases hr : room = 0 ∨ d = 2
    · rw [if_pos hr]
      refine ⟨T, ?_⟩
      by_cases r0 : room = 0
      · subst r0
        simp -implicitDefEqProofs [m_Reading_read_statement', runDef, b_Reading_read_statement, ii, wd, g1, g2, e1]
      · have hd : d = 2 := hr.resolve_left r0
        subst hd
        have rz : (room = 0) = False := eq_false r0
        have hq : ((pl.length : Int) / 2 = 2) = True := eq_true (by rw [hp]; omega)
        have ft : ∀ S, m_fault_of [.tup [.str "choose", .tup [], .tup []], .tup pl, .int 0, .int h] S = .ok (.str "nested") S := fun S => by
          simp [m_fault_of, runDef, b_fault_of, inF, DV, inV, eqV, hq, cdiv2]
        simp -implicitDefEqProofs [m_Reading_read_statement', runDef, b_Reading_read_statement, ii, wd, g1, g2, e1, rz, ft]
    · rw [if_neg hr]
      have r0 : room ≠ 0 := fun e => hr (.inl e)
      have d1 : d ≤ 1 := by have : d ≠ 2 := fun e => hr (.inr e); omega
      have rz : (room = 0) = False := eq_false r0
      have ft := fun S => fault_tup (.ch [] []) d h (by rw [Tk.Stm.ok]; exact ⟨by omega, by rw [Tk.okAll]; trivial, by rw [Tk.okAll]; trivial⟩) pl hp 0 (by simp) S
      simp only [sD, sDs] at ft
      have ye := k_str.2.2.2.2.2.2.2.2.1
      have no := k_str.2.2.2.2.2.2.2.2.2
      have b1 := ch_itX hk d1 (hB d1) (z := kYes) (by decide) (by decide) T p q (a + 1) (room - 1) n pl [] [] h [] 0 (some (.lst [.str "choose"])) (some (.bl true)) (some (.tup [.str "choose", .tup [], .tup []])) none none G (by omega) hn hp (by simp) (by simp)
      rw [ye] at b1
      have st0 : T.set p (rdO q (a + 1) (room - 1)) ++ [.lst [], .lst []] = ChS T p q (a + 1) (room - 1) [] [] [] := rfl
      have ln : (T.set p (rdO q (a + 1) (room - 1))).length = T.length := by simp
      have hn2 : a + 1 + 1 = a + 2 := rfl
      by_cases hy : wAt rs (a + 1) (n + 2) = [kYes]
      · rw [if_pos hy]
        rw [if_pos hy, hn2] at b1
        cases eg : g (a + 2) (room - 1) (n + 4) h with
        | out => trivial
        | er x =>
          rw [eg] at b1
          obtain ⟨v, S', b1⟩ := b1
          refine ⟨S', ?_⟩
          simp only [m_Reading_read_statement', runDef, b_Reading_read_statement]
          generalize hF : (s_seq (s_ex (e_mth tr0 10 m_Reading_fields _ _)) _) = FB at *
          have hFB : FB = rdB f := hF.symm
          rw [hFB]
          generalize hT1 : T.set p (rdO q (a + 1) (room - 1)) = T1 at *
          simp -implicitDefEqProofs [ii, wd, g1, g2, g3, u1, u2, ft, rz, e1, ln]
          rw [st0, b1]
          rfl
        | ok y a2 r2 =>
          rw [eg] at b1
          obtain ⟨ha2, l1, b1⟩ := b1
          dsimp only
          have b2 := ch_itX hk d1 (hB d1) (z := kNo) (by decide) (by decide) T p q a2 r2 n pl [.tup (sDs y)] [.int (Tk.heldAll y h)] h l1 1 (some (.lst [.str "choose"])) (some (.bl true)) (some (.tup [.str "choose", .tup [], .tup []])) (some (.tup (sDs y))) (some (.int (Tk.heldAll y h))) G ha2 hn hp (by simp) (by simp)
          rw [no] at b2
          simp only [List.nil_append, List.cons_append] at b1 b2
          by_cases hno : wAt rs a2 (n + 2) = [kNo]
          · rw [if_pos hno]
            rw [if_pos hno] at b2
            cases eg2 : g (a2 + 1) r2 (n + 4) h with
            | out => trivial
            | er x =>
              rw [eg2] at b2
              obtain ⟨v, S', b2⟩ := b2
              refine ⟨S', ?_⟩
              simp only [m_Reading_read_statement', runDef, b_Reading_read_statement]
              generalize hF : (s_seq (s_ex (e_mth tr0 10 m_Reading_fields _ _)) _) = FB at *
              have hFB : FB = rdB f := hF.symm
              rw [hFB]
              generalize hT1 : T.set p (rdO q (a + 1) (room - 1)) = T1 at *
              simp -implicitDefEqProofs [ii, wd, g1, g2, g3, u1, u2, ft, rz, e1, ln]
              rw [st0, b1]
              simp -implicitDefEqProofs [b2]
            | ok z a3 r3 =>
              rw [eg2] at b2
              obtain ⟨ha3, l2, b2⟩ := b2
              refine ⟨ha3, .ch y z, .lst [.tup (sDs y), .tup (sDs z)] :: .lst [.int (Tk.heldAll y h), .int (Tk.heldAll z h)] :: l2, rfl, ?_⟩
              have hh : Tk.Stm.held (.ch y z) h = max (Tk.heldAll y h) (Tk.heldAll z h) := by rw [Tk.Stm.held]
              rw [hh]
              have eE : T.set p (rdO q a3 r3) ++ (.lst [.tup (sDs y), .tup (sDs z)] :: .lst [.int (Tk.heldAll y h), .int (Tk.heldAll z h)] :: l2) = ChS T p q a3 r3 [.tup (sDs y), .tup (sDs z)] [.int (Tk.heldAll y h), .int (Tk.heldAll z h)] l2 := rfl
              rw [eE]
              obtain ⟨cA, cB⟩ := chs_at T p q a3 r3 [.tup (sDs y), .tup (sDs z)] [.int (Tk.heldAll y h), .int (Tk.heldAll z h)] l2
              generalize ChS T p q a3 r3 [.tup (sDs y), .tup (sDs z)] [.int (Tk.heldAll y h), .int (Tk.heldAll z h)] l2 = TE at *
              have mx : maxD (.loc (T.length + 1)) TE = .ok (.int (max (Tk.heldAll y h) (Tk.heldAll z h))) TE := by
                unfold maxD
                rw [lstOf_loc cB]
                rfl
              simp only [m_Reading_read_statement', runDef, b_Reading_read_statement]
              generalize hF : (s_seq (s_ex (e_mth tr0 10 m_Reading_fields _ _)) _) = FB at *
              have hFB : FB = rdB f := hF.symm
              rw [hFB]
              generalize hT1 : T.set p (rdO q (a + 1) (room - 1)) = T1 at *
              simp -implicitDefEqProofs [ii, wd, g1, g2, g3, u1, u2, ft, rz, e1, ln]
              rw [st0, b1]
              simp -implicitDefEqProofs [b2, cA, mx, sD]
          · rw [if_neg hno]
            rw [if_neg hno] at b2
            obtain ⟨v, S', b2⟩ := b2
            refine ⟨S', ?_⟩
            simp only [m_Reading_read_statement', runDef, b_Reading_read_statement]
            generalize hF : (s_seq (s_ex (e_mth tr0 10 m_Reading_fields _ _)) _) = FB at *
            have hFB : FB = rdB f := hF.symm
            rw [hFB]
            generalize hT1 : T.set p (rdO q (a + 1) (room - 1)) = T1 at *
            simp -implicitDefEqProofs [ii, wd, g1, g2, g3, u1, u2, ft, rz, e1, ln]
            rw [st0, b1]
            simp -implicitDefEqProofs [b2]
      · rw [if_neg hy]
        rw [if_neg hy] at b1
        obtain ⟨v, S', b1⟩ := b1
        refine ⟨S', ?_⟩
        simp only [m_Reading_read_statement', runDef, b_Reading_read_statement]
        generalize hF : (s_seq (s_ex (e_mth tr0 10 m_Reading_fields _ _)) _) = FB at *
        have hFB : FB = rdB f := hF.symm
        rw [hFB]
        generalize hT1 : T.set p (rdO q (a + 1) (room - 1)) = T1 at *
        simp -implicitDefEqProofs [ii, wd, g1, g2, g3, u1, u2, ft, rz, e1, ln]
        rw [st0, b1]
        rfl
  · rw [if_neg hc]
    rw [decide_eq_false hc] at e1
    have fw := fault_W (wAt rs a n) pl (by omega) (by omega) (fun w hw => by have := (w2 w hw).1; omega) h
    obtain ⟨w, r, em, es⟩ := sL_ne hne
    by_cases r0 : room = 0
    · rw [if_pos r0]
      refine ⟨T, ?_⟩
      generalize sL ((wAt rs a n).map tS) = sw at *
      subst r0
      simp -implicitDefEqProofs [m_Reading_read_statement', runDef, b_Reading_read_statement, ii, wd, g1, g2, e1]
    · rw [if_neg r0]
      have rz : (room = 0) = False := eq_false r0
      cases ed : dcW (wAt rs a n) h with
      | out => trivial
      | fault =>
        simp only [ed] at fw
        obtain ⟨s, ft⟩ := fw T
        refine ⟨T, ?_⟩
        generalize sL ((wAt rs a n).map tS) = sw at *
        simp -implicitDefEqProofs [m_Reading_read_statement', runDef, b_Reading_read_statement, ii, wd, g1, g2, e1, rz, ft]
      | ok s =>
        simp only [ed] at fw
        have ft := fun S => (fw S).1
        obtain ⟨_, es2, _, _, hd⟩ := fw T
        refine ⟨by omega, s, [], rfl, ?_⟩
        rw [List.append_nil, es2]
        have hh := hd w (by rw [em]; rfl)
        have ix : ∀ S, ixD (.tup (sL ((wAt rs a n).map tS))) (.int 0) S = .ok (.str w) S := fun S => by rw [es]; simp
        generalize sL ((wAt rs a n).map tS) = sw at *
        simp -implicitDefEqProofs [m_Reading_read_statement', runDef, b_Reading_read_statement, ii, wd, g1, g2, g3, u1, u2, e1, rz, ft, ix, hh]
end Mm
set_option maxRecDepth 100000
namespace Mm
open PySem L2
variable {rs : List (List Nat)}
def rdBr (sR : BRd) (rs : List (List Nat)) (n : Nat) : Nat → Nat → Int → Int → Rs
  | 0, _, _, _ => .out
  | f + 1, a, room, h => if wAt rs a n = [] then .ok [] a room else match sR a room n h with
    | .ok B a1 r1 => match rdBr sR rs n f a1 r1 (Tk.heldAll B h) with
      | .ok B2 a2 r2 => .ok (B ++ B2) a2 r2
      | x => x
    | x => x
theorem held_one (s : Tk.Stm) (h : Int) : Tk.heldAll [s] h = s.held h := by simp [Tk.heldAll]
theorem wh_eq (hk : RwOk rs) {f : FM} {d : Nat} {sR : BRd} (d2 : d ≤ 2) (hf : SPx f rs d sR) : ∀ (fuel : Nat) (T : Sto) (p q a : Nat) (room : Int) (n : Nat) (pl : List D) (h : Int) (X : List D) (l : Sto) (at0 : Nat) (rm0 : Int) (e5 : Option D), RdAt T p q (rs.map tS) at0 rm0 → a ≤ rs.length → n + 4 * (2 - d) ≤ 46 → pl.length = 2 * d → X.length + fuel ≤ 50 →
    match rdBr sR rs n fuel a room h with
    | .out => True
    | .er x => ∃ v S', whileS (t_v (e_mth tr0 10 m_Reading_words (e_v 0) (a_cons (e_v 1) a_nil))) (s_seq (s_asg (e_mth tr0 10 f (e_v 0) (a_cons (e_v 1) (a_cons (e_op addD (e_v 2) (e_tup (a_cons (e_call (f1 lenD) (a_cons (e_v 4) a_nil)) a_nil))) (a_cons (e_v 3) a_nil)))) (g_tup (g_cons (g_name 5) (g_cons (g_name 3) g_nil)))) (s_ex (e_meth tyL appD (e_v 4) (a_cons (e_v 5) a_nil)))) fuel [some (.loc p), some (.int n), some (.tup pl), some (.int h), some (.loc T.length), e5] (BrS T p q a room X l) = .ex ⟨7, [.int x]⟩ v S'
    | .ok B x r => x ≤ rs.length ∧ ∃ l' e5', whileS (t_v (e_mth tr0 10 m_Reading_words (e_v 0) (a_cons (e_v 1) a_nil))) (s_seq (s_asg (e_mth tr0 10 f (e_v 0) (a_cons (e_v 1) (a_cons (e_op addD (e_v 2) (e_tup (a_cons (e_call (f1 lenD) (a_cons (e_v 4) a_nil)) a_nil))) (a_cons (e_v 3) a_nil)))) (g_tup (g_cons (g_name 5) (g_cons (g_name 3) g_nil)))) (s_ex (e_meth tyL appD (e_v 4) (a_cons (e_v 5) a_nil)))) fuel [some (.loc p), some (.int n), some (.tup pl), some (.int h), some (.loc T.length), e5] (BrS T p q a room X l) =
      .next [some (.loc p), some (.int n), some (.tup pl), some (.int (Tk.heldAll B h)), some (.loc T.length), e5'] (BrS T p q x r (X ++ sDs B) l')
  | 0, T, p, q, a, room, n, pl, h, X, l, at0, rm0, e5, G, ha, hn, hp, hx => trivial
  | fuel + 1, T, p, q, a, room, n, pl, h, X, l, at0, rm0, e5, G, ha, hn, hp, hx => by
    have ml : (rs.map tS).length = rs.length := by simp
    have G1 := brs_rd G (a := a) (r := room) (by omega) X l
    have ii : isI 10 (.loc p) (BrS T p q a room X l) = True := eq_true (isI_at G1.p0)
    have wd := words_at G1 (n := n) (by omega)
    unfold rdBr
    by_cases hw : wAt rs a n = []
    · rw [if_pos hw]
      rw [hw] at wd
      have sl : sL (([] : List (List Nat)).map tS) = [] := rfl
      rw [sl] at wd
      refine ⟨ha, l, e5, ?_⟩
      rw [while_s]
      have ez : BrS T p q a room (X ++ sDs []) l = BrS T p q a room X l := by simp [sDs]
      have eh : Tk.heldAll [] h = h := by simp [Tk.heldAll]
      rw [ez, eh]
      simp -implicitDefEqProofs [ii, wd]
    · rw [if_neg hw]
      obtain ⟨w, ws, em, es⟩ := sL_ne hw
      have tw : (sL ((wAt rs a n).map tS)).isEmpty = false := by rw [es]; rfl
      have c1 := hf _ p q a room n (pl ++ [.int X.length]) h G1 (by simp [hp]) hn hw
      have cc := brs_at T p q a room X l
      have x1 : ((pl.length + 1 : Nat) ≤ sizeLine) = True := eq_true (by have := sizeLine_eq; omega)
      have x2 : (X.length < sizeLine) = True := eq_true (by have := sizeLine_eq; omega)
      cases e : sR a room n h with
      | out => trivial
      | er x =>
        rw [e] at c1
        obtain ⟨S', c1⟩ := c1
        dsimp only
        rw [while_s]
        refine ⟨[some (.loc p), some (.int n), some (.tup pl), some (.int h), some (.loc T.length), e5], S', ?_⟩
        generalize BrS T p q a room X l = T0 at *
        generalize sL ((wAt rs a n).map tS) = sw at *
        simp -implicitDefEqProofs [ii, wd, tw, cc, c1, x1, x2]
      | ok B a1 r1 =>
        rw [e] at c1
        obtain ⟨ha1, s, l1, rfl, c1⟩ := c1
        dsimp only
        rw [held_one]
        rw [brs_set (Rep.lt G.p0)] at c1
        have cd := brs_at T p q a1 r1 X (l ++ l1)
        have ce := brs_app T p q a1 r1 X (X ++ [sD s]) (l ++ l1)
        have ih := wh_eq hk d2 hf fuel T p q a1 r1 n pl (s.held h) (X ++ [sD s]) (l ++ l1) at0 rm0 (some (sD s)) G ha1 hn hp (by simp; omega)
        have step : ∀ R, whileS (t_v (e_mth tr0 10 m_Reading_words (e_v 0) (a_cons (e_v 1) a_nil))) (s_seq (s_asg (e_mth tr0 10 f (e_v 0) (a_cons (e_v 1) (a_cons (e_op addD (e_v 2) (e_tup (a_cons (e_call (f1 lenD) (a_cons (e_v 4) a_nil)) a_nil))) (a_cons (e_v 3) a_nil)))) (g_tup (g_cons (g_name 5) (g_cons (g_name 3) g_nil)))) (s_ex (e_meth tyL appD (e_v 4) (a_cons (e_v 5) a_nil)))) fuel [some (.loc p), some (.int n), some (.tup pl), some (.int (s.held h)), some (.loc T.length), some (sD s)] (BrS T p q a1 r1 (X ++ [sD s]) (l ++ l1)) = R →
            whileS (t_v (e_mth tr0 10 m_Reading_words (e_v 0) (a_cons (e_v 1) a_nil))) (s_seq (s_asg (e_mth tr0 10 f (e_v 0) (a_cons (e_v 1) (a_cons (e_op addD (e_v 2) (e_tup (a_cons (e_call (f1 lenD) (a_cons (e_v 4) a_nil)) a_nil))) (a_cons (e_v 3) a_nil)))) (g_tup (g_cons (g_name 5) (g_cons (g_name 3) g_nil)))) (s_ex (e_meth tyL appD (e_v 4) (a_cons (e_v 5) a_nil)))) (fuel + 1) [some (.loc p), some (.int n), some (.tup pl), some (.int h), some (.loc T.length), e5] (BrS T p q a room X l) = R := fun R hR => by
          rw [while_s, ← hR]
          generalize BrS T p q a room X l = T0 at *
          generalize BrS T p q a1 r1 X (l ++ l1) = T1 at *
          generalize BrS T p q a1 r1 (X ++ [sD s]) (l ++ l1) = T2 at *
          generalize sL ((wAt rs a n).map tS) = sw at *
          simp -implicitDefEqProofs [ii, wd, tw, cc, cd, ce, c1, x1, x2]
        cases e2 : rdBr sR rs n fuel a1 r1 (s.held h) with
        | out => trivial
        | er x =>
          rw [e2] at ih
          obtain ⟨v, S', ih⟩ := ih
          exact ⟨v, S', step _ ih⟩
        | ok B2 a2 r2 =>
          rw [e2] at ih
          obtain ⟨ha2, l', e5', ih⟩ := ih
          refine ⟨ha2, l', e5', ?_⟩
          rw [step _ ih]
          have e1 : X ++ [sD s] ++ sDs B2 = X ++ sDs ([s] ++ B2) := by simp [sDs]
          have e3 : Tk.heldAll ([s] ++ B2) h = Tk.heldAll B2 (s.held h) := by simp [Tk.heldAll]
          rw [e1, e3]
theorem br_eq (hk : RwOk rs) {f : FM} {d : Nat} {sR : BRd} (d2 : d ≤ 2) (hf : SPx f rs d sR) : BPx (m_Reading_read_branch' f) rs d fun a room n h => rdBr sR rs n 20 a room h := by
  intro T p q a room n pl h G hp hn
  have ml : (rs.map tS).length = rs.length := by simp
  have w := wh_eq hk d2 hf 20 T p q a room n pl h [] [] a room none G (by have := G.at_le; omega) hn hp (by simp)
  have i0 : BrS T p q a room [] [] = T ++ [.lst []] := by
    unfold BrS
    rw [set_same (show T[p]? = some (rdO q a room) from G.p0)]
  rw [i0] at w
  dsimp only
  cases e : rdBr sR rs n 20 a room h with
  | out => trivial
  | er x =>
    simp only [e] at w ⊢
    obtain ⟨v, S', w⟩ := w
    refine ⟨S', ?_⟩
    simp only [m_Reading_read_branch', runDef, b_Reading_read_branch]
    generalize hW : (whileS _ _ 20) = W at *
    simp -implicitDefEqProofs [w]
  | ok B x r =>
    simp only [e] at w ⊢
    obtain ⟨hx, l', e5', w⟩ := w
    refine ⟨hx, .lst (sDs B) :: l', ?_⟩
    rw [List.nil_append] at w
    have cc := brs_at T p q x r (sDs B) l'
    show _ = R.ok _ (BrS T p q x r (sDs B) l')
    generalize BrS T p q x r (sDs B) l' = T2 at *
    generalize sDs B = sd at *
    generalize Tk.heldAll B h = hh at *
    simp only [m_Reading_read_branch', runDef, b_Reading_read_branch]
    generalize hW : (whileS _ _ 20) = W at *
    simp -implicitDefEqProofs [w, cc]
/-- a branch at some depth, k levels from the deepest -/
def rdD (rs : List (List Nat)) : Nat → BRd
  | 0 => fun _ _ _ _ => .out
  | k + 1 => fun a room n h => rdBr (rdStm (rdD rs k) rs (2 - k)) rs n 20 a room h
theorem rd_all (hk : RwOk rs) : ∀ (k : Nat), k ≤ 2 → BPx (mRR (2 * k + 2)).1 rs (2 - k) (rdD rs (k + 1))
  | 0, _ => br_eq hk (by omega) (stm_eq hk (by omega) fun h => by omega)
  | k + 1, h2 => br_eq hk (by omega) (stm_eq hk (by omega) fun _ => by
      have e : 2 - (k + 1) + 1 = 2 - k := by omega
      rw [e]
      exact rd_all hk k (by omega))
theorem rd_top (hk : RwOk rs) : BPx m_Reading_read_branch rs 0 (rdD rs 3) := rd_all hk 2 (by omega)
end Mm
set_option maxRecDepth 100000
namespace Mm
open PySem L2
variable {rs : List (List Nat)}
/-! what was read is good -/
theorem dc_ok {ws : List (List Nat)} {h : Int} {s : Tk.Stm} (e : dcW ws h = .ok s) (d : Nat) : s.ok d h ∧ s.cnt = 1 := by
  unfold dcW at e
  repeat' split at e
  all_goals first | cases e | skip
  · rename_i ht
    refine ⟨?_, rfl⟩
    unfold Tk.Stm.ok
    exact fun e1 e2 => ht ⟨e1, e2⟩
  · rename_i hi
    exact ⟨by unfold Tk.Stm.ok; exact isN_name hi, rfl⟩
def OkR (d : Nat) (g : BRd) : Prop := ∀ a room n h B x r, 0 ≤ room → g a room n h = .ok B x r → Tk.okAll d B h ∧ (Tk.cntAll B : Int) = room - r ∧ 0 ≤ r
theorem stm_ok {g : BRd} {d : Nat} (d2 : d ≤ 2) (hg : d ≤ 1 → OkR (d + 1) g) : OkR d (rdStm g rs d) := by
  intro a room n h B x r h0 e
  unfold rdStm at e
  by_cases hc : wAt rs a n = [kChoose]
  · rw [if_pos hc] at e
    by_cases hr : room = 0 ∨ d = 2
    · rw [if_pos hr] at e; cases e
    · rw [if_neg hr] at e
      have r0 : room ≠ 0 := fun e => hr (.inl e)
      have d1 : d ≤ 1 := by have : d ≠ 2 := fun e => hr (.inr e); omega
      by_cases hy : wAt rs (a + 1) (n + 2) = [kYes]
      · rw [if_pos hy] at e
        cases e1 : g (a + 2) (room - 1) (n + 4) h with
        | out => rw [e1] at e; cases e
        | er x => rw [e1] at e; cases e
        | ok y a2 r2 =>
          rw [e1] at e
          obtain ⟨o1, c1, p1⟩ := hg d1 _ _ _ _ _ _ _ (by omega) e1
          dsimp only at e
          by_cases hno : wAt rs a2 (n + 2) = [kNo]
          · rw [if_pos hno] at e
            cases e2 : g (a2 + 1) r2 (n + 4) h with
            | out => rw [e2] at e; cases e
            | er x => rw [e2] at e; cases e
            | ok z a3 r3 =>
              rw [e2] at e
              cases e
              obtain ⟨o2, c2, p2⟩ := hg d1 _ _ _ _ _ _ _ p1 e2
              refine ⟨?_, ?_, p2⟩
              · simp only [Tk.okAll, Tk.Stm.ok]
                exact ⟨⟨by omega, o1, o2⟩, trivial⟩
              · simp only [Tk.cntAll, Tk.Stm.cnt]
                omega
          · rw [if_neg hno] at e; cases e
      · rw [if_neg hy] at e; cases e
  · rw [if_neg hc] at e
    by_cases r0 : room = 0
    · rw [if_pos r0] at e; cases e
    · rw [if_neg r0] at e
      cases ed : dcW (wAt rs a n) h with
      | out => rw [ed] at e; cases e
      | fault => rw [ed] at e; cases e
      | ok s =>
        rw [ed] at e
        cases e
        obtain ⟨o, c⟩ := dc_ok ed d
        refine ⟨?_, ?_, by omega⟩
        · simp only [Tk.okAll]
          exact ⟨o, trivial⟩
        · simp only [Tk.cntAll]
          omega
theorem okAll_app (d : Nat) : ∀ (B C : List Tk.Stm) (h : Int), Tk.okAll d B h → Tk.okAll d C (Tk.heldAll B h) → Tk.okAll d (B ++ C) h
  | [], C, h, _, hc => by simpa [Tk.heldAll] using hc
  | s :: B, C, h, hb, hc => by
    rw [Tk.okAll] at hb
    rw [Tk.heldAll] at hc
    rw [List.cons_append, Tk.okAll]
    exact ⟨hb.1, okAll_app d B C _ hb.2 hc⟩
theorem cntAll_app : ∀ (B C : List Tk.Stm), Tk.cntAll (B ++ C) = Tk.cntAll B + Tk.cntAll C
  | [], C => by simp [Tk.cntAll]
  | s :: B, C => by rw [List.cons_append, Tk.cntAll, Tk.cntAll, cntAll_app B C]; omega
theorem rdBr_ok {g : BRd} {d : Nat} (hg : OkR d g) (n : Nat) : ∀ f a room h B x r, 0 ≤ room → rdBr g rs n f a room h = .ok B x r → Tk.okAll d B h ∧ (Tk.cntAll B : Int) = room - r ∧ 0 ≤ r
  | 0, a, room, h, B, x, r, h0, e => by cases e
  | f + 1, a, room, h, B, x, r, h0, e => by
    unfold rdBr at e
    by_cases hw : wAt rs a n = []
    · rw [if_pos hw] at e
      cases e
      exact ⟨by simp [Tk.okAll], by simp [Tk.cntAll], h0⟩
    · rw [if_neg hw] at e
      cases e1 : g a room n h with
      | out => rw [e1] at e; cases e
      | er x => rw [e1] at e; cases e
      | ok B1 a1 r1 =>
        rw [e1] at e
        obtain ⟨o1, c1, p1⟩ := hg _ _ _ _ _ _ _ h0 e1
        dsimp only at e
        cases e2 : rdBr g rs n f a1 r1 (Tk.heldAll B1 h) with
        | out => rw [e2] at e; cases e
        | er x => rw [e2] at e; cases e
        | ok B2 a2 r2 =>
          rw [e2] at e
          cases e
          obtain ⟨o2, c2, p2⟩ := rdBr_ok hg n f a1 r1 _ _ _ _ p1 e2
          exact ⟨okAll_app d _ _ _ o1 o2, by rw [cntAll_app]; omega, p2⟩
theorem rdD_ok : ∀ k, k ≤ 2 → OkR (2 - k) (rdD rs (k + 1))
  | 0, _ => fun a room n h B x r h0 e => rdBr_ok (stm_ok (by omega) fun h => by omega) n 20 a room h B x r h0 e
  | k + 1, h2 => fun a room n h B x r h0 e => rdBr_ok (stm_ok (by omega) fun _ => by
      have e : 2 - (k + 1) + 1 = 2 - k := by omega
      rw [e]
      exact rdD_ok k (by omega)) n 20 a room h B x r h0 e
theorem read_kind_X {y : YA} (g : GoodY y) (h3 : y.ks.length ≤ 3) (hk : RwOk rs) {a b : List KA} {k : KA} (e : y.ks = a ++ k :: b) {S : Sto} {p q c at_ : Nat} {room rm : Int} (hrm : rm = if (y1 y a k).ses.length = 3 then 4 else 8) (G : RdAt S p q (rs.map tS) at_ room) (hc : S[c]? = some (.lst (a.map kinD))) (hpc : p ≠ c) (h1 : (rs.map tS)[at_]? = some (kindL k)) :
    match rdD rs 3 (at_ + 1) rm 4 0 with
    | .out => True
    | .er x => ∃ S', m_Reading_read_kind [.loc p, sysD (y0 y), .loc c] S = .ex ⟨7, [.int x]⟩ S'
    | .ok B x r => if B = [] then ∃ S', m_Reading_read_kind [.loc p, sysD (y0 y), .loc c] S = .ex ⟨7, [.int x]⟩ S' else x ≤ rs.length ∧ ∃ l, m_Reading_read_kind [.loc p, sysD (y0 y), .loc c] S = .ok (kinD ⟨k.nm, B, k.bl, k.mn⟩) (S.set p (rdO q x r) ++ l) := by
  have ml : (rs.map tS).length = rs.length := by simp
  have hkk : k ∈ y.ks := by rw [e]; simp
  have gk := g.ks k hkk
  obtain ⟨gy, g3⟩ := y1_good g e
  have yl : (y1 y a k).ks.length ≤ 3 := by rw [e] at h3; simp [y1] at h3 ⊢; omega
  rw [kindL_row] at h1
  have lt := (List.getElem?_eq_some_iff.mp h1).1
  have f1 := fields_eq (n := 2) G (kindW_wds gk) (kind_fits k) (by simp [kindW]) (by decide) h1
  rw [kind_outs] at f1
  have ii : isI 10 (.loc p) S = True := eq_true (isI_at G.p0)
  have a1 := rd_here G.p0
  have d1 := digit_eq (i := k.bl) (by have := gk.bl; omega) S
  have d2 := digit_eq (i := k.mn) (by have := gk.mn; omega) S
  have sh := shortest_eq gk.nm gk.bl gk.mn S
  have wi := with_eq gy yl (f := y0 y) rfl rfl rfl S
  have eks : (y1 y a k).ks.map kinD = a.map kinD ++ [kinD (k1 k.nm k.bl k.mn)] := by simp [y1]
  rw [eks] at wi
  have up := set_rd G.p0 (at_ + 1)
  have G1 := G.set (at_ + 1) room (by omega)
  have u2 := set_rm G1.p0 rm
  rw [show (S.set p (rdO q (at_ + 1) room)).set p (rdO q (at_ + 1) rm) = S.set p (rdO q (at_ + 1) rm) from List.set_set ..] at u2
  have G2 := G.set (at_ + 1) rm (by omega)
  have ii2 : isI 10 (.loc p) (S.set p (rdO q (at_ + 1) rm)) = True := eq_true (isI_at G2.p0)
  have br := rd_top hk (S.set p (rdO q (at_ + 1) rm)) p q (at_ + 1) rm 4 [] 0 G2 rfl (by decide)
  have rm0 : 0 ≤ rm := by rw [hrm]; split <;> decide
  have b1 : ∀ S, fldD [(4, 2)] (kinD (k1 k.nm k.bl k.mn)) S = some (.int k.bl) := fun S => k_block S (k1 k.nm k.bl k.mn)
  have b2 : ∀ S, fldD [(4, 3)] (kinD (k1 k.nm k.bl k.mn)) S = some (.int k.mn) := fun S => k_many S (k1 k.nm k.bl k.mn)
  have c1 : ((at_ + 1 : Nat) : Int) = (at_ : Int) + 1 := by omega
  rw [c1] at up
  simp only [show ((2 : Nat) : Int) = 2 from rfl, show ((4 : Nat) : Int) = 4 from rfl, sL, kinF, List.map_cons, List.map_nil] at f1 br
  have ys := fun S => y_sessions (y1 y a k) S
  have al : (a.map kinD).length ≤ 3 := by rw [e] at h3; simp at h3 ⊢; omega
  have sl : (sL ((y1 y a k).ses.map (·.nm))).length = (y1 y a k).ses.length := by simp
  have x9 : ((a.map kinD).length ≤ 999) = True := eq_true (by omega)
  have room3 : ∀ {R : Prop}, ((y1 y a k).ses.length = 3 → rm = 4 → R) → (((sL ((y1 y a k).ses.map (·.nm))).length : Int) ≠ 3 → rm = 8 → R) → R := fun p1 p2 => by
    by_cases hz : (y1 y a k).ses.length = 3
    · exact p1 hz (by rw [hrm, if_pos hz])
    · exact p2 (by rw [sl]; omega) (by rw [hrm, if_neg hz])
  cases er : rdD rs 3 (at_ + 1) rm 4 0 with
  | out => trivial
  | er x =>
    rw [er] at br
    obtain ⟨S', br⟩ := br
    refine ⟨S', ?_⟩
    generalize a.map kinD = za at *
    generalize sL ((y1 y a k).ses.map (·.nm)) = sn at *
    generalize sysD (y1 y a k) = sy at *
    generalize sysD (y0 y) = s0 at *
    generalize kinD (k1 k.nm k.bl k.mn) = kk at *
    generalize S.set p (rdO q (at_ + 1) rm) = S2 at *
    generalize S.set p (rdO q (at_ + 1) room) = S1 at *
    refine room3 (fun hz e4 => ?_) (fun hz e8 => ?_)
    · rw [e4] at u2
      rw [hz] at sl
      simp -implicitDefEqProofs [m_Reading_read_kind, runDef, b_Reading_read_kind, f1, ii, ii2, a1, d1, d2, sh, wi, up, u2, br, b1, b2, ys, hc, sl, k1, x9]
    · rw [e8] at u2
      have hz : ((sn.length : Int) = 3) = False := eq_false hz
      simp -implicitDefEqProofs [m_Reading_read_kind, runDef, b_Reading_read_kind, f1, ii, ii2, a1, d1, d2, sh, wi, up, u2, br, b1, b2, ys, hc, hz, k1, x9]
  | ok B x r =>
    rw [er] at br
    obtain ⟨hx, l, br⟩ := br
    obtain ⟨okB, cB, pB⟩ := rdD_ok 2 (by omega) _ _ _ _ _ _ _ rm0 er
    rw [show (S.set p (rdO q (at_ + 1) rm)).set p (rdO q x r) = S.set p (rdO q x r) from List.set_set ..] at br
    have Gx := (G.set x r (by omega)).app l
    have ax := rd_here Gx.p0
    dsimp only
    by_cases hB : B = []
    · rw [if_pos hB]
      subst hB
      refine ⟨S.set p (rdO q x r) ++ l, ?_⟩
      have sd0 : sDs [] = [] := by rw [sDs]
      rw [sd0] at br
      generalize S.set p (rdO q x r) ++ l = SE at *
      generalize Tk.heldAll [] 0 = hh at *
      generalize a.map kinD = za at *
      generalize sL ((y1 y a k).ses.map (·.nm)) = sn at *
      generalize sysD (y1 y a k) = sy at *
      generalize sysD (y0 y) = s0 at *
      generalize kinD (k1 k.nm k.bl k.mn) = kk at *
      generalize S.set p (rdO q (at_ + 1) rm) = S2 at *
      generalize S.set p (rdO q (at_ + 1) room) = S1 at *
      refine room3 (fun hz e4 => ?_) (fun hz e8 => ?_)
      · rw [e4] at u2
        rw [hz] at sl
        simp -implicitDefEqProofs [m_Reading_read_kind, runDef, b_Reading_read_kind, f1, ii, ii2, a1, d1, d2, sh, wi, up, u2, br, b1, b2, ys, hc, sl, k1, x9, ax]
      · rw [e8] at u2
        have hz : ((sn.length : Int) = 3) = False := eq_false hz
        simp -implicitDefEqProofs [m_Reading_read_kind, runDef, b_Reading_read_kind, f1, ii, ii2, a1, d1, d2, sh, wi, up, u2, br, b1, b2, ys, hc, hz, k1, x9, ax]
    · rw [if_neg hB]
      refine ⟨hx, l, ?_⟩
      have rm8 : rm ≤ 8 := by rw [hrm]; split <;> decide
      have gB : GoodS B := ⟨okB, by omega, hB⟩
      have gk2 : GoodK ⟨k.nm, B, k.bl, k.mn⟩ := ⟨gk.nm, gB, gk.bl, gk.mn⟩
      have km := kind_mk gk2 (S.set p (rdO q x r) ++ l)
      generalize S.set p (rdO q x r) ++ l = SE at *
      have ne : (sDs B).isEmpty = false := by
        cases h : B with
        | nil => exact absurd h hB
        | cons s r => rw [sDs]; rfl
      generalize kinD ⟨k.nm, B, k.bl, k.mn⟩ = kres at *
      generalize sDs B = sd at *
      generalize Tk.heldAll B 0 = hh at *
      generalize a.map kinD = za at *
      generalize sL ((y1 y a k).ses.map (·.nm)) = sn at *
      generalize sysD (y1 y a k) = sy at *
      generalize sysD (y0 y) = s0 at *
      generalize kinD (k1 k.nm k.bl k.mn) = kk at *
      generalize S.set p (rdO q (at_ + 1) rm) = S2 at *
      generalize S.set p (rdO q (at_ + 1) room) = S1 at *
      refine room3 (fun hz e4 => ?_) (fun hz e8 => ?_)
      · rw [e4] at u2
        rw [hz] at sl
        simp -implicitDefEqProofs [m_Reading_read_kind, runDef, b_Reading_read_kind, f1, ii, ii2, a1, d1, d2, sh, wi, up, u2, br, km, ne, b1, b2, ys, hc, sl, k1, x9]
      · rw [e8] at u2
        have hz : ((sn.length : Int) = 3) = False := eq_false hz
        simp -implicitDefEqProofs [m_Reading_read_kind, runDef, b_Reading_read_kind, f1, ii, ii2, a1, d1, d2, sh, wi, up, u2, br, km, ne, b1, b2, ys, hc, hz, k1, x9]
end Mm
set_option maxRecDepth 100000
namespace Mm
open PySem L2
/-- the store while a system is read -/
def RsS (S : Sto) (rows : List Str) (at_ : Nat) (room : Int) (X : List D) (l : Sto) : Sto := S ++ (rdO (S.length + 1) at_ room :: .lst (sL rows) :: .lst X :: l)
section
variable (S : Sto) (rows : List Str) (a : Nat) (r : Int) (X : List D) (l : Sto)
theorem rss_rd (h1 : rows.length ≤ 200) (h2 : ∀ x ∈ rows, x.length ≤ 100) (h3 : a ≤ rows.length) : RdAt (RsS S rows a r X l) S.length (S.length + 1) rows a r :=
  ⟨by unfold RsS; simp [rdO], by unfold RsS; simp, by omega, h1, h2, h3⟩
theorem rss_at : (RsS S rows a r X l)[S.length + 2]? = some (.lst X) := by unfold RsS; simp
theorem rss_set (b : Nat) (s : Int) (m : Sto) : (RsS S rows a r X l).set S.length (rdO (S.length + 1) b s) ++ m = RsS S rows b s X (l ++ m) := by
  unfold RsS
  rw [List.set_append_right _ _ (Nat.le_refl _), Nat.sub_self]
  simp
theorem rss_app (Y : List D) : (RsS S rows a r X l).set (S.length + 2) (.lst Y) = RsS S rows a r Y l := by
  unfold RsS
  rw [List.set_append_right _ _ (by omega), show S.length + 2 - S.length = 2 by omega]
  rfl
end
variable {rs : List (List Nat)}
theorem fields_len {T : Sto} {p q at_ : Nat} {room : Int} (G : RdAt T p q (rs.map tS) at_ room) (hk : RwOk rs) {fs : List Str} {n : Nat} (hn : n ≤ 50) (hl : (wAt rs at_ n).length ≠ fs.length) : m_Reading_fields [.loc p, .int n, .tup (sL fs)] T = .ex ⟨7, [.int at_]⟩ T := by
  have w1 := words_at G hn
  have f2 := rd_here G.p0
  have ii : isI 10 (.loc p) T = True := eq_true (isI_at G.p0)
  have l1 : (sL ((wAt rs at_ n).map tS)).length = (wAt rs at_ n).length := by simp
  have l2 := sL_len fs
  have ne : (((wAt rs at_ n).length : Int) = (fs.length : Int)) = False := eq_false (by omega)
  generalize sL ((wAt rs at_ n).map tS) = sw at *
  generalize sL fs = sf at *
  simp -implicitDefEqProofs [m_Reading_fields, runDef, b_Reading_fields, w1, ii, f2, l1, l2, ne]
theorem kind_len_X {T : Sto} {p q at_ : Nat} {room : Int} (G : RdAt T p q (rs.map tS) at_ room) (hk : RwOk rs) (hl : (wAt rs at_ 2).length ≠ 6) (f : D) (c : Nat) : m_Reading_read_kind [.loc p, f, .loc c] T = .ex ⟨7, [.int at_]⟩ T := by
  have f1 := fields_len G hk (fs := kinF) (n := 2) (by decide) hl
  have ii : isI 10 (.loc p) T = True := eq_true (isI_at G.p0)
  simp only [show ((2 : Nat) : Int) = 2 from rfl, sL, kinF, List.map_cons, List.map_nil] at f1
  simp -implicitDefEqProofs [m_Reading_read_kind, runDef, b_Reading_read_kind, f1, ii]
/-- where the reader finds its fault, if it does -/
def sysR (rs : List (List Nat)) : Option Nat := match rdD rs 3 2 8 4 0 with
  | .out => none
  | .er x => some x
  | .ok B x _ => match B with
    | [] => some x
    | _ :: _ => if x < rs.length ∧ (wAt rs x 2).length ≠ 6 then some x else none
theorem read_X {y : YA} {k : KA} (g : GoodY y) (ek : y.ks = [k]) (hm : (y1 y [] k).ses.length ≠ 3) (hk : RwOk rs) (few : rs.length ≤ 200) {t : Str} (ht : t.length + 2 ≤ sizeLine) (hs : Txt.split t "\n" = rs.map tS ++ [("" : Str)])
    (h0 : (rs.map tS)[0]? = some (headS y)) (h1 : (rs.map tS)[1]? = some (kindL k)) {x : Nat} (hx : sysR rs = some x) (S : Sto) : ∃ S', m_read_system [.str t] S = .ex ⟨7, [.int x]⟩ S' := by
  have ml : (rs.map tS).length = rs.length := by simp
  have sh : ∀ r ∈ rs.map tS, r.length ≤ 100 := fun r hr => by
    obtain ⟨l, hl, rfl⟩ := List.mem_map.mp hr
    have := (hk l hl).1
    rw [len_list, tS_list]; omega
  have l1 : 1 < rs.length := by have := (List.getElem?_eq_some_iff.mp h1).1; omega
  have i0 := init_eq (S := S) ht hs
  have e0 : S ++ [SO.ins 10 [.loc (S.length + 1), .int 0, .int 0], .lst (sL (rs.map tS))] = S ++ (rdO (S.length + 1) 0 0 :: .lst (sL (rs.map tS)) :: []) := rfl
  have G0 : RdAt (S ++ (rdO (S.length + 1) 0 0 :: .lst (sL (rs.map tS)) :: [])) S.length (S.length + 1) (rs.map tS) 0 0 := ⟨by simp [rdO], by simp, by omega, by omega, sh, Nat.zero_le _⟩
  have fr := frame_eq g G0 h0
  have es : (S ++ (rdO (S.length + 1) 0 0 :: .lst (sL (rs.map tS)) :: [])).set S.length (rdO (S.length + 1) 1 0) = S ++ (rdO (S.length + 1) 1 0 :: .lst (sL (rs.map tS)) :: []) := by
    rw [List.set_append_right _ _ (Nat.le_refl _), Nat.sub_self]; rfl
  rw [es] at fr
  have ii : isI 10 (.loc S.length) (S ++ (rdO (S.length + 1) 0 0 :: .lst (sL (rs.map tS)) :: [])) = True := eq_true (isI_at G0.p0)
  have e1 : RsS S (rs.map tS) 1 0 [] [] = S ++ (rdO (S.length + 1) 1 0 :: .lst (sL (rs.map tS)) :: []) ++ [.lst []] := by unfold RsS; simp
  have ln : (S ++ (rdO (S.length + 1) 1 0 :: .lst (sL (rs.map tS)) :: [])).length = S.length + 2 := by simp
  have G := rss_rd S (rs.map tS) 1 0 [] [] (by omega) sh (by omega)
  have cc := rss_at S (rs.map tS) 1 0 [] []
  have iw : isI 10 (.loc S.length) (RsS S (rs.map tS) 1 0 [] []) = True := eq_true (isI_at G.p0)
  have rk := read_kind_X g (by rw [ek]; simp) hk (a := []) (b := []) (k := k) ek (rm := 8) (by rw [if_neg hm]) G cc (by omega) h1
  have main : ∃ v S', whileS (t_or (t_not (t_v (e_v 3))) (t_b (e_op ltD (e_fld [(10, 1)] (e_v 1)) (e_call (f1 lenD) (a_cons (e_fld [(10, 0)] (e_v 1)) a_nil))))) (s_ex (e_meth tyL appD (e_v 3) (a_cons (e_mth tr0 10 m_Reading_read_kind (e_v 1) (a_cons (e_v 2) (a_cons (e_v 3) a_nil))) a_nil))) 20 [some (.str t), some (.loc S.length), some (sysD (y0 y)), some (.loc (S.length + 2))] (RsS S (rs.map tS) 1 0 [] []) = .ex ⟨7, [.int x]⟩ v S' := by
    unfold sysR at hx
    rw [while_s]
    cases er : rdD rs 3 2 8 4 0 with
    | out => rw [er] at hx; cases hx
    | er z =>
      rw [er] at hx
      cases hx
      rw [show (1 : Nat) + 1 = 2 from rfl, er] at rk
      obtain ⟨S', rk⟩ := rk
      refine ⟨[some (.str t), some (.loc S.length), some (sysD (y0 y)), some (.loc (S.length + 2))], S', ?_⟩
      generalize RsS S (rs.map tS) 1 0 [] [] = T0 at *
      generalize sysD (y0 y) = s0 at *
      simp -implicitDefEqProofs [cc, iw, rk]
    | ok B z r =>
      rw [er] at hx
      rw [show (1 : Nat) + 1 = 2 from rfl, er] at rk
      cases B with
      | nil =>
        cases hx
        dsimp only at rk
        rw [if_pos rfl] at rk
        obtain ⟨S', rk⟩ := rk
        refine ⟨[some (.str t), some (.loc S.length), some (sysD (y0 y)), some (.loc (S.length + 2))], S', ?_⟩
        generalize RsS S (rs.map tS) 1 0 [] [] = T0 at *
        generalize sysD (y0 y) = s0 at *
        simp -implicitDefEqProofs [cc, iw, rk]
      | cons s B =>
        dsimp only at hx rk
        rw [if_neg (by simp)] at rk
        by_cases hz : z < rs.length ∧ (wAt rs z 2).length ≠ 6
        · rw [if_pos hz] at hx
          cases hx
          obtain ⟨hzl, l, rk⟩ := rk
          rw [rss_set, List.nil_append] at rk
          have cd := rss_at S (rs.map tS) x r [] l
          have ce := rss_app S (rs.map tS) x r [] l ([] ++ [kinD ⟨k.nm, s :: B, k.bl, k.mn⟩])
          have G2 := rss_rd S (rs.map tS) x r ([] ++ [kinD ⟨k.nm, s :: B, k.bl, k.mn⟩]) l (by omega) sh (by omega)
          have i2 : isI 10 (.loc S.length) (RsS S (rs.map tS) x r ([] ++ [kinD ⟨k.nm, s :: B, k.bl, k.mn⟩]) l) = True := eq_true (isI_at G2.p0)
          have k2 := kind_len_X G2 hk hz.2 (sysD (y0 y)) (S.length + 2)
          have c2 := rss_at S (rs.map tS) x r ([] ++ [kinD ⟨k.nm, s :: B, k.bl, k.mn⟩]) l
          obtain ⟨g1, g2, _⟩ := rd_at G2
          have q0 := G2.q0
          have lt : ((x : Int) < (rs.length : Int)) = True := eq_true (by omega)
          have sl : (sL (rs.map tS)).length = rs.length := by simp
          refine ⟨[some (.str t), some (.loc S.length), some (sysD (y0 y)), some (.loc (S.length + 2))], RsS S (rs.map tS) x r ([] ++ [kinD ⟨k.nm, s :: B, k.bl, k.mn⟩]) l, ?_⟩
          generalize RsS S (rs.map tS) 1 0 [] [] = T0 at *
          generalize RsS S (rs.map tS) x r [] l = T1 at *
          generalize RsS S (rs.map tS) x r ([] ++ [kinD ⟨k.nm, s :: B, k.bl, k.mn⟩]) l = T2 at *
          generalize kinD ⟨k.nm, s :: B, k.bl, k.mn⟩ = kk at *
          generalize sysD (y0 y) = s0 at *
          generalize sL (rs.map tS) = sr at *
          have z0 : ((0 : Nat) < sizeLine) = True := eq_true (by have := sizeLine_eq; omega)
          simp only [List.nil_append] at ce c2
          simp -implicitDefEqProofs [cc, iw, rk, cd, ce, z0]
          rw [while_s]
          simp -implicitDefEqProofs [c2, i2, k2, g1, g2, q0, lt, sl]
        · rw [if_neg hz] at hx; cases hx
  obtain ⟨v, S', w⟩ := main
  refine ⟨S', ?_⟩
  rw [e1] at w
  rw [e0] at i0
  have tx : m_read_system = runDef 1 4 b_read_system := rfl
  rw [tx]
  simp only [runDef, b_read_system]
  generalize hW : whileS _ _ 20 = W at *
  generalize S ++ (rdO (S.length + 1) 1 0 :: .lst (sL (rs.map tS)) :: []) = T2 at *
  generalize S ++ (rdO (S.length + 1) 0 0 :: .lst (sL (rs.map tS)) :: []) = T1 at *
  simp -implicitDefEqProofs [i0, fr, ii, ln, w, isiD]
end Mm
set_option maxRecDepth 100000
namespace Mm
open PySem L2
/-! the law's texts, as lists of code points (printed by mkS10.py) -/
def x_head : List Nat := [115, 121, 115, 116, 101, 109, 32, 97, 104, 101, 97, 100, 32, 48, 32, 119, 105, 110, 100, 111, 119, 32, 110, 111, 110, 101, 32, 99, 114, 97, 115, 104, 101, 115, 32, 48]
def x_kind : List Nat := [32, 32, 107, 105, 110, 100, 32, 119, 101, 98, 32, 98, 108, 111, 99, 107, 32, 50, 32, 109, 97, 110, 121, 32]
def x_c4 : List Nat := [32, 32, 32, 32, 99, 111, 109, 109, 105, 116]
def x_ch4 : List Nat := [32, 32, 32, 32, 99, 104, 111, 111, 115, 101]
def x_y6 : List Nat := [32, 32, 32, 32, 32, 32, 121, 101, 115]
def x_c8 : List Nat := [32, 32, 32, 32, 32, 32, 32, 32, 99, 111, 109, 109, 105, 116]
def x_n6 : List Nat := [32, 32, 32, 32, 32, 32, 110, 111]
def x_i4 : List Nat := [32, 32, 32, 32]
def x_i8 : List Nat := [32, 32, 32, 32, 32, 32, 32, 32]
def x_choose : List Nat := [99, 104, 111, 111, 115, 101]
def x_y2 : List Nat := [32, 32, 121, 101, 115]
def x_n2 : List Nat := [32, 32, 110, 111]
def x_ch8 : List Nat := [32, 32, 32, 32, 32, 32, 32, 32, 99, 104, 111, 111, 115, 101]
def x_take : List Nat := [116, 97, 107, 101]
def x_t4 : List Nat := [32, 32, 32, 32, 116, 97, 107, 101]
def x_commit : List Nat := [99, 111, 109, 109, 105, 116]
def x_d4 : List Nat := [32, 32, 32, 32, 100, 114, 111, 112]
def x_u4 : List Nat := [32, 32, 32, 32, 117, 110, 108, 111, 99, 107, 32, 97]
def x_drop : List Nat := [100, 114, 111, 112]
def x_yes : List Nat := [121, 101, 115]
def x_no : List Nat := [110, 111]
def x_lock : List Nat := [108, 111, 99, 107]
def x_unlock : List Nat := [117, 110, 108, 111, 99, 107]
def x_m0 : List Nat := [32, 97, 98, 99, 100, 101, 102, 103, 104, 105]
def x_m1 : List Nat := [32, 65]
def x_m2 : List Nat := []
def x_m3 : List Nat := [32, 97, 32, 98]
def x_m4 : List Nat := [32]
def x_m5 : List Nat := [32, 97, 49]
def x_m6 : List Nat := [32, 32, 97]
def x_m7 : List Nat := [32, 97, 66, 99]
theorem x_head_s : tS x_head = ("system ahead 0 window none crashes 0" : Str) := by decide +kernel
theorem x_c4_s : tS x_c4 = ("    commit" : Str) := by decide +kernel
theorem x_ch4_s : tS x_ch4 = ("    choose" : Str) := by decide +kernel
theorem x_y6_s : tS x_y6 = ("      yes" : Str) := by decide +kernel
theorem x_c8_s : tS x_c8 = ("        commit" : Str) := by decide +kernel
theorem x_n6_s : tS x_n6 = ("      no" : Str) := by decide +kernel
theorem x_i4_s : tS x_i4 = ("    " : Str) := by decide +kernel
theorem x_i8_s : tS x_i8 = ("        " : Str) := by decide +kernel
theorem x_choose_s : tS x_choose = ("choose" : Str) := by decide +kernel
theorem x_y2_s : tS x_y2 = ("  yes" : Str) := by decide +kernel
theorem x_n2_s : tS x_n2 = ("  no" : Str) := by decide +kernel
theorem x_ch8_s : tS x_ch8 = ("        choose" : Str) := by decide +kernel
theorem x_take_s : tS x_take = ("take" : Str) := by decide +kernel
theorem x_t4_s : tS x_t4 = ("    take" : Str) := by decide +kernel
theorem x_commit_s : tS x_commit = ("commit" : Str) := by decide +kernel
theorem x_d4_s : tS x_d4 = ("    drop" : Str) := by decide +kernel
theorem x_u4_s : tS x_u4 = ("    unlock a" : Str) := by decide +kernel
theorem x_drop_s : tS x_drop = ("drop" : Str) := by decide +kernel
theorem x_yes_s : tS x_yes = ("yes" : Str) := by decide +kernel
theorem x_no_s : tS x_no = ("no" : Str) := by decide +kernel
theorem x_lock_s : tS x_lock = ("lock" : Str) := by decide +kernel
theorem x_unlock_s : tS x_unlock = ("unlock" : Str) := by decide +kernel
theorem x_m0_s : tS x_m0 = (" abcdefghi" : Str) := by decide +kernel
theorem x_m1_s : tS x_m1 = (" A" : Str) := by decide +kernel
theorem x_m2_s : tS x_m2 = ("" : Str) := by decide +kernel
theorem x_m3_s : tS x_m3 = (" a b" : Str) := by decide +kernel
theorem x_m4_s : tS x_m4 = (" " : Str) := by decide +kernel
theorem x_m5_s : tS x_m5 = (" a1" : Str) := by decide +kernel
theorem x_m6_s : tS x_m6 = ("  a" : Str) := by decide +kernel
theorem x_m7_s : tS x_m7 = (" aBc" : Str) := by decide +kernel
def deepT (i j : Nat) : List (List Nat) := [x_choose, x_y2] ++ List.replicate i x_n2 ++ [x_c4.take 4 ++ x_choose, x_y6] ++ List.replicate j x_n6 ++ [x_ch8]
def fullT (s sh b : Nat) : List (List Nat) :=
  if sh = 0 then List.replicate s x_take ++ [x_choose, x_y2] ++ List.replicate (4 - s) x_t4
  else if sh = 1 then List.replicate s x_take ++ [x_choose, x_y2] ++ [x_c4, x_n2] ++ List.replicate (4 - s) x_t4
  else List.replicate s x_take ++ [x_choose, x_y2] ++ List.replicate (3 - s) x_t4 ++ [x_n2] ++ (if b = 0 then [x_c4] else []) ++ [x_take]
def longT (z b : Nat) : List (List Nat) := List.replicate (6 - z) x_commit ++ [x_choose, x_y2, x_d4] ++ (if b = 0 then [x_n2] else []) ++ [x_u4]
def menuT : List (List (List Nat)) := [[x_choose, x_n2], [x_choose, x_commit], [x_choose, x_c4], [x_choose, x_y2, x_commit], [x_choose, x_y2, x_d4, x_drop], [x_choose, x_y2, x_y2], [x_choose, x_y2, x_n2, x_n2], [x_choose, x_y2, x_t4, x_n2, x_y2], [x_choose, x_y2, x_n6.take 2 ++ x_c4], [x_choose, x_yes], [x_choose, x_y2, x_no], [x_y2], [x_n2]]
def nameT : List (List (List Nat)) := ([x_lock, x_unlock].map fun w => [x_m0, x_m1, x_m2, x_m3, x_m4, x_m5, x_m6, x_m7].map fun m => [w ++ m]).flatten
/-- the rows behind the kind's row, up to the spoiled one -/
def preT (z : Nat) (wr : Option Nat) : List (List Nat) := List.replicate z x_c4 ++ match wr with
  | none => []
  | some b => [x_ch4, x_y6] ++ (if b = 0 then [x_c8, x_n6] else [])
def indT (wr : Option Nat) : List Nat := match wr with
  | none => x_i4
  | some _ => x_i8
def rowT (am : List Nat) (z : Nat) (wr : Option Nat) (L : List (List Nat)) : List (List Nat) := [x_head, x_kind ++ am] ++ preT z wr ++ L.map (indT wr ++ ·)
def allT (am : List Nat) (z : Nat) (wr : Option Nat) (L : List (List Nat)) (t : Nat) : List (List Nat) := rowT am z wr L ++ List.replicate t x_c4
def okT (z : Nat) (wr : Option Nat) (L : List (List Nat)) : Bool := [[49], [50]].all fun am => [0, 1, 2].all fun t => decide (sysR (allT am z wr L t) = some ((rowT am z wr L).length - 1)) && decide (RwOk (allT am z wr L t)) && decide ((allT am z wr L t).length ≤ 30) && decide (∀ r ∈ allT am z wr L t, 10 ∉ r)
def deepA : List (List (List Nat)) := [0, 1].flatMap fun i => [0, 1].map fun j => deepT i j
def fullA : List (List (List Nat)) := [0, 1, 2, 3].flatMap fun s => [0, 1, 2].flatMap fun sh => [0, 1].map fun b => fullT s sh b
def longA (z : Nat) : List (List (List Nat)) := [0, 1].map fun b => longT z b
instance (o : Option Nat) (x : Nat) : Decidable (o = some x) := by infer_instance
end Mm
set_option maxRecDepth 100000
namespace Mm
open PySem L2
/-! what the law draws -/
theorem pick0 (a b c : Int) (l : Sto) (n : Nat) (n0 : 0 < n) (n1 : n < 1000) : ∃ (r : Nat) (a' b' c' : Int), m__law_pick [.loc 0, .int (n : Int)] (pO a b c :: l) = .ok (.int (r : Int)) (pO a' b' c' :: l) ∧ r < n := by
  obtain ⟨r, a', b', c', e, r0, r1⟩ := pick_eq (S := pO a b c :: l) (p := 0) (a := a) (b := b) (c := c) (n := (n : Int)) rfl (by omega) (by omega)
  refine ⟨r.toNat, a', b', c', ?_, by omega⟩
  rw [e, show ((r.toNat : Nat) : Int) = r by omega]
  rfl
theorem mul_lst {a : List D} {k : Int} (h0 : 0 ≤ k) (h1 : k ≤ 20) (hl : a.length ≤ 5) (S : Sto) : mulD (.lst a) (.int k) S = .ok (.lst (List.replicate k.toNat a).flatten) S := by
  show repD (.lst a) (.int k) S = _
  have e : lstOf S (.lst a) = some a := rfl
  have hm : a.length * k.toNat ≤ 5 * 20 := Nat.mul_le_mul hl (by omega)
  have := sizeLine_eq
  simp only [repD, e]
  rw [R.if_pos ⟨by omega, by omega, by omega⟩]
theorem add_lst {a b : List D} (hl : a.length + b.length ≤ 200) (S : Sto) : addD (.lst a) (.lst b) S = .ok (.lst (a ++ b)) S := by
  show addL S (.lst a) (.lst b) = _
  have e : ∀ x, lstOf S (.lst x) = some x := fun _ => rfl
  have := sizeLine_eq
  simp only [addL, e]
  rw [R.if_pos (by omega)]
theorem addN_lst {a b : List D} (hl : a.length + b.length ≤ 200) (S : Sto) : addN (.lst a) (.lst b) S = .ok (.loc S.length) (S ++ [.lst (a ++ b)]) :=
  addN_eq rfl rfl (by have := sizeLine_eq; omega)
theorem add_loc {a b : List D} {S : Sto} {k : Nat} (h : S[k]? = some (.lst a)) (hl : a.length + b.length ≤ 200) : addD (.loc k) (.lst b) S = .ok (.lst (a ++ b)) S := by
  show addL S (.loc k) (.lst b) = _
  have e : lstOf S (.lst b) = some b := rfl
  have := sizeLine_eq
  simp only [addL, e, lstOf_loc h]
  rw [R.if_pos (by omega)]
theorem deep_eq (a b c : Int) (l : Sto) : ∃ (a' b' c' : Int) (L : List (List Nat)), L ∈ deepA ∧ m__law_deep [.loc 0] (pO a b c :: l) = .ok (.lst (sL (L.map tS))) (pO a' b' c' :: l) := by
  obtain ⟨i, a1, b1, c1, e1, h1⟩ := pick0 a b c l 2 (by decide) (by decide)
  obtain ⟨j, a2, b2, c2, e2, h2⟩ := pick0 a1 b1 c1 l 2 (by decide) (by decide)
  simp only [show ((2 : Nat) : Int) = 2 from rfl] at e1 e2
  refine ⟨a2, b2, c2, deepT i j, ?_, ?_⟩
  · have : i = 0 ∨ i = 1 := by omega
    have : j = 0 ∨ j = 1 := by omega
    rcases ‹i = 0 ∨ i = 1› with rfl | rfl <;> rcases ‹j = 0 ∨ j = 1› with rfl | rfl <;> decide +kernel
  · have : i = 0 ∨ i = 1 := by omega
    have : j = 0 ∨ j = 1 := by omega
    have x4 : tS (x_c4.take 4 ++ x_choose) = ("    choose" : Str) := by decide +kernel
    rcases ‹i = 0 ∨ i = 1› with rfl | rfl <;> rcases ‹j = 0 ∨ j = 1› with rfl | rfl <;>
    · simp -implicitDefEqProofs [m__law_deep, runDef, b__law_deep, e1, e2, mul_lst, add_lst, deepT, sL, x_choose_s, x_y2_s, x_n2_s, x4, x_y6_s, x_n6_s, x_ch8_s]
end Mm
set_option maxRecDepth 100000
namespace Mm
open PySem L2
theorem long_eq (a b c : Int) (l : Sto) {z : Nat} (hz : z < 3) : ∃ (a' b' c' : Int) (L : List (List Nat)), L ∈ longA z ∧ m__law_long [.loc 0, .int (z : Int)] (pO a b c :: l) = .ok (.lst (sL (L.map tS))) (pO a' b' c' :: l) := by
  obtain ⟨i, a1, b1, c1, e1, h1⟩ := pick0 a b c l 2 (by decide) (by decide)
  simp only [show ((2 : Nat) : Int) = 2 from rfl] at e1
  have hi : i = 0 ∨ i = 1 := by omega
  have hz' : z = 0 ∨ z = 1 ∨ z = 2 := by omega
  refine ⟨a1, b1, c1, longT z i, ?_, ?_⟩
  · rcases hi with rfl | rfl <;> simp [longA]
  · rcases hi with rfl | rfl <;> rcases hz' with rfl | rfl | rfl <;>
    · simp -implicitDefEqProofs [m__law_long, runDef, b__law_long, e1, mul_lst, add_lst, longT, sL, x_choose_s, x_y2_s, x_n2_s, x_commit_s, x_d4_s, x_u4_s]
theorem pairs_eq (a b c : Int) (l : Sto) : ∃ (a' b' c' : Int) (L : List (List Nat)), L ∈ menuT ∧ m__law_pairs [.loc 0] (pO a b c :: l) = .ok (.lst (sL (L.map tS))) (pO a' b' c' :: l) := by
  obtain ⟨i, a1, b1, c1, e1, h1⟩ := pick0 a b c l 13 (by decide) (by decide)
  simp only [show ((13 : Nat) : Int) = 13 from rfl] at e1
  have hl : menuT.length = 13 := rfl
  refine ⟨a1, b1, c1, menuT[i], List.getElem_mem (by omega), ?_⟩
  have x6 : tS (x_n6.take 2 ++ x_c4) = ("      commit" : Str) := by decide +kernel
  have t10 : ∀ l : List D, atI l 10 = l[10]? := fun l => atI_nat l 10
  have t11 : ∀ l : List D, atI l 11 = l[11]? := fun l => atI_nat l 11
  have t12 : ∀ l : List D, atI l 12 = l[12]? := fun l => atI_nat l 12
  have hi : i = 0 ∨ i = 1 ∨ i = 2 ∨ i = 3 ∨ i = 4 ∨ i = 5 ∨ i = 6 ∨ i = 7 ∨ i = 8 ∨ i = 9 ∨ i = 10 ∨ i = 11 ∨ i = 12 := by omega
  rcases hi with rfl | rfl | rfl | rfl | rfl | rfl | rfl | rfl | rfl | rfl | rfl | rfl | rfl <;>
  · simp -implicitDefEqProofs [m__law_pairs, runDef, b__law_pairs, e1, add_lst, menuT, sL, t10, t11, t12, x_choose_s, x_y2_s, x_n2_s, x_commit_s, x_d4_s, x6, x_drop_s, x_t4_s, x_yes_s, x_no_s, x_c4_s]
theorem tS_app (a b : List Nat) : tS (a ++ b) = tS a ++ tS b := str_ext (by rw [app_list, tS_list, tS_list, tS_list])
theorem names_eq (a b c : Int) (l : Sto) : ∃ (a' b' c' : Int) (L : List (List Nat)), L ∈ nameT ∧ m__law_names [.loc 0] (pO a b c :: l) = .ok (.lst (sL (L.map tS))) (pO a' b' c' :: l) := by
  obtain ⟨i, a1, b1, c1, e1, h1⟩ := pick0 a b c l 2 (by decide) (by decide)
  obtain ⟨j, a2, b2, c2, e2, h2⟩ := pick0 a1 b1 c1 l 8 (by decide) (by decide)
  simp only [show ((2 : Nat) : Int) = 2 from rfl, show ((8 : Nat) : Int) = 8 from rfl] at e1 e2
  have hl : nameT.length = 16 := rfl
  have hi : i = 0 ∨ i = 1 := by omega
  have hj : j = 0 ∨ j = 1 ∨ j = 2 ∨ j = 3 ∨ j = 4 ∨ j = 5 ∨ j = 6 ∨ j = 7 := by omega
  refine ⟨a2, b2, c2, nameT[8 * i + j], List.getElem_mem (by omega), ?_⟩
  rcases hi with rfl | rfl <;> rcases hj with rfl | rfl | rfl | rfl | rfl | rfl | rfl | rfl <;>
  · simp -implicitDefEqProofs (disch := decide +kernel) [-addD_str, m__law_names, runDef, b__law_names, e1, e2, add_ok, nameT, sL, tS_app, x_lock_s, x_unlock_s, x_m0_s, x_m1_s, x_m2_s, x_m3_s, x_m4_s, x_m5_s, x_m6_s, x_m7_s]
theorem at_end (x : SO) (l : Sto) (y : SO) : (x :: (l ++ [y]))[l.length + 1]? = some y := by simp
theorem full_eq (a b c : Int) (l : Sto) : ∃ (a' b' c' : Int) (l' : Sto) (L : List (List Nat)), L ∈ fullA ∧ m__law_full [.loc 0] (pO a b c :: l) = .ok (.lst (sL (L.map tS))) (pO a' b' c' :: (l ++ l')) := by
  obtain ⟨s, a1, b1, c1, e1, h1⟩ := pick0 a b c l 4 (by decide) (by decide)
  obtain ⟨i, a2, b2, c2, e2, h2⟩ := pick0 a1 b1 c1 (l ++ [.lst (List.replicate s (D.str "take") ++ [.str "choose", .str "  yes"])]) 3 (by decide) (by decide)
  obtain ⟨j, a3, b3, c3, e3, h3⟩ := pick0 a2 b2 c2 ((l ++ [.lst (List.replicate s (D.str "take") ++ [.str "choose", .str "  yes"])]) ++ [.lst (List.replicate s (D.str "take") ++ [.str "choose", .str "  yes"] ++ List.replicate (3 - s) (D.str "    take") ++ [.str "  no"])]) 2 (by decide) (by decide)
  simp only [show ((4 : Nat) : Int) = 4 from rfl, show ((3 : Nat) : Int) = 3 from rfl, show ((2 : Nat) : Int) = 2 from rfl] at e1 e2 e3
  have m1 := mul_lst (a := [D.str "take"]) (k := (s : Int)) (by omega) (by omega) (by decide) (pO a1 b1 c1 :: l)
  have n1 := addN_lst (a := List.replicate s (D.str "take")) (b := [.str "choose", .str "  yes"]) (by simp; omega) (pO a1 b1 c1 :: l)
  have fl : ∀ (k : Nat) (z : D), (List.replicate k [z]).flatten = List.replicate k z := fun k z => by induction k with
    | zero => rfl
    | succ k ih => rw [List.replicate_succ, List.flatten_cons, ih, List.replicate_succ]; rfl
  rw [fl, Int.toNat_natCast] at m1
  have ln : (pO a1 b1 c1 :: l).length = l.length + 1 := rfl
  rw [ln, List.cons_append] at n1
  have hi : i = 0 ∨ i = 1 ∨ i = 2 := by omega
  have hj : j = 0 ∨ j = 1 := by omega
  have hs : s = 0 ∨ s = 1 ∨ s = 2 ∨ s = 3 := by omega
  have mem : ∀ i' j', (i' = 0 ∨ i' = 1 ∨ i' = 2) → (j' = 0 ∨ j' = 1) → fullT s i' j' ∈ fullA := fun i' j' q1 q2 => by
    rcases q1 with rfl | rfl | rfl <;> rcases q2 with rfl | rfl <;> rcases hs with rfl | rfl | rfl | rfl <;> decide +kernel
  have g1 := at_end (pO a2 b2 c2) l (.lst (List.replicate s (D.str "take") ++ [.str "choose", .str "  yes"]))
  generalize hl2 : l ++ [.lst (List.replicate s (D.str "take") ++ [.str "choose", .str "  yes"])] = l2 at *
  have ll2 : l2.length = l.length + 1 := by rw [← hl2]; simp
  have sub4 : (4 : Int) - (s : Int) = ((4 - s : Nat) : Int) := by omega
  have sub3 : (3 : Int) - (s : Int) = ((3 - s : Nat) : Int) := by omega
  by_cases i0 : i = 0
  · subst i0
    refine ⟨a2, b2, c2, [.lst (List.replicate s (D.str "take") ++ [.str "choose", .str "  yes"])], fullT s 0 0, mem 0 0 (.inl rfl) (.inl rfl), ?_⟩
    rw [hl2]
    have m2 := mul_lst (a := [D.str "    take"]) (k := ((4 - s : Nat) : Int)) (by omega) (by omega) (by decide) (pO a2 b2 c2 :: l2)
    rw [fl, Int.toNat_natCast] at m2
    have q2 := add_loc (b := List.replicate (4 - s) (D.str "    take")) g1 (by simp; omega)
    have er : sL ((fullT s 0 0).map tS) = List.replicate s (D.str "take") ++ [.str "choose", .str "  yes"] ++ List.replicate (4 - s) (D.str "    take") := by
      simp [fullT, sL, x_take_s, x_choose_s, x_y2_s, x_t4_s]
    rw [er]
    generalize List.replicate (4 - s) (D.str "    take") = R4 at *
    generalize List.replicate s (D.str "take") = R1 at *
    generalize pO a2 b2 c2 :: l2 = T2 at *
    simp -implicitDefEqProofs [-addD_locl, -addD_ll, m__law_full, runDef, b__law_full, e1, m1, n1, e2, sub4, m2, q2]
  · have i0' : ((i : Int) = 0) = False := eq_false (by omega)
    by_cases i1 : i = 1
    · subst i1
      refine ⟨a2, b2, c2, [.lst (List.replicate s (D.str "take") ++ [.str "choose", .str "  yes"])], fullT s 1 0, mem 1 0 (.inr (.inl rfl)) (.inl rfl), ?_⟩
      rw [hl2]
      have m2 := mul_lst (a := [D.str "    take"]) (k := ((4 - s : Nat) : Int)) (by omega) (by omega) (by decide) (pO a2 b2 c2 :: l2)
      rw [fl, Int.toNat_natCast] at m2
      have q2 := add_loc (b := [.str "    commit", .str "  no"]) g1 (by simp; omega)
      have q3 := add_lst (a := List.replicate s (D.str "take") ++ [.str "choose", .str "  yes"] ++ [.str "    commit", .str "  no"]) (b := List.replicate (4 - s) (D.str "    take")) (by simp; omega) (pO a2 b2 c2 :: l2)
      have er : sL ((fullT s 1 0).map tS) = List.replicate s (D.str "take") ++ [.str "choose", .str "  yes"] ++ [.str "    commit", .str "  no"] ++ List.replicate (4 - s) (D.str "    take") := by
        simp [fullT, sL, x_take_s, x_choose_s, x_y2_s, x_t4_s, x_c4_s, x_n2_s]
      rw [er]
      generalize List.replicate (4 - s) (D.str "    take") = R4 at *
      generalize hX : List.replicate s (D.str "take") ++ [D.str "choose", .str "  yes"] = X at *
      generalize List.replicate s (D.str "take") = R1 at *
      generalize hY : X ++ [D.str "    commit", .str "  no"] = Y at *
      generalize Y ++ R4 = Z at *
      generalize pO a2 b2 c2 :: l2 = T2 at *
      simp -implicitDefEqProofs [-addD_locl, -addD_ll, m__law_full, runDef, b__law_full, e1, m1, n1, e2, sub4, m2, q2, q3]
    · have i2 : i = 2 := by omega
      subst i2
      refine ⟨a3, b3, c3, [.lst (List.replicate s (D.str "take") ++ [D.str "choose", .str "  yes"]), .lst (List.replicate s (D.str "take") ++ [D.str "choose", .str "  yes"] ++ List.replicate (3 - s) (D.str "    take") ++ [D.str "  no"] ++ if j = 0 then [D.str "    commit"] else [])], fullT s 2 j, mem 2 j (.inr (.inr rfl)) hj, ?_⟩
      have eL : l ++ [SO.lst (List.replicate s (D.str "take") ++ [D.str "choose", .str "  yes"]), .lst (List.replicate s (D.str "take") ++ [D.str "choose", .str "  yes"] ++ List.replicate (3 - s) (D.str "    take") ++ [D.str "  no"] ++ if j = 0 then [D.str "    commit"] else [])] = l2 ++ [.lst (List.replicate s (D.str "take") ++ [D.str "choose", .str "  yes"] ++ List.replicate (3 - s) (D.str "    take") ++ [D.str "  no"] ++ if j = 0 then [D.str "    commit"] else [])] := by rw [← hl2]; simp
      rw [eL]
      have m2 := mul_lst (a := [D.str "    take"]) (k := ((3 - s : Nat) : Int)) (by omega) (by omega) (by decide) (pO a2 b2 c2 :: l2)
      rw [fl, Int.toNat_natCast] at m2
      have q2 := add_loc (b := List.replicate (3 - s) (D.str "    take")) g1 (by simp; omega)
      have n2 := addN_lst (a := List.replicate s (D.str "take") ++ [D.str "choose", .str "  yes"] ++ List.replicate (3 - s) (D.str "    take")) (b := [D.str "  no"]) (by simp; omega) (pO a2 b2 c2 :: l2)
      have ln2 : (pO a2 b2 c2 :: l2).length = l2.length + 1 := rfl
      rw [ln2, List.cons_append] at n2
      have xl : (List.replicate s (D.str "take") ++ [D.str "choose", .str "  yes"] ++ List.replicate (3 - s) (D.str "    take") ++ [D.str "  no"]).length ≤ 20 := by simp; omega
      have er : sL ((fullT s 2 j).map tS) = List.replicate s (D.str "take") ++ [D.str "choose", .str "  yes"] ++ List.replicate (3 - s) (D.str "    take") ++ [D.str "  no"] ++ (if j = 0 then [D.str "    commit"] else []) ++ [.str "take"] := by
        rcases hj with rfl | rfl <;> simp [fullT, sL, x_take_s, x_choose_s, x_y2_s, x_t4_s, x_c4_s, x_n2_s]
      rw [er]
      have g2 := at_end (pO a3 b3 c3) l2 (.lst (List.replicate s (D.str "take") ++ [D.str "choose", .str "  yes"] ++ List.replicate (3 - s) (D.str "    take") ++ [D.str "  no"]))
      generalize hR3 : List.replicate (3 - s) (D.str "    take") = R3 at *
      generalize hX : List.replicate s (D.str "take") ++ [D.str "choose", .str "  yes"] = X at *
      generalize List.replicate s (D.str "take") = R1 at *
      generalize hY : X ++ R3 = Y at *
      generalize hZ : Y ++ [D.str "  no"] = Z at *
      have lt : (Z.length < sizeLine) = True := eq_true (by have := sizeLine_eq; omega)
      rcases hj with rfl | rfl
      · have st : (pO a3 b3 c3 :: (l2 ++ [SO.lst Z])).set (l2.length + 1) (.lst (Z ++ [D.str "    commit"])) = pO a3 b3 c3 :: (l2 ++ [.lst (Z ++ [D.str "    commit"])]) := by simp
        have g3 := at_end (pO a3 b3 c3) l2 (.lst (Z ++ [D.str "    commit"]))
        have q3 := add_loc (b := [.str "take"]) g3 (by simp; omega)
        simp only [if_true]
        generalize pO a3 b3 c3 :: (l2 ++ [SO.lst (Z ++ [D.str "    commit"])]) = T4 at *
        generalize pO a3 b3 c3 :: (l2 ++ [SO.lst Z]) = T3 at *
        simp -implicitDefEqProofs [-addD_locl, -addD_ll, m__law_full, runDef, b__law_full, e1, m1, n1, e2, e3, sub3, m2, q2, n2, g2, lt, st, q3]
      · have q3 := add_loc (b := [.str "take"]) g2 (by simp; omega)
        simp only [if_neg (show ¬ (1 : Nat) = 0 by decide), List.append_nil]
        generalize pO a3 b3 c3 :: (l2 ++ [SO.lst Z]) = T3 at *
        simp -implicitDefEqProofs [-addD_locl, -addD_ll, m__law_full, runDef, b__law_full, e1, m1, n1, e2, e3, sub3, m2, q2, n2, g2, lt, q3]
end Mm
set_option maxRecDepth 100000
namespace Mm
open PySem L2
theorem xsc_BadText : FnScope ["self", "line"] ["self", "line"] (defScope s_BadText___init__) := ⟨rfl, rfl, rfl, by decide +kernel, rfl, by decide +kernel, by decide +kernel⟩
theorem xi_BadText {P : Program} {w : World} {K : PySem.W.Frag} {mg : Str → Option Value} {base : Heap} {C f : Addr} {fd : FuncData} (F : Fun K "__init__" "BadText.__init__" s_BadText___init__ f fd) (T : Ecl K mg "BadText" "line" C f) : FnOk P w K mg base CX0 1 f fd ["self", "line"] (spEI C "line") := by
  refine F.ok xsc_BadText (fun vs H Q E h => ?_) (fun cdv A outer s H vs Q E hr h => ?_)
  · obtain ⟨a, v, rfl, _⟩ := h
    rfl
  obtain ⟨a, v, rfl, ha, q⟩ := h
  refine ⟨_, pss_one (ps_ost (pe_var (i := 0) rfl (.inl rfl)) (pe_var (i := 1) rfl (.inl rfl)) rfl), ?_⟩
  exact ⟨_, rfl, _, rfl, a, C, rfl, T.ox, T.noF, .inl ⟨ha, fun dx h1 h2 => q dx h1 h2⟩⟩
end Mm
set_option maxRecDepth 100000
namespace Mm
open PySem L2
variable {rs : List (List Nat)}
theorem txs_sL : ∀ xs : List Str, txsO (sL xs) = some xs
  | [] => rfl
  | x :: r => by
    show (txsO (sL r)).map (x :: ·) = _
    rw [txs_sL r]; rfl
theorem sum_le61 : ∀ xs : List Str, (∀ x ∈ xs, x.length ≤ 61) → (xs.map (·.length)).sum ≤ 61 * xs.length
  | [], _ => by simp
  | x :: r, h => by
    have ih := sum_le61 r fun y hy => h y (List.mem_cons_of_mem _ hy)
    have := h x (by simp)
    simp only [List.map_cons, List.sum_cons, List.length_cons]
    omega
theorem lc_nl1 {S : Sto} {env : Env} (he : 1 < env.length) : ∀ (xs acc : List Str), acc.length + xs.length ≤ 900 → (∀ x ∈ xs, x.length ≤ 60) → lcM (g_name 1) t_yes (e_op addD (e_v 1) (e_k (.str "\n"))) env none (sL xs) (sL acc) S = .ok (sL (acc ++ xs.map nl)) S
  | [], acc, hn, hx => by rw [show sL [] = [] from rfl, lcM_nilG (h := stay_none _ _)]; simp
  | x :: r, acc, hn, hx => by
    have ih := lc_nl1 (S := S) he r (acc ++ [nl x]) (by simp at hn ⊢; omega) (fun z hz => hx z (List.mem_cons_of_mem _ hz))
    have e1 : sL (x :: r) = .str x :: sL r := rfl
    have hl := hx x List.mem_cons_self
    have ad : ∀ S, addD (.str x) (.str "\n") S = .ok (.str (nl x)) S := fun S => add_ok (by rw [lits.2.2.2.2.2.2.2.2]; omega) S
    have g4 : (env.set 1 (some (.str x)))[1]? = some (some (.str x)) := List.getElem?_set_self he
    have z1 : ((sL acc).length < sizeLine) = True := eq_true (by rw [List.length_map]; have := szb; simp at hn; omega)
    have ea : sL acc ++ [.str (nl x)] = sL (acc ++ [nl x]) := by simp [sL]
    have eb : acc ++ (x :: r).map nl = acc ++ [nl x] ++ r.map nl := by simp
    rw [e1, lcM_consG (h := stay_none _ _), eb, ← ih]
    rw [← ea]
    generalize sL acc = sa at *
    generalize sL r = sr at *
    generalize nl x = nx at *
    have hg : g_name 1 (.str x) env = some (env.set 1 (some (.str x))) := rfl
    simp -implicitDefEqProofs [-addD_str, g4, ad, z1]
theorem lc_ind {S : Sto} {env : Env} {w : Str} (he : 9 < env.length) (h7 : env[7]? = some (some (.str w))) (hw : w.length ≤ 20) : ∀ (xs acc : List Str) (env : Env), 9 < env.length → env[7]? = some (some (.str w)) → acc.length + xs.length ≤ 900 → (∀ x ∈ xs, x.length ≤ 60) → lcM (g_name 9) t_yes (e_op addD (e_v 7) (e_v 9)) env none (sL xs) (sL acc) S = .ok (sL (acc ++ xs.map (w ++ ·))) S
  | [], acc, env, he, h7, hn, hx => by rw [show sL [] = [] from rfl, lcM_nilG (h := stay_none _ _)]; simp
  | x :: r, acc, env, he, h7, hn, hx => by
    have ih := lc_ind (S := S) he h7 hw r (acc ++ [w ++ x]) env he h7 (by simp at hn ⊢; omega) (fun z hz => hx z (List.mem_cons_of_mem _ hz))
    have e1 : sL (x :: r) = .str x :: sL r := rfl
    have hl := hx x List.mem_cons_self
    have ad : ∀ S, addD (.str w) (.str x) S = .ok (.str (w ++ x)) S := fun S => add_ok (by omega) S
    have g9 : (env.set 9 (some (.str x)))[9]? = some (some (.str x)) := List.getElem?_set_self he
    have g7 : (env.set 9 (some (.str x)))[7]? = some (some (.str w)) := by rw [List.getElem?_set_ne (by decide)]; exact h7
    have z1 : ((sL acc).length < sizeLine) = True := eq_true (by rw [List.length_map]; have := szb; simp at hn; omega)
    have ea : sL acc ++ [.str (w ++ x)] = sL (acc ++ [w ++ x]) := by simp [sL]
    have eb : acc ++ (x :: r).map (w ++ ·) = acc ++ [w ++ x] ++ r.map (w ++ ·) := by simp
    rw [e1, lcM_consG (h := stay_none _ _), eb, ← ih]
    rw [← ea]
    generalize sL acc = sa at *
    generalize sL r = sr at *
    generalize w ++ x = nx at *
    have hg : g_name 9 (.str x) env = some (env.set 9 (some (.str x))) := rfl
    simp -implicitDefEqProofs [-addD_str, g9, g7, ad, z1]
def txtT (rs : List (List Nat)) : Str := Txt.join "" ((rs.map tS).map nl)
theorem rowT_len (hk : RwOk rs) : ∀ x ∈ rs.map tS, x.length ≤ 60 := fun x hx => by
  obtain ⟨l, hl, rfl⟩ := List.mem_map.mp hx
  rw [len_list, tS_list]; exact (hk l hl).1
theorem nl_len (hk : RwOk rs) : ∀ x ∈ (rs.map tS).map nl, x.length ≤ 61 := fun x hx => by
  obtain ⟨z, hz, rfl⟩ := List.mem_map.mp hx
  have := rowT_len hk z hz
  unfold nl
  rw [Tk.len_app, lits.2.2.2.2.2.2.2.2]; omega
theorem txt_len (hk : RwOk rs) (few : rs.length ≤ 30) : (txtT rs).length + 2 ≤ sizeLine := by
  have s := sum_le61 _ (nl_len hk)
  rw [List.length_map, List.length_map] at s
  have e : (txtT rs).length = (((rs.map tS).map nl).map (·.length)).sum := by
    unfold txtT
    rw [TL.join_eq, len_list, join0_list, List.length_flatten, List.map_map]
    congr 1
  rw [e]
  have := sizeLine_eq
  omega
theorem joined_eq (hk : RwOk rs) (few : rs.length ≤ 30) (S : Sto) : m__law_joined [.lst (sL (rs.map tS))] S = .ok (.str (txtT rs)) S := by
  have lc := lc_nl1 (S := S) (env := [some (.lst (sL (rs.map tS))), none]) (by simp) (rs.map tS) [] (by simp; omega) (rowT_len hk)
  have s := sum_le61 _ (nl_len hk)
  rw [List.length_map, List.length_map] at s
  have jd : joinD (.str "") [.lst (sL ((rs.map tS).map nl))] S = .ok (.str (txtT rs)) S := by
    rw [joinD_eq, show seqOf S (.lst (sL ((rs.map tS).map nl))) = some (sL ((rs.map tS).map nl)) from rfl, Option.bind_some, txs_sL, Option.bind_some, if_pos]
    · rfl
    · have : ("" : Str).length = 0 := by decide
      rw [this]; omega
  rw [List.nil_append, show sL [] = [] from rfl] at lc
  have jd0 := jd
  generalize sL ((rs.map tS).map nl) = X at *
  generalize sL (rs.map tS) = Y at *
  simp -implicitDefEqProofs [-joinD_eq, m__law_joined, runDef, b__law_joined, lc, jd, wipeE]
noncomputable def foH : List Clm := [⟨7, mt_BadText, 3, (s_seq (s_set 4 (e_or (e_xis 7 false (e_v 3)) (e_xis 7 false (e_v 3))))
  (s_if (t_and (t_v (e_xis 7 true (e_v 3))) (t_and (t_v (e_xis 7 true (e_v 3))) (t_not (t_v (e_v 4))))) (s_set 1 (e_tup (a_cons (e_k (.str "line")) (a_cons (e_xf 7 (e_v 3)) a_nil)))) s_nil))⟩]
theorem b_found_eq : b__law_found = (s_seq (s_set 1 (e_tup (a_cons (e_k (.str "wrong")) (a_cons (e_k (.int 0)) a_nil))))
  (s_seq (s_try (s_seq (s_set 2 (e_fn tr0 m_read_system (a_cons (e_v 0) a_nil)))
  (s_set 1 (e_tup (a_cons (e_k (.str "told")) (a_cons (e_fn trunc m_write_system (a_cons (e_v 2) a_nil)) a_nil))))) foH)
  (s_ret (e_v 1)))) := rfl
open Classical in
theorem run_take {S : Sto} {x : Exn} {q : Clm} {r : List Clm} {env env2 : Env} (h1 : q.mt x.c = some true) (h2 : x.c = q.k) (hh : q.h (env.set q.i (some (.xn x.c x.ds))) S = .next env2 S) (hn : ∀ d, some d ∈ env2.set q.i none → d.nxn = true) : runCl x env S (q :: r) = .next (env2.set q.i none) S := by
  unfold runCl
  rw [h1]
  dsimp only
  rw [RS.if_pos h2, hh]
  unfold endH
  dsimp only
  rw [RS.if_pos ⟨rfl, hn⟩]
theorem clause_eq (t : Str) (x : Int) (S : Sto) : runCl ⟨7, [.int x]⟩ [some (.str t), some (.tup [.str "wrong", .int 0]), none, none, none] S foH = .next [some (.str t), some (.tup [.str "line", .int x]), none, none, some (.bl false)] S := by
  unfold foH
  exact run_take (env2 := [some (.str t), some (.tup [.str "line", .int x]), none, some (.xn 7 [.int x]), some (.bl false)]) rfl rfl (by simp -implicitDefEqProofs [e_xf_eq, e_xis_eq]) (fun d hd => by
    simp only [List.set_cons_succ, List.set_cons_zero, List.mem_cons, Option.some.injEq, reduceCtorEq, List.not_mem_nil, or_false, false_or] at hd
    rcases hd with rfl | rfl | rfl <;> rfl)
theorem found_eq {t : Str} {x : Int} {S S' : Sto} (h : m_read_system [.str t] S = .ex ⟨7, [.int x]⟩ S') : m__law_found [.str t] S = .ok (.tup [.str "line", .int x]) S' := by
  have ec := clause_eq t x S'
  simp only [m__law_found, runDef, b_found_eq]
  generalize foH = fh at *
  simp -implicitDefEqProofs [s_try, h, ec]
end Mm
set_option maxRecDepth 100000
namespace Mm
open PySem L2
def kW (am : Nat) : KA := ⟨"web", [.one .commit], 2, am⟩
def yW (am : Nat) : YA := ⟨[kW am], 0, none, 0⟩
theorem web_name : Tk.IsName "web" := by
  refine ⟨by decide +kernel, by decide +kernel, ?_⟩
  unfold Tk.Low
  decide +kernel
theorem kW_good {am : Nat} (h : am = 1 ∨ am = 2) : GoodK (kW am) := by
  refine ⟨web_name, ⟨?_, by show Tk.cntAll [Tk.Stm.one .commit] ≤ 8; decide +kernel, by simp [kW]⟩, by simp [kW], by simp [kW]; omega⟩
  show Tk.okAll 0 [Tk.Stm.one .commit] 0
  simp [Tk.okAll, Tk.Stm.ok]
theorem yW_good {am : Nat} (h : am = 1 ∨ am = 2) : GoodY (yW am) := by
  have ses : (yW am).ses.length = am := by simp [yW, YA.ses, kW]
  refine ⟨fun k hk => ?_, by simp [yW], by simp [yW], by omega, fun e => by omega, by simp [yW], fun w hw => by simp [yW] at hw, by simp [yW]⟩
  rw [List.mem_singleton.mp hk]
  exact kW_good h
theorem okT_of {z : Nat} {wr : Option Nat} {L : List (List Nat)} (h : okT z wr L = true) {am t : Nat} (ha : am = 1 ∨ am = 2) (ht : t < 3) :
    sysR (allT [48 + am] z wr L t) = some ((rowT [48 + am] z wr L).length - 1) ∧ RwOk (allT [48 + am] z wr L t) ∧ (allT [48 + am] z wr L t).length ≤ 30 ∧ ∀ r ∈ allT [48 + am] z wr L t, 10 ∉ r := by
  unfold okT at h
  rw [List.all_eq_true] at h
  have h1 := h [48 + am] (by rcases ha with rfl | rfl <;> simp)
  rw [List.all_eq_true] at h1
  have h2 := h1 t (by have : t = 0 ∨ t = 1 ∨ t = 2 := by omega
                      rcases this with rfl | rfl | rfl <;> simp)
  simp only [Bool.and_eq_true, decide_eq_true_iff] at h2
  exact ⟨h2.1.1.1, h2.1.1.2, h2.1.2, h2.2⟩
theorem read_ok {z : Nat} {wr : Option Nat} {L : List (List Nat)} (h : okT z wr L = true) {am t : Nat} (ha : am = 1 ∨ am = 2) (ht : t < 3) (S : Sto) :
    ∃ S', m_read_system [.str (txtT (allT [48 + am] z wr L t))] S = .ex ⟨7, [.int (((rowT [48 + am] z wr L).length - 1 : Nat) : Int)]⟩ S' := by
  obtain ⟨h1, h2, h3, h4⟩ := okT_of h ha ht
  have g := yW_good ha
  have hd : headS (yW am) = tS x_head := by
    have : headS (yW am) = headS (yW 0) := rfl
    rw [this]; decide +kernel
  have kd : kindL (kW am) = tS (x_kind ++ [48 + am]) := by rcases ha with rfl | rfl <;> decide +kernel
  refine read_X (y := yW am) (k := kW am) g rfl ?_ h2 (by omega) (txt_len h2 h3) ?_ ?_ ?_ h1 S
  · have : (y1 (yW am) [] (kW am)).ses.length = am := by simp [y1, YA.ses, kW, k1]
    omega
  · refine split_lines fun l hl => ?_
    obtain ⟨r, hr, rfl⟩ := List.mem_map.mp hl
    rw [tS_list]; exact h4 r hr
  · rw [hd]; rfl
  · rw [kd]; rfl
theorem ok_none : ([0, 1, 2] : List Nat).all (fun z => (deepA ++ fullA ++ longA z ++ menuT ++ nameT).all fun L => okT z none L) = true := by decide +kernel
theorem ok_some : ([0, 1, 2] : List Nat).all (fun z => ([0, 1] : List Nat).all fun b => (menuT ++ nameT).all fun L => okT z (some b) L) = true := by decide +kernel
theorem okN {z : Nat} (hz : z < 3) {L : List (List Nat)} (hL : L ∈ deepA ++ fullA ++ longA z ++ menuT ++ nameT) : okT z none L = true := by
  have h := ok_none
  rw [List.all_eq_true] at h
  have h1 := h z (by have : z = 0 ∨ z = 1 ∨ z = 2 := by omega
                     rcases this with rfl | rfl | rfl <;> simp)
  rw [List.all_eq_true] at h1
  exact h1 L hL
theorem okS {z b : Nat} (hz : z < 3) (hb : b < 2) {L : List (List Nat)} (hL : L ∈ menuT ++ nameT) : okT z (some b) L = true := by
  have h := ok_some
  rw [List.all_eq_true] at h
  have h1 := h z (by have : z = 0 ∨ z = 1 ∨ z = 2 := by omega
                     rcases this with rfl | rfl | rfl <;> simp)
  rw [List.all_eq_true] at h1
  have h2 := h1 b (by have : b = 0 ∨ b = 1 := by omega
                      rcases this with rfl | rfl <;> simp)
  rw [List.all_eq_true] at h2
  exact h2 L hL
end Mm
set_option maxRecDepth 100000
namespace Mm
open PySem L2
noncomputable def lnA : SM := (s_set 8 (e_fn tr0 m__law_deep (a_cons (e_v 1) a_nil)))
noncomputable def lnB : SM := (s_if (t_b (e_op (eqD false) (e_v 2) (e_k (.int 1)))) (s_set 8 (e_fn tr0 m__law_full (a_cons (e_v 1) a_nil))) (s_if (t_b (e_op (eqD false) (e_v 2) (e_k (.int 2)))) (s_set 8 (e_fn tr0 m__law_long (a_cons (e_v 1) (a_cons (e_v 3) a_nil)))) (s_if (t_b (e_op (inF false) (e_v 2) (e_lst (a_cons (e_k (.int 3)) (a_cons (e_k (.int 4)) a_nil))))) (s_set 8 (e_fn tr0 m__law_pairs (a_cons (e_v 1) a_nil))) (s_if (t_b (e_op gtD (e_v 2) (e_k (.int 4)))) (s_set 8 (e_fn tr0 m__law_names (a_cons (e_v 1) a_nil))) s_nil))))
noncomputable def wrE : SM := (s_if (t_v (e_v 4)) (s_seq (s_set 6 (e_op addD (e_v 6) (e_lst (a_cons (e_k (.str "    choose")) (a_cons (e_k (.str "      yes")) a_nil)))))
  (s_seq (s_if (t_b (e_op (eqD false) (e_fn tr0 m__law_pick (a_cons (e_v 1) (a_cons (e_k (.int 2)) a_nil))) (e_k (.int 0)))) (s_set 6 (e_op addD (e_v 6) (e_lst (a_cons (e_k (.str "        commit")) (a_cons (e_k (.str "      no")) a_nil))))) s_nil)
  (s_set 7 (e_k (.str "        "))))) s_nil)
noncomputable def tlE : SM := (s_seq (s_set 6 (e_op addD (e_v 6) (e_lcG [9] (i_seq (e_v 8)) (g_name 9) t_yes (e_op addD (e_v 7) (e_v 9)) finL)))
  (s_seq (s_set 10 (e_op subD (e_call (f1 lenD) (a_cons (e_v 6) a_nil)) (e_k (.int 1))))
  (s_seq (s_set 6 (e_op addD (e_v 6) (e_op mulD (e_lst (a_cons (e_k (.str "    commit")) a_nil)) (e_fn tr0 m__law_pick (a_cons (e_v 1) (a_cons (e_k (.int 3)) a_nil))))))
  (s_ret (e_op (eqD false) (e_fn tr0 m__law_found (a_cons (e_fn tr0 m__law_joined (a_cons (e_v 6) a_nil)) a_nil)) (e_tup (a_cons (e_k (.str "line")) (a_cons (e_v 10) a_nil))))))))
noncomputable def hdE : SM := (s_seq (s_set 6 (e_lst (a_cons (e_k (.str "system ahead 0 window none crashes 0")) (a_cons (e_op addD (e_k (.str "  kind web block 2 many ")) (e_call (f1 strID) (a_cons (e_v 5) a_nil))) a_nil))))
  (s_set 6 (e_op addD (e_v 6) (e_op mulD (e_lst (a_cons (e_k (.str "    commit")) a_nil)) (e_v 3)))))
noncomputable def wpE : SM := (s_set 4 (e_and (e_op gtD (e_v 2) (e_k (.int 2))) (e_op (eqD false) (e_fn tr0 m__law_pick (a_cons (e_v 1) (a_cons (e_k (.int 2)) a_nil))) (e_k (.int 0)))))
theorem law_parts (e : Env) (S : Sto) : b_law e S = (s_seq (s_set 1 (e_fn tr0 m__law_box (a_cons (e_v 0) (a_cons (e_k (.int 0)) a_nil))))
  (s_seq (s_set 2 (e_fn tr0 m__law_pick (a_cons (e_v 1) (a_cons (e_k (.int 7)) a_nil))))
  (s_seq (s_set 3 (e_fn tr0 m__law_pick (a_cons (e_v 1) (a_cons (e_k (.int 3)) a_nil))))
  (s_seq wpE
  (s_seq (s_set 5 (e_op addD (e_k (.int 1)) (e_fn tr0 m__law_pick (a_cons (e_v 1) (a_cons (e_k (.int 2)) a_nil)))))
  (s_seq hdE
  (s_seq (s_set 7 (e_k (.str "    ")))
  (s_seq wrE (s_seq lnA (s_seq lnB tlE)))))))))) e S := by
  have as : ∀ (p q r : SM) (e : Env) (S : Sto), s_seq (s_seq p q) r e S = s_seq p (s_seq q r) e S := fun p q r e S => by
    show (((p e S).bind q).bind r) = (p e S).bind fun e1 S1 => (q e1 S1).bind r
    cases p e S <;> rfl
  have as2 : ∀ (p q r : SM), s_seq (s_seq p q) r = s_seq p (s_seq q r) := fun p q r => funext fun e => funext fun S => as p q r e S
  unfold hdE
  rw [as2]
  rfl
theorem ln_eq {sh z : Nat} (hs : sh < 7) (hz : z < 3) (x0 w am r ind : D) (a b c : Int) (l : Sto) : ∃ (E1 : Env) (S1 : Sto) (a' b' c' : Int) (l' : Sto) (L : List (List Nat)),
    lnA [some x0, some (.loc 0), some (.int (sh : Int)), some (.int (z : Int)), some w, some am, some r, some ind, none, none, none] (pO a b c :: l) = .next E1 S1 ∧
    lnB E1 S1 = .next [some x0, some (.loc 0), some (.int (sh : Int)), some (.int (z : Int)), some w, some am, some r, some ind, some (.lst (sL (L.map tS))), none, none] (pO a' b' c' :: l') ∧
    (if sh < 3 then L ∈ deepA ++ fullA ++ longA z ++ menuT ++ nameT else L ∈ menuT ++ nameT) := by
  obtain ⟨a1, b1, c1, L0, m0, e0⟩ := deep_eq a b c l
  have hA : lnA [some x0, some (.loc 0), some (.int (sh : Int)), some (.int (z : Int)), some w, some am, some r, some ind, none, none, none] (pO a b c :: l) = .next [some x0, some (.loc 0), some (.int (sh : Int)), some (.int (z : Int)), some w, some am, some r, some ind, some (.lst (sL (L0.map tS))), none, none] (pO a1 b1 c1 :: l) := by
    generalize sL (L0.map tS) = sl at *
    simp -implicitDefEqProofs [lnA, e0]
  have h : sh = 0 ∨ sh = 1 ∨ sh = 2 ∨ sh = 3 ∨ sh = 4 ∨ sh = 5 ∨ sh = 6 := by omega
  rcases h with rfl | rfl | rfl | rfl | rfl | rfl | rfl
  · refine ⟨_, _, a1, b1, c1, l, L0, hA, ?_, by simp [m0]⟩
    generalize sL (L0.map tS) = sl at *
    simp -implicitDefEqProofs [lnB, inF, DV, inV, eqV]
  · obtain ⟨a2, b2, c2, l', L, m, e⟩ := full_eq a1 b1 c1 l
    refine ⟨_, _, a2, b2, c2, l ++ l', L, hA, ?_, by simp [m]⟩
    generalize sL (L0.map tS) = sl at *
    generalize sL (L.map tS) = sl2 at *
    simp -implicitDefEqProofs [lnB, inF, DV, inV, eqV, e]
  · obtain ⟨a2, b2, c2, L, m, e⟩ := long_eq a1 b1 c1 l hz
    refine ⟨_, _, a2, b2, c2, l, L, hA, ?_, by simp [m]⟩
    generalize sL (L0.map tS) = sl at *
    generalize sL (L.map tS) = sl2 at *
    simp -implicitDefEqProofs [lnB, inF, DV, inV, eqV, e]
  · obtain ⟨a2, b2, c2, L, m, e⟩ := pairs_eq a1 b1 c1 l
    refine ⟨_, _, a2, b2, c2, l, L, hA, ?_, by simp [m]⟩
    generalize sL (L0.map tS) = sl at *
    generalize sL (L.map tS) = sl2 at *
    simp -implicitDefEqProofs [lnB, inF, DV, inV, eqV, e]
  · obtain ⟨a2, b2, c2, L, m, e⟩ := pairs_eq a1 b1 c1 l
    refine ⟨_, _, a2, b2, c2, l, L, hA, ?_, by simp [m]⟩
    generalize sL (L0.map tS) = sl at *
    generalize sL (L.map tS) = sl2 at *
    simp -implicitDefEqProofs [lnB, inF, DV, inV, eqV, e]
  · obtain ⟨a2, b2, c2, L, m, e⟩ := names_eq a1 b1 c1 l
    refine ⟨_, _, a2, b2, c2, l, L, hA, ?_, by simp [m]⟩
    generalize sL (L0.map tS) = sl at *
    generalize sL (L.map tS) = sl2 at *
    simp -implicitDefEqProofs [lnB, inF, DV, inV, eqV, e]
  · obtain ⟨a2, b2, c2, L, m, e⟩ := names_eq a1 b1 c1 l
    refine ⟨_, _, a2, b2, c2, l, L, hA, ?_, by simp [m]⟩
    generalize sL (L0.map tS) = sl at *
    generalize sL (L.map tS) = sl2 at *
    simp -implicitDefEqProofs [lnB, inF, DV, inV, eqV, e]
theorem sL_app (a b : List (List Nat)) : sL ((a ++ b).map tS) = sL (a.map tS) ++ sL (b.map tS) := by simp [sL]
theorem rep_sL (w : List Nat) : ∀ t, sL ((List.replicate t w).map tS) = (List.replicate t [D.str (tS w)]).flatten
  | 0 => rfl
  | t + 1 => by
    have ih := rep_sL w t
    rw [List.replicate_succ, List.map_cons, List.replicate_succ, List.flatten_cons, ← ih]
    rfl
theorem eq_line (x : Int) (S : Sto) : eqD false (.tup [.str "line", .int x]) (.tup [.str "line", .int x]) S = .ok (.bl true) S := by
  have p1 : pyD (.tup [.str "line", .int x]) = some (.tuple [.str "line", .int x]) := rfl
  have so : PyData.strOk "line" = true := by decide +kernel
  simp [eqD, pyOf, p1, SeqAt.shaped]
  simp [PyData.canLayAll0, PyData.depthAll, PyData.eqvAll, PyData.eqv, PyData.canLay0, PyData.depth, so]
theorem tail_eq {z am : Nat} {wr : Option Nat} {L : List (List Nat)} (ok : okT z wr L = true) (ha : am = 1 ∨ am = 2) (x0 s1 s2 s3 s4 : D) (a b c : Int) (l : Sto) :
    ∃ S', endF (tlE [some x0, some (.loc 0), some s1, some s2, some s3, some s4, some (.lst (sL (([x_head, x_kind ++ [48 + am]] ++ preT z wr).map tS))), some (.str (tS (indT wr))), some (.lst (sL (L.map tS))), none, none] (pO a b c :: l)) = .ok (.bl true) S' := by
  obtain ⟨t, a1, b1, c1, e1, h1⟩ := pick0 a b c l 3 (by decide) (by decide)
  simp only [show ((3 : Nat) : Int) = 3 from rfl] at e1
  obtain ⟨o1, o2, o3, o4⟩ := okT_of ok ha h1
  obtain ⟨S', rd⟩ := read_ok ok ha h1 (pO a1 b1 c1 :: l)
  have fo := found_eq rd
  have jo := joined_eq o2 o3 (pO a1 b1 c1 :: l)
  have rl : (rowT [48 + am] z wr L).length ≤ 30 := by
    have : (allT [48 + am] z wr L t).length = (rowT [48 + am] z wr L).length + t := by simp [allT]
    omega
  have Ll : L.length ≤ 30 := by
    have : (rowT [48 + am] z wr L).length = ([x_head, x_kind ++ [48 + am]] ++ preT z wr).length + L.length := by simp [rowT]; omega
    omega
  have pl : ([x_head, x_kind ++ [48 + am]] ++ preT z wr).length ≤ 30 := by
    have : (rowT [48 + am] z wr L).length = ([x_head, x_kind ++ [48 + am]] ++ preT z wr).length + L.length := by simp [rowT]; omega
    omega
  have il : (tS (indT wr)).length ≤ 20 := by
    rw [len_list, tS_list]
    cases wr with
    | none => exact (by decide : x_i4.length ≤ 20)
    | some v => exact (by decide : x_i8.length ≤ 20)
  have Lx : ∀ x ∈ L.map tS, x.length ≤ 60 := fun x hx => by
    obtain ⟨y, hy, rfl⟩ := List.mem_map.mp hx
    have hm : indT wr ++ y ∈ allT [48 + am] z wr L t := by
      unfold allT rowT
      simp only [List.mem_append, List.mem_map]
      exact .inl (.inr ⟨y, hy, rfl⟩)
    have := (o2 _ hm).1
    rw [List.length_append] at this
    rw [len_list, tS_list]; omega
  have lc := fun E h9 h7 => lc_ind (S := pO a b c :: l) (env := E) h9 h7 il (L.map tS) [] E h9 h7 (by simp; omega) Lx
  have em : (L.map tS).map (tS (indT wr) ++ ·) = (L.map (indT wr ++ ·)).map tS := by
    rw [List.map_map, List.map_map]
    exact List.map_congr_left fun y _ => (tS_app _ _).symm
  simp only [List.nil_append, show sL [] = [] from rfl, em] at lc
  have lc1 := lc [some x0, some (.loc 0), some s1, some s2, some s3, some s4, some (.lst (sL (([x_head, x_kind ++ [48 + am]] ++ preT z wr).map tS))), some (.str (tS (indT wr))), some (.lst (sL (L.map tS))), none, none] (by simp) rfl
  clear lc
  have er : sL ((rowT [48 + am] z wr L).map tS) = sL (([x_head, x_kind ++ [48 + am]] ++ preT z wr).map tS) ++ sL ((L.map (indT wr ++ ·)).map tS) := by rw [← sL_app]; rfl
  have ad1 := add_lst (a := sL (([x_head, x_kind ++ [48 + am]] ++ preT z wr).map tS)) (b := sL ((L.map (indT wr ++ ·)).map tS)) (by rw [sL_len, sL_len, List.length_map, List.length_map, List.length_map]; omega) (pO a b c :: l)
  rw [← er] at ad1
  have ml := mul_lst (a := [D.str "    commit"]) (k := (t : Int)) (by omega) (by omega) (by decide) (pO a1 b1 c1 :: l)
  have er2 : sL ((allT [48 + am] z wr L t).map tS) = sL ((rowT [48 + am] z wr L).map tS) ++ (List.replicate t [D.str "    commit"]).flatten := by
    unfold allT
    rw [sL_app, rep_sL, x_c4_s]
  rw [Int.toNat_natCast] at ml
  have fll : (List.replicate t [D.str "    commit"]).flatten.length ≤ 3 := by simp; omega
  have ad2 := add_lst (a := sL ((rowT [48 + am] z wr L).map tS)) (b := (List.replicate t [D.str "    commit"]).flatten) (by rw [sL_len, List.length_map]; omega) (pO a1 b1 c1 :: l)
  rw [← er2] at ad2
  have ln : (sL ((rowT [48 + am] z wr L).map tS)).length = (rowT [48 + am] z wr L).length := by rw [sL_len, List.length_map]
  have p1 : 1 ≤ (rowT [48 + am] z wr L).length := by simp [rowT]
  have cs : (((rowT [48 + am] z wr L).length - 1 : Nat) : Int) = ((rowT [48 + am] z wr L).length : Int) - 1 := by omega
  rw [cs] at fo
  have eqq := eq_line (((rowT [48 + am] z wr L).length : Int) - 1)
  have lnI : ((sL ((rowT [48 + am] z wr L).map tS)).length : Int) = ((rowT [48 + am] z wr L).length : Int) := by rw [ln]
  refine ⟨S', ?_⟩
  generalize txtT (allT [48 + am] z wr L t) = tx at *
  generalize hR : sL ((allT [48 + am] z wr L t).map tS) = X1 at *
  generalize sL ((rowT [48 + am] z wr L).map tS) = X2 at *
  generalize sL ((L.map (indT wr ++ ·)).map tS) = X3 at *
  generalize sL (([x_head, x_kind ++ [48 + am]] ++ preT z wr).map tS) = X4 at *
  generalize sL (L.map tS) = X5 at *
  generalize (List.replicate t [D.str "    commit"]).flatten = X6 at *
  generalize tS (indT wr) = ti at *
  generalize ((rowT [48 + am] z wr L).length : Int) = nl at *
  simp -implicitDefEqProofs [-addD_ll, tlE, lc1, wipeE, ad1, e1, ml, ad2, jo, fo, eqq, lnI]
end Mm
set_option maxRecDepth 100000
namespace Mm
open PySem L2
theorem am_str {am : Nat} (ha : am = 1 ∨ am = 2) : ("  kind web block 2 many " : Str) ++ nS (am : Int) = tS (x_kind ++ [48 + am]) := by rcases ha with rfl | rfl <;> decide +kernel
theorem hd_eq {z am : Nat} (hz : z < 3) (ha : am = 1 ∨ am = 2) (x0 s1 s2 s4 : D) (S : Sto) : hdE [some x0, some s1, some s2, some (.int (z : Int)), some s4, some (.int (am : Int)), none, none, none, none, none] S =
    .next [some x0, some s1, some s2, some (.int (z : Int)), some s4, some (.int (am : Int)), some (.lst (sL (([x_head, x_kind ++ [48 + am]] ++ List.replicate z x_c4).map tS))), none, none, none, none] S := by
  have s := fun S => strI_ok (i := (am : Int)) (by omega) (by omega) S
  have nl := (nS_len (i := (am : Int)) (by omega) (by omega)).1
  have hl : ("  kind web block 2 many " : Str).length = 24 := by decide
  have ad := fun S => add_ok (a := "  kind web block 2 many ") (b := nS (am : Int)) (by omega) S
  rw [am_str ha] at ad
  have ml := mul_lst (a := [D.str "    commit"]) (k := (z : Int)) (by omega) (by omega) (by decide) S
  rw [Int.toNat_natCast] at ml
  have fll : (List.replicate z [D.str "    commit"]).flatten.length ≤ 3 := by simp; omega
  have ad2 := add_lst (a := [D.str "system ahead 0 window none crashes 0", .str (tS (x_kind ++ [48 + am]))]) (b := (List.replicate z [D.str "    commit"]).flatten) (by simp; omega) S
  have er : sL (([x_head, x_kind ++ [48 + am]] ++ List.replicate z x_c4).map tS) = [D.str "system ahead 0 window none crashes 0", .str (tS (x_kind ++ [48 + am]))] ++ (List.replicate z [D.str "    commit"]).flatten := by
    rw [sL_app, rep_sL, x_c4_s]
    rw [← x_head_s]; rfl
  rw [er]
  generalize (List.replicate z [D.str "    commit"]).flatten = R at *
  generalize tS (x_kind ++ [48 + am]) = kk at *
  generalize nS (am : Int) = na at *
  generalize [D.str "system ahead 0 window none crashes 0", .str kk] ++ R = Z at *
  simp -implicitDefEqProofs [-addD_str, -addD_ll, hdE, s, ad, ml, ad2]
theorem wr_eq {z am : Nat} (hz : z < 3) (x0 s2 s3 s5 : D) (wb : Bool) (a b c : Int) (l : Sto) : ∃ (wr : Option Nat) (a' b' c' : Int), (wb = false → wr = none) ∧ (∀ v, wr = some v → v < 2) ∧
    wrE [some x0, some (.loc 0), some s2, some s3, some (.bl wb), some s5, some (.lst (sL (([x_head, x_kind ++ [48 + am]] ++ List.replicate z x_c4).map tS))), some (.str "    "), none, none, none] (pO a b c :: l) =
    .next [some x0, some (.loc 0), some s2, some s3, some (.bl wb), some s5, some (.lst (sL (([x_head, x_kind ++ [48 + am]] ++ preT z wr).map tS))), some (.str (tS (indT wr))), none, none, none] (pO a' b' c' :: l) := by
  cases wb with
  | false =>
    refine ⟨none, a, b, c, fun _ => rfl, fun v h => (by cases h), ?_⟩
    have e1 : ([x_head, x_kind ++ [48 + am]] ++ preT z none) = ([x_head, x_kind ++ [48 + am]] ++ List.replicate z x_c4) := by simp [preT]
    have e2 : tS (indT none) = ("    " : Str) := x_i4_s
    rw [e1, e2]
    generalize sL (([x_head, x_kind ++ [48 + am]] ++ List.replicate z x_c4).map tS) = Z at *
    simp -implicitDefEqProofs [wrE]
  | true =>
    obtain ⟨v, a1, b1, c1, e1, h1⟩ := pick0 a b c l 2 (by decide) (by decide)
    simp only [show ((2 : Nat) : Int) = 2 from rfl] at e1
    refine ⟨some v, a1, b1, c1, fun h => (by cases h), fun w h => (by cases h; exact h1), ?_⟩
    have i2 : tS (indT (some v)) = ("        " : Str) := x_i8_s
    have zl : (sL (([x_head, x_kind ++ [48 + am]] ++ List.replicate z x_c4).map tS)).length ≤ 10 := by rw [sL_len]; simp; omega
    have ad1 := fun S => add_lst (a := sL (([x_head, x_kind ++ [48 + am]] ++ List.replicate z x_c4).map tS)) (b := [.str "    choose", .str "      yes"]) (by simp at zl ⊢; omega) S
    have ad2 := fun S => add_lst (a := sL (([x_head, x_kind ++ [48 + am]] ++ List.replicate z x_c4).map tS) ++ [.str "    choose", .str "      yes"]) (b := [.str "        commit", .str "      no"]) (by simp at zl ⊢; omega) S
    rw [i2]
    have hv : v = 0 ∨ v = 1 := by omega
    rcases hv with rfl | rfl
    · have er : sL (([x_head, x_kind ++ [48 + am]] ++ preT z (some 0)).map tS) = sL (([x_head, x_kind ++ [48 + am]] ++ List.replicate z x_c4).map tS) ++ [.str "    choose", .str "      yes"] ++ [.str "        commit", .str "      no"] := by
        have : ([x_head, x_kind ++ [48 + am]] ++ preT z (some 0)) = ([x_head, x_kind ++ [48 + am]] ++ List.replicate z x_c4) ++ ([x_ch4, x_y6] ++ [x_c8, x_n6]) := by simp [preT]
        have t : sL (([x_ch4, x_y6] ++ [x_c8, x_n6]).map tS) = [.str "    choose", .str "      yes"] ++ [.str "        commit", .str "      no"] := by
          rw [← x_ch4_s, ← x_y6_s, ← x_c8_s, ← x_n6_s]; rfl
        rw [this, sL_app ([x_head, x_kind ++ [48 + am]] ++ List.replicate z x_c4), t, List.append_assoc]
      rw [er]
      generalize sL (([x_head, x_kind ++ [48 + am]] ++ List.replicate z x_c4).map tS) = Z at *
      generalize Z ++ [D.str "    choose", .str "      yes"] = Z1 at *
      generalize Z1 ++ [D.str "        commit", .str "      no"] = Z2 at *
      simp -implicitDefEqProofs [-addD_ll, wrE, ad1, ad2, e1]
    · have er : sL (([x_head, x_kind ++ [48 + am]] ++ preT z (some 1)).map tS) = sL (([x_head, x_kind ++ [48 + am]] ++ List.replicate z x_c4).map tS) ++ [.str "    choose", .str "      yes"] := by
        have : ([x_head, x_kind ++ [48 + am]] ++ preT z (some 1)) = ([x_head, x_kind ++ [48 + am]] ++ List.replicate z x_c4) ++ [x_ch4, x_y6] := by simp [preT]
        rw [this, sL_app]
        rw [← x_ch4_s, ← x_y6_s]; rfl
      rw [er]
      generalize sL (([x_head, x_kind ++ [48 + am]] ++ List.replicate z x_c4).map tS) = Z at *
      generalize Z ++ [D.str "    choose", .str "      yes"] = Z1 at *
      simp -implicitDefEqProofs [-addD_ll, wrE, ad1, e1]
theorem wp_eq {sh : Nat} (hs : sh < 7) (x0 s3 : D) (a b c : Int) : ∃ (wb : Bool) (a' b' c' : Int), (sh < 3 → wb = false) ∧
    wpE [some x0, some (.loc 0), some (.int (sh : Int)), some s3, none, none, none, none, none, none, none] [pO a b c] = .next [some x0, some (.loc 0), some (.int (sh : Int)), some s3, some (.bl wb), none, none, none, none, none, none] [pO a' b' c'] := by
  by_cases h : sh < 3
  · refine ⟨false, a, b, c, fun _ => rfl, ?_⟩
    have g : ((2 : Int) < (sh : Int)) = False := eq_false (by omega)
    simp -implicitDefEqProofs [wpE, g]
  · obtain ⟨v, a1, b1, c1, e1, h1⟩ := pick0 a b c [] 2 (by decide) (by decide)
    simp only [show ((2 : Nat) : Int) = 2 from rfl] at e1
    have g : ((2 : Int) < (sh : Int)) = True := eq_true (by omega)
    have hv : v = 0 ∨ v = 1 := by omega
    rcases hv with rfl | rfl
    · exact ⟨true, a1, b1, c1, fun q => absurd q h, by simp -implicitDefEqProofs [wpE, g, e1]⟩
    · exact ⟨false, a1, b1, c1, fun _ => rfl, by simp -implicitDefEqProofs [wpE, g, e1]⟩
theorem law_ok (ns : List Int) (hn : ns.length ≤ 63) : ∃ S, m_law [.fz ns] [] = .ok (.bl true) S := by
  obtain ⟨a, b, c, e0⟩ := box_eq ns 0 []
  simp only [List.length_nil, List.nil_append, show ((0 : Nat) : Int) = 0 from rfl] at e0
  obtain ⟨sh, a1, b1, c1, e1, h1⟩ := pick0 a b c [] 7 (by decide) (by decide)
  obtain ⟨z, a2, b2, c2, e2, h2⟩ := pick0 a1 b1 c1 [] 3 (by decide) (by decide)
  obtain ⟨wb, a3, b3, c3, w0, e3⟩ := wp_eq h1 (.fz ns) (.int (z : Int)) a2 b2 c2
  obtain ⟨m, a4, b4, c4, e4, h4⟩ := pick0 a3 b3 c3 [] 2 (by decide) (by decide)
  simp only [show ((7 : Nat) : Int) = 7 from rfl, show ((3 : Nat) : Int) = 3 from rfl, show ((2 : Nat) : Int) = 2 from rfl] at e1 e2 e4
  have ha : m + 1 = 1 ∨ m + 1 = 2 := by omega
  have e5 := hd_eq h2 ha (.fz ns) (.loc 0) (.int (sh : Int)) (.bl wb) [pO a4 b4 c4]
  obtain ⟨wr, a6, b6, c6, wn, wv, e6⟩ := wr_eq (am := m + 1) h2 (.fz ns) (.int (sh : Int)) (.int (z : Int)) (.int ((m + 1 : Nat) : Int)) wb a4 b4 c4 []
  obtain ⟨E1, S1, a7, b7, c7, l7, L, eA, eB, mem⟩ := ln_eq h1 h2 (.fz ns) (.bl wb) (.int ((m + 1 : Nat) : Int)) (.lst (sL (([x_head, x_kind ++ [48 + (m + 1)]] ++ preT z wr).map tS))) (.str (tS (indT wr))) a6 b6 c6 []
  have ok : okT z wr L = true := by
    cases wr with
    | none =>
      refine okN h2 ?_
      by_cases q : sh < 3
      · rwa [if_pos q] at mem
      · rw [if_neg q] at mem
        simp only [List.mem_append] at mem ⊢
        rcases mem with mem | mem
        · exact .inl (.inr mem)
        · exact .inr mem
    | some v =>
      have q : ¬ sh < 3 := fun q => by cases wn (w0 q)
      rw [if_neg q] at mem
      exact okS h2 (wv v rfl) mem
  obtain ⟨S', et⟩ := tail_eq ok ha (.fz ns) (.int (sh : Int)) (.int (z : Int)) (.bl wb) (.int ((m + 1 : Nat) : Int)) a7 b7 c7 l7
  refine ⟨S', ?_⟩
  have cm : ((m + 1 : Nat) : Int) = 1 + (m : Int) := by omega
  rw [cm] at e5 e6 eA eB et
  generalize sL (([x_head, x_kind ++ [48 + (m + 1)]] ++ preT z wr).map tS) = Z2 at *
  generalize sL (([x_head, x_kind ++ [48 + (m + 1)]] ++ List.replicate z x_c4).map tS) = Z1 at *
  generalize sL (L.map tS) = Z3 at *
  generalize tS (indT wr) = ti at *
  rw [show m_law = runDef 1 11 b_law from rfl]
  have hp := law_parts
  generalize b_law = BL at *
  simp -implicitDefEqProofs [runDef, hp, e0, e1, e2, e3, e4, e5, e6, eA, eB, et]
end Mm
set_option maxRecDepth 100000
namespace Mm
open PySem L2
theorem sc_is_integer : FnScope ["value"] ["value"] (defScope s_is_integer) := ⟨rfl, rfl, rfl, by decide +kernel, rfl, by decide +kernel, by decide +kernel⟩
theorem ok_is_integer {P : Program} {wd : World} {K : PySem.W.Frag} {mg : Str → Option Value} {base : Heap} {Γ : Cls'} (Wd : WdT wd K Γ mg)  {f : Addr} {fd : FuncData} (F : Fun K "is_integer" "is_integer" s_is_integer f fd) :
    FnOk P wd K mg base (L2.CX P wd) 1 f fd ["value"] (spM K Γ m_is_integer) := by
  have nd := sc_is_integer.nd
  exact def_ok F sc_is_integer fun cdv A outer s H E hr => (c_last (c_ret (c_and (c_isiT (T := "int") Wd.nolk Wd.b_isinstance Wd.b_int (by decide +kernel) (cv 0)) (c_one (c_nott (c_isiT (T := "bool") Wd.nolk Wd.b_isinstance Wd.b_bool (by decide +kernel) (cv 0)))))))

theorem sc_is_within : FnScope ["value", "low", "high"] ["value", "low", "high"] (defScope s_is_within) := ⟨rfl, rfl, rfl, by decide +kernel, rfl, by decide +kernel, by decide +kernel⟩
theorem ok_is_within {P : Program} {wd : World} {K : PySem.W.Frag} {mg : Str → Option Value} {base : Heap} {Γ : Cls'} (Wd : WdT wd K Γ mg) (G_is_integer : Df P wd K mg base Γ "is_integer" 1 m_is_integer) {f : Addr} {fd : FuncData} (F : Fun K "is_within" "is_within" s_is_within f fd) :
    FnOk P wd K mg base (L2.CX P wd) 2 f fd ["value", "low", "high"] (spM K Γ m_is_within) := by
  have nd := sc_is_within.nd
  exact def_ok F sc_is_within fun cdv A outer s H E hr => (c_last (c_ret (c_and (c_fn tr0_ok G_is_integer go_def (hr.mono (by first | decide | omega)) (by rfl) (c_acons (cv 0) c_anil)) (c_one (c_chain op_le g_le op_le g_le (cv 1) (cv 0) (cv 2))))))

theorem sc_is_name : FnScope ["value", "letter"] ["value"] (defScope s_is_name) := ⟨rfl, rfl, rfl, by decide +kernel, rfl, by decide +kernel, by decide +kernel⟩
theorem ok_is_name {P : Program} {wd : World} {K : PySem.W.Frag} {mg : Str → Option Value} {base : Heap} {Γ : Cls'} (Wd : WdT wd K Γ mg)  {f : Addr} {fd : FuncData} (F : Fun K "is_name" "is_name" s_is_name f fd) :
    FnOk P wd K mg base (L2.CX P wd) 1 f fd ["value"] (spM K Γ m_is_name) := by
  have nd := sc_is_name.nd
  exact def_ok F sc_is_name fun cdv A outer s H E hr => (c_seq (c_if (c_wt (c_wor (c_tnot (c_tru (c_isiT (T := "str") Wd.nolk Wd.b_isinstance Wd.b_str (by decide +kernel) (cv 0)))) (c_wor1 (c_tnot (c_tchain op_le g_le op_le g_le c_int (c_callB call_len g_len (by rfl) Wd.b_len PySem.boot_len (c_acons (cv 0) c_anil)) (c_gl Wd.g_LONGEST_NAME)))))) (c_last (c_ret c_bl)) c_nil)
  (c_last (c_ret (c_callB (cr_all rfl) g_all (by rfl) Wd.b_all (by decide +kernel) (c_acons (c_lcG (own := [("letter", 1)]) (sl := [1]) finL_ok (by decide) rfl nd (ci_str (cv 0)) (blkOk_by (own := [("letter", 1)]) (N := ["value", "letter"]) (sc := defScope s_is_name) (by decide +kernel)) (fun _ _ _ _ _ => (cgn 1 nd)) (fun _ _ _ _ _ => c_tsnil) (fun _ _ _ _ _ => (c_chain op_le_str g_strLe op_le_str g_strLe c_str (cv 1) c_str))) c_anil)))))

theorem sc_held_after : FnScope ["word", "held"] ["word", "held"] (defScope s_held_after) := ⟨rfl, rfl, rfl, by decide +kernel, rfl, by decide +kernel, by decide +kernel⟩
theorem ok_held_after {P : Program} {wd : World} {K : PySem.W.Frag} {mg : Str → Option Value} {base : Heap} {Γ : Cls'} (Wd : WdT wd K Γ mg)  {f : Addr} {fd : FuncData} (F : Fun K "held_after" "held_after" s_held_after f fd) :
    FnOk P wd K mg base (L2.CX P wd) 1 f fd ["word", "held"] (spM K Γ m_held_after) := by
  have nd := sc_held_after.nd
  exact def_ok F sc_held_after fun cdv A outer s H E hr => (c_seq (c_if (c_tcmp (op_eq2 (hu64 hr)) g_eq (cv 0) c_str (nomark _)) (c_last (c_ret (c_bin op_add4 g_add (cv 1) c_int))) c_nil)
  (c_last (c_ret (c_ifx (c_tcmp op_in_seq g_inF (cv 0) (c_tup (c_acons c_str (c_acons c_str (c_acons c_str c_anil)))) (by rfl)) c_int (cv 1)))))
end Mm
set_option maxRecDepth 100000
namespace Mm
open PySem L2
theorem sc_has_form : FnScope ["statement", "word"] ["statement"] (defScope s_has_form) := ⟨rfl, rfl, rfl, by decide +kernel, rfl, by decide +kernel, by decide +kernel⟩
theorem ok_has_form {P : Program} {wd : World} {K : PySem.W.Frag} {mg : Str → Option Value} {base : Heap} {Γ : Cls'} (Wd : WdT wd K Γ mg)  {f : Addr} {fd : FuncData} (F : Fun K "has_form" "has_form" s_has_form f fd) :
    FnOk P wd K mg base (L2.CX P wd) 1 f fd ["statement"] (spM K Γ m_has_form) := by
  have nd := sc_has_form.nd
  exact def_ok F sc_has_form fun cdv A outer s H E hr => (c_seq (c_if (c_wt (c_wor (c_tnot (c_tru (c_isiT (T := "tuple") Wd.nolk Wd.b_isinstance Wd.b_tuple (by decide +kernel) (cv 0)))) (c_wor1 (c_tnot (c_tru (cv 0)))))) (c_last (c_ret c_bl)) c_nil)
  (c_seq (cset 1 nd (c_ix (cv 0) c_int))
  (c_seq (c_if (c_wt (c_wor (c_tnot (c_tru (c_isiT (T := "str") Wd.nolk Wd.b_isinstance Wd.b_str (by decide +kernel) (cv 1)))) (c_wor1 (c_tcmp (op_ne2 (hu64 hr)) g_ne (c_callB call_len g_len (by rfl) Wd.b_len PySem.boot_len (c_acons (cv 0) c_anil)) (c_kget Wd.k_ITEMS (cv 1)) (nomark _))))) (c_last (c_ret c_bl)) c_nil)
  (c_seq (c_if (c_tcmp (op_eq2 (hu64 hr)) g_eq (cv 1) c_str (nomark _)) (c_last (c_ret (c_and (c_isiT (T := "tuple") Wd.nolk Wd.b_isinstance Wd.b_tuple (by decide +kernel) (c_ix (cv 0) c_int)) (c_one (c_isiT (T := "tuple") Wd.nolk Wd.b_isinstance Wd.b_tuple (by decide +kernel) (c_ix (cv 0) c_int)))))) c_nil)
  (c_last (c_ret c_bl))))))

theorem sc_fault_of : FnScope ["statement", "place", "earlier", "held", "word"] ["statement", "place", "earlier", "held"] (defScope s_fault_of) := ⟨rfl, rfl, rfl, by decide +kernel, rfl, by decide +kernel, by decide +kernel⟩
theorem ok_fault_of {P : Program} {wd : World} {K : PySem.W.Frag} {mg : Str → Option Value} {base : Heap} {Γ : Cls'} (Wd : WdT wd K Γ mg) (G_has_form : Df P wd K mg base Γ "has_form" 1 m_has_form) (G_is_name : Df P wd K mg base Γ "is_name" 1 m_is_name) {f : Addr} {fd : FuncData} (F : Fun K "fault_of" "fault_of" s_fault_of f fd) :
    FnOk P wd K mg base (L2.CX P wd) 2 f fd ["statement", "place", "earlier", "held"] (spM K Γ m_fault_of) := by
  have nd := sc_fault_of.nd
  exact def_ok F sc_fault_of fun cdv A outer s H E hr => (c_seq (c_if (c_tcmp (op_eq2 (hu64 hr)) g_eq (cv 2) (c_gl Wd.g_MOST_STATEMENTS) (nomark _)) (c_last (c_ret c_str)) c_nil)
  (c_seq (c_if (c_tnot (c_tru (c_fn tr0_ok G_has_form go_def (hr.mono (by first | decide | omega)) (by rfl) (c_acons (cv 0) c_anil)))) (c_last (c_ret c_str)) c_nil)
  (c_seq (cset 4 nd (c_ix (cv 0) c_int))
  (c_seq (c_if (c_wt (c_wand (c_tcmp (op_eq2 (hu64 hr)) g_eq (cv 4) c_str (nomark _)) (c_wand1 (c_tcmp (op_eq2 (hu64 hr)) g_eq (c_bin op_fdiv g_div (c_callB call_len g_len (by rfl) Wd.b_len PySem.boot_len (c_acons (cv 1) c_anil)) c_int) (c_gl Wd.g_MOST_NESTED) (nomark _))))) (c_last (c_ret c_str)) c_nil)
  (c_seq (c_if (c_wt (c_wand (c_tcmp op_in_seq g_inF (cv 4) (c_tup (c_acons c_str (c_acons c_str c_anil))) (by rfl)) (c_wand1 (c_tnot (c_tru (c_fn tr0_ok G_is_name go_def (hr.mono (by first | decide | omega)) (by rfl) (c_acons (c_ix (cv 0) c_int) c_anil))))))) (c_last (c_ret c_str)) c_nil)
  (c_seq (c_if (c_wt (c_wand (c_tcmp (op_eq2 (hu64 hr)) g_eq (cv 4) c_str (nomark _)) (c_wand1 (c_tcmp (op_eq2 (hu64 hr)) g_eq (cv 3) (c_gl Wd.g_MOST_HELD) (nomark _))))) (c_last (c_ret c_str)) c_nil)
  (c_last (c_ret c_non))))))))

theorem sc_Check___init__ : FnScope ["self"] ["self"] (defScope s_Check___init__) := ⟨rfl, rfl, rfl, by decide +kernel, rfl, by decide +kernel, by decide +kernel⟩
theorem ok_Check___init__ {P : Program} {wd : World} {K : PySem.W.Frag} {mg : Str → Option Value} {base : Heap} {Γ : Cls'} (Wd : WdT wd K Γ mg)  {f : Addr} {fd : FuncData} (F : Fun K "__init__" "Check.__init__" s_Check___init__ f fd) :
    FnOk P wd K mg base (L2.CX P wd) 1 f fd ["self"] (spM K Γ m_Check___init__) := by
  have nd := sc_Check___init__.nd
  exact def_ok F sc_Check___init__ fun cdv A outer s H E hr => (c_last (c_sfld (f := "found") (hF1 Wd.f_Check_found) (cv 0) c_dnewT))

theorem sc_Check_check_branch : FnScope ["self", "branch", "above", "held", "index", "statement"] ["self", "branch", "above", "held"] (defScope s_Check_check_branch) := ⟨rfl, rfl, rfl, by decide +kernel, rfl, by decide +kernel, by decide +kernel⟩
theorem ok_Check_check_branch {P : Program} {wd : World} {K : PySem.W.Frag} {mg : Str → Option Value} {base : Heap} {Γ : Cls'} (Wd : WdT wd K Γ mg) {m_Check_check_statement : FM} {n : Nat} (hn : 5 ≤ n) (G_Check_check_statement : Dm P wd K mg base Γ 2 "check_statement" n m_Check_check_statement) {f : Addr} {fd : FuncData} (F : Fun K "check_branch" "Check.check_branch" s_Check_check_branch f fd) :
    FnOk P wd K mg base (L2.CX P wd) (n + 1) f fd ["self", "branch", "above", "held"] (spM K Γ (m_Check_check_branch' m_Check_check_statement)) := by
  have nd := sc_Check_check_branch.nd
  exact def_ok F sc_Check_check_branch fun cdv A outer s H E hr => (c_seq (c_for (sl := [4, 5]) (passes_of rfl) rfl (ci_enum (by rfl) Wd.b_enumerate (cv 1)) (c_gtup rfl (c_gcons (cgn 4 nd) (c_gcons (cgn 5 nd) c_gnil)) (takes_cons (takes_cons takes_nil))) (c_last (cset 3 nd (c_mth tr0_ok G_Check_check_statement go_def (hr.mono (by first | decide | omega)) (cv 0) (c_acons (cv 5) (c_acons (c_bin op_add4 g_addT (cv 2) (c_ttp (c_acons (cv 4) c_anil))) (c_acons (cv 3) c_anil)))))))
  (c_last (c_ret (cv 3))))
end Mm
set_option maxRecDepth 100000
namespace Mm
open PySem L2
theorem sc_Check_check_statement : FnScope ["self", "statement", "place", "held", "why", "yes", "no"] ["self", "statement", "place", "held"] (defScope s_Check_check_statement) := ⟨rfl, rfl, rfl, by decide +kernel, rfl, by decide +kernel, by decide +kernel⟩
theorem ok_Check_check_statement {P : Program} {wd : World} {K : PySem.W.Frag} {mg : Str → Option Value} {base : Heap} {Γ : Cls'} (Wd : WdT wd K Γ mg) {m_Check_check_branch : FM} {n : Nat} (hn : 5 ≤ n) (G_Check_check_branch : Dm P wd K mg base Γ 2 "check_branch" n m_Check_check_branch) (G_fault_of : Df P wd K mg base Γ "fault_of" 2 m_fault_of) (G_held_after : Df P wd K mg base Γ "held_after" 1 m_held_after) {f : Addr} {fd : FuncData} (F : Fun K "check_statement" "Check.check_statement" s_Check_check_statement f fd) :
    FnOk P wd K mg base (L2.CX P wd) (n + 1) f fd ["self", "statement", "place", "held"] (spM K Γ (m_Check_check_statement' m_Check_check_branch)) := by
  have nd := sc_Check_check_statement.nd
  exact def_ok F sc_Check_check_statement fun cdv A outer s H E hr => (c_seq (cset 4 nd (c_fn tr0_ok G_fault_of go_def (hr.mono (by first | decide | omega)) (by rfl) (c_acons (cv 1) (c_acons (cv 2) (c_acons (c_callB call_lenD2 (g_dlen Wd.nolk) (by rfl) Wd.b_len PySem.boot_len (c_acons (c_fld (f := "found") (hF1 Wd.f_Check_found) (cv 0)) c_anil)) (c_acons (cv 3) c_anil))))))
  (c_seq (c_if (c_tcmp op_notN g_notN (cv 4) c_non (nomark _)) (c_last c_bad) c_nil)
  (c_seq (c_dput Wd.nolk (hu1 hr) (cv 1) (c_fld (f := "found") (hF1 Wd.f_Check_found) (cv 0)) (cv 2))
  (c_seq (c_if (c_tcmp (op_eq2 (hu64 hr)) g_eq (c_ix (cv 1) c_int) c_str (nomark _)) (c_seq (cset 5 nd (c_mth tr0_ok G_Check_check_branch go_def (hr.mono (by first | decide | omega)) (cv 0) (c_acons (c_ix (cv 1) c_int) (c_acons (c_bin op_add4 g_addT (cv 2) (c_ttp (c_acons c_int c_anil))) (c_acons (cv 3) c_anil)))))
  (c_seq (cset 6 nd (c_mth tr0_ok G_Check_check_branch go_def (hr.mono (by first | decide | omega)) (cv 0) (c_acons (c_ix (cv 1) c_int) (c_acons (c_bin op_add4 g_addT (cv 2) (c_ttp (c_acons c_int c_anil))) (c_acons (cv 3) c_anil)))))
  (c_last (c_ret (c_callB (call_max2 rfl) g_max2 (by rfl) Wd.b_max (by decide +kernel) (c_acons (cv 5) (c_acons (cv 6) c_anil))))))) c_nil)
  (c_last (c_ret (c_fn tr0_ok G_held_after go_def (hr.mono (by first | decide | omega)) (by rfl) (c_acons (c_ix (cv 1) c_int) (c_acons (cv 3) c_anil)))))))))

theorem sc_Script___init__ : FnScope ["self", "statements", "check"] ["self", "statements"] (defScope s_Script___init__) := ⟨rfl, rfl, rfl, by decide +kernel, rfl, by decide +kernel, by decide +kernel⟩
theorem ok_Script___init__ {P : Program} {wd : World} {K : PySem.W.Frag} {mg : Str → Option Value} {base : Heap} {Γ : Cls'} (Wd : WdT wd K Γ mg) (G_Check_check_branch : Dm P wd K mg base Γ 2 "check_branch" 11 m_Check_check_branch) (K_Check : Dk P wd K mg base Γ 2 "Check" 1 m_Check___init__) {f : Addr} {fd : FuncData} (F : Fun K "__init__" "Script.__init__" s_Script___init__ f fd) :
    FnOk P wd K mg base (L2.CX P wd) 12 f fd ["self", "statements"] (spM K Γ m_Script___init__) := by
  have nd := sc_Script___init__.nd
  exact def_ok F sc_Script___init__ fun cdv A outer s H E hr => (c_seq (c_if (c_tnot (c_tru (c_isiT (T := "tuple") Wd.nolk Wd.b_isinstance Wd.b_tuple (by decide +kernel) (cv 1)))) (c_last c_bad) c_nil)
  (c_seq (c_if (c_tnot (c_tru (cv 1))) (c_last c_bad) c_nil)
  (c_seq (cset 2 nd (c_mk0 tr0_ok K_Check go_def (hr.mono (by first | decide | omega)) (by rfl)))
  (c_seq (c_expr (c_mth tr0_ok G_Check_check_branch go_def (hr.mono (by first | decide | omega)) (cv 2) (c_acons (cv 1) (c_acons (c_ttp c_anil) (c_acons c_int c_anil)))))
  (c_seq (c_sfld (f := "statements") (hF1 Wd.f_Script_statements) (cv 0) (cv 1))
  (c_seq (c_sfld (f := "found") (hF1 Wd.f_Script_found) (cv 0) (c_fld (f := "found") (hF2 Wd.f_Script_found Wd.f_Check_found) (cv 2)))
  (c_last (c_sfld (f := "places") (hF1 Wd.f_Script_places) (cv 0) (c_callTy call_tuple_of g_tuple (by rfl) Wd.b_tuple (by decide +kernel) (c_acons (c_callTy (call_listD2 rfl) (g_dlist Wd.nolk) (by rfl) Wd.b_list (by decide +kernel) (c_acons (c_fld (f := "found") (hF1 Wd.f_Script_found) (cv 0)) c_anil)) c_anil))))))))))

theorem sc_Script___len__ : FnScope ["self"] ["self"] (defScope s_Script___len__) := ⟨rfl, rfl, rfl, by decide +kernel, rfl, by decide +kernel, by decide +kernel⟩
theorem ok_Script___len__ {P : Program} {wd : World} {K : PySem.W.Frag} {mg : Str → Option Value} {base : Heap} {Γ : Cls'} (Wd : WdT wd K Γ mg)  {f : Addr} {fd : FuncData} (F : Fun K "__len__" "Script.__len__" s_Script___len__ f fd) :
    FnOk P wd K mg base (L2.CX P wd) 1 f fd ["self"] (spM K Γ m_Script___len__) := by
  have nd := sc_Script___len__.nd
  exact def_ok F sc_Script___len__ fun cdv A outer s H E hr => (c_last (c_ret (c_callB call_len g_len (by rfl) Wd.b_len PySem.boot_len (c_acons (c_fld (f := "places") (hF1 Wd.f_Script_places) (cv 0)) c_anil))))

theorem sc_Script___contains__ : FnScope ["self", "place", "item"] ["self", "place"] (defScope s_Script___contains__) := ⟨rfl, rfl, rfl, by decide +kernel, rfl, by decide +kernel, by decide +kernel⟩
theorem ok_Script___contains__ {P : Program} {wd : World} {K : PySem.W.Frag} {mg : Str → Option Value} {base : Heap} {Γ : Cls'} (Wd : WdT wd K Γ mg) (G_is_integer : Df P wd K mg base Γ "is_integer" 1 m_is_integer) {f : Addr} {fd : FuncData} (F : Fun K "__contains__" "Script.__contains__" s_Script___contains__ f fd) :
    FnOk P wd K mg base (L2.CX P wd) 2 f fd ["self", "place"] (spM K Γ m_Script___contains__) := by
  have nd := sc_Script___contains__.nd
  exact def_ok F sc_Script___contains__ fun cdv A outer s H E hr => (c_seq (c_if (c_wt (c_wor (c_tnot (c_tru (c_isiT (T := "tuple") Wd.nolk Wd.b_isinstance Wd.b_tuple (by decide +kernel) (cv 1)))) (c_wor1 (c_tnot (c_tru (c_callB (cr_all rfl) g_all (by rfl) Wd.b_all (by decide +kernel) (c_acons (c_lcG (own := [("item", 2)]) (sl := [2]) finL_ok (by decide) rfl nd (ci_seq (cv 1)) (blkOk_by (own := [("item", 2)]) (N := ["self", "place", "item"]) (sc := defScope s_Script___contains__) (by decide +kernel)) (fun _ _ _ _ _ => (cgn 2 nd)) (fun _ _ _ _ _ => c_tsnil) (fun _ _ _ _ _ => (c_fn tr0_ok G_is_integer goes_not (hr.mono (by first | decide | omega)) (by rfl) (c_acons (cv 2) c_anil)))) c_anil))))))) (c_last (c_ret c_bl)) c_nil)
  (c_last (c_ret (c_cmp (op_dIn (hu1 hr)) g_din (cv 1) (c_fld (f := "found") (hF1 Wd.f_Script_found) (cv 0)) (by rfl)))))
end Mm
set_option maxRecDepth 100000
namespace Mm
open PySem L2
theorem sc_Script___getitem__ : FnScope ["self", "place"] ["self", "place"] (defScope s_Script___getitem__) := ⟨rfl, rfl, rfl, by decide +kernel, rfl, by decide +kernel, by decide +kernel⟩
theorem ok_Script___getitem__ {P : Program} {wd : World} {K : PySem.W.Frag} {mg : Str → Option Value} {base : Heap} {Γ : Cls'} (Wd : WdT wd K Γ mg) (O_Script___contains__ : Dn' P wd K mg base Γ 1 "__contains__" 2 m_Script___contains__) {f : Addr} {fd : FuncData} (F : Fun K "__getitem__" "Script.__getitem__" s_Script___getitem__ f fd) :
    FnOk P wd K mg base (L2.CX P wd) 4 f fd ["self", "place"] (spM K Γ m_Script___getitem__) := by
  have nd := sc_Script___getitem__.nd
  exact def_ok F sc_Script___getitem__ fun cdv A outer s H E hr => (c_seq (c_if (c_tinOwn (op := .NotIn) tr0_ok O_Script___contains__ (hr.mono (by first | decide | omega)) (cv 1) (cv 0) (by simp) (by rfl)) (c_last c_bad) c_nil)
  (c_last (c_ret (c_dget (hu1 hr) (c_fld (f := "found") (hF1 Wd.f_Script_found) (cv 0)) (cv 1)))))

theorem sc_answers_of : FnScope ["statement"] ["statement"] (defScope s_answers_of) := ⟨rfl, rfl, rfl, by decide +kernel, rfl, by decide +kernel, by decide +kernel⟩
theorem ok_answers_of {P : Program} {wd : World} {K : PySem.W.Frag} {mg : Str → Option Value} {base : Heap} {Γ : Cls'} (Wd : WdT wd K Γ mg)  {f : Addr} {fd : FuncData} (F : Fun K "answers_of" "answers_of" s_answers_of f fd) :
    FnOk P wd K mg base (L2.CX P wd) 1 f fd ["statement"] (spM K Γ m_answers_of) := by
  have nd := sc_answers_of.nd
  exact def_ok F sc_answers_of fun cdv A outer s H E hr => (c_last (c_ret (c_ifx (c_tcmp (op_eq2 (hu64 hr)) g_eq (c_ix (cv 0) c_int) c_str (nomark _)) (c_tup (c_acons c_int (c_acons c_int c_anil))) (c_tup (c_acons c_int c_anil)))))

theorem sc_is_answer : FnScope ["statement", "answer"] ["statement", "answer"] (defScope s_is_answer) := ⟨rfl, rfl, rfl, by decide +kernel, rfl, by decide +kernel, by decide +kernel⟩
theorem ok_is_answer {P : Program} {wd : World} {K : PySem.W.Frag} {mg : Str → Option Value} {base : Heap} {Γ : Cls'} (Wd : WdT wd K Γ mg) (G_answers_of : Df P wd K mg base Γ "answers_of" 1 m_answers_of) (G_is_integer : Df P wd K mg base Γ "is_integer" 1 m_is_integer) {f : Addr} {fd : FuncData} (F : Fun K "is_answer" "is_answer" s_is_answer f fd) :
    FnOk P wd K mg base (L2.CX P wd) 2 f fd ["statement", "answer"] (spM K Γ m_is_answer) := by
  have nd := sc_is_answer.nd
  exact def_ok F sc_is_answer fun cdv A outer s H E hr => (c_last (c_ret (c_and (c_fn tr0_ok G_is_integer go_def (hr.mono (by first | decide | omega)) (by rfl) (c_acons (cv 1) c_anil)) (c_one (c_cmp op_in_seq g_inF (cv 1) (c_fn tr0_ok G_answers_of go_def (hr.mono (by first | decide | omega)) (by rfl) (c_acons (cv 0) c_anil)) (by rfl))))))

theorem sc_Script_behind : FnScope ["self", "place", "follower"] ["self", "place"] (defScope s_Script_behind) := ⟨rfl, rfl, rfl, by decide +kernel, rfl, by decide +kernel, by decide +kernel⟩
theorem ok_Script_behind {P : Program} {wd : World} {K : PySem.W.Frag} {mg : Str → Option Value} {base : Heap} {Γ : Cls'} (Wd : WdT wd K Γ mg)  {f : Addr} {fd : FuncData} (F : Fun K "behind" "Script.behind" s_Script_behind f fd) :
    FnOk P wd K mg base (L2.CX P wd) 1 f fd ["self", "place"] (spM K Γ m_Script_behind) := by
  have nd := sc_Script_behind.nd
  exact def_ok F sc_Script_behind fun cdv A outer s H E hr => (c_seq (c_while (passes_of rfl) (c_tru (cv 1)) (c_seq (cset 2 nd (c_bin op_add4 g_add (c_sl (cv 1) c_onone (c_osome (c_neg c_int))) (c_tup (c_acons (c_bin op_add4 g_add (c_ix (cv 1) (c_neg c_int)) c_int) c_anil))))
  (c_seq (c_if (c_tcmp (op_dIn (hu1 hr)) g_din (cv 2) (c_fld (f := "found") (hF1 Wd.f_Script_found) (cv 0)) (by rfl)) (c_last (c_ret (cv 2))) c_nil)
  (c_last (cset 1 nd (c_sl (cv 1) c_onone (c_osome (c_neg c_int))))))))
  (c_last (c_ret c_non)))
end Mm
set_option maxRecDepth 100000
namespace Mm
open PySem L2
theorem sc_Script_after : FnScope ["self", "place", "answer", "statement", "word"] ["self", "place", "answer"] (defScope s_Script_after) := ⟨rfl, rfl, rfl, by decide +kernel, rfl, by decide +kernel, by decide +kernel⟩
theorem ok_Script_after {P : Program} {wd : World} {K : PySem.W.Frag} {mg : Str → Option Value} {base : Heap} {Γ : Cls'} (Wd : WdT wd K Γ mg) (G_Script_behind : Dm P wd K mg base Γ 1 "behind" 1 m_Script_behind) (G_is_answer : Df P wd K mg base Γ "is_answer" 2 m_is_answer) (O_Script___getitem__ : Dn' P wd K mg base Γ 1 "__getitem__" 4 m_Script___getitem__) {f : Addr} {fd : FuncData} (F : FunD K "after" "Script.after" (defArgs s_Script_after) (defBody s_Script_after) (defScope s_Script_after) [.int 0] [] f fd) :
    FnOk P wd K mg base (L2.CX P wd) 6 f fd ["self", "place", "answer"] (spM K Γ m_Script_after) := by
  have nd := sc_Script_after.nd
  exact def_okD F sc_Script_after fun cdv A outer s H E hr => (c_seq (cset 3 nd (c_ixOwn tr0_ok O_Script___getitem__ go_def (hr.mono (by first | decide | omega)) (cv 0) (cv 1)))
  (c_seq (cset 4 nd (c_ix (cv 3) c_int))
  (c_seq (c_if (c_tnot (c_tru (c_fn tr0_ok G_is_answer go_def (hr.mono (by first | decide | omega)) (by rfl) (c_acons (cv 3) (c_acons (cv 2) c_anil))))) (c_last c_bad) c_nil)
  (c_seq (c_if (c_tcmp (op_eq2 (hu64 hr)) g_eq (cv 4) c_str (nomark _)) (c_last (c_ret c_non)) c_nil)
  (c_seq (c_if (c_wt (c_wand (c_tcmp (op_eq2 (hu64 hr)) g_eq (cv 4) c_str (nomark _)) (c_wand1 (c_tru (c_ix (cv 3) (c_bin op_add4 g_add c_int (cv 2))))))) (c_last (c_ret (c_bin op_add4 g_add (cv 1) (c_tup (c_acons (cv 2) (c_acons c_int c_anil)))))) c_nil)
  (c_last (c_ret (c_mth tr0_ok G_Script_behind go_def (hr.mono (by first | decide | omega)) (cv 0) (c_acons (cv 1) c_anil)))))))))

theorem sc_script_of : FnScope ["script", "fault"] ["script"] (defScope s_script_of) := ⟨rfl, rfl, rfl, by decide +kernel, rfl, by decide +kernel, by decide +kernel⟩
theorem ok_script_of {P : Program} {wd : World} {K : PySem.W.Frag} {mg : Str → Option Value} {base : Heap} {Γ : Cls'} (Wd : WdT wd K Γ mg) (K_Script : Dk P wd K mg base Γ 1 "Script" 12 m_Script___init__) {f : Addr} {fd : FuncData} (F : Fun K "script_of" "script_of" s_script_of f fd) :
    FnOk P wd K mg base (L2.CX P wd) 14 f fd ["script"] (spM K Γ m_script_of) := by
  have nd := sc_script_of.nd
  exact def_ok F sc_script_of fun cdv A outer s H E hr => (c_seq (c_if (c_tru (c_isiK Wd.nolk Wd.b_isinstance Wd.c_Script (cv 0))) (c_last (c_ret (cv 0))) c_nil)
  (c_last (c_tryNo (c_last (c_ret (c_mk trT_ok K_Script goes_not (hr.mono (by first | decide | omega)) (by rfl) (c_acons (cv 0) c_anil)))))))

theorem sc_Kind___init__ : FnScope ["self", "name", "script", "block", "many"] ["self", "name", "script", "block", "many"] (defScope s_Kind___init__) := ⟨rfl, rfl, rfl, by decide +kernel, rfl, by decide +kernel, by decide +kernel⟩
theorem ok_Kind___init__ {P : Program} {wd : World} {K : PySem.W.Frag} {mg : Str → Option Value} {base : Heap} {Γ : Cls'} (Wd : WdT wd K Γ mg) (G_is_name : Df P wd K mg base Γ "is_name" 1 m_is_name) (G_is_within : Df P wd K mg base Γ "is_within" 2 m_is_within) (G_script_of : Df P wd K mg base Γ "script_of" 14 m_script_of) {f : Addr} {fd : FuncData} (F : FunD K "__init__" "Kind.__init__" (defArgs s_Kind___init__) (defBody s_Kind___init__) (defScope s_Kind___init__) [] [("block", .int 1), ("many", .int 1)] f fd) :
    FnOk P wd K mg base (L2.CX P wd) 15 f fd ["self", "name", "script", "block", "many"] (spM K Γ m_Kind___init__) := by
  have nd := sc_Kind___init__.nd
  exact def_okD F sc_Kind___init__ fun cdv A outer s H E hr => (c_seq (c_if (c_tnot (c_tru (c_fn tr0_ok G_is_name go_def (hr.mono (by first | decide | omega)) (by rfl) (c_acons (cv 1) c_anil)))) (c_last c_bad) c_nil)
  (c_seq (cset 2 nd (c_fn tr0_ok G_script_of go_def (hr.mono (by first | decide | omega)) (by rfl) (c_acons (cv 2) c_anil)))
  (c_seq (c_if (c_tnot (c_tru (c_fn tr0_ok G_is_within go_def (hr.mono (by first | decide | omega)) (by rfl) (c_acons (cv 3) (c_acons c_int (c_acons (c_gl Wd.g_MOST_BLOCK) c_anil)))))) (c_last c_bad) c_nil)
  (c_seq (c_if (c_tnot (c_tru (c_fn tr0_ok G_is_within go_def (hr.mono (by first | decide | omega)) (by rfl) (c_acons (cv 4) (c_acons c_int (c_acons (c_gl Wd.g_MOST_SESSIONS) c_anil)))))) (c_last c_bad) c_nil)
  (c_seq (c_sfld (f := "name") (hF1 Wd.f_Kind_name) (cv 0) (cv 1))
  (c_seq (c_sfld (f := "script") (hF1 Wd.f_Kind_script) (cv 0) (cv 2))
  (c_seq (c_sfld (f := "block") (hF1 Wd.f_Kind_block) (cv 0) (cv 3))
  (c_last (c_sfld (f := "many") (hF1 Wd.f_Kind_many) (cv 0) (cv 4))))))))))

theorem sc_count_of_sessions : FnScope ["kinds", "kind"] ["kinds"] (defScope s_count_of_sessions) := ⟨rfl, rfl, rfl, by decide +kernel, rfl, by decide +kernel, by decide +kernel⟩
theorem ok_count_of_sessions {P : Program} {wd : World} {K : PySem.W.Frag} {mg : Str → Option Value} {base : Heap} {Γ : Cls'} (Wd : WdT wd K Γ mg)  {f : Addr} {fd : FuncData} (F : Fun K "count_of_sessions" "count_of_sessions" s_count_of_sessions f fd) :
    FnOk P wd K mg base (L2.CX P wd) 1 f fd ["kinds"] (spM K Γ m_count_of_sessions) := by
  have nd := sc_count_of_sessions.nd
  exact def_ok F sc_count_of_sessions fun cdv A outer s H E hr => (c_last (c_ret (c_callB (cr_sum rfl) g_sum (by rfl) Wd.b_sum (by decide +kernel) (c_acons (c_lcG (own := [("kind", 1)]) (sl := [1]) finL_ok (by decide) rfl nd (ci_seq (cv 0)) (blkOk_by (own := [("kind", 1)]) (N := ["kinds", "kind"]) (sc := defScope s_count_of_sessions) (by decide +kernel)) (fun _ _ _ _ _ => (cgn 1 nd)) (fun _ _ _ _ _ => c_tsnil) (fun _ _ _ _ _ => (c_fld (f := "many") (hF1 Wd.f_Kind_many) (cv 1)))) c_anil))))
end Mm
set_option maxRecDepth 100000
namespace Mm
open PySem L2
theorem sc_are_kinds : FnScope ["kinds", "kind"] ["kinds"] (defScope s_are_kinds) := ⟨rfl, rfl, rfl, by decide +kernel, rfl, by decide +kernel, by decide +kernel⟩
theorem ok_are_kinds {P : Program} {wd : World} {K : PySem.W.Frag} {mg : Str → Option Value} {base : Heap} {Γ : Cls'} (Wd : WdT wd K Γ mg) (G_count_of_sessions : Df P wd K mg base Γ "count_of_sessions" 1 m_count_of_sessions) {f : Addr} {fd : FuncData} (F : Fun K "are_kinds" "are_kinds" s_are_kinds f fd) :
    FnOk P wd K mg base (L2.CX P wd) 2 f fd ["kinds"] (spM K Γ m_are_kinds) := by
  have nd := sc_are_kinds.nd
  exact def_ok F sc_are_kinds fun cdv A outer s H E hr => (c_seq (c_if (c_wt (c_wor (c_tnot (c_tru (cv 0))) (c_wor1 (c_tnot (c_tru (c_callB (cr_all rfl) g_all (by rfl) Wd.b_all (by decide +kernel) (c_acons (c_lcG (own := [("kind", 1)]) (sl := [1]) finL_ok (by decide) rfl nd (ci_seq (cv 0)) (blkOk_by (own := [("kind", 1)]) (N := ["kinds", "kind"]) (sc := defScope s_are_kinds) (by decide +kernel)) (fun _ _ _ _ _ => (cgn 1 nd)) (fun _ _ _ _ _ => c_tsnil) (fun _ _ _ _ _ => (c_isiK Wd.nolk Wd.b_isinstance Wd.c_Kind (cv 1)))) c_anil))))))) (c_last (c_ret c_bl)) c_nil)
  (c_seq (c_if (c_tcmp op_lt g_lt (c_lens (by rfl) Wd.b_len (by rfl) Wd.b_set (c_lcG (own := [("kind", 1)]) (sl := [1]) finL_ok (by decide) rfl nd (ci_seq (cv 0)) (blkOk_by (own := [("kind", 1)]) (N := ["kinds", "kind"]) (sc := defScope s_are_kinds) (by decide +kernel)) (fun _ _ _ _ _ => (cgn 1 nd)) (fun _ _ _ _ _ => c_tsnil) (fun _ _ _ _ _ => (c_fld (f := "name") (hF1 Wd.f_Kind_name) (cv 1))))) (c_callB call_len g_len (by rfl) Wd.b_len PySem.boot_len (c_acons (cv 0) c_anil)) (nomark _)) (c_last (c_ret c_bl)) c_nil)
  (c_last (c_ret (c_cmp op_le g_le (c_fn tr0_ok G_count_of_sessions go_def (hr.mono (by first | decide | omega)) (by rfl) (c_acons (cv 0) c_anil)) (c_gl Wd.g_MOST_SESSIONS) (nomark _))))))

theorem sc_fault_of_system : FnScope ["kinds", "ahead", "window", "crashes", "full", "kind", "greatest_block"] ["kinds", "ahead", "window", "crashes"] (defScope s_fault_of_system) := ⟨rfl, rfl, rfl, by decide +kernel, rfl, by decide +kernel, by decide +kernel⟩
theorem ok_fault_of_system {P : Program} {wd : World} {K : PySem.W.Frag} {mg : Str → Option Value} {base : Heap} {Γ : Cls'} (Wd : WdT wd K Γ mg) (G_are_kinds : Df P wd K mg base Γ "are_kinds" 2 m_are_kinds) (G_count_of_sessions : Df P wd K mg base Γ "count_of_sessions" 1 m_count_of_sessions) (G_is_within : Df P wd K mg base Γ "is_within" 2 m_is_within) (O_Script___len__ : Dn' P wd K mg base Γ 1 "__len__" 1 m_Script___len__) {f : Addr} {fd : FuncData} (F : Fun K "fault_of_system" "fault_of_system" s_fault_of_system f fd) :
    FnOk P wd K mg base (L2.CX P wd) 3 f fd ["kinds", "ahead", "window", "crashes"] (spM K Γ m_fault_of_system) := by
  have nd := sc_fault_of_system.nd
  exact def_ok F sc_fault_of_system fun cdv A outer s H E hr => (c_seq (c_if (c_tnot (c_tru (c_fn tr0_ok G_are_kinds go_def (hr.mono (by first | decide | omega)) (by rfl) (c_acons (cv 0) c_anil)))) (c_last (c_ret c_str)) c_nil)
  (c_seq (cset 4 nd (c_cmp (op_eq2 (hu64 hr)) g_eq (c_fn tr0_ok G_count_of_sessions go_def (hr.mono (by first | decide | omega)) (by rfl) (c_acons (cv 0) c_anil)) (c_gl Wd.g_MOST_SESSIONS) (nomark _)))
  (c_seq (c_if (c_wt (c_wand (c_tru (cv 4)) (c_wand1 (c_tcmp op_gt g_gt (c_callB (cr_max rfl) g_max (by rfl) Wd.b_max (by decide +kernel) (c_acons (c_lcG (own := [("kind", 5)]) (sl := [5]) finL_ok (by decide) rfl nd (ci_seq (cv 0)) (blkOk_by (own := [("kind", 5)]) (N := ["kinds", "ahead", "window", "crashes", "full", "kind", "greatest_block"]) (sc := defScope s_fault_of_system) (by decide +kernel)) (fun _ _ _ _ _ => (cgn 5 nd)) (fun _ _ _ _ _ => c_tsnil) (fun _ _ _ _ _ => (c_lenOwn O_Script___len__ (hr.mono (by first | decide | omega)) (by rfl) Wd.b_len (c_fld (f := "script") (hF1 Wd.f_Kind_script) (cv 5))))) c_anil)) (c_gl Wd.g_LONGEST_OF_MANY) (nomark _))))) (c_last (c_ret c_str)) c_nil)
  (c_seq (c_if (c_tnot (c_tru (c_fn tr0_ok G_is_within go_def (hr.mono (by first | decide | omega)) (by rfl) (c_acons (cv 1) (c_acons c_int (c_acons (c_gl Wd.g_MOST_AHEAD) c_anil)))))) (c_last (c_ret c_str)) c_nil)
  (c_seq (cset 6 nd (c_callB (cr_max rfl) g_max (by rfl) Wd.b_max (by decide +kernel) (c_acons (c_lcG (own := [("kind", 5)]) (sl := [5]) finL_ok (by decide) rfl nd (ci_seq (cv 0)) (blkOk_by (own := [("kind", 5)]) (N := ["kinds", "ahead", "window", "crashes", "full", "kind", "greatest_block"]) (sc := defScope s_fault_of_system) (by decide +kernel)) (fun _ _ _ _ _ => (cgn 5 nd)) (fun _ _ _ _ _ => c_tsnil) (fun _ _ _ _ _ => (c_fld (f := "block") (hF1 Wd.f_Kind_block) (cv 5)))) c_anil)))
  (c_seq (c_if (c_wt (c_wand (c_tcmp op_notN g_notN (cv 2) c_non (nomark _)) (c_wand1 (c_tnot (c_tru (c_fn tr0_ok G_is_within go_def (hr.mono (by first | decide | omega)) (by rfl) (c_acons (cv 2) (c_acons (cv 6) (c_acons (c_gl Wd.g_MOST_WINDOW) c_anil))))))))) (c_last (c_ret c_str)) c_nil)
  (c_seq (c_if (c_tnot (c_tru (c_fn tr0_ok G_is_within go_def (hr.mono (by first | decide | omega)) (by rfl) (c_acons (cv 3) (c_acons c_int (c_acons (c_gl Wd.g_MOST_CRASHES) c_anil)))))) (c_last (c_ret c_str)) c_nil)
  (c_last (c_ret c_non)))))))))

theorem sc_System___init__ : FnScope ["self", "ahead", "window", "crashes", "kinds", "why", "kind", "index"] ["self", "ahead", "window", "crashes", "kinds"] (defScope s_System___init__) := ⟨rfl, rfl, rfl, by decide +kernel, rfl, by decide +kernel, by decide +kernel⟩
theorem ok_System___init__ {P : Program} {wd : World} {K : PySem.W.Frag} {mg : Str → Option Value} {base : Heap} {Γ : Cls'} (Wd : WdT wd K Γ mg) (G_fault_of_system : Df P wd K mg base Γ "fault_of_system" 3 m_fault_of_system) (cdv : Value) (f : Addr) (A : Around) (outer : List PySem.Env) (s : Shared) (H : Hp) (E : XK) (hr : Room 3 (A.deeper (PyProof.Rows.envOfC "System.__init__" (defScope s_System___init__) s.heap.objs.size f cdv))) :
    CSs Γ (cxOf (L2.CX P wd) P wd K mg base ["self", "ahead", "window", "crashes", "kinds", "why", "kind", "index"] "System.__init__" (defScope s_System___init__) f cdv A outer s H E) (fun C dd _ H => E C dd H) (defBody s_System___init__) b_System___init__ := by
  have nd := sc_System___init__.nd
  exact (c_seq (cset 5 nd (c_fn tr0_ok G_fault_of_system go_def (hr.mono (by first | decide | omega)) (by rfl) (c_acons (cv 4) (c_acons (cv 1) (c_acons (cv 2) (c_acons (cv 3) c_anil))))))
  (c_seq (c_if (c_tcmp op_notN g_notN (cv 5) c_non (nomark _)) (c_last c_bad) c_nil)
  (c_seq (c_sfld (f := "kinds") (hF1 Wd.f_System_kinds) (cv 0) (cv 4))
  (c_seq (c_sfld (f := "ahead") (hF1 Wd.f_System_ahead) (cv 0) (cv 1))
  (c_seq (c_sfld (f := "window") (hF1 Wd.f_System_window) (cv 0) (cv 2))
  (c_seq (c_sfld (f := "crashes") (hF1 Wd.f_System_crashes) (cv 0) (cv 3))
  (c_last (c_sfld (f := "sessions") (hF1 Wd.f_System_sessions) (cv 0) (c_callTy call_tuple_of g_tuple (by rfl) Wd.b_tuple (by decide +kernel) (c_acons (c_lc2 (own := [("kind", 6), ("index", 7)]) (vs1 := [7]) (sl := [6]) (sl1 := [7]) finL_ok (by decide) (by decide) (by decide) rfl nd (ci_seq (cv 4)) (blkOk_by (own := [("kind", 6), ("index", 7)]) (N := ["self", "ahead", "window", "crashes", "kinds", "why", "kind", "index"]) (sc := defScope s_System___init__) (by decide +kernel)) (fun _ _ _ _ _ => (cgn 6 nd)) (fun _ _ _ _ _ => c_tsnil) (fun _ _ _ _ _ => (ci_rng1 (by rfl) Wd.b_range (c_fld (f := "many") (hF1 Wd.f_Kind_many) (cv 6)))) (fun _ _ _ _ _ => (cgn 7 nd)) (fun _ _ _ _ _ => c_tsnil) (fun _ _ _ _ _ => (c_fld (f := "name") (hF1 Wd.f_Kind_name) (cv 6)))) c_anil))))))))))

theorem sc_System___getitem__ : FnScope ["self", "name", "kind"] ["self", "name"] (defScope s_System___getitem__) := ⟨rfl, rfl, rfl, by decide +kernel, rfl, by decide +kernel, by decide +kernel⟩
theorem ok_System___getitem__ {P : Program} {wd : World} {K : PySem.W.Frag} {mg : Str → Option Value} {base : Heap} {Γ : Cls'} (Wd : WdT wd K Γ mg)  {f : Addr} {fd : FuncData} (F : Fun K "__getitem__" "System.__getitem__" s_System___getitem__ f fd) :
    FnOk P wd K mg base (L2.CX P wd) 1 f fd ["self", "name"] (spM K Γ m_System___getitem__) := by
  have nd := sc_System___getitem__.nd
  exact def_ok F sc_System___getitem__ fun cdv A outer s H E hr => (c_seq (c_for (sl := [2]) (passes_of rfl) rfl (ci_seq (c_fld (f := "kinds") (hF1 Wd.f_System_kinds) (cv 0))) (cgn 2 nd) (c_last (c_if (c_wt (c_wand (c_tru (c_isiT (T := "str") Wd.nolk Wd.b_isinstance Wd.b_str (by decide +kernel) (cv 1))) (c_wand1 (c_tcmp (op_eq2 (hu64 hr)) g_eq (c_fld (f := "name") (hF1 Wd.f_Kind_name) (cv 2)) (cv 1) (nomark _))))) (c_last (c_ret (cv 2))) c_nil)))
  (c_last c_bad))
end Mm
set_option maxRecDepth 100000
namespace Mm
open PySem L2
theorem sc_indented : FnScope ["indent", "row"] ["indent", "row"] (defScope s_indented) := ⟨rfl, rfl, rfl, by decide +kernel, rfl, by decide +kernel, by decide +kernel⟩
theorem ok_indented {P : Program} {wd : World} {K : PySem.W.Frag} {mg : Str → Option Value} {base : Heap} {Γ : Cls'} (Wd : WdT wd K Γ mg)  {f : Addr} {fd : FuncData} (F : Fun K "indented" "indented" s_indented f fd) :
    FnOk P wd K mg base (L2.CX P wd) 1 f fd ["indent", "row"] (spM K Γ m_indented) := by
  have nd := sc_indented.nd
  exact def_ok F sc_indented fun cdv A outer s H E hr => (c_last (c_ret (c_bin op_add4 g_add (c_bin op_mulS g_mulS c_str (cv 0)) (cv 1))))

theorem sc_rows_of : FnScope ["statements", "indent", "rows", "statement", "word", "branch"] ["statements", "indent"] (defScope s_rows_of) := ⟨rfl, rfl, rfl, by decide +kernel, rfl, by decide +kernel, by decide +kernel⟩
theorem ok_rows_of {P : Program} {wd : World} {K : PySem.W.Frag} {mg : Str → Option Value} {base : Heap} {Γ : Cls'} (Wd : WdT wd K Γ mg) (G_indented : Df P wd K mg base Γ "indented" 1 m_indented) {m_rows_of : FM} {n : Nat} (hn : 2 ≤ n) (G_rows_of : Df P wd K mg base Γ "rows_of" n m_rows_of) {f : Addr} {fd : FuncData} (F : Fun K "rows_of" "rows_of" s_rows_of f fd) :
    FnOk P wd K mg base (L2.CX P wd) (n + 1) f fd ["statements", "indent"] (spM K Γ (m_rows_of' m_rows_of)) := by
  have nd := sc_rows_of.nd
  exact def_ok F sc_rows_of fun cdv A outer s H E hr => (c_seq (cset 2 nd (c_new c_anil))
  (c_seq (c_for (sl := [3]) (passes_of rfl) rfl (ci_seq (cv 0)) (cgn 3 nd) (c_last (c_if (c_tcmp (op_eq2 (hu64 hr)) g_eq (c_ix (cv 3) c_int) c_str (nomark _)) (c_seq (c_expr (c_meth PySem.F.plainAttrs_list PySem.F.slot_list_append PySem.F.type_list_append mt_append gty_list gm_app (cv 2) (c_acons (c_fn tr0_ok G_indented go_def (hr.mono (by first | decide | omega)) (by rfl) (c_acons (cv 1) (c_acons c_str c_anil))) c_anil)))
  (c_last (c_for (sl := [4, 5]) (passes_of rfl) rfl (ci_zip (by rfl) Wd.b_zip (c_tup (c_acons c_str (c_acons c_str c_anil))) (c_sl (cv 3) (c_osome c_int) c_onone)) (c_gtup rfl (c_gcons (cgn 4 nd) (c_gcons (cgn 5 nd) c_gnil)) (takes_cons (takes_cons takes_nil))) (c_seq (c_expr (c_meth PySem.F.plainAttrs_list PySem.F.slot_list_append PySem.F.type_list_append mt_append gty_list gm_app (cv 2) (c_acons (c_fn tr0_ok G_indented go_def (hr.mono (by first | decide | omega)) (by rfl) (c_acons (c_bin op_add4 g_add (cv 1) (c_gl Wd.g_OF_WORDS)) (c_acons (cv 4) c_anil))) c_anil)))
  (c_last (c_expr (c_meth PySem.F.plainAttrs_list PySem.F.slot_list_extend PySem.F.type_list_extend mt_ext2 gty_list gm_ext2 (cv 2) (c_acons (c_fn trT_ok G_rows_of go_def (hr.mono (by first | decide | omega)) (by rfl) (c_acons (cv 5) (c_acons (c_bin op_add4 g_add (cv 1) (c_gl Wd.g_OF_BRANCHES)) c_anil))) c_anil)))))))) (c_last (c_expr (c_meth PySem.F.plainAttrs_list PySem.F.slot_list_append PySem.F.type_list_append mt_append gty_list gm_app (cv 2) (c_acons (c_fn tr0_ok G_indented go_def (hr.mono (by first | decide | omega)) (by rfl) (c_acons (cv 1) (c_acons (c_meth PySem.F.plainAttrs_str PySem.F.slot_str_join PySem.F.type_str_join mt_join gty_str gm_join c_str (c_acons (cv 3) c_anil)) c_anil))) c_anil)))))))
  (c_last (c_ret (cv 2)))))

theorem sc_write_system : FnScope ["system", "window", "rows", "kind", "row"] ["system"] (defScope s_write_system) := ⟨rfl, rfl, rfl, by decide +kernel, rfl, by decide +kernel, by decide +kernel⟩
theorem ok_write_system {P : Program} {wd : World} {K : PySem.W.Frag} {mg : Str → Option Value} {base : Heap} {Γ : Cls'} (Wd : WdT wd K Γ mg) (G_indented : Df P wd K mg base Γ "indented" 1 m_indented) (G_rows_of : Df P wd K mg base Γ "rows_of" 5 m_rows_of) {f : Addr} {fd : FuncData} (F : Fun K "write_system" "write_system" s_write_system f fd) :
    FnOk P wd K mg base (L2.CX P wd) 6 f fd ["system"] (spM K Γ m_write_system) := by
  have nd := sc_write_system.nd
  exact def_ok F sc_write_system fun cdv A outer s H E hr => (c_seq (cset 1 nd (c_ifx (c_tcmp op_isN g_isN (c_fld (f := "window") (hF1 Wd.f_System_window) (cv 0)) c_non (nomark _)) c_str (c_fld (f := "window") (hF1 Wd.f_System_window) (cv 0))))
  (c_seq (cset 2 nd (c_new (c_acons (c_joined (CJ.cons c_str (CJ.cons (c_fmt (c_fld (f := "ahead") (hF1 Wd.f_System_ahead) (cv 0))) (CJ.cons c_str (CJ.cons (c_fmt (cv 1)) (CJ.cons c_str (CJ.cons (c_fmt (c_fld (f := "crashes") (hF1 Wd.f_System_crashes) (cv 0))) CJ.nil))))))) c_anil)))
  (c_seq (c_for (sl := [3]) (passes_of rfl) rfl (ci_seq (c_fld (f := "kinds") (hF1 Wd.f_System_kinds) (cv 0))) (cgn 3 nd) (c_seq (c_expr (c_meth PySem.F.plainAttrs_list PySem.F.slot_list_append PySem.F.type_list_append mt_append gty_list gm_app (cv 2) (c_acons (c_fn tr0_ok G_indented go_def (hr.mono (by first | decide | omega)) (by rfl) (c_acons (c_gl Wd.g_OF_KINDS) (c_acons (c_joined (CJ.cons c_str (CJ.cons (c_fmt (c_fld (f := "name") (hF1 Wd.f_Kind_name) (cv 3))) (CJ.cons c_str (CJ.cons (c_fmt (c_fld (f := "block") (hF1 Wd.f_Kind_block) (cv 3))) (CJ.cons c_str (CJ.cons (c_fmt (c_fld (f := "many") (hF1 Wd.f_Kind_many) (cv 3))) CJ.nil))))))) c_anil))) c_anil)))
  (c_last (c_expr (c_meth PySem.F.plainAttrs_list PySem.F.slot_list_extend PySem.F.type_list_extend mt_ext2 gty_list gm_ext2 (cv 2) (c_acons (c_fn trT_ok G_rows_of go_def (hr.mono (by first | decide | omega)) (by rfl) (c_acons (c_fld (f := "statements") (hF1 Wd.f_Script_statements) (c_fld (f := "script") (hF1 Wd.f_Kind_script) (cv 3))) (c_acons (c_gl Wd.g_OF_SCRIPTS) c_anil))) c_anil))))))
  (c_last (c_ret (c_meth PySem.F.plainAttrs_str PySem.F.slot_str_join PySem.F.type_str_join mt_join gty_str gm_join c_str (c_acons (c_lcG (own := [("row", 4)]) (sl := [4]) finL_ok (by decide) rfl nd (ci_seq (cv 2)) (blkOk_by (own := [("row", 4)]) (N := ["system", "window", "rows", "kind", "row"]) (sc := defScope s_write_system) (by decide +kernel)) (fun _ _ _ _ _ => (cgn 4 nd)) (fun _ _ _ _ _ => c_tsnil) (fun _ _ _ _ _ => (c_bin op_add4 g_add (cv 4) c_str))) c_anil)))))))

theorem sc_shortest_kind : FnScope ["name", "block", "many"] ["name", "block", "many"] (defScope s_shortest_kind) := ⟨rfl, rfl, rfl, by decide +kernel, rfl, by decide +kernel, by decide +kernel⟩
theorem ok_shortest_kind {P : Program} {wd : World} {K : PySem.W.Frag} {mg : Str → Option Value} {base : Heap} {Γ : Cls'} (Wd : WdT wd K Γ mg) (K_Kind : Dkk P wd K mg base Γ 4 "Kind" 15 m_Kind___init__ 2 ["block", "many"] gKind) {f : Addr} {fd : FuncData} (F : Fun K "shortest_kind" "shortest_kind" s_shortest_kind f fd) :
    FnOk P wd K mg base (L2.CX P wd) 17 f fd ["name", "block", "many"] (spM K Γ m_shortest_kind) := by
  have nd := sc_shortest_kind.nd
  exact def_ok F sc_shortest_kind fun cdv A outer s H E hr => (c_last (c_ret (c_mkk (ks := ["block", "many"]) trT_ok K_Kind go_def (hr.mono (by first | decide | omega)) (by rfl) (c_acons (cv 0) (c_acons (c_tup (c_acons (c_tup (c_acons c_str c_anil)) c_anil)) c_anil)) (c_kcons (cv 1) (c_kcons (cv 2) c_knil)))))
end Mm
set_option maxRecDepth 100000
namespace Mm
open PySem L2
theorem sc_with_kinds : FnScope ["frame", "kinds"] ["frame", "kinds"] (defScope s_with_kinds) := ⟨rfl, rfl, rfl, by decide +kernel, rfl, by decide +kernel, by decide +kernel⟩
theorem ok_with_kinds {P : Program} {wd : World} {K : PySem.W.Frag} {mg : Str → Option Value} {base : Heap} {Γ : Cls'} (Wd : WdT wd K Γ mg) (K_System : Dks P wd K mg base Γ 5 "System" 4 m_System___init__ ["ahead", "window", "crashes"] gSystem) {f : Addr} {fd : FuncData} (F : Fun K "with_kinds" "with_kinds" s_with_kinds f fd) :
    FnOk P wd K mg base (L2.CX P wd) 6 f fd ["frame", "kinds"] (spM K Γ m_with_kinds) := by
  have nd := sc_with_kinds.nd
  exact def_ok F sc_with_kinds fun cdv A outer s H E hr => (c_last (c_ret (c_mkr (ks := ["ahead", "window", "crashes"]) trT_ok K_System go_def (hr.mono (by first | decide | omega)) (by rfl) (cv 1) (c_kcons (c_fld (f := "ahead") (hF1 Wd.f_System_ahead) (cv 0)) (c_kcons (c_fld (f := "window") (hF1 Wd.f_System_window) (cv 0)) (c_kcons (c_fld (f := "crashes") (hF1 Wd.f_System_crashes) (cv 0)) c_knil))))))

theorem sc_digit_of : FnScope ["word"] ["word"] (defScope s_digit_of) := ⟨rfl, rfl, rfl, by decide +kernel, rfl, by decide +kernel, by decide +kernel⟩
theorem ok_digit_of {P : Program} {wd : World} {K : PySem.W.Frag} {mg : Str → Option Value} {base : Heap} {Γ : Cls'} (Wd : WdT wd K Γ mg)  {f : Addr} {fd : FuncData} (F : Fun K "digit_of" "digit_of" s_digit_of f fd) :
    FnOk P wd K mg base (L2.CX P wd) 1 f fd ["word"] (spM K Γ m_digit_of) := by
  have nd := sc_digit_of.nd
  exact def_ok F sc_digit_of fun cdv A outer s H E hr => (c_last (c_ret (c_ifx (c_tcmp (op_eq2 (hu64 hr)) g_eq (c_callB call_len g_len (by rfl) Wd.b_len PySem.boot_len (c_acons (cv 0) c_anil)) c_int (nomark _)) (c_meth PySem.F.plainAttrs_str PySem.F.slot_str_find PySem.F.type_str_find mt_find gty_str gm_find (c_gl Wd.g_DIGITS) (c_acons (cv 0) c_anil)) (c_neg c_int))))

theorem sc_Reading___init__ : FnScope ["self", "text", "rows", "rest"] ["self", "text"] (defScope s_Reading___init__) := ⟨rfl, rfl, rfl, by decide +kernel, rfl, by decide +kernel, by decide +kernel⟩
theorem ok_Reading___init__ {P : Program} {wd : World} {K : PySem.W.Frag} {mg : Str → Option Value} {base : Heap} {Γ : Cls'} (Wd : WdT wd K Γ mg)  {f : Addr} {fd : FuncData} (F : Fun K "__init__" "Reading.__init__" s_Reading___init__ f fd) :
    FnOk P wd K mg base (L2.CX P wd) 1 f fd ["self", "text"] (spM K Γ m_Reading___init__) := by
  have nd := sc_Reading___init__.nd
  exact def_ok F sc_Reading___init__ fun cdv A outer s H E hr => (c_seq (cset 2 nd (c_meth PySem.F.plainAttrs_str PySem.F.slot_str_split PySem.F.type_str_split mt_split gty_str gm_splitN (cv 1) (c_acons c_str c_anil)))
  (c_seq (cset 3 nd (c_meth0 PySem.F.plainAttrs_list PySem.F.slot_list_pop PySem.F.type_list_pop mt_pop gty_list gm_pop (cv 2)))
  (c_seq (c_sfld (f := "rows") (hF1 Wd.f_Reading_rows) (cv 0) (c_ifx (c_tru (cv 3)) (c_lst (c_astar (cv 2) (c_acons c_str c_anil))) (cv 2)))
  (c_seq (c_sfld (f := "at") (hF1 Wd.f_Reading_at) (cv 0) c_int)
  (c_last (c_sfld (f := "room") (hF1 Wd.f_Reading_room) (cv 0) c_int))))))

theorem sc_Reading_words : FnScope ["self", "indent", "row", "found"] ["self", "indent"] (defScope s_Reading_words) := ⟨rfl, rfl, rfl, by decide +kernel, rfl, by decide +kernel, by decide +kernel⟩
theorem ok_Reading_words {P : Program} {wd : World} {K : PySem.W.Frag} {mg : Str → Option Value} {base : Heap} {Γ : Cls'} (Wd : WdT wd K Γ mg)  {f : Addr} {fd : FuncData} (F : Fun K "words" "Reading.words" s_Reading_words f fd) :
    FnOk P wd K mg base (L2.CX P wd) 1 f fd ["self", "indent"] (spM K Γ m_Reading_words) := by
  have nd := sc_Reading_words.nd
  exact def_ok F sc_Reading_words fun cdv A outer s H E hr => (c_seq (c_if (c_tcmp (op_eq2 (hu64 hr)) g_eq (c_fld (f := "at") (hF1 Wd.f_Reading_at) (cv 0)) (c_callB call_len g_len (by rfl) Wd.b_len PySem.boot_len (c_acons (c_fld (f := "rows") (hF1 Wd.f_Reading_rows) (cv 0)) c_anil)) (nomark _)) (c_last (c_ret (c_lst c_anil))) c_nil)
  (c_seq (cset 2 nd (c_ix (c_fld (f := "rows") (hF1 Wd.f_Reading_rows) (cv 0)) (c_fld (f := "at") (hF1 Wd.f_Reading_at) (cv 0))))
  (c_seq (cset 3 nd (c_meth PySem.F.plainAttrs_str PySem.F.slot_str_split PySem.F.type_str_split mt_split gty_str gm_split (c_sl (cv 2) (c_osome (cv 1)) c_onone) (c_acons c_str c_anil)))
  (c_last (c_ret (c_ifx (c_wt (c_wand (c_tcmp (op_eq2 (hu64 hr)) g_eq (c_sl (cv 2) c_onone (c_osome (cv 1))) (c_bin op_mulS g_mulS c_str (cv 1)) (nomark _)) (c_wand1 (c_tru (c_ix (cv 3) c_int))))) (cv 3) (c_lst c_anil)))))))
end Mm
set_option maxRecDepth 100000
namespace Mm
open PySem L2
theorem sc_Reading_fields : FnScope ["self", "indent", "form", "words", "word", "part"] ["self", "indent", "form"] (defScope s_Reading_fields) := ⟨rfl, rfl, rfl, by decide +kernel, rfl, by decide +kernel, by decide +kernel⟩
theorem ok_Reading_fields {P : Program} {wd : World} {K : PySem.W.Frag} {mg : Str → Option Value} {base : Heap} {Γ : Cls'} (Wd : WdT wd K Γ mg) (G_Reading_words : Dm P wd K mg base Γ 10 "words" 1 m_Reading_words) (X_BadText : Xk P wd K mg base Γ 7 "BadText" "line") {f : Addr} {fd : FuncData} (F : Fun K "fields" "Reading.fields" s_Reading_fields f fd) :
    FnOk P wd K mg base (L2.CX P wd) 3 f fd ["self", "indent", "form"] (spM K Γ m_Reading_fields) := by
  have nd := sc_Reading_fields.nd
  exact def_ok F sc_Reading_fields fun cdv A outer s H E hr => (c_seq (cset 3 nd (c_mth tr0_ok G_Reading_words go_def (hr.mono (by first | decide | omega)) (cv 0) (c_acons (cv 1) c_anil)))
  (c_seq (c_if (c_wt (c_wor (c_tcmp (op_ne2 (hu64 hr)) g_ne (c_callB call_len g_len (by rfl) Wd.b_len PySem.boot_len (c_acons (cv 3) c_anil)) (c_callB call_len g_len (by rfl) Wd.b_len PySem.boot_len (c_acons (cv 2) c_anil)) (nomark _)) (c_wor1 (c_tru (c_callB (cr_anyT rfl) g_anyT (by rfl) Wd.b_any (by decide +kernel) (c_acons (c_lcG (own := [("word", 4), ("part", 5)]) (sl := [4, 5]) finL_ok (by decide) rfl nd (ci_zipM (by rfl) Wd.b_zip (cv 3) (cv 2)) (blkOk_by (own := [("word", 4), ("part", 5)]) (N := ["self", "indent", "form", "words", "word", "part"]) (sc := defScope s_Reading_fields) (by decide +kernel)) (fun _ _ _ _ _ => (c_gtup rfl (c_gcons (cgn 4 nd) (c_gcons (cgn 5 nd) c_gnil)) (takes_cons (takes_cons takes_nil)))) (fun _ _ _ _ _ => c_tsnil) (fun _ _ _ _ _ => (c_andT (cv 5) (c_one (c_cmp (op_ne2 (hu64 hr)) g_ne (cv 4) (cv 5) (nomark _)))))) c_anil)))))) (c_last (c_raise1 X_BadText rfl (takes_of rfl rfl rfl rfl) (hr.mono (by first | decide | omega)) (by rfl) (c_fld (f := "at") (hF1 Wd.f_Reading_at) (cv 0)))) c_nil)
  (c_last (c_ret (c_lcG (own := [("word", 4), ("part", 5)]) (sl := [4, 5]) finL_ok (by decide) rfl nd (ci_zipM (by rfl) Wd.b_zip (cv 3) (cv 2)) (blkOk_by (own := [("word", 4), ("part", 5)]) (N := ["self", "indent", "form", "words", "word", "part"]) (sc := defScope s_Reading_fields) (by decide +kernel)) (fun _ _ _ _ _ => (c_gtup rfl (c_gcons (cgn 4 nd) (c_gcons (cgn 5 nd) c_gnil)) (takes_cons (takes_cons takes_nil)))) (fun _ _ _ _ _ => (c_tsone (c_tnot (c_tru (cv 5))))) (fun _ _ _ _ _ => (cv 4)))))))

theorem sc_Reading_read_frame : FnScope ["self", "ahead", "window", "crashes", "frame"] ["self"] (defScope s_Reading_read_frame) := ⟨rfl, rfl, rfl, by decide +kernel, rfl, by decide +kernel, by decide +kernel⟩
theorem ok_Reading_read_frame {P : Program} {wd : World} {K : PySem.W.Frag} {mg : Str → Option Value} {base : Heap} {Γ : Cls'} (Wd : WdT wd K Γ mg) (G_Reading_fields : Dm P wd K mg base Γ 10 "fields" 3 m_Reading_fields) (G_digit_of : Df P wd K mg base Γ "digit_of" 1 m_digit_of) (G_shortest_kind : Df P wd K mg base Γ "shortest_kind" 17 m_shortest_kind) (K_System : Dks P wd K mg base Γ 5 "System" 4 m_System___init__ ["ahead", "window", "crashes"] gSystem) {f : Addr} {fd : FuncData} (F : Fun K "read_frame" "Reading.read_frame" s_Reading_read_frame f fd) :
    FnOk P wd K mg base (L2.CX P wd) 18 f fd ["self"] (spM K Γ m_Reading_read_frame) := by
  have nd := sc_Reading_read_frame.nd
  exact def_ok F sc_Reading_read_frame fun cdv A outer s H E hr => (c_seq (c_asg (sl := [1, 2, 3]) (c_mth tr0_ok G_Reading_fields go_def (hr.mono (by first | decide | omega)) (cv 0) (c_acons c_int (c_acons (c_gl Wd.g_SYSTEM_ROW) c_anil))) (c_glst rfl (c_gcons (cgn 1 nd) (c_gcons (cgn 2 nd) (c_gcons (cgn 3 nd) c_gnil))) (takes_cons (takes_cons (takes_cons takes_nil)))))
  (c_seq (cset 2 nd (c_ifx (c_tcmp (op_eq2 (hu64 hr)) g_eq (cv 2) c_str (nomark _)) c_non (c_fn tr0_ok G_digit_of go_def (hr.mono (by first | decide | omega)) (by rfl) (c_acons (cv 2) c_anil))))
  (c_seq (c_tryNo (c_last (cset 4 nd (c_mks (ks := ["ahead", "window", "crashes"]) trT_ok K_System goes_not (hr.mono (by first | decide | omega)) (by rfl) (c_acons (c_fn tr0_ok G_shortest_kind goes_not (hr.mono (by first | decide | omega)) (by rfl) (c_acons c_str (c_acons c_int (c_acons c_int c_anil)))) c_anil) (c_kcons (c_fn tr0_ok G_digit_of goes_not (hr.mono (by first | decide | omega)) (by rfl) (c_acons (cv 1) c_anil)) (c_kcons (cv 2) (c_kcons (c_fn tr0_ok G_digit_of goes_not (hr.mono (by first | decide | omega)) (by rfl) (c_acons (cv 3) c_anil)) c_knil)))))))
  (c_seq (c_fldaug in_add Wd.f_Reading_at (cv 0) c_int)
  (c_last (c_ret (cv 4)))))))

theorem sc_Reading_read_branch : FnScope ["self", "indent", "above", "held", "statements", "statement"] ["self", "indent", "above", "held"] (defScope s_Reading_read_branch) := ⟨rfl, rfl, rfl, by decide +kernel, rfl, by decide +kernel, by decide +kernel⟩
theorem ok_Reading_read_branch {P : Program} {wd : World} {K : PySem.W.Frag} {mg : Str → Option Value} {base : Heap} {Γ : Cls'} (Wd : WdT wd K Γ mg) {m_Reading_read_statement : FM} {n : Nat} (hn : 5 ≤ n) (G_Reading_read_statement : Dm P wd K mg base Γ 10 "read_statement" n m_Reading_read_statement) (G_Reading_words : Dm P wd K mg base Γ 10 "words" 1 m_Reading_words) {f : Addr} {fd : FuncData} (F : Fun K "read_branch" "Reading.read_branch" s_Reading_read_branch f fd) :
    FnOk P wd K mg base (L2.CX P wd) (n + 1) f fd ["self", "indent", "above", "held"] (spM K Γ (m_Reading_read_branch' m_Reading_read_statement)) := by
  have nd := sc_Reading_read_branch.nd
  exact def_ok F sc_Reading_read_branch fun cdv A outer s H E hr => (c_seq (cset 4 nd (c_new c_anil))
  (c_seq (c_while (passes_of rfl) (c_tru (c_mth tr0_ok G_Reading_words go_def (hr.mono (by first | decide | omega)) (cv 0) (c_acons (cv 1) c_anil))) (c_seq (c_asg (sl := [5, 3]) (c_mth tr0_ok G_Reading_read_statement go_def (hr.mono (by first | decide | omega)) (cv 0) (c_acons (cv 1) (c_acons (c_bin op_add4 g_add (cv 2) (c_tup (c_acons (c_callB call_len g_len (by rfl) Wd.b_len PySem.boot_len (c_acons (cv 4) c_anil)) c_anil))) (c_acons (cv 3) c_anil)))) (c_gtup rfl (c_gcons (cgn 5 nd) (c_gcons (cgn 3 nd) c_gnil)) (takes_cons (takes_cons takes_nil))))
  (c_last (c_expr (c_meth PySem.F.plainAttrs_list PySem.F.slot_list_append PySem.F.type_list_append mt_append gty_list gm_app (cv 4) (c_acons (cv 5) c_anil))))))
  (c_last (c_ret (c_tup (c_acons (c_callTy call_tuple_of g_tuple (by rfl) Wd.b_tuple (by decide +kernel) (c_acons (cv 4) c_anil)) (c_acons (cv 3) c_anil)))))))

theorem sc_Reading_read_statement : FnScope ["self", "indent", "place", "held", "words", "branching", "statement", "branches", "counts", "answer", "word", "branch", "count"] ["self", "indent", "place", "held"] (defScope s_Reading_read_statement) := ⟨rfl, rfl, rfl, by decide +kernel, rfl, by decide +kernel, by decide +kernel⟩
theorem ok_Reading_read_statement {P : Program} {wd : World} {K : PySem.W.Frag} {mg : Str → Option Value} {base : Heap} {Γ : Cls'} (Wd : WdT wd K Γ mg) (G_Reading_fields : Dm P wd K mg base Γ 10 "fields" 3 m_Reading_fields) {m_Reading_read_branch : FM} {n : Nat} (hn : 5 ≤ n) (G_Reading_read_branch : Dm P wd K mg base Γ 10 "read_branch" n m_Reading_read_branch) (G_Reading_words : Dm P wd K mg base Γ 10 "words" 1 m_Reading_words) (G_fault_of : Df P wd K mg base Γ "fault_of" 2 m_fault_of) (G_held_after : Df P wd K mg base Γ "held_after" 1 m_held_after) (X_BadText : Xk P wd K mg base Γ 7 "BadText" "line") {f : Addr} {fd : FuncData} (F : Fun K "read_statement" "Reading.read_statement" s_Reading_read_statement f fd) :
    FnOk P wd K mg base (L2.CX P wd) (n + 1) f fd ["self", "indent", "place", "held"] (spM K Γ (m_Reading_read_statement' m_Reading_read_branch)) := by
  have nd := sc_Reading_read_statement.nd
  exact def_ok F sc_Reading_read_statement fun cdv A outer s H E hr => (c_seq (cset 4 nd (c_mth tr0_ok G_Reading_words go_def (hr.mono (by first | decide | omega)) (cv 0) (c_acons (cv 1) c_anil)))
  (c_seq (cset 5 nd (c_cmp (op_eq2 (hu64 hr)) g_eq (cv 4) (c_lst (c_acons c_str c_anil)) (nomark _)))
  (c_seq (cset 6 nd (c_ifx (c_tru (cv 5)) (c_tup (c_acons c_str (c_acons (c_tup c_anil) (c_acons (c_tup c_anil) c_anil)))) (c_callTy call_tuple_of g_tuple (by rfl) Wd.b_tuple (by decide +kernel) (c_acons (cv 4) c_anil))))
  (c_seq (c_if (c_wt (c_wor (c_tcmp (op_eq2 (hu64 hr)) g_eq (c_fld (f := "room") (hF1 Wd.f_Reading_room) (cv 0)) c_int (nomark _)) (c_wor1 (c_tcmp op_notN g_notN (c_fn tr0_ok G_fault_of go_def (hr.mono (by first | decide | omega)) (by rfl) (c_acons (cv 6) (c_acons (cv 2) (c_acons c_int (c_acons (cv 3) c_anil))))) c_non (nomark _))))) (c_last (c_raise1 X_BadText rfl (takes_of rfl rfl rfl rfl) (hr.mono (by first | decide | omega)) (by rfl) (c_fld (f := "at") (hF1 Wd.f_Reading_at) (cv 0)))) c_nil)
  (c_seq (c_fldaug in_add Wd.f_Reading_at (cv 0) c_int)
  (c_seq (c_fldaug in_sub Wd.f_Reading_room (cv 0) c_int)
  (c_seq (c_if (c_tnot (c_tru (cv 5))) (c_last (c_ret (c_tup (c_acons (cv 6) (c_acons (c_fn tr0_ok G_held_after go_def (hr.mono (by first | decide | omega)) (by rfl) (c_acons (c_ix (cv 6) c_int) (c_acons (cv 3) c_anil))) c_anil))))) c_nil)
  (c_seq (cset 7 nd (c_new c_anil))
  (c_seq (cset 8 nd (c_new c_anil))
  (c_seq (c_for (sl := [9, 10]) (passes_of rfl) rfl (ci_enum (by rfl) Wd.b_enumerate (c_tup (c_acons c_str (c_acons c_str c_anil)))) (c_gtup rfl (c_gcons (cgn 9 nd) (c_gcons (cgn 10 nd) c_gnil)) (takes_cons (takes_cons takes_nil))) (c_seq (c_expr (c_mth tr0_ok G_Reading_fields go_def (hr.mono (by first | decide | omega)) (cv 0) (c_acons (c_bin op_add4 g_add (cv 1) (c_gl Wd.g_OF_WORDS)) (c_acons (c_tup (c_acons (cv 10) c_anil)) c_anil))))
  (c_seq (c_fldaug in_add Wd.f_Reading_at (cv 0) c_int)
  (c_seq (c_asg (sl := [11, 12]) (c_mth tr0_ok G_Reading_read_branch go_def (hr.mono (by first | decide | omega)) (cv 0) (c_acons (c_bin op_add4 g_add (cv 1) (c_gl Wd.g_OF_BRANCHES)) (c_acons (c_bin op_add4 g_add (cv 2) (c_tup (c_acons (cv 9) c_anil))) (c_acons (cv 3) c_anil)))) (c_gtup rfl (c_gcons (cgn 11 nd) (c_gcons (cgn 12 nd) c_gnil)) (takes_cons (takes_cons takes_nil))))
  (c_seq (c_expr (c_meth PySem.F.plainAttrs_list PySem.F.slot_list_append PySem.F.type_list_append mt_append gty_list gm_app (cv 7) (c_acons (cv 11) c_anil)))
  (c_last (c_expr (c_meth PySem.F.plainAttrs_list PySem.F.slot_list_append PySem.F.type_list_append mt_append gty_list gm_app (cv 8) (c_acons (cv 12) c_anil)))))))))
  (c_last (c_ret (c_tup (c_acons (c_tup (c_acons c_str (c_astar (cv 7) c_anil))) (c_acons (c_callB (cr_max rfl) g_max (by rfl) Wd.b_max (by decide +kernel) (c_acons (cv 8) c_anil)) c_anil)))))))))))))))
end Mm
set_option maxRecDepth 100000
namespace Mm
open PySem L2
theorem sc_Reading_read_kind : FnScope ["self", "frame", "kinds", "name", "block", "many", "kind", "system", "statements", "held"] ["self", "frame", "kinds"] (defScope s_Reading_read_kind) := ⟨rfl, rfl, rfl, by decide +kernel, rfl, by decide +kernel, by decide +kernel⟩
theorem ok_Reading_read_kind {P : Program} {wd : World} {K : PySem.W.Frag} {mg : Str → Option Value} {base : Heap} {Γ : Cls'} (Wd : WdT wd K Γ mg) (G_Reading_fields : Dm P wd K mg base Γ 10 "fields" 3 m_Reading_fields) (G_Reading_read_branch : Dm P wd K mg base Γ 10 "read_branch" 11 m_Reading_read_branch) (G_digit_of : Df P wd K mg base Γ "digit_of" 1 m_digit_of) (G_shortest_kind : Df P wd K mg base Γ "shortest_kind" 17 m_shortest_kind) (G_with_kinds : Df P wd K mg base Γ "with_kinds" 6 m_with_kinds) (K_Kind : Dkk P wd K mg base Γ 4 "Kind" 15 m_Kind___init__ 2 ["block", "many"] gKind) (X_BadText : Xk P wd K mg base Γ 7 "BadText" "line") {f : Addr} {fd : FuncData} (F : Fun K "read_kind" "Reading.read_kind" s_Reading_read_kind f fd) :
    FnOk P wd K mg base (L2.CX P wd) 18 f fd ["self", "frame", "kinds"] (spM K Γ m_Reading_read_kind) := by
  have nd := sc_Reading_read_kind.nd
  exact def_ok F sc_Reading_read_kind fun cdv A outer s H E hr => (c_seq (c_asg (sl := [3, 4, 5]) (c_mth tr0_ok G_Reading_fields go_def (hr.mono (by first | decide | omega)) (cv 0) (c_acons (c_gl Wd.g_OF_KINDS) (c_acons (c_gl Wd.g_KIND_ROW) c_anil))) (c_glst rfl (c_gcons (cgn 3 nd) (c_gcons (cgn 4 nd) (c_gcons (cgn 5 nd) c_gnil))) (takes_cons (takes_cons (takes_cons takes_nil)))))
  (c_seq (c_tryNo (c_seq (cset 6 nd (c_fn tr0_ok G_shortest_kind goes_not (hr.mono (by first | decide | omega)) (by rfl) (c_acons (cv 3) (c_acons (c_fn tr0_ok G_digit_of goes_not (hr.mono (by first | decide | omega)) (by rfl) (c_acons (cv 4) c_anil)) (c_acons (c_fn tr0_ok G_digit_of goes_not (hr.mono (by first | decide | omega)) (by rfl) (c_acons (cv 5) c_anil)) c_anil)))))
  (c_last (cset 7 nd (c_fn tr0_ok G_with_kinds goes_not (hr.mono (by first | decide | omega)) (by rfl) (c_acons (cv 1) (c_acons (c_lst (c_astar (cv 2) (c_acons (cv 6) c_anil))) c_anil)))))))
  (c_seq (c_fldaug in_add Wd.f_Reading_at (cv 0) c_int)
  (c_seq (c_sfld (f := "room") (hF1 Wd.f_Reading_room) (cv 0) (c_ifx (c_tcmp (op_eq2 (hu64 hr)) g_eq (c_callB call_len g_len (by rfl) Wd.b_len PySem.boot_len (c_acons (c_fld (f := "sessions") (hF1 Wd.f_System_sessions) (cv 7)) c_anil)) (c_gl Wd.g_MOST_SESSIONS) (nomark _)) (c_gl Wd.g_LONGEST_OF_MANY) (c_gl Wd.g_MOST_STATEMENTS)))
  (c_seq (c_asg (sl := [8, 9]) (c_mth tr0_ok G_Reading_read_branch go_def (hr.mono (by first | decide | omega)) (cv 0) (c_acons (c_gl Wd.g_OF_SCRIPTS) (c_acons (c_tup c_anil) (c_acons c_int c_anil)))) (c_gtup rfl (c_gcons (cgn 8 nd) (c_gcons (cgn 9 nd) c_gnil)) (takes_cons (takes_cons takes_nil))))
  (c_seq (c_if (c_tnot (c_tru (cv 8))) (c_last (c_raise1 X_BadText rfl (takes_of rfl rfl rfl rfl) (hr.mono (by first | decide | omega)) (by rfl) (c_fld (f := "at") (hF1 Wd.f_Reading_at) (cv 0)))) c_nil)
  (c_last (c_ret (c_mkk (ks := ["block", "many"]) trT_ok K_Kind go_def (hr.mono (by first | decide | omega)) (by rfl) (c_acons (cv 3) (c_acons (cv 8) c_anil)) (c_kcons (c_fld (f := "block") (hF1 Wd.f_Kind_block) (cv 6)) (c_kcons (c_fld (f := "many") (hF1 Wd.f_Kind_many) (cv 6)) c_knil)))))))))))

theorem sc_read_system : FnScope ["text", "reading", "frame", "kinds"] ["text"] (defScope s_read_system) := ⟨rfl, rfl, rfl, by decide +kernel, rfl, by decide +kernel, by decide +kernel⟩
theorem ok_read_system {P : Program} {wd : World} {K : PySem.W.Frag} {mg : Str → Option Value} {base : Heap} {Γ : Cls'} (Wd : WdT wd K Γ mg) (G_Reading_read_frame : Dm P wd K mg base Γ 10 "read_frame" 18 m_Reading_read_frame) (G_Reading_read_kind : Dm P wd K mg base Γ 10 "read_kind" 18 m_Reading_read_kind) (G_with_kinds : Df P wd K mg base Γ "with_kinds" 6 m_with_kinds) (K_Reading : Dk P wd K mg base Γ 10 "Reading" 1 m_Reading___init__) (X_BadText : Xk P wd K mg base Γ 7 "BadText" "line") {f : Addr} {fd : FuncData} (F : Fun K "read_system" "read_system" s_read_system f fd) :
    FnOk P wd K mg base (L2.CX P wd) 19 f fd ["text"] (spM K Γ m_read_system) := by
  have nd := sc_read_system.nd
  exact def_ok F sc_read_system fun cdv A outer s H E hr => (c_seq (c_if (c_tnot (c_tru (c_isiT (T := "str") Wd.nolk Wd.b_isinstance Wd.b_str (by decide +kernel) (cv 0)))) (c_last (c_raise1 X_BadText rfl (takes_of rfl rfl rfl rfl) (hr.mono (by first | decide | omega)) (by rfl) (c_neg c_int))) c_nil)
  (c_seq (cset 1 nd (c_mk tr0_ok K_Reading go_def (hr.mono (by first | decide | omega)) (by rfl) (c_acons (cv 0) c_anil)))
  (c_seq (cset 2 nd (c_mth0 tr0_ok G_Reading_read_frame go_def (hr.mono (by first | decide | omega)) (cv 1)))
  (c_seq (cset 3 nd (c_new c_anil))
  (c_seq (c_while (passes_of rfl) (c_wt (c_wor (c_tnot (c_tru (cv 3))) (c_wor1 (c_tcmp op_lt g_lt (c_fld (f := "at") (hF1 Wd.f_Reading_at) (cv 1)) (c_callB call_len g_len (by rfl) Wd.b_len PySem.boot_len (c_acons (c_fld (f := "rows") (hF1 Wd.f_Reading_rows) (cv 1)) c_anil)) (nomark _))))) (c_last (c_expr (c_meth PySem.F.plainAttrs_list PySem.F.slot_list_append PySem.F.type_list_append mt_append gty_list gm_app (cv 3) (c_acons (c_mth tr0_ok G_Reading_read_kind go_def (hr.mono (by first | decide | omega)) (cv 1) (c_acons (cv 2) (c_acons (cv 3) c_anil))) c_anil)))))
  (c_last (c_ret (c_fn tr0_ok G_with_kinds go_def (hr.mono (by first | decide | omega)) (by rfl) (c_acons (cv 2) (c_acons (cv 3) c_anil))))))))))

theorem sc__law_box : FnScope ["_law_script", "_law_k", "_law_cell"] ["_law_script", "_law_k"] (defScope s__law_box) := ⟨rfl, rfl, rfl, by decide +kernel, rfl, by decide +kernel, by decide +kernel⟩
theorem ok__law_box {P : Program} {wd : World} {K : PySem.W.Frag} {mg : Str → Option Value} {base : Heap} {Γ : Cls'} (Wd : WdT wd K Γ mg)  {f : Addr} {fd : FuncData} (F : Fun K "_law_box" "_law_box" s__law_box f fd) :
    FnOk P wd K mg base (L2.CX P wd) 1 f fd ["_law_script", "_law_k"] (spM K Γ m__law_box) := by
  have nd := sc__law_box.nd
  exact def_ok F sc__law_box fun cdv A outer s H E hr => (c_seq (cset 2 nd c_int)
  (c_seq (c_if (c_tcmp op_lt g_lt (cv 1) (c_callB call_len g_len (by rfl) Wd.b_len PySem.boot_len (c_acons (cv 0) c_anil)) (nomark _)) (c_last (cset 2 nd (c_callTy call_int1 g_intc (by rfl) Wd.b_int (by decide +kernel) (c_acons (c_ix (cv 0) (cv 1)) c_anil)))) c_nil)
  (c_seq (c_if (c_tcmp op_ge g_ge (cv 2) (c_bin op_pow g_pow c_int c_int) (nomark _)) (c_last (c_ret (c_new (c_acons (c_bin op_sub g_sub (cv 2) (c_bin op_pow g_pow c_int c_int)) (c_acons (c_bin op_add4 g_add (c_bin op_mod g_mod (c_callTy call_int1 g_intc (by rfl) Wd.b_int (by decide +kernel) (c_acons (cv 2) c_anil)) c_int) (cv 1)) (c_acons c_int c_anil)))))) c_nil)
  (c_last (c_ret (c_new (c_acons c_int (c_acons (c_bin op_add4 g_add (c_bin op_mod g_mod (c_callTy call_int1 g_intc (by rfl) Wd.b_int (by decide +kernel) (c_acons (cv 2) c_anil)) c_int) (c_bin op_mul3 g_mul c_int (cv 1))) (c_acons c_int c_anil)))))))))

theorem sc__law_pick : FnScope ["_law_box_here", "_law_size", "_law_digit", "_law_number"] ["_law_box_here", "_law_size"] (defScope s__law_pick) := ⟨rfl, rfl, rfl, by decide +kernel, rfl, by decide +kernel, by decide +kernel⟩
theorem ok__law_pick {P : Program} {wd : World} {K : PySem.W.Frag} {mg : Str → Option Value} {base : Heap} {Γ : Cls'} (Wd : WdT wd K Γ mg)  {f : Addr} {fd : FuncData} (F : Fun K "_law_pick" "_law_pick" s__law_pick f fd) :
    FnOk P wd K mg base (L2.CX P wd) 1 f fd ["_law_box_here", "_law_size"] (spM K Γ m__law_pick) := by
  have nd := sc__law_pick.nd
  exact def_ok F sc__law_pick fun cdv A outer s H E hr => (c_seq (c_if (c_tcmp op_gt g_gt (c_ix (cv 0) c_int) c_int (nomark _)) (c_seq (cset 2 nd (c_bin op_mod g_mod (c_callTy call_int1 g_intc (by rfl) Wd.b_int (by decide +kernel) (c_acons (c_ix (cv 0) c_int) c_anil)) (cv 1)))
  (c_seq (c_put (c_bin op_fdiv g_div (c_ix (cv 0) c_int) (cv 1)) (cv 0) c_int)
  (c_last (c_ret (cv 2))))) c_nil)
  (c_seq (c_put (c_bin op_add4 g_add (c_ix (cv 0) c_int) c_int) (cv 0) c_int)
  (c_seq (cset 3 nd (c_bin op_mod g_mod (c_callTy call_int1 g_intc (by rfl) Wd.b_int (by decide +kernel) (c_acons (c_bin op_mul3 g_mul (c_bin op_add4 g_add (c_bin op_add4 g_add (c_ix (cv 0) c_int) (c_bin op_mul3 g_mul c_int (c_ix (cv 0) c_int))) c_int) c_int) c_anil)) c_int))
  (c_seq (cset 3 nd (c_bin op_mod g_mod (c_callTy call_int1 g_intc (by rfl) Wd.b_int (by decide +kernel) (c_acons (c_bin op_mul3 g_mul (cv 3) (c_bin op_add4 g_add (c_bin op_fdiv g_div (cv 3) c_int) c_int)) c_anil)) c_int))
  (c_seq (cset 3 nd (c_bin op_mod g_mod (c_callTy call_int1 g_intc (by rfl) Wd.b_int (by decide +kernel) (c_acons (c_bin op_mul3 g_mul (cv 3) (c_bin op_add4 g_add (c_bin op_fdiv g_div (cv 3) c_int) c_int)) c_anil)) c_int))
  (c_last (c_ret (c_bin op_mod g_mod (c_callTy call_int1 g_intc (by rfl) Wd.b_int (by decide +kernel) (c_acons (c_bin op_fdiv g_div (cv 3) c_int) c_anil)) (cv 1)))))))))
end Mm
set_option maxRecDepth 100000
namespace Mm
open PySem L2
theorem sc__law_found : FnScope ["_law_text", "_law_found_here", "_law_told", "e", "_law_other"] ["_law_text"] (defScope s__law_found) := ⟨rfl, rfl, rfl, by decide +kernel, rfl, by decide +kernel, by decide +kernel⟩
theorem ok__law_found {P : Program} {wd : World} {K : PySem.W.Frag} {mg : Str → Option Value} {base : Heap} {Γ : Cls'} (Wd : WdT wd K Γ mg) (G_read_system : Df P wd K mg base Γ "read_system" 19 m_read_system) (G_write_system : Df P wd K mg base Γ "write_system" 6 m_write_system) (X_BadText : Xk P wd K mg base Γ 7 "BadText" "line") {f : Addr} {fd : FuncData} (F : Fun K "_law_found" "_law_found" s__law_found f fd) :
    FnOk P wd K mg base (L2.CX P wd) 20 f fd ["_law_text"] (spM K Γ m__law_found) := by
  have nd := sc__law_found.nd
  exact def_ok F sc__law_found fun cdv A outer s H E hr => (c_seq (cset 1 nd (c_tup (c_acons c_str (c_acons c_int c_anil))))
  (c_seq (c_try Wd.noex rfl rfl nd (fun W pn xe tk po => (c_seq (cset 2 nd (c_fn tr0_ok G_read_system (goes_of tk) (hr.mono (by first | decide | omega)) (by rfl) (c_acons (cv 0) c_anil)))
  (c_last (cset 1 nd (c_tup (c_acons c_str (c_acons (c_fn trT_ok G_write_system (goes_of tk) (hr.mono (by first | decide | omega)) (by rfl) (c_acons (cv 2) c_anil)) c_anil)))))))
  (CHc Wd.t_BadText (by rfl) rfl rfl (fun a dd C oe pn gC hz hf => (c_seq (cset 4 nd (c_or (c_xis X_BadText gC hz hf Wd.b_isinstance (by rfl) Wd.y_BadText_BadScript (by rfl) (cv 3)) (c_one (c_xis X_BadText gC hz hf Wd.b_isinstance (by rfl) Wd.y_BadText_BadSystem (by rfl) (cv 3)))))
  (c_last (c_if (c_wt (c_wand (c_tru (c_xis X_BadText gC hz hf Wd.b_isinstance (by rfl) Wd.y_BadText_TakeError (by rfl) (cv 3))) (c_wand (c_tru (c_xis X_BadText gC hz hf Wd.b_isinstance (by rfl) Wd.y_BadText_ValueError (by rfl) (cv 3))) (c_wand1 (c_tnot (c_tru (cv 4))))))) (c_last (cset 1 nd (c_tup (c_acons c_str (c_acons (c_xf X_BadText gC hz hf (cv 3)) c_anil))))) c_nil)))) CH.nil))
  (c_last (c_ret (cv 1)))))

theorem sc__law_joined : FnScope ["_law_rows", "_law_row"] ["_law_rows"] (defScope s__law_joined) := ⟨rfl, rfl, rfl, by decide +kernel, rfl, by decide +kernel, by decide +kernel⟩
theorem ok__law_joined {P : Program} {wd : World} {K : PySem.W.Frag} {mg : Str → Option Value} {base : Heap} {Γ : Cls'} (Wd : WdT wd K Γ mg)  {f : Addr} {fd : FuncData} (F : Fun K "_law_joined" "_law_joined" s__law_joined f fd) :
    FnOk P wd K mg base (L2.CX P wd) 1 f fd ["_law_rows"] (spM K Γ m__law_joined) := by
  have nd := sc__law_joined.nd
  exact def_ok F sc__law_joined fun cdv A outer s H E hr => (c_last (c_ret (c_meth PySem.F.plainAttrs_str PySem.F.slot_str_join PySem.F.type_str_join mt_join gty_str gm_join c_str (c_acons (c_lcG (own := [("_law_row", 1)]) (sl := [1]) finL_ok (by decide) rfl nd (ci_seq (cv 0)) (blkOk_by (own := [("_law_row", 1)]) (N := ["_law_rows", "_law_row"]) (sc := defScope s__law_joined) (by decide +kernel)) (fun _ _ _ _ _ => (cgn 1 nd)) (fun _ _ _ _ _ => c_tsnil) (fun _ _ _ _ _ => (c_bin op_add4 g_add (cv 1) c_str))) c_anil))))

theorem sc__law_deep : FnScope ["_law_box_here", "_law_rows"] ["_law_box_here"] (defScope s__law_deep) := ⟨rfl, rfl, rfl, by decide +kernel, rfl, by decide +kernel, by decide +kernel⟩
theorem ok__law_deep {P : Program} {wd : World} {K : PySem.W.Frag} {mg : Str → Option Value} {base : Heap} {Γ : Cls'} (Wd : WdT wd K Γ mg) (G__law_pick : Df P wd K mg base Γ "_law_pick" 1 m__law_pick) {f : Addr} {fd : FuncData} (F : Fun K "_law_deep" "_law_deep" s__law_deep f fd) :
    FnOk P wd K mg base (L2.CX P wd) 2 f fd ["_law_box_here"] (spM K Γ m__law_deep) := by
  have nd := sc__law_deep.nd
  exact def_ok F sc__law_deep fun cdv A outer s H E hr => (c_seq (cset 1 nd (c_bin op_add4 g_add (c_lst (c_acons c_str (c_acons c_str c_anil))) (c_bin op_mul3 g_mul (c_lst (c_acons c_str c_anil)) (c_fn tr0_ok G__law_pick go_def (hr.mono (by first | decide | omega)) (by rfl) (c_acons (cv 0) (c_acons c_int c_anil))))))
  (c_seq (cset 1 nd (c_bin op_add4 g_add (c_bin op_add4 g_add (cv 1) (c_lst (c_acons c_str (c_acons c_str c_anil)))) (c_bin op_mul3 g_mul (c_lst (c_acons c_str c_anil)) (c_fn tr0_ok G__law_pick go_def (hr.mono (by first | decide | omega)) (by rfl) (c_acons (cv 0) (c_acons c_int c_anil))))))
  (c_last (c_ret (c_bin op_add4 g_add (cv 1) (c_lst (c_acons c_str c_anil)))))))

theorem sc__law_full : FnScope ["_law_box_here", "_law_size", "_law_rows", "_law_shape"] ["_law_box_here"] (defScope s__law_full) := ⟨rfl, rfl, rfl, by decide +kernel, rfl, by decide +kernel, by decide +kernel⟩
theorem ok__law_full {P : Program} {wd : World} {K : PySem.W.Frag} {mg : Str → Option Value} {base : Heap} {Γ : Cls'} (Wd : WdT wd K Γ mg) (G__law_pick : Df P wd K mg base Γ "_law_pick" 1 m__law_pick) {f : Addr} {fd : FuncData} (F : Fun K "_law_full" "_law_full" s__law_full f fd) :
    FnOk P wd K mg base (L2.CX P wd) 2 f fd ["_law_box_here"] (spM K Γ m__law_full) := by
  have nd := sc__law_full.nd
  exact def_ok F sc__law_full fun cdv A outer s H E hr => (c_seq (cset 1 nd (c_fn tr0_ok G__law_pick go_def (hr.mono (by first | decide | omega)) (by rfl) (c_acons (cv 0) (c_acons c_int c_anil))))
  (c_seq (cset 2 nd (c_bin op_add4 g_addN (c_bin op_mul3 g_mul (c_lst (c_acons c_str c_anil)) (cv 1)) (c_lst (c_acons c_str (c_acons c_str c_anil)))))
  (c_seq (cset 3 nd (c_fn tr0_ok G__law_pick go_def (hr.mono (by first | decide | omega)) (by rfl) (c_acons (cv 0) (c_acons c_int c_anil))))
  (c_seq (c_if (c_tcmp (op_eq2 (hu64 hr)) g_eq (cv 3) c_int (nomark _)) (c_last (c_ret (c_bin op_add4 g_add (cv 2) (c_bin op_mul3 g_mul (c_lst (c_acons c_str c_anil)) (c_bin op_sub g_sub c_int (cv 1)))))) c_nil)
  (c_seq (c_if (c_tcmp (op_eq2 (hu64 hr)) g_eq (cv 3) c_int (nomark _)) (c_last (c_ret (c_bin op_add4 g_add (c_bin op_add4 g_add (cv 2) (c_lst (c_acons c_str (c_acons c_str c_anil)))) (c_bin op_mul3 g_mul (c_lst (c_acons c_str c_anil)) (c_bin op_sub g_sub c_int (cv 1)))))) c_nil)
  (c_seq (cset 2 nd (c_bin op_add4 g_addN (c_bin op_add4 g_add (cv 2) (c_bin op_mul3 g_mul (c_lst (c_acons c_str c_anil)) (c_bin op_sub g_sub c_int (cv 1)))) (c_lst (c_acons c_str c_anil))))
  (c_seq (c_if (c_tcmp (op_eq2 (hu64 hr)) g_eq (c_fn tr0_ok G__law_pick go_def (hr.mono (by first | decide | omega)) (by rfl) (c_acons (cv 0) (c_acons c_int c_anil))) c_int (nomark _)) (c_last (c_expr (c_meth PySem.F.plainAttrs_list PySem.F.slot_list_append PySem.F.type_list_append mt_append gty_list gm_app (cv 2) (c_acons c_str c_anil)))) c_nil)
  (c_last (c_ret (c_bin op_add4 g_add (cv 2) (c_lst (c_acons c_str c_anil))))))))))))
end Mm
set_option maxRecDepth 100000
namespace Mm
open PySem L2
theorem sc__law_long : FnScope ["_law_box_here", "_law_size", "_law_rows"] ["_law_box_here", "_law_size"] (defScope s__law_long) := ⟨rfl, rfl, rfl, by decide +kernel, rfl, by decide +kernel, by decide +kernel⟩
theorem ok__law_long {P : Program} {wd : World} {K : PySem.W.Frag} {mg : Str → Option Value} {base : Heap} {Γ : Cls'} (Wd : WdT wd K Γ mg) (G__law_pick : Df P wd K mg base Γ "_law_pick" 1 m__law_pick) {f : Addr} {fd : FuncData} (F : Fun K "_law_long" "_law_long" s__law_long f fd) :
    FnOk P wd K mg base (L2.CX P wd) 2 f fd ["_law_box_here", "_law_size"] (spM K Γ m__law_long) := by
  have nd := sc__law_long.nd
  exact def_ok F sc__law_long fun cdv A outer s H E hr => (c_seq (cset 2 nd (c_bin op_add4 g_add (c_bin op_mul3 g_mul (c_lst (c_acons c_str c_anil)) (c_bin op_sub g_sub c_int (cv 1))) (c_lst (c_acons c_str (c_acons c_str (c_acons c_str c_anil))))))
  (c_seq (c_if (c_tcmp (op_eq2 (hu64 hr)) g_eq (c_fn tr0_ok G__law_pick go_def (hr.mono (by first | decide | omega)) (by rfl) (c_acons (cv 0) (c_acons c_int c_anil))) c_int (nomark _)) (c_last (cset 2 nd (c_bin op_add4 g_add (cv 2) (c_lst (c_acons c_str c_anil))))) c_nil)
  (c_last (c_ret (c_bin op_add4 g_add (cv 2) (c_lst (c_acons c_str c_anil)))))))

theorem sc__law_pairs : FnScope ["_law_box_here", "_law_menu"] ["_law_box_here"] (defScope s__law_pairs) := ⟨rfl, rfl, rfl, by decide +kernel, rfl, by decide +kernel, by decide +kernel⟩
theorem ok__law_pairs {P : Program} {wd : World} {K : PySem.W.Frag} {mg : Str → Option Value} {base : Heap} {Γ : Cls'} (Wd : WdT wd K Γ mg) (G__law_pick : Df P wd K mg base Γ "_law_pick" 1 m__law_pick) {f : Addr} {fd : FuncData} (F : Fun K "_law_pairs" "_law_pairs" s__law_pairs f fd) :
    FnOk P wd K mg base (L2.CX P wd) 2 f fd ["_law_box_here"] (spM K Γ m__law_pairs) := by
  have nd := sc__law_pairs.nd
  exact def_ok F sc__law_pairs fun cdv A outer s H E hr => (c_seq (cset 1 nd (c_lst (c_acons (c_lst (c_acons c_str (c_acons c_str c_anil))) (c_acons (c_lst (c_acons c_str (c_acons c_str c_anil))) (c_acons (c_lst (c_acons c_str (c_acons c_str c_anil))) (c_acons (c_lst (c_acons c_str (c_acons c_str (c_acons c_str c_anil)))) c_anil))))))
  (c_seq (cset 1 nd (c_bin op_add4 g_add (cv 1) (c_lst (c_acons (c_lst (c_acons c_str (c_acons c_str (c_acons c_str (c_acons c_str c_anil))))) (c_acons (c_lst (c_acons c_str (c_acons c_str (c_acons c_str c_anil)))) c_anil)))))
  (c_seq (cset 1 nd (c_bin op_add4 g_add (cv 1) (c_lst (c_acons (c_lst (c_acons c_str (c_acons c_str (c_acons c_str (c_acons c_str c_anil))))) (c_acons (c_lst (c_acons c_str (c_acons c_str (c_acons c_str (c_acons c_str (c_acons c_str c_anil)))))) c_anil)))))
  (c_seq (cset 1 nd (c_bin op_add4 g_add (cv 1) (c_lst (c_acons (c_lst (c_acons c_str (c_acons c_str (c_acons c_str c_anil)))) (c_acons (c_lst (c_acons c_str (c_acons c_str c_anil))) (c_acons (c_lst (c_acons c_str (c_acons c_str (c_acons c_str c_anil)))) c_anil))))))
  (c_seq (cset 1 nd (c_bin op_add4 g_add (cv 1) (c_lst (c_acons (c_lst (c_acons c_str c_anil)) (c_acons (c_lst (c_acons c_str c_anil)) c_anil)))))
  (c_last (c_ret (c_ix (cv 1) (c_fn tr0_ok G__law_pick go_def (hr.mono (by first | decide | omega)) (by rfl) (c_acons (cv 0) (c_acons c_int c_anil)))))))))))

theorem sc__law_names : FnScope ["_law_box_here", "_law_word"] ["_law_box_here"] (defScope s__law_names) := ⟨rfl, rfl, rfl, by decide +kernel, rfl, by decide +kernel, by decide +kernel⟩
theorem ok__law_names {P : Program} {wd : World} {K : PySem.W.Frag} {mg : Str → Option Value} {base : Heap} {Γ : Cls'} (Wd : WdT wd K Γ mg) (G__law_pick : Df P wd K mg base Γ "_law_pick" 1 m__law_pick) {f : Addr} {fd : FuncData} (F : Fun K "_law_names" "_law_names" s__law_names f fd) :
    FnOk P wd K mg base (L2.CX P wd) 2 f fd ["_law_box_here"] (spM K Γ m__law_names) := by
  have nd := sc__law_names.nd
  exact def_ok F sc__law_names fun cdv A outer s H E hr => (c_seq (cset 1 nd (c_ix (c_lst (c_acons c_str (c_acons c_str c_anil))) (c_fn tr0_ok G__law_pick go_def (hr.mono (by first | decide | omega)) (by rfl) (c_acons (cv 0) (c_acons c_int c_anil)))))
  (c_last (c_ret (c_lst (c_acons (c_bin op_add4 g_add (cv 1) (c_ix (c_lst (c_acons c_str (c_acons c_str (c_acons c_str (c_acons c_str (c_acons c_str (c_acons c_str (c_acons c_str (c_acons c_str c_anil))))))))) (c_fn tr0_ok G__law_pick go_def (hr.mono (by first | decide | omega)) (by rfl) (c_acons (cv 0) (c_acons c_int c_anil))))) c_anil)))))

theorem sc_law : FnScope ["_law_script", "_law_box_here", "_law_shape", "_law_size", "_law_wrap", "_law_amount", "_law_rows", "_law_indent", "_law_lines", "_law_line", "_law_at"] ["_law_script"] (defScope s_law) := ⟨rfl, rfl, rfl, by decide +kernel, rfl, by decide +kernel, by decide +kernel⟩
theorem ok_law {P : Program} {wd : World} {K : PySem.W.Frag} {mg : Str → Option Value} {base : Heap} {Γ : Cls'} (Wd : WdT wd K Γ mg) (G__law_box : Df P wd K mg base Γ "_law_box" 1 m__law_box) (G__law_deep : Df P wd K mg base Γ "_law_deep" 2 m__law_deep) (G__law_found : Df P wd K mg base Γ "_law_found" 20 m__law_found) (G__law_full : Df P wd K mg base Γ "_law_full" 2 m__law_full) (G__law_joined : Df P wd K mg base Γ "_law_joined" 1 m__law_joined) (G__law_long : Df P wd K mg base Γ "_law_long" 2 m__law_long) (G__law_names : Df P wd K mg base Γ "_law_names" 2 m__law_names) (G__law_pairs : Df P wd K mg base Γ "_law_pairs" 2 m__law_pairs) (G__law_pick : Df P wd K mg base Γ "_law_pick" 1 m__law_pick) {f : Addr} {fd : FuncData} (F : Fun K "law" "law" s_law f fd) :
    FnOk P wd K mg base (L2.CX P wd) 21 f fd ["_law_script"] (spM K Γ m_law) := by
  have nd := sc_law.nd
  exact def_ok F sc_law fun cdv A outer s H E hr => (c_seq (cset 1 nd (c_fn tr0_ok G__law_box go_def (hr.mono (by first | decide | omega)) (by rfl) (c_acons (cv 0) (c_acons c_int c_anil))))
  (c_seq (cset 2 nd (c_fn tr0_ok G__law_pick go_def (hr.mono (by first | decide | omega)) (by rfl) (c_acons (cv 1) (c_acons c_int c_anil))))
  (c_seq (cset 3 nd (c_fn tr0_ok G__law_pick go_def (hr.mono (by first | decide | omega)) (by rfl) (c_acons (cv 1) (c_acons c_int c_anil))))
  (c_seq (cset 4 nd (c_and (c_cmp op_gt g_gt (cv 2) c_int (nomark _)) (c_one (c_cmp (op_eq2 (hu64 hr)) g_eq (c_fn tr0_ok G__law_pick go_def (hr.mono (by first | decide | omega)) (by rfl) (c_acons (cv 1) (c_acons c_int c_anil))) c_int (nomark _)))))
  (c_seq (cset 5 nd (c_bin op_add4 g_add c_int (c_fn tr0_ok G__law_pick go_def (hr.mono (by first | decide | omega)) (by rfl) (c_acons (cv 1) (c_acons c_int c_anil)))))
  (c_seq (cset 6 nd (c_lst (c_acons c_str (c_acons (c_bin op_add4 g_add c_str (c_callTy call_str_int g_strI (by rfl) Wd.b_str (by decide +kernel) (c_acons (cv 5) c_anil))) c_anil))))
  (c_seq (cset 6 nd (c_bin op_add4 g_add (cv 6) (c_bin op_mul3 g_mul (c_lst (c_acons c_str c_anil)) (cv 3))))
  (c_seq (cset 7 nd c_str)
  (c_seq (c_if (c_tru (cv 4)) (c_seq (cset 6 nd (c_bin op_add4 g_add (cv 6) (c_lst (c_acons c_str (c_acons c_str c_anil)))))
  (c_seq (c_if (c_tcmp (op_eq2 (hu64 hr)) g_eq (c_fn tr0_ok G__law_pick go_def (hr.mono (by first | decide | omega)) (by rfl) (c_acons (cv 1) (c_acons c_int c_anil))) c_int (nomark _)) (c_last (cset 6 nd (c_bin op_add4 g_add (cv 6) (c_lst (c_acons c_str (c_acons c_str c_anil)))))) c_nil)
  (c_last (cset 7 nd c_str)))) c_nil)
  (c_seq (cset 8 nd (c_fn tr0_ok G__law_deep go_def (hr.mono (by first | decide | omega)) (by rfl) (c_acons (cv 1) c_anil)))
  (c_seq (c_if (c_tcmp (op_eq2 (hu64 hr)) g_eq (cv 2) c_int (nomark _)) (c_last (cset 8 nd (c_fn tr0_ok G__law_full go_def (hr.mono (by first | decide | omega)) (by rfl) (c_acons (cv 1) c_anil)))) (c_last (c_if (c_tcmp (op_eq2 (hu64 hr)) g_eq (cv 2) c_int (nomark _)) (c_last (cset 8 nd (c_fn tr0_ok G__law_long go_def (hr.mono (by first | decide | omega)) (by rfl) (c_acons (cv 1) (c_acons (cv 3) c_anil))))) (c_last (c_if (c_tcmp op_in_seq g_inF (cv 2) (c_lst (c_acons c_int (c_acons c_int c_anil))) (by rfl)) (c_last (cset 8 nd (c_fn tr0_ok G__law_pairs go_def (hr.mono (by first | decide | omega)) (by rfl) (c_acons (cv 1) c_anil)))) (c_last (c_if (c_tcmp op_gt g_gt (cv 2) c_int (nomark _)) (c_last (cset 8 nd (c_fn tr0_ok G__law_names go_def (hr.mono (by first | decide | omega)) (by rfl) (c_acons (cv 1) c_anil)))) c_nil)))))))
  (c_seq (cset 6 nd (c_bin op_add4 g_add (cv 6) (c_lcG (own := [("_law_line", 9)]) (sl := [9]) finL_ok (by decide) rfl nd (ci_seq (cv 8)) (blkOk_by (own := [("_law_line", 9)]) (N := ["_law_script", "_law_box_here", "_law_shape", "_law_size", "_law_wrap", "_law_amount", "_law_rows", "_law_indent", "_law_lines", "_law_line", "_law_at"]) (sc := defScope s_law) (by decide +kernel)) (fun _ _ _ _ _ => (cgn 9 nd)) (fun _ _ _ _ _ => c_tsnil) (fun _ _ _ _ _ => (c_bin op_add4 g_add (cv 7) (cv 9))))))
  (c_seq (cset 10 nd (c_bin op_sub g_sub (c_callB call_len g_len (by rfl) Wd.b_len PySem.boot_len (c_acons (cv 6) c_anil)) c_int))
  (c_seq (cset 6 nd (c_bin op_add4 g_add (cv 6) (c_bin op_mul3 g_mul (c_lst (c_acons c_str c_anil)) (c_fn tr0_ok G__law_pick go_def (hr.mono (by first | decide | omega)) (by rfl) (c_acons (cv 1) (c_acons c_int c_anil))))))
  (c_last (c_ret (c_cmp (op_eq2 (hu64 hr)) g_eq (c_fn tr0_ok G__law_found go_def (hr.mono (by first | decide | omega)) (by rfl) (c_acons (c_fn tr0_ok G__law_joined go_def (hr.mono (by first | decide | omega)) (by rfl) (c_acons (cv 6) c_anil)) c_anil)) (c_tup (c_acons c_str (c_acons (cv 10) c_anil))) (nomark _))))))))))))))))))
end Mm
set_option maxRecDepth 100000
namespace Mm
open PySem L2 StK StX
/-! a law's end: law-independent but for its level -/
def spLawR (K : PySem.W.Frag) : Sp := fun vs H Q _ => ∃ (a : Addr) (ns : List Int), vs = [.ref a] ∧ FzL K H a (ns.map V.int) ∧ ns.length ≤ 63 ∧ ∀ H', Q (.bl true) H'
theorem fz_only {K : PySem.W.Frag} {H : Hp} {a : Addr} {xs : List V} (o : Only H) (h : SqL K H a xs) : FzL K H a xs := by
  rcases h with (h | ⟨u, h⟩) | h
  · rcases o a with e | ⟨u, ys, e⟩
    · rw [h] at e; cases e
    · rw [h] at e; cases e
  · exact .inl ⟨u, h⟩
  · exact .inr fun H' => .inr h
theorem law_fn {P : Program} {wd : World} {K : PySem.W.Frag} {mg : Str → Option Value} {base : Heap} {Γ : Cls'} {k : Nat} {f : Addr} {fd : FuncData} {ps : List Str} (ht : Γ.tb = []) (F : FnOk P wd K mg base (L2.CX P wd) k f fd ps (spM K Γ m_law)) : FnOk P wd K mg base (L2.CX P wd) k f fd ps (spLawR K) := by
  have i : ∀ vs H Q E, spLawR K vs H Q E → spM K Γ m_law vs H Q E := fun vs H Q E ⟨a, ns, ev, h, hl, q⟩ => by
    subst ev
    obtain ⟨S, e⟩ := law_ok ns hl
    refine ⟨⟨fun _ => 0, fun _ => False⟩, [], [.fz ns], ⟨fun k o h => (by simp at h), fun i j hi => absurd hi (Nat.not_lt_zero _), fun k hk => absurd hk (Nat.not_lt_zero _), fun a h => h.elim, by show LamX.Tabs Γ.tb H; rw [ht]; exact fun x hx => by cases hx⟩, .one (by unfold At; exact ⟨a, rfl, h⟩), ?_⟩
    rw [e]
    intro c' H' v _ _ av
    rw [av.bl]
    exact q H'
  exact ⟨fun vs H Q E h => F.len vs H Q E (i vs H Q E h), fun A outer s H args us vs Q E hr e0 b r h => F.run A outer s H args us vs Q E hr e0 b r (i vs H Q E h)⟩
theorem walkR {l : PySem.W.OpenLaw} {q : Program} {loose : List Str} {XP : (Str → Option Value) → Heap → Prop} {YP : World → Heap → Prop} {d : DefRec} {K : Params → PySem.W.Frag} (hn : l.most = some 63) (hdf : d.params.defaults = [])
    (hY : ∀ (w : World) (h : Heap), YP w h → (K w.params).In h)
    (F : ∀ (w : World) (mg : Str → Option Value) (fa : Addr) (h : Heap), (K w.params).In h → h.Ns mainGlobals mg → mg d.name = some (.ref fa) →
      ∃ fd : FuncData, (∀ (s : Shared) (u : Value), BindsTo s fd ⟨[u], []⟩ [("_law_script", u)]) ∧ ∀ base : Heap, (K w.params).In base → base.Ns mainGlobals mg → FnOk l.prog w (K w.params) mg base (L2.CX l.prog w) 21 fa fd ["_law_script"] (spLawR (K w.params))) :
    PySem.W.WalkO q loose XP YP l.row.toRowW d [] (fun f vs => PySem.call f vs) :=
  L2.walk_of (n := 63) (k := 21) (x := "_law_script") (CX := fun w => L2.CX l.prog w) (sp := fun w => spLawR (K w.params)) hn (by decide) hdf ⟨rfl, by decide, by decide⟩ hY F (fun _ _ a ns hl o hS => ⟨a, ns, rfl, fz_only o hS, hl, fun _ => rfl⟩) fun _ _ _ _ _ ⟨_, _, _, _, _, _, _, _, _, _, _, _, z⟩ => z
/-- the two methods that call each other, n deep -/
theorem checksR {P : Program} {wd : World} {K : PySem.W.Frag} {mg : Str → Option Value} {base : Heap} {Γ : Cls'} (Wd : WdT wd K Γ mg) (G_fault_of : Df P wd K mg base Γ "fault_of" 2 m_fault_of) (G_held_after : Df P wd K mg base Γ "held_after" 1 m_held_after)
    {C fb fs : Addr} {fdb fds : FuncData} (Fb : Fun K "check_branch" "Check.check_branch" s_Check_check_branch fb fdb) (Fs : Fun K "check_statement" "Check.check_statement" s_Check_check_statement fs fds) (bb : Binds K fdb ["self", "branch", "above", "held"] []) (bs : Binds K fds ["self", "statement", "place", "held"] [])
    (gC : Γ.at_ 2 = some C) (cl : Cls K C) (mb : Meth K C "check_branch" fb) (ms : Meth K C "check_statement" fs) (nb : ("check_branch" : Str) ∉ Γ.fs 2) (ns : ("check_statement" : Str) ∉ Γ.fs 2) :
    ∀ n : Nat, Dm P wd K mg base Γ 2 "check_branch" (5 + n) (mCC n).1 ∧ Dm P wd K mg base Γ 2 "check_statement" (5 + n) (mCC n).2
  | 0 => ⟨⟨⟨C, fb, fdb, _, gC, cl, mb, def_ok (k := 4) Fb sc_Check_check_branch fun cdv A outer s H E hr => c_bads, bb⟩, nb⟩, ⟨⟨C, fs, fds, _, gC, cl, ms, def_ok (k := 4) Fs sc_Check_check_statement fun cdv A outer s H E hr => c_bads, bs⟩, ns⟩⟩
  | n + 1 => by
    obtain ⟨ib, is⟩ := checksR Wd G_fault_of G_held_after Fb Fs bb bs gC cl mb ms nb ns n
    exact ⟨⟨⟨C, fb, fdb, _, gC, cl, mb, ok_Check_check_branch Wd (by omega) is Fb, bb⟩, nb⟩, ⟨⟨C, fs, fds, _, gC, cl, ms, ok_Check_check_statement Wd (n := 5 + n) (by omega) ib G_fault_of G_held_after Fs, bs⟩, ns⟩⟩
theorem rowsR {P : Program} {wd : World} {K : PySem.W.Frag} {mg : Str → Option Value} {base : Heap} {Γ : Cls'} (Wd : WdT wd K Γ mg) (Gi : Df P wd K mg base Γ "indented" 1 m_indented) {f : Addr} {fd : FuncData} (F : Fun K "rows_of" "rows_of" s_rows_of f fd)
    (hb : Binds K fd ["statements", "indent"] []) (hk : PySem.W.keepIn K (.ref f) = true) (hm : mg "rows_of" = some (.ref f)) : ∀ n : Nat, Df P wd K mg base Γ "rows_of" (2 + n) (mRO n)
  | 0 => ⟨f, fd, _, def_ok (k := 1) F sc_rows_of fun cdv A outer s H E hr => c_bads, hb, hk, hm⟩
  | n + 1 => ⟨f, fd, _, ok_rows_of Wd Gi (n := 2 + n) (by omega) (rowsR Wd Gi F hb hk hm n) F, hb, hk, hm⟩
/-- the two methods of the reading that call each other, n deep -/
theorem readR {P : Program} {wd : World} {K : PySem.W.Frag} {mg : Str → Option Value} {base : Heap} {Γ : Cls'} (Wd : WdT wd K Γ mg) (G_f : Dm P wd K mg base Γ 10 "fields" 3 m_Reading_fields) (G_w : Dm P wd K mg base Γ 10 "words" 1 m_Reading_words) (G_fault_of : Df P wd K mg base Γ "fault_of" 2 m_fault_of) (G_held_after : Df P wd K mg base Γ "held_after" 1 m_held_after) (X_BadText : Xk P wd K mg base Γ 7 "BadText" "line")
    {C fb fs : Addr} {fdb fds : FuncData} (Fb : Fun K "read_branch" "Reading.read_branch" s_Reading_read_branch fb fdb) (Fs : Fun K "read_statement" "Reading.read_statement" s_Reading_read_statement fs fds) (bb : Binds K fdb ["self", "indent", "above", "held"] []) (bs : Binds K fds ["self", "indent", "place", "held"] [])
    (gC : Γ.at_ 10 = some C) (cl : Cls K C) (mb : Meth K C "read_branch" fb) (ms : Meth K C "read_statement" fs) (nb : ("read_branch" : Str) ∉ Γ.fs 10) (ns : ("read_statement" : Str) ∉ Γ.fs 10) :
    ∀ n : Nat, Dm P wd K mg base Γ 10 "read_branch" (5 + n) (mRR n).1 ∧ Dm P wd K mg base Γ 10 "read_statement" (5 + n) (mRR n).2
  | 0 => ⟨⟨⟨C, fb, fdb, _, gC, cl, mb, def_ok (k := 4) Fb sc_Reading_read_branch fun cdv A outer s H E hr => c_bads, bb⟩, nb⟩, ⟨⟨C, fs, fds, _, gC, cl, ms, def_ok (k := 4) Fs sc_Reading_read_statement fun cdv A outer s H E hr => c_bads, bs⟩, ns⟩⟩
  | n + 1 => by
    obtain ⟨ib, is⟩ := readR Wd G_f G_w G_fault_of G_held_after X_BadText Fb Fs bb bs gC cl mb ms nb ns n
    exact ⟨⟨⟨C, fb, fdb, _, gC, cl, mb, ok_Reading_read_branch Wd (n := 5 + n) (by omega) is G_w Fb, bb⟩, nb⟩, ⟨⟨C, fs, fds, _, gC, cl, ms, ok_Reading_read_statement Wd G_f (n := 5 + n) (by omega) ib G_w G_fault_of G_held_after X_BadText Fs, bs⟩, ns⟩⟩
abbrev psY : List Str := ["self", "ahead", "window", "crashes"]
theorem bindY1 (D : Addr) (doc pm cdv ct : Value) (an : Option Addr) : ∀ us rest mv ws : List Value, us.length = 1 → mv.length = 0 → ws.length = 3 →
    KwTail D (([] : List Str).zip mv) (bindArgs (PySem.W.fnOf "__init__" "System.__init__" (defArgs s_System___init__) (defBody s_System___init__) (defScope s_System___init__) .none (.ref D) doc pm an cdv ct) ⟨us ++ rest, (["ahead", "window", "crashes"] : List Str).zip ws⟩) (newTuple rest >>= fun t => pure (psY.zip (us ++ ws) ++ [(("kinds" : Str), t)]))
  | [u], [], [], [a, w, c], _, _, _ => rfl
  | [u], r :: rs, [], [a, w, c], _, _, _ => rfl
/-- a def's body, read -/
theorem body_read {K : PySem.W.Frag} {Γ : Cls'} {N ps : List Str} {b : SM} {vs : List V} {H : Hp} {Q : VK} {E : XK} (h : spM K Γ (runDef ps.length N.length b) vs H Q E) : mS ⟨K, Γ⟩ (fun C dd _ H => E C dd H) b { nx := fun _ H' => Q .non H', rt := Q } (L2.start N vs) H := by
  obtain ⟨c, S, ds, r, t, h⟩ := h
  unfold runDef at h
  by_cases hl : ds.length = ps.length
  · rw [if_pos hl, ← hl] at h
    refine ⟨c, _, S, r, envR_start t, ?_⟩
    cases hx : b (ds.map some ++ List.replicate (N.length - ds.length) none) S with
    | next env' S' => rw [hx] at h; exact fun c2 H2 s2 e2 r2 a2 => h c2 H2 .non e2 r2 .o
    | ret d S' => rw [hx] at h; exact fun c2 H2 v e2 r2 a2 => h c2 H2 v e2 r2 a2
    | ex x env' S' => rw [hx] at h; exact fun c2 H2 s2 C dd e2 r2 a2 xa => h c2 H2 C dd e2 r2 xa
    | brk env' S' => rw [hx] at h; exact h.elim
    | cnt env' S' => rw [hx] at h; exact h.elim
    | bad => rw [hx] at h; exact h.elim
  · rw [if_neg hl] at h; exact h.elim
/-- System(.., ahead=, window=, crashes=) -/
theorem sys_ks {P : Program} {wd : World} {K : PySem.W.Frag} {mg : Str → Option Value} {base : Heap} {Γ : Cls'} (Wd : WdT wd K Γ mg) (G : Df P wd K mg base Γ "fault_of_system" 3 m_fault_of_system) {C f KY : Addr} {oc doc pm cdv ct : Value} {od an : Option Addr} {osl : Array (Option Value)}
    (lk : K.lookup f = some ⟨oc, od, .func (PySem.W.fnOf "__init__" "System.__init__" (defArgs s_System___init__) (defBody s_System___init__) (defScope s_System___init__) .none (.ref KY) doc pm an cdv ct), osl⟩) (hcd : PySem.W.codeIn K cdv "System.__init__" = true)
    (gC : Γ.at_ 5 = some C) (hm : mg "System" = some (.ref C)) (M : Mk K C f) : Dks P wd K mg base Γ 5 "System" 4 m_System___init__ ["ahead", "window", "crashes"] gSystem :=
  ⟨C, f, fun ws zs => ws ++ zs, gC, hm, M,
    fn_starK (n := 1) (ks := ["ahead", "window", "crashes"]) (ps := psY) (pv := "kinds") (ms := []) (sp := spM K Γ m_System___init__) lk hcd sc_System___init__ cxUp (fun q hq => by cases hq) (fun us mv ws => us ++ ws) (fun a b c => a.append c) (fun us mv ws h1 h2 h3 => by
        rw [List.length_append, h1, h3]; rfl) (bindY1 KY doc pm cdv ct an) fun A outer s H vs Q E hr h => ⟨_, ok_System___init__ Wd G cdv f A outer s H E hr, body_read (ps := psY ++ [("kinds" : Str)]) (N := ["self", "ahead", "window", "crashes", "kinds", "why", "kind", "index"]) h⟩,
    fun c H j x v es zs a b hl => .cons a b⟩
/-- Kind(name, script, block=.., many=..) -/
theorem kind_kk {P : Program} {wd : World} {K : PySem.W.Frag} {mg : Str → Option Value} {base : Heap} {Γ : Cls'} (Wd : WdT wd K Γ mg) (G1 : Df P wd K mg base Γ "is_name" 1 m_is_name) (G2 : Df P wd K mg base Γ "is_within" 2 m_is_within) (G3 : Df P wd K mg base Γ "script_of" 14 m_script_of) {C f : Addr} {fd : FuncData}
    (F : FunD K "__init__" "Kind.__init__" (defArgs s_Kind___init__) (defBody s_Kind___init__) (defScope s_Kind___init__) [] [("block", .int 1), ("many", .int 1)] f fd) (gC : Γ.at_ 4 = some C) (hm : mg "Kind" = some (.ref C)) (M : Mk K C f) : Dkk P wd K mg base Γ 4 "Kind" 15 m_Kind___init__ 2 ["block", "many"] gKind := by
  obtain ⟨mv, hb⟩ := F.kbinds0 (ps := ["self", "name", "script", "block", "many"]) 3 ["block", "many"] [] (fun us mv ws => us ++ ws ++ mv) (by simp) (fun q hq => by cases hq) (fun r1 r2 r3 => (r1.append r3).append r2)
    (fun _ _ _ _ _ _ us mv ws h1 h2 h3 => match us, mv, ws, h1, h2, h3 with | [_, _, _], [], [_, _], _, _, _ => rfl)
  refine ⟨C, f, fd, _, _, _, gC, hm, M, ok_Kind___init__ Wd G1 G2 G3 F, hb, ?_⟩
  intro c H j x v ds es vs zs a b d l1 l2
  show Ats _ _ _ _ (x :: (ds ++ es)) ((v :: vs) ++ zs ++ [])
  rw [List.append_nil, List.cons_append]
  exact .cons a (b.app d)
end Mm
set_option maxRecDepth 100000
namespace Mm
open PySem L2 StK PyProof.Rows
def gfs : Nat → List Str := fun k => (([[], ["statements", "found", "places"], ["found"], [], ["name", "script", "block", "many"], ["kinds", "ahead", "window", "crashes", "sessions"], [], ["line"], [], [], ["rows", "at", "room"]] : List (List Str))[k]?).getD []
abbrev Gam (w : World) (C_Script C_Check C_Kind C_System C_BadText C_Reading : Addr) : Cls' := ⟨fun k => (([none, some C_Script, some C_Check, none, some C_Kind, some C_System, none, some C_BadText, none, none, some C_Reading] : List (Option Addr))[k]?).join, gfs, none, none, [], NestedKey.hash w⟩
theorem lookup_mem : ∀ {l : List (Str × Int)} {z : Str} {i : Int}, l.lookup z = some i → (z, i) ∈ l
  | [], z, i, h => by cases h
  | (a, b) :: l, z, i, h => by
    rw [List.lookup_cons] at h
    cases e : (z == a) with
    | true => rw [e] at h; cases h; rw [eq_of_beq e]; exact List.mem_cons_self ..
    | false => rw [e] at h; exact List.mem_cons_of_mem _ (lookup_mem h)
theorem ve_ok {CT : Addr} : PySem.HandSPX.refsVE [.ref CT, .type "ValueError", .type "Exception", .type "BaseException", .type "object"] = true := by
  show PySem.HandSPX.refsVE [.type "ValueError", .type "Exception", .type "BaseException", .type "object"] = true
  decide +kernel
theorem kit_ref {K : PySem.W.Frag} {D C : Addr} {b : Bool} (hne : (Value.ref D == Value.ref C) = false) (ic : PySem.W.isClsIn K C = true) (tC : PySem.W.typeIn K (.ref C) = some (.type "type")) (s : PySem.W.subIn K (.ref D) (.ref C) = some b) : PySem.W.kitOne K (.ref D) (.ref C) = some b := by
  have e1 : (PySem.W.clsIn K C).isSome = true := ic
  unfold PySem.W.kitOne
  rw [hne, if_neg (by decide)]
  show (if ((PySem.W.clsIn K C).isSome && PySem.W.typeIn K (.ref C) == some (.type "type")) = true then PySem.W.subIn K (.ref D) (.ref C) else none) = some b
  rw [e1, tC, if_pos (show (true && some (Value.type "type") == some (Value.type "type")) = true from by rw [beq_self_eq_true]; rfl)]
  exact s
theorem kit_no {K : PySem.W.Frag} {C : Addr} {t : String} (iC : PySem.W.isClsIn K C = true) (tC : PySem.W.typeIn K (.ref C) = some (.type "type")) (u : PySem.W.subIn K (.type t) (.ref C) = some false) : PySem.W.kitOne K (.type t) (.ref C) = some false := by
  have e1 : (PySem.W.clsIn K C).isSome = true := iC
  show (if ((PySem.W.clsIn K C).isSome && PySem.W.typeIn K (.ref C) == some (.type "type")) = true then PySem.W.subIn K (.type t) (.ref C) else none) = some false
  rw [e1, tC, if_pos (show (true && some (Value.type "type") == some (Value.type "type")) = true from by rw [beq_self_eq_true]; rfl)]
  exact u
theorem kit_ve {K : PySem.W.Frag} {C : Addr} (h : PySem.W.mroIn K C (.type "ValueError") = some true) : PySem.W.kitOne K (.ref C) (.type "ValueError") = some true := by
  unfold PySem.W.kitOne
  rw [show (Value.ref C == Value.type "ValueError") = false from rfl, if_neg (by decide)]
  unfold PySem.W.kitCls
  dsimp only
  rw [if_pos (by decide +kernel)]
  exact h
theorem kit_me {K : PySem.W.Frag} (C : Addr) : PySem.W.kitOne K (.ref C) (.ref C) = some true := by
  unfold PySem.W.kitOne
  rw [if_pos (beq_self_eq_true _)]
theorem gl_int {K : PySem.W.Frag} {Γ : Cls'} {mg : Str → Option Value} {x : Str} {i : Int} {t : Tok} (h : mg x = some (.int i t)) : GlD K Γ mg x (.int i) := ⟨_, .int i, h, ⟨_, rfl⟩, fun c H n => .i i⟩
theorem gl_str {K : PySem.W.Frag} {Γ : Cls'} {mg : Str → Option Value} {x : Str} {i : Str} {t : Tok} (h : mg x = some (.str i t)) : GlD K Γ mg x (.str i) := ⟨_, .str i, h, ⟨_, rfl⟩, fun c H n => .s i⟩
theorem at_tupK {K : PySem.W.Frag} {Γ : Cls'} {a : Addr} {od : Option Addr} {its : Array Value} {n : Nat} {sl : Array (Option Value)} {vs : List V} {ds : List D} (l : K.lookup a = some ⟨.type "tuple", od, .seq its n, sl⟩) (hl : its.toList.length ≤ 1000) (hv : Vals vs its.toList) (ha : ∀ c H j, Ats ⟨K, Γ⟩ c H j ds vs) : ∀ c H j, At ⟨K, Γ⟩ c H j (.tup ds) (.ref a) := fun c H j => by
  unfold At
  exact ⟨a, vs, rfl, .inr ⟨_, its, n, l, rfl, rfl, Nat.le_trans (by simpa using hl) (by decide), hv⟩, ha c H j⟩

set_option maxHeartbeats 4000000 in
theorem all_mk {l : PySem.W.OpenLaw} {w : World} {K : PySem.W.Frag} {h : Heap} {mg : Str → Option Value} {fa C_Script C_Check C_Kind C_System C_BadText C_Reading C_TakeError C_BadScript C_BadSystem f_BadText___init__ f_is_integer f_is_within f_is_name f_held_after f_has_form f_fault_of f_answers_of f_is_answer f_script_of f_count_of_sessions f_are_kinds f_fault_of_system f_indented f_rows_of f_write_system f_shortest_kind f_with_kinds f_digit_of f_read_system f__law_box f__law_pick f__law_found f__law_joined f__law_deep f__law_full f__law_long f__law_pairs f__law_names f_law f_Check___init__ f_Check_check_branch f_Check_check_statement f_Script___init__ f_Script___len__ f_Script___contains__ f_Script___getitem__ f_Script_behind f_Script_after TD_Script_after f_Kind___init__ f_System___init__ f_System___getitem__ f_Reading___init__ f_Reading_words f_Reading_fields f_Reading_read_frame f_Reading_read_branch f_Reading_read_statement f_Reading_read_kind KD_Kind KD_System GSYSTEM_ROW GKIND_ROW itITEMS : Addr} (X : K.In h) (G : h.Ns mainGlobals mg) (hfa : mg "law" = some (.ref fa))
    {tTScript_after_0 tkKind_block tkKind_many tkSystem_ahead tkSystem_crashes t_DIGITS t_LONGEST_NAME t_LONGEST_OF_MANY t_MOST_AHEAD t_MOST_BLOCK t_MOST_CRASHES t_MOST_HELD t_MOST_NESTED t_MOST_SESSIONS t_MOST_STATEMENTS t_MOST_WINDOW t_OF_BRANCHES t_OF_KINDS t_OF_SCRIPTS t_OF_WORDS tvGSYSTEM_ROW_0 tvGSYSTEM_ROW_1 tvGSYSTEM_ROW_2 tvGSYSTEM_ROW_3 tvGSYSTEM_ROW_4 tvGSYSTEM_ROW_5 tvGSYSTEM_ROW_6 tvGKIND_ROW_0 tvGKIND_ROW_1 tvGKIND_ROW_2 tvGKIND_ROW_3 tvGKIND_ROW_4 tvGKIND_ROW_5 ttITEMS_take ttITEMS_commit ttITEMS_rollback ttITEMS_drop ttITEMS_leave ttITEMS_lock ttITEMS_unlock ttITEMS_choose : Tok}
    {nmBadText qBadText : Str} {NBadText : Addr} {bsBadText sbBadText : List Value} {snBadText : List Str} {abBadText : Bool} {coBadText : Option Bool} {ddBadText : Option Addr} {m0BadText m1BadText m2BadText m3BadText m5BadText : Option Value}
    {od_BadText___init__ an_BadText___init__ : Option Addr} {sl_BadText___init__ : Array (Option Value)} {oc_BadText___init__ kV_BadText___init__ dc_BadText___init__ pm_BadText___init__ cd_BadText___init__ ct_BadText___init__ : Value}
    {od_is_integer an_is_integer : Option Addr} {sl_is_integer : Array (Option Value)} {oc_is_integer kV_is_integer dc_is_integer pm_is_integer cd_is_integer ct_is_integer : Value}
    {od_is_within an_is_within : Option Addr} {sl_is_within : Array (Option Value)} {oc_is_within kV_is_within dc_is_within pm_is_within cd_is_within ct_is_within : Value}
    {od_is_name an_is_name : Option Addr} {sl_is_name : Array (Option Value)} {oc_is_name kV_is_name dc_is_name pm_is_name cd_is_name ct_is_name : Value}
    {od_held_after an_held_after : Option Addr} {sl_held_after : Array (Option Value)} {oc_held_after kV_held_after dc_held_after pm_held_after cd_held_after ct_held_after : Value}
    {od_has_form an_has_form : Option Addr} {sl_has_form : Array (Option Value)} {oc_has_form kV_has_form dc_has_form pm_has_form cd_has_form ct_has_form : Value}
    {od_fault_of an_fault_of : Option Addr} {sl_fault_of : Array (Option Value)} {oc_fault_of kV_fault_of dc_fault_of pm_fault_of cd_fault_of ct_fault_of : Value}
    {od_answers_of an_answers_of : Option Addr} {sl_answers_of : Array (Option Value)} {oc_answers_of kV_answers_of dc_answers_of pm_answers_of cd_answers_of ct_answers_of : Value}
    {od_is_answer an_is_answer : Option Addr} {sl_is_answer : Array (Option Value)} {oc_is_answer kV_is_answer dc_is_answer pm_is_answer cd_is_answer ct_is_answer : Value}
    {od_script_of an_script_of : Option Addr} {sl_script_of : Array (Option Value)} {oc_script_of kV_script_of dc_script_of pm_script_of cd_script_of ct_script_of : Value}
    {od_count_of_sessions an_count_of_sessions : Option Addr} {sl_count_of_sessions : Array (Option Value)} {oc_count_of_sessions kV_count_of_sessions dc_count_of_sessions pm_count_of_sessions cd_count_of_sessions ct_count_of_sessions : Value}
    {od_are_kinds an_are_kinds : Option Addr} {sl_are_kinds : Array (Option Value)} {oc_are_kinds kV_are_kinds dc_are_kinds pm_are_kinds cd_are_kinds ct_are_kinds : Value}
    {od_fault_of_system an_fault_of_system : Option Addr} {sl_fault_of_system : Array (Option Value)} {oc_fault_of_system kV_fault_of_system dc_fault_of_system pm_fault_of_system cd_fault_of_system ct_fault_of_system : Value}
    {od_indented an_indented : Option Addr} {sl_indented : Array (Option Value)} {oc_indented kV_indented dc_indented pm_indented cd_indented ct_indented : Value}
    {od_rows_of an_rows_of : Option Addr} {sl_rows_of : Array (Option Value)} {oc_rows_of kV_rows_of dc_rows_of pm_rows_of cd_rows_of ct_rows_of : Value}
    {od_write_system an_write_system : Option Addr} {sl_write_system : Array (Option Value)} {oc_write_system kV_write_system dc_write_system pm_write_system cd_write_system ct_write_system : Value}
    {od_shortest_kind an_shortest_kind : Option Addr} {sl_shortest_kind : Array (Option Value)} {oc_shortest_kind kV_shortest_kind dc_shortest_kind pm_shortest_kind cd_shortest_kind ct_shortest_kind : Value}
    {od_with_kinds an_with_kinds : Option Addr} {sl_with_kinds : Array (Option Value)} {oc_with_kinds kV_with_kinds dc_with_kinds pm_with_kinds cd_with_kinds ct_with_kinds : Value}
    {od_digit_of an_digit_of : Option Addr} {sl_digit_of : Array (Option Value)} {oc_digit_of kV_digit_of dc_digit_of pm_digit_of cd_digit_of ct_digit_of : Value}
    {od_read_system an_read_system : Option Addr} {sl_read_system : Array (Option Value)} {oc_read_system kV_read_system dc_read_system pm_read_system cd_read_system ct_read_system : Value}
    {od__law_box an__law_box : Option Addr} {sl__law_box : Array (Option Value)} {oc__law_box kV__law_box dc__law_box pm__law_box cd__law_box ct__law_box : Value}
    {od__law_pick an__law_pick : Option Addr} {sl__law_pick : Array (Option Value)} {oc__law_pick kV__law_pick dc__law_pick pm__law_pick cd__law_pick ct__law_pick : Value}
    {od__law_found an__law_found : Option Addr} {sl__law_found : Array (Option Value)} {oc__law_found kV__law_found dc__law_found pm__law_found cd__law_found ct__law_found : Value}
    {od__law_joined an__law_joined : Option Addr} {sl__law_joined : Array (Option Value)} {oc__law_joined kV__law_joined dc__law_joined pm__law_joined cd__law_joined ct__law_joined : Value}
    {od__law_deep an__law_deep : Option Addr} {sl__law_deep : Array (Option Value)} {oc__law_deep kV__law_deep dc__law_deep pm__law_deep cd__law_deep ct__law_deep : Value}
    {od__law_full an__law_full : Option Addr} {sl__law_full : Array (Option Value)} {oc__law_full kV__law_full dc__law_full pm__law_full cd__law_full ct__law_full : Value}
    {od__law_long an__law_long : Option Addr} {sl__law_long : Array (Option Value)} {oc__law_long kV__law_long dc__law_long pm__law_long cd__law_long ct__law_long : Value}
    {od__law_pairs an__law_pairs : Option Addr} {sl__law_pairs : Array (Option Value)} {oc__law_pairs kV__law_pairs dc__law_pairs pm__law_pairs cd__law_pairs ct__law_pairs : Value}
    {od__law_names an__law_names : Option Addr} {sl__law_names : Array (Option Value)} {oc__law_names kV__law_names dc__law_names pm__law_names cd__law_names ct__law_names : Value}
    {od_law an_law : Option Addr} {sl_law : Array (Option Value)} {oc_law kV_law dc_law pm_law cd_law ct_law : Value}
    {od_Check___init__ an_Check___init__ : Option Addr} {sl_Check___init__ : Array (Option Value)} {oc_Check___init__ kV_Check___init__ dc_Check___init__ pm_Check___init__ cd_Check___init__ ct_Check___init__ : Value}
    {od_Check_check_branch an_Check_check_branch : Option Addr} {sl_Check_check_branch : Array (Option Value)} {oc_Check_check_branch kV_Check_check_branch dc_Check_check_branch pm_Check_check_branch cd_Check_check_branch ct_Check_check_branch : Value}
    {od_Check_check_statement an_Check_check_statement : Option Addr} {sl_Check_check_statement : Array (Option Value)} {oc_Check_check_statement kV_Check_check_statement dc_Check_check_statement pm_Check_check_statement cd_Check_check_statement ct_Check_check_statement : Value}
    {od_Script___init__ an_Script___init__ : Option Addr} {sl_Script___init__ : Array (Option Value)} {oc_Script___init__ kV_Script___init__ dc_Script___init__ pm_Script___init__ cd_Script___init__ ct_Script___init__ : Value}
    {od_Script___len__ an_Script___len__ : Option Addr} {sl_Script___len__ : Array (Option Value)} {oc_Script___len__ kV_Script___len__ dc_Script___len__ pm_Script___len__ cd_Script___len__ ct_Script___len__ : Value}
    {od_Script___contains__ an_Script___contains__ : Option Addr} {sl_Script___contains__ : Array (Option Value)} {oc_Script___contains__ kV_Script___contains__ dc_Script___contains__ pm_Script___contains__ cd_Script___contains__ ct_Script___contains__ : Value}
    {od_Script___getitem__ an_Script___getitem__ : Option Addr} {sl_Script___getitem__ : Array (Option Value)} {oc_Script___getitem__ kV_Script___getitem__ dc_Script___getitem__ pm_Script___getitem__ cd_Script___getitem__ ct_Script___getitem__ : Value}
    {od_Script_behind an_Script_behind : Option Addr} {sl_Script_behind : Array (Option Value)} {oc_Script_behind kV_Script_behind dc_Script_behind pm_Script_behind cd_Script_behind ct_Script_behind : Value}
    {od_Script_after an_Script_after : Option Addr} {sl_Script_after : Array (Option Value)} {oc_Script_after kV_Script_after dc_Script_after pm_Script_after cd_Script_after ct_Script_after : Value}
    {cTScript_after : Value} {dTScript_after : Option Addr} {nTScript_after : Nat} {slTScript_after : Array (Option Value)}
    {od_Kind___init__ an_Kind___init__ : Option Addr} {sl_Kind___init__ : Array (Option Value)} {oc_Kind___init__ dc_Kind___init__ pm_Kind___init__ cd_Kind___init__ ct_Kind___init__ : Value}
    {od_System___init__ an_System___init__ : Option Addr} {sl_System___init__ : Array (Option Value)} {oc_System___init__ dc_System___init__ pm_System___init__ cd_System___init__ ct_System___init__ : Value}
    {od_System___getitem__ an_System___getitem__ : Option Addr} {sl_System___getitem__ : Array (Option Value)} {oc_System___getitem__ kV_System___getitem__ dc_System___getitem__ pm_System___getitem__ cd_System___getitem__ ct_System___getitem__ : Value}
    {od_Reading___init__ an_Reading___init__ : Option Addr} {sl_Reading___init__ : Array (Option Value)} {oc_Reading___init__ kV_Reading___init__ dc_Reading___init__ pm_Reading___init__ cd_Reading___init__ ct_Reading___init__ : Value}
    {od_Reading_words an_Reading_words : Option Addr} {sl_Reading_words : Array (Option Value)} {oc_Reading_words kV_Reading_words dc_Reading_words pm_Reading_words cd_Reading_words ct_Reading_words : Value}
    {od_Reading_fields an_Reading_fields : Option Addr} {sl_Reading_fields : Array (Option Value)} {oc_Reading_fields kV_Reading_fields dc_Reading_fields pm_Reading_fields cd_Reading_fields ct_Reading_fields : Value}
    {od_Reading_read_frame an_Reading_read_frame : Option Addr} {sl_Reading_read_frame : Array (Option Value)} {oc_Reading_read_frame kV_Reading_read_frame dc_Reading_read_frame pm_Reading_read_frame cd_Reading_read_frame ct_Reading_read_frame : Value}
    {od_Reading_read_branch an_Reading_read_branch : Option Addr} {sl_Reading_read_branch : Array (Option Value)} {oc_Reading_read_branch kV_Reading_read_branch dc_Reading_read_branch pm_Reading_read_branch cd_Reading_read_branch ct_Reading_read_branch : Value}
    {od_Reading_read_statement an_Reading_read_statement : Option Addr} {sl_Reading_read_statement : Array (Option Value)} {oc_Reading_read_statement kV_Reading_read_statement dc_Reading_read_statement pm_Reading_read_statement cd_Reading_read_statement ct_Reading_read_statement : Value}
    {od_Reading_read_kind an_Reading_read_kind : Option Addr} {sl_Reading_read_kind : Array (Option Value)} {oc_Reading_read_kind kV_Reading_read_kind dc_Reading_read_kind pm_Reading_read_kind cd_Reading_read_kind ct_Reading_read_kind : Value}
    {ocGSYSTEM_ROW : Option Addr} {itGSYSTEM_ROW : Array Value} {nnGSYSTEM_ROW : Nat} {slGSYSTEM_ROW : Array (Option Value)}
    {ocGKIND_ROW : Option Addr} {itGKIND_ROW : Array Value} {nnGKIND_ROW : Nat} {slGKIND_ROW : Array (Option Value)}
    {esITEMS : Array DictEntry} {nnITEMS : Nat}
    (aTakeError : PySem.W.nsIn K mainGlobals "TakeError" = some (some (.ref C_TakeError)))
    (iTakeError : PySem.W.isClsIn K C_TakeError = true)
    (tTakeError : PySem.W.typeIn K (.ref C_TakeError) = some (.type "type"))
    (aBadScript : PySem.W.nsIn K mainGlobals "BadScript" = some (some (.ref C_BadScript)))
    (iBadScript : PySem.W.isClsIn K C_BadScript = true)
    (tBadScript : PySem.W.typeIn K (.ref C_BadScript) = some (.type "type"))
    (aBadSystem : PySem.W.nsIn K mainGlobals "BadSystem" = some (some (.ref C_BadSystem)))
    (iBadSystem : PySem.W.isClsIn K C_BadSystem = true)
    (tBadSystem : PySem.W.typeIn K (.ref C_BadSystem) = some (.type "type"))
    (aScript : PySem.W.nsIn K mainGlobals "Script" = some (some (.ref C_Script)))
    (pgScript : PySem.W.plainGet K C_Script Str.empty = true)
    (hdScript : PySem.W.hasDictIn K C_Script = true)
    (poScript : PySem.W.plainOver K C_Script = true)
    (saScript : PySem.W.findIn K (.ref C_Script) "__setattr__" = some (some (.builtin "object.__setattr__")))
    (mkScript : PySem.W.makesIn K C_Script = true)
    (kcScript : PySem.W.keepIn K (.ref C_Script) = true)
    (nScript_found : PySem.W.findIn K (.ref C_Script) "found" = some none)
    (nScript_places : PySem.W.findIn K (.ref C_Script) "places" = some none)
    (nScript_statements : PySem.W.findIn K (.ref C_Script) "statements" = some none)
    (aCheck : PySem.W.nsIn K mainGlobals "Check" = some (some (.ref C_Check)))
    (pgCheck : PySem.W.plainGet K C_Check Str.empty = true)
    (hdCheck : PySem.W.hasDictIn K C_Check = true)
    (poCheck : PySem.W.plainOver K C_Check = true)
    (saCheck : PySem.W.findIn K (.ref C_Check) "__setattr__" = some (some (.builtin "object.__setattr__")))
    (mkCheck : PySem.W.makesIn K C_Check = true)
    (kcCheck : PySem.W.keepIn K (.ref C_Check) = true)
    (nCheck_found : PySem.W.findIn K (.ref C_Check) "found" = some none)
    (aKind : PySem.W.nsIn K mainGlobals "Kind" = some (some (.ref C_Kind)))
    (pgKind : PySem.W.plainGet K C_Kind Str.empty = true)
    (hdKind : PySem.W.hasDictIn K C_Kind = true)
    (poKind : PySem.W.plainOver K C_Kind = true)
    (saKind : PySem.W.findIn K (.ref C_Kind) "__setattr__" = some (some (.builtin "object.__setattr__")))
    (mkKind : PySem.W.makesIn K C_Kind = true)
    (kcKind : PySem.W.keepIn K (.ref C_Kind) = true)
    (nKind_block : PySem.W.findIn K (.ref C_Kind) "block" = some none)
    (nKind_many : PySem.W.findIn K (.ref C_Kind) "many" = some none)
    (nKind_name : PySem.W.findIn K (.ref C_Kind) "name" = some none)
    (nKind_script : PySem.W.findIn K (.ref C_Kind) "script" = some none)
    (aSystem : PySem.W.nsIn K mainGlobals "System" = some (some (.ref C_System)))
    (pgSystem : PySem.W.plainGet K C_System Str.empty = true)
    (hdSystem : PySem.W.hasDictIn K C_System = true)
    (poSystem : PySem.W.plainOver K C_System = true)
    (saSystem : PySem.W.findIn K (.ref C_System) "__setattr__" = some (some (.builtin "object.__setattr__")))
    (mkSystem : PySem.W.makesIn K C_System = true)
    (kcSystem : PySem.W.keepIn K (.ref C_System) = true)
    (nSystem_ahead : PySem.W.findIn K (.ref C_System) "ahead" = some none)
    (nSystem_crashes : PySem.W.findIn K (.ref C_System) "crashes" = some none)
    (nSystem_kinds : PySem.W.findIn K (.ref C_System) "kinds" = some none)
    (nSystem_sessions : PySem.W.findIn K (.ref C_System) "sessions" = some none)
    (nSystem_window : PySem.W.findIn K (.ref C_System) "window" = some none)
    (aBadText : PySem.W.nsIn K mainGlobals "BadText" = some (some (.ref C_BadText)))
    (xBadText : K.lookup C_BadText = some (excClassObj nmBadText qBadText C_BadText NBadText bsBadText [.ref C_TakeError, .type "ValueError", .type "Exception", .type "BaseException", .type "object"] true snBadText sbBadText abBadText coBadText ddBadText m0BadText m1BadText m2BadText m3BadText m5BadText "ValueError.__new__"))
    (saBadText : PySem.W.findIn K (.ref C_BadText) "__setattr__" = some (some (.builtin "object.__setattr__")))
    (gaBadText : PySem.W.findIn K (.ref C_BadText) "__getattribute__" = some (some (.builtin "BaseException.__getattribute__")))
    (ggBadText : PySem.W.findIn K (.ref C_BadText) "__getattr__" = some none)
    (nfBadText : PySem.W.findIn K (.ref C_BadText) "line" = some none)
    (eBadText : PySem.W.subIn K (.ref C_BadText) (.type "BaseException") = some true)
    (tBadText : PySem.W.typeIn K (.ref C_BadText) = some (.type "type"))
    (hBadText : PySem.W.hasDictIn K C_BadText = true)
    (kcBadText : PySem.W.keepIn K (.ref C_BadText) = true)
    (caBadText : PySem.W.findIn K (.ref C_BadText) "__class__" = some (some (.builtin "object.__class__")))
    (obBadText : PySem.W.mroIn K C_BadText (.type "object") = some true)
    (iBadText : PySem.W.isClsIn K C_BadText = true)
    (sBadText_BadText : PySem.W.subIn K (.ref C_BadText) (.ref C_BadText) = some true)
    (sBadText_TakeError : PySem.W.subIn K (.ref C_BadText) (.ref C_TakeError) = some true)
    (dBadText_TakeError : (Value.ref C_BadText == Value.ref C_TakeError) = false)
    (sBadText_BadScript : PySem.W.subIn K (.ref C_BadText) (.ref C_BadScript) = some false)
    (dBadText_BadScript : (Value.ref C_BadText == Value.ref C_BadScript) = false)
    (sBadText_BadSystem : PySem.W.subIn K (.ref C_BadText) (.ref C_BadSystem) = some false)
    (dBadText_BadSystem : (Value.ref C_BadText == Value.ref C_BadSystem) = false)
    (aReading : PySem.W.nsIn K mainGlobals "Reading" = some (some (.ref C_Reading)))
    (pgReading : PySem.W.plainGet K C_Reading Str.empty = true)
    (hdReading : PySem.W.hasDictIn K C_Reading = true)
    (poReading : PySem.W.plainOver K C_Reading = true)
    (saReading : PySem.W.findIn K (.ref C_Reading) "__setattr__" = some (some (.builtin "object.__setattr__")))
    (mkReading : PySem.W.makesIn K C_Reading = true)
    (kcReading : PySem.W.keepIn K (.ref C_Reading) = true)
    (nReading_at : PySem.W.findIn K (.ref C_Reading) "at" = some none)
    (nReading_room : PySem.W.findIn K (.ref C_Reading) "room" = some none)
    (nReading_rows : PySem.W.findIn K (.ref C_Reading) "rows" = some none)
    (cn : PySem.W.specialIn K (.builtin "object.__class__") "__get__" = some (some (.builtin "getset_descriptor.__get__")))
    (ct : PySem.W.takesIn K (.builtin "object.__class__") = some true)
    (caScript : PySem.W.findIn K (.ref C_Script) "__class__" = some (some (.builtin "object.__class__")))
    (obScript : PySem.W.mroIn K C_Script (.type "object") = some true)
    (icScript : PySem.W.isClsIn K C_Script = true)
    (tcScript : PySem.W.typeIn K (.ref C_Script) = some (.type "type"))
    (uScript_tuple : PySem.W.subIn K (.type "tuple") (.ref C_Script) = some false)
    (caKind : PySem.W.findIn K (.ref C_Kind) "__class__" = some (some (.builtin "object.__class__")))
    (obKind : PySem.W.mroIn K C_Kind (.type "object") = some true)
    (icKind : PySem.W.isClsIn K C_Kind = true)
    (tcKind : PySem.W.typeIn K (.ref C_Kind) = some (.type "type"))
    (a_BadText___init__ : PySem.W.findIn K (.ref C_BadText) "__init__" = some (some (.ref f_BadText___init__)))
    (i_BadText___init__ : PySem.W.typeIn K (.ref f_BadText___init__) = some (.type "function"))
    (l_BadText___init__ : K.lookup f_BadText___init__ = some ⟨oc_BadText___init__, od_BadText___init__, .func (PySem.W.fnOf "__init__" "BadText.__init__" (defArgs s_BadText___init__) (defBody s_BadText___init__) (defScope s_BadText___init__) .none kV_BadText___init__ dc_BadText___init__ pm_BadText___init__ an_BadText___init__ cd_BadText___init__ ct_BadText___init__), sl_BadText___init__⟩)
    (c_BadText___init__ : PySem.W.codeIn K cd_BadText___init__ "BadText.__init__" = true)
    (k_BadText___init__ : PySem.W.keepIn K (.ref f_BadText___init__) = true)
    (a_is_integer : PySem.W.nsIn K mainGlobals "is_integer" = some (some (.ref f_is_integer)))
    (l_is_integer : K.lookup f_is_integer = some ⟨oc_is_integer, od_is_integer, .func (PySem.W.fnOf "is_integer" "is_integer" (defArgs s_is_integer) (defBody s_is_integer) (defScope s_is_integer) .none kV_is_integer dc_is_integer pm_is_integer an_is_integer cd_is_integer ct_is_integer), sl_is_integer⟩)
    (c_is_integer : PySem.W.codeIn K cd_is_integer "is_integer" = true)
    (k_is_integer : PySem.W.keepIn K (.ref f_is_integer) = true)
    (a_is_within : PySem.W.nsIn K mainGlobals "is_within" = some (some (.ref f_is_within)))
    (l_is_within : K.lookup f_is_within = some ⟨oc_is_within, od_is_within, .func (PySem.W.fnOf "is_within" "is_within" (defArgs s_is_within) (defBody s_is_within) (defScope s_is_within) .none kV_is_within dc_is_within pm_is_within an_is_within cd_is_within ct_is_within), sl_is_within⟩)
    (c_is_within : PySem.W.codeIn K cd_is_within "is_within" = true)
    (k_is_within : PySem.W.keepIn K (.ref f_is_within) = true)
    (a_is_name : PySem.W.nsIn K mainGlobals "is_name" = some (some (.ref f_is_name)))
    (l_is_name : K.lookup f_is_name = some ⟨oc_is_name, od_is_name, .func (PySem.W.fnOf "is_name" "is_name" (defArgs s_is_name) (defBody s_is_name) (defScope s_is_name) .none kV_is_name dc_is_name pm_is_name an_is_name cd_is_name ct_is_name), sl_is_name⟩)
    (c_is_name : PySem.W.codeIn K cd_is_name "is_name" = true)
    (k_is_name : PySem.W.keepIn K (.ref f_is_name) = true)
    (a_held_after : PySem.W.nsIn K mainGlobals "held_after" = some (some (.ref f_held_after)))
    (l_held_after : K.lookup f_held_after = some ⟨oc_held_after, od_held_after, .func (PySem.W.fnOf "held_after" "held_after" (defArgs s_held_after) (defBody s_held_after) (defScope s_held_after) .none kV_held_after dc_held_after pm_held_after an_held_after cd_held_after ct_held_after), sl_held_after⟩)
    (c_held_after : PySem.W.codeIn K cd_held_after "held_after" = true)
    (k_held_after : PySem.W.keepIn K (.ref f_held_after) = true)
    (a_has_form : PySem.W.nsIn K mainGlobals "has_form" = some (some (.ref f_has_form)))
    (l_has_form : K.lookup f_has_form = some ⟨oc_has_form, od_has_form, .func (PySem.W.fnOf "has_form" "has_form" (defArgs s_has_form) (defBody s_has_form) (defScope s_has_form) .none kV_has_form dc_has_form pm_has_form an_has_form cd_has_form ct_has_form), sl_has_form⟩)
    (c_has_form : PySem.W.codeIn K cd_has_form "has_form" = true)
    (k_has_form : PySem.W.keepIn K (.ref f_has_form) = true)
    (a_fault_of : PySem.W.nsIn K mainGlobals "fault_of" = some (some (.ref f_fault_of)))
    (l_fault_of : K.lookup f_fault_of = some ⟨oc_fault_of, od_fault_of, .func (PySem.W.fnOf "fault_of" "fault_of" (defArgs s_fault_of) (defBody s_fault_of) (defScope s_fault_of) .none kV_fault_of dc_fault_of pm_fault_of an_fault_of cd_fault_of ct_fault_of), sl_fault_of⟩)
    (c_fault_of : PySem.W.codeIn K cd_fault_of "fault_of" = true)
    (k_fault_of : PySem.W.keepIn K (.ref f_fault_of) = true)
    (a_answers_of : PySem.W.nsIn K mainGlobals "answers_of" = some (some (.ref f_answers_of)))
    (l_answers_of : K.lookup f_answers_of = some ⟨oc_answers_of, od_answers_of, .func (PySem.W.fnOf "answers_of" "answers_of" (defArgs s_answers_of) (defBody s_answers_of) (defScope s_answers_of) .none kV_answers_of dc_answers_of pm_answers_of an_answers_of cd_answers_of ct_answers_of), sl_answers_of⟩)
    (c_answers_of : PySem.W.codeIn K cd_answers_of "answers_of" = true)
    (k_answers_of : PySem.W.keepIn K (.ref f_answers_of) = true)
    (a_is_answer : PySem.W.nsIn K mainGlobals "is_answer" = some (some (.ref f_is_answer)))
    (l_is_answer : K.lookup f_is_answer = some ⟨oc_is_answer, od_is_answer, .func (PySem.W.fnOf "is_answer" "is_answer" (defArgs s_is_answer) (defBody s_is_answer) (defScope s_is_answer) .none kV_is_answer dc_is_answer pm_is_answer an_is_answer cd_is_answer ct_is_answer), sl_is_answer⟩)
    (c_is_answer : PySem.W.codeIn K cd_is_answer "is_answer" = true)
    (k_is_answer : PySem.W.keepIn K (.ref f_is_answer) = true)
    (a_script_of : PySem.W.nsIn K mainGlobals "script_of" = some (some (.ref f_script_of)))
    (l_script_of : K.lookup f_script_of = some ⟨oc_script_of, od_script_of, .func (PySem.W.fnOf "script_of" "script_of" (defArgs s_script_of) (defBody s_script_of) (defScope s_script_of) .none kV_script_of dc_script_of pm_script_of an_script_of cd_script_of ct_script_of), sl_script_of⟩)
    (c_script_of : PySem.W.codeIn K cd_script_of "script_of" = true)
    (k_script_of : PySem.W.keepIn K (.ref f_script_of) = true)
    (a_count_of_sessions : PySem.W.nsIn K mainGlobals "count_of_sessions" = some (some (.ref f_count_of_sessions)))
    (l_count_of_sessions : K.lookup f_count_of_sessions = some ⟨oc_count_of_sessions, od_count_of_sessions, .func (PySem.W.fnOf "count_of_sessions" "count_of_sessions" (defArgs s_count_of_sessions) (defBody s_count_of_sessions) (defScope s_count_of_sessions) .none kV_count_of_sessions dc_count_of_sessions pm_count_of_sessions an_count_of_sessions cd_count_of_sessions ct_count_of_sessions), sl_count_of_sessions⟩)
    (c_count_of_sessions : PySem.W.codeIn K cd_count_of_sessions "count_of_sessions" = true)
    (k_count_of_sessions : PySem.W.keepIn K (.ref f_count_of_sessions) = true)
    (a_are_kinds : PySem.W.nsIn K mainGlobals "are_kinds" = some (some (.ref f_are_kinds)))
    (l_are_kinds : K.lookup f_are_kinds = some ⟨oc_are_kinds, od_are_kinds, .func (PySem.W.fnOf "are_kinds" "are_kinds" (defArgs s_are_kinds) (defBody s_are_kinds) (defScope s_are_kinds) .none kV_are_kinds dc_are_kinds pm_are_kinds an_are_kinds cd_are_kinds ct_are_kinds), sl_are_kinds⟩)
    (c_are_kinds : PySem.W.codeIn K cd_are_kinds "are_kinds" = true)
    (k_are_kinds : PySem.W.keepIn K (.ref f_are_kinds) = true)
    (a_fault_of_system : PySem.W.nsIn K mainGlobals "fault_of_system" = some (some (.ref f_fault_of_system)))
    (l_fault_of_system : K.lookup f_fault_of_system = some ⟨oc_fault_of_system, od_fault_of_system, .func (PySem.W.fnOf "fault_of_system" "fault_of_system" (defArgs s_fault_of_system) (defBody s_fault_of_system) (defScope s_fault_of_system) .none kV_fault_of_system dc_fault_of_system pm_fault_of_system an_fault_of_system cd_fault_of_system ct_fault_of_system), sl_fault_of_system⟩)
    (c_fault_of_system : PySem.W.codeIn K cd_fault_of_system "fault_of_system" = true)
    (k_fault_of_system : PySem.W.keepIn K (.ref f_fault_of_system) = true)
    (a_indented : PySem.W.nsIn K mainGlobals "indented" = some (some (.ref f_indented)))
    (l_indented : K.lookup f_indented = some ⟨oc_indented, od_indented, .func (PySem.W.fnOf "indented" "indented" (defArgs s_indented) (defBody s_indented) (defScope s_indented) .none kV_indented dc_indented pm_indented an_indented cd_indented ct_indented), sl_indented⟩)
    (c_indented : PySem.W.codeIn K cd_indented "indented" = true)
    (k_indented : PySem.W.keepIn K (.ref f_indented) = true)
    (a_rows_of : PySem.W.nsIn K mainGlobals "rows_of" = some (some (.ref f_rows_of)))
    (l_rows_of : K.lookup f_rows_of = some ⟨oc_rows_of, od_rows_of, .func (PySem.W.fnOf "rows_of" "rows_of" (defArgs s_rows_of) (defBody s_rows_of) (defScope s_rows_of) .none kV_rows_of dc_rows_of pm_rows_of an_rows_of cd_rows_of ct_rows_of), sl_rows_of⟩)
    (c_rows_of : PySem.W.codeIn K cd_rows_of "rows_of" = true)
    (k_rows_of : PySem.W.keepIn K (.ref f_rows_of) = true)
    (a_write_system : PySem.W.nsIn K mainGlobals "write_system" = some (some (.ref f_write_system)))
    (l_write_system : K.lookup f_write_system = some ⟨oc_write_system, od_write_system, .func (PySem.W.fnOf "write_system" "write_system" (defArgs s_write_system) (defBody s_write_system) (defScope s_write_system) .none kV_write_system dc_write_system pm_write_system an_write_system cd_write_system ct_write_system), sl_write_system⟩)
    (c_write_system : PySem.W.codeIn K cd_write_system "write_system" = true)
    (k_write_system : PySem.W.keepIn K (.ref f_write_system) = true)
    (a_shortest_kind : PySem.W.nsIn K mainGlobals "shortest_kind" = some (some (.ref f_shortest_kind)))
    (l_shortest_kind : K.lookup f_shortest_kind = some ⟨oc_shortest_kind, od_shortest_kind, .func (PySem.W.fnOf "shortest_kind" "shortest_kind" (defArgs s_shortest_kind) (defBody s_shortest_kind) (defScope s_shortest_kind) .none kV_shortest_kind dc_shortest_kind pm_shortest_kind an_shortest_kind cd_shortest_kind ct_shortest_kind), sl_shortest_kind⟩)
    (c_shortest_kind : PySem.W.codeIn K cd_shortest_kind "shortest_kind" = true)
    (k_shortest_kind : PySem.W.keepIn K (.ref f_shortest_kind) = true)
    (a_with_kinds : PySem.W.nsIn K mainGlobals "with_kinds" = some (some (.ref f_with_kinds)))
    (l_with_kinds : K.lookup f_with_kinds = some ⟨oc_with_kinds, od_with_kinds, .func (PySem.W.fnOf "with_kinds" "with_kinds" (defArgs s_with_kinds) (defBody s_with_kinds) (defScope s_with_kinds) .none kV_with_kinds dc_with_kinds pm_with_kinds an_with_kinds cd_with_kinds ct_with_kinds), sl_with_kinds⟩)
    (c_with_kinds : PySem.W.codeIn K cd_with_kinds "with_kinds" = true)
    (k_with_kinds : PySem.W.keepIn K (.ref f_with_kinds) = true)
    (a_digit_of : PySem.W.nsIn K mainGlobals "digit_of" = some (some (.ref f_digit_of)))
    (l_digit_of : K.lookup f_digit_of = some ⟨oc_digit_of, od_digit_of, .func (PySem.W.fnOf "digit_of" "digit_of" (defArgs s_digit_of) (defBody s_digit_of) (defScope s_digit_of) .none kV_digit_of dc_digit_of pm_digit_of an_digit_of cd_digit_of ct_digit_of), sl_digit_of⟩)
    (c_digit_of : PySem.W.codeIn K cd_digit_of "digit_of" = true)
    (k_digit_of : PySem.W.keepIn K (.ref f_digit_of) = true)
    (a_read_system : PySem.W.nsIn K mainGlobals "read_system" = some (some (.ref f_read_system)))
    (l_read_system : K.lookup f_read_system = some ⟨oc_read_system, od_read_system, .func (PySem.W.fnOf "read_system" "read_system" (defArgs s_read_system) (defBody s_read_system) (defScope s_read_system) .none kV_read_system dc_read_system pm_read_system an_read_system cd_read_system ct_read_system), sl_read_system⟩)
    (c_read_system : PySem.W.codeIn K cd_read_system "read_system" = true)
    (k_read_system : PySem.W.keepIn K (.ref f_read_system) = true)
    (a__law_box : PySem.W.nsIn K mainGlobals "_law_box" = some (some (.ref f__law_box)))
    (l__law_box : K.lookup f__law_box = some ⟨oc__law_box, od__law_box, .func (PySem.W.fnOf "_law_box" "_law_box" (defArgs s__law_box) (defBody s__law_box) (defScope s__law_box) .none kV__law_box dc__law_box pm__law_box an__law_box cd__law_box ct__law_box), sl__law_box⟩)
    (c__law_box : PySem.W.codeIn K cd__law_box "_law_box" = true)
    (k__law_box : PySem.W.keepIn K (.ref f__law_box) = true)
    (a__law_pick : PySem.W.nsIn K mainGlobals "_law_pick" = some (some (.ref f__law_pick)))
    (l__law_pick : K.lookup f__law_pick = some ⟨oc__law_pick, od__law_pick, .func (PySem.W.fnOf "_law_pick" "_law_pick" (defArgs s__law_pick) (defBody s__law_pick) (defScope s__law_pick) .none kV__law_pick dc__law_pick pm__law_pick an__law_pick cd__law_pick ct__law_pick), sl__law_pick⟩)
    (c__law_pick : PySem.W.codeIn K cd__law_pick "_law_pick" = true)
    (k__law_pick : PySem.W.keepIn K (.ref f__law_pick) = true)
    (a__law_found : PySem.W.nsIn K mainGlobals "_law_found" = some (some (.ref f__law_found)))
    (l__law_found : K.lookup f__law_found = some ⟨oc__law_found, od__law_found, .func (PySem.W.fnOf "_law_found" "_law_found" (defArgs s__law_found) (defBody s__law_found) (defScope s__law_found) .none kV__law_found dc__law_found pm__law_found an__law_found cd__law_found ct__law_found), sl__law_found⟩)
    (c__law_found : PySem.W.codeIn K cd__law_found "_law_found" = true)
    (k__law_found : PySem.W.keepIn K (.ref f__law_found) = true)
    (a__law_joined : PySem.W.nsIn K mainGlobals "_law_joined" = some (some (.ref f__law_joined)))
    (l__law_joined : K.lookup f__law_joined = some ⟨oc__law_joined, od__law_joined, .func (PySem.W.fnOf "_law_joined" "_law_joined" (defArgs s__law_joined) (defBody s__law_joined) (defScope s__law_joined) .none kV__law_joined dc__law_joined pm__law_joined an__law_joined cd__law_joined ct__law_joined), sl__law_joined⟩)
    (c__law_joined : PySem.W.codeIn K cd__law_joined "_law_joined" = true)
    (k__law_joined : PySem.W.keepIn K (.ref f__law_joined) = true)
    (a__law_deep : PySem.W.nsIn K mainGlobals "_law_deep" = some (some (.ref f__law_deep)))
    (l__law_deep : K.lookup f__law_deep = some ⟨oc__law_deep, od__law_deep, .func (PySem.W.fnOf "_law_deep" "_law_deep" (defArgs s__law_deep) (defBody s__law_deep) (defScope s__law_deep) .none kV__law_deep dc__law_deep pm__law_deep an__law_deep cd__law_deep ct__law_deep), sl__law_deep⟩)
    (c__law_deep : PySem.W.codeIn K cd__law_deep "_law_deep" = true)
    (k__law_deep : PySem.W.keepIn K (.ref f__law_deep) = true)
    (a__law_full : PySem.W.nsIn K mainGlobals "_law_full" = some (some (.ref f__law_full)))
    (l__law_full : K.lookup f__law_full = some ⟨oc__law_full, od__law_full, .func (PySem.W.fnOf "_law_full" "_law_full" (defArgs s__law_full) (defBody s__law_full) (defScope s__law_full) .none kV__law_full dc__law_full pm__law_full an__law_full cd__law_full ct__law_full), sl__law_full⟩)
    (c__law_full : PySem.W.codeIn K cd__law_full "_law_full" = true)
    (k__law_full : PySem.W.keepIn K (.ref f__law_full) = true)
    (a__law_long : PySem.W.nsIn K mainGlobals "_law_long" = some (some (.ref f__law_long)))
    (l__law_long : K.lookup f__law_long = some ⟨oc__law_long, od__law_long, .func (PySem.W.fnOf "_law_long" "_law_long" (defArgs s__law_long) (defBody s__law_long) (defScope s__law_long) .none kV__law_long dc__law_long pm__law_long an__law_long cd__law_long ct__law_long), sl__law_long⟩)
    (c__law_long : PySem.W.codeIn K cd__law_long "_law_long" = true)
    (k__law_long : PySem.W.keepIn K (.ref f__law_long) = true)
    (a__law_pairs : PySem.W.nsIn K mainGlobals "_law_pairs" = some (some (.ref f__law_pairs)))
    (l__law_pairs : K.lookup f__law_pairs = some ⟨oc__law_pairs, od__law_pairs, .func (PySem.W.fnOf "_law_pairs" "_law_pairs" (defArgs s__law_pairs) (defBody s__law_pairs) (defScope s__law_pairs) .none kV__law_pairs dc__law_pairs pm__law_pairs an__law_pairs cd__law_pairs ct__law_pairs), sl__law_pairs⟩)
    (c__law_pairs : PySem.W.codeIn K cd__law_pairs "_law_pairs" = true)
    (k__law_pairs : PySem.W.keepIn K (.ref f__law_pairs) = true)
    (a__law_names : PySem.W.nsIn K mainGlobals "_law_names" = some (some (.ref f__law_names)))
    (l__law_names : K.lookup f__law_names = some ⟨oc__law_names, od__law_names, .func (PySem.W.fnOf "_law_names" "_law_names" (defArgs s__law_names) (defBody s__law_names) (defScope s__law_names) .none kV__law_names dc__law_names pm__law_names an__law_names cd__law_names ct__law_names), sl__law_names⟩)
    (c__law_names : PySem.W.codeIn K cd__law_names "_law_names" = true)
    (k__law_names : PySem.W.keepIn K (.ref f__law_names) = true)
    (a_law : PySem.W.nsIn K mainGlobals "law" = some (some (.ref f_law)))
    (l_law : K.lookup f_law = some ⟨oc_law, od_law, .func (PySem.W.fnOf "law" "law" (defArgs s_law) (defBody s_law) (defScope s_law) .none kV_law dc_law pm_law an_law cd_law ct_law), sl_law⟩)
    (c_law : PySem.W.codeIn K cd_law "law" = true)
    (k_law : PySem.W.keepIn K (.ref f_law) = true)
    (a_Check___init__ : PySem.W.findIn K (.ref C_Check) "__init__" = some (some (.ref f_Check___init__)))
    (i_Check___init__ : PySem.W.isFn K (.ref f_Check___init__) = true)
    (l_Check___init__ : K.lookup f_Check___init__ = some ⟨oc_Check___init__, od_Check___init__, .func (PySem.W.fnOf "__init__" "Check.__init__" (defArgs s_Check___init__) (defBody s_Check___init__) (defScope s_Check___init__) .none kV_Check___init__ dc_Check___init__ pm_Check___init__ an_Check___init__ cd_Check___init__ ct_Check___init__), sl_Check___init__⟩)
    (c_Check___init__ : PySem.W.codeIn K cd_Check___init__ "Check.__init__" = true)
    (k_Check___init__ : PySem.W.keepIn K (.ref f_Check___init__) = true)
    (a_Check_check_branch : PySem.W.findIn K (.ref C_Check) "check_branch" = some (some (.ref f_Check_check_branch)))
    (i_Check_check_branch : PySem.W.isFn K (.ref f_Check_check_branch) = true)
    (l_Check_check_branch : K.lookup f_Check_check_branch = some ⟨oc_Check_check_branch, od_Check_check_branch, .func (PySem.W.fnOf "check_branch" "Check.check_branch" (defArgs s_Check_check_branch) (defBody s_Check_check_branch) (defScope s_Check_check_branch) .none kV_Check_check_branch dc_Check_check_branch pm_Check_check_branch an_Check_check_branch cd_Check_check_branch ct_Check_check_branch), sl_Check_check_branch⟩)
    (c_Check_check_branch : PySem.W.codeIn K cd_Check_check_branch "Check.check_branch" = true)
    (k_Check_check_branch : PySem.W.keepIn K (.ref f_Check_check_branch) = true)
    (a_Check_check_statement : PySem.W.findIn K (.ref C_Check) "check_statement" = some (some (.ref f_Check_check_statement)))
    (i_Check_check_statement : PySem.W.isFn K (.ref f_Check_check_statement) = true)
    (l_Check_check_statement : K.lookup f_Check_check_statement = some ⟨oc_Check_check_statement, od_Check_check_statement, .func (PySem.W.fnOf "check_statement" "Check.check_statement" (defArgs s_Check_check_statement) (defBody s_Check_check_statement) (defScope s_Check_check_statement) .none kV_Check_check_statement dc_Check_check_statement pm_Check_check_statement an_Check_check_statement cd_Check_check_statement ct_Check_check_statement), sl_Check_check_statement⟩)
    (c_Check_check_statement : PySem.W.codeIn K cd_Check_check_statement "Check.check_statement" = true)
    (k_Check_check_statement : PySem.W.keepIn K (.ref f_Check_check_statement) = true)
    (a_Script___init__ : PySem.W.findIn K (.ref C_Script) "__init__" = some (some (.ref f_Script___init__)))
    (i_Script___init__ : PySem.W.isFn K (.ref f_Script___init__) = true)
    (l_Script___init__ : K.lookup f_Script___init__ = some ⟨oc_Script___init__, od_Script___init__, .func (PySem.W.fnOf "__init__" "Script.__init__" (defArgs s_Script___init__) (defBody s_Script___init__) (defScope s_Script___init__) .none kV_Script___init__ dc_Script___init__ pm_Script___init__ an_Script___init__ cd_Script___init__ ct_Script___init__), sl_Script___init__⟩)
    (c_Script___init__ : PySem.W.codeIn K cd_Script___init__ "Script.__init__" = true)
    (k_Script___init__ : PySem.W.keepIn K (.ref f_Script___init__) = true)
    (a_Script___len__ : PySem.W.findIn K (.ref C_Script) "__len__" = some (some (.ref f_Script___len__)))
    (i_Script___len__ : PySem.W.isFn K (.ref f_Script___len__) = true)
    (l_Script___len__ : K.lookup f_Script___len__ = some ⟨oc_Script___len__, od_Script___len__, .func (PySem.W.fnOf "__len__" "Script.__len__" (defArgs s_Script___len__) (defBody s_Script___len__) (defScope s_Script___len__) .none kV_Script___len__ dc_Script___len__ pm_Script___len__ an_Script___len__ cd_Script___len__ ct_Script___len__), sl_Script___len__⟩)
    (c_Script___len__ : PySem.W.codeIn K cd_Script___len__ "Script.__len__" = true)
    (k_Script___len__ : PySem.W.keepIn K (.ref f_Script___len__) = true)
    (fg_Script___len__ : PySem.W.fnIn K f_Script___len__ = true)
    (a_Script___contains__ : PySem.W.findIn K (.ref C_Script) "__contains__" = some (some (.ref f_Script___contains__)))
    (i_Script___contains__ : PySem.W.isFn K (.ref f_Script___contains__) = true)
    (l_Script___contains__ : K.lookup f_Script___contains__ = some ⟨oc_Script___contains__, od_Script___contains__, .func (PySem.W.fnOf "__contains__" "Script.__contains__" (defArgs s_Script___contains__) (defBody s_Script___contains__) (defScope s_Script___contains__) .none kV_Script___contains__ dc_Script___contains__ pm_Script___contains__ an_Script___contains__ cd_Script___contains__ ct_Script___contains__), sl_Script___contains__⟩)
    (c_Script___contains__ : PySem.W.codeIn K cd_Script___contains__ "Script.__contains__" = true)
    (k_Script___contains__ : PySem.W.keepIn K (.ref f_Script___contains__) = true)
    (fg_Script___contains__ : PySem.W.fnIn K f_Script___contains__ = true)
    (a_Script___getitem__ : PySem.W.findIn K (.ref C_Script) "__getitem__" = some (some (.ref f_Script___getitem__)))
    (i_Script___getitem__ : PySem.W.isFn K (.ref f_Script___getitem__) = true)
    (l_Script___getitem__ : K.lookup f_Script___getitem__ = some ⟨oc_Script___getitem__, od_Script___getitem__, .func (PySem.W.fnOf "__getitem__" "Script.__getitem__" (defArgs s_Script___getitem__) (defBody s_Script___getitem__) (defScope s_Script___getitem__) .none kV_Script___getitem__ dc_Script___getitem__ pm_Script___getitem__ an_Script___getitem__ cd_Script___getitem__ ct_Script___getitem__), sl_Script___getitem__⟩)
    (c_Script___getitem__ : PySem.W.codeIn K cd_Script___getitem__ "Script.__getitem__" = true)
    (k_Script___getitem__ : PySem.W.keepIn K (.ref f_Script___getitem__) = true)
    (fg_Script___getitem__ : PySem.W.fnIn K f_Script___getitem__ = true)
    (a_Script_behind : PySem.W.findIn K (.ref C_Script) "behind" = some (some (.ref f_Script_behind)))
    (i_Script_behind : PySem.W.isFn K (.ref f_Script_behind) = true)
    (l_Script_behind : K.lookup f_Script_behind = some ⟨oc_Script_behind, od_Script_behind, .func (PySem.W.fnOf "behind" "Script.behind" (defArgs s_Script_behind) (defBody s_Script_behind) (defScope s_Script_behind) .none kV_Script_behind dc_Script_behind pm_Script_behind an_Script_behind cd_Script_behind ct_Script_behind), sl_Script_behind⟩)
    (c_Script_behind : PySem.W.codeIn K cd_Script_behind "Script.behind" = true)
    (k_Script_behind : PySem.W.keepIn K (.ref f_Script_behind) = true)
    (a_Script_after : PySem.W.findIn K (.ref C_Script) "after" = some (some (.ref f_Script_after)))
    (i_Script_after : PySem.W.isFn K (.ref f_Script_after) = true)
    (l_Script_after : K.lookup f_Script_after = some ⟨oc_Script_after, od_Script_after, .func (PySem.W.fnOf "after" "Script.after" (defArgs s_Script_after) (defBody s_Script_after) (defScope s_Script_after) (.ref TD_Script_after) kV_Script_after dc_Script_after pm_Script_after an_Script_after cd_Script_after ct_Script_after), sl_Script_after⟩)
    (c_Script_after : PySem.W.codeIn K cd_Script_after "Script.after" = true)
    (k_Script_after : PySem.W.keepIn K (.ref f_Script_after) = true)
    (lT_Script_after : K.lookup TD_Script_after = some ⟨cTScript_after, dTScript_after, .seq [.int 0 tTScript_after_0].toArray nTScript_after, slTScript_after⟩)
    (a_Kind___init__ : PySem.W.findIn K (.ref C_Kind) "__init__" = some (some (.ref f_Kind___init__)))
    (i_Kind___init__ : PySem.W.isFn K (.ref f_Kind___init__) = true)
    (l_Kind___init__ : K.lookup f_Kind___init__ = some ⟨oc_Kind___init__, od_Kind___init__, .func (PySem.W.fnOf "__init__" "Kind.__init__" (defArgs s_Kind___init__) (defBody s_Kind___init__) (defScope s_Kind___init__) .none (.ref KD_Kind) dc_Kind___init__ pm_Kind___init__ an_Kind___init__ cd_Kind___init__ ct_Kind___init__), sl_Kind___init__⟩)
    (c_Kind___init__ : PySem.W.codeIn K cd_Kind___init__ "Kind.__init__" = true)
    (k_Kind___init__ : PySem.W.keepIn K (.ref f_Kind___init__) = true)
    (a_System___init__ : PySem.W.findIn K (.ref C_System) "__init__" = some (some (.ref f_System___init__)))
    (i_System___init__ : PySem.W.isFn K (.ref f_System___init__) = true)
    (l_System___init__ : K.lookup f_System___init__ = some ⟨oc_System___init__, od_System___init__, .func (PySem.W.fnOf "__init__" "System.__init__" (defArgs s_System___init__) (defBody s_System___init__) (defScope s_System___init__) .none (.ref KD_System) dc_System___init__ pm_System___init__ an_System___init__ cd_System___init__ ct_System___init__), sl_System___init__⟩)
    (c_System___init__ : PySem.W.codeIn K cd_System___init__ "System.__init__" = true)
    (k_System___init__ : PySem.W.keepIn K (.ref f_System___init__) = true)
    (a_System___getitem__ : PySem.W.findIn K (.ref C_System) "__getitem__" = some (some (.ref f_System___getitem__)))
    (i_System___getitem__ : PySem.W.isFn K (.ref f_System___getitem__) = true)
    (l_System___getitem__ : K.lookup f_System___getitem__ = some ⟨oc_System___getitem__, od_System___getitem__, .func (PySem.W.fnOf "__getitem__" "System.__getitem__" (defArgs s_System___getitem__) (defBody s_System___getitem__) (defScope s_System___getitem__) .none kV_System___getitem__ dc_System___getitem__ pm_System___getitem__ an_System___getitem__ cd_System___getitem__ ct_System___getitem__), sl_System___getitem__⟩)
    (c_System___getitem__ : PySem.W.codeIn K cd_System___getitem__ "System.__getitem__" = true)
    (k_System___getitem__ : PySem.W.keepIn K (.ref f_System___getitem__) = true)
    (fg_System___getitem__ : PySem.W.fnIn K f_System___getitem__ = true)
    (a_Reading___init__ : PySem.W.findIn K (.ref C_Reading) "__init__" = some (some (.ref f_Reading___init__)))
    (i_Reading___init__ : PySem.W.isFn K (.ref f_Reading___init__) = true)
    (l_Reading___init__ : K.lookup f_Reading___init__ = some ⟨oc_Reading___init__, od_Reading___init__, .func (PySem.W.fnOf "__init__" "Reading.__init__" (defArgs s_Reading___init__) (defBody s_Reading___init__) (defScope s_Reading___init__) .none kV_Reading___init__ dc_Reading___init__ pm_Reading___init__ an_Reading___init__ cd_Reading___init__ ct_Reading___init__), sl_Reading___init__⟩)
    (c_Reading___init__ : PySem.W.codeIn K cd_Reading___init__ "Reading.__init__" = true)
    (k_Reading___init__ : PySem.W.keepIn K (.ref f_Reading___init__) = true)
    (a_Reading_words : PySem.W.findIn K (.ref C_Reading) "words" = some (some (.ref f_Reading_words)))
    (i_Reading_words : PySem.W.isFn K (.ref f_Reading_words) = true)
    (l_Reading_words : K.lookup f_Reading_words = some ⟨oc_Reading_words, od_Reading_words, .func (PySem.W.fnOf "words" "Reading.words" (defArgs s_Reading_words) (defBody s_Reading_words) (defScope s_Reading_words) .none kV_Reading_words dc_Reading_words pm_Reading_words an_Reading_words cd_Reading_words ct_Reading_words), sl_Reading_words⟩)
    (c_Reading_words : PySem.W.codeIn K cd_Reading_words "Reading.words" = true)
    (k_Reading_words : PySem.W.keepIn K (.ref f_Reading_words) = true)
    (a_Reading_fields : PySem.W.findIn K (.ref C_Reading) "fields" = some (some (.ref f_Reading_fields)))
    (i_Reading_fields : PySem.W.isFn K (.ref f_Reading_fields) = true)
    (l_Reading_fields : K.lookup f_Reading_fields = some ⟨oc_Reading_fields, od_Reading_fields, .func (PySem.W.fnOf "fields" "Reading.fields" (defArgs s_Reading_fields) (defBody s_Reading_fields) (defScope s_Reading_fields) .none kV_Reading_fields dc_Reading_fields pm_Reading_fields an_Reading_fields cd_Reading_fields ct_Reading_fields), sl_Reading_fields⟩)
    (c_Reading_fields : PySem.W.codeIn K cd_Reading_fields "Reading.fields" = true)
    (k_Reading_fields : PySem.W.keepIn K (.ref f_Reading_fields) = true)
    (a_Reading_read_frame : PySem.W.findIn K (.ref C_Reading) "read_frame" = some (some (.ref f_Reading_read_frame)))
    (i_Reading_read_frame : PySem.W.isFn K (.ref f_Reading_read_frame) = true)
    (l_Reading_read_frame : K.lookup f_Reading_read_frame = some ⟨oc_Reading_read_frame, od_Reading_read_frame, .func (PySem.W.fnOf "read_frame" "Reading.read_frame" (defArgs s_Reading_read_frame) (defBody s_Reading_read_frame) (defScope s_Reading_read_frame) .none kV_Reading_read_frame dc_Reading_read_frame pm_Reading_read_frame an_Reading_read_frame cd_Reading_read_frame ct_Reading_read_frame), sl_Reading_read_frame⟩)
    (c_Reading_read_frame : PySem.W.codeIn K cd_Reading_read_frame "Reading.read_frame" = true)
    (k_Reading_read_frame : PySem.W.keepIn K (.ref f_Reading_read_frame) = true)
    (a_Reading_read_branch : PySem.W.findIn K (.ref C_Reading) "read_branch" = some (some (.ref f_Reading_read_branch)))
    (i_Reading_read_branch : PySem.W.isFn K (.ref f_Reading_read_branch) = true)
    (l_Reading_read_branch : K.lookup f_Reading_read_branch = some ⟨oc_Reading_read_branch, od_Reading_read_branch, .func (PySem.W.fnOf "read_branch" "Reading.read_branch" (defArgs s_Reading_read_branch) (defBody s_Reading_read_branch) (defScope s_Reading_read_branch) .none kV_Reading_read_branch dc_Reading_read_branch pm_Reading_read_branch an_Reading_read_branch cd_Reading_read_branch ct_Reading_read_branch), sl_Reading_read_branch⟩)
    (c_Reading_read_branch : PySem.W.codeIn K cd_Reading_read_branch "Reading.read_branch" = true)
    (k_Reading_read_branch : PySem.W.keepIn K (.ref f_Reading_read_branch) = true)
    (a_Reading_read_statement : PySem.W.findIn K (.ref C_Reading) "read_statement" = some (some (.ref f_Reading_read_statement)))
    (i_Reading_read_statement : PySem.W.isFn K (.ref f_Reading_read_statement) = true)
    (l_Reading_read_statement : K.lookup f_Reading_read_statement = some ⟨oc_Reading_read_statement, od_Reading_read_statement, .func (PySem.W.fnOf "read_statement" "Reading.read_statement" (defArgs s_Reading_read_statement) (defBody s_Reading_read_statement) (defScope s_Reading_read_statement) .none kV_Reading_read_statement dc_Reading_read_statement pm_Reading_read_statement an_Reading_read_statement cd_Reading_read_statement ct_Reading_read_statement), sl_Reading_read_statement⟩)
    (c_Reading_read_statement : PySem.W.codeIn K cd_Reading_read_statement "Reading.read_statement" = true)
    (k_Reading_read_statement : PySem.W.keepIn K (.ref f_Reading_read_statement) = true)
    (a_Reading_read_kind : PySem.W.findIn K (.ref C_Reading) "read_kind" = some (some (.ref f_Reading_read_kind)))
    (i_Reading_read_kind : PySem.W.isFn K (.ref f_Reading_read_kind) = true)
    (l_Reading_read_kind : K.lookup f_Reading_read_kind = some ⟨oc_Reading_read_kind, od_Reading_read_kind, .func (PySem.W.fnOf "read_kind" "Reading.read_kind" (defArgs s_Reading_read_kind) (defBody s_Reading_read_kind) (defScope s_Reading_read_kind) .none kV_Reading_read_kind dc_Reading_read_kind pm_Reading_read_kind an_Reading_read_kind cd_Reading_read_kind ct_Reading_read_kind), sl_Reading_read_kind⟩)
    (c_Reading_read_kind : PySem.W.codeIn K cd_Reading_read_kind "Reading.read_kind" = true)
    (k_Reading_read_kind : PySem.W.keepIn K (.ref f_Reading_read_kind) = true)
    (kdKind_block : PySem.W.nsIn K KD_Kind "block" = some (some (.int (1) tkKind_block)))
    (kdKind_many : PySem.W.nsIn K KD_Kind "many" = some (some (.int (1) tkKind_many)))
    (kdSystem_ahead : PySem.W.nsIn K KD_System "ahead" = some (some (.int (0) tkSystem_ahead)))
    (kdSystem_window : PySem.W.nsIn K KD_System "window" = some (some .none))
    (kdSystem_crashes : PySem.W.nsIn K KD_System "crashes" = some (some (.int (0) tkSystem_crashes)))
    (z_all : PySem.W.nsIn K mainGlobals "all" = some none)
    (z_any : PySem.W.nsIn K mainGlobals "any" = some none)
    (z_bool : PySem.W.nsIn K mainGlobals "bool" = some none)
    (z_enumerate : PySem.W.nsIn K mainGlobals "enumerate" = some none)
    (z_int : PySem.W.nsIn K mainGlobals "int" = some none)
    (z_isinstance : PySem.W.nsIn K mainGlobals "isinstance" = some none)
    (z_len : PySem.W.nsIn K mainGlobals "len" = some none)
    (z_list : PySem.W.nsIn K mainGlobals "list" = some none)
    (z_max : PySem.W.nsIn K mainGlobals "max" = some none)
    (z_range : PySem.W.nsIn K mainGlobals "range" = some none)
    (z_set : PySem.W.nsIn K mainGlobals "set" = some none)
    (z_str : PySem.W.nsIn K mainGlobals "str" = some none)
    (z_sum : PySem.W.nsIn K mainGlobals "sum" = some none)
    (z_tuple : PySem.W.nsIn K mainGlobals "tuple" = some none)
    (z_zip : PySem.W.nsIn K mainGlobals "zip" = some none)
    (v_DIGITS : PySem.W.nsIn K mainGlobals "DIGITS" = some (some (.str "0123456789" t_DIGITS)))
    (v_LONGEST_NAME : PySem.W.nsIn K mainGlobals "LONGEST_NAME" = some (some (.int 8 t_LONGEST_NAME)))
    (v_LONGEST_OF_MANY : PySem.W.nsIn K mainGlobals "LONGEST_OF_MANY" = some (some (.int 4 t_LONGEST_OF_MANY)))
    (v_MOST_AHEAD : PySem.W.nsIn K mainGlobals "MOST_AHEAD" = some (some (.int 4 t_MOST_AHEAD)))
    (v_MOST_BLOCK : PySem.W.nsIn K mainGlobals "MOST_BLOCK" = some (some (.int 3 t_MOST_BLOCK)))
    (v_MOST_CRASHES : PySem.W.nsIn K mainGlobals "MOST_CRASHES" = some (some (.int 2 t_MOST_CRASHES)))
    (v_MOST_HELD : PySem.W.nsIn K mainGlobals "MOST_HELD" = some (some (.int 3 t_MOST_HELD)))
    (v_MOST_NESTED : PySem.W.nsIn K mainGlobals "MOST_NESTED" = some (some (.int 2 t_MOST_NESTED)))
    (v_MOST_SESSIONS : PySem.W.nsIn K mainGlobals "MOST_SESSIONS" = some (some (.int 3 t_MOST_SESSIONS)))
    (v_MOST_STATEMENTS : PySem.W.nsIn K mainGlobals "MOST_STATEMENTS" = some (some (.int 8 t_MOST_STATEMENTS)))
    (v_MOST_WINDOW : PySem.W.nsIn K mainGlobals "MOST_WINDOW" = some (some (.int 8 t_MOST_WINDOW)))
    (v_OF_BRANCHES : PySem.W.nsIn K mainGlobals "OF_BRANCHES" = some (some (.int 4 t_OF_BRANCHES)))
    (v_OF_KINDS : PySem.W.nsIn K mainGlobals "OF_KINDS" = some (some (.int 2 t_OF_KINDS)))
    (v_OF_SCRIPTS : PySem.W.nsIn K mainGlobals "OF_SCRIPTS" = some (some (.int 4 t_OF_SCRIPTS)))
    (v_OF_WORDS : PySem.W.nsIn K mainGlobals "OF_WORDS" = some (some (.int 2 t_OF_WORDS)))
    (z_ValueError : PySem.W.nsIn K mainGlobals "ValueError" = some none)
    (mv_BadText : PySem.W.mroIn K C_BadText (.type "ValueError") = some true)
    (v_SYSTEM_ROW : PySem.W.nsIn K mainGlobals "SYSTEM_ROW" = some (some (.ref GSYSTEM_ROW)))
    (lGSYSTEM_ROW : K.lookup GSYSTEM_ROW = some ⟨.type "tuple", ocGSYSTEM_ROW, .seq itGSYSTEM_ROW nnGSYSTEM_ROW, slGSYSTEM_ROW⟩)
    (eGSYSTEM_ROW : itGSYSTEM_ROW.toList = [.str "system" tvGSYSTEM_ROW_0, .str "ahead" tvGSYSTEM_ROW_1, .str "" tvGSYSTEM_ROW_2, .str "window" tvGSYSTEM_ROW_3, .str "" tvGSYSTEM_ROW_4, .str "crashes" tvGSYSTEM_ROW_5, .str "" tvGSYSTEM_ROW_6])
    (v_KIND_ROW : PySem.W.nsIn K mainGlobals "KIND_ROW" = some (some (.ref GKIND_ROW)))
    (lGKIND_ROW : K.lookup GKIND_ROW = some ⟨.type "tuple", ocGKIND_ROW, .seq itGKIND_ROW nnGKIND_ROW, slGKIND_ROW⟩)
    (eGKIND_ROW : itGKIND_ROW.toList = [.str "kind" tvGKIND_ROW_0, .str "" tvGKIND_ROW_1, .str "block" tvGKIND_ROW_2, .str "" tvGKIND_ROW_3, .str "many" tvGKIND_ROW_4, .str "" tvGKIND_ROW_5])
    (v_ITEMS : PySem.W.nsIn K mainGlobals "ITEMS" = some (some (.ref itITEMS)))
    (lkITEMS : K.lookup itITEMS = some ⟨.type "dict", none, .dict esITEMS nnITEMS, #[]⟩)
    (klITEMS : PySem.W.KeysLit w.params esITEMS.toList)
    (smITEMS : (itITEMS == sysModules) = false)
    (eITEMS_take : PySem.W.nsIn K itITEMS "take" = some (some (.int 1 ttITEMS_take)))
    (eITEMS_commit : PySem.W.nsIn K itITEMS "commit" = some (some (.int 1 ttITEMS_commit)))
    (eITEMS_rollback : PySem.W.nsIn K itITEMS "rollback" = some (some (.int 1 ttITEMS_rollback)))
    (eITEMS_drop : PySem.W.nsIn K itITEMS "drop" = some (some (.int 1 ttITEMS_drop)))
    (eITEMS_leave : PySem.W.nsIn K itITEMS "leave" = some (some (.int 1 ttITEMS_leave)))
    (eITEMS_lock : PySem.W.nsIn K itITEMS "lock" = some (some (.int 2 ttITEMS_lock)))
    (eITEMS_unlock : PySem.W.nsIn K itITEMS "unlock" = some (some (.int 2 ttITEMS_unlock)))
    (eITEMS_choose : PySem.W.nsIn K itITEMS "choose" = some (some (.int 3 ttITEMS_choose)))
    : ∃ fd : FuncData, (∀ (s : Shared) (v : Value), BindsTo s fd ⟨[v], []⟩ [("_law_script", v)]) ∧ ∀ base : Heap, K.In base → base.Ns mainGlobals mg → FnOk l.prog w K mg base (L2.CX l.prog w) 21 fa fd ["_law_script"] (spLawR K) := by
  have e := hfa.symm.trans (PySem.W.mg_of X G a_law)
  cases e
  have E_BadText : Ecl K mg "BadText" "line" C_BadText f_BadText___init__ := ⟨PySem.W.mg_of X G aBadText, ⟨⟨_, _, _, _, _, _, _, _, _, _, _, _, _, _, _, xBadText, ve_ok⟩, saBadText, eBadText, tBadText, kcBadText⟩, a_BadText___init__, i_BadText___init__, nfBadText, ⟨gaBadText, ggBadText, eBadText, hBadText⟩, iBadText, caBadText, cn, ct, obBadText, PySem.W.exm_ref eBadText hBadText tBadText sBadText_BadText⟩
  have Cl_Script : Cls K C_Script := ⟨pgScript, hdScript, poScript, saScript⟩
  have Cl_Check : Cls K C_Check := ⟨pgCheck, hdCheck, poCheck, saCheck⟩
  have Cl_Kind : Cls K C_Kind := ⟨pgKind, hdKind, poKind, saKind⟩
  have Cl_System : Cls K C_System := ⟨pgSystem, hdSystem, poSystem, saSystem⟩
  have Cl_Reading : Cls K C_Reading := ⟨pgReading, hdReading, poReading, saReading⟩
  have kgITEMS : ∀ z n, (z, n) ∈ items → KG K w itITEMS z (.int n) := by
    intro z n hm
    simp only [items, List.mem_cons, List.not_mem_nil, or_false, Prod.mk.injEq] at hm
    rcases hm with ⟨rfl, rfl⟩ | ⟨rfl, rfl⟩ | ⟨rfl, rfl⟩ | ⟨rfl, rfl⟩ | ⟨rfl, rfl⟩ | ⟨rfl, rfl⟩ | ⟨rfl, rfl⟩ | ⟨rfl, rfl⟩
    · exact ⟨⟨_, _, _, lkITEMS, klITEMS, eITEMS_take, ⟨_, rfl⟩⟩, smITEMS⟩
    · exact ⟨⟨_, _, _, lkITEMS, klITEMS, eITEMS_commit, ⟨_, rfl⟩⟩, smITEMS⟩
    · exact ⟨⟨_, _, _, lkITEMS, klITEMS, eITEMS_rollback, ⟨_, rfl⟩⟩, smITEMS⟩
    · exact ⟨⟨_, _, _, lkITEMS, klITEMS, eITEMS_drop, ⟨_, rfl⟩⟩, smITEMS⟩
    · exact ⟨⟨_, _, _, lkITEMS, klITEMS, eITEMS_leave, ⟨_, rfl⟩⟩, smITEMS⟩
    · exact ⟨⟨_, _, _, lkITEMS, klITEMS, eITEMS_lock, ⟨_, rfl⟩⟩, smITEMS⟩
    · exact ⟨⟨_, _, _, lkITEMS, klITEMS, eITEMS_unlock, ⟨_, rfl⟩⟩, smITEMS⟩
    · exact ⟨⟨_, _, _, lkITEMS, klITEMS, eITEMS_choose, ⟨_, rfl⟩⟩, smITEMS⟩
  have ATGSYSTEM_ROW := at_tupK (Γ := (Gam w C_Script C_Check C_Kind C_System C_BadText C_Reading)) (vs := [V.str "system", V.str "ahead", V.str "", V.str "window", V.str "", V.str "crashes", V.str ""]) lGSYSTEM_ROW (by rw [eGSYSTEM_ROW]; simp) (by rw [eGSYSTEM_ROW]; exact (.cons (by exact ⟨_, rfl⟩) (.cons (by exact ⟨_, rfl⟩) (.cons (by exact ⟨_, rfl⟩) (.cons (by exact ⟨_, rfl⟩) (.cons (by exact ⟨_, rfl⟩) (.cons (by exact ⟨_, rfl⟩) (.cons (by exact ⟨_, rfl⟩) .nil)))))))) fun c H j => (.cons ((.s _)) (.cons ((.s _)) (.cons ((.s _)) (.cons ((.s _)) (.cons ((.s _)) (.cons ((.s _)) (.cons ((.s _)) .nil)))))))
  have ATGKIND_ROW := at_tupK (Γ := (Gam w C_Script C_Check C_Kind C_System C_BadText C_Reading)) (vs := [V.str "kind", V.str "", V.str "block", V.str "", V.str "many", V.str ""]) lGKIND_ROW (by rw [eGKIND_ROW]; simp) (by rw [eGKIND_ROW]; exact (.cons (by exact ⟨_, rfl⟩) (.cons (by exact ⟨_, rfl⟩) (.cons (by exact ⟨_, rfl⟩) (.cons (by exact ⟨_, rfl⟩) (.cons (by exact ⟨_, rfl⟩) (.cons (by exact ⟨_, rfl⟩) .nil))))))) fun c H j => (.cons ((.s _)) (.cons ((.s _)) (.cons ((.s _)) (.cons ((.s _)) (.cons ((.s _)) (.cons ((.s _)) .nil))))))
  have Wd : WdT w K (Gam w C_Script C_Check C_Kind C_System C_BadText C_Reading) mg := ⟨PySem.W.mg_none_of X G z_all,
    PySem.W.mg_none_of X G z_any,
    PySem.W.mg_none_of X G z_bool,
    PySem.W.mg_none_of X G z_enumerate,
    PySem.W.mg_none_of X G z_int,
    PySem.W.mg_none_of X G z_isinstance,
    PySem.W.mg_none_of X G z_len,
    PySem.W.mg_none_of X G z_list,
    PySem.W.mg_none_of X G z_max,
    PySem.W.mg_none_of X G z_range,
    PySem.W.mg_none_of X G z_set,
    PySem.W.mg_none_of X G z_str,
    PySem.W.mg_none_of X G z_sum,
    PySem.W.mg_none_of X G z_tuple,
    PySem.W.mg_none_of X G z_zip,
    ⟨C_Kind, PySem.W.mg_of X G aKind, ⟨fun a r h => by
      unfold kt_Kind at h
      split at h <;> (first | cases h) <;> (rename_i e; cases e) <;> (first | fail | skip), fun k r C h g => by
      unfold kt_Kind at h
      split at h <;> (first | cases h) <;> (rename_i e; cases e)
      have e := Option.some.inj (show some C_Kind = some C from g); subst e
      exact ⟨⟨Cl_Kind, caKind, cn, ct, obKind⟩, kit_me _⟩⟩⟩,
    ⟨C_Script, PySem.W.mg_of X G aScript, ⟨fun a r h => by
      unfold kt_Script at h
      split at h <;> (first | cases h) <;> (rename_i e; cases e) <;> (first | exact kit_no icScript tcScript uScript_tuple | skip), fun k r C h g => by
      unfold kt_Script at h
      split at h <;> (first | cases h) <;> (rename_i e; cases e)
      have e := Option.some.inj (show some C_Script = some C from g); subst e
      exact ⟨⟨Cl_Script, caScript, cn, ct, obScript⟩, kit_me _⟩⟩⟩,
    ⟨fun C h => by have e := Option.some.inj (show some C_Check = some C from h); subst e; exact ⟨Cl_Check, nCheck_found⟩, rfl, by show (gfs 2).Nodup; decide +kernel, by show (gfs 2).length < 1000; decide +kernel⟩,
    ⟨fun C h => by have e := Option.some.inj (show some C_Kind = some C from h); subst e; exact ⟨Cl_Kind, nKind_block⟩, rfl, by show (gfs 4).Nodup; decide +kernel, by show (gfs 4).length < 1000; decide +kernel⟩,
    ⟨fun C h => by have e := Option.some.inj (show some C_Kind = some C from h); subst e; exact ⟨Cl_Kind, nKind_many⟩, rfl, by show (gfs 4).Nodup; decide +kernel, by show (gfs 4).length < 1000; decide +kernel⟩,
    ⟨fun C h => by have e := Option.some.inj (show some C_Kind = some C from h); subst e; exact ⟨Cl_Kind, nKind_name⟩, rfl, by show (gfs 4).Nodup; decide +kernel, by show (gfs 4).length < 1000; decide +kernel⟩,
    ⟨fun C h => by have e := Option.some.inj (show some C_Kind = some C from h); subst e; exact ⟨Cl_Kind, nKind_script⟩, rfl, by show (gfs 4).Nodup; decide +kernel, by show (gfs 4).length < 1000; decide +kernel⟩,
    ⟨fun C h => by have e := Option.some.inj (show some C_Reading = some C from h); subst e; exact ⟨Cl_Reading, nReading_at⟩, rfl, by show (gfs 10).Nodup; decide +kernel, by show (gfs 10).length < 1000; decide +kernel⟩,
    ⟨fun C h => by have e := Option.some.inj (show some C_Reading = some C from h); subst e; exact ⟨Cl_Reading, nReading_room⟩, rfl, by show (gfs 10).Nodup; decide +kernel, by show (gfs 10).length < 1000; decide +kernel⟩,
    ⟨fun C h => by have e := Option.some.inj (show some C_Reading = some C from h); subst e; exact ⟨Cl_Reading, nReading_rows⟩, rfl, by show (gfs 10).Nodup; decide +kernel, by show (gfs 10).length < 1000; decide +kernel⟩,
    ⟨fun C h => by have e := Option.some.inj (show some C_Script = some C from h); subst e; exact ⟨Cl_Script, nScript_found⟩, rfl, by show (gfs 1).Nodup; decide +kernel, by show (gfs 1).length < 1000; decide +kernel⟩,
    ⟨fun C h => by have e := Option.some.inj (show some C_Script = some C from h); subst e; exact ⟨Cl_Script, nScript_places⟩, rfl, by show (gfs 1).Nodup; decide +kernel, by show (gfs 1).length < 1000; decide +kernel⟩,
    ⟨fun C h => by have e := Option.some.inj (show some C_Script = some C from h); subst e; exact ⟨Cl_Script, nScript_statements⟩, rfl, by show (gfs 1).Nodup; decide +kernel, by show (gfs 1).length < 1000; decide +kernel⟩,
    ⟨fun C h => by have e := Option.some.inj (show some C_System = some C from h); subst e; exact ⟨Cl_System, nSystem_ahead⟩, rfl, by show (gfs 5).Nodup; decide +kernel, by show (gfs 5).length < 1000; decide +kernel⟩,
    ⟨fun C h => by have e := Option.some.inj (show some C_System = some C from h); subst e; exact ⟨Cl_System, nSystem_crashes⟩, rfl, by show (gfs 5).Nodup; decide +kernel, by show (gfs 5).length < 1000; decide +kernel⟩,
    ⟨fun C h => by have e := Option.some.inj (show some C_System = some C from h); subst e; exact ⟨Cl_System, nSystem_kinds⟩, rfl, by show (gfs 5).Nodup; decide +kernel, by show (gfs 5).length < 1000; decide +kernel⟩,
    ⟨fun C h => by have e := Option.some.inj (show some C_System = some C from h); subst e; exact ⟨Cl_System, nSystem_sessions⟩, rfl, by show (gfs 5).Nodup; decide +kernel, by show (gfs 5).length < 1000; decide +kernel⟩,
    ⟨fun C h => by have e := Option.some.inj (show some C_System = some C from h); subst e; exact ⟨Cl_System, nSystem_window⟩, rfl, by show (gfs 5).Nodup; decide +kernel, by show (gfs 5).length < 1000; decide +kernel⟩,
    gl_str (PySem.W.mg_of X G v_DIGITS),
    ⟨_, .ref GKIND_ROW, PySem.W.mg_of X G v_KIND_ROW, rfl, fun c H j => ATGKIND_ROW c H j⟩,
    gl_int (PySem.W.mg_of X G v_LONGEST_NAME),
    gl_int (PySem.W.mg_of X G v_LONGEST_OF_MANY),
    gl_int (PySem.W.mg_of X G v_MOST_AHEAD),
    gl_int (PySem.W.mg_of X G v_MOST_BLOCK),
    gl_int (PySem.W.mg_of X G v_MOST_CRASHES),
    gl_int (PySem.W.mg_of X G v_MOST_HELD),
    gl_int (PySem.W.mg_of X G v_MOST_NESTED),
    gl_int (PySem.W.mg_of X G v_MOST_SESSIONS),
    gl_int (PySem.W.mg_of X G v_MOST_STATEMENTS),
    gl_int (PySem.W.mg_of X G v_MOST_WINDOW),
    gl_int (PySem.W.mg_of X G v_OF_BRANCHES),
    gl_int (PySem.W.mg_of X G v_OF_KINDS),
    gl_int (PySem.W.mg_of X G v_OF_SCRIPTS),
    gl_int (PySem.W.mg_of X G v_OF_WORDS),
    ⟨_, .ref GSYSTEM_ROW, PySem.W.mg_of X G v_SYSTEM_ROW, rfl, fun c H j => ATGSYSTEM_ROW c H j⟩,
    ⟨_, PySem.W.mg_of X G v_ITEMS, ⟨_, _, lkITEMS⟩, fun z i h => kgITEMS z i (lookup_mem h)⟩,
    rfl,
    rfl,
    ⟨C_BadText, PySem.W.mg_of X G aBadText, fun k b C g h => by
      unfold mt_BadText at h
      split at h <;> cases h <;> (have e := Option.some.inj g; subst e; first | exact PySem.W.exm_ref eBadText hBadText tBadText sBadText_BadText)⟩,
    ⟨.ref C_BadScript, .ref C_BadScript, .inl (PySem.W.mg_of X G aBadScript), rfl, fun u h => h, fun C g => by have e := Option.some.inj g; subst e; exact kit_ref dBadText_BadScript iBadScript tBadScript sBadText_BadScript⟩,
    ⟨.ref C_BadSystem, .ref C_BadSystem, .inl (PySem.W.mg_of X G aBadSystem), rfl, fun u h => h, fun C g => by have e := Option.some.inj g; subst e; exact kit_ref dBadText_BadSystem iBadSystem tBadSystem sBadText_BadSystem⟩,
    ⟨.ref C_TakeError, .ref C_TakeError, .inl (PySem.W.mg_of X G aTakeError), rfl, fun u h => h, fun C g => by have e := Option.some.inj g; subst e; exact kit_ref dBadText_TakeError iTakeError tTakeError sBadText_TakeError⟩,
    ⟨.type "ValueError", .ty "ValueError", .inr ⟨PySem.W.mg_none_of X G z_ValueError, by decide +kernel, by decide +kernel⟩, rfl, fun u h => h, fun C g => by have e := Option.some.inj g; subst e; exact kit_ve mv_BadText⟩⟩
  have F_is_integer := fun_mk (st := s_is_integer) l_is_integer c_is_integer k_is_integer
  have b_is_integer := F_is_integer.binds (ps := ["value"]) fun _ _ _ _ _ _ us hl => match us, hl with | [_], _ => rfl
  have F_is_within := fun_mk (st := s_is_within) l_is_within c_is_within k_is_within
  have b_is_within := F_is_within.binds (ps := ["value", "low", "high"]) fun _ _ _ _ _ _ us hl => match us, hl with | [_, _, _], _ => rfl
  have F_is_name := fun_mk (st := s_is_name) l_is_name c_is_name k_is_name
  have b_is_name := F_is_name.binds (ps := ["value"]) fun _ _ _ _ _ _ us hl => match us, hl with | [_], _ => rfl
  have F_held_after := fun_mk (st := s_held_after) l_held_after c_held_after k_held_after
  have b_held_after := F_held_after.binds (ps := ["word", "held"]) fun _ _ _ _ _ _ us hl => match us, hl with | [_, _], _ => rfl
  have F_has_form := fun_mk (st := s_has_form) l_has_form c_has_form k_has_form
  have b_has_form := F_has_form.binds (ps := ["statement"]) fun _ _ _ _ _ _ us hl => match us, hl with | [_], _ => rfl
  have F_fault_of := fun_mk (st := s_fault_of) l_fault_of c_fault_of k_fault_of
  have b_fault_of := F_fault_of.binds (ps := ["statement", "place", "earlier", "held"]) fun _ _ _ _ _ _ us hl => match us, hl with | [_, _, _, _], _ => rfl
  have F_answers_of := fun_mk (st := s_answers_of) l_answers_of c_answers_of k_answers_of
  have b_answers_of := F_answers_of.binds (ps := ["statement"]) fun _ _ _ _ _ _ us hl => match us, hl with | [_], _ => rfl
  have F_is_answer := fun_mk (st := s_is_answer) l_is_answer c_is_answer k_is_answer
  have b_is_answer := F_is_answer.binds (ps := ["statement", "answer"]) fun _ _ _ _ _ _ us hl => match us, hl with | [_, _], _ => rfl
  have F_script_of := fun_mk (st := s_script_of) l_script_of c_script_of k_script_of
  have b_script_of := F_script_of.binds (ps := ["script"]) fun _ _ _ _ _ _ us hl => match us, hl with | [_], _ => rfl
  have F_count_of_sessions := fun_mk (st := s_count_of_sessions) l_count_of_sessions c_count_of_sessions k_count_of_sessions
  have b_count_of_sessions := F_count_of_sessions.binds (ps := ["kinds"]) fun _ _ _ _ _ _ us hl => match us, hl with | [_], _ => rfl
  have F_are_kinds := fun_mk (st := s_are_kinds) l_are_kinds c_are_kinds k_are_kinds
  have b_are_kinds := F_are_kinds.binds (ps := ["kinds"]) fun _ _ _ _ _ _ us hl => match us, hl with | [_], _ => rfl
  have F_fault_of_system := fun_mk (st := s_fault_of_system) l_fault_of_system c_fault_of_system k_fault_of_system
  have b_fault_of_system := F_fault_of_system.binds (ps := ["kinds", "ahead", "window", "crashes"]) fun _ _ _ _ _ _ us hl => match us, hl with | [_, _, _, _], _ => rfl
  have F_indented := fun_mk (st := s_indented) l_indented c_indented k_indented
  have b_indented := F_indented.binds (ps := ["indent", "row"]) fun _ _ _ _ _ _ us hl => match us, hl with | [_, _], _ => rfl
  have F_rows_of := fun_mk (st := s_rows_of) l_rows_of c_rows_of k_rows_of
  have b_rows_of := F_rows_of.binds (ps := ["statements", "indent"]) fun _ _ _ _ _ _ us hl => match us, hl with | [_, _], _ => rfl
  have F_write_system := fun_mk (st := s_write_system) l_write_system c_write_system k_write_system
  have b_write_system := F_write_system.binds (ps := ["system"]) fun _ _ _ _ _ _ us hl => match us, hl with | [_], _ => rfl
  have F_shortest_kind := fun_mk (st := s_shortest_kind) l_shortest_kind c_shortest_kind k_shortest_kind
  have b_shortest_kind := F_shortest_kind.binds (ps := ["name", "block", "many"]) fun _ _ _ _ _ _ us hl => match us, hl with | [_, _, _], _ => rfl
  have F_with_kinds := fun_mk (st := s_with_kinds) l_with_kinds c_with_kinds k_with_kinds
  have b_with_kinds := F_with_kinds.binds (ps := ["frame", "kinds"]) fun _ _ _ _ _ _ us hl => match us, hl with | [_, _], _ => rfl
  have F_digit_of := fun_mk (st := s_digit_of) l_digit_of c_digit_of k_digit_of
  have b_digit_of := F_digit_of.binds (ps := ["word"]) fun _ _ _ _ _ _ us hl => match us, hl with | [_], _ => rfl
  have F_read_system := fun_mk (st := s_read_system) l_read_system c_read_system k_read_system
  have b_read_system := F_read_system.binds (ps := ["text"]) fun _ _ _ _ _ _ us hl => match us, hl with | [_], _ => rfl
  have F__law_box := fun_mk (st := s__law_box) l__law_box c__law_box k__law_box
  have b__law_box := F__law_box.binds (ps := ["_law_script", "_law_k"]) fun _ _ _ _ _ _ us hl => match us, hl with | [_, _], _ => rfl
  have F__law_pick := fun_mk (st := s__law_pick) l__law_pick c__law_pick k__law_pick
  have b__law_pick := F__law_pick.binds (ps := ["_law_box_here", "_law_size"]) fun _ _ _ _ _ _ us hl => match us, hl with | [_, _], _ => rfl
  have F__law_found := fun_mk (st := s__law_found) l__law_found c__law_found k__law_found
  have b__law_found := F__law_found.binds (ps := ["_law_text"]) fun _ _ _ _ _ _ us hl => match us, hl with | [_], _ => rfl
  have F__law_joined := fun_mk (st := s__law_joined) l__law_joined c__law_joined k__law_joined
  have b__law_joined := F__law_joined.binds (ps := ["_law_rows"]) fun _ _ _ _ _ _ us hl => match us, hl with | [_], _ => rfl
  have F__law_deep := fun_mk (st := s__law_deep) l__law_deep c__law_deep k__law_deep
  have b__law_deep := F__law_deep.binds (ps := ["_law_box_here"]) fun _ _ _ _ _ _ us hl => match us, hl with | [_], _ => rfl
  have F__law_full := fun_mk (st := s__law_full) l__law_full c__law_full k__law_full
  have b__law_full := F__law_full.binds (ps := ["_law_box_here"]) fun _ _ _ _ _ _ us hl => match us, hl with | [_], _ => rfl
  have F__law_long := fun_mk (st := s__law_long) l__law_long c__law_long k__law_long
  have b__law_long := F__law_long.binds (ps := ["_law_box_here", "_law_size"]) fun _ _ _ _ _ _ us hl => match us, hl with | [_, _], _ => rfl
  have F__law_pairs := fun_mk (st := s__law_pairs) l__law_pairs c__law_pairs k__law_pairs
  have b__law_pairs := F__law_pairs.binds (ps := ["_law_box_here"]) fun _ _ _ _ _ _ us hl => match us, hl with | [_], _ => rfl
  have F__law_names := fun_mk (st := s__law_names) l__law_names c__law_names k__law_names
  have b__law_names := F__law_names.binds (ps := ["_law_box_here"]) fun _ _ _ _ _ _ us hl => match us, hl with | [_], _ => rfl
  have F_law := fun_mk (st := s_law) l_law c_law k_law
  have F_Check___init__ := fun_mk (st := s_Check___init__) l_Check___init__ c_Check___init__ k_Check___init__
  have b_Check___init__ := F_Check___init__.binds (ps := ["self"]) fun _ _ _ _ _ _ us hl => match us, hl with | [_], _ => rfl
  have F_Check_check_branch := fun_mk (st := s_Check_check_branch) l_Check_check_branch c_Check_check_branch k_Check_check_branch
  have b_Check_check_branch := F_Check_check_branch.binds (ps := ["self", "branch", "above", "held"]) fun _ _ _ _ _ _ us hl => match us, hl with | [_, _, _, _], _ => rfl
  have F_Check_check_statement := fun_mk (st := s_Check_check_statement) l_Check_check_statement c_Check_check_statement k_Check_check_statement
  have b_Check_check_statement := F_Check_check_statement.binds (ps := ["self", "statement", "place", "held"]) fun _ _ _ _ _ _ us hl => match us, hl with | [_, _, _, _], _ => rfl
  have F_Script___init__ := fun_mk (st := s_Script___init__) l_Script___init__ c_Script___init__ k_Script___init__
  have b_Script___init__ := F_Script___init__.binds (ps := ["self", "statements"]) fun _ _ _ _ _ _ us hl => match us, hl with | [_, _], _ => rfl
  have F_Script___len__ := fun_mk (st := s_Script___len__) l_Script___len__ c_Script___len__ k_Script___len__
  have b_Script___len__ := F_Script___len__.binds (ps := ["self"]) fun _ _ _ _ _ _ us hl => match us, hl with | [_], _ => rfl
  have F_Script___contains__ := fun_mk (st := s_Script___contains__) l_Script___contains__ c_Script___contains__ k_Script___contains__
  have b_Script___contains__ := F_Script___contains__.binds (ps := ["self", "place"]) fun _ _ _ _ _ _ us hl => match us, hl with | [_, _], _ => rfl
  have F_Script___getitem__ := fun_mk (st := s_Script___getitem__) l_Script___getitem__ c_Script___getitem__ k_Script___getitem__
  have b_Script___getitem__ := F_Script___getitem__.binds (ps := ["self", "place"]) fun _ _ _ _ _ _ us hl => match us, hl with | [_, _], _ => rfl
  have F_Script_behind := fun_mk (st := s_Script_behind) l_Script_behind c_Script_behind k_Script_behind
  have b_Script_behind := F_Script_behind.binds (ps := ["self", "place"]) fun _ _ _ _ _ _ us hl => match us, hl with | [_, _], _ => rfl
  have F_Script_after : FunD K "after" "Script.after" (defArgs s_Script_after) (defBody s_Script_after) (defScope s_Script_after) [.int 0] [] f_Script_after _ := ⟨⟨_, _, _, _, _, _, _, _, _, _, rfl, l_Script_after, c_Script_after, .inr ⟨by simp, TD_Script_after, _, [.int 0 tTScript_after_0], nTScript_after, rfl, lT_Script_after, rfl, (.cons (by first | exact ⟨_, rfl⟩ | rfl) .nil)⟩, .inl rfl⟩, k_Script_after⟩
  obtain ⟨ds_Script_after_0, rds_Script_after_0, b_Script_after_0⟩ := F_Script_after.binds1 (ps := ["self", "place", "answer"]) 2 0 (by simp) rfl (fun _ _ _ _ _ _ _ us its h1 h2 => match us, its, h1, h2 with | [_, _], [_], _, _ => ⟨_, rfl, rfl⟩)
  obtain ⟨ds_Script_after_1, rds_Script_after_1, b_Script_after_1⟩ := F_Script_after.binds1 (ps := ["self", "place", "answer"]) 3 1 (by simp) rfl (fun _ _ _ _ _ _ _ us its h1 h2 => match us, its, h1, h2 with | [_, _, _], [_], _, _ => ⟨_, rfl, rfl⟩)
  have eds_Script_after : ds_Script_after_1 = [] := by cases rds_Script_after_1; rfl
  subst eds_Script_after
  have b_Script_after := b_Script_after_1
  have F_System___getitem__ := fun_mk (st := s_System___getitem__) l_System___getitem__ c_System___getitem__ k_System___getitem__
  have b_System___getitem__ := F_System___getitem__.binds (ps := ["self", "name"]) fun _ _ _ _ _ _ us hl => match us, hl with | [_, _], _ => rfl
  have F_Reading___init__ := fun_mk (st := s_Reading___init__) l_Reading___init__ c_Reading___init__ k_Reading___init__
  have b_Reading___init__ := F_Reading___init__.binds (ps := ["self", "text"]) fun _ _ _ _ _ _ us hl => match us, hl with | [_, _], _ => rfl
  have F_Reading_words := fun_mk (st := s_Reading_words) l_Reading_words c_Reading_words k_Reading_words
  have b_Reading_words := F_Reading_words.binds (ps := ["self", "indent"]) fun _ _ _ _ _ _ us hl => match us, hl with | [_, _], _ => rfl
  have F_Reading_fields := fun_mk (st := s_Reading_fields) l_Reading_fields c_Reading_fields k_Reading_fields
  have b_Reading_fields := F_Reading_fields.binds (ps := ["self", "indent", "form"]) fun _ _ _ _ _ _ us hl => match us, hl with | [_, _, _], _ => rfl
  have F_Reading_read_frame := fun_mk (st := s_Reading_read_frame) l_Reading_read_frame c_Reading_read_frame k_Reading_read_frame
  have b_Reading_read_frame := F_Reading_read_frame.binds (ps := ["self"]) fun _ _ _ _ _ _ us hl => match us, hl with | [_], _ => rfl
  have F_Reading_read_branch := fun_mk (st := s_Reading_read_branch) l_Reading_read_branch c_Reading_read_branch k_Reading_read_branch
  have b_Reading_read_branch := F_Reading_read_branch.binds (ps := ["self", "indent", "above", "held"]) fun _ _ _ _ _ _ us hl => match us, hl with | [_, _, _, _], _ => rfl
  have F_Reading_read_statement := fun_mk (st := s_Reading_read_statement) l_Reading_read_statement c_Reading_read_statement k_Reading_read_statement
  have b_Reading_read_statement := F_Reading_read_statement.binds (ps := ["self", "indent", "place", "held"]) fun _ _ _ _ _ _ us hl => match us, hl with | [_, _, _, _], _ => rfl
  have F_Reading_read_kind := fun_mk (st := s_Reading_read_kind) l_Reading_read_kind c_Reading_read_kind k_Reading_read_kind
  have b_Reading_read_kind := F_Reading_read_kind.binds (ps := ["self", "frame", "kinds"]) fun _ _ _ _ _ _ us hl => match us, hl with | [_, _, _], _ => rfl
  have F_Kind___init__ : FunD K "__init__" "Kind.__init__" (defArgs s_Kind___init__) (defBody s_Kind___init__) (defScope s_Kind___init__) [] [("block", .int (1)), ("many", .int (1))] f_Kind___init__ _ := ⟨⟨_, _, _, _, _, _, _, _, _, _, rfl, l_Kind___init__, c_Kind___init__, .inl ⟨rfl, rfl⟩, .inr ⟨KD_Kind, rfl, fun q hq => by
    simp only [List.mem_cons, List.not_mem_nil, or_false] at hq
    rcases hq with rfl | rfl
    · exact ⟨_, kdKind_block, ⟨_, rfl⟩⟩
    · exact ⟨_, kdKind_many, ⟨_, rfl⟩⟩⟩⟩, k_Kind___init__⟩
  refine ⟨PySem.W.fnOf "law" "law" (defArgs s_law) (defBody s_law) (defScope s_law) .none kV_law dc_law pm_law an_law cd_law ct_law, fun s v => .of_eq rfl, fun base _ _ => ?_⟩
  have F_BadText___init__ := fun_mk (st := s_BadText___init__) l_BadText___init__ c_BadText___init__ k_BadText___init__
  have b_BadText___init__ := F_BadText___init__.binds (ps := ["self", "line"]) fun _ _ _ _ _ _ us hl => match us, hl with | [_, _], _ => rfl
  have X_BadText : Xk l.prog w K mg base (Gam w C_Script C_Check C_Kind C_System C_BadText C_Reading) 7 "BadText" "line" := ⟨C_BadText, f_BadText___init__, _, rfl, rfl, E_BadText, xi_BadText F_BadText___init__ E_BadText, b_BadText___init__⟩
  have G_is_integer : Df l.prog w K mg base (Gam w C_Script C_Check C_Kind C_System C_BadText C_Reading) "is_integer" 1 m_is_integer := ⟨f_is_integer, _, _, (ok_is_integer (P := l.prog) (base := base) Wd  F_is_integer), b_is_integer, k_is_integer, PySem.W.mg_of X G a_is_integer⟩
  have G_is_within : Df l.prog w K mg base (Gam w C_Script C_Check C_Kind C_System C_BadText C_Reading) "is_within" 2 m_is_within := ⟨f_is_within, _, _, (ok_is_within (P := l.prog) (base := base) Wd G_is_integer F_is_within), b_is_within, k_is_within, PySem.W.mg_of X G a_is_within⟩
  have G_is_name : Df l.prog w K mg base (Gam w C_Script C_Check C_Kind C_System C_BadText C_Reading) "is_name" 1 m_is_name := ⟨f_is_name, _, _, (ok_is_name (P := l.prog) (base := base) Wd  F_is_name), b_is_name, k_is_name, PySem.W.mg_of X G a_is_name⟩
  have G_held_after : Df l.prog w K mg base (Gam w C_Script C_Check C_Kind C_System C_BadText C_Reading) "held_after" 1 m_held_after := ⟨f_held_after, _, _, (ok_held_after (P := l.prog) (base := base) Wd  F_held_after), b_held_after, k_held_after, PySem.W.mg_of X G a_held_after⟩
  have G_has_form : Df l.prog w K mg base (Gam w C_Script C_Check C_Kind C_System C_BadText C_Reading) "has_form" 1 m_has_form := ⟨f_has_form, _, _, (ok_has_form (P := l.prog) (base := base) Wd  F_has_form), b_has_form, k_has_form, PySem.W.mg_of X G a_has_form⟩
  have G_fault_of : Df l.prog w K mg base (Gam w C_Script C_Check C_Kind C_System C_BadText C_Reading) "fault_of" 2 m_fault_of := ⟨f_fault_of, _, _, (ok_fault_of (P := l.prog) (base := base) Wd G_has_form G_is_name F_fault_of), b_fault_of, k_fault_of, PySem.W.mg_of X G a_fault_of⟩
  have K_Check : Dk l.prog w K mg base (Gam w C_Script C_Check C_Kind C_System C_BadText C_Reading) 2 "Check" 1 m_Check___init__ := ⟨C_Check, f_Check___init__, _, _, rfl, PySem.W.mg_of X G aCheck, ⟨mkCheck, a_Check___init__, i_Check___init__, kcCheck⟩, (ok_Check___init__ (P := l.prog) (base := base) Wd  F_Check___init__), b_Check___init__⟩
  have GC := checksR (P := l.prog) (base := base) (Γ := (Gam w C_Script C_Check C_Kind C_System C_BadText C_Reading)) Wd G_fault_of G_held_after F_Check_check_branch F_Check_check_statement b_Check_check_branch b_Check_check_statement rfl Cl_Check ⟨a_Check_check_branch, i_Check_check_branch, k_Check_check_branch⟩ ⟨a_Check_check_statement, i_Check_check_statement, k_Check_check_statement⟩ (by show _ ∉ gfs 2; decide +kernel) (by show _ ∉ gfs 2; decide +kernel) 6
  have G_Check_check_branch : Dm l.prog w K mg base (Gam w C_Script C_Check C_Kind C_System C_BadText C_Reading) 2 "check_branch" 11 m_Check_check_branch := GC.1
  have G_Check_check_statement := GC.2
  have K_Script : Dk l.prog w K mg base (Gam w C_Script C_Check C_Kind C_System C_BadText C_Reading) 1 "Script" 12 m_Script___init__ := ⟨C_Script, f_Script___init__, _, _, rfl, PySem.W.mg_of X G aScript, ⟨mkScript, a_Script___init__, i_Script___init__, kcScript⟩, (ok_Script___init__ (P := l.prog) (base := base) Wd G_Check_check_branch K_Check F_Script___init__), b_Script___init__⟩
  have O_Script___len__ : Dn' l.prog w K mg base (Gam w C_Script C_Check C_Kind C_System C_BadText C_Reading) 1 "__len__" 1 m_Script___len__ := ⟨C_Script, f_Script___len__, _, _, rfl, ⟨a_Script___len__, i_Script___len__⟩, fg_Script___len__, (ok_Script___len__ (P := l.prog) (base := base) Wd  F_Script___len__), b_Script___len__⟩
  have O_Script___contains__ : Dn' l.prog w K mg base (Gam w C_Script C_Check C_Kind C_System C_BadText C_Reading) 1 "__contains__" 2 m_Script___contains__ := ⟨C_Script, f_Script___contains__, _, _, rfl, ⟨a_Script___contains__, i_Script___contains__⟩, fg_Script___contains__, (ok_Script___contains__ (P := l.prog) (base := base) Wd G_is_integer F_Script___contains__), b_Script___contains__⟩
  have O_Script___getitem__ : Dn' l.prog w K mg base (Gam w C_Script C_Check C_Kind C_System C_BadText C_Reading) 1 "__getitem__" 4 m_Script___getitem__ := ⟨C_Script, f_Script___getitem__, _, _, rfl, ⟨a_Script___getitem__, i_Script___getitem__⟩, fg_Script___getitem__, (ok_Script___getitem__ (P := l.prog) (base := base) Wd O_Script___contains__ F_Script___getitem__), b_Script___getitem__⟩
  have G_answers_of : Df l.prog w K mg base (Gam w C_Script C_Check C_Kind C_System C_BadText C_Reading) "answers_of" 1 m_answers_of := ⟨f_answers_of, _, _, (ok_answers_of (P := l.prog) (base := base) Wd  F_answers_of), b_answers_of, k_answers_of, PySem.W.mg_of X G a_answers_of⟩
  have G_is_answer : Df l.prog w K mg base (Gam w C_Script C_Check C_Kind C_System C_BadText C_Reading) "is_answer" 2 m_is_answer := ⟨f_is_answer, _, _, (ok_is_answer (P := l.prog) (base := base) Wd G_answers_of G_is_integer F_is_answer), b_is_answer, k_is_answer, PySem.W.mg_of X G a_is_answer⟩
  have G_Script_behind : Dm l.prog w K mg base (Gam w C_Script C_Check C_Kind C_System C_BadText C_Reading) 1 "behind" 1 m_Script_behind := ⟨⟨C_Script, f_Script_behind, _, _, rfl, Cl_Script, ⟨a_Script_behind, i_Script_behind, k_Script_behind⟩, (ok_Script_behind (P := l.prog) (base := base) Wd  F_Script_behind), b_Script_behind⟩, by show _ ∉ gfs 1; decide +kernel⟩
  have G_Script_after : Dm l.prog w K mg base (Gam w C_Script C_Check C_Kind C_System C_BadText C_Reading) 1 "after" 6 m_Script_after := ⟨⟨C_Script, f_Script_after, _, _, rfl, Cl_Script, ⟨a_Script_after, i_Script_after, k_Script_after⟩, (ok_Script_after (P := l.prog) (base := base) Wd G_Script_behind G_is_answer O_Script___getitem__ F_Script_after), b_Script_after⟩, by show _ ∉ gfs 1; decide +kernel⟩
  have G_script_of : Df l.prog w K mg base (Gam w C_Script C_Check C_Kind C_System C_BadText C_Reading) "script_of" 14 m_script_of := ⟨f_script_of, _, _, (ok_script_of (P := l.prog) (base := base) Wd K_Script F_script_of), b_script_of, k_script_of, PySem.W.mg_of X G a_script_of⟩
  have K_Kind : Dkk l.prog w K mg base (Gam w C_Script C_Check C_Kind C_System C_BadText C_Reading) 4 "Kind" 15 m_Kind___init__ 2 ["block", "many"] gKind := kind_kk Wd G_is_name G_is_within G_script_of F_Kind___init__ rfl (PySem.W.mg_of X G aKind) ⟨mkKind, a_Kind___init__, i_Kind___init__, kcKind⟩
  have G_count_of_sessions : Df l.prog w K mg base (Gam w C_Script C_Check C_Kind C_System C_BadText C_Reading) "count_of_sessions" 1 m_count_of_sessions := ⟨f_count_of_sessions, _, _, (ok_count_of_sessions (P := l.prog) (base := base) Wd  F_count_of_sessions), b_count_of_sessions, k_count_of_sessions, PySem.W.mg_of X G a_count_of_sessions⟩
  have G_are_kinds : Df l.prog w K mg base (Gam w C_Script C_Check C_Kind C_System C_BadText C_Reading) "are_kinds" 2 m_are_kinds := ⟨f_are_kinds, _, _, (ok_are_kinds (P := l.prog) (base := base) Wd G_count_of_sessions F_are_kinds), b_are_kinds, k_are_kinds, PySem.W.mg_of X G a_are_kinds⟩
  have G_fault_of_system : Df l.prog w K mg base (Gam w C_Script C_Check C_Kind C_System C_BadText C_Reading) "fault_of_system" 3 m_fault_of_system := ⟨f_fault_of_system, _, _, (ok_fault_of_system (P := l.prog) (base := base) Wd G_are_kinds G_count_of_sessions G_is_within O_Script___len__ F_fault_of_system), b_fault_of_system, k_fault_of_system, PySem.W.mg_of X G a_fault_of_system⟩
  have K_System : Dks l.prog w K mg base (Gam w C_Script C_Check C_Kind C_System C_BadText C_Reading) 5 "System" 4 m_System___init__ ["ahead", "window", "crashes"] gSystem := sys_ks Wd G_fault_of_system l_System___init__ c_System___init__ rfl (PySem.W.mg_of X G aSystem) ⟨mkSystem, a_System___init__, i_System___init__, kcSystem⟩
  have O_System___getitem__ : Dn' l.prog w K mg base (Gam w C_Script C_Check C_Kind C_System C_BadText C_Reading) 5 "__getitem__" 1 m_System___getitem__ := ⟨C_System, f_System___getitem__, _, _, rfl, ⟨a_System___getitem__, i_System___getitem__⟩, fg_System___getitem__, (ok_System___getitem__ (P := l.prog) (base := base) Wd  F_System___getitem__), b_System___getitem__⟩
  have G_indented : Df l.prog w K mg base (Gam w C_Script C_Check C_Kind C_System C_BadText C_Reading) "indented" 1 m_indented := ⟨f_indented, _, _, (ok_indented (P := l.prog) (base := base) Wd  F_indented), b_indented, k_indented, PySem.W.mg_of X G a_indented⟩
  have G_rows_of : Df l.prog w K mg base (Gam w C_Script C_Check C_Kind C_System C_BadText C_Reading) "rows_of" 5 m_rows_of := rowsR (P := l.prog) (base := base) (Γ := (Gam w C_Script C_Check C_Kind C_System C_BadText C_Reading)) Wd G_indented F_rows_of b_rows_of k_rows_of (PySem.W.mg_of X G a_rows_of) 3
  have G_write_system : Df l.prog w K mg base (Gam w C_Script C_Check C_Kind C_System C_BadText C_Reading) "write_system" 6 m_write_system := ⟨f_write_system, _, _, (ok_write_system (P := l.prog) (base := base) Wd G_indented G_rows_of F_write_system), b_write_system, k_write_system, PySem.W.mg_of X G a_write_system⟩
  have G_shortest_kind : Df l.prog w K mg base (Gam w C_Script C_Check C_Kind C_System C_BadText C_Reading) "shortest_kind" 17 m_shortest_kind := ⟨f_shortest_kind, _, _, (ok_shortest_kind (P := l.prog) (base := base) Wd K_Kind F_shortest_kind), b_shortest_kind, k_shortest_kind, PySem.W.mg_of X G a_shortest_kind⟩
  have G_with_kinds : Df l.prog w K mg base (Gam w C_Script C_Check C_Kind C_System C_BadText C_Reading) "with_kinds" 6 m_with_kinds := ⟨f_with_kinds, _, _, (ok_with_kinds (P := l.prog) (base := base) Wd K_System F_with_kinds), b_with_kinds, k_with_kinds, PySem.W.mg_of X G a_with_kinds⟩
  have G_digit_of : Df l.prog w K mg base (Gam w C_Script C_Check C_Kind C_System C_BadText C_Reading) "digit_of" 1 m_digit_of := ⟨f_digit_of, _, _, (ok_digit_of (P := l.prog) (base := base) Wd  F_digit_of), b_digit_of, k_digit_of, PySem.W.mg_of X G a_digit_of⟩
  have K_Reading : Dk l.prog w K mg base (Gam w C_Script C_Check C_Kind C_System C_BadText C_Reading) 10 "Reading" 1 m_Reading___init__ := ⟨C_Reading, f_Reading___init__, _, _, rfl, PySem.W.mg_of X G aReading, ⟨mkReading, a_Reading___init__, i_Reading___init__, kcReading⟩, (ok_Reading___init__ (P := l.prog) (base := base) Wd  F_Reading___init__), b_Reading___init__⟩
  have G_Reading_words : Dm l.prog w K mg base (Gam w C_Script C_Check C_Kind C_System C_BadText C_Reading) 10 "words" 1 m_Reading_words := ⟨⟨C_Reading, f_Reading_words, _, _, rfl, Cl_Reading, ⟨a_Reading_words, i_Reading_words, k_Reading_words⟩, (ok_Reading_words (P := l.prog) (base := base) Wd  F_Reading_words), b_Reading_words⟩, by show _ ∉ gfs 10; decide +kernel⟩
  have G_Reading_fields : Dm l.prog w K mg base (Gam w C_Script C_Check C_Kind C_System C_BadText C_Reading) 10 "fields" 3 m_Reading_fields := ⟨⟨C_Reading, f_Reading_fields, _, _, rfl, Cl_Reading, ⟨a_Reading_fields, i_Reading_fields, k_Reading_fields⟩, (ok_Reading_fields (P := l.prog) (base := base) Wd G_Reading_words X_BadText F_Reading_fields), b_Reading_fields⟩, by show _ ∉ gfs 10; decide +kernel⟩
  have G_Reading_read_frame : Dm l.prog w K mg base (Gam w C_Script C_Check C_Kind C_System C_BadText C_Reading) 10 "read_frame" 18 m_Reading_read_frame := ⟨⟨C_Reading, f_Reading_read_frame, _, _, rfl, Cl_Reading, ⟨a_Reading_read_frame, i_Reading_read_frame, k_Reading_read_frame⟩, (ok_Reading_read_frame (P := l.prog) (base := base) Wd G_Reading_fields G_digit_of G_shortest_kind K_System F_Reading_read_frame), b_Reading_read_frame⟩, by show _ ∉ gfs 10; decide +kernel⟩
  have GRR := readR (P := l.prog) (base := base) (Γ := (Gam w C_Script C_Check C_Kind C_System C_BadText C_Reading)) Wd G_Reading_fields G_Reading_words G_fault_of G_held_after X_BadText F_Reading_read_branch F_Reading_read_statement b_Reading_read_branch b_Reading_read_statement rfl Cl_Reading ⟨a_Reading_read_branch, i_Reading_read_branch, k_Reading_read_branch⟩ ⟨a_Reading_read_statement, i_Reading_read_statement, k_Reading_read_statement⟩ (by show _ ∉ gfs 10; decide +kernel) (by show _ ∉ gfs 10; decide +kernel) 6
  have G_Reading_read_branch : Dm l.prog w K mg base (Gam w C_Script C_Check C_Kind C_System C_BadText C_Reading) 10 "read_branch" 11 m_Reading_read_branch := GRR.1
  have G_Reading_read_statement := GRR.2
  have G_Reading_read_kind : Dm l.prog w K mg base (Gam w C_Script C_Check C_Kind C_System C_BadText C_Reading) 10 "read_kind" 18 m_Reading_read_kind := ⟨⟨C_Reading, f_Reading_read_kind, _, _, rfl, Cl_Reading, ⟨a_Reading_read_kind, i_Reading_read_kind, k_Reading_read_kind⟩, (ok_Reading_read_kind (P := l.prog) (base := base) Wd G_Reading_fields G_Reading_read_branch G_digit_of G_shortest_kind G_with_kinds K_Kind X_BadText F_Reading_read_kind), b_Reading_read_kind⟩, by show _ ∉ gfs 10; decide +kernel⟩
  have G_read_system : Df l.prog w K mg base (Gam w C_Script C_Check C_Kind C_System C_BadText C_Reading) "read_system" 19 m_read_system := ⟨f_read_system, _, _, (ok_read_system (P := l.prog) (base := base) Wd G_Reading_read_frame G_Reading_read_kind G_with_kinds K_Reading X_BadText F_read_system), b_read_system, k_read_system, PySem.W.mg_of X G a_read_system⟩
  have G__law_box : Df l.prog w K mg base (Gam w C_Script C_Check C_Kind C_System C_BadText C_Reading) "_law_box" 1 m__law_box := ⟨f__law_box, _, _, (ok__law_box (P := l.prog) (base := base) Wd  F__law_box), b__law_box, k__law_box, PySem.W.mg_of X G a__law_box⟩
  have G__law_pick : Df l.prog w K mg base (Gam w C_Script C_Check C_Kind C_System C_BadText C_Reading) "_law_pick" 1 m__law_pick := ⟨f__law_pick, _, _, (ok__law_pick (P := l.prog) (base := base) Wd  F__law_pick), b__law_pick, k__law_pick, PySem.W.mg_of X G a__law_pick⟩
  have G__law_found : Df l.prog w K mg base (Gam w C_Script C_Check C_Kind C_System C_BadText C_Reading) "_law_found" 20 m__law_found := ⟨f__law_found, _, _, (ok__law_found (P := l.prog) (base := base) Wd G_read_system G_write_system X_BadText F__law_found), b__law_found, k__law_found, PySem.W.mg_of X G a__law_found⟩
  have G__law_joined : Df l.prog w K mg base (Gam w C_Script C_Check C_Kind C_System C_BadText C_Reading) "_law_joined" 1 m__law_joined := ⟨f__law_joined, _, _, (ok__law_joined (P := l.prog) (base := base) Wd  F__law_joined), b__law_joined, k__law_joined, PySem.W.mg_of X G a__law_joined⟩
  have G__law_deep : Df l.prog w K mg base (Gam w C_Script C_Check C_Kind C_System C_BadText C_Reading) "_law_deep" 2 m__law_deep := ⟨f__law_deep, _, _, (ok__law_deep (P := l.prog) (base := base) Wd G__law_pick F__law_deep), b__law_deep, k__law_deep, PySem.W.mg_of X G a__law_deep⟩
  have G__law_full : Df l.prog w K mg base (Gam w C_Script C_Check C_Kind C_System C_BadText C_Reading) "_law_full" 2 m__law_full := ⟨f__law_full, _, _, (ok__law_full (P := l.prog) (base := base) Wd G__law_pick F__law_full), b__law_full, k__law_full, PySem.W.mg_of X G a__law_full⟩
  have G__law_long : Df l.prog w K mg base (Gam w C_Script C_Check C_Kind C_System C_BadText C_Reading) "_law_long" 2 m__law_long := ⟨f__law_long, _, _, (ok__law_long (P := l.prog) (base := base) Wd G__law_pick F__law_long), b__law_long, k__law_long, PySem.W.mg_of X G a__law_long⟩
  have G__law_pairs : Df l.prog w K mg base (Gam w C_Script C_Check C_Kind C_System C_BadText C_Reading) "_law_pairs" 2 m__law_pairs := ⟨f__law_pairs, _, _, (ok__law_pairs (P := l.prog) (base := base) Wd G__law_pick F__law_pairs), b__law_pairs, k__law_pairs, PySem.W.mg_of X G a__law_pairs⟩
  have G__law_names : Df l.prog w K mg base (Gam w C_Script C_Check C_Kind C_System C_BadText C_Reading) "_law_names" 2 m__law_names := ⟨f__law_names, _, _, (ok__law_names (P := l.prog) (base := base) Wd G__law_pick F__law_names), b__law_names, k__law_names, PySem.W.mg_of X G a__law_names⟩
  exact law_fn (by rfl) (ok_law (P := l.prog) (base := base) Wd G__law_box G__law_deep G__law_found G__law_full G__law_joined G__law_long G__law_names G__law_pairs G__law_pick F_law)
end Mm
open PySem PySem.W PyProof.Rows
def PySem.W.Fast.tw15039626565686788289 : Nat := 0
def PySem.W.Fast.tw17780122973840305026 : Nat := 0
def PySem.W.Fast.tw4270463685883085155 : Nat := 0
def PySem.W.Fast.tw15414265314108680869 : Nat := 0
def PySem.W.Fast.tw13018610328736525127 : Nat := 0
def PySem.W.Fast.tw7605057541808591370 : Nat := 0
def PySem.W.Fast.tw3349183676564537419 : Nat := 0
def PySem.W.Fast.tw16728546016301072459 : Nat := 0
def PySem.W.Fast.tw11539392381523937229 : Nat := 0
def PySem.W.Fast.tw10170179280326474190 : Nat := 0
def PySem.W.Fast.tw4034231902112757550 : Nat := 0
def PySem.W.Fast.tw10259730760557356207 : Nat := 0
def PySem.W.Fast.tw18294251542919409487 : Nat := 0
def PySem.W.Fast.tw6576097430319587536 : Nat := 0
def PySem.W.Fast.tw7172822499172097296 : Nat := 0
def PySem.W.Fast.tw14461006229820565649 : Nat := 0
def PySem.W.Fast.tw16638064943395540115 : Nat := 0
def PySem.W.Fast.tw12905216705054359478 : Nat := 0
def PySem.W.Fast.tw17258176071621014650 : Nat := 0
def PySem.W.Fast.tw16456006152155563450 : Nat := 0
set_option maxRecDepth 100000 in
set_option maxHeartbeats 0 in
theorem PySem.Challenge.cw_takenahead_k80_lines_inside_of_scripts_holds : PySem.Challenge.rw_takenahead_k80_lines_inside_of_scripts.Holds := by
  w_on; o_law; k_head; (case hw => w_witness2)
  k_fill
  refine Mm.walkR (l := PySem.Challenge.rw_takenahead_k80_lines_inside_of_scripts) rfl rfl (fun w h Y => PySem.W.kIn_of Y) ?F
  case F =>
    intro w mg fa h KX G hmg
    refine' Mm.all_mk KX G hmg ?aTakeError ?iTakeError ?tTakeError ?aBadScript ?iBadScript ?tBadScript ?aBadSystem ?iBadSystem ?tBadSystem ?aScript ?pgScript ?hdScript ?poScript ?saScript ?mkScript ?kcScript ?nScript_found ?nScript_places ?nScript_statements ?aCheck ?pgCheck ?hdCheck ?poCheck ?saCheck ?mkCheck ?kcCheck ?nCheck_found ?aKind ?pgKind ?hdKind ?poKind ?saKind ?mkKind ?kcKind ?nKind_block ?nKind_many ?nKind_name ?nKind_script ?aSystem ?pgSystem ?hdSystem ?poSystem ?saSystem ?mkSystem ?kcSystem ?nSystem_ahead ?nSystem_crashes ?nSystem_kinds ?nSystem_sessions ?nSystem_window ?aBadText ?xBadText ?saBadText ?gaBadText ?ggBadText ?nfBadText ?eBadText ?tBadText ?hBadText ?kcBadText ?caBadText ?obBadText ?iBadText ?sBadText_BadText ?sBadText_TakeError ?dBadText_TakeError ?sBadText_BadScript ?dBadText_BadScript ?sBadText_BadSystem ?dBadText_BadSystem ?aReading ?pgReading ?hdReading ?poReading ?saReading ?mkReading ?kcReading ?nReading_at ?nReading_room ?nReading_rows ?cn ?ct ?caScript ?obScript ?icScript ?tcScript ?uScript_tuple ?caKind ?obKind ?icKind ?tcKind ?a_BadText___init__ ?i_BadText___init__ ?l_BadText___init__ ?c_BadText___init__ ?k_BadText___init__ ?a_is_integer ?l_is_integer ?c_is_integer ?k_is_integer ?a_is_within ?l_is_within ?c_is_within ?k_is_within ?a_is_name ?l_is_name ?c_is_name ?k_is_name ?a_held_after ?l_held_after ?c_held_after ?k_held_after ?a_has_form ?l_has_form ?c_has_form ?k_has_form ?a_fault_of ?l_fault_of ?c_fault_of ?k_fault_of ?a_answers_of ?l_answers_of ?c_answers_of ?k_answers_of ?a_is_answer ?l_is_answer ?c_is_answer ?k_is_answer ?a_script_of ?l_script_of ?c_script_of ?k_script_of ?a_count_of_sessions ?l_count_of_sessions ?c_count_of_sessions ?k_count_of_sessions ?a_are_kinds ?l_are_kinds ?c_are_kinds ?k_are_kinds ?a_fault_of_system ?l_fault_of_system ?c_fault_of_system ?k_fault_of_system ?a_indented ?l_indented ?c_indented ?k_indented ?a_rows_of ?l_rows_of ?c_rows_of ?k_rows_of ?a_write_system ?l_write_system ?c_write_system ?k_write_system ?a_shortest_kind ?l_shortest_kind ?c_shortest_kind ?k_shortest_kind ?a_with_kinds ?l_with_kinds ?c_with_kinds ?k_with_kinds ?a_digit_of ?l_digit_of ?c_digit_of ?k_digit_of ?a_read_system ?l_read_system ?c_read_system ?k_read_system ?a__law_box ?l__law_box ?c__law_box ?k__law_box ?a__law_pick ?l__law_pick ?c__law_pick ?k__law_pick ?a__law_found ?l__law_found ?c__law_found ?k__law_found ?a__law_joined ?l__law_joined ?c__law_joined ?k__law_joined ?a__law_deep ?l__law_deep ?c__law_deep ?k__law_deep ?a__law_full ?l__law_full ?c__law_full ?k__law_full ?a__law_long ?l__law_long ?c__law_long ?k__law_long ?a__law_pairs ?l__law_pairs ?c__law_pairs ?k__law_pairs ?a__law_names ?l__law_names ?c__law_names ?k__law_names ?a_law ?l_law ?c_law ?k_law ?a_Check___init__ ?i_Check___init__ ?l_Check___init__ ?c_Check___init__ ?k_Check___init__ ?a_Check_check_branch ?i_Check_check_branch ?l_Check_check_branch ?c_Check_check_branch ?k_Check_check_branch ?a_Check_check_statement ?i_Check_check_statement ?l_Check_check_statement ?c_Check_check_statement ?k_Check_check_statement ?a_Script___init__ ?i_Script___init__ ?l_Script___init__ ?c_Script___init__ ?k_Script___init__ ?a_Script___len__ ?i_Script___len__ ?l_Script___len__ ?c_Script___len__ ?k_Script___len__ ?fg_Script___len__ ?a_Script___contains__ ?i_Script___contains__ ?l_Script___contains__ ?c_Script___contains__ ?k_Script___contains__ ?fg_Script___contains__ ?a_Script___getitem__ ?i_Script___getitem__ ?l_Script___getitem__ ?c_Script___getitem__ ?k_Script___getitem__ ?fg_Script___getitem__ ?a_Script_behind ?i_Script_behind ?l_Script_behind ?c_Script_behind ?k_Script_behind ?a_Script_after ?i_Script_after ?l_Script_after ?c_Script_after ?k_Script_after ?lT_Script_after ?a_Kind___init__ ?i_Kind___init__ ?l_Kind___init__ ?c_Kind___init__ ?k_Kind___init__ ?a_System___init__ ?i_System___init__ ?l_System___init__ ?c_System___init__ ?k_System___init__ ?a_System___getitem__ ?i_System___getitem__ ?l_System___getitem__ ?c_System___getitem__ ?k_System___getitem__ ?fg_System___getitem__ ?a_Reading___init__ ?i_Reading___init__ ?l_Reading___init__ ?c_Reading___init__ ?k_Reading___init__ ?a_Reading_words ?i_Reading_words ?l_Reading_words ?c_Reading_words ?k_Reading_words ?a_Reading_fields ?i_Reading_fields ?l_Reading_fields ?c_Reading_fields ?k_Reading_fields ?a_Reading_read_frame ?i_Reading_read_frame ?l_Reading_read_frame ?c_Reading_read_frame ?k_Reading_read_frame ?a_Reading_read_branch ?i_Reading_read_branch ?l_Reading_read_branch ?c_Reading_read_branch ?k_Reading_read_branch ?a_Reading_read_statement ?i_Reading_read_statement ?l_Reading_read_statement ?c_Reading_read_statement ?k_Reading_read_statement ?a_Reading_read_kind ?i_Reading_read_kind ?l_Reading_read_kind ?c_Reading_read_kind ?k_Reading_read_kind ?kdKind_block ?kdKind_many ?kdSystem_ahead ?kdSystem_window ?kdSystem_crashes ?z_all ?z_any ?z_bool ?z_enumerate ?z_int ?z_isinstance ?z_len ?z_list ?z_max ?z_range ?z_set ?z_str ?z_sum ?z_tuple ?z_zip ?v_DIGITS ?v_LONGEST_NAME ?v_LONGEST_OF_MANY ?v_MOST_AHEAD ?v_MOST_BLOCK ?v_MOST_CRASHES ?v_MOST_HELD ?v_MOST_NESTED ?v_MOST_SESSIONS ?v_MOST_STATEMENTS ?v_MOST_WINDOW ?v_OF_BRANCHES ?v_OF_KINDS ?v_OF_SCRIPTS ?v_OF_WORDS ?z_ValueError ?mv_BadText ?v_SYSTEM_ROW ?lGSYSTEM_ROW ?eGSYSTEM_ROW ?v_KIND_ROW ?lGKIND_ROW ?eGKIND_ROW ?v_ITEMS ?lkITEMS ?klITEMS ?smITEMS ?eITEMS_take ?eITEMS_commit ?eITEMS_rollback ?eITEMS_drop ?eITEMS_leave ?eITEMS_lock ?eITEMS_unlock ?eITEMS_choose
    (case aBadText => k_is)
    (case aTakeError => k_is)
    (case iTakeError => k_is)
    (case tTakeError => k_is)
    (case aBadScript => k_is)
    (case iBadScript => k_is)
    (case tBadScript => k_is)
    (case aBadSystem => k_is)
    (case iBadSystem => k_is)
    (case tBadSystem => k_is)
    (case aScript => k_is)
    (case pgScript => k_is)
    (case hdScript => k_is)
    (case poScript => k_is)
    (case saScript => k_is)
    (case mkScript => k_is)
    (case kcScript => k_is)
    (case nScript_found => k_is)
    (case nScript_places => k_is)
    (case nScript_statements => k_is)
    (case aCheck => k_is)
    (case pgCheck => k_is)
    (case hdCheck => k_is)
    (case poCheck => k_is)
    (case saCheck => k_is)
    (case mkCheck => k_is)
    (case kcCheck => k_is)
    (case nCheck_found => k_is)
    (case aKind => k_is)
    (case pgKind => k_is)
    (case hdKind => k_is)
    (case poKind => k_is)
    (case saKind => k_is)
    (case mkKind => k_is)
    (case kcKind => k_is)
    (case nKind_block => k_is)
    (case nKind_many => k_is)
    (case nKind_name => k_is)
    (case nKind_script => k_is)
    (case aSystem => k_is)
    (case pgSystem => k_is)
    (case hdSystem => k_is)
    (case poSystem => k_is)
    (case saSystem => k_is)
    (case mkSystem => k_is)
    (case kcSystem => k_is)
    (case nSystem_ahead => k_is)
    (case nSystem_crashes => k_is)
    (case nSystem_kinds => k_is)
    (case nSystem_sessions => k_is)
    (case nSystem_window => k_is)
    (case xBadText => k_is)
    (case saBadText => k_is)
    (case gaBadText => k_is)
    (case ggBadText => k_is)
    (case nfBadText => k_is)
    (case eBadText => k_is)
    (case tBadText => k_is)
    (case hBadText => k_is)
    (case kcBadText => k_is)
    (case caBadText => k_is)
    (case obBadText => k_is)
    (case iBadText => k_is)
    (case sBadText_BadText => k_is)
    (case sBadText_TakeError => k_is)
    (case dBadText_TakeError => (first | rfl | decide))
    (case sBadText_BadScript => k_is)
    (case dBadText_BadScript => (first | rfl | decide))
    (case sBadText_BadSystem => k_is)
    (case dBadText_BadSystem => (first | rfl | decide))
    (case aReading => k_is)
    (case pgReading => k_is)
    (case hdReading => k_is)
    (case poReading => k_is)
    (case saReading => k_is)
    (case mkReading => k_is)
    (case kcReading => k_is)
    (case nReading_at => k_is)
    (case nReading_room => k_is)
    (case nReading_rows => k_is)
    (case cn => k_is)
    (case ct => k_is)
    (case caScript => k_is)
    (case obScript => k_is)
    (case icScript => k_is)
    (case tcScript => k_is)
    (case uScript_tuple => k_is)
    (case caKind => k_is)
    (case obKind => k_is)
    (case icKind => k_is)
    (case tcKind => k_is)
    (case a_BadText___init__ => k_is)
    (case i_BadText___init__ => k_is)
    (case l_BadText___init__ => k_is)
    (case c_BadText___init__ => k_is)
    (case k_BadText___init__ => k_is)
    (case a_is_integer => k_is)
    (case l_is_integer => k_is)
    (case c_is_integer => k_is)
    (case k_is_integer => k_is)
    (case a_is_within => k_is)
    (case l_is_within => k_is)
    (case c_is_within => k_is)
    (case k_is_within => k_is)
    (case a_is_name => k_is)
    (case l_is_name => k_is)
    (case c_is_name => k_is)
    (case k_is_name => k_is)
    (case a_held_after => k_is)
    (case l_held_after => k_is)
    (case c_held_after => k_is)
    (case k_held_after => k_is)
    (case a_has_form => k_is)
    (case l_has_form => k_is)
    (case c_has_form => k_is)
    (case k_has_form => k_is)
    (case a_fault_of => k_is)
    (case l_fault_of => k_is)
    (case c_fault_of => k_is)
    (case k_fault_of => k_is)
    (case a_answers_of => k_is)
    (case l_answers_of => k_is)
    (case c_answers_of => k_is)
    (case k_answers_of => k_is)
    (case a_is_answer => k_is)
    (case l_is_answer => k_is)
    (case c_is_answer => k_is)
    (case k_is_answer => k_is)
    (case a_script_of => k_is)
    (case l_script_of => k_is)
    (case c_script_of => k_is)
    (case k_script_of => k_is)
    (case a_count_of_sessions => k_is)
    (case l_count_of_sessions => k_is)
    (case c_count_of_sessions => k_is)
    (case k_count_of_sessions => k_is)
    (case a_are_kinds => k_is)
    (case l_are_kinds => k_is)
    (case c_are_kinds => k_is)
    (case k_are_kinds => k_is)
    (case a_fault_of_system => k_is)
    (case l_fault_of_system => k_is)
    (case c_fault_of_system => k_is)
    (case k_fault_of_system => k_is)
    (case a_indented => k_is)
    (case l_indented => k_is)
    (case c_indented => k_is)
    (case k_indented => k_is)
    (case a_rows_of => k_is)
    (case l_rows_of => k_is)
    (case c_rows_of => k_is)
    (case k_rows_of => k_is)
    (case a_write_system => k_is)
    (case l_write_system => k_is)
    (case c_write_system => k_is)
    (case k_write_system => k_is)
    (case a_shortest_kind => k_is)
    (case l_shortest_kind => k_is)
    (case c_shortest_kind => k_is)
    (case k_shortest_kind => k_is)
    (case a_with_kinds => k_is)
    (case l_with_kinds => k_is)
    (case c_with_kinds => k_is)
    (case k_with_kinds => k_is)
    (case a_digit_of => k_is)
    (case l_digit_of => k_is)
    (case c_digit_of => k_is)
    (case k_digit_of => k_is)
    (case a_read_system => k_is)
    (case l_read_system => k_is)
    (case c_read_system => k_is)
    (case k_read_system => k_is)
    (case a__law_box => k_is)
    (case l__law_box => k_is)
    (case c__law_box => k_is)
    (case k__law_box => k_is)
    (case a__law_pick => k_is)
    (case l__law_pick => k_is)
    (case c__law_pick => k_is)
    (case k__law_pick => k_is)
    (case a__law_found => k_is)
    (case l__law_found => k_is)
    (case c__law_found => k_is)
    (case k__law_found => k_is)
    (case a__law_joined => k_is)
    (case l__law_joined => k_is)
    (case c__law_joined => k_is)
    (case k__law_joined => k_is)
    (case a__law_deep => k_is)
    (case l__law_deep => k_is)
    (case c__law_deep => k_is)
    (case k__law_deep => k_is)
    (case a__law_full => k_is)
    (case l__law_full => k_is)
    (case c__law_full => k_is)
    (case k__law_full => k_is)
    (case a__law_long => k_is)
    (case l__law_long => k_is)
    (case c__law_long => k_is)
    (case k__law_long => k_is)
    (case a__law_pairs => k_is)
    (case l__law_pairs => k_is)
    (case c__law_pairs => k_is)
    (case k__law_pairs => k_is)
    (case a__law_names => k_is)
    (case l__law_names => k_is)
    (case c__law_names => k_is)
    (case k__law_names => k_is)
    (case a_law => k_is)
    (case l_law => k_is)
    (case c_law => k_is)
    (case k_law => k_is)
    (case a_Check___init__ => k_is)
    (case i_Check___init__ => k_is)
    (case l_Check___init__ => k_is)
    (case c_Check___init__ => k_is)
    (case k_Check___init__ => k_is)
    (case a_Check_check_branch => k_is)
    (case i_Check_check_branch => k_is)
    (case l_Check_check_branch => k_is)
    (case c_Check_check_branch => k_is)
    (case k_Check_check_branch => k_is)
    (case a_Check_check_statement => k_is)
    (case i_Check_check_statement => k_is)
    (case l_Check_check_statement => k_is)
    (case c_Check_check_statement => k_is)
    (case k_Check_check_statement => k_is)
    (case a_Script___init__ => k_is)
    (case i_Script___init__ => k_is)
    (case l_Script___init__ => k_is)
    (case c_Script___init__ => k_is)
    (case k_Script___init__ => k_is)
    (case a_Script___len__ => k_is)
    (case i_Script___len__ => k_is)
    (case l_Script___len__ => k_is)
    (case c_Script___len__ => k_is)
    (case k_Script___len__ => k_is)
    (case fg_Script___len__ => k_is)
    (case a_Script___contains__ => k_is)
    (case i_Script___contains__ => k_is)
    (case l_Script___contains__ => k_is)
    (case c_Script___contains__ => k_is)
    (case k_Script___contains__ => k_is)
    (case fg_Script___contains__ => k_is)
    (case a_Script___getitem__ => k_is)
    (case i_Script___getitem__ => k_is)
    (case l_Script___getitem__ => k_is)
    (case c_Script___getitem__ => k_is)
    (case k_Script___getitem__ => k_is)
    (case fg_Script___getitem__ => k_is)
    (case a_Script_behind => k_is)
    (case i_Script_behind => k_is)
    (case l_Script_behind => k_is)
    (case c_Script_behind => k_is)
    (case k_Script_behind => k_is)
    (case a_Script_after => k_is)
    (case i_Script_after => k_is)
    (case l_Script_after => k_is)
    (case c_Script_after => k_is)
    (case k_Script_after => k_is)
    (case lT_Script_after => k_is)
    (case a_Kind___init__ => k_is)
    (case i_Kind___init__ => k_is)
    (case l_Kind___init__ => k_is)
    (case c_Kind___init__ => k_is)
    (case k_Kind___init__ => k_is)
    (case a_System___init__ => k_is)
    (case i_System___init__ => k_is)
    (case l_System___init__ => k_is)
    (case c_System___init__ => k_is)
    (case k_System___init__ => k_is)
    (case a_System___getitem__ => k_is)
    (case i_System___getitem__ => k_is)
    (case l_System___getitem__ => k_is)
    (case c_System___getitem__ => k_is)
    (case k_System___getitem__ => k_is)
    (case fg_System___getitem__ => k_is)
    (case a_Reading___init__ => k_is)
    (case i_Reading___init__ => k_is)
    (case l_Reading___init__ => k_is)
    (case c_Reading___init__ => k_is)
    (case k_Reading___init__ => k_is)
    (case a_Reading_words => k_is)
    (case i_Reading_words => k_is)
    (case l_Reading_words => k_is)
    (case c_Reading_words => k_is)
    (case k_Reading_words => k_is)
    (case a_Reading_fields => k_is)
    (case i_Reading_fields => k_is)
    (case l_Reading_fields => k_is)
    (case c_Reading_fields => k_is)
    (case k_Reading_fields => k_is)
    (case a_Reading_read_frame => k_is)
    (case i_Reading_read_frame => k_is)
    (case l_Reading_read_frame => k_is)
    (case c_Reading_read_frame => k_is)
    (case k_Reading_read_frame => k_is)
    (case a_Reading_read_branch => k_is)
    (case i_Reading_read_branch => k_is)
    (case l_Reading_read_branch => k_is)
    (case c_Reading_read_branch => k_is)
    (case k_Reading_read_branch => k_is)
    (case a_Reading_read_statement => k_is)
    (case i_Reading_read_statement => k_is)
    (case l_Reading_read_statement => k_is)
    (case c_Reading_read_statement => k_is)
    (case k_Reading_read_statement => k_is)
    (case a_Reading_read_kind => k_is)
    (case i_Reading_read_kind => k_is)
    (case l_Reading_read_kind => k_is)
    (case c_Reading_read_kind => k_is)
    (case k_Reading_read_kind => k_is)
    (case kdKind_block => k_is)
    (case kdKind_many => k_is)
    (case kdSystem_ahead => k_is)
    (case kdSystem_window => k_is)
    (case kdSystem_crashes => k_is)
    (case z_all => k_is)
    (case z_any => k_is)
    (case z_bool => k_is)
    (case z_enumerate => k_is)
    (case z_int => k_is)
    (case z_isinstance => k_is)
    (case z_len => k_is)
    (case z_list => k_is)
    (case z_max => k_is)
    (case z_range => k_is)
    (case z_set => k_is)
    (case z_str => k_is)
    (case z_sum => k_is)
    (case z_tuple => k_is)
    (case z_zip => k_is)
    (case v_DIGITS => k_is)
    (case v_LONGEST_NAME => k_is)
    (case v_LONGEST_OF_MANY => k_is)
    (case v_MOST_AHEAD => k_is)
    (case v_MOST_BLOCK => k_is)
    (case v_MOST_CRASHES => k_is)
    (case v_MOST_HELD => k_is)
    (case v_MOST_NESTED => k_is)
    (case v_MOST_SESSIONS => k_is)
    (case v_MOST_STATEMENTS => k_is)
    (case v_MOST_WINDOW => k_is)
    (case v_OF_BRANCHES => k_is)
    (case v_OF_KINDS => k_is)
    (case v_OF_SCRIPTS => k_is)
    (case v_OF_WORDS => k_is)
    (case z_ValueError => k_is)
    (case mv_BadText => k_is)
    (case v_SYSTEM_ROW => k_is)
    (case lGSYSTEM_ROW => k_is)
    (case eGSYSTEM_ROW => rfl)
    (case v_KIND_ROW => k_is)
    (case lGKIND_ROW => k_is)
    (case eGKIND_ROW => rfl)
    (case v_ITEMS => k_is)
    (case lkITEMS => k_is)
    (case klITEMS => (repeat (first | exact trivial | refine ⟨⟨_, _, rfl, rfl⟩, ?_⟩)))
    (case smITEMS => first | rfl | decide)
    (case eITEMS_take => k_is)
    (case eITEMS_commit => k_is)
    (case eITEMS_rollback => k_is)
    (case eITEMS_drop => k_is)
    (case eITEMS_leave => k_is)
    (case eITEMS_lock => k_is)
    (case eITEMS_unlock => k_is)
    (case eITEMS_choose => k_is)
