import PyProof.Rows.All
import Wide.All
import OpenK.AllK
import Wide.FinOn
import HandS.ForMost
import HandS.TupAny
import HandS.TupLen
import HandS.TupLe
import HandS.Conv
import HandS.IsInst
import HandS.More
import HandS.OwnEq
import KE.GoesMore
import HandS.Walk
import HandS.Codes
import HandS.Exc
import HandS.MakeKwOnly
import HandS.Strs
import HandS.ExcInit
import HandS.ExcOwn
import HandS.ExcField
import HandS.ExcIs
import HandS.WordsExc
import HandS.DeepEq
import KE.KExcIs
import HandS.Star
import HandS.TupMul
import PySem.Challenge.RW_takenahead_k07_systems_refused
set_option Elab.async false
set_option linter.all false
set_option maxRecDepth 100000
namespace Tk
open PySem L2
/-! ## heaps -/
/-- all but what stands at p is as it was -/
def Kp (p : Addr) (H H' : Hp) : Prop := ∀ b o, H b = some o → b ≠ p → H' b = some o
theorem Kp.refl (p : Addr) (H : Hp) : Kp p H H := fun _ _ e _ => e
theorem Kp.trans {p : Addr} {H H1 H2 : Hp} (a : Kp p H H1) (b : Kp p H1 H2) : Kp p H H2 := fun c o e n => b c o (a c o e n) n
theorem Kp.upd {p : Addr} {H : Hp} {o : HO} : Kp p H (L2.upd H p o) := fun c u e n => by rw [upd_ne n]; exact e
theorem Kp.new {p q : Addr} {H H' : Hp} {o : HO} (a : Kp p H H') (n : H' q = none) : Kp p H (L2.upd H' q o) := fun c u e m => by
  rw [upd_ne (ne_of_none (a c u e m) n)]; exact a c u e m
theorem Kp.of_same {p : Addr} {H H' : Hp} (a : Same H H') : Kp p H H' := fun c o e _ => a c o e
theorem same_new {H : Hp} {p : Addr} (h : H p = none) (o : HO) : Same H (L2.upd H p o) := fun b u q => by rw [upd_ne (ne_of_none q h)]; exact q
/-- the pool: three whole numbers -/
def PoolAt (H : Hp) (p : Addr) : Prop := ∃ a b c : Int, H p = some (.lst [.int a, .int b, .int c])
theorem Kp.tup {p q : Addr} {H H' : Hp} {xs : List V} {ys : List V} (k : Kp p H H') (hp : H p = some (.lst ys)) (h : H q = some (.tup xs)) : H' q = some (.tup xs) :=
  k q _ h (ne_of h hp (by intro z; cases z))
/-! ## numbers -/
theorem fmod_ok {a n : Int} (h : 0 < n) : 0 ≤ a.fmod n ∧ a.fmod n < n := ⟨Int.fmod_nonneg_of_pos a h, Int.fmod_lt_of_pos a h⟩
/-! ## texts -/
def Low (z : Str) : Prop := ∀ c ∈ z.cps.toList, 97 ≤ c ∧ c ≤ 122
def IsName (z : Str) : Prop := 1 ≤ z.length ∧ z.length ≤ 8 ∧ Low z
abbrev alpha : Str := "abcdefghijklmnopqrstuvwxyz"
theorem alpha_all : ∀ n : Fin 26, atI alpha.cps.toList ((n.val : Nat) : Int) = some (97 + n.val) := by decide +kernel
theorem alpha_at {i : Int} (h0 : 0 ≤ i) (h1 : i < 26) : ∃ c, atI alpha.cps.toList i = some c ∧ 97 ≤ c ∧ c ≤ 122 := by
  have e : i = ((i.toNat : Nat) : Int) := by omega
  have q := alpha_all ⟨i.toNat, by omega⟩
  rw [e]
  exact ⟨_, q, by simp, by simp; omega⟩
theorem low_nil : Low ("" : Str) := fun c h => by cases h
theorem low_app {x y : Str} (a : Low x) (b : Low y) : Low (x ++ y) := fun c h => by
  have h' : c ∈ (x.cps ++ y.cps).toList := h
  rw [Array.toList_append] at h'
  rcases List.mem_append.mp h' with q | q
  · exact a c q
  · exact b c q
theorem low_one {c : Nat} (h : 97 ≤ c ∧ c ≤ 122) : Low ⟨#[c]⟩ := fun d q => by
  have e : d = c := by simpa using q
  rw [e]; exact h
theorem low_cut {x : Str} (a : Low x) (lo hi : Option Int) : Low (cutS x lo hi) := fun c h => by
  have h' : c ∈ ((x.cps.toList.drop (HT.sIx x.length 0 lo)).take (HT.sIx x.length x.length hi - HT.sIx x.length 0 lo)) := by simpa [cutS] using h
  exact a c (List.mem_of_mem_drop (List.mem_of_mem_take h'))
theorem len_app (x y : Str) : (x ++ y).length = x.length + y.length := by
  show (x.cps ++ y.cps).size = _
  rw [Array.size_append]; rfl
theorem len_one (c : Nat) : (⟨#[c]⟩ : Str).length = 1 := rfl
theorem len_cut_lo (x : Str) (k : Nat) (h : k ≤ x.length) : (cutS x none (some (k : Int))).length = k := by
  have e : x.cps.toList.length = x.length := by simp [Str.length]
  show (((x.cps.toList.drop (HT.sIx x.length 0 none)).take (HT.sIx x.length x.length (some (k : Int)) - HT.sIx x.length 0 none)).toArray).size = k
  rw [HT.sIx_nat, HT.sIx_none, List.size_toArray, List.length_take, List.length_drop, e]
  omega
theorem len_cut_hi (x : Str) (k : Nat) (h : k ≤ x.length) : (cutS x (some (k : Int)) none).length = x.length - k := by
  have e : x.cps.toList.length = x.length := by simp [Str.length]
  show (((x.cps.toList.drop (HT.sIx x.length 0 (some (k : Int)))).take (HT.sIx x.length x.length none - HT.sIx x.length 0 (some (k : Int)))).toArray).size = _
  rw [HT.sIx_nat, HT.sIx_none, List.size_toArray, List.length_take, List.length_drop, e]
  omega
theorem isName_mk {b : Str} {c : Nat} {k : Int} (hb : Low b) (hl : b.length ≤ 7) (hc : 97 ≤ c ∧ c ≤ 122) (h0 : 0 ≤ k) (h1 : k ≤ b.length) :
    IsName (cutS b none (some k) ++ ⟨#[c]⟩ ++ cutS b (some k) none) := by
  obtain ⟨n, rfl⟩ : ∃ n : Nat, k = (n : Int) := ⟨k.toNat, by omega⟩
  have hn : n ≤ b.length := by omega
  refine ⟨?_, ?_, low_app (low_app (low_cut hb _ _) (low_one hc)) (low_cut hb _ _)⟩
  · rw [len_app, len_app, len_one]; omega
  · rw [len_app, len_app, len_one, len_cut_lo b n hn, len_cut_hi b n hn]; omega
/-- the list of the three names -/
def NamesAt (H : Hp) (q : Addr) : Prop := ∃ x y z : Str, H q = some (.lst [.str x, .str y, .str z]) ∧ IsName x ∧ IsName y ∧ IsName z
/-! ## statements -/
inductive Wd | take | commit | rollback | drop | leave
  deriving DecidableEq
def Wd.s : Wd → Str
  | .take => "take" | .commit => "commit" | .rollback => "rollback" | .drop => "drop" | .leave => "leave"
def Wd.held : Wd → Int → Int
  | .take, h => h + 1 | .commit, _ => 0 | .rollback, _ => 0 | .leave, _ => 0 | .drop, h => h
/-- lock (true), unlock -/
def lockS (b : Bool) : Str := if b then "lock" else "unlock"
inductive Stm
  | one (w : Wd)
  | nam (b : Bool) (n : Str)
  | ch (y n : List Stm)
mutual
def Stm.d : Stm → PyData
  | .one w => .tuple [.str w.s]
  | .nam b n => .tuple [.str (lockS b), .str n]
  | .ch y n => .tuple [.str "choose", .tuple (dAll y), .tuple (dAll n)]
def dAll : List Stm → List PyData
  | [] => []
  | s :: r => s.d :: dAll r
end
mutual
def Stm.cnt : Stm → Nat
  | .one _ => 1
  | .nam _ _ => 1
  | .ch y n => 1 + cntAll y + cntAll n
def cntAll : List Stm → Nat
  | [] => 0
  | s :: r => s.cnt + cntAll r
end
mutual
def Stm.held : Stm → Int → Int
  | .one w, h => w.held h
  | .nam _ _, h => h
  | .ch y n, h => max (heldAll y h) (heldAll n h)
def heldAll : List Stm → Int → Int
  | [], h => h
  | s :: r, h => heldAll r (s.held h)
end
mutual
/-- s is a good statement inside of d chooses, when h numbers are held -/
def Stm.ok : Nat → Stm → Int → Prop
  | _, .one w, h => w = .take → h ≠ 3
  | _, .nam _ n, _ => IsName n
  | d, .ch y n, h => d < 2 ∧ okAll (d + 1) y h ∧ okAll (d + 1) n h
def okAll : Nat → List Stm → Int → Prop
  | _, [], _ => True
  | d, s :: r, h => s.ok d h ∧ okAll d r (s.held h)
end
mutual
/-- the value v is the statement s -/
def Stm.at : Hp → V → Stm → Prop
  | H, v, .one w => ∃ a, v = .ref a ∧ H a = some (.tup [.str w.s])
  | H, v, .nam b n => ∃ a, v = .ref a ∧ H a = some (.tup [.str (lockS b), .str n])
  | H, v, .ch y n => ∃ a b c xs ys, v = .ref a ∧ H a = some (.tup [.str "choose", .ref b, .ref c]) ∧ H b = some (.tup xs) ∧ atAll H xs y ∧ H c = some (.tup ys) ∧ atAll H ys n
def atAll : Hp → List V → List Stm → Prop
  | _, xs, [] => xs = []
  | H, xs, s :: r => ∃ v vs, xs = v :: vs ∧ s.at H v ∧ atAll H vs r
end
/-- tuples stay -/
def TK (H H' : Hp) : Prop := ∀ a xs, H a = some (.tup xs) → H' a = some (.tup xs)
theorem TK.refl (H : Hp) : TK H H := fun _ _ h => h
theorem TK.trans {H H1 H2 : Hp} (a : TK H H1) (b : TK H1 H2) : TK H H2 := fun c o h => b c o (a c o h)
theorem TK.of_same {H H' : Hp} (s : Same H H') : TK H H' := fun a xs h => s a _ h
theorem Kp.tk {p : Addr} {H H' : Hp} {ys : List V} (k : Kp p H H') (hp : H p = some (.lst ys)) : TK H H' := fun a xs h => k.tup hp h
mutual
theorem Stm.at_keep {H H' : Hp} (k : TK H H') : ∀ (s : Stm) (v : V), s.at H v → s.at H' v
  | .one w, v, h => by
    unfold Stm.at at h ⊢
    obtain ⟨a, e, h⟩ := h
    exact ⟨a, e, k _ _ h⟩
  | .nam b n, v, h => by
    unfold Stm.at at h ⊢
    obtain ⟨a, e, h⟩ := h
    exact ⟨a, e, k _ _ h⟩
  | .ch y n, v, h => by
    unfold Stm.at at h ⊢
    obtain ⟨a, b, c, xs, ys, e, h1, h2, h3, h4, h5⟩ := h
    exact ⟨a, b, c, xs, ys, e, k _ _ h1, k _ _ h2, atAll_keep k y xs h3, k _ _ h4, atAll_keep k n ys h5⟩
theorem atAll_keep {H H' : Hp} (k : TK H H') : ∀ (B : List Stm) (xs : List V), atAll H xs B → atAll H' xs B
  | [], xs, h => h
  | s :: r, xs, h => by
    unfold atAll at h ⊢
    obtain ⟨v, vs, e, h1, h2⟩ := h
    exact ⟨v, vs, e, Stm.at_keep k s v h1, atAll_keep k r vs h2⟩
end
theorem atAll_len {H : Hp} : ∀ {B : List Stm} {xs : List V}, atAll H xs B → xs.length = B.length
  | [], xs, h => by unfold atAll at h; rw [h]; rfl
  | s :: r, xs, h => by
    unfold atAll at h
    obtain ⟨v, vs, e, h1, h2⟩ := h
    rw [e, List.length_cons, List.length_cons, atAll_len h2]
theorem atAll_get {H : Hp} : ∀ {B : List Stm} {xs : List V} {i : Nat} {s : Stm}, atAll H xs B → B[i]? = some s → ∃ v, xs[i]? = some v ∧ s.at H v
  | [], xs, i, s, h, e => by simp at e
  | t :: r, xs, 0, s, h, e => by
    unfold atAll at h
    obtain ⟨v, vs, e1, h1, h2⟩ := h
    have e2 : t = s := Option.some.inj e
    exact ⟨v, by rw [e1]; rfl, e2 ▸ h1⟩
  | t :: r, xs, i + 1, s, h, e => by
    unfold atAll at h
    obtain ⟨v, vs, e1, h1, h2⟩ := h
    obtain ⟨u, h3, h4⟩ := atAll_get (i := i) (s := s) h2 e
    exact ⟨u, by rw [e1]; exact h3, h4⟩
theorem atAll_app {H : Hp} : ∀ {B C : List Stm} {xs ys : List V}, atAll H xs B → atAll H ys C → atAll H (xs ++ ys) (B ++ C)
  | [], C, xs, ys, h, g => by unfold atAll at h; rw [h]; exact g
  | s :: r, C, xs, ys, h, g => by
    unfold atAll at h
    obtain ⟨v, vs, e, h1, h2⟩ := h
    rw [e]
    show atAll H (v :: (vs ++ ys)) (s :: (r ++ C))
    unfold atAll
    exact ⟨v, vs ++ ys, rfl, h1, atAll_app h2 g⟩
theorem atAll_one {H : Hp} {s : Stm} {v : V} (h : s.at H v) : atAll H [v] [s] := by
  unfold atAll
  exact ⟨v, [], rfl, h, by unfold atAll; rfl⟩
theorem atAll_drop {H : Hp} : ∀ {B : List Stm} {xs : List V} (n : Nat), atAll H xs B → atAll H (xs.drop n) (B.drop n)
  | B, xs, 0, h => h
  | [], xs, n + 1, h => by unfold atAll at h; rw [h]; rfl
  | s :: r, xs, n + 1, h => by
    unfold atAll at h
    obtain ⟨v, vs, e, h1, h2⟩ := h
    rw [e]
    exact atAll_drop n h2
theorem heldAll_app : ∀ (B C : List Stm) (h : Int), heldAll (B ++ C) h = heldAll C (heldAll B h)
  | [], C, h => rfl
  | s :: r, C, h => by
    show heldAll (s :: (r ++ C)) h = heldAll C (heldAll (s :: r) h)
    rw [heldAll, heldAll]
    exact heldAll_app r C _
theorem okAll_app : ∀ (d : Nat) (B C : List Stm) (h : Int), okAll d B h → okAll d C (heldAll B h) → okAll d (B ++ C) h
  | d, [], C, h, _, g => by rw [heldAll] at g; exact g
  | d, s :: r, C, h, f, g => by
    rw [okAll] at f
    rw [heldAll] at g
    show okAll d (s :: (r ++ C)) h
    rw [okAll]
    exact ⟨f.1, okAll_app d r C _ f.2 g⟩
theorem cntAll_app : ∀ (B C : List Stm), cntAll (B ++ C) = cntAll B + cntAll C
  | [], C => by rw [cntAll]; simp
  | s :: r, C => by
    show cntAll (s :: (r ++ C)) = _
    rw [cntAll, cntAll, cntAll_app r C]; omega
theorem cnt_pos (s : Stm) : 1 ≤ s.cnt := by
  cases s <;> rw [Stm.cnt] <;> omega
theorem len_le_cnt : ∀ (B : List Stm), B.length ≤ cntAll B
  | [] => Nat.zero_le _
  | s :: r => by
    have := cnt_pos s
    have := len_le_cnt r
    rw [cntAll, List.length_cons]; omega
/-! ## what the draws stand on: the pool p, the box b (what is left, what is held), the names q -/
def BoxAt (H : Hp) (b : Addr) (k h : Int) : Prop := H b = some (.lst [.int k, .int h, .int 3])
structure Dr (H : Hp) (p b q : Addr) (k h : Int) : Prop where
  pool : PoolAt H p
  box : BoxAt H b k h
  names : NamesAt H q
  npb : p ≠ b
  npq : p ≠ q
  nbq : b ≠ q
def K2 (p b : Addr) (H H' : Hp) : Prop := ∀ a o, H a = some o → a ≠ p → a ≠ b → H' a = some o
theorem K2.refl (p b : Addr) (H : Hp) : K2 p b H H := fun _ _ e _ _ => e
theorem K2.trans {p b : Addr} {H H1 H2 : Hp} (x : K2 p b H H1) (y : K2 p b H1 H2) : K2 p b H H2 := fun c o e n m => y c o (x c o e n m) n m
theorem Kp.k2 {p b : Addr} {H H' : Hp} (k : Kp p H H') : K2 p b H H' := fun a o e n _ => k a o e n
theorem K2.upd {p b : Addr} {H : Hp} {o : HO} : K2 p b H (L2.upd H b o) := fun a u e _ n => by rw [upd_ne n]; exact e
theorem K2.new {p b q : Addr} {H H' : Hp} {o : HO} (k : K2 p b H H') (n : H' q = none) : K2 p b H (L2.upd H' q o) := fun c u e m m' => by
  rw [upd_ne (ne_of_none (k c u e m m') n)]; exact k c u e m m'
theorem Dr.tk {H H' : Hp} {p b q : Addr} {k h : Int} (D : Dr H p b q k h) (x : K2 p b H H') : TK H H' := fun a xs e => by
  obtain ⟨_, _, _, hp⟩ := D.pool
  exact x a _ e (ne_of e hp (by intro z; cases z)) (ne_of e D.box (by intro z; cases z))
theorem Dr.draw {H H' : Hp} {p b q : Addr} {k h : Int} (D : Dr H p b q k h) (x : Kp p H H') (y : PoolAt H' p) : Dr H' p b q k h := by
  obtain ⟨a1, a2, a3, hq, n1, n2, n3⟩ := D.names
  exact ⟨y, x b _ D.box D.npb.symm, ⟨a1, a2, a3, x q _ hq D.npq.symm, n1, n2, n3⟩, D.npb, D.npq, D.nbq⟩
theorem Dr.put {H : Hp} {p b q : Addr} {k h k' h' : Int} (D : Dr H p b q k h) : Dr (L2.upd H b (.lst [.int k', .int h', .int 3])) p b q k' h' := by
  obtain ⟨a1, a2, a3, hq, n1, n2, n3⟩ := D.names
  obtain ⟨x, y, z, hp⟩ := D.pool
  exact ⟨⟨x, y, z, by rw [upd_ne D.npb]; exact hp⟩, upd_same, ⟨a1, a2, a3, by rw [upd_ne D.nbq.symm]; exact hq, n1, n2, n3⟩, D.npb, D.npq, D.nbq⟩
theorem Dr.new {H : Hp} {p b q a : Addr} {o : HO} {k h : Int} (D : Dr H p b q k h) (n : H a = none) : Dr (L2.upd H a o) p b q k h := by
  obtain ⟨a1, a2, a3, hq, n1, n2, n3⟩ := D.names
  obtain ⟨x, y, z, hp⟩ := D.pool
  exact ⟨⟨x, y, z, by rw [upd_ne (ne_of_none hp n)]; exact hp⟩, by unfold BoxAt; rw [upd_ne (ne_of_none D.box n)]; exact D.box, ⟨a1, a2, a3, by rw [upd_ne (ne_of_none hq n)]; exact hq, n1, n2, n3⟩, D.npb, D.npq, D.nbq⟩
theorem names_at {H : Hp} {q : Addr} (h : NamesAt H q) {r : Int} (r0 : 0 ≤ r) (r1 : r < 3) : ∃ xs n, H q = some (.lst xs) ∧ atI xs r = some (.str n) ∧ IsName n := by
  obtain ⟨a1, a2, a3, hq, n1, n2, n3⟩ := h
  have e : r = 0 ∨ r = 1 ∨ r = 2 := by omega
  rcases e with rfl | rfl | rfl
  · exact ⟨_, a1, hq, rfl, n1⟩
  · exact ⟨_, a2, hq, rfl, n2⟩
  · exact ⟨_, a3, hq, rfl, n3⟩
end Tk
set_option maxRecDepth 100000
/-! Own rules: enumerate over a tuple; .get of a written dict; o[i], x in o, len(o) by the text's own methods. -/
namespace PySem
section
variable {prog : Program} {w : World} {A : Around} {E : Value → Shared → Prop} {s : Shared}
abbrev tkE (j : Addr) : Obj := { cls := .type "enumerate", data := .fields #[.none, .bool false, .ref j, rawInt 0, .none, .none] }
theorem tk_new {v : Value} {o : Obj} {T : Heap → Prop} (B : Begins v o T) :
    Meets (Builtin.«enumerate.__new__» ⟨[.type "enumerate", v], []⟩) (fun _ R s => T s.heap ∧ R (.ok (.ret (.ref (s.heap.push o).objs.size))) { s with heap := (s.heap.push o).push (tkE s.heap.objs.size) }) :=
  .of_wp fun prog w A R s h => by
    obtain ⟨hp, g, d, tk, os⟩ := s
    obtain ⟨h1, h⟩ := h
    have hz := sub_enumerate
    have it1 : ∀ {A' : Around} {E' : Value → Shared → Prop} {Q' : Value → Shared → Prop}, Q' (.ref hp.objs.size) ⟨hp.push o, g, d, tk, os⟩ → wpAny (model prog w) A' (pyIter v) Q' E' ⟨hp, g, d, tk, os⟩ := fun z => B.iter prog w _ _ ⟨hp, g, d, tk, os⟩ _ h1 z
    wp_walk using it1
    refine wpAny_stack_any fun _ => wpAny_pure ?_
    split
    · rename_i c _ _ _ _ _
      cases (c == Value.type "enumerate") <;> (wp_walk using it1; exact ⟨_, rfl, h⟩)
    · wp_walk using it1
      exact ⟨_, rfl, h⟩
theorem tk_enum {v : Value} {o : Obj} {T : Heap → Prop} {Q : Value → Shared → Prop} (B : Begins v o T) (h1 : T s.heap)
    (h : ∀ h', IsEnum h' (s.heap.objs.size + 1) s.heap.objs.size 0 .none → h'.get? s.heap.objs.size = some o → (∀ b u, s.heap.get? b = some u → h'.get? b = some u) → Q (.ref (s.heap.objs.size + 1)) { s with heap := h' }) :
    wpAny (model prog w) A (call (.type "enumerate") [v]) Q E s := by
  have z1 : (s.heap.push o).objs.size = s.heap.objs.size + 1 := Heap.size_push ..
  refine callType_new F.called_enumerate (by decide) (F.typeCall_enumerate_1 _) (F.newCall_enumerate_1 _) (fun obj => F.args_object_init_2 obj _) F.entry_enumerate_new (tk_new B) (And.intro h1 ?_)
  show _ ∧ _
  rw [z1]
  have q : ((s.heap.push o).push (tkE s.heap.objs.size)).get? (s.heap.push o).objs.size = some (tkE s.heap.objs.size) := Heap.get?_push_size _ rfl
  rw [z1] at q
  exact And.intro ⟨_, q, rfl⟩ (h _ q (Heap.get?_push_of_some _ (Heap.get?_push_size _ B.free)) fun b u y => Heap.get?_push_of_some _ (Heap.get?_push_of_some _ y))
end
end PySem
namespace L2
open PySem PySem.Spec PyProof.Rows
/-- the tuple at a, each item in a new pair with its number -/
def IteT (K : PySem.W.Frag) (a : Addr) : It where
  go := fun i H => ∃ (xs : List V) (x : V), SqT K H a xs ∧ xs[i]? = some x
  yld := fun i H v H' => ∃ T x, v = .ref T ∧ H T = none ∧ H' = upd H T (.tup [.int (i : Nat), x]) ∧ ∀ xs, SqT K H a xs → xs[i]? = some x
  stop := fun i H => ∃ xs : List V, SqT K H a xs ∧ xs.length = i
theorem tk_turn {P : Program} {w : World} {K : PySem.W.Frag} {elts : List Expr} {kk : Nat} {tp : Pos} (a e j : Addr) (n1 : a ≠ j) (n2 : e ≠ a) (n3 : e ≠ j) :
    Turn P w K (.Tuple elts kk tp) (IteT K a) [e, j] e (fun i h => (∃ old, IsEnum h e j ((i : Nat) : Int) old) ∧ h.IsTupleIter j a i) := by
  have two : ∀ b, b ∈ [e, j] → b = e ∨ b = j := fun b hb => by simpa using hb
  refine { mem := by simp, obj := ?_, keep := ?_, item := ?_, done := ?_, self := fun A i s Q E st h => wpAny_pyIter_enum st.1.choose_spec h }
  · intro i h st b hb
    obtain ⟨⟨old, he⟩, ⟨o, ho, _, hd⟩⟩ := st
    rcases two b hb with rfl | rfl
    · exact ⟨_, he, fun v q => nomatch q⟩
    · exact ⟨o, ho, fun v q => by rw [hd] at q; cases q⟩
  · intro i h h' st k
    obtain ⟨⟨old, he⟩, hi⟩ := st
    exact ⟨⟨old, k e (by simp) _ he⟩, hi.at fun o q => k j (by simp) o q⟩
  · intro X hP hw hK hc i pins s σ H E I hf st hg
    subst hP hw hK
    obtain ⟨⟨old, he⟩, hj⟩ := st
    obtain ⟨xs, x, hq, hx⟩ := hg
    obtain ⟨its, rv, p, hz⟩ := I.tuple hq
    obtain ⟨u, hu, ru⟩ := rv.get hx
    have szE : e < s.heap.objs.size := Heap.lt_size he
    have szJ : j < s.heap.objs.size := by obtain ⟨_, q, _⟩ := hj; exact Heap.lt_size q
    have hu2 : its.toArray[i]? = some u := by simpa using hu
    have hlt : i < its.toArray.size := by
      rcases Nat.lt_or_ge i its.toArray.size with z | z
      · exact z
      · rw [Array.getElem?_eq_none z] at hu2; cases hu2
    refine wpAny_pyNext_enum_itemD (Draws.tuple (show X.A.in1.handled = none from I.ok.hd hc) j a n1 its.toArray) he ⟨hj, p⟩ hlt n3 (fun z => by
      rcases List.mem_cons.mp z with z | z
      · exact n3 z
      · exact n2 (by simpa using z)) (fun y h' tk py ho st' hT hsz hk => ?_)
    have ey : y = u := Option.some.inj (py.symm.trans hu2)
    subst ey
    refine ⟨_, rfl, wpAny_letOwnedTupleGo_enum (s := { s with heap := h', toks := tk + 1 }) ho fun h'' he' sb => ?_⟩
    have gT : h''.get? s.heap.objs.size = some { cls := .type "tuple", data := .seq #[.int i tk, y] } := (sb.2 _ (Nat.ne_of_gt szE)).trans hT
    have nw : ObjOk X.prog X.w (upd H s.heap.objs.size (.tup [.int (i : Nat), x])) h'' s.heap.objs.size (.tup [.int (i : Nat), x]) :=
      ⟨by show 2 ≤ sizeLine; decide, [.int i tk, y], .cons ⟨_, rfl⟩ (.cons ru .nil), _, gT, rfl, _, rfl⟩
    have I1 : Inv X pins σ (upd H s.heap.objs.size (.tup [.int (i : Nat), x])) { s with heap := h'', toks := tk + 1 } :=
      I.turnedNew (ch := [e, j]) (fun b ob hb q => (sb.2 b fun z => hb (by simp [z])).trans (hk b ob (fun z => hb (by simp [z])) (fun z => hb (by simp [z])) q)) hf (Nat.le_refl _) nw
    refine ⟨.ref s.heap.objs.size, _, I1, rfl, ⟨_, x, rfl, I.hok.fresh (Nat.le_refl _), rfl, fun ys hy => by rw [I.tuple_inj hy hq]; exact hx⟩, ⟨⟨y, ?_⟩, st'.1.at fun o q => (sb.2 j n3.symm).trans q⟩, fun b hb => ?_⟩
    · have e1 : (i : Int) + 1 = ((i + 1 : Nat) : Int) := by omega
      rw [← e1]
      exact he'
    · have lb : b < s.heap.objs.size := by
        rcases two b hb with rfl | rfl
        · exact szE
        · exact szJ
      rw [upd_ne (Nat.ne_of_lt lb)]
      exact (hf b hb).1
  · intro X hP hw hK hc i pins s σ H E I hf st hg
    subst hP hw hK
    obtain ⟨⟨old, he⟩, hj⟩ := st
    obtain ⟨xs, hq, hx⟩ := hg
    obtain ⟨its, rv, p, hz⟩ := I.tuple hq
    obtain ⟨f0, f1, f2, f3, f4, f5⟩ := hf j (by simp)
    have hl : i = its.toArray.size := by rw [List.size_toArray, ← rv.length]; exact hx.symm
    subst hl
    exact wpAny_pyNext_enum_endD (Draws.tuple (show X.A.in1.handled = none from I.ok.hd hc) j a n1 its.toArray) he ⟨hj, p⟩ fun h' eb => ⟨rfl, I.turned (t' := s.toks) (fun b o hb q => eb b o hb q) f0 f1 f3 f4 f5⟩
/-- for i, x in enumerate(t), t a tuple -/
def iEnumT (K : PySem.W.Frag) (ta : TA) : TI := fun σ H R => ta σ H fun vs H1 => ∃ a xs, vs = [.ref a] ∧ SqT K H1 a xs ∧ R (IteT K a) H1
theorem pi_enumT {X : Cx} {e : Expr} {ta : TA} {p pos tp : Pos} {elts : List Expr} {kk : Nat} (hg : Gl X "enumerate") (hm : X.mg "enumerate" = none) (ha : PA X [e] ta) (hs : starEach [e] X.env = [(false, eval e X.env)] := by rfl) :
    PI X (.Tuple elts kk tp) (.Call (.Name "enumerate" p) [e] [] pos) (iEnumT X.K ta) := by
  refine ⟨fun pins s σ H R I h => ?_⟩
  refine Call_ (ld_blt I hg hm boot_enumerate (PyProof.Rows.callWith_type1 (thn (ha.run pos pins s σ H _ I h) fun us s1 q0 => ?_) hs rfl))
  obtain ⟨vs, H1, I1, r1, a, xs, ex, hq, q⟩ := q0
  subst ex
  cases r1 with
  | cons r rr =>
    cases rr
    cases r
    obtain ⟨its, rv, p', hz⟩ := I1.tuple hq
    have la : a < s1.heap.objs.size := by obtain ⟨_, z, _⟩ := p'; exact Heap.lt_size z
    refine tk_enum (begins_tuple a its.toArray) p' fun h' he hit hk => wpAny_pyIter_enum he ?_
    have I2 : Inv X pins σ H1 { s1 with heap := h' } := I1.kept (t' := s1.toks) hk
    refine ⟨s1.heap.objs.size + 1, [s1.heap.objs.size + 1, s1.heap.objs.size], _, _, H1, rfl, I2, tk_turn a (s1.heap.objs.size + 1) s1.heap.objs.size (Nat.ne_of_lt la) (Nat.ne_of_gt (Nat.lt_succ_of_lt la)) (Nat.succ_ne_self _), ⟨⟨.none, he⟩, ⟨_, hit, rfl, rfl⟩⟩, fun b hb => ?_, q⟩
    have two : b = s1.heap.objs.size + 1 ∨ b = s1.heap.objs.size := by simpa using hb
    have le : s1.heap.objs.size ≤ b := two.elim (fun z => z ▸ Nat.le_succ _) (fun z => z ▸ Nat.le_refl _)
    exact I1.fpOk le (I1.hok.fresh le)
/-- the reading of such a loop -/
theorem for_enumT {K : PySem.W.Frag} {a : Addr} {xs : List V} {g : TG} {tb : TS} {D : Ends} {σ : St} {H : Hp} (Pv : Nat → St → Hp → Prop) (h0 : Pv 0 σ H) (hl : ∀ i σ H, i ≤ xs.length → Pv i σ H → SqT K H a xs)
    (hs : ∀ i x T σ H, xs[i]? = some x → Pv i σ H → H T = none → g (.ref T) σ (upd H T (.tup [.int (i : Nat), x])) fun σ2 H2 => tb { D with nx := Pv (i + 1), ct := Pv (i + 1), bk := D.nx } σ2 H2) (hd : ∀ σ H, Pv xs.length σ H → D.nx σ H) :
    ∃ W : Nat → Nat → St → Hp → Prop, (∃ m, W 0 m σ H) ∧ ∀ i m σ H, W i m σ H → ((IteT K a).stop i H ∧ D.nx σ H) ∨ ((IteT K a).go i H ∧ ∃ N : St → Hp → Prop, (∀ σ' H', N σ' H' → ∃ m', m' < m ∧ W (i + 1) m' σ' H') ∧
      ∀ x H', (IteT K a).yld i H x H' → g x σ H' fun σ2 H2 => tb { D with nx := N, ct := N, bk := D.nx } σ2 H2) := by
  refine ⟨fun i m σ H => m = xs.length - i ∧ i ≤ xs.length ∧ Pv i σ H, ⟨xs.length, by simp, Nat.zero_le _, h0⟩, ?_⟩
  rintro i m σ H ⟨rfl, hi, p⟩
  have q := hl i σ H hi p
  by_cases lt : i < xs.length
  · refine .inr ⟨⟨xs, xs[i], q, by simp [lt]⟩, Pv (i + 1), fun σ' H' p' => ⟨xs.length - (i + 1), by omega, rfl, lt, p'⟩, ?_⟩
    rintro x H' ⟨T, y, rfl, hT, rfl, hy⟩
    exact hs i y T σ H (hy xs q) p hT
  · have e : i = xs.length := by omega
    exact .inl ⟨⟨xs, q, e.symm⟩, hd σ H (e ▸ p)⟩
/-! ### the text's own methods by signs -/
section
variable {X : Cx} {CX : CXT} {k n : Nat} {C f : Addr} {fd : FuncData} {ps : List Str} {sp : Sp} {E : XK}
/-- a def called somewhere below the running body -/
theorem tk_run {A : Around} {pins : List (Addr × Obj)} {σ : St} {H : Hp} {s : Shared} {Q : VK} {us : List Value} {vs : List V} (sb : Sub X k A) (F : FnOk X.prog X.w X.K X.mg X.base CX k f fd ps sp) (hb : Binds X.K fd ps []) (hx : Passes CX X E)
    (I : Inv X pins σ H s) (r : Vals vs us) (h : sp vs H Q E) : wpAny (model X.prog X.w) A (call (.ref f) us) (EP X pins σ Q) X.xe s := by
  have e := I.env0
  have e0 : Env0 X.prog X.w X.K X.mg X.base A X.stack s H := ⟨by rw [sb.fr]; exact e.frames, e.mod, e.bs, e.bsz, e.funs, e.frf, e.hok, e.bare⟩
  have hl : us.length = ps.length := r.length.symm.trans (F.len _ _ _ _ h)
  have bd := hb s us I.kIn (by simpa using hl)
  refine wpAny_call (codeAny_mono (F.run A X.stack s H ⟨us, []⟩ us vs Q E sb.room e0 (by simpa using bd) r h) fun res s' hq => ?_)
  match res, hq with
  | .error e, hq => exact hx pins σ H s e s' I hq
  | .ok (.ret u), hq => exact I.after hq
/-- what stands in the class C as the method m -/
structure OwnM (K : PySem.W.Frag) (C : Addr) (m : Str) (f : Addr) : Prop where
  at_ : PySem.W.findIn K (.ref C) m = some (some (.ref f))
  fn : PySem.W.isFn K (.ref f) = true
theorem ownInst {pins : List (Addr × Obj)} {σ : St} {H : Hp} {s : Shared} {a dx : Addr} {fs : List (Str × V)} (I : Inv X pins σ H s) (ha : H a = some (.ins C dx fs)) : ∃ ox od, PySem.W.InstAt s.heap a ox C od := by
  obtain ⟨mA, J, _⟩ := ins_get I.hok ha
  obtain ⟨od, J, _⟩ := J.look
  exact ⟨_, _, J⟩
def rOwn2 (C : Addr) (sp : Sp) (E : XK) : R2 := fun x y H Q => ∃ a dx fs, x = .ref a ∧ H a = some (.ins C dx fs) ∧ sp [.ref a, y] H Q E
/-- o[i] by the class's own __getitem__ -/
theorem ix_own {value slice : Expr} (M : OwnM X.K C "__getitem__" f) (hf : PySem.W.fnIn X.K f = true) (F : FnOk X.prog X.w X.K X.mg X.base CX k f fd ps sp) (hr : Room (k + 1) X.A) (hb : Binds X.K fd ps []) (hx : Passes CX X E)
    {a b : Expr} {ta tb : TE} {pos : Pos} (ha : PE X a ta) (hb2 : PE X b tb) (hs : ∀ o i, subscripted b true o i = runValue (.builtin "lifetime.subscript" ⟨[o, i], []⟩)) : PE X (.Subscript a b pos) (tOp (rOwn2 C sp E) ta tb) := by
  refine ⟨fun pins s σ H Q I h => ?_⟩
  refine Subscript_ (binT ha hb2 I h fun v u s2 x y H2 I2 rx ry q => ?_)
  obtain ⟨p, dx, fs, rfl, hp, q⟩ := q
  obtain rfl : v = Value.ref p := rx
  obtain ⟨ox, od, J⟩ := ownInst I2 hp
  obtain ⟨m, hF⟩ := I2.fr
  refine PySem.W.sub_K hF I2.ok.mod.kin J M.at_ hf M.fn ?_ (hs _ _)
  exact tk_run ⟨hr.in1, rfl⟩ F hb hx I2 (.cons (show RelV (.ref p) (.ref p) from rfl) (.cons ry .nil)) q
def rOwnIn (C : Addr) (sp : Sp) (E : XK) (neg : Bool) : R2 := fun y x H Q => ∃ a dx fs, x = .ref a ∧ H a = some (.ins C dx fs) ∧ sp [.ref a, y] H (fun v H' => ∃ c, v = .bl c ∧ Q (.bl (if neg then !c else c)) H') E
/-- y in o by the class's own __contains__ -/
theorem op_inOwn (M : OwnM X.K C "__contains__" f) (F : FnOk X.prog X.w X.K X.mg X.base CX k f fd ps sp) (hr : Room k X.A) (hb : Binds X.K fd ps []) (hx : Passes CX X E) : OpR X (compareOp .In) (rOwnIn C sp E false) := by
  intro pins s σ H y x u v Q I ry rx h
  obtain ⟨p, dx, fs, rfl, hp, q⟩ := h
  obtain rfl : v = Value.ref p := rx
  obtain ⟨ox, od, J⟩ := ownInst I hp
  obtain ⟨m, hF⟩ := I.fr
  refine PySem.W.in_K hF I.ok.mod.kin J M.at_ M.fn (thn (tk_run ⟨hr, rfl⟩ F hb hx I (.cons (show RelV (.ref p) (.ref p) from rfl) (.cons ry .nil)) q) fun r s' hq => ?_)
  obtain ⟨z, H', I', rz, c, rfl, q'⟩ := hq
  cases rz
  exact wpAny_truthy_bool ⟨.bl c, H', I', rfl, q'⟩
theorem op_notInOwn (M : OwnM X.K C "__contains__" f) (F : FnOk X.prog X.w X.K X.mg X.base CX k f fd ps sp) (hr : Room k X.A) (hb : Binds X.K fd ps []) (hx : Passes CX X E) : OpR X (compareOp .NotIn) (rOwnIn C sp E true) := by
  intro pins s σ H y x u v Q I ry rx h
  obtain ⟨p, dx, fs, rfl, hp, q⟩ := h
  obtain rfl : v = Value.ref p := rx
  obtain ⟨ox, od, J⟩ := ownInst I hp
  obtain ⟨m, hF⟩ := I.fr
  refine PySem.W.notIn_K hF I.ok.mod.kin J M.at_ M.fn (thn (tk_run ⟨hr, rfl⟩ F hb hx I (.cons (show RelV (.ref p) (.ref p) from rfl) (.cons ry .nil)) q) fun r s' hq => ?_)
  obtain ⟨z, H', I', rz, c, rfl, q'⟩ := hq
  cases rz
  exact wpAny_truthy_bool ⟨.bl (!c), H', I', rfl, q'⟩
/-- len(o) by the class's own __len__ -/
theorem call_lenOwn (M : OwnM X.K C "__len__" f) (F : FnOk X.prog X.w X.K X.mg X.base CX k f fd ps sp) (hr : Room (k + 1) X.A) (hb : Binds X.K fd ps []) (hx : Passes CX X E) :
    CallR X (.builtin "len") (fun xs H Q => ∃ a dx fs, xs = [.ref a] ∧ H a = some (.ins C dx fs) ∧ sp [.ref a] H (fun v H' => ∃ i : Int, v = .int i ∧ 0 ≤ i ∧ i < 2 ^ 63 ∧ Q v H') E) := by
  intro pins s σ H xs us Q I r h
  obtain ⟨p, dx, fs, rfl, hp, q⟩ := h
  obtain ⟨u, rfl, rx⟩ := vals1 r
  obtain rfl : u = Value.ref p := rx
  obtain ⟨ox, od, J⟩ := ownInst I hp
  obtain ⟨m, hF⟩ := I.fr
  refine PySem.W.len_K hF I.ok.mod.kin J M.at_ M.fn (thn (tk_run ⟨hr.in1, rfl⟩ F hb hx I (.cons (show RelV (.ref p) (.ref p) from rfl) .nil) q) fun r s' hq => ?_)
  obtain ⟨z, H', I', rz, i, rfl, i0, i1, q'⟩ := hq
  obtain ⟨t, rfl⟩ := rz
  refine ⟨⟨i0, i1⟩, ⟨.int i, H', I'.tok _, ⟨_, rfl⟩, q'⟩⟩
end
/-! ### .get of a written dict -/
def KG (K : PySem.W.Frag) (w : World) (a : Addr) (x : Str) (v : V) : Prop := KDct K w a x v ∧ (a == sysModules) = false
def tKGet (K : PySem.W.Frag) (w : World) (td ty : TE) : TE := fun σ H Q => td σ H fun x H1 => ty σ H1 fun y H2 => ∃ a z v, x = .ref a ∧ y = .str z ∧ KG K w a z v ∧ Q v H2
theorem pe_kget {X : Cx} {o e : Expr} {td ty : TE} {apos cpos : Pos} (ho : PE X o td) (he : PE X e ty) (hd : ∀ σ H Q, td σ H Q → td σ H fun x H1 => (∃ a oc es n, x = V.ref a ∧ X.K.lookup a = some oc ∧ oc = ⟨.type "dict", none, .dict es n, #[]⟩) ∧ Q x H1) (m : M1 X o "get" apos e cpos) :
    PE X (.Call (.Attribute o "get" apos) [e] [] cpos) (tKGet X.K X.w td ty) := by
  refine ⟨fun pins s σ H Q I h => ?_⟩
  refine wpAny_Call_method m.base m.few m.line PySem.F.plainAttrs_dict PySem.F.slot_dict_get PySem.F.type_dict_get (thn (ho.run pins s σ H _ I (hd _ _ _ h)) fun u s1 q0 => ?_)
  obtain ⟨x, H1, I1, rx, ⟨a, oc, es, n, rfl, lk, rfl⟩, q1⟩ := q0
  obtain rfl : u = Value.ref a := rx
  have ga := I1.kIn _ _ lk
  refine ⟨⟨_, ga, rfl⟩, fun b q => by cases q; exact ⟨_, ga, rfl⟩, ?_⟩
  rw [m.trees]
  refine Calls.callWith_builtin rfl (Calls.evalArgs_plain (Calls.spliced_cons (thn (he.run pins s1 σ H1 _ I1 q1) fun iv s2 q2 => Calls.spliced_nil ?_)))
  obtain ⟨y, H2, I2, ry, a', z, v, ea, rfl, ⟨⟨es', n', u0, hl, hk, e1, ru⟩, hs⟩, q2⟩ := q2
  cases ea
  obtain ⟨t, rfl⟩ := ry
  have mo := PySem.W.mapOf_K (prog := X.prog) (w := X.w) I2.kIn hl hk
  refine call_meetsIn PySem.F.slot_dict_get mo.typeIs PySem.F.entry_dict_get (PySem.F.args_dict_get_2 _ _) (meets_dict_get (strKind X.prog X.w) a (strKind_is X.prog X.w z t) hs) ⟨_, mo, ?_⟩
  rw [PySem.W.find_K hl e1]
  exact ⟨v, H2, I2.tok _, ru, q2⟩
end L2
namespace Tk
open PySem L2
abbrev Pl := List Int
mutual
/-- the statements at and below the place p, in reading order -/
def Stm.walk : Stm → Pl → List (Pl × Stm)
  | .one w, p => [(p, .one w)]
  | .nam b n, p => [(p, .nam b n)]
  | .ch y n, p => (p, .ch y n) :: (walkAll y (p ++ [0]) 0 ++ walkAll n (p ++ [1]) 0)
def walkAll : List Stm → Pl → Nat → List (Pl × Stm)
  | [], _, _ => []
  | s :: r, p, i => s.walk (p ++ [(i : Int)]) ++ walkAll r p (i + 1)
end
def lk : List (Pl × Stm) → Pl → Option Stm
  | [], _ => none
  | (p, s) :: r, k => if p = k then some s else lk r k
theorem lk_app (k : Pl) : ∀ a b : List (Pl × Stm), lk (a ++ b) k = (lk a k).or (lk b k)
  | [], b => rfl
  | (p, s) :: r, b => by
    show (if p = k then some s else lk (r ++ b) k) = (if p = k then some s else lk r k).or (lk b k)
    by_cases h : p = k
    · rw [if_pos h, if_pos h]; rfl
    · rw [if_neg h, if_neg h, lk_app k r b]
def nth (B : List Stm) (j : Int) : Option Stm := if 0 ≤ j then B[j.toNat]? else none
def sub : Stm → Pl → Option Stm
  | s, [] => some s
  | .ch y n, a :: j :: q => if a = 0 then (nth y j).bind fun t => sub t q else if a = 1 then (nth n j).bind fun t => sub t q else none
  | _, _ => none
def look : List Stm → Pl → Option Stm
  | B, [] => none
  | B, j :: q => (nth B j).bind fun s => sub s q
theorem pre_ne {p q : Pl} {a b : Int} (h : a ≠ b) : ∀ r : Pl, p ++ a :: q ≠ (p ++ [b]) ++ r := fun r e => by
  rw [List.append_assoc] at e
  have := List.append_cancel_left e
  simp at this
  exact h this.1
mutual
theorem walk_none : ∀ (s : Stm) (p k : Pl), (∀ q, k ≠ p ++ q) → lk (s.walk p) k = none
  | .one w, p, k, h => by
    rw [Stm.walk, lk, if_neg (fun e => h [] (by rw [← e]; simp)), lk]
  | .nam b n, p, k, h => by
    rw [Stm.walk, lk, if_neg (fun e => h [] (by rw [← e]; simp)), lk]
  | .ch y n, p, k, h => by
    rw [Stm.walk, lk, if_neg (fun e => h [] (by rw [← e]; simp)), lk_app, walkAll_none y (p ++ [0]) 0 k (fun j q e => h (0 :: j :: q) (by rw [e]; simp)), walkAll_none n (p ++ [1]) 0 k (fun j q e => h (1 :: j :: q) (by rw [e]; simp))]
    rfl
theorem walkAll_none : ∀ (B : List Stm) (p : Pl) (i : Nat) (k : Pl), (∀ j q, k ≠ p ++ j :: q) → lk (walkAll B p i) k = none
  | [], p, i, k, h => by rw [walkAll, lk]
  | s :: r, p, i, k, h => by
    rw [walkAll, lk_app, walk_none s (p ++ [(i : Int)]) k (fun q e => h i q (by rw [e]; simp)), walkAll_none r p (i + 1) k h]
    rfl
end
theorem nth_nil (j : Int) : nth [] j = none := by
  unfold nth
  by_cases h : 0 ≤ j
  · rw [if_pos h]; rfl
  · rw [if_neg h]
theorem nth_zero (s : Stm) (r : List Stm) : nth (s :: r) 0 = some s := rfl
theorem nth_succ (s : Stm) (r : List Stm) (j : Int) (h : j ≠ 0) : nth (s :: r) j = nth r (j - 1) := by
  unfold nth
  by_cases h0 : 0 ≤ j
  · rw [if_pos h0, if_pos (by omega)]
    have e : j.toNat = (j - 1).toNat + 1 := by omega
    rw [e, List.getElem?_cons_succ]
  · rw [if_neg h0, if_neg (by omega)]
mutual
theorem walk_lk : ∀ (s : Stm) (p q : Pl), lk (s.walk p) (p ++ q) = sub s q
  | .one w, p, [] => by rw [Stm.walk, lk, if_pos (by simp), sub]
  | .one w, p, a :: q => by
    rw [Stm.walk, lk, if_neg (fun e => by have := congrArg List.length e; simp at this), lk]
    cases q <;> rfl
  | .nam b n, p, [] => by rw [Stm.walk, lk, if_pos (by simp), sub]
  | .nam b n, p, a :: q => by
    rw [Stm.walk, lk, if_neg (fun e => by have := congrArg List.length e; simp at this), lk]
    cases q <;> rfl
  | .ch y n, p, [] => by rw [Stm.walk, lk, if_pos (by simp), sub]
  | .ch y n, p, [a] => by
    rw [Stm.walk, lk, if_neg (fun e => by have := congrArg List.length e; simp at this), lk_app, walkAll_none, walkAll_none]
    · rfl
    · intro j q e; have := congrArg List.length e; simp at this
    · intro j q e; have := congrArg List.length e; simp at this
  | .ch y n, p, a :: j :: q => by
    rw [Stm.walk, lk, if_neg (fun e => by have := congrArg List.length e; simp at this), lk_app, sub]
    by_cases h0 : a = 0
    · subst h0
      rw [if_pos rfl]
      have e : p ++ (0 : Int) :: j :: q = (p ++ [0]) ++ j :: q := by simp
      have z : lk (walkAll n (p ++ [1]) 0) (p ++ (0 : Int) :: j :: q) = none := walkAll_none n (p ++ [1]) 0 _ (fun j' q' => pre_ne (by decide) _)
      rw [z, e, walkAll_lk y (p ++ [0]) 0 j q]
      simp
    · rw [if_neg h0]
      have z : lk (walkAll y (p ++ [0]) 0) (p ++ a :: j :: q) = none := walkAll_none y (p ++ [0]) 0 _ (fun j' q' => pre_ne h0 _)
      rw [z]
      by_cases h1 : a = 1
      · subst h1
        rw [if_pos rfl]
        have e : p ++ (1 : Int) :: j :: q = (p ++ [1]) ++ j :: q := by simp
        rw [e, walkAll_lk n (p ++ [1]) 0 j q]
        simp
      · rw [if_neg h1]
        have z2 : lk (walkAll n (p ++ [1]) 0) (p ++ a :: j :: q) = none := walkAll_none n (p ++ [1]) 0 _ (fun j' q' => pre_ne h1 _)
        rw [z2]; rfl
theorem walkAll_lk : ∀ (B : List Stm) (p : Pl) (i : Nat) (j : Int) (q : Pl), lk (walkAll B p i) (p ++ j :: q) = (nth B (j - i)).bind fun s => sub s q
  | [], p, i, j, q => by rw [walkAll, lk, nth_nil]; rfl
  | s :: r, p, i, j, q => by
    rw [walkAll, lk_app]
    by_cases h : j = i
    · subst h
      have e : p ++ (i : Int) :: q = (p ++ [(i : Int)]) ++ q := by simp
      have z : lk (walkAll r p (i + 1)) (p ++ (i : Int) :: q) = none ∨ True := .inr trivial
      rw [e, walk_lk s (p ++ [(i : Int)]) q, ← e, walkAll_lk r p (i + 1) i q]
      have e1 : nth (s :: r) ((i : Int) - i) = some s := by rw [Int.sub_self]; rfl
      have e2 : nth r ((i : Int) - ((i + 1 : Nat) : Int)) = none := by unfold nth; rw [if_neg (by omega)]
      rw [e1, e2]
      simp
    · have z : lk (s.walk (p ++ [(i : Int)])) (p ++ j :: q) = none := walk_none s _ _ (fun q' => pre_ne h _)
      rw [z, walkAll_lk r p (i + 1) j q, nth_succ s r (j - i) (by omega)]
      have e : j - ((i + 1 : Nat) : Int) = j - i - 1 := by omega
      rw [e]; rfl
end
theorem look_lk (S : List Stm) : ∀ p : Pl, lk (walkAll S [] 0) p = look S p
  | [] => walkAll_none S [] 0 [] (fun j q e => by cases e)
  | j :: q => by
    have := walkAll_lk S [] 0 j q
    simpa [look] using this
mutual
theorem walk_len : ∀ (s : Stm) (p : Pl), (s.walk p).length = s.cnt
  | .one w, p => by rw [Stm.walk, Stm.cnt]; rfl
  | .nam b n, p => by rw [Stm.walk, Stm.cnt]; rfl
  | .ch y n, p => by
    rw [Stm.walk, Stm.cnt, List.length_cons, List.length_append, walkAll_len y, walkAll_len n]; omega
theorem walkAll_len : ∀ (B : List Stm) (p : Pl) (i : Nat), (walkAll B p i).length = cntAll B
  | [], p, i => by rw [walkAll, cntAll]; rfl
  | s :: r, p, i => by rw [walkAll, cntAll, List.length_append, walk_len s, walkAll_len r]
end
theorem walkAll_snoc : ∀ (B : List Stm) (s : Stm) (p : Pl) (i : Nat), walkAll (B ++ [s]) p i = walkAll B p i ++ s.walk (p ++ [((i + B.length : Nat) : Int)])
  | [], s, p, i => by
    show walkAll [s] p i = walkAll [] p i ++ _
    rw [walkAll, walkAll, walkAll]; simp
  | t :: r, s, p, i => by
    show walkAll (t :: (r ++ [s])) p i = _
    rw [walkAll, walkAll, walkAll_snoc r s p (i + 1), List.append_assoc]
    have e : i + 1 + r.length = i + (t :: r).length := by rw [List.length_cons]; omega
    rw [e]
/-! ## the found statements as a dict -/
def key (p : Pl) : List Key := p.map Sum.inl
theorem key_kV (p : Pl) : (key p).map kV = p.map V.int := by
  unfold key; rw [List.map_map]; rfl
theorem key_inj : ∀ {p q : Pl}, key p = key q → p = q
  | [], [], _ => rfl
  | [], _ :: _, h => by cases h
  | _ :: _, [], h => by cases h
  | a :: p, b :: q, h => by
    have h' : Sum.inl a :: key p = Sum.inl b :: key q := h
    injection h' with h1 h2
    injection h1 with h1
    rw [h1, key_inj h2]
def FRel (H : Hp) : List (List Key × V) → List (Pl × Stm) → Prop
  | [], [] => True
  | (k, v) :: r, (p, s) :: r' => k = key p ∧ s.at H v ∧ FRel H r r'
  | _, _ => False
theorem FRel.len {H : Hp} : ∀ {a : List (List Key × V)} {b : List (Pl × Stm)}, FRel H a b → a.length = b.length
  | [], [], _ => rfl
  | _ :: _, _ :: _, h => by rw [List.length_cons, List.length_cons, FRel.len h.2.2]
  | [], _ :: _, h => h.elim
  | _ :: _, [], h => h.elim
theorem FRel.keep {H H' : Hp} (k : TK H H') : ∀ {a : List (List Key × V)} {b : List (Pl × Stm)}, FRel H a b → FRel H' a b
  | [], [], _ => trivial
  | _ :: _, _ :: _, h => ⟨h.1, Stm.at_keep k _ _ h.2.1, FRel.keep k h.2.2⟩
  | [], _ :: _, h => h.elim
  | _ :: _, [], h => h.elim
theorem FRel.snoc {H : Hp} {p : Pl} {v : V} {s : Stm} (hs : s.at H v) : ∀ {a : List (List Key × V)} {b : List (Pl × Stm)}, FRel H a b → FRel H (a ++ [(key p, v)]) (b ++ [(p, s)])
  | [], [], _ => ⟨rfl, hs, trivial⟩
  | _ :: _, _ :: _, h => ⟨h.1, h.2.1, FRel.snoc hs h.2.2⟩
  | [], _ :: _, h => h.elim
  | _ :: _, [], h => h.elim
theorem FRel.val {H : Hp} (p : Pl) : ∀ {a : List (List Key × V)} {b : List (Pl × Stm)}, FRel H a b → (lk b p = none → valV a (key p) = none) ∧ (∀ s, lk b p = some s → ∃ v, valV a (key p) = some v ∧ s.at H v)
  | [], [], _ => ⟨fun _ => rfl, fun s e => by cases e⟩
  | (k, v) :: r, (q, s) :: r', h => by
    obtain ⟨rfl, h1, h2⟩ := h
    by_cases e : q = p
    · subst e
      rw [lk, if_pos rfl, valV_pos (p := (key q, v)) rfl]
      exact ⟨(fun z => nomatch z), fun t z => ⟨v, rfl, Option.some.inj z ▸ h1⟩⟩
    · rw [lk, if_neg e, valV_neg (p := (key q, v)) (fun z => e (key_inj z))]
      exact FRel.val p h2
  | [], _ :: _, h => h.elim
  | _ :: _, [], h => h.elim
end Tk
namespace Tk
open PySem L2
def br (a : Int) (y n : List Stm) : List Stm := if a = 0 then y else n
/-- R is what follows the statement at p, to the end of the script -/
inductive After : List Stm → Pl → List Stm → Prop
  | here (B : List Stm) (i : Nat) : i < B.length → After B [(i : Int)] (B.drop (i + 1))
  | inn (B : List Stm) (i : Nat) (a : Int) (y n : List Stm) (q : Pl) (R : List Stm) : B[i]? = some (.ch y n) → (a = 0 ∨ a = 1) → After (br a y n) q R → After B ((i : Int) :: a :: q) (R ++ B.drop (i + 1))
theorem nth_nat (B : List Stm) (i : Nat) : nth B (i : Int) = B[i]? := by
  unfold nth
  rw [if_pos (by omega), Int.toNat_natCast]
theorem After.ne {B : List Stm} {p : Pl} {R : List Stm} (h : After B p R) : p ≠ [] := by cases h <;> simp
theorem look_in {B : List Stm} {i : Nat} {a : Int} {y n : List Stm} {q : Pl} (h : B[i]? = some (.ch y n)) (ha : a = 0 ∨ a = 1) (hq : q ≠ []) : look B ((i : Int) :: a :: q) = look (br a y n) q := by
  cases q with
  | nil => exact absurd rfl hq
  | cons j r =>
    rw [look, nth_nat, h]
    show sub (.ch y n) (a :: j :: r) = _
    rw [sub, look]
    rcases ha with rfl | rfl
    · rw [if_pos rfl]; rfl
    · rw [if_neg (by decide), if_pos rfl]; rfl
theorem look_one (B : List Stm) (i : Nat) : look B [(i : Int)] = B[i]? := by
  rw [look, nth_nat]
  cases B[i]? <;> rfl
theorem After.step {S : List Stm} {p : Pl} {R : List Stm} (h : After S p R) : ∃ q j, p = q ++ [j] ∧
    ((∃ s R', look S (q ++ [j + 1]) = some s ∧ R = s :: R' ∧ After S (q ++ [j + 1]) R') ∨
     (look S (q ++ [j + 1]) = none ∧ ((q = [] ∧ R = []) ∨ ∃ q' a, q = q' ++ [a] ∧ q' ≠ [] ∧ After S q' R))) := by
  induction h with
  | here B i hi =>
    refine ⟨[], (i : Int), rfl, ?_⟩
    have e : ([] : Pl) ++ [(i : Int) + 1] = [((i + 1 : Nat) : Int)] := by simp
    rw [e, look_one]
    cases g : B[i + 1]? with
    | none =>
      refine .inr ⟨rfl, .inl ⟨rfl, ?_⟩⟩
      rw [List.drop_eq_nil_of_le]
      exact List.getElem?_eq_none_iff.mp g
    | some s =>
      obtain ⟨lt, e1⟩ := List.getElem?_eq_some_iff.mp g
      exact .inl ⟨s, B.drop (i + 1 + 1), rfl, by rw [List.drop_eq_getElem_cons lt, e1], .here B (i + 1) lt⟩
  | inn B i a y n q R hb ha hq ih =>
    obtain ⟨q0, j, e, ih⟩ := ih
    refine ⟨(i : Int) :: a :: q0, j, by rw [e]; rfl, ?_⟩
    have le : look B (((i : Int) :: a :: q0) ++ [j + 1]) = look (br a y n) (q0 ++ [j + 1]) := look_in hb ha (by simp)
    rw [le]
    rcases ih with ⟨s, R', l, eR, af⟩ | ⟨l, ⟨rfl, eR⟩ | ⟨q', a', eq, nq, af⟩⟩
    · exact .inl ⟨s, R' ++ B.drop (i + 1), l, by rw [eR]; rfl, .inn B i a y n _ R' hb ha af⟩
    · refine .inr ⟨l, .inr ⟨[(i : Int)], a, rfl, by simp, ?_⟩⟩
      rw [eR]
      exact .here B i (List.getElem?_eq_some_iff.mp hb).1
    · refine .inr ⟨l, .inr ⟨(i : Int) :: a :: q', a', by rw [eq]; rfl, by simp, ?_⟩⟩
      exact .inn B i a y n q' R hb ha af
theorem After.down {S : List Stm} {p : Pl} {R : List Stm} {y n : List Stm} {a : Int} (h : After S p R) (ha : a = 0 ∨ a = 1) (hn : br a y n ≠ []) :
    look S p = some (.ch y n) → look S (p ++ [a, 0]) = (br a y n)[0]? ∧ After S (p ++ [a, 0]) ((br a y n).drop 1 ++ R) := by
  have first : After (br a y n) [((0 : Nat) : Int)] ((br a y n).drop (0 + 1)) := .here _ 0 (List.length_pos_iff.mpr hn)
  induction h with
  | here B i hi =>
    intro l
    rw [look_one] at l
    refine ⟨?_, .inn B i a y n [0] _ l ha first⟩
    show look B ((i : Int) :: a :: [((0 : Nat) : Int)]) = _
    rw [look_in l ha (by simp), look_one]
  | inn B i a' y' n' q R hb ha' hq ih =>
    intro l
    rw [look_in hb ha' hq.ne] at l
    obtain ⟨l1, af⟩ := ih l
    refine ⟨?_, ?_⟩
    · show look B ((i : Int) :: a' :: (q ++ [a, 0])) = _
      rw [look_in hb ha' (by simp)]
      exact l1
    · rw [← List.append_assoc]
      exact .inn B i a' y' n' _ _ hb ha' af
theorem After.first {S : List Stm} (h : S ≠ []) : look S [0] = S[0]? ∧ After S [0] (S.drop 1) :=
  ⟨look_one S 0, .here S 0 (List.length_pos_iff.mpr h)⟩
theorem okAll_get : ∀ {d : Nat} {B : List Stm} {h : Int} {i : Nat} {s : Stm}, okAll d B h → B[i]? = some s → ∃ h', s.ok d h'
  | d, [], h, i, s, _, e => by simp at e
  | d, t :: r, h, 0, s, g, e => by
    rw [okAll] at g
    have e' : t = s := Option.some.inj e
    exact ⟨h, e' ▸ g.1⟩
  | d, t :: r, h, i + 1, s, g, e => by
    rw [okAll] at g
    exact okAll_get g.2 (i := i) (s := s) e
theorem After.len {S : List Stm} {p : Pl} {R : List Stm} (h : After S p R) : ∀ (d : Nat) (k : Int), okAll d S k → d ≤ 2 → p.length + 2 * d ≤ 5 := by
  induction h with
  | here B i hi => intro d k _ hd; show 1 + 2 * d ≤ 5; omega
  | inn B i a y n q R hb ha hq ih =>
    intro d k g hd
    obtain ⟨h', o⟩ := okAll_get g hb
    rw [Stm.ok] at o
    have z : q.length + 2 * (d + 1) ≤ 5 := by
      rcases ha with rfl | rfl
      · exact ih (d + 1) h' o.2.1 (by omega)
      · exact ih (d + 1) h' o.2.2 (by omega)
    show q.length + 1 + 1 + 2 * d ≤ 5
    omega
/-! ## greater places -/
def Gt (x y : Pl) : Prop := (∃ q i j r s, x = q ++ i :: r ∧ y = q ++ j :: s ∧ j < i) ∨ ∃ c, x = y ++ c ∧ c ≠ []
theorem lexAt_at (e r : Nat → Bool) (z : Bool) (m : Nat) : ∀ (k i : Nat), i ≤ m → m < i + k → (∀ j, i ≤ j → j < m → e j = true) → e m = false → Ob.lexAt e r z i k = r m
  | 0, i, h1, h2, _, _ => by omega
  | k + 1, i, h1, h2, g, b => by
    rw [Ob.lexAt_succ]
    by_cases c : i = m
    · subst c
      rw [b]; rfl
    · rw [g i (Nat.le_refl i) (by omega), if_pos rfl]
      exact lexAt_at e r z m k (i + 1) (by omega) (by omega) (fun j a b => g j (by omega) b) b
theorem lexAt_all (e r : Nat → Bool) (z : Bool) : ∀ (k i : Nat), (∀ j, i ≤ j → j < i + k → e j = true) → Ob.lexAt e r z i k = z
  | 0, i, _ => rfl
  | k + 1, i, g => by
    rw [Ob.lexAt_succ, g i (Nat.le_refl i) (by omega), if_pos rfl]
    exact lexAt_all e r z k (i + 1) (fun j a b => g j (by omega) (by omega))
theorem gt_not_le {x y : Pl} (h : Gt x y) : Ob.lexAt (fun j => decide (x.getD j 0 = y.getD j 0)) (fun j => decide (x.getD j 0 ≤ y.getD j 0)) (decide (x.length ≤ y.length)) 0 (min x.length y.length) = false := by
  rcases h with ⟨q, i, j, r, s, rfl, rfl, lt⟩ | ⟨c, rfl, hc⟩
  · have g1 : ∀ (t : Int) (u : Pl) (k : Nat), k < q.length → (q ++ t :: u).getD k 0 = q.getD k 0 := fun t u k hk => by
      rw [List.getD_eq_getElem?_getD, List.getD_eq_getElem?_getD, List.getElem?_append_left hk]
    have g2 : ∀ (t : Int) (u : Pl), (q ++ t :: u).getD q.length 0 = t := fun t u => by
      rw [List.getD_eq_getElem?_getD, List.getElem?_append_right (Nat.le_refl _), Nat.sub_self]; rfl
    rw [lexAt_at _ _ _ q.length]
    · show decide ((q ++ i :: r).getD q.length 0 ≤ (q ++ j :: s).getD q.length 0) = false
      rw [g2, g2]; exact decide_eq_false (by omega)
    · exact Nat.zero_le _
    · rw [List.length_append, List.length_append, List.length_cons, List.length_cons]; omega
    · intro k _ hk
      show decide ((q ++ i :: r).getD k 0 = (q ++ j :: s).getD k 0) = true
      rw [g1 _ _ k hk, g1 _ _ k hk]; exact decide_eq_true rfl
    · show decide ((q ++ i :: r).getD q.length 0 = (q ++ j :: s).getD q.length 0) = false
      rw [g2, g2]; exact decide_eq_false (by omega)
  · have hl : 0 < c.length := List.length_pos_iff.mpr hc
    rw [lexAt_all]
    · rw [List.length_append]; exact decide_eq_false (by omega)
    · intro k _ hk
      rw [List.length_append] at hk
      have hk' : k < y.length := by omega
      show decide ((y ++ c).getD k 0 = y.getD k 0) = true
      rw [List.getD_eq_getElem?_getD, List.getD_eq_getElem?_getD, List.getElem?_append_left hk']
      exact decide_eq_true rfl
end Tk
set_option maxRecDepth 100000
namespace Tk
open PySem L2
def top (i : Nat) : Stmt := PySem.Challenge.pw_takenahead_k07_systems_refused.main.body.getD i (.Pass ⟨0, 0, 0, 0⟩)
abbrev sPool : Stmt := top 37
abbrev sDraw : Stmt := top 38
abbrev sNames : Stmt := top 39
abbrev sSimple : Stmt := top 999
abbrev sBranch : Stmt := top 999
abbrev sLaw : Stmt := top 45
/-- the built-in names that the program reads -/
structure Bl (mg : Str → Option Value) : Prop where
  len : mg "len" = none
  int : mg "int" = none
  max : mg "max" = none
  range : mg "range" = none
  tuple : mg "tuple" = none
def spPool (K : PySem.W.Frag) : Sp := fun vs H Q _ => ∃ (a : Addr) (ns : List Int) (k : Int), vs = [.ref a, .int k] ∧ SqL K H a (ns.map V.int) ∧ 0 ≤ k ∧
  ∀ (p : Addr) (H' : Hp), H p = none → Same H H' → PoolAt H' p → Q (.ref p) H'
def spDraw : Sp := fun vs H Q _ => ∃ (p : Addr) (n : Int), vs = [.ref p, .int n] ∧ PoolAt H p ∧ 0 < n ∧ n < 1073741824 ∧
  ∀ (r : Int) (H' : Hp), 0 ≤ r → r < n → Kp p H H' → PoolAt H' p → Q (.int r) H'
section
variable {P : Program} {w : World} {K : PySem.W.Frag} {mg : Str → Option Value} {base : Heap}
theorem scPool : FnScope ["_law_script", "_law_k", "_law_cell"] ["_law_script", "_law_k"] (defScope sPool) := ⟨rfl, rfl, rfl, by decide +kernel, rfl, by decide +kernel, by decide +kernel⟩
theorem ok_pool {f : Addr} {fd : FuncData} (F : Fun K "_law_pool" "_law_pool" sPool f fd) (B : Bl mg) : FnOk P w K mg base CX0 1 f fd ["_law_script", "_law_k"] (spPool K) := by
  refine F.ok scPool (fun vs H Q E h => ?_) (fun cdv A outer s H vs Q E hr h => ?_)
  · obtain ⟨a, ns, k, rfl, _⟩ := h
    rfl
  obtain ⟨a, ns, k, rfl, hS, h0, q⟩ := h
  refine ⟨_, pss_cons (ps_set (i := 2) scPool.nd rfl (Or.inl rfl) (pe_op op_add (pv 1) pe_int))
    (pss_cons (ps_if (pt_cmpR op_lt (pv 1) (pe_callB call_len_seq (by rfl) B.len PySem.boot_len (pa_cons (pv 0) pa_nil)) (nomark _))
      (pss_one (ps_set (i := 2) scPool.nd rfl (Or.inl rfl) (pe_callTy call_int1 (by rfl) B.int (by decide +kernel) (pa_cons (pe_ix ix_list (pv 0) (pv 1) (fun _ _ => rfl)) pa_nil)))) pss_nil)
    (pss_one (ps_ret (pe_lst (pa_cons (pe_callB (call_max2 rfl) (by rfl) B.max (by decide +kernel) (pa_cons pe_int (pa_cons (pe_op op_sub (pv 2) (pe_op op_pow pe_int pe_int)) pa_nil)))
      (pa_cons (pe_op op_modN (pe_callTy call_int1 (by rfl) B.int (by decide +kernel) (pa_cons (pv 2) pa_nil)) pe_int) (pa_cons pe_int pa_nil))))))), ?_⟩
  have fin : ∀ c : Int, ((fun (c : Int) => ∀ (l : Addr), H l = none → Q (.ref l) (L2.upd H l (.lst [.int (if c - 10 ^ (18 : Int).toNat > 0 then c - 10 ^ (18 : Int).toNat else 0), .int (c.fmod 2147483647), .int 0]))) c) := by
    intro c l hl
    exact q l _ hl (same_new hl _) ⟨_, _, _, upd_same⟩
  refine ⟨_, rfl, _, _, rfl, rfl, ?_⟩
  refine ⟨_, rfl, _, rfl, a, _, rfl, .inl hS, _, _, rfl, rfl, _, rfl, ?_⟩
  have tail : ∀ c : Int, _ := fun c => fin c
  refine ite2 (fun c => ?_) (fun c => ?_)
  · have c' : k < (((ns.map V.int).length : Nat) : Int) := of_decide_eq_true c
    rw [List.length_map] at c'
    have hk : k.toNat < ns.length := by omega
    have ek : k = ((k.toNat : Nat) : Int) := by omega
    have q1 : atI (ns.map V.int) ((k.toNat : Nat) : Int) = some (.int ns[k.toNat]) := atI_nat (by rw [List.getElem?_map, List.getElem?_eq_getElem hk] <;> rfl)
    rw [← ek] at q1
    refine ⟨_, rfl, _, rfl, a, _, _, _, rfl, rfl, hS, q1, .inl ⟨_, rfl, ?_⟩⟩
    refine ⟨_, rfl, _, _, rfl, rfl, ⟨by decide, by decide, by decide⟩, _, _, rfl, rfl, _, _, rfl, _, rfl, .inl ⟨_, rfl, _, _, rfl, rfl, (by show (2147483647:Int) ≠ 0; decide), ?_⟩⟩
    exact ⟨by show 3 ≤ sizeLine; decide, fun l hl => fin _ l hl⟩
  · refine ⟨_, rfl, _, _, rfl, rfl, ⟨by decide, by decide, by decide⟩, _, _, rfl, rfl, _, _, rfl, _, rfl, .inl ⟨_, rfl, _, _, rfl, rfl, (by show (2147483647:Int) ≠ 0; decide), ?_⟩⟩
    exact ⟨by show 3 ≤ sizeLine; decide, fun l hl => fin _ l hl⟩
theorem scDraw : FnScope ["_law_pool_here", "_law_amount", "_law_digit", "_law_number"] ["_law_pool_here", "_law_amount"] (defScope sDraw) := ⟨rfl, rfl, rfl, by decide +kernel, rfl, by decide +kernel, by decide +kernel⟩
theorem ok_draw {f : Addr} {fd : FuncData} (F : Fun K "_law_draw" "_law_draw" sDraw f fd) (B : Bl mg) : FnOk P w K mg base CX0 1 f fd ["_law_pool_here", "_law_amount"] spDraw := by
  refine F.ok scDraw (fun vs H Q E h => ?_) (fun cdv A outer s H vs Q E hr h => ?_)
  · obtain ⟨p, n, rfl, _⟩ := h
    rfl
  obtain ⟨p, n, rfl, ⟨a, b, c0, hp⟩, n0, n1, q⟩ := h
  refine ⟨_, pss_cons (ps_if (pt_cmpR op_gt (pe_ix ix_list (pv 0) pe_int (fun _ _ => rfl)) pe_int (nomark _))
      (pss_cons (ps_set (i := 2) scDraw.nd rfl (Or.inl rfl) (pe_op op_modN (pe_callTy call_int1 (by rfl) B.int (by decide +kernel) (pa_cons (pe_ix ix_list (pv 0) pe_int (fun _ _ => rfl)) pa_nil)) (pv 1)))
      (pss_cons (ps_asg (pe_op op_fdivN (pe_ix ix_list (pv 0) pe_int (fun _ _ => rfl)) (pv 1)) (pg_sub (pv 0) pe_int set_list))
      (pss_one (ps_ret (pv 2))))) pss_nil)
    (pss_cons (ps_asg (pe_op op_add (pe_ix ix_list (pv 0) pe_int (fun _ _ => rfl)) pe_int) (pg_sub (pv 0) pe_int set_list))
    (pss_cons (ps_set (i := 3) scDraw.nd rfl (Or.inl rfl) (pe_op op_modN (pe_callTy call_int1 (by rfl) B.int (by decide +kernel) (pa_cons
        (pe_op op_mul (pe_op op_add (pe_op op_add (pe_ix ix_list (pv 0) pe_int (fun _ _ => rfl)) (pe_op op_mul pe_int (pe_ix ix_list (pv 0) pe_int (fun _ _ => rfl)))) pe_int) pe_int) pa_nil)) pe_int))
    (pss_cons (ps_set (i := 3) scDraw.nd rfl (Or.inl rfl) (pe_op op_modN (pe_callTy call_int1 (by rfl) B.int (by decide +kernel) (pa_cons
        (pe_op op_mul (pv 3) (pe_op op_add (pe_op op_fdivN (pv 3) pe_int) pe_int)) pa_nil)) pe_int))
    (pss_cons (ps_set (i := 3) scDraw.nd rfl (Or.inl rfl) (pe_op op_modN (pe_callTy call_int1 (by rfl) B.int (by decide +kernel) (pa_cons
        (pe_op op_mul (pv 3) (pe_op op_add (pe_op op_fdivN (pv 3) pe_int) pe_int)) pa_nil)) pe_int))
    (pss_one (ps_ret (pe_op op_modN (pe_callTy call_int1 (by rfl) B.int (by decide +kernel) (pa_cons (pv 3) pa_nil)) (pv 1)))))))), ?_⟩
  refine ⟨_, rfl, p, _, _, _, rfl, rfl, SqL.of hp, rfl, _, _, rfl, rfl, _, rfl, ?_⟩
  refine ite2 (fun c => ?_) (fun c => ?_)
  · refine ⟨_, rfl, p, _, _, _, rfl, rfl, SqL.of hp, rfl, .inl ⟨_, rfl, _, rfl, _, _, rfl, rfl, by omega, ?_⟩⟩
    refine ⟨_, rfl, p, _, _, _, rfl, rfl, SqL.of hp, rfl, _, rfl, _, _, rfl, rfl, ⟨by omega, by omega⟩, _, rfl, p, _, _, _, rfl, rfl, hp, rfl, ?_⟩
    exact ⟨_, rfl, q _ _ (fmod_ok n0).1 (fmod_ok n0).2 Kp.upd ⟨_, _, _, upd_same⟩⟩
  · refine ⟨_, rfl, p, _, _, _, rfl, rfl, SqL.of hp, rfl, _, _, rfl, rfl, _, rfl, p, _, _, _, rfl, rfl, hp, rfl, ?_⟩
    refine ⟨_, rfl, p, _, _, _, rfl, rfl, SqL.of upd_same, rfl, _, rfl, p, _, _, _, rfl, rfl, SqL.of upd_same, rfl, _, _, rfl, rfl, .inl ⟨by decide, by decide⟩, _, _, rfl, rfl, _, _, rfl, rfl,
      _, _, rfl, rfl, .inr ⟨by decide, by decide⟩, .inl ⟨_, rfl, _, _, rfl, rfl, (by show (2147483647:Int) ≠ 0; decide), ?_⟩⟩
    have r1 := fmod_ok (a := (b + 7919 * (c0 + 1) + 1) * 48271) (n := 2147483647) (by decide)
    refine ⟨_, rfl, _, rfl, _, _, rfl, rfl, ⟨by decide, by decide⟩, _, _, rfl, rfl, _, _, rfl, rfl, .inl ⟨by omega, by omega⟩, .inl ⟨_, rfl, _, _, rfl, rfl, (by show (2147483647:Int) ≠ 0; decide), ?_⟩⟩
    have r2 := fmod_ok (a := (((b + 7919 * (c0 + 1) + 1) * 48271).fmod 2147483647) * ((((b + 7919 * (c0 + 1) + 1) * 48271).fmod 2147483647).fdiv 1009 + 69621)) (n := 2147483647) (by decide)
    refine ⟨_, rfl, _, rfl, _, _, rfl, rfl, ⟨by decide, by decide⟩, _, _, rfl, rfl, _, _, rfl, rfl, .inl ⟨by omega, by omega⟩, .inl ⟨_, rfl, _, _, rfl, rfl, (by show (2147483399:Int) ≠ 0; decide), ?_⟩⟩
    refine ⟨_, rfl, .inl ⟨_, rfl, _, rfl, _, _, rfl, rfl, by omega, ?_⟩⟩
    exact q _ _ (fmod_ok n0).1 (fmod_ok n0).2 Kp.upd ⟨_, _, _, upd_same⟩
/-- a list of texts that are names -/
def spNames : Sp := fun vs H Q _ => ∃ p : Addr, vs = [.ref p] ∧ PoolAt H p ∧ ∀ (q : Addr) (H' : Hp), H q = none → Kp p H H' → PoolAt H' p → NamesAt H' q → Q (.ref q) H'
theorem scNames : FnScope ["_law_pool_here", "_law_letters", "_law_base", "_law_k", "_law_at", "_law_first", "_law_signs", "_law_sign"] ["_law_pool_here"] (defScope sNames) := ⟨rfl, rfl, rfl, by decide +kernel, rfl, by decide +kernel, by decide +kernel⟩
theorem ok_names {f fD : Addr} {fd fdD : FuncData} (F : Fun K "_law_names" "_law_names" sNames f fd) (B : Bl mg) (GD : FnOk P w K mg base CX0 1 fD fdD ["_law_pool_here", "_law_amount"] spDraw) (bD : Binds K fdD ["_law_pool_here", "_law_amount"] []) (kD : PySem.W.keepIn K (.ref fD) = true) (mD : mg "_law_draw" = some (.ref fD)) :
    FnOk P w K mg base CX0 2 f fd ["_law_pool_here"] spNames := by
  refine F.ok scNames (fun vs H Q E h => ?_) (fun cdv A outer s H vs Q E hr h => ?_)
  · obtain ⟨p, rfl, _⟩ := h
    rfl
  obtain ⟨p, rfl, hp, q⟩ := h
  refine ⟨_, pss_cons (ps_set (i := 1) scNames.nd rfl (Or.inr rfl) pe_str)
    (pss_cons (ps_set (i := 2) scNames.nd rfl (Or.inr rfl) pe_str)
    (pss_cons (ps_for PassesOwn.never rfl (pi_range1 rfl B.range (pa_cons (pe_call GD hr rfl mD kD bD .nil pass0 (pa_cons (pv 0) (pa_cons pe_int pa_nil))) pa_nil)) (pg_name (i := 3) scNames.nd rfl (Or.inl rfl))
      (pss_one (ps_set (i := 2) scNames.nd rfl (Or.inr rfl) (pe_op op_add_str (pv 2) (pe_ix ix_str (pv 1) (pe_call GD hr rfl mD kD bD .nil pass0 (pa_cons (pv 0) (pa_cons pe_int pa_nil))) (fun _ _ => rfl))))))
    (pss_cons (ps_set (i := 4) scNames.nd rfl (Or.inr rfl) (pe_call GD hr rfl mD kD bD .nil pass0 (pa_cons (pv 0) (pa_cons (pe_op op_add (pe_callB call_len_str (by rfl) B.len PySem.boot_len (pa_cons (pv 2) pa_nil)) pe_int) pa_nil))))
    (pss_cons (ps_set (i := 5) scNames.nd rfl (Or.inl rfl) (pe_call GD hr rfl mD kD bD .nil pass0 (pa_cons (pv 0) (pa_cons pe_int pa_nil))))
    (pss_cons (ps_set (i := 6) scNames.nd rfl (Or.inl rfl) (pe_lst (pa_cons (pv 5)
      (pa_cons (pe_op op_modN (pe_callTy call_int1 (by rfl) B.int (by decide +kernel) (pa_cons (pe_op op_add (pe_op op_add (pv 5) pe_int) (pe_call GD hr rfl mD kD bD .nil pass0 (pa_cons (pv 0) (pa_cons pe_int pa_nil)))) pa_nil)) pe_int)
      (pa_cons (pe_op op_modN (pe_callTy call_int1 (by rfl) B.int (by decide +kernel) (pa_cons (pe_op op_add (pe_op op_add (pv 5) pe_int) (pe_call GD hr rfl mD kD bD .nil pass0 (pa_cons (pv 0) (pa_cons pe_int pa_nil)))) pa_nil)) pe_int) pa_nil)))))
    (pss_one (ps_ret (pe_lc (own := [("_law_sign", 7)]) (g := gName 7) (tt := tYes) rfl scNames.nd (pi_list (pv 6)) (blkOk_by (own := [("_law_sign", 7)]) (N := ["_law_pool_here", "_law_letters", "_law_base", "_law_k", "_law_at", "_law_first", "_law_signs", "_law_sign"]) (sc := defScope sNames) (by decide +kernel))
      (fun _ _ _ _ _ => pg_name (i := 7) scNames.nd rfl (Or.inl rfl)) (fun _ _ _ _ _ => pts_nil)
      (fun _ _ _ _ _ => pe_op op_add_str (pe_op op_add_str (pe_slice sl_str (pv 2) po_none (po_some (pv 4))) (pe_ix ix_str (pv 1) (pv 7) (fun _ _ => rfl))) (pe_slice sl_str (pv 2) (po_some (pv 4)) po_none)))))))))), ?_⟩
  refine ⟨_, rfl, p, 8, rfl, hp, by decide, by decide, fun r H1 r0 r1 k1 hp1 => ⟨r, rfl, by omega, by omega, ?_⟩⟩
  refine for_range (lo := 0) (n := r.toNat) (fun i σ H2 => ∃ (b : Str) (v : Option V), σ = [some (.ref p), some (.str alpha), some (.str b), v, none, none, none, none] ∧ Low b ∧ b.length = i ∧ Kp p H H2 ∧ PoolAt H2 p) ⟨_, _, rfl, low_nil, rfl, k1, hp1⟩ ?_ ?_
  · rintro i σ H2 hi ⟨b, v, rfl, hb, hl, k2, hp2⟩
    refine ⟨_, rfl, _, rfl, _, rfl, p, 26, rfl, hp2, by decide, by decide, fun r2 H3 r20 r21 k3 hp3 => ?_⟩
    obtain ⟨c, hc, hc2⟩ := alpha_at r20 r21
    refine ⟨_, _, c, rfl, rfl, (by show 26 ≤ sizeLine; decide), hc, _, _, rfl, rfl, ?_, ?_⟩
    · show b.length + 1 ≤ sizeLine
      exact Nat.le_of_lt (small1000 (by omega))
    · refine ⟨_, _, rfl, low_app hb (low_one hc2), ?_, k2.trans k3, hp3⟩
      rw [len_app, len_one, hl]
  · rintro σ H2 ⟨b, v, rfl, hb, hl, k2, hp2⟩
    have hl7 : b.length ≤ 7 := by omega
    have hsz : b.length ≤ sizeLine := Nat.le_of_lt (small1000 (by omega))
    refine ⟨_, rfl, _, rfl, _, rfl, hsz, _, _, rfl, rfl, p, _, rfl, hp2, by omega, by omega, fun at_ H3 a0 a1 k3 hp3 => ?_⟩
    refine ⟨_, rfl, p, 26, rfl, hp3, by decide, by decide, fun f1 H4 f0 f1' k4 hp4 => ?_⟩
    refine ⟨_, rfl, _, rfl, _, _, rfl, rfl, _, rfl, p, 12, rfl, hp4, by decide, by decide, fun d1 H5 d0 d1' k5 hp5 => ?_⟩
    refine ⟨_, _, rfl, rfl, .inl ⟨_, rfl, _, _, rfl, rfl, (by show (26:Int) ≠ 0; decide), ?_⟩⟩
    refine ⟨_, rfl, _, _, rfl, rfl, _, rfl, p, 12, rfl, hp5, by decide, by decide, fun d2 H6 d20 d21 k6 hp6 => ?_⟩
    refine ⟨_, _, rfl, rfl, .inl ⟨_, rfl, _, _, rfl, rfl, (by show (26:Int) ≠ 0; decide), ?_⟩⟩
    refine ⟨(by show 3 ≤ sizeLine; decide), fun l hl0 => ?_⟩
    have s1 : ∀ n : Int, 0 ≤ n.fmod 26 ∧ n.fmod 26 < 26 := fun n => fmod_ok (by decide)
    have kAll : Kp p H H6 := ((((k2.trans k3).trans k4).trans k5).trans k6)
    have hpl : H6 p ≠ none := by obtain ⟨_, _, _, z⟩ := hp6; rw [z]; intro z'; cases z'
    have npl : p ≠ l := fun z => hpl (z ▸ hl0)
    refine ⟨_, rfl, l, rfl, ⟨_, SqL.of upd_same⟩, fun D hD => ?_⟩
    have nDl : l ≠ D := ne_of_none upd_same hD
    have hD6 : H6 D = none := by rw [upd_ne nDl.symm] at hD; exact hD
    have npD : p ≠ D := fun z => hpl (z ▸ hD6)
    have hD0 : H D = none := by
      cases e : H D with
      | none => rfl
      | some o =>
        have z := kAll D o e npD.symm
        rw [hD6] at z; cases z
    refine lc_list (K := K) (a := l) (xs := [.int f1, .int ((f1 + 1 + d1).fmod 26), .int ((f1 + 14 + d2).fmod 26)]) (fun i H7 => ∃ acc : List V, H7 D = some (.lst acc) ∧ acc.length = i ∧ (∀ v ∈ acc, ∃ z, v = V.str z ∧ IsName z) ∧
      H7 l = some (.lst [.int f1, .int ((f1 + 1 + d1).fmod 26), .int ((f1 + 14 + d2).fmod 26)]) ∧ Kp p H H7 ∧ PoolAt H7 p) ?_ ?_ ?_ ?_
    · refine ⟨[], upd_same, rfl, fun v hv => (nomatch hv), by rw [upd_ne nDl]; exact upd_same, (kAll.new hl0).new hD, ?_⟩
      obtain ⟨a, b', c, z⟩ := hp6
      exact ⟨a, b', c, by rw [upd_ne npD, upd_ne npl]; exact z⟩
    · rintro i H7 hi ⟨acc, h1, h2, h3, h4, h5, h6⟩
      exact SqL.of h4
    · rintro i x H7 hx ⟨acc, h1, h2, h3, h4, h5, h6⟩
      have hi3 : i < 3 := (List.getElem?_eq_some_iff.mp hx).1
      obtain ⟨n, rfl, n0, n1⟩ : ∃ n, x = V.int n ∧ 0 ≤ n ∧ n < 26 := by
        have hm := List.mem_of_getElem? hx
        simp only [List.mem_cons, List.not_mem_nil, or_false] at hm
        rcases hm with e | e | e
        · exact ⟨_, e, f0, f1'⟩
        · exact ⟨_, e, s1 _⟩
        · exact ⟨_, e, s1 _⟩
      obtain ⟨c, hc, hc2⟩ := alpha_at n0 n1
      have hnm := isName_mk (k := at_) hb hl7 hc2 a0 (by omega)
      refine ⟨rfl, ?_⟩
      unfold tYes
      dsimp only
      rw [if_pos rfl]
      refine ⟨_, rfl, _, rfl, _, rfl, _, rfl, hsz, _, rfl, _, rfl, _, _, c, rfl, rfl, (by show 26 ≤ sizeLine; decide), hc, _, _, rfl, rfl, ?_, ?_⟩
      · have z := hnm.2.1
        rw [len_app, len_app] at z
        exact Nat.le_of_lt (small1000 (by omega))
      refine ⟨_, rfl, _, rfl, _, rfl, _, rfl, hsz, _, _, rfl, rfl, ?_, acc, h1, ?_, ?_⟩
      · have z := hnm.2.1
        rw [len_app] at z
        exact Nat.le_of_lt (small1000 (by omega))
      · rw [h2]; exact small1000 (by omega)
      · refine ⟨_, upd_same, by rw [List.length_append, h2]; rfl, fun v hv => ?_, by rw [upd_ne nDl]; exact h4, ?_, ?_⟩
        · rcases List.mem_append.mp hv with z | z
          · exact h3 v z
          · have e : v = _ := List.mem_singleton.mp z
            exact ⟨_, e, hnm⟩
        · intro b' o e hne
          rw [upd_ne (ne_of_none e hD0)]
          exact h5 b' o e hne
        · obtain ⟨a, b', c', z⟩ := h6
          exact ⟨a, b', c', by rw [upd_ne npD]; exact z⟩
    · rintro H7 ⟨acc, h1, h2, h3, h4, h5, h6⟩
      refine q D H7 hD0 h5 h6 ?_
      match acc, h2, h3 with
      | [u, v, t], _, h3 =>
        obtain ⟨x, rfl, hx⟩ := h3 u (by simp)
        obtain ⟨y, rfl, hy⟩ := h3 v (by simp)
        obtain ⟨z, rfl, hz⟩ := h3 t (by simp)
        exact ⟨x, y, z, h1, hx, hy, hz⟩
theorem max_if (a b : Int) : (if b > a then b else a) = max a b := by
  by_cases h : b > a
  · rw [if_pos h]; omega
  · rw [if_neg h]; omega
theorem heldAll_snoc (S : List Stm) (s : Stm) (h : Int) : heldAll (S ++ [s]) h = s.held (heldAll S h) := by
  rw [heldAll_app, heldAll, heldAll]
theorem cntAll_snoc (S : List Stm) (s : Stm) : cntAll (S ++ [s]) = cntAll S + s.cnt := by
  rw [cntAll_app, cntAll, cntAll]; rfl
theorem okAll_snoc {d : Nat} {S : List Stm} {s : Stm} {h : Int} (a : okAll d S h) (b : s.ok d (heldAll S h)) : okAll d (S ++ [s]) h := by
  refine okAll_app d S [s] h a ?_
  rw [okAll, okAll]
  exact ⟨b, trivial⟩
end
end Tk
set_option maxRecDepth 100000
namespace Tk
open PySem L2
abbrev sIsInt : Stmt := top 10
abbrev sIsName : Stmt := top 12
abbrev sSInit : Stmt := inClass (top 18) 0
abbrev sSLen : Stmt := inClass (top 18) 1
abbrev sSHas : Stmt := inClass (top 18) 2
abbrev sSGet : Stmt := inClass (top 18) 3
abbrev sAfter : Stmt := inClass (top 18) 6
abbrev sBehind : Stmt := inClass (top 18) 7
abbrev sKInit : Stmt := inClass (top 19) 0
abbrev sKBr : Stmt := inClass (top 19) 1
abbrev sKSt : Stmt := inClass (top 19) 2
abbrev sFault : Stmt := top 20
abbrev sForm : Stmt := top 22
abbrev sHeld : Stmt := top 21
def items8 : List (Str × Int) := [("take", 1), ("commit", 1), ("rollback", 1), ("drop", 1), ("leave", 1), ("lock", 2), ("unlock", 2), ("choose", 3)]
/-- what the top has made -/
structure Txt (K : PySem.W.Frag) (w : World) (mg : Str → Option Value) (CS CK it : Addr) : Prop where
  isi : mg "isinstance" = none
  all : mg "all" = none
  list : mg "list" = none
  enum : mg "enumerate" = none
  str : mg "str" = none
  bool : mg "bool" = none
  long : ∃ t, mg "LONGEST_NAME" = some (.int 8 t)
  mSt : ∃ t, mg "MOST_STATEMENTS" = some (.int 8 t)
  mHe : ∃ t, mg "MOST_HELD" = some (.int 3 t)
  mNe : ∃ t, mg "MOST_NESTED" = some (.int 2 t)
  mIt : mg "ITEMS" = some (.ref it)
  lkI : ∃ es n, K.lookup it = some ⟨.type "dict", none, .dict es n, #[]⟩
  kg : ∀ z n, (z, n) ∈ items8 → KG K w it z (.int n)
  clS : Cls K CS
  clK : Cls K CK
  mgS : mg "Script" = some (.ref CS)
  mgK : mg "Check" = some (.ref CK)
  nS : NoAttr K CS "statements"
  nF : NoAttr K CS "found"
  nP : NoAttr K CS "places"
  kF : NoAttr K CK "found"
theorem lt1 (a b : Nat) : ([a] < [b]) ↔ a < b := by
  rw [List.cons_lt_cons_iff]
  simp
theorem iteFb {c : Bool} {A B : Prop} (e : c = false) (h : B) : if c = true then A else B := by rw [e]; exact iteF h
theorem iteTb {c : Bool} {A B : Prop} (e : c = true) (h : A) : if c = true then A else B := by rw [e]; exact iteT h
def nameB (z : Str) : Bool := decide (1 ≤ z.length) && decide (z.length ≤ 8) && z.cps.toList.all fun c => decide (97 ≤ c) && decide (c ≤ 122)
theorem nameB_of {z : Str} (h : IsName z) : nameB z = true := by
  unfold nameB
  rw [decide_eq_true h.1, decide_eq_true h.2.1]
  simp only [Bool.true_and, List.all_eq_true]
  intro c hc
  have q := h.2.2 c hc
  rw [decide_eq_true q.1, decide_eq_true q.2]; rfl
def spIsInt (K : PySem.W.Frag) : Sp := fun vs H Q _ => ∃ (x : V) (T : String) (b1 b2 : Bool), vs = [x] ∧ TyX K H x (.type T) ∧ kitB T "int" = some b1 ∧ kitB T "bool" = some b2 ∧ Q (.bl (b1 && !b2)) H
def spIsName : Sp := fun vs H Q _ => ∃ z : Str, vs = [.str z] ∧ z.length ≤ 100 ∧ ∀ H', Same H H' → Q (.bl (nameB z)) H'
/-- a good statement -/
def spForm : Sp := fun vs H Q _ => ∃ (v : V) (s : Stm), vs = [v] ∧ s.at H v ∧ Q (.bl true) H
def spFault : Sp := fun vs H Q _ => ∃ (v : V) (u : Addr) (e h : Int) (s : Stm) (d : Nat) (p : List V), vs = [v, .ref u, .int e, .int h] ∧ s.at H v ∧ H u = some (.tup p) ∧ p.length = 2 * d + 1 ∧ e ≠ 8 ∧ s.ok d h ∧ ∀ H', Same H H' → Q .non H'
section
variable {P : Program} {w : World} {K : PySem.W.Frag} {mg : Str → Option Value} {base : Heap} {CS CK it : Addr}
theorem scII : FnScope ["value"] ["value"] (defScope sIsInt) := ⟨rfl, rfl, rfl, by decide +kernel, rfl, by decide +kernel, by decide +kernel⟩
theorem ok_isint {f : Addr} {fd : FuncData} (F : Fun K "is_integer" "is_integer" sIsInt f fd) (B : Bl mg) (T : Txt K w mg CS CK it) : FnOk P w K mg base CX0 1 f fd ["value"] (spIsInt K) := by
  refine F.ok scII (fun vs H Q E h => ?_) (fun cdv A outer s H vs Q E hr h => ?_)
  · obtain ⟨x, t, b1, b2, rfl, _⟩ := h
    rfl
  obtain ⟨x, t, b1, b2, rfl, ty, k1, k2, q⟩ := h
  refine ⟨_, pss_one (ps_ret (pe_and (pe_callB call_isi (by rfl) T.isi (by decide +kernel) (pa_cons (pv 0) (pa_cons (pe_bltn (v := .ty "int") (by rfl) B.int (by decide +kernel) rfl) pa_nil)))
    (pe_one (pe_not (pe_callB call_isi (by rfl) T.isi (by decide +kernel) (pa_cons (pv 0) (pa_cons (pe_bltn (v := .ty "bool") (by rfl) T.bool (by decide +kernel) rfl) pa_nil))))))), ?_⟩
  refine ⟨_, rfl, x, _, _, _, b1, rfl, .ty "int", ty, kit_ty k1, b1, rfl, ?_⟩
  cases b1 with
  | false => exact iteF q
  | true => exact iteT ⟨_, rfl, x, _, _, _, b2, rfl, .ty "bool", ty, kit_ty k2, b2, rfl, q⟩
theorem scIN : FnScope ["value", "letter"] ["value"] (defScope sIsName) := ⟨rfl, rfl, rfl, by decide +kernel, rfl, by decide +kernel, by decide +kernel⟩
theorem ok_isname {f : Addr} {fd : FuncData} (F : Fun K "is_name" "is_name" sIsName f fd) (B : Bl mg) (T : Txt K w mg CS CK it) : FnOk P w K mg base CX0 1 f fd ["value"] spIsName := by
  refine F.ok scIN (fun vs H Q E h => ?_) (fun cdv A outer s H vs Q E hr h => ?_)
  · obtain ⟨z, rfl, _⟩ := h
    rfl
  obtain ⟨z, rfl, h100, q⟩ := h
  have hsz : z.length ≤ sizeLine := Nat.le_of_lt (small1000 (by omega))
  obtain ⟨tl, gl⟩ := T.long
  refine ⟨_, pss_cons (ps_if (PW.pt (pw_or (pt_not (pt_val (pe_callB call_isi (by rfl) T.isi (by decide +kernel) (pa_cons (pv 0) (pa_cons (pe_bltn (v := .ty "str") (by rfl) T.str (by decide +kernel) rfl) pa_nil)))))
      (pw_or1 (pt_not (pt_chain op_le op_le pe_int (pe_callB call_len_str (by rfl) B.len PySem.boot_len (pa_cons (pv 0) pa_nil)) (pe_glob (v := .int 8) (by rfl) gl ⟨_, rfl⟩)))))) (pss_one (ps_ret pe_bl)) pss_nil)
    (pss_one (ps_ret (pe_callB (cr_all rfl) (by rfl) T.all (by decide +kernel) (pa_cons
      (pe_lc (own := [("letter", 1)]) (g := gName 1) (tt := tYes) rfl scIN.nd (pi_str (pv 0)) (blkOk_by (own := [("letter", 1)]) (N := ["value", "letter"]) (sc := defScope sIsName) (by decide +kernel))
        (fun _ _ _ _ _ => pg_name (i := 1) scIN.nd rfl (Or.inl rfl)) (fun _ _ _ _ _ => pts_nil)
        (fun _ _ _ _ _ => pe_chain op_le_str op_le_str pe_str (pv 1) pe_str)) pa_nil)))), ?_⟩
  refine ⟨_, rfl, _, _, _, _, true, rfl, .ty "str", .base (.str _), kit_ty (by decide +kernel), true, rfl, iteF ?_⟩
  refine ⟨_, rfl, _, rfl, hsz, _, _, rfl, rfl, _, rfl, ?_⟩
  have ret : ∀ b : Bool, nameB z = b → Q (.bl b) H := fun b e => e ▸ q H (Same.refl H)
  by_cases c1 : 1 ≤ z.length
  · have c1' : decide ((1 : Int) ≤ (z.length : Int)) = true := decide_eq_true (by omega)
    refine iteTb c1' ⟨_, _, rfl, rfl, _, rfl, ?_⟩
    by_cases c2 : z.length ≤ 8
    · have c2' : decide ((z.length : Int) ≤ 8) = true := decide_eq_true (by omega)
      rw [c2']
      refine iteF ?_
      refine ⟨_, rfl, z, rfl, fun D hD => ?_⟩
      refine lc_it walk_str (fun i H7 => H7 D = some (.lst (((z.cps.toList.take i).map fun c => decide (97 ≤ c) && decide (c ≤ 122)).map V.bl)) ∧ Same H H7 ∧ i ≤ z.cps.size) ?_ (fun _ _ _ _ => trivial) ?_ ?_
      · exact ⟨upd_same, same_new hD _, Nat.zero_le _⟩
      · rintro i x H7 H8 hi ⟨h1, h2, h3⟩ ⟨rfl, c, hc, rfl⟩
        refine ⟨rfl, ?_⟩
        unfold tYes
        dsimp only
        rw [if_pos rfl]
        have nx : ∀ b : Bool, (decide (97 ≤ c) && decide (c ≤ 122)) = b → ∃ acc, H8 D = some (.lst acc) ∧ acc.length < sizeLine ∧ (upd H8 D (.lst (acc ++ [.bl b]))) D = some (.lst (((z.cps.toList.take (i + 1)).map fun c => decide (97 ≤ c) && decide (c ≤ 122)).map V.bl)) ∧ Same H (upd H8 D (.lst (acc ++ [.bl b]))) ∧ i + 1 ≤ z.cps.size := by
          intro b e
          have hz : z.cps.size ≤ 8 := c2
          refine ⟨_, h1, small1000 (by simp; omega), ?_, ?_, hi⟩
          · rw [upd_same]
            have ez : z.cps.toList[i]? = some c := by simpa using hc
            rw [List.take_add_one, ez]
            simp [e]
          · intro b' o e'
            rw [upd_ne (ne_of_none e' hD)]
            exact h2 b' o e'
        refine ⟨_, rfl, _, _, rfl, rfl, _, rfl, ?_⟩
        have e1 : (!decide ((⟨#[c]⟩ : Str).cps.toList < ("a" : Str).cps.toList)) = decide (97 ≤ c) := by
          have e0 : ("a" : Str).cps.toList = [97] := by decide +kernel
          rw [e0]
          show (!decide ([c] < [97])) = _
          by_cases k : 97 ≤ c
          · rw [decide_eq_true k, decide_eq_false (fun x => absurd ((lt1 c 97).mp x) (by omega))]; rfl
          · rw [decide_eq_false k, decide_eq_true ((lt1 c 97).mpr (by omega))]; rfl
        have e2 : (!decide (("z" : Str).cps.toList < (⟨#[c]⟩ : Str).cps.toList)) = decide (c ≤ 122) := by
          have e0 : ("z" : Str).cps.toList = [122] := by decide +kernel
          rw [e0]
          show (!decide ([122] < [c])) = _
          by_cases k : c ≤ 122
          · rw [decide_eq_true k, decide_eq_false (fun x => absurd ((lt1 122 c).mp x) (by omega))]; rfl
          · rw [decide_eq_false k, decide_eq_true ((lt1 122 c).mpr (by omega))]; rfl
        rw [e1]
        by_cases k : 97 ≤ c
        · refine iteTb (decide_eq_true k) ⟨_, _, rfl, rfl, ?_⟩
          rw [e2]
          exact nx _ (by rw [decide_eq_true k, Bool.true_and])
        · refine iteFb (decide_eq_false k) ?_
          exact nx _ (by rw [decide_eq_false k, Bool.false_and])
      · rintro H7 ⟨h1, h2, _⟩
        refine ⟨D, _, rfl, SqL.of h1, ?_⟩
        have e : nameB z = ((z.cps.toList.take z.cps.size).map fun c => decide (97 ≤ c) && decide (c ≤ 122)).all id := by
          unfold nameB
          rw [decide_eq_true c1, decide_eq_true c2, List.take_of_length_le (by simp), List.all_map]
          rfl
        rw [← e]
        exact q H7 h2
    · have c2' : decide ((z.length : Int) ≤ 8) = false := decide_eq_false (by omega)
      rw [c2']
      refine iteT ?_
      exact ret false (by unfold nameB; rw [decide_eq_false c2]; simp)
  · have c1' : decide ((1 : Int) ≤ (z.length : Int)) = false := decide_eq_false (by omega)
    refine iteFb c1' ⟨_, rfl, iteT ?_⟩
    exact ret false (by unfold nameB; rw [decide_eq_false c1]; simp)
/-! ### has_form, fault_of -/
theorem wd_ne (w : Wd) : decide (V.str w.s = V.str "choose") = false := by cases w <;> decide +kernel
theorem lk_ne (b : Bool) : decide (V.str (lockS b) = V.str "choose") = false := by cases b <;> decide +kernel
theorem wd_it (w : Wd) : (w.s, (1 : Int)) ∈ items8 := by cases w <;> simp [items8, Wd.s]
theorem lk_it (b : Bool) : (lockS b, (2 : Int)) ∈ items8 := by cases b <;> simp [items8, lockS]
theorem ch_it : (("choose" : Str), (3 : Int)) ∈ items8 := by simp [items8]
theorem scHF : FnScope ["statement", "word"] ["statement"] (defScope sForm) := ⟨rfl, rfl, rfl, by decide +kernel, rfl, by decide +kernel, by decide +kernel⟩
theorem ok_form {f : Addr} {fd : FuncData} (F : Fun K "has_form" "has_form" sForm f fd) (B : Bl mg) (T : Txt K w mg CS CK it) : FnOk P w K mg base CX0 1 f fd ["statement"] spForm := by
  refine F.ok scHF (fun vs H Q E h => ?_) (fun cdv A outer s H vs Q E hr h => ?_)
  · obtain ⟨v, s, rfl, _⟩ := h
    rfl
  obtain ⟨v, s, rfl, hs, q⟩ := h
  obtain ⟨es, n, lkI⟩ := T.lkI
  refine ⟨_, pss_cons (ps_if (PW.pt (pw_or (pt_not (pt_val (pe_callB call_isi (by rfl) T.isi (by decide +kernel) (pa_cons (pv 0) (pa_cons (pe_bltn (v := .ty "tuple") (by rfl) B.tuple (by decide +kernel) rfl) pa_nil)))))
      (pw_or1 (pt_not (pt_truth (pv 0) (by intro _; rfl)))))) (pss_one (ps_ret pe_bl)) pss_nil)
    (pss_cons (ps_set (i := 1) scHF.nd rfl (Or.inl rfl) (pe_ix ix_tup (pv 0) pe_int (fun _ _ => rfl)))
    (pss_cons (ps_if (PW.pt (pw_or (pt_not (pt_val (pe_callB call_isi (by rfl) T.isi (by decide +kernel) (pa_cons (pv 1) (pa_cons (pe_bltn (v := .ty "str") (by rfl) T.str (by decide +kernel) rfl) pa_nil)))))
      (pw_or1 (pt_cmpR op_ne (pe_callB call_len_seq (by rfl) B.len PySem.boot_len (pa_cons (pv 0) pa_nil)) (pe_kget (pe_glob (v := .ref it) (by rfl) T.mIt rfl) (pv 1) (fun σ H Q h => ⟨⟨it, _, es, n, rfl, lkI, rfl⟩, h⟩) ⟨rfl, rfl, rfl, rfl⟩) (nomark _))))) (pss_one (ps_ret pe_bl)) pss_nil)
    (pss_cons (ps_if (pt_cmpR op_eq (pv 1) pe_str (nomark _)) (pss_one (ps_ret (pe_and (pe_callB call_isi (by rfl) T.isi (by decide +kernel) (pa_cons (pe_ix ix_tup (pv 0) pe_int (fun _ _ => rfl)) (pa_cons (pe_bltn (v := .ty "tuple") (by rfl) B.tuple (by decide +kernel) rfl) pa_nil)))
        (pe_one (pe_callB call_isi (by rfl) T.isi (by decide +kernel) (pa_cons (pe_ix ix_tup (pv 0) pe_int (fun _ _ => rfl)) (pa_cons (pe_bltn (v := .ty "tuple") (by rfl) B.tuple (by decide +kernel) rfl) pa_nil))))))) pss_nil)
    (pss_one (ps_ret pe_bl))))), ?_⟩
  cases s with
  | one w =>
    rw [Stm.at] at hs
    obtain ⟨a, rfl, ha⟩ := hs
    refine ⟨_, rfl, _, _, _, _, true, rfl, .ty "tuple", .base (.tup ha), kit_ty (by decide +kernel), true, rfl, iteF ?_⟩
    refine ⟨_, rfl, true, .inr (.inl ⟨_, SqT.of ha, rfl⟩), iteF ?_⟩
    refine ⟨_, rfl, a, _, _, _, rfl, rfl, SqT.of ha, rfl, ?_⟩
    refine ⟨_, rfl, _, _, _, _, true, rfl, .ty "str", .base (.str _), kit_ty (by decide +kernel), true, rfl, iteF ?_⟩
    refine ⟨_, rfl, a, _, rfl, .inr (SqT.of ha), _, rfl, it, _, _, rfl, rfl, T.kg _ _ (wd_it w), rfl, _, rfl, iteNS rfl ?_⟩
    exact ⟨_, rfl, rfl, _, rfl, iteFb (wd_ne w) q⟩
  | nam b z =>
    rw [Stm.at] at hs
    obtain ⟨a, rfl, ha⟩ := hs
    refine ⟨_, rfl, _, _, _, _, true, rfl, .ty "tuple", .base (.tup ha), kit_ty (by decide +kernel), true, rfl, iteF ?_⟩
    refine ⟨_, rfl, true, .inr (.inl ⟨_, SqT.of ha, rfl⟩), iteF ?_⟩
    refine ⟨_, rfl, a, _, _, _, rfl, rfl, SqT.of ha, rfl, ?_⟩
    refine ⟨_, rfl, _, _, _, _, true, rfl, .ty "str", .base (.str _), kit_ty (by decide +kernel), true, rfl, iteF ?_⟩
    refine ⟨_, rfl, a, _, rfl, .inr (SqT.of ha), _, rfl, it, _, _, rfl, rfl, T.kg _ _ (lk_it b), rfl, _, rfl, iteNS rfl ?_⟩
    exact ⟨_, rfl, rfl, _, rfl, iteFb (lk_ne b) q⟩
  | ch y n =>
    rw [Stm.at] at hs
    obtain ⟨a, b, c, xs, ys, rfl, ha, hb, _, hc, _⟩ := hs
    refine ⟨_, rfl, _, _, _, _, true, rfl, .ty "tuple", .base (.tup ha), kit_ty (by decide +kernel), true, rfl, iteF ?_⟩
    refine ⟨_, rfl, true, .inr (.inl ⟨_, SqT.of ha, rfl⟩), iteF ?_⟩
    refine ⟨_, rfl, a, _, _, _, rfl, rfl, SqT.of ha, rfl, ?_⟩
    refine ⟨_, rfl, _, _, _, _, true, rfl, .ty "str", .base (.str _), kit_ty (by decide +kernel), true, rfl, iteF ?_⟩
    refine ⟨_, rfl, a, _, rfl, .inr (SqT.of ha), _, rfl, it, _, _, rfl, rfl, T.kg _ _ ch_it, rfl, _, rfl, iteNS rfl ?_⟩
    refine ⟨_, rfl, rfl, _, rfl, iteTb (by decide +kernel) ?_⟩
    refine ⟨_, rfl, a, _, _, _, rfl, rfl, SqT.of ha, rfl, _, _, _, _, true, rfl, .ty "tuple", .base (.tup hb), kit_ty (by decide +kernel), true, rfl, iteT ?_⟩
    exact ⟨_, rfl, a, _, _, _, rfl, rfl, SqT.of ha, rfl, _, _, _, _, true, rfl, .ty "tuple", .base (.tup hc), kit_ty (by decide +kernel), q⟩
theorem wd_in (w : Wd) : inV (V.str w.s) [V.str "lock", V.str "unlock"] = false := by cases w <;> decide +kernel
theorem lk_in (b : Bool) : inV (V.str (lockS b)) [V.str "lock", V.str "unlock"] = true := by cases b <;> decide +kernel
theorem ch_in : inV (V.str "choose") [V.str "lock", V.str "unlock"] = false := by decide +kernel
theorem lk_tk (b : Bool) : decide (V.str (lockS b) = V.str "take") = false := by cases b <;> decide +kernel
theorem wd_tk (w : Wd) : decide (V.str w.s = V.str "take") = decide (w = .take) := by cases w <;> decide +kernel
theorem scFO : FnScope ["statement", "place", "earlier", "held", "word"] ["statement", "place", "earlier", "held"] (defScope sFault) := ⟨rfl, rfl, rfl, by decide +kernel, rfl, by decide +kernel, by decide +kernel⟩
theorem ok_fault {f fF fN : Addr} {fd fdF fdN : FuncData} (F : Fun K "fault_of" "fault_of" sFault f fd) (B : Bl mg) (T : Txt K w mg CS CK it)
    (GF : FnOk P w K mg base CX0 1 fF fdF ["statement"] spForm) (bF : Binds K fdF ["statement"] []) (kF : PySem.W.keepIn K (.ref fF) = true) (mF : mg "has_form" = some (.ref fF))
    (GN : FnOk P w K mg base CX0 1 fN fdN ["value"] spIsName) (bN : Binds K fdN ["value"] []) (kN : PySem.W.keepIn K (.ref fN) = true) (mN : mg "is_name" = some (.ref fN)) :
    FnOk P w K mg base CX0 2 f fd ["statement", "place", "earlier", "held"] spFault := by
  refine F.ok scFO (fun vs H Q E h => ?_) (fun cdv A outer s H vs Q E hr h => ?_)
  · obtain ⟨v, u, e, h, s, d, p, rfl, _⟩ := h
    rfl
  obtain ⟨v, u, e, h, s, d, p, rfl, hs, hu, hp, e8, ok, q⟩ := h
  obtain ⟨t1, g1⟩ := T.mSt
  obtain ⟨t2, g2⟩ := T.mNe
  obtain ⟨t3, g3⟩ := T.mHe
  refine ⟨_, pss_cons (ps_if (pt_cmpR op_eq (pv 2) (pe_glob (v := .int 8) (by rfl) g1 ⟨_, rfl⟩) (nomark _)) (pss_one (ps_ret pe_str)) pss_nil)
    (pss_cons (ps_if (pt_not (pt_val (pe_call GF hr rfl mF kF bF .nil pass0 (pa_cons (pv 0) pa_nil)))) (pss_one (ps_ret pe_str)) pss_nil)
    (pss_cons (ps_set (i := 4) scFO.nd rfl (Or.inl rfl) (pe_ix ix_tup (pv 0) pe_int (fun _ _ => rfl)))
    (pss_cons (ps_if (PW.pt (pw_and (pt_cmpR op_eq (pv 4) pe_str (nomark _)) (pw_and1 (pt_cmpR op_eq (pe_op op_fdivN (pe_callB call_len_seq (by rfl) B.len PySem.boot_len (pa_cons (pv 1) pa_nil)) pe_int) (pe_glob (v := .int 2) (by rfl) g2 ⟨_, rfl⟩) (nomark _))))) (pss_one (ps_ret pe_str)) pss_nil)
    (pss_cons (ps_if (PW.pt (pw_and (pt_cmpR op_in_seq (pv 4) (pe_tup (pa_cons pe_str (pa_cons pe_str pa_nil))) (by rfl)) (pw_and1 (pt_not (pt_val (pe_call GN hr rfl mN kN bN .nil pass0 (pa_cons (pe_ix ix_tup (pv 0) pe_int (fun _ _ => rfl)) pa_nil))))))) (pss_one (ps_ret pe_str)) pss_nil)
    (pss_cons (ps_if (PW.pt (pw_and (pt_cmpR op_eq (pv 4) pe_str (nomark _)) (pw_and1 (pt_cmpR op_eq (pv 3) (pe_glob (v := .int 3) (by rfl) g3 ⟨_, rfl⟩) (nomark _))))) (pss_one (ps_ret pe_str)) pss_nil)
    (pss_one (ps_ret pe_non))))))), ?_⟩
  have ne8 : decide (V.int e = V.int 8) = false := decide_eq_false (fun z => e8 (by injection z))
  refine ⟨_, rfl, rfl, _, rfl, iteFb ne8 ?_⟩
  refine ⟨_, rfl, v, s, rfl, hs, true, rfl, iteF ?_⟩
  cases s with
  | one wd =>
    rw [Stm.at] at hs
    obtain ⟨a, rfl, ha⟩ := hs
    rw [Stm.ok] at ok
    refine ⟨_, rfl, a, _, _, _, rfl, rfl, SqT.of ha, rfl, ?_⟩
    refine ⟨_, rfl, rfl, _, rfl, iteFb (wd_ne wd) ?_⟩
    refine ⟨_, rfl, (by show 2 ≤ sizeLine; decide), fun t ht => ⟨t, _, rfl, .inr (SqT.of upd_same), rfl, rfl, _, rfl, iteFb (wd_in wd) ?_⟩⟩
    refine ⟨_, rfl, rfl, _, rfl, ?_⟩
    rw [wd_tk]
    by_cases c : wd = .take
    · refine iteTb (decide_eq_true c) ⟨_, rfl, rfl, _, rfl, iteFb (decide_eq_false (fun z => ok c (by injection z))) (q _ (same_new ht _))⟩
    · exact iteFb (decide_eq_false c) (q _ (same_new ht _))
  | nam b z =>
    rw [Stm.at] at hs
    obtain ⟨a, rfl, ha⟩ := hs
    rw [Stm.ok] at ok
    refine ⟨_, rfl, a, _, _, _, rfl, rfl, SqT.of ha, rfl, ?_⟩
    refine ⟨_, rfl, rfl, _, rfl, iteFb (lk_ne b) ?_⟩
    refine ⟨_, rfl, (by show 2 ≤ sizeLine; decide), fun t ht => ⟨t, _, rfl, .inr (SqT.of upd_same), rfl, rfl, _, rfl, iteTb (lk_in b) ?_⟩⟩
    refine ⟨_, rfl, a, _, _, _, rfl, rfl, SqT.of ((same_new ht _) a _ ha), rfl, z, rfl, Nat.le_trans ok.2.1 (by decide), fun H2 s2 => ⟨_, rfl, ?_⟩⟩
    rw [nameB_of ok]
    refine iteF ⟨_, rfl, rfl, _, rfl, iteFb (lk_tk b) (q _ ((same_new ht _).trans s2))⟩
  | ch y n =>
    rw [Stm.at] at hs
    obtain ⟨a, b, c, xs, ys, rfl, ha, hb, _, hc, _⟩ := hs
    rw [Stm.ok] at ok
    refine ⟨_, rfl, a, _, _, _, rfl, rfl, SqT.of ha, rfl, ?_⟩
    refine ⟨_, rfl, rfl, _, rfl, iteTb (by decide +kernel) ?_⟩
    refine ⟨_, rfl, u, _, rfl, .inr (SqT.of hu), _, _, rfl, rfl, ⟨by decide, by decide⟩, rfl, _, rfl, ?_⟩
    have e1 : ((p.length : Nat) : Int).fdiv 2 = d := by
      rw [hp, Int.fdiv_eq_ediv_of_nonneg _ (by decide)]; omega
    refine iteFb ?_ ?_
    · show decide (V.int (((p.length : Nat) : Int).fdiv 2) = V.int 2) = false
      rw [e1]
      exact decide_eq_false (fun z => by injection z with z; omega)
    · refine ⟨_, rfl, (by show 2 ≤ sizeLine; decide), fun t ht => ⟨t, _, rfl, .inr (SqT.of upd_same), rfl, rfl, _, rfl, iteFb ch_in ?_⟩⟩
      exact ⟨_, rfl, rfl, _, rfl, iteFb (by decide +kernel) (q _ (same_new ht _))⟩
end
end Tk
set_option maxRecDepth 100000
namespace Tk
open PySem L2
abbrev sWithin : Stmt := top 11
def spWithin (K : PySem.W.Frag) : Sp := fun vs H Q _ => ∃ (x : V) (T : String) (b1 b2 : Bool) (lo hi : Int), vs = [x, .int lo, .int hi] ∧ TyX K H x (.type T) ∧ kitB T "int" = some b1 ∧ kitB T "bool" = some b2 ∧
  ((b1 && !b2) = false → Q (.bl false) H) ∧ ((b1 && !b2) = true → ∃ i, x = .int i ∧ Q (.bl (decide (lo ≤ i) && decide (i ≤ hi))) H)
section
variable {P : Program} {w : World} {K : PySem.W.Frag} {mg : Str → Option Value} {base : Heap} {CS CK it : Addr}
theorem scWi : FnScope ["value", "low", "high"] ["value", "low", "high"] (defScope sWithin) := ⟨rfl, rfl, rfl, by decide +kernel, rfl, by decide +kernel, by decide +kernel⟩
theorem ok_within {f fI : Addr} {fd fdI : FuncData} (F : Fun K "is_within" "is_within" sWithin f fd) (GI : FnOk P w K mg base CX0 1 fI fdI ["value"] (spIsInt K)) (bI : Binds K fdI ["value"] []) (kI : PySem.W.keepIn K (.ref fI) = true) (mI : mg "is_integer" = some (.ref fI)) :
    FnOk P w K mg base CX0 2 f fd ["value", "low", "high"] (spWithin K) := by
  refine F.ok scWi (fun vs H Q E h => ?_) (fun cdv A outer s H vs Q E hr h => ?_)
  · obtain ⟨x, t, b1, b2, lo, hi, rfl, _⟩ := h
    rfl
  obtain ⟨x, t, b1, b2, lo, hi, rfl, ty, k1, k2, q1, q2⟩ := h
  refine ⟨_, pss_one (ps_ret (pe_and (pe_call GI hr rfl mI kI bI .nil pass0 (pa_cons (pv 0) pa_nil)) (pe_one (pe_chain op_le op_le (pv 1) (pv 0) (pv 2))))), ?_⟩
  refine ⟨_, rfl, x, t, b1, b2, rfl, ty, k1, k2, _, rfl, ?_⟩
  cases e : (b1 && !b2) with
  | false => exact iteF (q1 e)
  | true =>
    obtain ⟨i, rfl, q⟩ := q2 e
    refine iteT ⟨_, rfl, _, rfl, _, _, rfl, rfl, _, rfl, ?_⟩
    by_cases c : lo ≤ i
    · rw [decide_eq_true c, Bool.true_and] at q
      exact iteTb (decide_eq_true c) ⟨_, rfl, _, _, rfl, rfl, q⟩
    · rw [decide_eq_false c, Bool.false_and] at q
      exact iteFb (decide_eq_false c) q
end
end Tk
set_option maxRecDepth 100000
namespace Tk
open PySem L2
def CkE (CK : Addr) (H : Hp) (c dd : Addr) (W : List (Pl × Stm)) : Prop := (∃ dx, H c = some (.ins CK dx [("found", .ref dd)])) ∧ ∃ kvs, H dd = some (.dT kvs) ∧ FRel H kvs W
theorem CkE.keep {CK : Addr} {H H' : Hp} {c dd : Addr} {W : List (Pl × Stm)} (x : CkE CK H c dd W) (s : Same H H') : CkE CK H' c dd W := by
  obtain ⟨⟨dx, h1⟩, kvs, h2, h3⟩ := x
  exact ⟨⟨dx, s _ _ h1⟩, kvs, s _ _ h2, h3.keep (TK.of_same s)⟩
theorem Kp.tkD {dd : Addr} {H H' : Hp} {kvs : List (List Key × V)} (k : Kp dd H H') (hp : H dd = some (.dT kvs)) : TK H H' := fun a xs h => k a _ h (ne_of h hp (by intro z; cases z))
abbrev psKB : List Str := ["self", "branch", "above", "held"]
abbrev psKS : List Str := ["self", "statement", "place", "held"]
def spKInit (CK : Addr) : Sp := fun vs H Q _ => ∃ c dx : Addr, vs = [.ref c] ∧ H c = some (.ins CK dx []) ∧ ∀ (dd : Addr) (H' : Hp), H dd = none → CkE CK H' c dd [] → (∀ b o, H b = some o → b ≠ c → H' b = some o) → Q .non H'
def spKS (CK : Addr) (m : Nat) : Sp := fun vs H Q _ => ∃ (c dd u : Addr) (v : V) (h : Int) (s : Stm) (d : Nat) (p : Pl) (W : List (Pl × Stm)), vs = [.ref c, v, .ref u, .int h] ∧ d + m = 3 ∧ d ≤ 2 ∧ CkE CK H c dd W ∧ s.at H v ∧ H u = some (.tup (p.map V.int)) ∧
  p.length = 2 * d + 1 ∧ s.ok d h ∧ W.length + s.cnt ≤ 8 ∧ (∀ q, lk W (p ++ q) = none) ∧ ∀ H', CkE CK H' c dd (W ++ s.walk p) → Kp dd H H' → Q (.int (s.held h)) H'
def spKB (CK : Addr) (m : Nat) : Sp := fun vs H Q _ => ∃ (c dd t u : Addr) (xs : List V) (h : Int) (B : List Stm) (d : Nat) (p : Pl) (W : List (Pl × Stm)), vs = [.ref c, .ref t, .ref u, .int h] ∧ d + m = 3 ∧ d ≤ 2 ∧ CkE CK H c dd W ∧ H t = some (.tup xs) ∧ atAll H xs B ∧ H u = some (.tup (p.map V.int)) ∧
  p.length = 2 * d ∧ okAll d B h ∧ W.length + cntAll B ≤ 8 ∧ (∀ j q, lk W (p ++ j :: q) = none) ∧ ∀ H', CkE CK H' c dd (W ++ walkAll B p 0) → Kp dd H H' → Q (.int (heldAll B h)) H'
theorem small {n : Nat} (h : n ≤ 1000) : n ≤ sizeLine := Nat.le_of_lt (small1000 h)
section
variable {P : Program} {w : World} {K : PySem.W.Frag} {mg : Str → Option Value} {base : Heap} {CS CK it : Addr}
theorem scKI : FnScope ["self"] ["self"] (defScope sKInit) := ⟨rfl, rfl, rfl, by decide +kernel, rfl, by decide +kernel, by decide +kernel⟩
theorem ok_kinit {f : Addr} {fd : FuncData} (F : Fun K "__init__" "Check.__init__" sKInit f fd) (T : Txt K w mg CS CK it) : FnOk P w K mg base CX0 1 f fd ["self"] (spKInit CK) := by
  refine F.ok scKI (fun vs H Q E h => ?_) (fun cdv A outer s H vs Q E hr h => ?_)
  · obtain ⟨c, dx, rfl, _⟩ := h
    rfl
  obtain ⟨c, dx, rfl, hc, q⟩ := h
  refine ⟨_, pss_one (ps_fld (pv 0) pe_dnewT rfl), ?_⟩
  intro dd hd
  have n : c ≠ dd := ne_of_none hc hd
  refine ⟨_, rfl, c, CK, dx, [], rfl, (by rw [upd_ne n]; exact hc), T.clK, T.kF, (by show 0 < 1000; decide), ?_⟩
  refine q dd _ hd ⟨⟨dx, upd_same⟩, [], by rw [upd_ne n.symm, upd_same], trivial⟩ fun b o e hb => ?_
  rw [upd_ne hb, upd_ne (ne_of_none e hd)]
  exact e
/-- above + (index,) : what follows gets the new place -/
theorem cat_one {H : Hp} {u : Addr} {p : Pl} {j : Int} {X : V → Hp → Prop} (hu : H u = some (.tup (p.map V.int))) (hp : p.length ≤ 10) (k : ∀ y H', H' y = some (.tup ((p ++ [j]).map V.int)) → Same H H' → X (.ref y) H') :
    ∀ t, H t = none → rCatA K (.ref u) (.ref t) (L2.upd H t (.tup [.int j])) X := by
  intro t ht
  have s1 := same_new ht (.tup [.int j])
  refine ⟨u, t, _, _, rfl, rfl, SqT.of (s1 _ _ hu), SqT.of upd_same, small (by simp; omega), (fun e => ?_), (fun _ e => nomatch e), fun _ _ z hz => ?_⟩
  · refine k t _ ?_ s1
    have e' : p = [] := List.map_eq_nil_iff.mp e
    rw [upd_same, e']; rfl
  · refine k z _ ?_ (s1.trans (same_new hz _))
    rw [upd_same, List.map_append]; rfl
theorem scKB : FnScope ["self", "branch", "above", "held", "index", "statement"] psKB (defScope sKBr) := ⟨rfl, rfl, rfl, by decide +kernel, rfl, by decide +kernel, by decide +kernel⟩
theorem ok_kbr {m n : Nat} {f fS : Addr} {fd fdS : FuncData} (F : Fun K "check_branch" "Check.check_branch" sKBr f fd) (T : Txt K w mg CS CK it) (GS : FnOk P w K mg base CX0 n fS fdS psKS (spKS CK m)) (bS : Binds K fdS psKS []) (mS : Meth K CK "check_statement" fS) :
    FnOk P w K mg base CX0 (n + 1) f fd psKB (spKB CK m) := by
  refine F.ok scKB (fun vs H Q E h => ?_) (fun cdv A outer s H vs Q E hr h => ?_)
  · obtain ⟨c, dd, t, u, xs, h, B, d, p, W, rfl, _⟩ := h
    rfl
  obtain ⟨c, dd, t, u, xs, h, B, d, p, W, rfl, hd3, hd2, C, ht, hB, hu, hp, ok, hn, hW, q⟩ := h
  refine ⟨_, pss_cons (ps_for PassesOwn.never rfl (pi_enumT rfl T.enum (pa_cons (pv 1) pa_nil)) (pg_tup rfl (pgs_cons (pg_name (i := 4) scKB.nd rfl (.inl rfl)) (pgs_cons (pg_name (i := 5) scKB.nd rfl (.inl rfl)) pgs_nil)))
      (pss_one (ps_set (i := 3) scKB.nd rfl (Or.inl rfl) (pe_meth (pv 0) T.clK mS GS hr bS .nil pass0 (pa_cons (pv 5) (pa_cons (pe_op op_catA (pv 2) (pe_tup (pa_cons (pv 4) pa_nil))) (pa_cons (pv 3) pa_nil)))))))
    (pss_one (ps_ret (pv 3))), ?_⟩
  have hl := atAll_len hB
  have hb8 : B.length ≤ 8 := Nat.le_trans (len_le_cnt B) (by omega)
  refine ⟨_, rfl, t, xs, rfl, SqT.of ht, for_enumT (xs := xs) (fun i σ H2 => ∃ v4 v5 : Option V, σ = [some (.ref c), some (.ref t), some (.ref u), some (.int (heldAll (B.take i) h)), v4, v5] ∧ i ≤ B.length ∧ CkE CK H2 c dd (W ++ walkAll (B.take i) p 0) ∧ Kp dd H H2) ?_ ?_ ?_ ?_⟩
  · exact ⟨none, none, by rw [List.take_zero, heldAll]; rfl, Nat.zero_le _, by rw [List.take_zero, walkAll, List.append_nil]; exact C, Kp.refl _ _⟩
  · rintro i σ H2 _ ⟨v4, v5, rfl, _, C2, k2⟩
    obtain ⟨_, kvs, hk, _⟩ := C
    exact SqT.of (k2.tkD hk _ _ ht)
  · rintro i x Tp σ H2 hx ⟨v4, v5, rfl, hi, C2, k2⟩ hT
    obtain ⟨_, kvs, hk, _⟩ := id C
    have tk := k2.tkD hk
    have lt : i < B.length := by have := (List.getElem?_eq_some_iff.mp hx).1; omega
    have hs : B[i]? = some B[i] := List.getElem?_eq_getElem lt
    obtain ⟨v, hv, sv⟩ := atAll_get hB hs
    have exv : x = v := Option.some.inj (hx.symm.trans hv)
    subst exv
    have s1 := same_new hT (.tup [.int (i : Nat), x])
    have et : B.take (i + 1) = B.take i ++ [B[i]] := by rw [List.take_add_one, hs]; rfl
    have okB : okAll d (B.take i) h ∧ B[i].ok d (heldAll (B.take i) h) := by
      have z : B = B.take i ++ (B[i] :: B.drop (i + 1)) := by rw [← List.drop_eq_getElem_cons lt, List.take_append_drop]
      have app : ∀ (X Y : List Stm) (h : Int), okAll d (X ++ Y) h → okAll d X h ∧ okAll d Y (heldAll X h) := by
        intro X
        induction X with
        | nil => intro Y h g; exact ⟨by rw [okAll]; trivial, by rw [heldAll]; exact g⟩
        | cons a r ih =>
          intro Y h g
          have g' : okAll d (a :: (r ++ Y)) h := g
          rw [okAll] at g'
          obtain ⟨g1, g2⟩ := ih Y _ g'.2
          exact ⟨by rw [okAll]; exact ⟨g'.1, g1⟩, by rw [heldAll]; exact g2⟩
      rw [z] at ok
      obtain ⟨o1, o2⟩ := app _ _ _ ok
      rw [okAll] at o2
      exact ⟨o1, o2.1⟩
    refine ⟨Tp, _, rfl, SqT.of upd_same, rfl, _, _, rfl, _, _, rfl, rfl, ?_⟩
    obtain ⟨⟨dx, hc⟩, _⟩ := C2.keep s1
    refine ⟨_, rfl, c, dx, _, rfl, hc, rfl, _, rfl, _, rfl, _, rfl, (by show 1 ≤ sizeLine; decide), ?_⟩
    refine fun t2 ht2 => cat_one (p := p) (j := (i : Nat)) (s1 _ _ (tk _ _ hu)) (by omega) (fun y H3 hy s3 => ?_) t2 ht2
    have s13 := s1.trans s3
    have cn : cntAll (B.take i) + B[i].cnt ≤ cntAll B := by
      have z : B = B.take i ++ (B[i] :: B.drop (i + 1)) := by rw [← List.drop_eq_getElem_cons lt, List.take_append_drop]
      have z2 := congrArg cntAll z
      rw [cntAll_app, cntAll] at z2
      omega
    refine ⟨_, rfl, c, dd, y, x, _, B[i], d, p ++ [((i : Nat) : Int)], _, rfl, hd3, hd2, C2.keep s13, Stm.at_keep (tk.trans (TK.of_same s13)) _ _ sv, hy, by rw [List.length_append, hp]; rfl, okB.2, ?_, ?_, fun H4 C4 k4 => ?_⟩
    · rw [List.length_append, walkAll_len]; omega
    · intro q'
      have e : (p ++ [((i : Nat) : Int)]) ++ q' = p ++ ((i : Nat) : Int) :: q' := by simp
      rw [e, lk_app, hW, walkAll_lk]
      have z : nth (B.take i) (((i : Nat) : Int) - ((0 : Nat) : Int)) = none := by
        unfold nth
        rw [if_pos (by omega), List.getElem?_eq_none (by rw [List.length_take]; omega)]
      rw [z]; rfl
    · refine ⟨some (.int (i : Nat)), some x, ?_, lt, ?_, (k2.trans (Kp.of_same s13)).trans k4⟩
      · rw [et, heldAll_snoc]; rfl
      · rw [et, walkAll_snoc]
        have e : 0 + (B.take i).length = i := by rw [List.length_take]; omega
        rw [e, ← List.append_assoc]
        exact C4
  · rintro σ H2 ⟨v4, v5, rfl, hi, C2, k2⟩
    rw [hl, List.take_length] at C2
    refine ⟨_, rfl, ?_⟩
    rw [hl, List.take_length]
    exact q H2 C2 k2
theorem wd_lv (w : Wd) : inV (V.str w.s) [V.str "commit", V.str "rollback", V.str "leave"] = decide (w = .commit ∨ w = .rollback ∨ w = .leave) := by cases w <;> decide +kernel
theorem lk_lv (b : Bool) : inV (V.str (lockS b)) [V.str "commit", V.str "rollback", V.str "leave"] = false := by cases b <;> decide +kernel
def heldS (z : Str) (h : Int) : Int := if z = "take" then h + 1 else if inV (V.str z) [V.str "commit", V.str "rollback", V.str "leave"] = true then 0 else h
theorem heldS_wd (w : Wd) (h : Int) : heldS w.s h = w.held h := by
  unfold heldS
  rw [wd_lv]
  cases w <;> first | rfl | (rw [if_neg (by decide +kernel)]; rfl)
theorem heldS_lk (b : Bool) (h : Int) : heldS (lockS b) h = h := by
  unfold heldS
  rw [lk_lv]
  cases b <;> (rw [if_neg (by decide +kernel)]; rfl)
def spHeld : Sp := fun vs H Q _ => ∃ (z : Str) (h : Int), vs = [.str z, .int h] ∧ ∀ H', Same H H' → Q (.int (heldS z h)) H'
theorem scHA : FnScope ["word", "held"] ["word", "held"] (defScope sHeld) := ⟨rfl, rfl, rfl, by decide +kernel, rfl, by decide +kernel, by decide +kernel⟩
theorem ok_held {f : Addr} {fd : FuncData} (F : Fun K "held_after" "held_after" sHeld f fd) : FnOk P w K mg base CX0 1 f fd ["word", "held"] spHeld := by
  refine F.ok scHA (fun vs H Q E h => ?_) (fun cdv A outer s H vs Q E hr h => ?_)
  · obtain ⟨z, h, rfl, _⟩ := h
    rfl
  obtain ⟨z, h, rfl, q⟩ := h
  refine ⟨_, pss_cons (ps_if (pt_cmpR op_eq (pv 0) pe_str (nomark _)) (pss_one (ps_ret (pe_op op_add (pv 1) pe_int))) pss_nil)
    (pss_one (ps_ret (pe_ifExp (pt_cmpR op_in_seq (pv 0) (pe_tup (pa_cons pe_str (pa_cons pe_str (pa_cons pe_str pa_nil)))) (by rfl)) pe_int (pv 1)))), ?_⟩
  refine ⟨_, rfl, rfl, _, rfl, ?_⟩
  by_cases ct : z = "take"
  · subst ct
    exact iteTb (decide_eq_true rfl) ⟨_, rfl, _, _, rfl, rfl, by have := q H (Same.refl H); rwa [show heldS "take" h = h + 1 from rfl] at this⟩
  · refine iteFb (decide_eq_false (fun e => ct (V.str.inj e))) ?_
    refine ⟨_, rfl, (by show 3 ≤ sizeLine; decide), fun t htn => ⟨t, _, rfl, .inr (SqT.of upd_same), rfl, rfl, _, rfl, ?_⟩⟩
    have fin := q _ (same_new htn (.tup [.str "commit", .str "rollback", .str "leave"]))
    unfold heldS at fin
    rw [if_neg ct] at fin
    show if (inV (V.str z) [V.str "commit", V.str "rollback", V.str "leave"]) = true then _ else _
    by_cases c : inV (V.str z) [V.str "commit", V.str "rollback", V.str "leave"] = true
    · rw [if_pos c] at fin
      exact iteTb c fin
    · rw [if_neg c] at fin
      exact iteFb (by simpa using c) ⟨_, rfl, fin⟩
theorem scKS : FnScope ["self", "statement", "place", "held", "why", "yes", "no"] psKS (defScope sKSt) := ⟨rfl, rfl, rfl, by decide +kernel, rfl, by decide +kernel, by decide +kernel⟩
theorem ok_kst {m n : Nat} {f fB fF fH : Addr} {fd fdB fdF fdH : FuncData} (hn : 2 ≤ n) (F : Fun K "check_statement" "Check.check_statement" sKSt f fd) (B : Bl mg) (T : Txt K w mg CS CK it) (GB : FnOk P w K mg base CX0 n fB fdB psKB (spKB CK m)) (bB : Binds K fdB psKB []) (mB : Meth K CK "check_branch" fB)
    (GF : FnOk P w K mg base CX0 2 fF fdF ["statement", "place", "earlier", "held"] spFault) (bF : Binds K fdF ["statement", "place", "earlier", "held"] []) (kF : PySem.W.keepIn K (.ref fF) = true) (mF : mg "fault_of" = some (.ref fF))
    (GH : FnOk P w K mg base CX0 1 fH fdH ["word", "held"] spHeld) (bH : Binds K fdH ["word", "held"] []) (kH : PySem.W.keepIn K (.ref fH) = true) (mH : mg "held_after" = some (.ref fH)) :
    FnOk P w K mg base CX0 (n + 1) f fd psKS (spKS CK (m + 1)) := by
  refine F.ok scKS (fun vs H Q E h => ?_) (fun cdv A outer s H vs Q E hr h => ?_)
  · obtain ⟨c, dd, u, v, h, s, d, p, W, rfl, _⟩ := h
    rfl
  obtain ⟨c, dd, u, v, h, s, d, p, W, rfl, hd3, hd2, C, hs, hu, hp, ok, hn8, hW, q⟩ := h
  have hu' := hu_of hr
  have hr2 : Room 2 _ := hr.mono hn
  have hr1 : Room 1 _ := hr2.mono (by decide)
  refine ⟨_, pss_cons (ps_set (i := 4) scKS.nd rfl (Or.inl rfl) (pe_call GF hr2 rfl mF kF bF .nil pass0 (pa_cons (pv 1) (pa_cons (pv 2) (pa_cons (pe_callB call_len_dT (by rfl) B.len PySem.boot_len (pa_cons (pe_fld (pv 0) rfl) pa_nil)) (pa_cons (pv 3) pa_nil))))))
    (pss_cons (ps_if (pt_cmpR op_notN (pv 4) pe_non (nomark _)) (pss_one ps_never) pss_nil)
    (pss_cons (ps_dput hu' (pe_fld (pv 0) rfl) (pv 2) (pv 1) rfl)
    (pss_cons (ps_if (pt_cmpR op_eq (pe_ix ix_tup (pv 1) pe_int (fun _ _ => rfl)) pe_str (nomark _))
      (pss_cons (ps_set (i := 5) scKS.nd rfl (Or.inl rfl) (pe_meth (pv 0) T.clK mB GB hr bB .nil pass0 (pa_cons (pe_ix ix_tup (pv 1) pe_int (fun _ _ => rfl)) (pa_cons (pe_op op_catA (pv 2) (pe_tup (pa_cons pe_int pa_nil))) (pa_cons (pv 3) pa_nil)))))
      (pss_cons (ps_set (i := 6) scKS.nd rfl (Or.inl rfl) (pe_meth (pv 0) T.clK mB GB hr bB .nil pass0 (pa_cons (pe_ix ix_tup (pv 1) pe_int (fun _ _ => rfl)) (pa_cons (pe_op op_catA (pv 2) (pe_tup (pa_cons pe_int pa_nil))) (pa_cons (pv 3) pa_nil)))))
      (pss_one (ps_ret (pe_callB (call_max2 rfl) (by rfl) B.max (by decide +kernel) (pa_cons (pv 5) (pa_cons (pv 6) pa_nil))))))) pss_nil)
    (pss_one (ps_ret (pe_call GH hr1 rfl mH kH bH .nil pass0 (pa_cons (pe_ix ix_tup (pv 1) pe_int (fun _ _ => rfl)) (pa_cons (pv 3) pa_nil)))))))), ?_⟩
  obtain ⟨⟨dx, hc⟩, kvs, hk, fr⟩ := id C
  have wl := fr.len
  have sp := cnt_pos s
  refine ⟨_, rfl, _, rfl, _, rfl, c, CK, dx, _, _, rfl, hc, T.clK, T.kF, rfl, dd, kvs, rfl, hk, _, rfl, v, u, _, h, s, d, _, rfl, hs, hu, by rw [List.length_map]; exact hp, by omega, ok, fun H1 s1 => ?_⟩
  refine ⟨_, rfl, rfl, _, rfl, iteF ?_⟩
  have ekv : (key p).map kV = p.map V.int := key_kV p
  have nodd : c ≠ dd := ne_of (s1 _ _ hc) (s1 _ _ hk) (by intro z; cases z)
  refine ⟨_, rfl, _, rfl, c, CK, dx, _, _, rfl, s1 _ _ hc, T.clK, T.kF, rfl, _, rfl, dd, _, rfl, DPut.t (k := key p) (s1 _ _ hk) (by rw [ekv]; exact s1 _ _ hu) (small1000 (by omega)), ?_⟩
  have non : valV kvs (key p) = none := (fr.val p).1 (by have := hW []; rwa [List.append_nil] at this)
  rw [putK_new _ non]
  have k2 : Kp dd H (L2.upd H1 dd (.dT (kvs ++ [(key p, v)]))) := (Kp.of_same s1).trans Kp.upd
  have tk2 : TK H (L2.upd H1 dd (.dT (kvs ++ [(key p, v)]))) := k2.tkD hk
  have C2 : CkE CK (L2.upd H1 dd (.dT (kvs ++ [(key p, v)]))) c dd (W ++ [(p, s)]) := ⟨⟨dx, by rw [upd_ne nodd]; exact s1 _ _ hc⟩, _, upd_same, FRel.snoc (Stm.at_keep tk2 _ _ hs) (fr.keep tk2)⟩
  generalize L2.upd H1 dd (.dT (kvs ++ [(key p, v)])) = H2 at k2 tk2 C2 ⊢
  have hs2 := Stm.at_keep tk2 _ _ hs
  have hu2 := tk2 _ _ hu
  cases s with
  | one wd =>
    rw [Stm.at] at hs2
    obtain ⟨a, rfl, ha⟩ := hs2
    have ew : (Stm.one wd).walk p = [(p, .one wd)] := by rw [Stm.walk]
    have eh : (Stm.one wd).held h = wd.held h := by rw [Stm.held]
    rw [ew, eh] at q
    refine ⟨_, rfl, a, _, _, _, rfl, rfl, SqT.of ha, rfl, ?_⟩
    refine ⟨rfl, _, rfl, iteFb (wd_ne wd) ?_⟩
    refine ⟨_, rfl, a, _, _, _, rfl, rfl, SqT.of ha, rfl, _, rfl, _, _, rfl, fun H3 s3 => ?_⟩
    rw [heldS_wd]
    exact q _ (C2.keep s3) (k2.trans (Kp.of_same s3))
  | nam b z =>
    rw [Stm.at] at hs2
    obtain ⟨a, rfl, ha⟩ := hs2
    have ew : (Stm.nam b z).walk p = [(p, .nam b z)] := by rw [Stm.walk]
    have eh : (Stm.nam b z).held h = h := by rw [Stm.held]
    rw [ew, eh] at q
    refine ⟨_, rfl, a, _, _, _, rfl, rfl, SqT.of ha, rfl, ?_⟩
    refine ⟨rfl, _, rfl, iteFb (lk_ne b) ?_⟩
    refine ⟨_, rfl, a, _, _, _, rfl, rfl, SqT.of ha, rfl, _, rfl, _, _, rfl, fun H3 s3 => ?_⟩
    rw [heldS_lk]
    exact q _ (C2.keep s3) (k2.trans (Kp.of_same s3))
  | ch y n' =>
    rw [Stm.at] at hs2
    obtain ⟨a, b1, b2, xs, ys, rfl, ha, hb1, aty, hb2, atn⟩ := hs2
    have ew : (Stm.ch y n').walk p = (p, .ch y n') :: (walkAll y (p ++ [0]) 0 ++ walkAll n' (p ++ [1]) 0) := by rw [Stm.walk]
    have eh : (Stm.ch y n').held h = max (heldAll y h) (heldAll n' h) := by rw [Stm.held]
    have ec : (Stm.ch y n').cnt = 1 + cntAll y + cntAll n' := by rw [Stm.cnt]
    rw [ew, eh] at q
    rw [ec] at hn8
    rw [Stm.ok] at ok
    refine ⟨_, rfl, a, _, _, _, rfl, rfl, SqT.of ha, rfl, ?_⟩
    refine ⟨rfl, _, rfl, iteTb (by decide +kernel) ?_⟩
    obtain ⟨dx2, hc2⟩ := C2.1
    have kvd : ∃ kv2, H2 dd = some (.dT kv2) := let ⟨_, x, y, _⟩ := C2; ⟨x, y⟩
    obtain ⟨kv2, hk2⟩ := kvd
    refine ⟨_, rfl, c, dx2, _, rfl, hc2, rfl, _, rfl, a, _, _, _, rfl, rfl, SqT.of ha, rfl, _, rfl, (by show 1 ≤ sizeLine; decide), ?_⟩
    refine fun t2 ht2 => cat_one (p := p) (j := 0) hu2 (by omega) (fun y1 H3 hy1 s3 => ?_) t2 ht2
    have tk3 := TK.of_same s3
    refine ⟨_, rfl, c, dd, b1, y1, xs, h, y, d + 1, p ++ [0], W ++ [(p, .ch y n')], rfl, by omega, by omega, C2.keep s3, s3 _ _ hb1, atAll_keep tk3 _ _ aty, hy1, by rw [List.length_append, hp]; show 2 * d + 1 + 1 = _; omega, ok.2.1, by rw [List.length_append]; show W.length + 1 + cntAll y ≤ 8; omega, ?_, fun H4 C4 k4 => ?_⟩
    · intro j q'
      have e : (p ++ [(0 : Int)]) ++ j :: q' = p ++ ((0 : Int) :: j :: q') := by simp
      rw [lk_app, e, hW, lk, if_neg (fun z => by have := congrArg List.length z; simp at this), lk]; rfl
    have tk4 : TK H3 H4 := k4.tkD (s3 _ _ hk2)
    have tk34 := tk3.trans tk4
    obtain ⟨dx4, hc4⟩ := C4.1
    refine ⟨_, rfl, c, dx4, _, rfl, hc4, rfl, _, rfl, a, _, _, _, rfl, rfl, SqT.of (tk34 _ _ ha), rfl, _, rfl, (by show 1 ≤ sizeLine; decide), ?_⟩
    refine fun t5 ht5 => cat_one (p := p) (j := 1) (tk34 _ _ hu2) (by omega) (fun y2 H5 hy2 s5 => ?_) t5 ht5
    have tk5 := tk34.trans (TK.of_same s5)
    refine ⟨_, rfl, c, dd, b2, y2, ys, h, n', d + 1, p ++ [1], _, rfl, by omega, by omega, C4.keep s5, tk5 _ _ hb2, atAll_keep tk5 _ _ atn, hy2, by rw [List.length_append, hp]; show 2 * d + 1 + 1 = _; omega, ok.2.2, by rw [List.length_append, List.length_append, walkAll_len]; show W.length + 1 + cntAll y + cntAll n' ≤ 8; omega, ?_, fun H6 C6 k6 => ?_⟩
    · intro j q'
      have e : (p ++ [(1 : Int)]) ++ j :: q' = p ++ ((1 : Int) :: j :: q') := by simp
      have z := walkAll_none y (p ++ [0]) 0 (p ++ ((1 : Int) :: j :: q')) (fun j' q'' => pre_ne (by decide) _)
      rw [lk_app, lk_app, e, z, hW, lk, if_neg (fun z => by have := congrArg List.length z; simp at this), lk]; rfl
    refine ⟨_, rfl, _, rfl, _, _, rfl, ?_⟩
    show Q (.int (if heldAll n' h > heldAll y h then heldAll n' h else heldAll y h)) H6
    rw [max_if]
    refine q H6 ?_ ((((k2.trans (Kp.of_same s3)).trans k4).trans (Kp.of_same s5)).trans k6)
    have e : W ++ (p, Stm.ch y n') :: (walkAll y (p ++ [0]) 0 ++ walkAll n' (p ++ [1]) 0) = W ++ [(p, .ch y n')] ++ walkAll y (p ++ [0]) 0 ++ walkAll n' (p ++ [1]) 0 := by simp
    rw [e]
    exact C6
end
end Tk
set_option maxRecDepth 100000
namespace Tk
open PySem L2
/-! ## a Script -/
theorem k1 : ¬ (("statements" : Str) = "found") := by decide +kernel
theorem k2' : ¬ (("statements" : Str) = "places") := by decide +kernel
theorem k3 : ¬ (("found" : Str) = "places") := by decide +kernel
def flds (t dd pl : Addr) : List (Str × V) := [("statements", .ref t), ("found", .ref dd), ("places", .ref pl)]
theorem flds_put (t dd pl : Addr) : putF "places" (.ref pl) (putF "found" (.ref dd) (putF "statements" (.ref t) [])) = flds t dd pl := by
  simp only [putF, if_neg k1, if_neg k2', if_neg k3]
  rfl
theorem flds_st (t dd pl : Addr) : (flds t dd pl).lookup ("statements" : Str) = some (.ref t) := by
  rw [← flds_put, lookup_putF, if_neg (by decide +kernel), lookup_putF, if_neg (by decide +kernel), lookup_putF, if_pos rfl]
theorem flds_fo (t dd pl : Addr) : (flds t dd pl).lookup ("found" : Str) = some (.ref dd) := by
  rw [← flds_put, lookup_putF, if_neg (by decide +kernel), lookup_putF, if_pos rfl]
theorem flds_pl (t dd pl : Addr) : (flds t dd pl).lookup ("places" : Str) = some (.ref pl) := by
  rw [← flds_put, lookup_putF, if_pos rfl]
theorem flds_no (t dd pl : Addr) {m : Str} (h1 : ¬ m = "statements") (h2 : ¬ m = "found") (h3 : ¬ m = "places") : (flds t dd pl).lookup m = none := by
  rw [← flds_put, lookup_putF, if_neg h3, lookup_putF, if_neg h2, lookup_putF, if_neg h1]; rfl
/-- x is the Script of the statements S, which stand at t -/
structure Sc (CS : Addr) (H : Hp) (x t : Addr) (S : List Stm) : Prop where
  ex : ∃ dx dd pl bs kvs xs, H x = some (.ins CS dx (flds t dd pl)) ∧ H t = some (.tup xs) ∧ atAll H xs S ∧ H dd = some (.dT kvs) ∧ FRel H kvs (walkAll S [] 0) ∧ H pl = some (.tup (bs.map V.ref)) ∧ IsKeys H kvs bs
  ne : S ≠ []
  ok : okAll 0 S 0
  few : cntAll S ≤ 8
theorem keys_keep {H H' : Hp} {kvs : List (List Key × V)} {bs : List Addr} (k : TK H H') (h : IsKeys H kvs bs) : IsKeys H' kvs bs := by
  unfold IsKeys at h ⊢
  exact L2.Paired.mapP h fun a b q => k _ _ q
theorem Sc.keep {CS : Addr} {H H' : Hp} {x t : Addr} {S : List Stm} (h : Sc CS H x t S) (s : Same H H') : Sc CS H' x t S := by
  obtain ⟨⟨dx, dd, pl, bs, kvs, xs, h1, h2, h3, h4, h5, h6, h7⟩, a, b, c⟩ := h
  have tk := TK.of_same s
  exact ⟨⟨dx, dd, pl, bs, kvs, xs, s _ _ h1, s _ _ h2, atAll_keep tk _ _ h3, s _ _ h4, h5.keep tk, s _ _ h6, keys_keep tk h7⟩, a, b, c⟩
theorem Sc.kp {CS p : Addr} {H H' : Hp} {x t : Addr} {S : List Stm} {ys : List V} (h : Sc CS H x t S) (s : Kp p H H') (hp : H p = some (.lst ys)) : Sc CS H' x t S := by
  obtain ⟨⟨dx, dd, pl, bs, kvs, xs, h1, h2, h3, h4, h5, h6, h7⟩, a, b, c⟩ := h
  have tk := s.tk hp
  exact ⟨⟨dx, dd, pl, bs, kvs, xs, s _ _ h1 (ne_of h1 hp (by intro z; cases z)), tk _ _ h2, atAll_keep tk _ _ h3, s _ _ h4 (ne_of h4 hp (by intro z; cases z)), h5.keep tk, tk _ _ h6, keys_keep tk h7⟩, a, b, c⟩
/-- values by their kinds -/
inductive Kd (H : Hp) : V → String → Prop
  | non : Kd H .non "NoneType"
  | bl (b : Bool) : Kd H (.bl b) "bool"
  | int (i : Int) : Kd H (.int i) "int"
  | str (z : Str) : Kd H (.str z) "str"
  | lst {a : Addr} {xs : List V} (e : H a = some (.lst xs)) : Kd H (.ref a) "list"
  | tup {a : Addr} {xs : List V} (e : H a = some (.tup xs)) : Kd H (.ref a) "tuple"
  | dK {a : Addr} {kvs : List (Key × V)} (e : H a = some (.dK kvs)) : Kd H (.ref a) "dict"
theorem Kd.ty {K : PySem.W.Frag} {H : Hp} {v : V} {T : String} (k : Kd H v T) : TyX K H v (.type T) := by
  cases k with
  | non => exact .base .non
  | bl b => exact .base (.bl b)
  | int i => exact .base (.int i)
  | str z => exact .base (.str z)
  | lst e => exact .base (.lst e)
  | tup e => exact .base (.tup e)
  | dK e => exact .base (.dK e)
theorem Kd.keep {H H' : Hp} {v : V} {T : String} (s : Same H H') (k : Kd H v T) : Kd H' v T := by
  cases k with
  | non => exact .non
  | bl b => exact .bl b
  | int i => exact .int i
  | str z => exact .str z
  | lst e => exact .lst (s _ _ e)
  | tup e => exact .tup (s _ _ e)
  | dK e => exact .dK (s _ _ e)
def intB : V → Bool
  | .int _ => true
  | _ => false
theorem Kd.intB {H : Hp} {v : V} {T : String} (k : Kd H v T) : ∃ b1 b2, kitB T "int" = some b1 ∧ kitB T "bool" = some b2 ∧ (b1 && !b2) = Tk.intB v := by
  cases k with
  | non => exact ⟨false, false, by decide +kernel, by decide +kernel, rfl⟩
  | bl b => exact ⟨true, true, by decide +kernel, by decide +kernel, rfl⟩
  | int i => exact ⟨true, false, by decide +kernel, by decide +kernel, rfl⟩
  | str z => exact ⟨false, false, by decide +kernel, by decide +kernel, rfl⟩
  | lst e => exact ⟨false, false, by decide +kernel, by decide +kernel, rfl⟩
  | tup e => exact ⟨false, false, by decide +kernel, by decide +kernel, rfl⟩
  | dK e => exact ⟨false, false, by decide +kernel, by decide +kernel, rfl⟩
def spSInit (CS : Addr) : Sp := fun vs H Q _ => ∃ (x t dx : Addr) (xs : List V) (S : List Stm), vs = [.ref x, .ref t] ∧ H x = some (.ins CS dx []) ∧ H t = some (.tup xs) ∧ atAll H xs S ∧ S ≠ [] ∧ okAll 0 S 0 ∧ cntAll S ≤ 8 ∧
  ∀ H', Sc CS H' x t S → Kp x H H' → Q .non H'
def spHas (CS : Addr) : Sp := fun vs H Q _ => ∃ (x t : Addr) (v : V) (S : List Stm), vs = [.ref x, v] ∧ Sc CS H x t S ∧
  ((∃ T, Kd H v T ∧ kitB T "tuple" = some false ∧ Q (.bl false) H) ∨
   ∃ (u : Addr) (xs : List V), v = .ref u ∧ H u = some (.tup xs) ∧ xs.length ≤ 100 ∧ (∀ y ∈ xs, ∃ T, Kd H y T) ∧ (xs.all intB = false → ∀ H', Same H H' → Q (.bl false) H') ∧ (∀ p, xs = p.map V.int → ∀ H', Same H H' → Q (.bl (look S p).isSome) H'))
/-- a place that is there -/
def spGet (CS : Addr) : Sp := fun vs H Q _ => ∃ (x t u : Addr) (S : List Stm) (p : Pl) (s : Stm), vs = [.ref x, .ref u] ∧ Sc CS H x t S ∧ H u = some (.tup (p.map V.int)) ∧ p.length ≤ 100 ∧ look S p = some s ∧
  ∀ (v : V) (H' : Hp), Same H H' → s.at H' v → Q v H'
def spSLen (CS : Addr) : Sp := fun vs H Q _ => ∃ (x t : Addr) (S : List Stm), vs = [.ref x] ∧ Sc CS H x t S ∧ Q (.int (cntAll S : Nat)) H
section
variable {P : Program} {w : World} {K : PySem.W.Frag} {mg : Str → Option Value} {base : Heap} {CS CK it : Addr}
theorem scSI : FnScope ["self", "statements", "check"] ["self", "statements"] (defScope sSInit) := ⟨rfl, rfl, rfl, by decide +kernel, rfl, by decide +kernel, by decide +kernel⟩
theorem ok_sinit {f fI fB : Addr} {fd fdI fdB : FuncData} (F : Fun K "__init__" "Script.__init__" sSInit f fd) (B : Bl mg) (T : Txt K w mg CS CK it) (M : Mk K CK fI) (GI : FnOk P w K mg base CX0 1 fI fdI ["self"] (spKInit CK)) (bI : Binds K fdI ["self"] [])
    (GB : FnOk P w K mg base CX0 8 fB fdB psKB (spKB CK 3)) (bB : Binds K fdB psKB []) (mB : Meth K CK "check_branch" fB) : FnOk P w K mg base CX0 9 f fd ["self", "statements"] (spSInit CS) := by
  refine F.ok scSI (fun vs H Q E h => ?_) (fun cdv A outer s H vs Q E hr h => ?_)
  · obtain ⟨x, t, dx, xs, S, rfl, _⟩ := h
    rfl
  obtain ⟨x, t, dx, xs, S, rfl, hx, ht, hS, ne, ok, few, q⟩ := h
  have hr2 : Room 2 _ := hr.mono (by decide)
  refine ⟨_, pss_cons (ps_if (pt_not (pt_val (pe_callB call_isi (by rfl) T.isi (by decide +kernel) (pa_cons (pv 1) (pa_cons (pe_bltn (v := .ty "tuple") (by rfl) B.tuple (by decide +kernel) rfl) pa_nil))))) (pss_one ps_never) pss_nil)
    (pss_cons (ps_if (pt_not (pt_truth (pv 1) (by intro _; rfl))) (pss_one ps_never) pss_nil)
    (pss_cons (ps_set (i := 2) scSI.nd rfl (Or.inl rfl) (pe_make0 M GI hr2 rfl T.mgK bI .nil pass0))
    (pss_cons (ps_expr (pe_meth (pv 2) T.clK mB GB hr bB .nil pass0 (pa_cons (pv 1) (pa_cons (pe_tup pa_nil) (pa_cons pe_int pa_nil)))))
    (pss_cons (ps_fld (pv 0) (pv 1) rfl)
    (pss_cons (ps_fld (pv 0) (pe_fld (pv 2) rfl) rfl)
    (pss_one (ps_fld (pv 0) (pe_callTy call_tuple_of (by rfl) B.tuple (by decide +kernel) (pa_cons (pe_callTy (call_list_dT rfl) (by rfl) T.list (by decide +kernel) (pa_cons (pe_fld (pv 0) rfl) pa_nil)) pa_nil)) rfl))))))), ?_⟩
  refine ⟨_, rfl, _, _, _, _, true, rfl, .ty "tuple", .base (.tup ht), kit_ty (by decide +kernel), true, rfl, iteF ?_⟩
  have nx : xs.isEmpty = false := by
    have hl := atAll_len hS
    cases xs with
    | nil => exact absurd (List.length_eq_zero_iff.mp hl.symm) ne
    | cons _ _ => rfl
  refine ⟨_, rfl, true, .inr (.inl ⟨_, SqT.of ht, by rw [nx]; rfl⟩), iteF ?_⟩
  intro c dc nc ndc ndcc
  refine ⟨c, dc, rfl, upd_same, fun dd H1 hdd C k1 => ⟨rfl, ?_⟩⟩
  have s0 : Same H (L2.upd (L2.upd H dc (.own c)) c (.ins CK dc [])) := fun b o e => by
    rw [upd_ne (ne_of_none e nc), upd_ne (ne_of_none e ndc)]; exact e
  have s1 : Same H H1 := fun b o e => k1 b o (s0 b o e) (ne_of_none e nc)
  have hdd0 : H dd = none := s0.free hdd
  obtain ⟨⟨dxc, hc1⟩, kvs0, hk0, _⟩ := id C
  refine ⟨_, rfl, c, dxc, _, rfl, hc1, rfl, _, rfl, (by show 0 ≤ sizeLine; decide), fun e he => ?_⟩
  have s2 := s1.trans (same_new he (.tup []))
  have s12 := same_new he (.tup [])
  refine ⟨c, dd, t, e, xs, 0, S, 0, [], [], rfl, rfl, by decide, C.keep s12, s2 _ _ ht, atAll_keep (TK.of_same s2) _ _ hS, upd_same, rfl, ok, by show 0 + cntAll S ≤ 8; omega, fun j q' => rfl, fun H3 C3 k3 => ?_⟩
  have k03 : Kp dd H H3 := (Kp.of_same s2).trans k3
  have s3 : Same H H3 := fun b o e => k03 b o e (ne_of_none e hdd0)
  obtain ⟨⟨dx3, hc3⟩, kvs, hk3, fr3⟩ := C3
  have nxc : x ≠ c := ne_of_none hx nc
  have nxd : x ≠ dd := ne_of_none hx hdd0
  refine ⟨_, rfl, _, rfl, x, CS, dx, [], rfl, s3 _ _ hx, T.clS, T.nS, (by show 0 < 1000; decide), ?_⟩
  refine ⟨_, rfl, c, CK, dx3, _, _, rfl, by rw [upd_ne nxc.symm]; exact hc3, T.clK, T.kF, rfl, _, rfl, x, CS, dx, _, rfl, upd_same, T.clS, T.nF, (by show 1 < 1000; decide), ?_⟩
  have hk5 : ∀ o1 o2, (L2.upd (L2.upd H3 x o1) x o2) dd = some (.dT kvs) := fun o1 o2 => by rw [upd_ne nxd.symm, upd_ne nxd.symm]; exact hk3
  refine ⟨_, rfl, x, CS, dx, _, _, rfl, upd_same, T.clS, T.nF, (by rw [lookup_putF, if_pos rfl]), dd, kvs, rfl, .inl (hk5 _ _), fun l bs hl hkeys => ?_⟩
  refine ⟨l, _, rfl, .inl ⟨SqL.of upd_same, fun pl hpl => ?_⟩⟩
  have nxl : x ≠ l := ne_of_none upd_same hl
  have nxp : x ≠ pl := ne_of_none (H := L2.upd (L2.upd (L2.upd H3 x _) x _) l _) (by rw [upd_ne nxl]; exact upd_same) hpl
  refine ⟨_, rfl, x, CS, dx, _, rfl, by rw [upd_ne nxp, upd_ne nxl]; exact upd_same, T.clS, T.nP, (by show 2 < 1000; decide), ?_⟩
  rw [flds_put]
  have kx : Kp x H3 (L2.upd (L2.upd (L2.upd (L2.upd (L2.upd H3 x (.ins CS dx (putF "statements" (.ref t) []))) x (.ins CS dx (putF "found" (.ref dd) (putF "statements" (.ref t) [])))) l (.lst (bs.map V.ref))) pl (.tup (bs.map V.ref))) x (.ins CS dx (flds t dd pl))) := by
    intro b o e nb
    have eb : (L2.upd (L2.upd H3 x (.ins CS dx (putF "statements" (.ref t) []))) x (.ins CS dx (putF "found" (.ref dd) (putF "statements" (.ref t) [])))) b = some o := by rw [upd_ne nb, upd_ne nb]; exact e
    have el : (L2.upd (L2.upd (L2.upd H3 x (.ins CS dx (putF "statements" (.ref t) []))) x (.ins CS dx (putF "found" (.ref dd) (putF "statements" (.ref t) [])))) l (.lst (bs.map V.ref))) b = some o := by rw [upd_ne (ne_of_none eb hl)]; exact eb
    rw [upd_ne nb, upd_ne (ne_of_none el hpl)]
    exact el
  have tkx : TK H3 _ := fun b ys e => kx b _ e (ne_of e (s3 _ _ hx) (by intro z; cases z))
  refine q _ ⟨⟨dx, dd, pl, bs, kvs, xs, upd_same, tkx _ _ (s3 _ _ ht), atAll_keep (TK.trans (TK.of_same s3) tkx) _ _ hS, kx _ _ hk3 nxd.symm, FRel.keep tkx fr3, ?_, ?_⟩, ne, ok, few⟩ ((Kp.of_same s3).trans kx)
  · rw [upd_ne nxp.symm, upd_same]
  · refine L2.Paired.mapP hkeys fun a b e => ?_
    have nbx : b ≠ x := fun z => by rw [z, upd_same] at e; cases e
    rw [upd_ne nbx, upd_ne nbx] at e
    exact kx b _ e nbx
theorem keys_len {H : Hp} : ∀ {kvs : List (List Key × V)} {bs : List Addr}, IsKeys H kvs bs → kvs.length = bs.length
  | _, _, h => PySem.Paired.length h
theorem scSL : FnScope ["self"] ["self"] (defScope sSLen) := ⟨rfl, rfl, rfl, by decide +kernel, rfl, by decide +kernel, by decide +kernel⟩
theorem ok_slen {f : Addr} {fd : FuncData} (F : Fun K "__len__" "Script.__len__" sSLen f fd) (B : Bl mg) (T : Txt K w mg CS CK it) : FnOk P w K mg base CX0 1 f fd ["self"] (spSLen CS) := by
  refine F.ok scSL (fun vs H Q E h => ?_) (fun cdv A outer s H vs Q E hr h => ?_)
  · obtain ⟨x, t, S, rfl, _⟩ := h
    rfl
  obtain ⟨x, t, S, rfl, ⟨⟨dx, dd, pl, bs, kvs, xs, h1, h2, h3, h4, h5, h6, h7⟩, _⟩, q⟩ := h
  refine ⟨_, pss_one (ps_ret (pe_callB call_len_seq (by rfl) B.len PySem.boot_len (pa_cons (pe_fld (pv 0) rfl) pa_nil))), ?_⟩
  have e : (((bs.map V.ref).length : Nat) : Int) = ((cntAll S : Nat) : Int) := by
    rw [List.length_map, ← keys_len h7, h5.len, walkAll_len]
  refine ⟨_, rfl, x, CS, dx, _, _, rfl, h1, T.clS, T.nP, flds_pl _ _ _, pl, _, rfl, .inr (SqT.of h6), ?_⟩
  rw [e]
  exact q
theorem all_ints : ∀ {xs : List V}, xs.all intB = true → ∃ p : Pl, xs = p.map V.int
  | [], _ => ⟨[], rfl⟩
  | x :: r, h => by
    rw [List.all_cons, Bool.and_eq_true] at h
    obtain ⟨p, e⟩ := all_ints h.2
    match x, h.1 with
    | .int i, _ => exact ⟨i :: p, by rw [e]; rfl⟩
theorem Sc.val {H : Hp} {x t : Addr} {S : List Stm} {p : Pl} {kvs : List (List Key × V)} (h5 : FRel H kvs (walkAll S [] 0)) : (look S p = none → valV kvs (key p) = none) ∧ (∀ s, look S p = some s → ∃ v, valV kvs (key p) = some v ∧ s.at H v) := by
  have z := h5.val p
  rw [look_lk] at z
  exact z
theorem scSH : FnScope ["self", "place", "item"] ["self", "place"] (defScope sSHas) := ⟨rfl, rfl, rfl, by decide +kernel, rfl, by decide +kernel, by decide +kernel⟩
theorem ok_shas {f fI : Addr} {fd fdI : FuncData} (F : Fun K "__contains__" "Script.__contains__" sSHas f fd) (B : Bl mg) (T : Txt K w mg CS CK it)
    (GI : FnOk P w K mg base CX0 1 fI fdI ["value"] (spIsInt K)) (bI : Binds K fdI ["value"] []) (kI : PySem.W.keepIn K (.ref fI) = true) (mI : mg "is_integer" = some (.ref fI)) : FnOk P w K mg base CX0 2 f fd ["self", "place"] (spHas CS) := by
  refine F.ok scSH (fun vs H Q E h => ?_) (fun cdv A outer s H vs Q E hr h => ?_)
  · obtain ⟨x, t, v, S, rfl, _⟩ := h
    rfl
  obtain ⟨x, t, v, S, rfl, C, hv⟩ := h
  have hu' := hu_of hr
  refine ⟨_, pss_cons (ps_if (PW.pt (pw_or (pt_not (pt_val (pe_callB call_isi (by rfl) T.isi (by decide +kernel) (pa_cons (pv 1) (pa_cons (pe_bltn (v := .ty "tuple") (by rfl) B.tuple (by decide +kernel) rfl) pa_nil)))))
      (pw_or1 (pt_not (pt_val (pe_callB (cr_all rfl) (by rfl) T.all (by decide +kernel) (pa_cons
        (pe_lc (own := [("item", 2)]) (g := gName 2) (tt := tYes) rfl scSH.nd (pi_tup (pv 1)) (blkOk_by (own := [("item", 2)]) (N := ["self", "place", "item"]) (sc := defScope sSHas) (by decide +kernel))
          (fun _ _ _ _ _ => pg_name (i := 2) scSH.nd rfl (Or.inl rfl)) (fun _ _ _ _ _ => pts_nil)
          (fun _ _ _ _ _ => pe_call GI hr rfl mI kI bI .nil pass0 (pa_cons (pv 2) pa_nil))) pa_nil))))))) (pss_one (ps_ret pe_bl)) pss_nil)
    (pss_one (ps_ret (pe_cmp (pc_din hu' (pv 1) (pe_fld (pv 0) rfl)) rfl))), ?_⟩
  rcases hv with ⟨T', kd, kt, q⟩ | ⟨u, xs, rfl, hu, h100, kds, q1, q2⟩
  · exact ⟨_, rfl, _, _, _, _, false, rfl, .ty "tuple", kd.ty, kit_ty kt, false, rfl, iteT (iteT q)⟩
  · refine ⟨_, rfl, _, _, _, _, true, rfl, .ty "tuple", .base (.tup hu), kit_ty (by decide +kernel), true, rfl, iteF ?_⟩
    refine ⟨_, rfl, u, rfl, ⟨_, SqT.of hu⟩, fun D hD => ?_⟩
    refine lc_tup (K := K) (a := u) (xs := xs) (fun i H7 => H7 D = some (.lst (((xs.take i).map intB).map V.bl)) ∧ Same H H7) ⟨upd_same, same_new hD _⟩ (fun i H7 _ z => SqT.of (z.2 _ _ hu)) ?_ ?_
    · rintro i y H7 hy ⟨h1, h2⟩
      refine ⟨rfl, ?_⟩
      unfold tYes
      dsimp only
      rw [if_pos rfl]
      obtain ⟨T', kd⟩ := kds y (List.mem_of_getElem? hy)
      obtain ⟨b1, b2, e1, e2, e3⟩ := kd.intB
      have lt : i < xs.length := (List.getElem?_eq_some_iff.mp hy).1
      refine ⟨_, rfl, y, T', b1, b2, rfl, (kd.keep h2).ty, e1, e2, _, h1, small1000 (by simp; omega), ?_, ?_⟩
      · rw [upd_same, List.take_add_one, hy, e3]
        simp
      · intro b o e
        rw [upd_ne (ne_of_none e hD)]
        exact h2 b o e
    · rintro H7 ⟨h1, h2⟩
      refine ⟨D, _, rfl, SqL.of h1, ?_⟩
      rw [List.take_length]
      have ea : (xs.map intB).all id = xs.all intB := by rw [List.all_map]; rfl
      rw [ea]
      cases ec : xs.all intB with
      | false => exact ⟨_, rfl, iteT (q1 ec H7 h2)⟩
      | true =>
        obtain ⟨p, rfl⟩ := all_ints ec
        obtain ⟨⟨dx, dd, pl, bs, kvs, ys, g1, g2, g3, g4, g5, g6, g7⟩, _⟩ := C.keep h2
        have z := Sc.val (x := x) (t := t) (p := p) g5
        have hg : DGet H7 dd (.ref u) (valV kvs (key p)) := DGet.t g4 (by rw [key_kV]; exact h2 _ _ hu)
        refine ⟨_, rfl, iteF ⟨_, rfl, _, rfl, x, CS, dx, _, _, rfl, g1, T.clS, T.nF, flds_fo _ _ _, dd, _, rfl, hg, ?_⟩⟩
        have e : (valV kvs (key p)).isSome = (look S p).isSome := by
          cases el : look S p with
          | none => rw [z.1 el]; rfl
          | some s =>
            obtain ⟨v, ev, _⟩ := z.2 s el
            rw [ev]; rfl
        rw [e]
        exact q2 p rfl H7 h2
theorem scSG : FnScope ["self", "place"] ["self", "place"] (defScope sSGet) := ⟨rfl, rfl, rfl, by decide +kernel, rfl, by decide +kernel, by decide +kernel⟩
theorem ok_sget {f fH : Addr} {fd fdH : FuncData} (F : Fun K "__getitem__" "Script.__getitem__" sSGet f fd) (T : Txt K w mg CS CK it)
    (GH : FnOk P w K mg base CX0 2 fH fdH ["self", "place"] (spHas CS)) (bH : Binds K fdH ["self", "place"] []) (mH : OwnM K CS "__contains__" fH) : FnOk P w K mg base CX0 3 f fd ["self", "place"] (spGet CS) := by
  refine F.ok scSG (fun vs H Q E h => ?_) (fun cdv A outer s H vs Q E hr h => ?_)
  · obtain ⟨x, t, u, S, p, s, rfl, _⟩ := h
    rfl
  obtain ⟨x, t, u, S, p, st, rfl, C, hu, h100, hl, q⟩ := h
  have hu' := hu_of hr
  refine ⟨_, pss_cons (ps_if (pt_cmpR (op_notInOwn mH GH hr bH pass0) (pv 1) (pv 0) (by rfl)) (pss_one ps_never) pss_nil)
    (pss_one (ps_ret (pe_dget hu' (pe_fld (pv 0) rfl) (pv 1) (fun _ _ => rfl)))), ?_⟩
  obtain ⟨⟨dx, dd, pl, bs, kvs, ys, g1, g2, g3, g4, g5, g6, g7⟩, _⟩ := id C
  refine ⟨_, rfl, _, rfl, x, dx, _, rfl, g1, x, t, .ref u, S, rfl, C, .inr ⟨u, _, rfl, hu, by rw [List.length_map]; exact h100, ?_, ?_, ?_⟩⟩
  · intro y hy
    obtain ⟨i, _, rfl⟩ := List.mem_map.mp hy
    exact ⟨_, .int i⟩
  · intro e
    have : (p.map V.int).all intB = true := by rw [List.all_map]; exact List.all_eq_true.mpr fun _ _ => rfl
    rw [this] at e; cases e
  · intro p' e H' s1
    have ep : p = p' := by
      have inj : ∀ {a b : Pl}, a.map V.int = b.map V.int → a = b := by
        intro a
        induction a with
        | nil => intro b e; cases b with
          | nil => rfl
          | cons _ _ => cases e
        | cons i r ih => intro b e; cases b with
          | nil => cases e
          | cons j r' =>
            rw [List.map_cons, List.map_cons] at e
            injection e with e1 e2
            injection e1 with e1
            rw [e1, ih e2]
      exact inj e
    subst ep
    rw [hl]
    refine ⟨true, rfl, _, rfl, iteF ?_⟩
    obtain ⟨⟨dx, dd, pl, bs, kvs, ys, g1, g2, g3, g4, g5, g6, g7⟩, _⟩ := C.keep s1
    obtain ⟨v, ev, hv⟩ := (Sc.val (x := x) (t := t) (p := p) g5).2 st hl
    have hg : DGet H' dd (.ref u) (valV kvs (key p)) := DGet.t g4 (by rw [key_kV]; exact s1 _ _ hu)
    rw [ev] at hg
    exact ⟨_, rfl, x, CS, dx, _, _, rfl, g1, T.clS, T.nF, flds_fo _ _ _, _, rfl, dd, v, rfl, hg, q v H' s1 hv⟩
end
end Tk
set_option maxRecDepth 100000
/-! Own rules: a == b and a != b by the class's own __eq__, whatever it answers. -/
namespace PySem
open PySem.W
section
variable {prog : Program} {w : World} {A : Around} {E : Value → Shared → Prop} {s : Shared} {K : Frag} {x C f : Addr} {ox : Obj} {od : Option Obj} {b tb : Value}
theorem tk_neBody {Q : Fin → Shared → Prop} (hu : A.units < cLine) (X : K.In s.heap) (I : InstAt s.heap x ox C od) (he : findIn K (.ref C) "__eq__" = some (some (.ref f))) (hf : isFn K (.ref f) = true)
    (h : wpAny (model prog w) A (call (.ref f) [.ref x, b]) (fun v s' => ∃ c, v = .bool c ∧ Q (.done (.ret (.bool (!c)))) s') E s) : wpAny (model prog w) A (Builtin.«object.__ne__» ⟨[.ref x, b], []⟩) Q E s := by
  have ask : wpAny (model prog w) A (callSpecialIfBound? (.ref x) (Str.ofString "__eq__") [b]) (fun r s' => ∃ c, r = some (.bool c) ∧ Q (.done (.ret (.bool (!c)))) s') E s := by
    refine ifBound_K X I he hf (wpAny_mono h (fun v s' z => ?_) fun _ _ y => y)
    obtain ⟨c, rfl, q⟩ := z
    exact ⟨c, rfl, q⟩
  unfold Builtin.«object.__ne__»
  repeat (first
    | (with_reducible refine wpAny_cRoomFor hu ?_)
    | (refine wpAny_bind (m := callSpecialIfBound? (.ref x) (Str.ofString "__eq__") [b]) (wpAny_mono ask (fun r s' z => by
        obtain ⟨c, rfl, q⟩ := z
        repeat (first | exact q | exact wpAny_pure q | exact wpAny_truthy_bool q | (refine wpAny_bind (m := truthy (.bool _)) (wpAny_truthy_bool ?_)) | wp_step)) fun _ _ y => y))
    | wp_step)
theorem tk_neCall {Q : Value → Shared → Prop} (hu : A.in1.units < cLine) (X : K.In s.heap) (I : InstAt s.heap x ox C od) (hm : mroIn K C (.type "object") = some true) (he : findIn K (.ref C) "__eq__" = some (some (.ref f))) (hf : isFn K (.ref f) = true)
    (h : wpAny (model prog w) A.in1 (call (.ref f) [.ref x, b]) (fun v s' => ∃ c, v = .bool c ∧ Q (.bool (!c)) s') E s) : wpAny (model prog w) A (call (.builtin "object.__ne__") [.ref x, b]) Q E s := by
  refine wpAny_call (codeAny_call_builtin F.cmp_object.ne.plain F.cmpEntry_ne (check_slot F.cmpKind_ne F.cmpSplit_ne (I.type.andThen (looks_mroIn X hm)) (F.cmpArgs_ne _ _) ?_))
  exact tk_neBody hu X I he hf h
theorem tk_neBound {args : List Value} {Q : Option Value → Shared → Prop} (X : K.In s.heap) (I : InstAt s.heap x ox C od) (hn : findIn K (.ref C) "__ne__" = some (some (.builtin "object.__ne__")))
    (h : wpAny (model prog w) A (call (.builtin "object.__ne__") (.ref x :: args)) (fun v => Q (some v)) E s) : wpAny (model prog w) A (callSpecialIfBound? (.ref x) "__ne__" args) Q E s := by
  simp only [callSpecialIfBound?, bindSpecialIfBound?]
  have last : wpAny (model prog w) A (call (.builtin "object.__ne__") ([.ref x] ++ args) >>= fun v => pure (some v)) Q E s := wpAny_bind (wpAny_mono h (fun v s' z => wpAny_pure z) fun _ _ z => z)
  refine wpAny_holding (wpAny_bind (wpAny_bind (wpAny_bind (I.type.here ((looks_findIn X hn).here (wpAny_bind (wpAny_askSetting (wpAny_ite ?_))))))))
  split
  · exact wpAny_bind (wpAny_of_eq (F.cmp_object.ne.bind _) (wpAny_pure (by exact last)))
  · exact wpAny_tryCatch (wpAny_bind (wpAny_of_eq (F.cmp_object.ne.bind _) (wpAny_pure (by exact last))))
theorem tk_ne {Q : Value → Shared → Prop} (hu : A.in1.units < cLine) (hu0 : A.units < cLine) (X : K.In s.heap) (I : InstAt s.heap x ox C od) (hb : Looks (model prog w) s.heap (typeOf b) tb) (hn : notFirst K C tb = true)
    (hne : findIn K (.ref C) "__ne__" = some (some (.builtin "object.__ne__"))) (hm : mroIn K C (.type "object") = some true) (he : findIn K (.ref C) "__eq__" = some (some (.ref f))) (hf : isFn K (.ref f) = true)
    (h : wpAny (model prog w) A.in1 (call (.ref f) [.ref x, b]) (fun v s' => ∃ c, v = .bool c ∧ Q (.bool (!c)) s') E s) : wpAny (model prog w) A (richCompare .NotEq (.ref x) b) Q E s := by
  have one : wpAny (model prog w) A (tryCompare (.ref x) "__ne__" b) (fun r s' => ∃ c, r = some (.bool c) ∧ Q (.bool c) s') E s := by
    unfold tryCompare
    refine wpAny_bind (tk_neBound X I hne (tk_neCall hu X I hm he hf (wpAny_mono h (fun v s' z => ?_) fun _ _ y => y)))
    obtain ⟨c, rfl, q⟩ := z
    exact ⟨c, rfl, wpAny_pure ⟨_, rfl, q⟩⟩
  unfold richCompare
  simp only [oneThing_ref]
  rw [cmpInfo_NotEq]
  dsimp only
  refine wpAny_holding (wpAny_bind (wpAny_cRoomFor hu0 (wpAny_bind (I.type.here (wpAny_bind (hb.here ?_))))))
  have fin : ∀ (r : Option Value) (s' : Shared), (∃ c, r = some (.bool c) ∧ Q (.bool c) s') → ∃ c, r = some (.bool c) ∧ Q (.bool c) s' := fun _ _ z => z
  split
  · rename_i q
    have e : subIn K tb (.ref C) = some false := by
      rcases Bool.or_eq_true_iff.mp hn with e | e
      · exact absurd q (by rw [beq_iff_eq.mp e]; simp)
      · exact beq_iff_eq.mp e
    refine wpAny_bind ((looks_subIn X e).here ?_)
    simp only [Bool.false_eq_true, if_false]
    refine wpAny_bind (wpAny_mono one (fun r s' z => ?_) fun _ _ y => y)
    obtain ⟨c, rfl, q⟩ := z
    exact wpAny_pure q
  · refine wpAny_bind (wpAny_pure ?_)
    simp only [Bool.false_eq_true, if_false]
    refine wpAny_bind (wpAny_mono one (fun r s' z => ?_) fun _ _ y => y)
    obtain ⟨c, rfl, q⟩ := z
    exact wpAny_pure q
end
end PySem
namespace L2
open PySem PySem.Spec PyProof.Rows
/-- what must stand in the class C for == and != by its own __eq__ -/
structure OwnEq (K : PySem.W.Frag) (C f : Addr) : Prop where
  eq : PySem.W.findIn K (.ref C) "__eq__" = some (some (.ref f))
  fn : PySem.W.isFn K (.ref f) = true
  ne : PySem.W.findIn K (.ref C) "__ne__" = some (some (.builtin "object.__ne__"))
  ob : PySem.W.mroIn K C (.type "object") = some true
def rOwnCmp (C : Addr) (sp : Sp) (E : XK) (neg : Bool) : R2 := fun x y H Q => ∃ a b dx dy fs gs, x = .ref a ∧ y = .ref b ∧ H a = some (.ins C dx fs) ∧ H b = some (.ins C dy gs) ∧ sp [.ref a, .ref b] H (fun v H' => ∃ c, v = .bl c ∧ Q (.bl (if neg then !c else c)) H') E
section
variable {X : Cx} {CX : CXT} {k : Nat} {C f : Addr} {fd : FuncData} {ps : List Str} {sp : Sp} {E : XK}
theorem op_eqOwn (O : OwnEq X.K C f) (F : FnOk X.prog X.w X.K X.mg X.base CX k f fd ps sp) (hr : Room k X.A) (hb : Binds X.K fd ps []) (hx : Passes CX X E) : OpR X (compareOp .Eq) (rOwnCmp C sp E false) := by
  intro pins s σ H x y u v Q I rx ry h
  obtain ⟨a, b, dx, dy, fs, gs, rfl, rfl, ha, hb', q⟩ := h
  obtain rfl : u = Value.ref a := rx
  obtain rfl : v = Value.ref b := ry
  obtain ⟨ox, od, J⟩ := ownInst I ha
  obtain ⟨oy, oe, J'⟩ := ownInst I hb'
  obtain ⟨m, hF⟩ := I.fr
  have hu : X.A.units < cLine := Nat.lt_of_le_of_lt (Nat.le_add_right _ (16 * k + 200)) (by have := hr.un; rwa [Nat.add_assoc] at this)
  show wpAny _ _ (richCompare .Eq _ _) _ _ _
  refine PySem.W.cmp_K (op := .Eq) (tb := .ref C) hu hF I.ok.mod.kin J J'.type (by simp [PySem.W.notFirst]) O.eq O.fn (thn (tk_run ⟨hr, rfl⟩ F hb hx I (.cons (show RelV (.ref a) (.ref a) from rfl) (.cons (show RelV (.ref b) (.ref b) from rfl) .nil)) q) fun r s' hq => ?_)
  obtain ⟨z, H', I', rz, c, rfl, q'⟩ := hq
  cases rz
  exact ⟨.bl c, H', I', rfl, q'⟩
theorem op_neOwn (O : OwnEq X.K C f) (F : FnOk X.prog X.w X.K X.mg X.base CX k f fd ps sp) (hr : Room (k + 1) X.A) (hb : Binds X.K fd ps []) (hx : Passes CX X E) : OpR X (compareOp .NotEq) (rOwnCmp C sp E true) := by
  intro pins s σ H x y u v Q I rx ry h
  obtain ⟨a, b, dx, dy, fs, gs, rfl, rfl, ha, hb', q⟩ := h
  obtain rfl : u = Value.ref a := rx
  obtain rfl : v = Value.ref b := ry
  obtain ⟨ox, od, J⟩ := ownInst I ha
  obtain ⟨oy, oe, J'⟩ := ownInst I hb'
  have hu : X.A.units < cLine := Nat.lt_of_le_of_lt (Nat.le_add_right _ (16 * (k + 1) + 200)) (by have := hr.un; rwa [Nat.add_assoc] at this)
  have hu1 : X.A.in1.units < cLine := Nat.lt_of_le_of_lt (Nat.le_add_right _ (16 * k + 200)) (by have := hr.in1.un; rwa [Nat.add_assoc] at this)
  show wpAny _ _ (richCompare .NotEq _ _) _ _ _
  refine tk_ne (tb := .ref C) hu1 hu I.kIn J J'.type (by simp [PySem.W.notFirst]) O.ne O.ob O.eq O.fn (thn (tk_run ⟨hr.in1, rfl⟩ F hb hx I (.cons (show RelV (.ref a) (.ref a) from rfl) (.cons (show RelV (.ref b) (.ref b) from rfl) .nil)) q) fun r s' hq => ?_)
  obtain ⟨z, H', I', rz, c, rfl, q'⟩ := hq
  cases rz
  exact ⟨c, rfl, .bl (!c), H', I', rfl, q'⟩
end
end L2
set_option maxRecDepth 100000
namespace Tk
open PySem L2
/-! ## statements as data, for == -/
theorem low_ok {z : Str} (h : Low z) : PySem.PyData.strOk z = true := by
  unfold PySem.PyData.strOk
  rw [Array.all_eq_true']
  intro c hc
  have := h c (Array.mem_toList_iff.mpr hc)
  exact decide_eq_true (by omega)
mutual
theorem lay_ok : ∀ (s : Stm) (d : Nat) (h : Int), s.ok d h → s.d.canLay0 = true ∧ (d ≤ 2 → s.d.depth ≤ 7 - 2 * d)
  | .one w, d, h, _ => by
    rw [Stm.d]
    refine ⟨?_, fun _ => ?_⟩
    · cases w <;> decide +kernel
    · rw [PyData.depth, PyData.depthAll, PyData.depthAll, PyData.depth]; omega
  | .nam b z, d, h, ok => by
    rw [Stm.ok] at ok
    rw [Stm.d]
    refine ⟨?_, fun _ => ?_⟩
    · rw [PyData.canLay0, PyData.canLayAll0, PyData.canLayAll0, PyData.canLayAll0, PyData.canLay0, PyData.canLay0, low_ok ok.2.2]
      cases b <;> decide +kernel
    · simp only [PyData.depth, PyData.depthAll]; omega
  | .ch y n, d, h, ok => by
    rw [Stm.ok] at ok
    rw [Stm.d]
    have l1 := layAll_ok y (d + 1) h ok.2.1
    have l2 := layAll_ok n (d + 1) h ok.2.2
    refine ⟨?_, fun hd => ?_⟩
    · have cc : (PyData.str "choose").canLay0 = true := by decide +kernel
      simp only [PyData.canLay0, PyData.canLayAll0] at cc ⊢
      rw [cc, l1.1, l2.1]; rfl
    · have e1 := l1.2 (by omega)
      have e2 := l2.2 (by omega)
      simp only [PyData.depth, PyData.depthAll]
      omega
theorem layAll_ok : ∀ (B : List Stm) (d : Nat) (h : Int), okAll d B h → PyData.canLayAll0 (dAll B) = true ∧ (d ≤ 2 → PyData.depthAll (dAll B) ≤ 7 - 2 * d)
  | [], d, h, _ => by
    rw [dAll]
    exact ⟨by rw [PyData.canLayAll0], fun _ => by rw [PyData.depthAll]; omega⟩
  | s :: r, d, h, ok => by
    rw [okAll] at ok
    rw [dAll]
    have l1 := lay_ok s d h ok.1
    have l2 := layAll_ok r d _ ok.2
    refine ⟨?_, fun hd => ?_⟩
    · rw [PyData.canLayAll0, l1.1, l2.1]; rfl
    · have e1 := l1.2 hd
      have e2 := l2.2 hd
      rw [PyData.depthAll]; omega
end
theorem shaped_ok {s : Stm} {d : Nat} {h : Int} (ok : s.ok d h) (hd : d ≤ 2) : SeqAt.shaped s.d = true ∧ PyData.eqv s.d s.d = true := by
  obtain ⟨a, b⟩ := lay_ok s d h ok
  have := b hd
  refine ⟨?_, SeqAt.eqv_refl _ a⟩
  unfold SeqAt.shaped
  rw [a, decide_eq_true (by omega)]; rfl
mutual
theorem dp_of {K : PySem.W.Frag} {H : Hp} : ∀ (s : Stm) (v : V), s.at H v → Dp K H v s.d
  | .one w, v, h => by
    rw [Stm.at] at h
    obtain ⟨a, rfl, h⟩ := h
    rw [Stm.d]
    exact .tup (SqT.of h) (.cons (.str _) .nil)
  | .nam b z, v, h => by
    rw [Stm.at] at h
    obtain ⟨a, rfl, h⟩ := h
    rw [Stm.d]
    exact .tup (SqT.of h) (.cons (.str _) (.cons (.str _) .nil))
  | .ch y n, v, h => by
    rw [Stm.at] at h
    obtain ⟨a, b, c, xs, ys, rfl, h1, h2, h3, h4, h5⟩ := h
    rw [Stm.d]
    exact .tup (SqT.of h1) (.cons (.str _) (.cons (.tup (SqT.of h2) (dpAll_of y xs h3)) (.cons (.tup (SqT.of h4) (dpAll_of n ys h5)) .nil)))
theorem dpAll_of {K : PySem.W.Frag} {H : Hp} : ∀ (B : List Stm) (xs : List V), atAll H xs B → DpAll K H xs (dAll B)
  | [], xs, h => by
    rw [atAll] at h
    rw [h, dAll]
    exact .nil
  | s :: r, xs, h => by
    rw [atAll] at h
    obtain ⟨v, vs, rfl, h1, h2⟩ := h
    rw [dAll]
    exact .cons (dp_of s v h1) (dpAll_of r vs h2)
end
/-- the statements of a script are good ones, wherever they stand -/
theorem After.good {S : List Stm} {p : Pl} {R : List Stm} (h : After S p R) : ∀ (d : Nat) (k : Int) (s : Stm), okAll d S k → d ≤ 2 → look S p = some s → ∃ d' h', s.ok d' h' ∧ d' ≤ 2 := by
  induction h with
  | here B i hi =>
    intro d k s g hd l
    rw [look_one] at l
    obtain ⟨h', o⟩ := okAll_get g l
    exact ⟨d, h', o, hd⟩
  | inn B i a y n q R hb ha hq ih =>
    intro d k s g hd l
    rw [look_in hb ha hq.ne] at l
    obtain ⟨h', o⟩ := okAll_get g hb
    rw [Stm.ok] at o
    rcases ha with rfl | rfl
    · exact ih (d + 1) h' s o.2.1 (by omega) l
    · exact ih (d + 1) h' s o.2.2 (by omega) l
/-- the first place -/
theorem first_key {H : Hp} {S : List Stm} {kvs : List (List Key × V)} {bs : List Addr} (ne : S ≠ []) (fr : FRel H kvs (walkAll S [] 0)) (ik : IsKeys H kvs bs) : ∃ b0, atI (bs.map V.ref) 0 = some (.ref b0) ∧ H b0 = some (.tup (([0] : Pl).map V.int)) := by
  have hd : ∃ s1 r1, walkAll S [] 0 = ([0], s1) :: r1 := by
    cases S with
    | nil => exact absurd rfl ne
    | cons s0 r =>
      rw [walkAll]
      cases s0 <;> (rw [Stm.walk]; exact ⟨_, _, rfl⟩)
  obtain ⟨s1, r1, e⟩ := hd
  rw [e] at fr
  cases kvs with
  | nil => exact fr.elim
  | cons kv r =>
    obtain ⟨k, v⟩ := kv
    obtain ⟨rfl, _, _⟩ := fr
    unfold IsKeys at ik
    cases ik with
    | cons h1 h2 =>
      rename_i b0 bs'
      refine ⟨b0, (show atI (List.map V.ref (b0 :: bs')) ((0 : Nat) : Int) = some (.ref b0) from atI_nat rfl), ?_⟩
      have h1' : H b0 = some (.tup ((key [0]).map kV)) := h1
      rw [key_kV] at h1'
      exact h1'
end Tk
set_option maxRecDepth 100000
namespace Tk
open PySem L2
abbrev sSEq : Stmt := inClass (top 18) 5
abbrev sDInit : Stmt := inClass (top 30) 0
abbrev sDEq : Stmt := inClass (top 30) 1
abbrev sScriptOf : Stmt := top 32
/-- what the top has made besides -/
structure TxK (K : PySem.W.Frag) (mg : Str → Option Value) (CS CD : Addr) : Prop where
  isS : C8.InsC K CS
  isD : C8.InsC K CD
  mgD : mg "Kind" = some (.ref CD)
  mB : ∃ t, mg "MOST_BLOCK" = some (.int 3 t)
  mM : ∃ t, mg "MOST_SESSIONS" = some (.int 3 t)
  noT : PySem.W.kitOne K (.type "tuple") (.ref CS) = some false
  nN : NoAttr K CD "name"
  nS : NoAttr K CD "script"
  nB : NoAttr K CD "block"
  nM : NoAttr K CD "many"
theorem q1 : ¬ (("name" : Str) = "script") := by decide +kernel
theorem q2 : ¬ (("name" : Str) = "block") := by decide +kernel
theorem q3 : ¬ (("name" : Str) = "many") := by decide +kernel
theorem q4 : ¬ (("script" : Str) = "block") := by decide +kernel
theorem q5 : ¬ (("script" : Str) = "many") := by decide +kernel
theorem q6 : ¬ (("block" : Str) = "many") := by decide +kernel
def fldD (n : Str) (x : Addr) (b m : Int) : List (Str × V) := [("name", .str n), ("script", .ref x), ("block", .int b), ("many", .int m)]
theorem fldD_put (n : Str) (x : Addr) (b m : Int) : putF "many" (.int m) (putF "block" (.int b) (putF "script" (.ref x) (putF "name" (.str n) []))) = fldD n x b m := by
  simp only [putF, if_neg q1, if_neg q2, if_neg q3, if_neg q4, if_neg q5, if_neg q6]
  rfl
theorem fldD_n (n : Str) (x : Addr) (b m : Int) : (fldD n x b m).lookup ("name" : Str) = some (.str n) := by
  rw [← fldD_put, lookup_putF, if_neg (by decide +kernel), lookup_putF, if_neg (by decide +kernel), lookup_putF, if_neg (by decide +kernel), lookup_putF, if_pos rfl]
theorem fldD_s (n : Str) (x : Addr) (b m : Int) : (fldD n x b m).lookup ("script" : Str) = some (.ref x) := by
  rw [← fldD_put, lookup_putF, if_neg (by decide +kernel), lookup_putF, if_neg (by decide +kernel), lookup_putF, if_pos rfl]
theorem fldD_b (n : Str) (x : Addr) (b m : Int) : (fldD n x b m).lookup ("block" : Str) = some (.int b) := by
  rw [← fldD_put, lookup_putF, if_neg (by decide +kernel), lookup_putF, if_pos rfl]
theorem fldD_m (n : Str) (x : Addr) (b m : Int) : (fldD n x b m).lookup ("many" : Str) = some (.int m) := by
  rw [← fldD_put, lookup_putF, if_pos rfl]
/-- k is a Kind of the Script x of the statements S -/
def KindAt (CS CD : Addr) (H : Hp) (k : Addr) (n : Str) (S : List Stm) (b m : Int) : Prop := ∃ dx x t, H k = some (.ins CD dx (fldD n x b m)) ∧ Sc CS H x t S
theorem KindAt.keep {CS CD : Addr} {H H' : Hp} {k : Addr} {n : Str} {S : List Stm} {b m : Int} (h : KindAt CS CD H k n S b m) (s : Same H H') : KindAt CS CD H' k n S b m := by
  obtain ⟨dx, x, t, h1, h2⟩ := h
  exact ⟨dx, x, t, s _ _ h1, h2.keep s⟩
/-- whether two scripts are equal -/
def sEq (S S' : List Stm) : Bool := PyData.eqv (.tuple (dAll S)) (.tuple (dAll S'))
theorem shapedAll {S : List Stm} {h : Int} (ok : okAll 0 S h) : SeqAt.shaped (.tuple (dAll S)) = true ∧ (PyData.tuple (dAll S)).canLay0 = true := by
  obtain ⟨a, b⟩ := layAll_ok S 0 h ok
  have := b (by decide)
  refine ⟨?_, by rw [PyData.canLay0]; exact a⟩
  unfold SeqAt.shaped
  rw [PyData.canLay0, a, PyData.depth, decide_eq_true (by omega)]; rfl
theorem sEq_refl {S : List Stm} {h : Int} (ok : okAll 0 S h) : sEq S S = true := SeqAt.eqv_refl _ (shapedAll ok).2
def spSEq (CS : Addr) : Sp := fun vs H Q _ => ∃ (x y t u : Addr) (S S' : List Stm), vs = [.ref x, .ref y] ∧ Sc CS H x t S ∧ Sc CS H y u S' ∧ Q (.bl (sEq S S')) H
def kEq (n n' : Str) (S S' : List Stm) (b b' m m' : Int) : Bool := decide (V.str n = V.str n') && sEq S S' && decide (V.int b = V.int b') && decide (V.int m = V.int m')
def spDEq (CS CD : Addr) : Sp := fun vs H Q _ => ∃ (k k' : Addr) (n n' : Str) (S S' : List Stm) (b b' m m' : Int), vs = [.ref k, .ref k'] ∧ KindAt CS CD H k n S b m ∧ KindAt CS CD H k' n' S' b' m' ∧ Q (.bl (kEq n n' S S' b b' m m')) H
/-- a Script, or good statements -/
def Given (CS : Addr) (H : Hp) (v : V) (S : List Stm) : Prop := (∃ x t, v = .ref x ∧ Sc CS H x t S) ∨ ∃ t xs, v = .ref t ∧ H t = some (.tup xs) ∧ atAll H xs S ∧ S ≠ [] ∧ okAll 0 S 0 ∧ cntAll S ≤ 8
theorem Given.keep {CS : Addr} {H H' : Hp} {v : V} {S : List Stm} (g : Given CS H v S) (s : Same H H') : Given CS H' v S := by
  rcases g with ⟨x, t, e, h⟩ | ⟨t, xs, e, h1, h2, h3⟩
  · exact .inl ⟨x, t, e, h.keep s⟩
  · exact .inr ⟨t, xs, e, s _ _ h1, atAll_keep (TK.of_same s) _ _ h2, h3⟩
def spScriptOf (CS : Addr) : Sp := fun vs H Q _ => ∃ (v : V) (S : List Stm), vs = [v] ∧ Given CS H v S ∧ ∀ (x t : Addr) (H' : Hp), Same H H' → Sc CS H' x t S → Q (.ref x) H'
def spDInit (CS CD : Addr) : Sp := fun vs H Q _ => ∃ (k dx : Addr) (n : Str) (v : V) (S : List Stm) (b m : Int), vs = [.ref k, .str n, v, .int b, .int m] ∧ H k = some (.ins CD dx []) ∧ IsName n ∧ Given CS H v S ∧ 1 ≤ b ∧ b ≤ 3 ∧ 1 ≤ m ∧ m ≤ 3 ∧
  ∀ H', KindAt CS CD H' k n S b m → Kp k H H' → Q .non H'
section
variable {P : Program} {w : World} {K : PySem.W.Frag} {mg : Str → Option Value} {base : Heap} {CS CK CD it : Addr}
theorem scSE : FnScope ["self", "other"] ["self", "other"] (defScope sSEq) := ⟨rfl, rfl, rfl, by decide +kernel, rfl, by decide +kernel, by decide +kernel⟩
theorem ok_seq {f : Addr} {fd : FuncData} (F : Fun K "__eq__" "Script.__eq__" sSEq f fd) (T : Txt K w mg CS CK it) (U : TxK K mg CS CD) : FnOk P w K mg base CX0 1 f fd ["self", "other"] (spSEq CS) := by
  refine F.ok scSE (fun vs H Q E h => ?_) (fun cdv A outer s H vs Q E hr h => ?_)
  · obtain ⟨x, y, t, u, S, S', rfl, _⟩ := h
    rfl
  obtain ⟨x, y, t, u, S, S', rfl, C, D, q⟩ := h
  have hu64 : _ + 64 < cLine := Nat.lt_of_le_of_lt (Nat.add_le_add_left (by decide : 64 ≤ 16 * 0 + 200) _) (by have := hr.un; rwa [Nat.add_assoc] at this)
  obtain ⟨⟨dx, dd, pl, bs, kvs, xs, g1, g2, g3, _⟩, ne1, ok1, _⟩ := C
  obtain ⟨⟨dy, ee, pk, cs, lvs, ys, h1, h2, h3, _⟩, ne2, ok2, _⟩ := D
  refine ⟨_, pss_one (ps_ret (pe_and (pe_callB (C8.call_isC U.isS) (by rfl) T.isi (by decide +kernel) (pa_cons (pv 1) (pa_cons (pe_glob (v := .ref CS) (by rfl) T.mgS rfl) pa_nil)))
    (pe_one (pe_cmpR (op_eqD hu64) (pe_fld (pv 0) rfl) (pe_fld (pv 1) rfl) (nomark _))))), ?_⟩
  refine ⟨_, rfl, y, dy, _, rfl, h1, true, rfl, iteT ?_⟩
  exact ⟨_, rfl, x, CS, dx, _, _, rfl, g1, T.clS, T.nS, flds_st _ _ _, _, rfl, y, CS, dy, _, _, rfl, h1, T.clS, T.nS, flds_st _ _ _, _, _, .tup (SqT.of g2) (dpAll_of S xs g3), .tup (SqT.of h2) (dpAll_of S' ys h3), (shapedAll ok1).1, (shapedAll ok2).1, q⟩
theorem scSO : FnScope ["script", "fault"] ["script"] (defScope sScriptOf) := ⟨rfl, rfl, rfl, by decide +kernel, rfl, by decide +kernel, by decide +kernel⟩
theorem ok_scriptof {f fI : Addr} {fd fdI : FuncData} (F : Fun K "script_of" "script_of" sScriptOf f fd) (T : Txt K w mg CS CK it) (U : TxK K mg CS CD) (M : Mk K CS fI) (GI : FnOk P w K mg base CX0 9 fI fdI ["self", "statements"] (spSInit CS)) (bI : Binds K fdI ["self", "statements"] []) :
    FnOk P w K mg base CX0 11 f fd ["script"] (spScriptOf CS) := by
  refine F.ok scSO (fun vs H Q E h => ?_) (fun cdv A outer s H vs Q E hr h => ?_)
  · obtain ⟨v, S, rfl, _⟩ := h
    rfl
  obtain ⟨v, S, rfl, g, q⟩ := h
  refine ⟨_, pss_cons (ps_if (pt_val (pe_callB call_isi (by rfl) T.isi (by decide +kernel) (pa_cons (pv 0) (pa_cons (pe_glob (v := .ref CS) (by rfl) T.mgS rfl) pa_nil)))) (pss_one (ps_ret (pv 0))) pss_nil)
    (pss_one (ps_try_thru0 (pss_one (ps_ret (pe_make M GI hr rfl T.mgS bI .nil pass0 (pa_cons (pv 0) pa_nil)))))), ?_⟩
  rcases g with ⟨x, t, rfl, C⟩ | ⟨t, xs, rfl, h1, h2, h3, h4, h5⟩
  · obtain ⟨⟨dx, dd, pl, bs, kvs, xs, g1, _⟩, _⟩ := id C
    refine ⟨_, rfl, _, _, _, _, true, rfl, .own CS, .base (.ins g1 U.isS.cl U.isS.ha U.isS.hn U.isS.htk U.isS.hm), U.isS.me, true, rfl, iteT ⟨_, rfl, q x t H (Same.refl H) C⟩⟩
  · refine ⟨_, rfl, _, _, _, _, false, rfl, .own CS, .base (.tup h1), U.noT, false, rfl, iteF ?_⟩
    refine ⟨_, rfl, fun x dx nx ndx nex => ?_⟩
    have sx : Same H (L2.upd (L2.upd H dx (.own x)) x (.ins CS dx [])) := fun c o e => by
      rw [upd_ne (ne_of_none e nx), upd_ne (ne_of_none e ndx)]; exact e
    refine ⟨x, t, dx, xs, S, rfl, upd_same, sx _ _ h1, atAll_keep (TK.of_same sx) _ _ h2, h3, h4, h5, fun H8 C8 k8 => ⟨rfl, ?_⟩⟩
    exact q x t H8 (fun c o e => k8 _ _ (sx _ _ e) (ne_of_none e nx)) C8
abbrev psD : List Str := ["self", "name", "script", "block", "many"]
theorem nox_of {X : Cx} {body : List Stmt} {D : Ends} {σ : St} {H : Hp} (h : ∃ t, PSs X.nox body t ∧ t D σ H) : ∃ t, PSs X body t ∧ t D σ H := let ⟨t, a, b⟩ := h; ⟨t, a.nox, b⟩
theorem scDI : FnScope psD psD (defScope sDInit) := ⟨rfl, rfl, rfl, by decide +kernel, rfl, by decide +kernel, by decide +kernel⟩
theorem ok_dinit {f fN fO fW : Addr} {fd fdN fdO fdW : FuncData} (F : FunD K "__init__" "Kind.__init__" (defArgs sDInit) (defBody sDInit) (defScope sDInit) [] [("block", .int 1), ("many", .int 1)] f fd) (U : TxK K mg CS CD)
    (GN : FnOk P w K mg base CX0 1 fN fdN ["value"] spIsName) (bN : Binds K fdN ["value"] []) (kN : PySem.W.keepIn K (.ref fN) = true) (mN : mg "is_name" = some (.ref fN))
    (GO : FnOk P w K mg base CX0 11 fO fdO ["script"] (spScriptOf CS)) (bO : Binds K fdO ["script"] []) (kO : PySem.W.keepIn K (.ref fO) = true) (mO : mg "script_of" = some (.ref fO))
    (GW : FnOk P w K mg base CX0 2 fW fdW ["value", "low", "high"] (spWithin K)) (bW : Binds K fdW ["value", "low", "high"] []) (kW : PySem.W.keepIn K (.ref fW) = true) (mW : mg "is_within" = some (.ref fW)) :
    FnOk P w K mg base CX0 12 f fd psD (spDInit CS CD) := by
  refine F.ok (CX := CX0) scDI (fun vs H Q E h => ?_) (fun cdv A outer s H vs Q E hr h => nox_of ?_)
  · obtain ⟨k, dx, n, v, S, b, m, rfl, _⟩ := h
    rfl
  obtain ⟨k, dx, n, v, S, b, m, rfl, hk, hn, g, b0, b3, m0, m3, q⟩ := h
  have hr1 : Room 1 _ := hr.mono (by decide)
  have hr2 : Room 2 _ := hr.mono (by decide)
  obtain ⟨t1, g1⟩ := U.mB
  obtain ⟨t2, g2⟩ := U.mM
  refine ⟨_, pss_cons (ps_if (pt_not (pt_val (pe_call GN hr1 rfl mN kN bN .nil pass0 (pa_cons (pv 1) pa_nil)))) (pss_one ps_never) pss_nil)
    (pss_cons (ps_set (i := 2) scDI.nd rfl (Or.inl rfl) (pe_call GO hr rfl mO kO bO .nil pass0 (pa_cons (pv 2) pa_nil)))
    (pss_cons (ps_if (pt_not (pt_val (pe_call GW hr2 rfl mW kW bW .nil pass0 (pa_cons (pv 3) (pa_cons pe_int (pa_cons (pe_glob (v := .int 3) (by rfl) g1 ⟨_, rfl⟩) pa_nil)))))) (pss_one ps_never) pss_nil)
    (pss_cons (ps_if (pt_not (pt_val (pe_call GW hr2 rfl mW kW bW .nil pass0 (pa_cons (pv 4) (pa_cons pe_int (pa_cons (pe_glob (v := .int 3) (by rfl) g2 ⟨_, rfl⟩) pa_nil)))))) (pss_one ps_never) pss_nil)
    (pss_cons (ps_fld (pv 0) (pv 1) rfl)
    (pss_cons (ps_fld (pv 0) (pv 2) rfl)
    (pss_cons (ps_fld (pv 0) (pv 3) rfl)
    (pss_one (ps_fld (pv 0) (pv 4) rfl)))))))), ?_⟩
  refine ⟨_, rfl, n, rfl, Nat.le_trans hn.2.1 (by decide), fun H1 s1 => ⟨_, rfl, ?_⟩⟩
  rw [nameB_of hn]
  refine iteF ?_
  refine ⟨_, rfl, v, S, rfl, g.keep s1, fun x t H2 s2 C => ?_⟩
  have wi : ∀ c : Int, 1 ≤ c → c ≤ 3 → (decide ((1 : Int) ≤ c) && decide (c ≤ 3)) = true := fun c a b => by rw [decide_eq_true a, decide_eq_true b]; rfl
  refine ⟨_, rfl, _, "int", true, false, 1, 3, rfl, (Kd.int (H := H2) b).ty, by decide +kernel, by decide +kernel, (fun e => nomatch e), fun _ => ⟨b, rfl, _, rfl, ?_⟩⟩
  rw [wi b b0 b3]
  refine iteF ?_
  refine ⟨_, rfl, _, "int", true, false, 1, 3, rfl, (Kd.int (H := H2) m).ty, by decide +kernel, by decide +kernel, (fun e => nomatch e), fun _ => ⟨m, rfl, _, rfl, ?_⟩⟩
  rw [wi m m0 m3]
  refine iteF ?_
  have hk2 : H2 k = some (.ins CD dx []) := s2 _ _ (s1 _ _ hk)
  refine ⟨_, rfl, _, rfl, k, CD, dx, [], rfl, hk2, U.isD.cl, U.nN, (by show 0 < 1000; decide), ?_⟩
  refine ⟨_, rfl, _, rfl, k, CD, dx, _, rfl, upd_same, U.isD.cl, U.nS, (by show 1 < 1000; decide), ?_⟩
  refine ⟨_, rfl, _, rfl, k, CD, dx, _, rfl, upd_same, U.isD.cl, U.nB, (by show 2 < 1000; decide), ?_⟩
  refine ⟨_, rfl, _, rfl, k, CD, dx, _, rfl, upd_same, U.isD.cl, U.nM, (by show 3 < 1000; decide), ?_⟩
  rw [upd_upd, upd_upd, upd_upd, fldD_put]
  have kk : Kp k H2 (L2.upd H2 k (.ins CD dx (fldD n x b m))) := Kp.upd
  refine q _ ⟨dx, x, t, upd_same, ?_⟩ ((Kp.of_same (s1.trans s2)).trans kk)
  have nkx : k ≠ x := by
    obtain ⟨dx', dd, pl, bs, kvs, xs, h1, _⟩ := C.ex
    intro z
    rw [← z, hk2] at h1
    injection h1 with h1
    injection h1 with e1 e2 e3
    cases e3
  obtain ⟨⟨dx', dd, pl, bs, kvs, xs, h1, h2, h3, h4, h5, h6, h7⟩, r1, r2, r3⟩ := C
  have tk : TK H2 (L2.upd H2 k (.ins CD dx (fldD n x b m))) := fun a ys e => kk a _ e (ne_of e hk2 (by intro z; cases z))
  exact ⟨⟨dx', dd, pl, bs, kvs, xs, kk _ _ h1 nkx.symm, tk _ _ h2, atAll_keep tk _ _ h3, kk _ _ h4 (ne_of h4 hk2 (by intro z; cases z)), h5.keep tk, tk _ _ h6, keys_keep tk h7⟩, r1, r2, r3⟩
theorem scDE : FnScope ["self", "other"] ["self", "other"] (defScope sDEq) := ⟨rfl, rfl, rfl, by decide +kernel, rfl, by decide +kernel, by decide +kernel⟩
theorem ok_deq {f fS : Addr} {fd fdS : FuncData} (F : Fun K "__eq__" "Kind.__eq__" sDEq f fd) (T : Txt K w mg CS CK it) (U : TxK K mg CS CD) (O : OwnEq K CS fS) (GS : FnOk P w K mg base CX0 1 fS fdS ["self", "other"] (spSEq CS)) (bS : Binds K fdS ["self", "other"] []) :
    FnOk P w K mg base CX0 2 f fd ["self", "other"] (spDEq CS CD) := by
  refine F.ok scDE (fun vs H Q E h => ?_) (fun cdv A outer s H vs Q E hr h => ?_)
  · obtain ⟨k, k', n, n', S, S', b, b', m, m', rfl, _⟩ := h
    rfl
  obtain ⟨k, k', n, n', S, S', b, b', m, m', rfl, ⟨dx, x, t, h1, C⟩, ⟨dy, y, u, h2, D⟩, q⟩ := h
  have cl := U.isD.cl
  obtain ⟨dxs, _, _, _, _, _, gx, _⟩ := C.ex
  obtain ⟨dys, _, _, _, _, _, gy, _⟩ := D.ex
  refine ⟨_, pss_one (ps_ret (pe_and (pe_callB (C8.call_isC U.isD) (by rfl) T.isi (by decide +kernel) (pa_cons (pv 1) (pa_cons (pe_glob (v := .ref CD) (by rfl) U.mgD rfl) pa_nil)))
    (pe_and (pe_cmpR op_eq (pe_fld (pv 0) rfl) (pe_fld (pv 1) rfl) (nomark _))
    (pe_and (pe_cmpR (op_eqOwn O GS hr bS pass0) (pe_fld (pv 0) rfl) (pe_fld (pv 1) rfl) (nomark _))
    (pe_and (pe_cmpR op_eq (pe_fld (pv 0) rfl) (pe_fld (pv 1) rfl) (nomark _))
    (pe_one (pe_cmpR op_eq (pe_fld (pv 0) rfl) (pe_fld (pv 1) rfl) (nomark _)))))))), ?_⟩
  refine ⟨_, rfl, k', dy, _, rfl, h2, true, rfl, iteT ?_⟩
  refine ⟨_, rfl, k, CD, dx, _, _, rfl, h1, cl, U.nN, fldD_n _ _ _ _, _, rfl, k', CD, dy, _, _, rfl, h2, cl, U.nN, fldD_n _ _ _ _, rfl, _, rfl, ?_⟩
  unfold kEq at q
  cases e1 : decide (V.str n = V.str n') with
  | false =>
    rw [e1] at q
    exact iteF q
  | true =>
    rw [e1, Bool.true_and] at q
    refine iteT ⟨_, rfl, k, CD, dx, _, _, rfl, h1, cl, U.nS, fldD_s _ _ _ _, _, rfl, k', CD, dy, _, _, rfl, h2, cl, U.nS, fldD_s _ _ _ _, x, y, dxs, dys, _, _, rfl, rfl, gx, gy, x, y, t, u, S, S', rfl, C, D, _, rfl, _, rfl, ?_⟩
    cases e2 : sEq S S' with
    | false =>
      rw [e2] at q
      exact iteF q
    | true =>
      rw [e2, Bool.true_and] at q
      refine iteT ⟨_, rfl, k, CD, dx, _, _, rfl, h1, cl, U.nB, fldD_b _ _ _ _, _, rfl, k', CD, dy, _, _, rfl, h2, cl, U.nB, fldD_b _ _ _ _, rfl, _, rfl, ?_⟩
      cases e3 : decide (V.int b = V.int b') with
      | false =>
        rw [e3] at q
        exact iteF q
      | true =>
        rw [e3, Bool.true_and] at q
        exact iteT ⟨_, rfl, k, CD, dx, _, _, rfl, h1, cl, U.nM, fldD_m _ _ _ _, _, rfl, k', CD, dy, _, _, rfl, h2, cl, U.nM, fldD_m _ _ _ _, rfl, q⟩
end
end Tk
set_option maxRecDepth 100000
/-! len(set(xs)), xs a list of some texts, equal ones among them too -/
namespace LenS
open PySem PySem.Spec PyProof.Rows
/-- how many unlike ones stand in front -/
def many (xs : List Str) : Nat → Nat
  | 0 => 0
  | i + 1 => if (xs.take i).any (· == xs.getD i Str.empty) then many xs i else many xs i + 1
theorem many_le (xs : List Str) : ∀ i, many xs i ≤ i
  | 0 => Nat.le_refl _
  | i + 1 => by
    have := many_le xs i
    unfold many
    split <;> omega
theorem took {xs : List Str} {i : Nat} (h : i < xs.length) (z : Str) : ((xs.take i).any (· == z) || decide (z = xs.getD i Str.empty)) = (xs.take (i + 1)).any (· == z) := by
  have e : xs.getD i Str.empty = xs[i] := by rw [List.getD_eq_getElem?_getD, List.getElem?_eq_getElem h]; rfl
  rw [List.take_add_one, List.getElem?_eq_getElem h, List.any_append, e]
  congr 1
  show decide (z = xs[i]) = ([xs[i]].any (· == z))
  by_cases c : z = xs[i]
  · rw [decide_eq_true c, ← c]; simp
  · rw [decide_eq_false c]
    have : (xs[i] == z) = false := beq_eq_false_iff_ne.mpr fun q => c q.symm
    simp [this]
def upto (xs : List Str) (i : Nat) : Str → Bool := fun z => (xs.take i).any (· == z)
section
variable {prog : Program} {w : World} {A : Around} {I S : Addr} {fp wr : List Addr} {G : Array GenState → Array GenState → Prop} {P : Nat → Value → Prop} {St : Nat → Shared → Prop} {xs : List Str} {R : Result → Shared → Prop}
theorem fill {n : Nat} (hn : n = xs.length) (W : WalksS prog w A.in1 I fp wr G n P St) (out : S ∉ fp) (few : xs.length + 1 < scanBound) (val : ∀ i v, P i v → ∃ t, v = .str (xs.getD i Str.empty) t) (m : Nat) :
    ∀ (i : Nat) (s : Shared), xs.length - i = m → i ≤ xs.length → St i s → s.heap.SetOf (strKind prog w) S (upto xs i) (many xs i) →
      (∀ s', Moved (S :: wr) G s s' → s'.heap.SetOf (strKind prog w) S (upto xs xs.length) (many xs xs.length) → R (.ok (.ret .none)) s') → codeAny (model prog w) A (.builtin "set.update.loop" ⟨[.ref S, .ref I], []⟩) R s := by
  subst hn
  have notw : S ∉ wr := fun h => out (W.sub _ h)
  have wider : ∀ b ∈ wr, b ∈ S :: wr := fun b => List.mem_cons_of_mem _
  have carry : ∀ {s s' : Shared} {f : Str → Bool} {k : Nat}, Moved wr G s s' → s.heap.SetOf (strKind prog w) S f k → s'.heap.SetOf (strKind prog w) S f k := fun mv h => by
    obtain ⟨o, a, b, c, there, more⟩ := h
    exact ⟨o, a, b, c, mv.heap S _ notw there, more⟩
  induction m with
  | zero =>
    intro i s hm hi now have_ last
    obtain rfl : i = xs.length := by omega
    refine codeAny_builtin F.entry_set_update_loop ?_
    rw [Around.under_plainId F.plain_set_update_loop _]
    exact wpAny_bind (W.done s _ _ now fun s' mv => wpAny_pure (last s' (mv.mono wider) (carry mv have_)))
  | succ m ih =>
    intro i s hm hi now have_ last
    have lt : i < xs.length := by omega
    refine codeAny_builtin F.entry_set_update_loop ?_
    rw [Around.under_plainId F.plain_set_update_loop _]
    refine wpAny_bind (W.item i s _ _ lt now fun v s' pv now' mv => ?_)
    obtain ⟨t, rfl⟩ := val i v pv
    refine wpAny_bind (wpAny_holding ?_)
    unfold setAdd
    refine wpAny_holding (wpAny_bind ((strKind prog w).pyHash (k := xs.getD i Str.empty) (strKind_is _ _ _ _) ?_))
    refine wpAny_setAddHashed_of (knd := strKind prog w) (s := { s' with toks := s'.toks + 1 }) (strKind_is _ _ _ _) rfl (carry (s' := s') mv have_) (by have := many_le xs i; omega) fun h2 same put => ?_
    have put2 : h2.SetOf (strKind prog w) S (upto xs (i + 1)) (many xs (i + 1)) := SetOf_congr put (fun z => took lt z) rfl
    refine wpAny_pure ⟨plainId_quiet F.plain_set_update_loop _, ih (i + 1) _ (by omega) lt (W.frame _ s' _ _ now' (Nat.le_succ _) fun b hb o e => ?_) put2 fun s3 mv3 end_ => ?_⟩
    · rw [same.2 b fun z => out (z ▸ hb)]; exact e
    · refine last s3 (Moved.trans W.gtrans ((mv.mono wider).then_heap (Nat.le_succ _) fun b o nb e => ?_) mv3) end_
      rw [same.2 b fun z => nb (z ▸ List.mem_cons_self)]; exact e
variable {E : Value → Shared → Prop} {s : Shared}
set_option maxHeartbeats 3200000 in
theorem make {l : Addr} {items : Array Value} {Q : Value → Shared → Prop} (calm : A.handled = none) (at_ : s.heap.IsList l items) (are : StrsAre items.toList xs) (few : xs.length + 1 < scanBound)
    (h : ∀ (h' : Heap) (tk : Nat), h'.SetOf (strKind prog w) s.heap.objs.size (upto xs xs.length) (many xs xs.length) → (∀ b o, b < s.heap.objs.size → s.heap.get? b = some o → h'.get? b = some o) → Q (.ref s.heap.objs.size) { s with heap := h', toks := tk }) :
    wpAny (model prog w) A (call (.type "set") [.ref l]) Q E s := by
  obtain ⟨c, tl, hmro⟩ := PySem.F.called_set.mro
  obtain ⟨made, sub, notT, canC⟩ := And.intro PySem.F.called_set.made (And.intro PySem.F.called_set.sub (And.intro PySem.F.called_set.notType PySem.F.called_set.canCreate))
  have one := PySem.F.typeCall_set_1 (.ref l)
  refine wpAny_call (codeAny_of_tree (wpAny_pure (a := _) ⟨Code.quiet_builtin _ (by decide +kernel), codeAny_builtin PySem.F.entry_type_call ?_⟩))
  rw [Around.under_plain (weight_type_call_type "set" [.ref l] []) rfl]
  repeat (any_goals (first | assumption | wp_step))
  let new : Obj := { cls := .type "set", dict := none, data := .set #[] 0 (.fresh 0 0 true) }
  let Made : Value → Shared → Prop := fun v s1 => ∃ led : Bool, v = .ref s.heap.objs.size ∧ s1 = { s with heap := s.heap.push { cls := .type "set", dict := none, data := .set #[] 0 (.fresh 0 0 led) } }
  let Full : Value → Shared → Prop := fun v s2 => v = .none ∧ ∃ h' tk, s2 = { s with heap := h', toks := tk } ∧ h'.SetOf (strKind prog w) s.heap.objs.size (upto xs xs.length) (many xs xs.length) ∧ ∀ b o, b < s.heap.objs.size → s.heap.get? b = some o → h'.get? b = some o
  refine codeAny_mono (code_set_new_1 (.ref l) (E := E) (Q₁ := Made) fun led => ⟨led, rfl, rfl⟩) fun r s1 hr => ?_
  match r, hr with
  | .error _, hr => exact hr
  | .ok .next, hr => exact hr.elim
  | .ok .brk, hr => exact hr.elim
  | .ok .cont, hr => exact hr.elim
  | .ok (.ret obj), hr =>
    obtain ⟨led, rfl, rfl⟩ := hr
    have there : (s.heap.push { cls := .type "set", dict := none, data := .set #[] 0 (.fresh 0 0 led) }).get? s.heap.objs.size = some { cls := .type "set", dict := none, data := .set #[] 0 (.fresh 0 0 led) } := Heap.get?_push_size _ rfl
    have typed : Shared.TypeIs { s with heap := s.heap.push { cls := .type "set", dict := none, data := .set #[] 0 (.fresh 0 0 led) } } (.ref s.heap.objs.size) "set" := ⟨_, there, rfl⟩
    have look := PySem.F.called_set.init.lookup
    have bind_ := PySem.F.called_set.init.bind (.ref s.heap.objs.size)
    repeat (any_goals (first | assumption | wp_step))
    refine codeAny_mono (codeAny_call_builtin (R := wants Full E) PySem.F.called_set.init.plain PySem.F.entry_set_init (check_set_init_1 typed ?_)) fun r2 s2 hr2 => ?_
    · obtain ⟨⟨oc, od, odata, osl⟩, lo, lc, ln, ld⟩ := at_
      simp only at lc ld
      subst lc ld
      have lo2 : (s.heap.push { cls := .type "set", dict := none, data := .set #[] 0 (.fresh 0 0 led) }).get? l = some { cls := .type "list", dict := od, data := .seq items ln, slots := osl } := Heap.get?_push_of_some _ lo
      have at2 : (s.heap.push { cls := .type "set", dict := none, data := .set #[] 0 (.fresh 0 0 led) }).IsList l items := ⟨_, lo2, rfl, ln, rfl⟩
      have n1 := PySem.F.sub_list_set
      have n2 := PySem.F.sub_list_frozenset
      have n3 : (Value.type "list" == Value.type "dict") = false := by decide
      unfold Builtin.«set.__init__» noKeywords Builtin.Frozenset.updateFrom
      generalize walk : pyIter = PI
      wp_walk
      subst walk
      refine wpAny_pyIter_list at2 (wpAny_bind (wpAny_runValue ?_))
      have below : l < s.heap.objs.size := Heap.lt_size lo
      have hh3 : A.in1.in1.in1.handled = none := by simp [calm]
      have sz : (s.heap.push { cls := .type "set", dict := none, data := .set #[] 0 (.fresh 0 0 led) }).objs.size = s.heap.objs.size + 1 := Heap.size_push ..
      have len : items.size = xs.length := by rw [← StrsAre.len_eq are, Array.length_toList]
      have far : l ≠ (s.heap.push { cls := .type "set", dict := none, data := .set #[] 0 (.fresh 0 0 led) }).objs.size := by
        rw [sz]
        exact Nat.ne_of_lt (Nat.lt_succ_of_lt below)
      have out : s.heap.objs.size ∉ [(s.heap.push { cls := .type "set", dict := none, data := .set #[] 0 (.fresh 0 0 led) }).objs.size, l] := by
        rw [sz]
        intro z
        simp only [List.mem_cons, List.not_mem_nil, or_false] at z
        exact z.elim (fun e => absurd e (Nat.ne_of_lt (Nat.lt_succ_self _))) fun e => absurd e (Nat.ne_of_gt below)
      refine fill len ((Walks.list hh3 _ l far items).toS) out few (fun i v hv => SS.strs_at are i v (by rw [Array.getElem?_toList]; exact hv)) _ 0 _ rfl (Nat.zero_le _) ⟨⟨_, Heap.get?_push_size _ rfl, rfl, rfl⟩, at2.push _⟩ ?_ ?_
      · have get_ := Heap.get?_push_of_some { cls := .type "list_iterator", data := .fields #[.ref l, .int 0 0] } there
        exact SetOf_congr ((setObjOf_fresh (knd := strKind prog w) led).setOf get_ (by unfold scanBound; omega)) (fun _ => rfl) rfl
      · rintro ⟨h', g', d', tk', os'⟩ mv done_
        obtain rfl : g' = s.gens := mv.gens
        obtain rfl : d' = s.drawn := mv.drawn
        obtain rfl : os' = s.os := mv.os
        refine wpAny_pure (wpAny_pure ⟨rfl, h', tk', rfl, done_, fun b o hb e => ?_⟩)
        refine mv.heap b o (fun z => ?_) (Heap.get?_push_of_some _ (Heap.get?_push_of_some _ e))
        simp only [List.mem_cons, List.not_mem_nil, or_false] at z
        rw [sz] at z
        exact z.elim (fun e => absurd e (Nat.ne_of_lt hb)) fun e => absurd e (Nat.ne_of_lt (Nat.lt_succ_of_lt hb))
    · match r2, hr2 with
      | .error _, hr2 => exact hr2
      | .ok .next, hr2 => exact hr2.elim
      | .ok .brk, hr2 => exact hr2.elim
      | .ok .cont, hr2 => exact hr2.elim
      | .ok (.ret v), hr2 =>
        obtain ⟨rfl, h', tk, rfl, full, keep⟩ := hr2
        repeat (any_goals (first | assumption | wp_step))
        exact h _ _ full keep
end
end LenS
namespace L2
open PySem PySem.Spec PyProof.Rows
theorem strs_vals : ∀ {ys : List Str} {us : List Value}, Vals (ys.map V.str) us → StrsAre us ys
  | [], _, .nil => .nil
  | y :: ys, _, .cons r t => by
    obtain ⟨k, rfl⟩ := r
    exact .cons y k (strs_vals t)
/-- len(set(xs)), xs a list of texts -/
def tLenS (K : PySem.W.Frag) (ta : TE) : TE := fun σ H Q => ta σ H fun x H1 => ∃ l, ∃ xs : List Str, x = .ref l ∧ SqL K H1 l (xs.map V.str) ∧ xs.length ≤ 100 ∧ Q (.int (LenS.many xs xs.length : Nat)) H1
theorem pe_lenS {X : Cx} {a : Expr} {ta : TE} {p p2 q pos : Pos} (hg : Gl X "len") (hm : X.mg "len" = none) (hg2 : Gl X "set") (hm2 : X.mg "set" = none) (ha : PE X a ta) (hc : X.calm = true := by rfl)
    (na : starEach [a] X.env = (false, eval a X.env) :: starEach [] X.env := by rfl) : PE X (.Call (.Name "len" p) [.Call (.Name "set" p2) [a] [] q] [] pos) (tLenS X.K ta) := by
  refine ⟨fun pins s σ H Q I h => ?_⟩
  refine Call_ (ld_blt I hg hm boot_len (callWith_builtin1 (args_cons ?_ rfl) rfl rfl))
  refine Call_ (ld_blt I hg2 hm2 boot_set (callWith_type1 (args_cons (thn (ha.run pins s σ H _ I h) fun v s1 ⟨x, H1, I1, r1, q1⟩ => args_nil ?_) na) na rfl))
  obtain ⟨l, xs, rfl, hq, few, q1⟩ := q1
  cases r1
  obtain ⟨its, r, pl, _⟩ := I1.list hq
  refine LenS.make (I1.ok.hd hc) pl.isList (by simpa using strs_vals r) (by unfold scanBound; omega) fun h' tk full keep => args_nil ?_
  obtain ⟨o, es, ep, t, ho, hex, hd, _, _, _, hf, hn⟩ := full
  have I2 : Inv X pins σ H1 { s1 with heap := h', toks := tk } := I1.kept fun b o e => keep b o (Heap.lt_size e) e
  have le := LenS.many_le xs xs.length
  exact call_len_set ho hex hd hf (by rw [hn]; omega) ⟨.int (LenS.many xs xs.length : Nat), H1, I2.tok _, ⟨_, by rw [hn]⟩, q1⟩
end L2
set_option maxRecDepth 100000
namespace L2
open PySem PySem.Spec PyProof.Rows
/-! ### a class's own methods, where an error may come out -/
section
variable {X : Cx} {CX : CXT} {k n : Nat} {C f : Addr} {fd : FuncData} {ps : List Str} {sp : Sp} {E : St → XK}
theorem tk_runS {A : Around} {pins : List (Addr × Obj)} {σ : St} {H : Hp} {s : Shared} {Q : VK} {us : List Value} {vs : List V} (sb : Sub X k A) (F : FnOk X.prog X.w X.K X.mg X.base CX k f fd ps sp) (hb : Binds X.K fd ps []) (hx : PassesAt CX X σ (E σ))
    (I : Inv X pins σ H s) (r : Vals vs us) (h : sp vs H Q (E σ)) : wpAny (model X.prog X.w) A (call (.ref f) us) (EP X pins σ Q) X.xe s := by
  have e := I.env0
  have e0 : Env0 X.prog X.w X.K X.mg X.base A X.stack s H := ⟨by rw [sb.fr]; exact e.frames, e.mod, e.bs, e.bsz, e.funs, e.frf, e.hok, e.bare⟩
  have hl : us.length = ps.length := r.length.symm.trans (F.len _ _ _ _ h)
  have bd := hb s us I.kIn (by simpa using hl)
  refine wpAny_call (codeAny_mono (F.run A X.stack s H ⟨us, []⟩ us vs Q (E σ) sb.room e0 (by simpa using bd) r h) fun res s' hq => ?_)
  match res, hq with
  | .error e, hq => exact hx pins H s e s' I hq
  | .ok (.ret u), hq => exact I.after hq
/-- o[i] by the class's own __getitem__, which may raise -/
def tIxS (C : Addr) (sp : Sp) (E : St → XK) (ta tb : TE) : TE := fun σ H Q => ta σ H fun x H1 => tb σ H1 fun y H2 => rOwn2 C sp (E σ) x y H2 Q
theorem ix_ownS {value slice : Expr} (M : OwnM X.K C "__getitem__" f) (hf : PySem.W.fnIn X.K f = true) (F : FnOk X.prog X.w X.K X.mg X.base CX k f fd ps sp) (hr : Room (k + 1) X.A) (hb : Binds X.K fd ps []) (hx : ∀ σ, PassesAt CX X σ (E σ))
    {a b : Expr} {ta tb : TE} {pos : Pos} (ha : PE X a ta) (hb2 : PE X b tb) (hs : ∀ o i, subscripted b true o i = runValue (.builtin "lifetime.subscript" ⟨[o, i], []⟩)) : PE X (.Subscript a b pos) (tIxS C sp E ta tb) := by
  refine ⟨fun pins s σ H Q I h => ?_⟩
  refine Subscript_ (binT ha hb2 I h fun v u s2 x y H2 I2 rx ry q => ?_)
  obtain ⟨p, dx, fs, rfl, hp, q⟩ := q
  obtain rfl : v = Value.ref p := rx
  obtain ⟨ox, od, J⟩ := ownInst I2 hp
  obtain ⟨m, hF⟩ := I2.fr
  refine PySem.W.sub_K hF I2.ok.mod.kin J M.at_ hf M.fn ?_ (hs _ _)
  exact tk_runS ⟨hr.in1, rfl⟩ F hb (hx σ) I2 (.cons (show RelV (.ref p) (.ref p) from rfl) (.cons ry .nil)) q
end
/-! ### an error class with one field -/
structure Ecl (K : PySem.W.Frag) (mg : Str → Option Value) (nm f : Str) (C fI : Addr) : Prop where
  gC : mg nm = some (.ref C)
  ox : OexC K C
  iC : PySem.W.findIn K (.ref C) "__init__" = some (some (.ref fI))
  tI : PySem.W.typeIn K (.ref fI) = some (.type "function")
  noF : PySem.W.findIn K (.ref C) f = some none
  xf : XfC K C
  cl : (PySem.W.clsIn K C).isSome = true
  ha : PySem.W.findIn K (.ref C) "__class__" = some (some (.builtin "object.__class__"))
  hn : PySem.W.specialIn K (.builtin "object.__class__") "__get__" = some (some (.builtin "getset_descriptor.__get__"))
  ht : PySem.W.takesIn K (.builtin "object.__class__") = some true
  hm : PySem.W.mroIn K C (.type "object") = some true
  te : PySem.W.exmOne K (.ref C) (.ref C) = some true
/-- what such an __init__ promises -/
def spEI (C : Addr) (f : Str) : Sp := fun vs H Q _ => ∃ (a : Addr) (v : V), vs = [.ref a, v] ∧ H a = some (exo a C none) ∧ ∀ dx, H dx = none → dx ≠ a → Q .non (upd (upd H dx (exd dx [(f, v)])) a (exo a C (some dx)))
/-- raise C(e) -/
theorem ps_raise1 {X : Cx} {W : WX} {nm f : Str} {C fI : Addr} {fd : FuncData} {ps : List Str} {e : Expr} {es : List Expr} {ta : TA} {p pos ppos : Pos} (hc : X.calm = true) (tk : Takes X W) (T : Ecl X.K X.mg nm f C fI) (F1 : FnOk X.prog X.w X.K X.mg X.base CX0 1 fI fd ps (spEI C f)) (hr : Room 2 X.A) (hb : Binds X.K fd ps [])
    (hg : Gl X nm) (ha : PA X (e :: es) ta) (hdb : (nm == ("__debug__" : Str)) = false := by decide) (he : starEach (e :: es) X.env = (false, eval e X.env) :: starEach es X.env := by rfl) (hpl : (backTo pos (starEach es X.env)).any (·.1) = false := by rfl) :
    PS X (.Raise (some (.Call (.Name nm p) (e :: es) [] pos)) none ppos) (fun _ σ H => tMkO C (spEI C f) [] ta σ H fun cls d H' => W cls d σ H') :=
  ps_raise (pos := ppos) hc tk (pmk_oex T.ox T.iC T.tI F1 hr hb .nil pass0 hg T.gC ha hdb he hpl)
theorem made1 {C : Addr} {f : Str} {v : V} {H1 : Hp} {Q : XK} (q : ∀ d, H1 d = none → Q (.ref C) (some d) (upd H1 d (.xd [(f, v)]))) : [v].length ≤ 1000 ∧ ∀ a, H1 a = none → spEI C f (.ref a :: ([v] ++ [])) (upd H1 a (exo a C none))
    (fun v H2 => v = .non ∧ ∃ (d : Addr) (fs : List (Str × V)), H2 a = some (exo a C (some d)) ∧ H2 d = some (exd d fs) ∧ H1 d = none ∧ Q (.ref C) (some d) (upd (del H2 a) d (.xd fs))) (fun _ _ _ => False) := by
  refine ⟨(by show 1 ≤ 1000; decide), fun a ha => ⟨a, v, rfl, upd_same, fun dx hd ne => ⟨rfl, dx, _, upd_same, by rw [upd_ne ne, upd_same], by rw [upd_ne ne] at hd; exact hd, ?_⟩⟩⟩
  have hd' : H1 dx = none := by rw [upd_ne ne] at hd; exact hd
  have e : upd (del (upd (upd (upd H1 a (exo a C none)) dx (exd dx [(f, v)])) a (exo a C (some dx))) a) dx (.xd [(f, v)]) = upd H1 dx (.xd [(f, v)]) := by
    funext b
    by_cases h1 : b = dx
    · rw [h1, upd_same, upd_same]
    · rw [upd_ne h1, upd_ne h1]
      by_cases h2 : b = a
      · rw [h2, del_same, ha]
      · rw [del_ne h2, upd_ne h2, upd_ne h1, upd_ne h2]
  rw [e]
  exact q dx hd'
/-- isinstance(e, c), e the caught error with its dict -/
def rIsX (K : PySem.W.Frag) (a : Addr) (cls : Value) (d : Option Addr) (D : Addr) : List V → Hp → VK → Prop := fun xs H Q => ∃ (c : V) (cv : Value) (b : Bool) (dd : Addr) (fs : List (Str × V)), cls = .ref D ∧ d = some dd ∧ H dd = some (.xd fs) ∧ xs = [.ref a, c] ∧ (∀ u, RelV c u → u = cv) ∧ PySem.W.kitOne K (.ref D) cv = some b ∧ Q (.bl b) H
theorem call_isX {X : Cx} {a D : Addr} {cls : Value} {d : Option Addr} {nm f : Str} {fI : Addr} {mg : Str → Option Value} {oe : Obj} {pn : List (Addr × Obj)} (T : Ecl X.K mg nm f D fI) (hz : Zc cls d oe) (hf : ∃ vs, oe.data = .fields vs) :
    CallR (X.suite a ((a, oe) :: pn)) (.builtin "isinstance") (rIsX X.K a cls d D) := by
  rintro pins s σ H xs us Q I r ⟨c, cv, b, dd, fs, rfl, rfl, ea, rfl, hcv, e, q⟩
  obtain ⟨u1, u2, rfl, r1, r2⟩ : ∃ u1 u2, us = [u1, u2] ∧ RelV (.ref a) u1 ∧ RelV c u2 := by
    cases r with
    | cons p1 t1 => cases t1 with
      | cons p2 t2 => cases t2; exact ⟨_, _, rfl, p1, p2⟩
  obtain rfl : u1 = Value.ref a := r1
  rw [hcv u2 r2]
  have own := (I.pin (a, oe) (List.mem_append_left _ List.mem_cons_self)).1
  obtain ⟨vs, isF⟩ := hf
  obtain ⟨mA, named, _⟩ := show ObjOk X.prog X.w H s.heap dd (.xd fs) from I.hok dd _ ea
  obtain ⟨od, at_, _⟩ := lookIn_ns named
  have J : PySem.W.InstAt s.heap a oe D (some od) := by
    refine ⟨own, hz.1, ?_, by rw [hz.2]; exact at_⟩
    unfold PySem.W.notCls
    rw [isF] <;> rfl
  have kit := PySem.W.kitx_exc (x := a) (ox := oe) (od := some od) T.cl T.xf.ga T.xf.gg T.xf.exC T.ha T.hn T.ht T.hm
  exact PySem.W.kia_one kit I.kIn J e (fun z => nomatch z) fun tk => ⟨.bl b, H, I.kept (t' := tk) fun _ _ z => z, rfl, q⟩
/-- x == x, for data and for empty dicts -/
def Slf (K : PySem.W.Frag) (H : Hp) (v : V) : Prop := (∃ d, Dp K H v d ∧ SeqAt.shaped d = true ∧ PyData.eqv d d = true) ∨ ∃ a, v = .ref a ∧ H a = some (.dK [])
def rSlf (K : PySem.W.Frag) : R2 := fun x y H Q => x = y ∧ Slf K H x ∧ Q (.bl true) H
theorem op_slf {X : Cx} (hu : X.A.units + 64 < cLine) : OpR X (compareOp .Eq) (rSlf X.K) := by
  intro pins s σ H x y v u Q I rx ry h
  obtain ⟨rfl, h, q⟩ := h
  rcases h with ⟨d, h1, h2, h3⟩ | ⟨a, rfl, h⟩
  · exact op_eqD hu pins s σ H x x v u Q I rx ry ⟨d, d, h1, h1, h2, h2, by rw [h3]; exact q⟩
  · exact op_eqV hu pins s σ H _ _ v u Q I rx ry ⟨1, by decide, .inr ⟨a, a, [], [], rfl, rfl, h, h, rfl, fun p hp => nomatch hp⟩, q⟩
end L2
namespace Tk
open PySem L2
/-- what is no place of the script S -/
def NoPl (H : Hp) (S : List Stm) (v : V) : Prop := (∃ T, Kd H v T ∧ kitB T "tuple" = some false) ∨ ∃ u xs, v = .ref u ∧ H u = some (.tup xs) ∧ xs.length ≤ 100 ∧ (∀ y ∈ xs, ∃ T, Kd H y T) ∧ ∀ p, xs = p.map V.int → look S p = none
theorem NoPl.keep {H H' : Hp} {S : List Stm} {v : V} (s : Same H H') (h : NoPl H S v) : NoPl H' S v := by
  rcases h with ⟨T, k, e⟩ | ⟨u, xs, rfl, h1, h2, h3, h4⟩
  · exact .inl ⟨T, k.keep s, e⟩
  · exact .inr ⟨u, xs, rfl, s _ _ h1, h2, fun y hy => (h3 y hy).imp fun _ k => k.keep s, h4⟩
/-- script[place], there or not -/
def spGetX (CS CN : Addr) : Sp := fun vs H Q E => ∃ (x t : Addr) (v : V) (S : List Stm), vs = [.ref x, v] ∧ Sc CS H x t S ∧
  ((∃ (u : Addr) (p : Pl) (s : Stm), v = .ref u ∧ H u = some (.tup (p.map V.int)) ∧ p.length ≤ 100 ∧ look S p = some s ∧ ∀ (w : V) (H' : Hp), Same H H' → s.at H' w → Q w H') ∨
   (NoPl H S v ∧ ∀ (d : Addr) (H' : Hp), Same H H' → H d = none → H' d = some (.xd [("place", v)]) → E (.ref CN) (some d) H'))
abbrev sNPInit : Stmt := inClass (top 4) 0
section
variable {P : Program} {w : World} {K : PySem.W.Frag} {mg : Str → Option Value} {base : Heap} {CS CK it CN : Addr}
theorem scNP : FnScope ["self", "place"] ["self", "place"] (defScope sNPInit) := ⟨rfl, rfl, rfl, by decide +kernel, rfl, by decide +kernel, by decide +kernel⟩
theorem ok_npi {f : Addr} {fd : FuncData} (F : Fun K "__init__" "NoPlace.__init__" sNPInit f fd) (T : Ecl K mg "NoPlace" "place" CN f) : FnOk P w K mg base CX0 1 f fd ["self", "place"] (spEI CN "place") := by
  refine F.ok scNP (fun vs H Q E h => ?_) (fun cdv A outer s H vs Q E hr h => ?_)
  · obtain ⟨a, v, rfl, _⟩ := h
    rfl
  obtain ⟨a, v, rfl, ha, q⟩ := h
  refine ⟨_, pss_one (ps_ost (pv 0) (pv 1) rfl), ?_⟩
  exact ⟨_, rfl, _, rfl, a, CN, rfl, T.ox, T.noF, .inl ⟨ha, fun dx h1 h2 => q dx h1 h2⟩⟩
theorem map_int_inj : ∀ {a b : Pl}, a.map V.int = b.map V.int → a = b
  | [], [], _ => rfl
  | [], _ :: _, e => by cases e
  | _ :: _, [], e => by cases e
  | i :: r, j :: r', e => by
    rw [List.map_cons, List.map_cons] at e
    injection e with e1 e2
    injection e1 with e1
    rw [e1, map_int_inj e2]
theorem ok_sgetX {f fH fI : Addr} {fd fdH fdI : FuncData} (F : Fun K "__getitem__" "Script.__getitem__" sSGet f fd) (T : Txt K w mg CS CK it) (TN : Ecl K mg "NoPlace" "place" CN fI)
    (GI : FnOk P w K mg base CX0 1 fI fdI ["self", "place"] (spEI CN "place")) (bI : Binds K fdI ["self", "place"] [])
    (GH : FnOk P w K mg base CX0 2 fH fdH ["self", "place"] (spHas CS)) (bH : Binds K fdH ["self", "place"] []) (mH : OwnM K CS "__contains__" fH) : FnOk P w K mg base (L2.CX P w) 3 f fd ["self", "place"] (spGetX CS CN) := by
  refine F.okX scSG (fun vs H Q E h => ?_) (fun cdv A outer s H vs Q E hr h => ?_)
  · obtain ⟨x, t, v, S, rfl, _⟩ := h
    rfl
  obtain ⟨x, t, v, S, rfl, C, hv⟩ := h
  have hu' := hu_of hr
  refine ⟨_, pss_cons (ps_if (pt_cmpR (op_notInOwn mH GH hr bH pass0) (pv 1) (pv 0) (by rfl)) (pss_one (ps_raise1 rfl (takes_of rfl rfl rfl rfl) TN GI hr bI rfl (pa_cons (pv 1) pa_nil))) pss_nil)
    (pss_one (ps_ret (pe_dget hu' (pe_fld (pv 0) rfl) (pv 1) (fun _ _ => rfl)))), ?_⟩
  have has : ∀ H', Same H H' → Sc CS H' x t S := fun H' s => C.keep s
  obtain ⟨⟨dx, dd, pl, bs, kvs, ys, g1, g2, g3, g4, g5, g6, g7⟩, _⟩ := id C
  refine ⟨_, rfl, _, rfl, x, dx, _, rfl, g1, x, t, v, S, rfl, C, ?_⟩
  rcases hv with ⟨u, p, st, rfl, hu, h100, hl, q⟩ | ⟨np, q⟩
  · refine .inr ⟨u, _, rfl, hu, by rw [List.length_map]; exact h100, ?_, ?_, ?_⟩
    · intro y hy
      obtain ⟨i, _, rfl⟩ := List.mem_map.mp hy
      exact ⟨_, .int i⟩
    · intro e
      have : (p.map V.int).all intB = true := by rw [List.all_map]; exact List.all_eq_true.mpr fun _ _ => rfl
      rw [this] at e; cases e
    · intro p' e H' s1
      have ep : p = p' := map_int_inj e
      subst ep
      rw [hl]
      refine ⟨true, rfl, _, rfl, iteF ?_⟩
      obtain ⟨⟨dx, dd, pl, bs, kvs, ys, g1, g2, g3, g4, g5, g6, g7⟩, _⟩ := C.keep s1
      obtain ⟨v, ev, hv⟩ := (Sc.val (x := x) (t := t) (p := p) g5).2 st hl
      have hg : DGet H' dd (.ref u) (valV kvs (key p)) := DGet.t g4 (by rw [key_kV]; exact s1 _ _ hu)
      rw [ev] at hg
      exact ⟨_, rfl, x, CS, dx, _, _, rfl, g1, T.clS, T.nF, flds_fo _ _ _, _, rfl, dd, v, rfl, hg, q v H' s1 hv⟩
  · rcases np with ⟨T', kd, e⟩ | ⟨u, xs, rfl, hu, h100, kds, no⟩
    · exact .inl ⟨T', kd, e, ⟨false, rfl, _, rfl, iteT ⟨_, rfl, made1 fun d hd => q d _ ((show Same H H from fun _ _ e => e).trans (same_new hd _)) ((show Same H H from fun _ _ e => e).free hd) upd_same⟩⟩⟩
    · refine .inr ⟨u, xs, rfl, hu, h100, kds, fun e H' s1 => ⟨false, rfl, _, rfl, iteT ⟨_, rfl, made1 fun d hd => q d _ (s1.trans (same_new hd _)) (s1.free hd) upd_same⟩⟩, fun p e H' s1 => ?_⟩
      rw [no p e]
      exact ⟨false, rfl, _, rfl, iteT ⟨_, rfl, made1 fun d hd => q d _ (s1.trans (same_new hd _)) (s1.free hd) upd_same⟩⟩
end
end Tk
set_option maxRecDepth 100000
namespace L2
open PySem PySem.Spec PyProof.Rows
/-- C(e, .., k = v, ..), where an error may come out of its __init__, as the wish at these slots says -/
def tMakeKS (C : Addr) (n m : Nat) (sp : Sp) (gV : List V → List V → List V) (E : St → XK) (t tk : TA) : TE := fun σ H Q => t σ H fun vs H1 => tk σ H1 fun zs H2 => vs.length = n ∧ zs.length = m ∧ ∀ x dx, H2 x = none → H2 dx = none → dx ≠ x →
  sp (gV (.ref x :: vs) zs) (upd (upd H2 dx (.own x)) x (.ins C dx [])) (fun v H3 => v = .non ∧ Q (.ref x) H3) (E σ)
section
variable {X : Cx} {CX : CXT} {k n : Nat} {f C : Addr} {fd : FuncData} {ps ks : List Str} {sp : Sp} {E : St → XK} {x : Str} {p pos : Pos} {e : Expr} {es : List Expr} {kws : List Keyword} {t tk : TA} {g : List Value → List Value → List Value} {gV : List V → List V → List V}
theorem run_makeKS {pins : List (Addr × Obj)} {σ : St} {H : Hp} {s : Shared} {Q : VK} {us ws : List Value} {vs zs : List V} {E : XK} (M : Mk X.K C f) (F : FnOk X.prog X.w X.K X.mg X.base CX k f fd ps sp) (hr : Room (k + 1) X.A) (hb : KBn X.K fd ps (n + 1) ks g gV) (hx : PassesAt CX X σ E)
    (I : Inv X pins σ H s) (r : Vals vs us) (rz : Vals zs ws) (l1 : vs.length = n) (l2 : zs.length = ks.length)
    (h : ∀ x dx, H x = none → H dx = none → dx ≠ x → sp (gV (.ref x :: vs) zs) (upd (upd H dx (.own x)) x (.ins C dx [])) (fun v H2 => v = .non ∧ Q (.ref x) H2) E) :
    wpAny (model X.prog X.w) X.A (call (.ref C) us (ks.zip ws)) (EP X pins σ Q) X.xe s := by
  have hq := h (s.heap.objs.size + 1) s.heap.objs.size (I.hok.fresh (Nat.le_succ _)) (I.hok.fresh (Nat.le_refl _)) (Nat.ne_of_lt (Nat.lt_succ_self _))
  have I2 := Inv.made (C := C) I
  have r1 : Vals (V.ref (s.heap.objs.size + 1) :: vs) (Value.ref (s.heap.objs.size + 1) :: us) := .cons rfl r
  have r2 := hb.rel r1 rz
  have n1 : (Value.ref (s.heap.objs.size + 1) :: us).length = n + 1 := by
    rw [List.length_cons, ← r.length, l1]
  refine wpAny_call (make_map (f := f) I.kIn M.makes M.init (beq_iff_eq.mp M.fn) (codeAny_mono (F.run _ X.stack _ _ ⟨Value.ref (s.heap.objs.size + 1) :: us, ks.zip ws⟩ (g (Value.ref (s.heap.objs.size + 1) :: us) ws) _ _ E (hr.make C us (ks.zip ws))
    (I2.env0.make C us (ks.zip ws)) (hb.to _ (Value.ref (s.heap.objs.size + 1) :: us) ws I2.kIn n1 (rz.length.symm.trans l2)) r2 hq) fun r s' hq' => ?_))
  cases r with
  | error e => exact hx pins _ _ e s' I2 hq'
  | ok fl =>
    cases fl with
    | ret u =>
      obtain ⟨v, H', I3, rv, ev, q3⟩ := I2.after hq'
      subst ev
      exact ⟨rv, ⟨V.ref (s.heap.objs.size + 1), H', I3, rfl, q3⟩⟩
    | next => exact False.elim hq'
    | brk => exact False.elim hq'
    | cont => exact False.elim hq'
theorem pe_makeKS (M : Mk X.K C f) (F : FnOk X.prog X.w X.K X.mg X.base CX k f fd ps sp) (hr : Room (k + 1) X.A) (hg : Gl X x) (hm : X.mg x = some (.ref C)) (hb : KBn X.K fd ps (n + 1) ks g gV) (hx : ∀ σ, PassesAt CX X σ (E σ)) (ha : PA X (e :: es) t) (hkw : PK X kws tk)
    (hall : (backToKw pos (keywordEach kws X.env)).all (·.1.isSome) = true := by rfl) (hks : (backToKw pos (keywordEach kws X.env)).filterMap (·.1) = ks := by rfl) (hdb : (x == ("__debug__" : Str)) = false := by decide)
    (he : starEach (e :: es) X.env = (false, eval e X.env) :: starEach es X.env := by rfl) (hpl : ((backTo pos (starEach (e :: es) X.env)).any (·.1) || (backToKw pos (keywordEach kws X.env)).any (·.1.isNone)) = false := by rfl) :
    PE X (.Call (.Name x p) (e :: es) kws pos) (tMakeKS C n ks.length sp gV E t tk) := by
  refine ⟨fun pins s σ H Q I h => ?_⟩
  refine wpAny_Call_Name_kw (ld_glob I hg hm ?_ hdb)
  refine PySem.W.callWith_KW (h₀ := X.base) I.ok.mod.kin M.kp hall (thn (ha.run pos pins s σ H _ I h) fun us s1 ⟨vs, H1, I1, r, q⟩ => ?_) hpl he
  refine thn (hkw.run pos pins s1 σ H1 _ I1 q) fun ws s2 ⟨zs, H2, I2, rz, l1, l2, q2⟩ => ⟨I2.kIn, ?_⟩
  rw [hks]
  exact run_makeKS M F hr hb (hx σ) I2 r rz l1 l2 q2
end
end L2
set_option maxRecDepth 100000
/-! def f(a, .., *v, k = .., ..): a star parameter beside keyword-only ones -/
namespace StK
open PySem PySem.Spec PyProof.Rows L2 StX
/-- what the reading of defaults leaves to do -/
def KwTail {α : Type} (D : Addr) : List (Str × Value) → Sem α → Sem α → Prop
  | [], t, r => t = r
  | q :: l, t, r => ∃ (β γ : Type) (k1 : Option Value → Sem β) (k2 : β → Sem γ) (k3 : γ → Sem α) (a : β), t = ((nsGet D q.1 >>= k1) >>= k2) >>= k3 ∧ k1 (some q.2) = pure a ∧ KwTail D l (k2 a >>= k3) r
theorem KwTail.wp {α : Type} {K : PySem.W.Frag} {M : Model} {A : Around} {s : Shared} {D : Addr} {Q : α → Shared → Prop} {E : Value → Shared → Prop} (X : K.In s.heap) : ∀ {l : List (Str × Value)} {t r : Sem α}, (∀ q ∈ l, PySem.W.nsIn K D q.1 = some (some q.2)) → KwTail D l t r → wpAny M A r Q E s → wpAny M A t Q E s
  | [], t, r, _, e, h => by
    rw [show t = r from e]; exact h
  | q :: l, t, r, hl, e, h => by
    obtain ⟨β, γ, k1, k2, k3, a, e1, e2, e3⟩ := e
    have l1 : PySem.W.Looks M s.heap (nsGet D q.1 >>= k1) a := (PySem.W.looks_nsIn X (hl q (List.mem_cons_self ..))).andThen (PySem.W.Looks.of_pure e2)
    rw [e1, bind_assoc]
    exact wpAny_bind (l1.here (KwTail.wp X (fun p hp => hl p (List.mem_cons_of_mem _ hp)) e3 h))
/-- a def that is called with the keywords ks -/
def FnRK (P : Program) (w : World) (K : PySem.W.Frag) (mg : Str → Option Value) (base : Heap) (CX : CXT) (k : Nat) (f : Addr) (ks : List Str) (sp : List V → Sp) : Prop :=
  ∀ (A : Around) (outer : List Env) (s : Shared) (H : Hp) (us ws : List Value) (vs zs : List V) (Q : VK) (E : XK), Room k A → Env0 P w K mg base A outer s H → Vals vs us → Vals zs ws → zs.length = ks.length → sp zs vs H Q E →
    codeAny (model P w) A (.call (.ref f) ⟨us, ks.zip ws⟩) (CR CX outer P w H s Q E) s
section
variable {CX : CXT} {P : Program} {w : World} {K : PySem.W.Frag} {mg : Str → Option Value} {base : Heap} {k n : Nat} {f D : Addr} {name qual : Str} {params : Arguments} {body : List Stmt} {scope : Scope} {doc pm cdv ct oc : Value} {an od : Option Addr}
  {osl : Array (Option Value)} {N ps ks : List Str} {ms : List (Str × V)} {sp : Sp} {pv : Str}
theorem fn_starK (lk : K.lookup f = some ⟨oc, od, .func (PySem.W.fnOf name qual params body scope .none (.ref D) doc pm an cdv ct), osl⟩) (hcd : PySem.W.codeIn K cdv qual = true) (S : FnScope N (ps ++ [pv]) scope) (hCX : CXUp CX)
    (hms : ∀ q ∈ ms, ∃ u, PySem.W.nsIn K D q.1 = some (some u) ∧ RelV q.2 u) (g : {α : Type} → List α → List α → List α → List α)
    (hrel : ∀ {vs mz zs : List V} {us mv ws : List Value}, Vals vs us → Vals mz mv → Vals zs ws → Vals (g vs mz zs) (g us mv ws))
    (hlen : ∀ {α : Type} (us mv ws : List α), us.length = n → mv.length = ms.length → ws.length = ks.length → (g us mv ws).length = ps.length)
    (hb : ∀ us rest mv ws : List Value, us.length = n → mv.length = ms.length → ws.length = ks.length → KwTail D ((ms.map (·.1)).zip mv) (bindArgs (PySem.W.fnOf name qual params body scope .none (.ref D) doc pm an cdv ct) ⟨us ++ rest, ks.zip ws⟩) (newTuple rest >>= fun t => pure (ps.zip (g us mv ws) ++ [(pv, t)])))
    (hbody : ∀ (A : Around) (outer : List Env) (s : Shared) (H : Hp) (vs : List V) (Q : VK) (E : XK), Room k (A.deeper (envOfC qual scope s.heap.objs.size f cdv)) → sp vs H Q E →
      ∃ t, PSs (cxOf CX P w K mg base N qual scope f cdv A outer s H E) body t ∧ t { nx := fun _ H' => Q .non H', rt := Q } (start N vs) H) :
    FnRK P w K mg base CX (k + 1) f ks (fun zs vs H Q E => ∃ ws rest, vs = ws ++ rest ∧ ws.length = n ∧ rest.length ≤ sizeLine ∧ ∀ p, H p = Option.none → sp (g ws (ms.map (·.2)) zs ++ [V.ref p]) (upd H p (.tup rest)) Q E) := by
  intro A outer s H us wz vs zs Q E hr e0 r rz hz hsp
  obtain ⟨ws, rest, ev, hl, hs, hq⟩ := hsp
  subst ev
  obtain ⟨u1, u2, eu, r1, r2⟩ := vals_split r
  subst eu
  obtain ⟨mv, ml, rm, hks⟩ := kwd_vals hms
  have KX : K.In s.heap := e0.mod.kin.keeps fun b o e => (e0.bs b o e).1
  have hn : H s.heap.objs.size = Option.none := e0.hok.fresh (Nat.le_refl _)
  have hl1 : u1.length = n := by rw [← r1.length]; exact hl
  have hl2 : u2.length ≤ sizeLine := by rw [← r2.length]; exact hs
  have hlz : wz.length = ks.length := by rw [← rz.length]; exact hz
  have rg := hrel r1 rm rz
  have lg : (g u1 mv wz).length = ps.length := hlen _ _ _ hl1 ml hlz
  have lg' : (g ws (ms.map (·.2)) zs).length = ps.length := by rw [rg.length]; exact lg
  refine run_bnd lk hcd S hr e0 (G := fun xs H2 => ∃ p, H p = Option.none ∧ xs = g ws (ms.map (·.2)) zs ++ [V.ref p] ∧ H2 = upd H p (.tup rest)) (fun A' Ex Q' h => ?_) fun s2 H2 xs ⟨p, hp, ex, eH⟩ hr' => ?_
  · refine KwTail.wp KX hks (hb u1 u2 mv wz hl1 ml hlz) ?_
    refine wpAny_bind (wpAny_newTuple (wpAny_pure ?_) hl2)
    have new : ObjOk P w (upd H s.heap.objs.size (.tup rest)) (s.heap.push ({ cls := .type "tuple", data := .seq u2.toArray } : Obj)) s.heap.objs.size (.tup rest) := ⟨hs, u2, r2, ⟨_, Heap.get?_push_size _ rfl, rfl, _, rfl⟩⟩
    have un := un_laid (fs := frs outer) (s := s) (o := ({ cls := .type "tuple", data := .seq u2.toArray } : Obj)) (u := .tup rest) hn
    have z := h _ _ (g ws (ms.map (·.2)) zs ++ [V.ref s.heap.objs.size]) (g u1 mv wz ++ [Value.ref s.heap.objs.size]) (env0_laid e0 new) un rfl (fun e s' => hCX outer s H _ _ E e s' un (fun b o q => Heap.get?_push_of_some _ q) rfl) (rg.append (.cons rfl .nil))
      (by rw [List.length_append, List.length_append, lg'] <;> rfl) ⟨_, hn, rfl, rfl⟩
    rw [List.zip_append lg.symm] at z
    exact z
  · subst ex eH
    exact hbody A outer s2 _ _ Q E hr' (hq p hp)
end
/-! ### C(e, .., k = v, ..) of such an __init__, where an error may come out -/
def tMakeRK (C : Addr) (m : Nat) (sp : List V → Sp) (E : L2.St → XK) (t tk : TA) : TE := fun σ H Q => t σ H fun vs H1 => tk σ H1 fun zs H2 => zs.length = m ∧ ∀ x dx, H2 x = none → H2 dx = none → dx ≠ x →
  sp zs (V.ref x :: vs) (upd (upd H2 dx (.own x)) x (.ins C dx [])) (fun v H3 => v = .non ∧ Q (.ref x) H3) (E σ)
section
variable {X : Cx} {CX : CXT} {k : Nat} {f C : Addr} {ks : List Str} {sp : List V → Sp} {E : L2.St → XK} {x : Str} {p pos : Pos} {e : Expr} {es : List Expr} {kws : List Keyword} {t tk : TA}
theorem run_makeRK {pins : List (Addr × Obj)} {σ : L2.St} {H : Hp} {s : Shared} {Q : VK} {us ws : List Value} {vs zs : List V} {E : XK} (M : Mk X.K C f) (F : FnRK X.prog X.w X.K X.mg X.base CX k f ks sp) (hr : Room (k + 1) X.A) (hx : PassesAt CX X σ E)
    (I : Inv X pins σ H s) (r : Vals vs us) (rz : Vals zs ws) (l2 : zs.length = ks.length)
    (h : ∀ x dx, H x = none → H dx = none → dx ≠ x → sp zs (V.ref x :: vs) (upd (upd H dx (.own x)) x (.ins C dx [])) (fun v H2 => v = .non ∧ Q (.ref x) H2) E) :
    wpAny (model X.prog X.w) X.A (call (.ref C) us (ks.zip ws)) (EP X pins σ Q) X.xe s := by
  have hq := h (s.heap.objs.size + 1) s.heap.objs.size (I.hok.fresh (Nat.le_succ _)) (I.hok.fresh (Nat.le_refl _)) (Nat.ne_of_lt (Nat.lt_succ_self _))
  have I2 := Inv.made (C := C) I
  have r1 : Vals (V.ref (s.heap.objs.size + 1) :: vs) (Value.ref (s.heap.objs.size + 1) :: us) := .cons rfl r
  refine wpAny_call (make_map (f := f) I.kIn M.makes M.init (beq_iff_eq.mp M.fn) (codeAny_mono (F _ X.stack _ _ (Value.ref (s.heap.objs.size + 1) :: us) ws _ _ _ E (hr.make C us (ks.zip ws)) (I2.env0.make C us (ks.zip ws)) r1 rz l2 hq) fun r s' hq' => ?_))
  cases r with
  | error e => exact hx pins _ _ e s' I2 hq'
  | ok fl =>
    cases fl with
    | ret u =>
      obtain ⟨v, H', I3, rv, ev, q3⟩ := I2.after hq'
      subst ev
      exact ⟨rv, ⟨V.ref (s.heap.objs.size + 1), H', I3, rfl, q3⟩⟩
    | next => exact False.elim hq'
    | brk => exact False.elim hq'
    | cont => exact False.elim hq'
theorem pe_makeRK0 (M : Mk X.K C f) (F : FnRK X.prog X.w X.K X.mg X.base CX k f ks sp) (hr : Room (k + 1) X.A) (hg : Gl X x) (hm : X.mg x = some (.ref C)) (hx : ∀ σ, PassesAt CX X σ (E σ)) (hkw : PK X kws tk)
    (hall : (backToKw pos (keywordEach kws X.env)).all (·.1.isSome) = true := by rfl) (hks : (backToKw pos (keywordEach kws X.env)).filterMap (·.1) = ks := by rfl) (hdb : (x == ("__debug__" : Str)) = false := by decide)
    (hpl : ((backTo pos (starEach [] X.env)).any (·.1) || (backToKw pos (keywordEach kws X.env)).any (·.1.isNone)) = false := by rfl) :
    PE X (.Call (.Name x p) [] kws pos) (tMakeRK C ks.length sp E tNil tk) := by
  refine ⟨fun pins s σ H Q I h => ?_⟩
  refine wpAny_Call_Name_kw (ld_glob I hg hm ?_ hdb)
  refine PySem.W.callWith_KW0 (h₀ := X.base) I.ok.mod.kin M.kp hall ?_ hpl
  refine thn (hkw.run pos pins s σ H _ I h) fun ws s2 ⟨zs, H2, I2, rz, l2, q2⟩ => ⟨I2.kIn, ?_⟩
  rw [hks]
  exact run_makeRK (us := []) (vs := []) M F hr (hx σ) I2 .nil rz l2 q2
theorem pe_makeRK (M : Mk X.K C f) (F : FnRK X.prog X.w X.K X.mg X.base CX k f ks sp) (hr : Room (k + 1) X.A) (hg : Gl X x) (hm : X.mg x = some (.ref C)) (hx : ∀ σ, PassesAt CX X σ (E σ)) (ha : PA X (e :: es) t) (hkw : PK X kws tk)
    (hall : (backToKw pos (keywordEach kws X.env)).all (·.1.isSome) = true := by rfl) (hks : (backToKw pos (keywordEach kws X.env)).filterMap (·.1) = ks := by rfl) (hdb : (x == ("__debug__" : Str)) = false := by decide)
    (he : starEach (e :: es) X.env = (false, eval e X.env) :: starEach es X.env := by rfl) (hpl : ((backTo pos (starEach (e :: es) X.env)).any (·.1) || (backToKw pos (keywordEach kws X.env)).any (·.1.isNone)) = false := by rfl) :
    PE X (.Call (.Name x p) (e :: es) kws pos) (tMakeRK C ks.length sp E t tk) := by
  refine ⟨fun pins s σ H Q I h => ?_⟩
  refine wpAny_Call_Name_kw (ld_glob I hg hm ?_ hdb)
  refine PySem.W.callWith_KW (h₀ := X.base) I.ok.mod.kin M.kp hall (thn (ha.run pos pins s σ H _ I h) fun us s1 ⟨vs, H1, I1, r, q⟩ => ?_) hpl he
  refine thn (hkw.run pos pins s1 σ H1 _ I1 q) fun ws s2 ⟨zs, H2, I2, rz, l2, q2⟩ => ⟨I2.kIn, ?_⟩
  rw [hks]
  exact run_makeRK M F hr (hx σ) I2 r rz l2 q2
end
end StK
set_option maxRecDepth 100000
namespace Tk
open PySem L2 StK
abbrev sYInit : Stmt := inClass (top 31) 0
abbrev psY : List Str := ["self", "ahead", "window", "crashes"]
theorem bindY0 (D : Addr) (doc pm cdv ct : Value) (an : Option Addr) : ∀ us rest mv ws : List Value, us.length = 1 → mv.length = 3 → ws.length = 0 →
    KwTail D ((["ahead", "window", "crashes"] : List Str).zip mv) (bindArgs (PySem.W.fnOf "__init__" "System.__init__" (defArgs sYInit) (defBody sYInit) (defScope sYInit) .none (.ref D) doc pm an cdv ct) ⟨us ++ rest, ([] : List Str).zip ws⟩) (newTuple rest >>= fun t => pure (psY.zip (us ++ mv) ++ [(("kinds" : Str), t)]))
  | [u], [], [a, b, c], [], _, _, _ => ⟨_, _, _, _, _, _, rfl, rfl, _, _, _, _, _, _, rfl, rfl, _, _, _, _, _, _, rfl, rfl, rfl⟩
  | [u], r :: rs, [a, b, c], [], _, _, _ => ⟨_, _, _, _, _, _, rfl, rfl, _, _, _, _, _, _, rfl, rfl, _, _, _, _, _, _, rfl, rfl, rfl⟩
theorem bindY3 (D : Addr) (doc pm cdv ct : Value) (an : Option Addr) : ∀ us rest mv ws : List Value, us.length = 1 → mv.length = 0 → ws.length = 3 →
    KwTail D (([] : List Str).zip mv) (bindArgs (PySem.W.fnOf "__init__" "System.__init__" (defArgs sYInit) (defBody sYInit) (defScope sYInit) .none (.ref D) doc pm an cdv ct) ⟨us ++ rest, (["ahead", "window", "crashes"] : List Str).zip ws⟩) (newTuple rest >>= fun t => pure (psY.zip (us ++ ws) ++ [(("kinds" : Str), t)]))
  | [u], [], [], [a, b, c], _, _, _ => rfl
  | [u], r :: rs, [], [a, b, c], _, _, _ => rfl
end Tk
set_option maxRecDepth 100000
namespace L2
open PySem
theorem pe_fldF {X : Cx} {e : Expr} {f : Str} {pos : Pos} {ta : TE} {K : PySem.W.Frag} (hk : X.K = K) (he : PE X e ta) (hb : attributeBase e f X.env (eval e X.env) = eval e X.env) : PE X (.Attribute e f pos) (tFld K ta f) := by
  subst hk
  exact pe_fld he hb
/-- len(o) by the class's own __len__, in a comprehension too -/
theorem call_lenOwnF {X : Cx} {CX : CXT} {k : Nat} {C f : Addr} {fd : FuncData} {ps : List Str} {sp : Sp} {E : XK} {K : PySem.W.Frag} (hk : X.K = K) (M : OwnM K C "__len__" f) (F : FnOk X.prog X.w K X.mg X.base CX k f fd ps sp) (hr : Room (k + 1) X.A) (hb : Binds K fd ps []) (hx : Passes CX X E) :
    CallR X (.builtin "len") (fun xs H Q => ∃ a dx fs, xs = [.ref a] ∧ H a = some (.ins C dx fs) ∧ sp [.ref a] H (fun v H' => ∃ i : Int, v = .int i ∧ 0 ≤ i ∧ i < 2 ^ 63 ∧ Q v H') E) := by
  subst hk
  exact call_lenOwn M F hr hb hx
theorem call_isiF {X : Cx} {K : PySem.W.Frag} (e : X.K = K) : CallR X (.builtin "isinstance") (rIsi K) := by
  subst e
  exact call_isi
end L2
namespace Tk
open PySem L2
abbrev sCount : Stmt := top 35
abbrev sAre : Stmt := top 34
abbrev sFaultY : Stmt := top 33
abbrev tys7 : List String := ["NoneType", "bool", "int", "str", "list", "tuple", "dict"]
theorem Kd.mem {H : Hp} {v : V} {T : String} (k : Kd H v T) : T ∈ tys7 := by cases k <;> simp
/-- what a kind is given -/
structure KR where
  n : Str
  S : List Stm
  b : Int
  m : Int
def IsKind (CS CD : Addr) (H : Hp) (v : V) (r : KR) : Prop := ∃ k, v = .ref k ∧ KindAt CS CD H k r.n r.S r.b r.m
inductive KsAt (CS CD : Addr) (H : Hp) : List V → List KR → Prop
  | nil : KsAt CS CD H [] []
  | cons {v : V} {r : KR} {vs : List V} {rs : List KR} (h : IsKind CS CD H v r) (t : KsAt CS CD H vs rs) : KsAt CS CD H (v :: vs) (r :: rs)
section
variable {CS CD : Addr} {H H' : Hp} {vs : List V} {rs : List KR}
theorem KsAt.len (h : KsAt CS CD H vs rs) : vs.length = rs.length := by
  induction h with
  | nil => rfl
  | cons _ _ ih => rw [List.length_cons, List.length_cons, ih]
theorem IsKind.keep {v : V} {r : KR} (s : Same H H') (h : IsKind CS CD H v r) : IsKind CS CD H' v r := by
  obtain ⟨k, e, h⟩ := h
  exact ⟨k, e, h.keep s⟩
theorem KsAt.keep (s : Same H H') (h : KsAt CS CD H vs rs) : KsAt CS CD H' vs rs := by
  induction h with
  | nil => exact .nil
  | cons h _ ih => exact .cons (h.keep s) ih
theorem KsAt.at {v : V} : ∀ {vs : List V} {rs : List KR} {i : Nat}, KsAt CS CD H vs rs → vs[i]? = some v → ∃ r, rs[i]? = some r ∧ IsKind CS CD H v r
  | _, _, 0, .cons h _, q => ⟨_, rfl, Option.some.inj q ▸ h⟩
  | _, _, i + 1, .cons _ t, q => KsAt.at (i := i) t q
end
def sumM (rs : List KR) : Int := (rs.map KR.m).sum
def spCnt (CS CD : Addr) : Sp := fun vs H Q _ => ∃ (t : Addr) (ks : List V) (rs : List KR), vs = [.ref t] ∧ H t = some (.tup ks) ∧ KsAt CS CD H ks rs ∧ rs.length ≤ 10 ∧ ∀ H', Same H H' → Q (.int (sumM rs)) H'
/-- what the top has made of systems -/
structure TxY (K : PySem.W.Frag) (mg : Str → Option Value) (CD : Addr) : Prop where
  sum : mg "sum" = none
  set : mg "set" = none
  mL : ∃ t, mg "LONGEST_OF_MANY" = some (.int 4 t)
  mA : ∃ t, mg "MOST_AHEAD" = some (.int 4 t)
  mW : ∃ t, mg "MOST_WINDOW" = some (.int 8 t)
  mC : ∃ t, mg "MOST_CRASHES" = some (.int 2 t)
  noD : ∀ T ∈ tys7, PySem.W.kitOne K (.type T) (.ref CD) = some false
section
variable {P : Program} {w : World} {K : PySem.W.Frag} {mg : Str → Option Value} {base : Heap} {CS CK CD it : Addr}
theorem scCn : FnScope ["kinds", "kind"] ["kinds"] (defScope sCount) := ⟨rfl, rfl, rfl, by decide +kernel, rfl, by decide +kernel, by decide +kernel⟩
theorem small10 {n : Nat} (h : n ≤ 10) : n < sizeLine := small1000 (by omega)
theorem tail1 {α : Type} {g : α → V} {φ : KR → α} {rs : List KR} {i : Nat} {r : KR} (er : rs[i]? = some r) (few : rs.length ≤ 10) {H1 H2 H3 : Hp} {D : Addr} (hD : H1 D = none) (h2 : H2 D = some (.lst (((rs.take i).map φ).map g))) (s2 : Same H1 H2) (s3 : Same H2 H3) :
    ∃ acc, H3 D = some (.lst acc) ∧ acc.length < sizeLine ∧ (L2.upd H3 D (.lst (acc ++ [g (φ r)]))) D = some (.lst (((rs.take (i + 1)).map φ).map g)) ∧ Same H1 (L2.upd H3 D (.lst (acc ++ [g (φ r)]))) ∧ i + 1 ≤ rs.length := by
  refine ⟨_, s3 _ _ h2, small10 ?_, ?_, fun b o e => ?_, (List.getElem?_eq_some_iff.mp er).1⟩
  · rw [List.length_map, List.length_map, List.length_take]; omega
  · rw [upd_same, List.take_add_one, er]; simp
  · rw [upd_ne (ne_of_none e hD)]; exact s3 _ _ (s2 _ _ e)
theorem ok_count {f : Addr} {fd : FuncData} (F : Fun K "count_of_sessions" "count_of_sessions" sCount f fd) (U : TxK K mg CS CD) (Y : TxY K mg CD) : FnOk P w K mg base CX0 1 f fd ["kinds"] (spCnt CS CD) := by
  refine F.ok scCn (fun vs H Q E h => ?_) (fun cdv A outer s H vs Q E hr h => ?_)
  · obtain ⟨t, ks, rs, rfl, _⟩ := h
    rfl
  obtain ⟨t, ks, rs, rfl, ht, hR, few, q⟩ := h
  refine ⟨_, pss_one (ps_ret (pe_callB (cr_sum rfl) (by rfl) Y.sum (by decide +kernel) (pa_cons
    (pe_lc (own := [("kind", 1)]) (g := gName 1) (tt := tYes) rfl scCn.nd (pi_tup (pv 0)) (blkOk_by (own := [("kind", 1)]) (N := ["kinds", "kind"]) (sc := defScope sCount) (by decide +kernel))
      (fun _ _ _ _ _ => pg_name (i := 1) scCn.nd rfl (Or.inl rfl)) (fun _ _ _ _ _ => pts_nil) (fun _ _ _ _ _ => pe_fldF (K := K) rfl (pv 1) rfl)) pa_nil))), ?_⟩
  refine ⟨_, rfl, t, rfl, ⟨_, SqT.of ht⟩, fun D hD => ?_⟩
  refine lc_tup (K := K) (a := t) (xs := ks) (fun i H2 => H2 D = some (.lst (((rs.take i).map KR.m).map V.int)) ∧ Same H H2 ∧ i ≤ rs.length) ⟨upd_same, same_new hD _, Nat.zero_le _⟩ (fun i H2 _ z => SqT.of (z.2.1 _ _ ht)) ?_ ?_
  · rintro i v H2 hv ⟨h2, s2, _⟩
    obtain ⟨r, er, k, rfl, dx, x, tt, hk, hx⟩ := hR.at hv
    have hk2 := s2 _ _ hk
    have hx2 := hx.keep s2
    refine ⟨rfl, ?_⟩
    unfold tYes
    dsimp only
    rw [if_pos rfl]
    exact ⟨_, rfl, k, CD, dx, _, _, rfl, hk2, U.isD.cl, U.nM, fldD_m _ _ _ _, tail1 er few hD h2 s2 (Same.refl _)⟩
  rintro H2 ⟨h2, s2, _⟩
  rw [hR.len, List.take_length] at h2
  exact ⟨D, _, rfl, SqL.of h2, q H2 s2⟩
/-- whether kinds are such as a system can have -/
def dupB (rs : List KR) : Bool := decide (LenS.many (rs.map KR.n) rs.length < rs.length)
def areB (rs : List KR) : Bool := !rs.isEmpty && !dupB rs && decide (sumM rs ≤ 3)
/-- a kind, or what is none -/
def OrKind (CS CD : Addr) (H : Hp) (v : V) : Option KR → Prop
  | some r => IsKind CS CD H v r
  | none => ∃ T, Kd H v T
inductive OsAt (CS CD : Addr) (H : Hp) : List V → List (Option KR) → Prop
  | nil : OsAt CS CD H [] []
  | cons {v : V} {r : Option KR} {vs : List V} {rs : List (Option KR)} (h : OrKind CS CD H v r) (t : OsAt CS CD H vs rs) : OsAt CS CD H (v :: vs) (r :: rs)
theorem OrKind.keep {H H' : Hp} {v : V} (s : Same H H') : ∀ {r : Option KR}, OrKind CS CD H v r → OrKind CS CD H' v r
  | some _, h => IsKind.keep s h
  | none, ⟨T, h⟩ => ⟨T, h.keep s⟩
theorem OsAt.keep {H H' : Hp} {vs : List V} {rs : List (Option KR)} (s : Same H H') (h : OsAt CS CD H vs rs) : OsAt CS CD H' vs rs := by
  induction h with
  | nil => exact .nil
  | cons h _ ih => exact .cons (h.keep s) ih
theorem OsAt.len {H : Hp} {vs : List V} {rs : List (Option KR)} (h : OsAt CS CD H vs rs) : vs.length = rs.length := by
  induction h with
  | nil => rfl
  | cons _ _ ih => rw [List.length_cons, List.length_cons, ih]
theorem OsAt.at {H : Hp} {v : V} : ∀ {vs : List V} {rs : List (Option KR)} {i : Nat}, OsAt CS CD H vs rs → vs[i]? = some v → ∃ r, rs[i]? = some r ∧ OrKind CS CD H v r
  | _, _, 0, .cons h _, q => ⟨_, rfl, Option.some.inj q ▸ h⟩
  | _, _, i + 1, .cons _ t, q => OsAt.at (i := i) t q
theorem OsAt.all {H : Hp} : ∀ {vs : List V} {os : List (Option KR)}, OsAt CS CD H vs os → os.all Option.isSome = true → ∃ rs, os = rs.map some ∧ KsAt CS CD H vs rs
  | _, _, .nil, _ => ⟨[], rfl, .nil⟩
  | _, _, .cons (r := some r) h t, e => by
    obtain ⟨rs, rfl, k⟩ := t.all (by simpa using e)
    exact ⟨r :: rs, rfl, .cons h k⟩
theorem OsAt.of {H : Hp} {vs : List V} {rs : List KR} (h : KsAt CS CD H vs rs) : OsAt CS CD H vs (rs.map some) := by
  induction h with
  | nil => exact .nil
  | cons h _ ih => exact .cons h ih
def aresB (os : List (Option KR)) : Bool := os.all Option.isSome && areB (os.filterMap id)
theorem aresB_some (rs : List KR) : aresB (rs.map some) = areB rs := by
  have e : (rs.map some).filterMap id = rs := by simp
  unfold aresB
  rw [e]
  simp
def spAre (CS CD : Addr) : Sp := fun vs H Q _ => ∃ (t : Addr) (ks : List V) (os : List (Option KR)), vs = [.ref t] ∧ H t = some (.tup ks) ∧ OsAt CS CD H ks os ∧ os.length ≤ 10 ∧ ∀ H', Same H H' → Q (.bl (aresB os)) H'
theorem scAr : FnScope ["kinds", "kind"] ["kinds"] (defScope sAre) := ⟨rfl, rfl, rfl, by decide +kernel, rfl, by decide +kernel, by decide +kernel⟩
theorem ok_are {f fC : Addr} {fd fdC : FuncData} (F : Fun K "are_kinds" "are_kinds" sAre f fd) (B : Bl mg) (T : Txt K w mg CS CK it) (U : TxK K mg CS CD) (Y : TxY K mg CD) (GC : FnOk P w K mg base CX0 1 fC fdC ["kinds"] (spCnt CS CD)) (bC : Binds K fdC ["kinds"] []) (kC : PySem.W.keepIn K (.ref fC) = true) (mC : mg "count_of_sessions" = some (.ref fC)) :
    FnOk P w K mg base CX0 2 f fd ["kinds"] (spAre CS CD) := by
  refine F.ok scAr (fun vs H Q E h => ?_) (fun cdv A outer s H vs Q E hr h => ?_)
  · obtain ⟨t, ks, rs, rfl, _⟩ := h
    rfl
  obtain ⟨t, ks, os, rfl, ht, hO, few, q⟩ := h
  obtain ⟨tM, gM⟩ := U.mM
  refine ⟨_, pss_cons (ps_if (PW.pt (pw_or (pt_not (pt_truth (pv 0) (by intro _; rfl))) (pw_or1 (pt_not (pt_val (pe_callB (cr_all rfl) (by rfl) T.all (by decide +kernel) (pa_cons
      (pe_lc (own := [("kind", 1)]) (g := gName 1) (tt := tYes) rfl scAr.nd (pi_tup (pv 0)) (blkOk_by (own := [("kind", 1)]) (N := ["kinds", "kind"]) (sc := defScope sAre) (by decide +kernel))
        (fun _ _ _ _ _ => pg_name (i := 1) scAr.nd rfl (Or.inl rfl)) (fun _ _ _ _ _ => pts_nil) (fun _ _ _ _ _ => pe_callB (call_isiF (K := K) rfl) (by rfl) T.isi (by decide +kernel) (pa_cons (pv 1) (pa_cons (pe_glob (v := .ref CD) (by rfl) U.mgD rfl) pa_nil)))) pa_nil))))))) (pss_one (ps_ret pe_bl)) pss_nil)
    (pss_cons (ps_if (pt_cmpR op_lt (pe_lenS (by rfl) B.len (by rfl) Y.set
      (pe_lc (own := [("kind", 1)]) (g := gName 1) (tt := tYes) rfl scAr.nd (pi_tup (pv 0)) (blkOk_by (own := [("kind", 1)]) (N := ["kinds", "kind"]) (sc := defScope sAre) (by decide +kernel))
        (fun _ _ _ _ _ => pg_name (i := 1) scAr.nd rfl (Or.inl rfl)) (fun _ _ _ _ _ => pts_nil) (fun _ _ _ _ _ => pe_fldF (K := K) rfl (pv 1) rfl))) (pe_callB call_len_seq (by rfl) B.len PySem.boot_len (pa_cons (pv 0) pa_nil)) (nomark _)) (pss_one (ps_ret pe_bl)) pss_nil)
    (pss_one (ps_ret (pe_cmpR op_le (pe_call GC hr rfl mC kC bC .nil pass0 (pa_cons (pv 0) pa_nil)) (pe_glob (v := .int 3) (by rfl) gM ⟨_, rfl⟩) (nomark _))))), ?_⟩
  refine ⟨_, rfl, !ks.isEmpty, .inr (.inl ⟨_, SqT.of ht, rfl⟩), ?_⟩
  have lo := hO.len
  cases ec : ks.isEmpty with
  | true =>
    have e0 : os = [] := List.eq_nil_of_length_eq_zero (by rw [← lo, List.isEmpty_iff.mp ec]; rfl)
    have z := q H (Same.refl H)
    rw [e0] at z
    exact iteT (iteT z)
  | false =>
  refine iteF ?_
  refine ⟨_, rfl, t, rfl, ⟨_, SqT.of ht⟩, fun D hD => ?_⟩
  refine lc_tup (K := K) (a := t) (xs := ks) (fun i H2 => H2 D = some (.lst (((os.take i).map Option.isSome).map V.bl)) ∧ Same H H2 ∧ i ≤ os.length) ⟨upd_same, same_new hD _, Nat.zero_le _⟩ (fun i H2 _ z => SqT.of (z.2.1 _ _ ht)) ?_ ?_
  · rintro i v H2 hv ⟨h2, s2, _⟩
    obtain ⟨o, eo, hk⟩ := hO.at hv
    have hk2 := OrKind.keep s2 hk
    have lt := (List.getElem?_eq_some_iff.mp eo).1
    refine ⟨rfl, ?_⟩
    unfold tYes
    dsimp only
    rw [if_pos rfl]
    have fin : ∃ acc, H2 D = some (.lst acc) ∧ acc.length < sizeLine ∧ (L2.upd H2 D (.lst (acc ++ [.bl o.isSome]))) D = some (.lst (((os.take (i + 1)).map Option.isSome).map V.bl)) ∧ Same H (L2.upd H2 D (.lst (acc ++ [.bl o.isSome]))) ∧ i + 1 ≤ os.length := by
      refine ⟨_, h2, small10 ?_, ?_, fun b o e => ?_, lt⟩
      · rw [List.length_map, List.length_map, List.length_take]; omega
      · rw [upd_same, List.take_add_one, eo]; simp
      · rw [upd_ne (ne_of_none e hD)]; exact s2 _ _ e
    match o, hk2, fin with
    | some r, ⟨k, ev, dx, x, tt, hk, hx⟩, fin => exact ⟨_, rfl, v, _, _, _, true, rfl, .own CD, ev ▸ .base (.ins hk U.isD.cl U.isD.ha U.isD.hn U.isD.htk U.isD.hm), U.isD.me, fin⟩
    | none, ⟨T', kd⟩, fin => exact ⟨_, rfl, v, _, _, _, false, rfl, .own CD, kd.ty, Y.noD _ kd.mem, fin⟩
  rintro H2 ⟨h2, s2, _⟩
  rw [lo, List.take_length] at h2
  have ea : (os.map Option.isSome).all id = os.all Option.isSome := by rw [List.all_map]; rfl
  refine ⟨D, _, rfl, SqL.of h2, ?_⟩
  rw [ea]
  cases eg : os.all Option.isSome with
  | false =>
    have z := q H2 s2
    unfold aresB at z
    rw [eg] at z
    exact ⟨_, rfl, iteT z⟩
  | true =>
  refine ⟨_, rfl, iteF ?_⟩
  obtain ⟨rs, rfl, hR⟩ := hO.all eg
  rw [aresB_some] at q
  rw [List.length_map] at few lo
  have ht2 := s2 _ _ ht
  have hR2 := hR.keep s2
  refine ⟨_, rfl, t, rfl, ⟨_, SqT.of ht2⟩, fun D2 hD2 => ?_⟩
  refine lc_tup (K := K) (a := t) (xs := ks) (fun i H3 => H3 D2 = some (.lst (((rs.take i).map KR.n).map V.str)) ∧ Same H2 H3 ∧ i ≤ rs.length) ⟨upd_same, same_new hD2 _, Nat.zero_le _⟩ (fun i H3 _ z => SqT.of (z.2.1 _ _ ht2)) ?_ ?_
  · rintro i v H3 hv ⟨h3, s3, _⟩
    obtain ⟨r, er, k, rfl, dx, x, tt, hk, hx⟩ := hR2.at hv
    refine ⟨rfl, ?_⟩
    unfold tYes
    dsimp only
    rw [if_pos rfl]
    exact ⟨_, rfl, k, CD, dx, _, _, rfl, s3 _ _ hk, U.isD.cl, U.nN, fldD_n _ _ _ _, tail1 er few hD2 h3 s3 (Same.refl _)⟩
  rintro H3 ⟨h3, s3, _⟩
  rw [hR.len, List.take_length] at h3
  refine ⟨D2, rs.map KR.n, rfl, SqL.of h3, by rw [List.length_map]; omega, _, rfl, t, _, rfl, .inr (SqT.of (s3 _ _ ht2)), _, _, rfl, rfl, _, rfl, ?_⟩
  have ed : decide (((LenS.many (rs.map KR.n) (rs.map KR.n).length : Nat) : Int) < ((ks.length : Nat) : Int)) = dupB rs := by
    unfold dupB
    rw [List.length_map, hR.len]
    exact decide_eq_decide.mpr Int.ofNat_lt
  rw [ed]
  have er : rs.isEmpty = false := by
    cases rs with
    | nil => rw [List.length_eq_zero_iff.mp hR.len] at ec; cases ec
    | cons _ _ => rfl
  have s03 := s2.trans s3
  cases e5 : dupB rs with
  | true =>
    have z := q H3 s03
    unfold areB at z
    rw [e5, er] at z
    exact iteT z
  | false =>
  refine iteF ⟨_, rfl, t, ks, rs, rfl, s03 _ _ ht, hR.keep s03, few, fun H4 s4 => ?_⟩
  have z := q H4 (s03.trans s4)
  unfold areB at z
  rw [e5, er] at z
  exact ⟨_, _, rfl, rfl, z⟩
/-- the greatest of a field of kinds -/
def IsMax (ns : List Int) (m : Int) : Prop := m ∈ ns ∧ ∀ y ∈ ns, y ≤ m
def maxI : List Int → Int
  | [] => 0
  | [x] => x
  | x :: y :: r => max x (maxI (y :: r))
theorem maxI_is : ∀ {ns : List Int}, ns ≠ [] → IsMax ns (maxI ns)
  | [], h => absurd rfl h
  | [x], _ => ⟨by simp [maxI], fun y hy => by rw [List.mem_singleton.mp hy]; exact Int.le_refl _⟩
  | x :: y :: r, _ => by
    obtain ⟨h1, h2⟩ := maxI_is (ns := y :: r) (by simp)
    refine ⟨?_, fun z hz => ?_⟩
    · show max x (maxI (y :: r)) ∈ _
      rcases Int.le_total x (maxI (y :: r)) with h | h
      · rw [Int.max_eq_right h]; exact List.mem_cons_of_mem _ h1
      · rw [Int.max_eq_left h]; simp
    · show z ≤ max x (maxI (y :: r))
      rcases List.mem_cons.mp hz with rfl | hz
      · exact Int.le_max_left _ _
      · exact Int.le_trans (h2 z hz) (Int.le_max_right _ _)
theorem max_uniq {ns : List Int} {m : Int} (h : m ∈ ns) (g : ∀ y ∈ ns, y ≤ m) : m = maxI ns := by
  obtain ⟨h1, h2⟩ := maxI_is (ns := ns) (by intro z; rw [z] at h; cases h)
  exact Int.le_antisymm (h2 _ h) (g _ h1)
def maxB (rs : List KR) : Int := maxI (rs.map KR.b)
def maxS (rs : List KR) : Int := maxI (rs.map fun r => ((cntAll r.S : Nat) : Int))
/-- a value that is a whole number within -/
def inB (v : V) (lo hi : Int) : Bool := match v with | .int i => decide (lo ≤ i) && decide (i ≤ hi) | _ => false
theorem inB_no {v : V} {lo hi : Int} (h : intB v = false) : inB v lo hi = false := by
  cases v with
  | int i => cases h
  | _ => rfl
theorem intB_int {v : V} (h : intB v = true) : ∃ i, v = .int i := by
  cases v with
  | int i => exact ⟨i, rfl⟩
  | _ => cases h
def isNon : V → Bool | .non => true | _ => false
/-- the first reason to refuse a system -/
def yWhy (os : List (Option KR)) (va vw vc : V) : Option Str :=
  if aresB os = false then some "kinds" else
  let rs := os.filterMap id
  if sumM rs = 3 ∧ 4 < maxS rs then some "size" else
  if inB va 0 4 = false then some "ahead" else
  if isNon vw = false ∧ inB vw (maxB rs) 8 = false then some "window" else
  if inB vc 0 2 = false then some "crashes" else none
def optV : Option Str → V | none => .non | some z => .str z
/-- the values of a system, of any kind -/
def AnyV (H : Hp) (v : V) : Prop := ∃ T, Kd H v T
def spFaultY (CS CD : Addr) : Sp := fun vs H Q _ => ∃ (t : Addr) (ks : List V) (os : List (Option KR)) (va vw vc : V), vs = [.ref t, va, vw, vc] ∧ H t = some (.tup ks) ∧ OsAt CS CD H ks os ∧ os.length ≤ 10 ∧ AnyV H va ∧ AnyV H vw ∧ AnyV H vc ∧ ∀ H', Same H H' → Q (optV (yWhy os va vw vc)) H'
abbrev nsF : List Str := ["kinds", "ahead", "window", "crashes", "full", "greatest_block", "kind"]
theorem scFY : FnScope nsF ["kinds", "ahead", "window", "crashes"] (defScope sFaultY) := ⟨rfl, rfl, rfl, by decide +kernel, rfl, by decide +kernel, by decide +kernel⟩
theorem ok_faultY {f fC fA fW fL : Addr} {fd fdC fdA fdW fdL : FuncData} (F : Fun K "fault_of_system" "fault_of_system" sFaultY f fd) (B : Bl mg) (T : Txt K w mg CS CK it) (U : TxK K mg CS CD) (Y : TxY K mg CD)
    (GC : FnOk P w K mg base CX0 1 fC fdC ["kinds"] (spCnt CS CD)) (bC : Binds K fdC ["kinds"] []) (kC : PySem.W.keepIn K (.ref fC) = true) (mC : mg "count_of_sessions" = some (.ref fC))
    (GA : FnOk P w K mg base CX0 2 fA fdA ["kinds"] (spAre CS CD)) (bA : Binds K fdA ["kinds"] []) (kA : PySem.W.keepIn K (.ref fA) = true) (mA : mg "are_kinds" = some (.ref fA))
    (GW : FnOk P w K mg base CX0 2 fW fdW ["value", "low", "high"] (spWithin K)) (bW : Binds K fdW ["value", "low", "high"] []) (kW : PySem.W.keepIn K (.ref fW) = true) (mW : mg "is_within" = some (.ref fW))
    (mL : OwnM K CS "__len__" fL) (GL : FnOk P w K mg base CX0 1 fL fdL ["self"] (spSLen CS)) (bL : Binds K fdL ["self"] []) :
    FnOk P w K mg base CX0 3 f fd ["kinds", "ahead", "window", "crashes"] (spFaultY CS CD) := by
  refine F.ok scFY (fun vs H Q E h => ?_) (fun cdv A outer s H vs Q E hr h => ?_)
  · obtain ⟨t, ks, os, va, vw, vc, rfl, _⟩ := h
    rfl
  obtain ⟨t, ks, os, va, vw, vc, rfl, ht, hO, few, ⟨Ta, ka⟩, ⟨Tw, kw⟩, ⟨Tc, kc⟩, q⟩ := h
  obtain ⟨tM, gM⟩ := U.mM
  obtain ⟨tL, gL⟩ := Y.mL
  obtain ⟨tA, gA⟩ := Y.mA
  obtain ⟨tW, gW⟩ := Y.mW
  obtain ⟨tC, gC⟩ := Y.mC
  have hr1 : Room 1 _ := hr.mono (by decide)
  refine ⟨_, pss_cons (ps_if (pt_not (pt_val (pe_call GA hr rfl mA kA bA .nil pass0 (pa_cons (pv 0) pa_nil)))) (pss_one (ps_ret pe_str)) pss_nil)
    (pss_cons (ps_set (i := 4) scFY.nd rfl (Or.inl rfl) (pe_cmpR op_eq (pe_call GC hr1 rfl mC kC bC .nil pass0 (pa_cons (pv 0) pa_nil)) (pe_glob (v := .int 3) (by rfl) gM ⟨_, rfl⟩) (nomark _)))
    (C8.pss_cut (ps_if (PW.pt (pw_and (pt_val (pv 4)) (pw_and1 (pt_cmpR op_gt (pe_callB (cr_max rfl) (by rfl) B.max (by decide +kernel) (pa_cons
        (pe_lc (own := [("kind", 6)]) (g := gName 6) (tt := tYes) rfl scFY.nd (pi_tup (pv 0)) (blkOk_by (own := [("kind", 6)]) (N := nsF) (sc := defScope sFaultY) (by decide +kernel))
          (fun _ _ _ _ _ => pg_name (i := 6) scFY.nd rfl (Or.inl rfl)) (fun _ _ _ _ _ => pts_nil) (fun _ _ _ _ _ => pe_callB (call_lenOwnF (C := CS) (K := K) rfl mL GL hr bL pass0) (by rfl) B.len PySem.boot_len (pa_cons (pe_fldF (K := K) rfl (pv 6) rfl) pa_nil))) pa_nil)) (pe_glob (v := .int 4) (by rfl) gL ⟨_, rfl⟩) (nomark _))))) (pss_one (ps_ret pe_str)) pss_nil)
    (pss_cons (ps_if (pt_not (pt_val (pe_call GW hr rfl mW kW bW .nil pass0 (pa_cons (pv 1) (pa_cons pe_int (pa_cons (pe_glob (v := .int 4) (by rfl) gA ⟨_, rfl⟩) pa_nil)))))) (pss_one (ps_ret pe_str)) pss_nil)
    (pss_cons (ps_set (i := 5) scFY.nd rfl (Or.inl rfl) (pe_callB (cr_max rfl) (by rfl) B.max (by decide +kernel) (pa_cons
        (pe_lc (own := [("kind", 6)]) (g := gName 6) (tt := tYes) rfl scFY.nd (pi_tup (pv 0)) (blkOk_by (own := [("kind", 6)]) (N := nsF) (sc := defScope sFaultY) (by decide +kernel))
          (fun _ _ _ _ _ => pg_name (i := 6) scFY.nd rfl (Or.inl rfl)) (fun _ _ _ _ _ => pts_nil) (fun _ _ _ _ _ => pe_fldF (K := K) rfl (pv 6) rfl)) pa_nil)))
    (C8.pss_cut (ps_if (PW.pt (pw_and (pt_cmpR op_notN (pv 2) pe_non (nomark _)) (pw_and1 (pt_not (pt_val (pe_call GW hr rfl mW kW bW .nil pass0 (pa_cons (pv 2) (pa_cons (pv 5) (pa_cons (pe_glob (v := .int 8) (by rfl) gW ⟨_, rfl⟩) pa_nil))))))))) (pss_one (ps_ret pe_str)) pss_nil)
    (pss_cons (ps_if (pt_not (pt_val (pe_call GW hr rfl mW kW bW .nil pass0 (pa_cons (pv 3) (pa_cons pe_int (pa_cons (pe_glob (v := .int 2) (by rfl) gC ⟨_, rfl⟩) pa_nil)))))) (pss_one (ps_ret pe_str)) pss_nil)
    (pss_one (ps_ret pe_non)))))))), ?_⟩
  refine ⟨_, rfl, t, ks, os, rfl, ht, hO, few, fun H1 s1 => ?_⟩
  cases ea : aresB os with
  | false =>
    have z := q H1 s1
    unfold yWhy at z
    rw [if_pos ea] at z
    exact ⟨_, rfl, iteT z⟩
  | true =>
  refine ⟨_, rfl, iteF ?_⟩
  obtain ⟨rs, rfl, hR⟩ : ∃ rs, os = rs.map some ∧ KsAt CS CD H ks rs := hO.all (by unfold aresB at ea; rw [Bool.and_eq_true] at ea; exact ea.1)
  have ef : (rs.map some).filterMap id = rs := by simp
  have ne : rs ≠ [] := by
    rw [aresB_some] at ea
    intro z
    rw [z] at ea
    exact absurd ea (by decide)
  unfold yWhy at q
  rw [if_neg (by rw [ea]; decide), ef] at q
  dsimp only at q
  rw [List.length_map] at few
  have ht1 := s1 _ _ ht
  refine ⟨_, rfl, t, ks, rs, rfl, ht1, hR.keep s1, few, fun H2 s2 => ⟨rfl, ?_⟩⟩
  have s02 := s1.trans s2
  refine ⟨fun σ' H' => σ' = [some (.ref t), some va, some vw, some vc, some (.bl (decide (V.int (sumM rs) = V.int 3))), none, none] ∧ Same H H' ∧ ¬ (sumM rs = 3 ∧ 4 < maxS rs), ?_, ?_⟩
  · refine ⟨_, rfl, _, rfl, ?_⟩
    by_cases c3 : sumM rs = 3
    · refine iteTb (by rw [c3]; rfl) ?_
      have ht2 := s02 _ _ ht
      refine ⟨_, rfl, t, rfl, ⟨_, SqT.of ht2⟩, fun D hD => ?_⟩
      refine lc_tup (K := K) (a := t) (xs := ks) (fun i H3 => H3 D = some (.lst (((rs.take i).map fun r => ((cntAll r.S : Nat) : Int)).map V.int)) ∧ Same H2 H3 ∧ i ≤ rs.length) ⟨upd_same, same_new hD _, Nat.zero_le _⟩ (fun i H3 _ z => SqT.of (z.2.1 _ _ ht2)) ?_ ?_
      · rintro i v H3 hv ⟨h3, s3, _⟩
        obtain ⟨r, er, k, rfl, dx, x, tt, hk, hx⟩ := (hR.keep s02).at hv
        have hx3 := hx.keep s3
        obtain ⟨⟨dx', dd, pl, bs, kvs, xs, g1, _⟩, _⟩ := id hx3
        refine ⟨rfl, ?_⟩
        unfold tYes
        dsimp only
        rw [if_pos rfl]
        have few8 := hx3.few
        exact ⟨_, rfl, k, CD, dx, _, _, rfl, s3 _ _ hk, U.isD.cl, U.nS, fldD_s _ _ _ _, x, dx', _, rfl, g1, x, tt, r.S, rfl, hx3, _, rfl, by omega, by omega, tail1 (g := V.int) (φ := fun r => ((cntAll r.S : Nat) : Int)) er few hD h3 s3 (Same.refl _)⟩
      rintro H3 ⟨h3, s3, _⟩
      rw [hR.len, List.take_length] at h3
      refine ⟨D, _, rfl, SqL.of h3, by rw [List.length_map]; exact List.length_pos_iff.mpr ne, fun m hm1 hm2 => ?_⟩
      have em : m = maxS rs := max_uniq hm1 hm2
      subst em
      refine ⟨_, _, rfl, rfl, _, rfl, ite2 (fun c => ?_) (fun c => ?_)⟩
      · have c4 := of_decide_eq_true c
        rw [if_pos ⟨c3, c4⟩] at q
        exact q H3 (s02.trans s3)
      · exact ⟨rfl, s02.trans s3, fun z => c (decide_eq_true z.2)⟩
    · refine iteFb (decide_eq_false fun z => c3 (by injection z)) ⟨rfl, s02, fun z => c3 z.1⟩
  rintro σ' H3 ⟨rfl, s3, nsz⟩
  rw [if_neg nsz] at q
  have ht3 := s3 _ _ ht
  obtain ⟨b1, b2, k1, k2, eb⟩ := ka.intB
  refine ⟨_, rfl, va, Ta, b1, b2, 0, 4, rfl, (ka.keep s3).ty, k1, k2, fun h => ⟨_, rfl, iteT ?_⟩, fun h => ?_⟩
  · rw [if_pos (inB_no (eb ▸ h))] at q
    exact q H3 s3
  obtain ⟨ia, rfl⟩ := intB_int (eb ▸ h)
  refine ⟨ia, rfl, _, rfl, ?_⟩
  rw [show (decide (0 ≤ ia) && decide (ia ≤ 4)) = inB (.int ia) 0 4 from rfl]
  cases e1 : inB (.int ia) 0 4 with
  | false =>
    rw [if_pos e1] at q
    exact iteT (q H3 s3)
  | true =>
  refine iteF ?_
  rw [if_neg (by rw [e1]; decide)] at q
  refine ⟨_, rfl, t, rfl, ⟨_, SqT.of ht3⟩, fun D hD => ?_⟩
  refine lc_tup (K := K) (a := t) (xs := ks) (fun i H4 => H4 D = some (.lst (((rs.take i).map KR.b).map V.int)) ∧ Same H3 H4 ∧ i ≤ rs.length) ⟨upd_same, same_new hD _, Nat.zero_le _⟩ (fun i H4 _ z => SqT.of (z.2.1 _ _ ht3)) ?_ ?_
  · rintro i v H4 hv ⟨h4, s4, _⟩
    obtain ⟨r, er, k, rfl, dx, x, tt, hk, hx⟩ := (hR.keep s3).at hv
    refine ⟨rfl, ?_⟩
    unfold tYes
    dsimp only
    rw [if_pos rfl]
    exact ⟨_, rfl, k, CD, dx, _, _, rfl, s4 _ _ hk, U.isD.cl, U.nB, fldD_b _ _ _ _, tail1 er few hD h4 s4 (Same.refl _)⟩
  rintro H4 ⟨h4, s4, _⟩
  rw [hR.len, List.take_length] at h4
  refine ⟨D, _, rfl, SqL.of h4, by rw [List.length_map]; exact List.length_pos_iff.mpr ne, fun m hm1 hm2 => ?_⟩
  have em : m = maxB rs := max_uniq hm1 hm2
  subst em
  have s04 := s3.trans s4
  refine ⟨fun σ' H' => σ' = [some (.ref t), some (.int ia), some vw, some vc, some (.bl (decide (V.int (sumM rs) = V.int 3))), some (.int (maxB rs)), none] ∧ Same H H' ∧ ¬ (isNon vw = false ∧ inB vw (maxB rs) 8 = false), ?_, ?_⟩
  · refine ⟨_, rfl, rfl, _, rfl, ?_⟩
    have en : (!decide (vw = V.non)) = !isNon vw := by cases vw <;> rfl
    rw [en]
    cases e2 : isNon vw with
    | true => exact iteF ⟨rfl, s04, fun z => absurd z.1 (by decide)⟩
    | false =>
      obtain ⟨b1, b2, k1, k2, eb⟩ := kw.intB
      refine iteT ⟨_, rfl, _, rfl, vw, Tw, b1, b2, maxB rs, 8, rfl, (kw.keep s04).ty, k1, k2, fun h => ⟨_, rfl, iteT ?_⟩, fun h => ?_⟩
      · rw [if_pos ⟨e2, inB_no (eb ▸ h)⟩] at q
        exact q H4 s04
      obtain ⟨i, rfl⟩ := intB_int (eb ▸ h)
      refine ⟨i, rfl, _, rfl, ?_⟩
      rw [show (decide (maxB rs ≤ i) && decide (i ≤ 8)) = inB (.int i) (maxB rs) 8 from rfl]
      cases e3 : inB (.int i) (maxB rs) 8 with
      | false =>
        rw [if_pos ⟨e2, e3⟩] at q
        exact iteT (q H4 s04)
      | true => exact iteF ⟨rfl, s04, fun z => absurd z.2 (by decide)⟩
  rintro σ' H5 ⟨rfl, s5, nw⟩
  rw [if_neg nw] at q
  obtain ⟨b1, b2, k1, k2, eb⟩ := kc.intB
  refine ⟨_, rfl, vc, Tc, b1, b2, 0, 2, rfl, (kc.keep s5).ty, k1, k2, fun h => ⟨_, rfl, iteT ?_⟩, fun h => ?_⟩
  · rw [if_pos (inB_no (eb ▸ h))] at q
    exact q H5 s5
  obtain ⟨i, rfl⟩ := intB_int (eb ▸ h)
  refine ⟨i, rfl, _, rfl, ?_⟩
  rw [show (decide (0 ≤ i) && decide (i ≤ 2)) = inB (.int i) 0 2 from rfl]
  cases e1 : inB (.int i) 0 2 with
  | false =>
    rw [if_pos e1] at q
    exact iteT (q H5 s5)
  | true =>
    rw [if_neg (by rw [e1]; decide)] at q
    exact iteF (q H5 s5)
end
end Tk
set_option maxRecDepth 100000
namespace Tk
open PySem L2 StK
abbrev sBYInit : Stmt := inClass (top 6) 0
theorem y1 : ¬ (("kinds" : Str) = "ahead") := by decide +kernel
theorem y2 : ¬ (("kinds" : Str) = "window") := by decide +kernel
theorem y3 : ¬ (("kinds" : Str) = "crashes") := by decide +kernel
theorem y4 : ¬ (("kinds" : Str) = "sessions") := by decide +kernel
theorem y5 : ¬ (("ahead" : Str) = "window") := by decide +kernel
theorem y6 : ¬ (("ahead" : Str) = "crashes") := by decide +kernel
theorem y7 : ¬ (("ahead" : Str) = "sessions") := by decide +kernel
theorem y8 : ¬ (("window" : Str) = "crashes") := by decide +kernel
theorem y9 : ¬ (("window" : Str) = "sessions") := by decide +kernel
theorem y10 : ¬ (("crashes" : Str) = "sessions") := by decide +kernel
def fldY (t : Addr) (a w c : V) (l : Addr) : List (Str × V) := [("kinds", .ref t), ("ahead", a), ("window", w), ("crashes", c), ("sessions", .ref l)]
theorem fldY_put (t : Addr) (a w c : V) (l : Addr) : putF "sessions" (.ref l) (putF "crashes" c (putF "window" w (putF "ahead" a (putF "kinds" (.ref t) [])))) = fldY t a w c l := by
  simp only [putF, if_neg y1, if_neg y2, if_neg y3, if_neg y4, if_neg y5, if_neg y6, if_neg y7, if_neg y8, if_neg y9, if_neg y10]
  rfl
section
variable (t : Addr) (a w c : V) (l : Addr)
theorem fldY_k : (fldY t a w c l).lookup ("kinds" : Str) = some (.ref t) := by
  rw [← fldY_put, lookup_putF, if_neg (by decide +kernel), lookup_putF, if_neg (by decide +kernel), lookup_putF, if_neg (by decide +kernel), lookup_putF, if_neg (by decide +kernel), lookup_putF, if_pos rfl]
theorem fldY_a : (fldY t a w c l).lookup ("ahead" : Str) = some a := by
  rw [← fldY_put, lookup_putF, if_neg (by decide +kernel), lookup_putF, if_neg (by decide +kernel), lookup_putF, if_neg (by decide +kernel), lookup_putF, if_pos rfl]
theorem fldY_w : (fldY t a w c l).lookup ("window" : Str) = some w := by
  rw [← fldY_put, lookup_putF, if_neg (by decide +kernel), lookup_putF, if_neg (by decide +kernel), lookup_putF, if_pos rfl]
theorem fldY_c : (fldY t a w c l).lookup ("crashes" : Str) = some c := by
  rw [← fldY_put, lookup_putF, if_neg (by decide +kernel), lookup_putF, if_pos rfl]
theorem fldY_l : (fldY t a w c l).lookup ("sessions" : Str) = some (.ref l) := by
  rw [← fldY_put, lookup_putF, if_pos rfl]
end
/-- the names of the sessions -/
def sess (rs : List KR) : List Str := (rs.map fun r => List.replicate r.m.toNat r.n).flatten
theorem sess_le {rs : List KR} (h : ∀ r ∈ rs, 1 ≤ r.m ∧ r.m ≤ 3) : (sess rs).length ≤ 3 * rs.length := by
  induction rs with
  | nil => exact Nat.le_refl _
  | cons r rs ih =>
    have h1 := h r List.mem_cons_self
    have h2 := ih fun x hx => h x (List.mem_cons_of_mem _ hx)
    show ((List.replicate r.m.toNat r.n) ++ sess rs).length ≤ _
    rw [List.length_append, List.length_replicate, List.length_cons]
    omega
theorem sess_snoc (rs : List KR) (r : KR) : sess (rs ++ [r]) = sess rs ++ List.replicate r.m.toNat r.n := by
  unfold sess
  rw [List.map_append, List.flatten_append]
  simp
structure FY (K : PySem.W.Frag) (CY : Addr) : Prop where
  isY : C8.InsC K CY
  nK : NoAttr K CY "kinds"
  nA : NoAttr K CY "ahead"
  nW : NoAttr K CY "window"
  nC : NoAttr K CY "crashes"
  nL : NoAttr K CY "sessions"
def spYInit (CS CD CY CBY : Addr) : Sp := fun vs H Q E => ∃ (y dx t : Addr) (ks : List V) (os : List (Option KR)) (va vw vc : V), vs = [.ref y, va, vw, vc, .ref t] ∧ H y = some (.ins CY dx []) ∧ H t = some (.tup ks) ∧ OsAt CS CD H ks os ∧ os.length ≤ 10 ∧ (∀ r, some r ∈ os → 1 ≤ r.m ∧ r.m ≤ 3) ∧
  AnyV H va ∧ AnyV H vw ∧ AnyV H vc ∧
  (∀ z, yWhy os va vw vc = some z → ∀ (d : Addr) (H' : Hp), Same H H' → H d = none → H' d = some (.xd [("why", .str z)]) → E (.ref CBY) (some d) H') ∧
  (∀ rs, yWhy os va vw vc = none → os = rs.map some → ∀ (l : Addr) (H' : Hp), H' y = some (.ins CY dx (fldY t va vw vc l)) → H' l = some (.tup ((sess rs).map V.str)) → Kp y H H' → Q .non H')
abbrev nsY : List Str := ["self", "ahead", "window", "crashes", "kinds", "why", "kind", "index"]
section
variable {P : Program} {w : World} {K : PySem.W.Frag} {mg : Str → Option Value} {base : Heap} {CS CK CD CY CBY it : Addr}
theorem scBY : FnScope ["self", "why"] ["self", "why"] (defScope sBYInit) := ⟨rfl, rfl, rfl, by decide +kernel, rfl, by decide +kernel, by decide +kernel⟩
theorem ok_byi {f : Addr} {fd : FuncData} (F : Fun K "__init__" "BadSystem.__init__" sBYInit f fd) (T : Ecl K mg "BadSystem" "why" CBY f) : FnOk P w K mg base CX0 1 f fd ["self", "why"] (spEI CBY "why") := by
  refine F.ok scBY (fun vs H Q E h => ?_) (fun cdv A outer s H vs Q E hr h => ?_)
  · obtain ⟨a, v, rfl, _⟩ := h
    rfl
  obtain ⟨a, v, rfl, ha, q⟩ := h
  refine ⟨_, pss_one (ps_ost (pv 0) (pv 1) rfl), ?_⟩
  exact ⟨_, rfl, _, rfl, a, CBY, rfl, T.ox, T.noF, .inl ⟨ha, fun dx h1 h2 => q dx h1 h2⟩⟩
theorem scYI : FnScope nsY (psY ++ [("kinds" : Str)]) (defScope sYInit) := ⟨rfl, rfl, rfl, by decide +kernel, rfl, by decide +kernel, by decide +kernel⟩
theorem body_yinit {fF fX f : Addr} {fdF fdX : FuncData} (U : TxK K mg CS CD) (Y : TxY K mg CD) (G : FY K CY) (B : Bl mg) (TB : Ecl K mg "BadSystem" "why" CBY fX)
    (GX : FnOk P w K mg base CX0 1 fX fdX ["self", "why"] (spEI CBY "why")) (bX : Binds K fdX ["self", "why"] [])
    (GF : FnOk P w K mg base CX0 3 fF fdF ["kinds", "ahead", "window", "crashes"] (spFaultY CS CD)) (bF : Binds K fdF ["kinds", "ahead", "window", "crashes"] []) (kF : PySem.W.keepIn K (.ref fF) = true) (mF : mg "fault_of_system" = some (.ref fF))
    (A : Around) (outer : List Env) (s : Shared) (H : Hp) (vs : List V) (Q : VK) (E : XK) (cdv : Value) (hr : Room 3 (A.deeper (PyProof.Rows.envOfC "System.__init__" (defScope sYInit) s.heap.objs.size f cdv))) (h : spYInit CS CD CY CBY vs H Q E) :
    ∃ t, PSs (cxOf (L2.CX P w) P w K mg base nsY "System.__init__" (defScope sYInit) f cdv A outer s H E) (defBody sYInit) t ∧ t { nx := fun _ H' => Q .non H', rt := Q } (L2.start nsY vs) H := by
  obtain ⟨y, dx, t, ks, os, va, vw, vc, rfl, hy, ht, hO, few, lim, aa, aw, ac, qx, q⟩ := h
  refine ⟨_, pss_cons (ps_set (i := 5) scYI.nd rfl (Or.inl rfl) (pe_call GF hr rfl mF kF bF .nil pass0 (pa_cons (pv 4) (pa_cons (pv 1) (pa_cons (pv 2) (pa_cons (pv 3) pa_nil))))))
    (pss_cons (ps_if (pt_cmpR op_notN (pv 5) pe_non (nomark _)) (pss_one (ps_raise1 rfl (takes_of rfl rfl rfl rfl) TB GX (hr.mono (by decide)) bX rfl (pa_cons (pv 5) pa_nil))) pss_nil)
    (pss_cons (ps_fld (pv 0) (pv 4) rfl)
    (pss_cons (ps_fld (pv 0) (pv 1) rfl)
    (pss_cons (ps_fld (pv 0) (pv 2) rfl)
    (pss_cons (ps_fld (pv 0) (pv 3) rfl)
    (pss_one (ps_fld (pv 0) (pe_callTy call_tuple_of (by rfl) B.tuple (by decide +kernel) (pa_cons
      (pe_lc2 (own := [("kind", 6), ("index", 7)]) (vs1 := [7]) (g := gName 6) (g1 := gName 7) (tt := tYes) (tt1 := tYes) rfl scYI.nd (pi_tup (pv 4)) (blkOk_by (own := [("kind", 6), ("index", 7)]) (N := nsY) (sc := defScope sYInit) (by decide +kernel)) (by decide)
        (fun _ _ _ _ _ => pg_name (i := 6) scYI.nd rfl (Or.inl rfl)) (fun _ _ _ _ _ => pts_nil)
        (fun _ _ _ _ _ => pi_range1 rfl B.range (pa_cons (pe_fldF (K := K) rfl (pv 6) rfl) pa_nil)) (fun _ _ _ _ _ => pg_name (i := 7) scYI.nd rfl (Or.inl rfl)) (fun _ _ _ _ _ => pts_nil)
        (fun _ _ _ _ _ => pe_fldF (K := K) rfl (pv 6) rfl)) pa_nil)) rfl))))))), ?_⟩
  refine ⟨_, rfl, _, rfl, _, rfl, _, rfl, t, ks, os, va, vw, vc, rfl, ht, hO, few, aa, aw, ac, fun H1 s1 => ?_⟩
  refine ⟨_, rfl, rfl, _, rfl, ?_⟩
  cases ey : yWhy os va vw vc with
  | some z =>
    refine iteTb (by rw [decide_eq_false (show ¬ optV (some z) = V.non from fun e => nomatch e)]; rfl) ⟨_, rfl, made1 fun d hd => ?_⟩
    exact qx z ey d _ (s1.trans (same_new hd _)) (s1.free hd) upd_same
  | none =>
  refine iteFb (by decide) ?_
  have hg : aresB os = true := by
    cases e : aresB os with
    | true => rfl
    | false => unfold yWhy at ey; rw [if_pos e] at ey; cases ey
  obtain ⟨rs, rfl, hR⟩ : ∃ rs, os = rs.map some ∧ KsAt CS CD H ks rs := hO.all (by unfold aresB at hg; rw [Bool.and_eq_true] at hg; exact hg.1)
  rw [List.length_map] at few
  have lim' : ∀ r ∈ rs, 1 ≤ r.m ∧ r.m ≤ 3 := fun r hr => lim r (List.mem_map.mpr ⟨r, hr, rfl⟩)
  have hy1 := s1 _ _ hy
  have cl := G.isY.cl
  refine ⟨_, rfl, _, rfl, y, CY, dx, [], rfl, hy1, cl, G.nK, (by show 0 < 1000; decide), ?_⟩
  refine ⟨_, rfl, _, rfl, y, CY, dx, _, rfl, upd_same, cl, G.nA, (by show 1 < 1000; decide), ?_⟩
  refine ⟨_, rfl, _, rfl, y, CY, dx, _, rfl, upd_same, cl, G.nW, (by show 2 < 1000; decide), ?_⟩
  refine ⟨_, rfl, _, rfl, y, CY, dx, _, rfl, upd_same, cl, G.nC, (by show 3 < 1000; decide), ?_⟩
  rw [upd_upd, upd_upd, upd_upd]
  have k2 : Kp y H (L2.upd H1 y (.ins CY dx (putF "crashes" vc (putF "window" vw (putF "ahead" va (putF "kinds" (.ref t) [])))))) := (Kp.of_same s1).trans Kp.upd
  have hy2 : (L2.upd H1 y (.ins CY dx (putF "crashes" vc (putF "window" vw (putF "ahead" va (putF "kinds" (.ref t) [])))))) y = some (.ins CY dx (putF "crashes" vc (putF "window" vw (putF "ahead" va (putF "kinds" (.ref t) []))))) := upd_same
  generalize (L2.upd H1 y (.ins CY dx (putF "crashes" vc (putF "window" vw (putF "ahead" va (putF "kinds" (.ref t) [])))))) = H2 at k2 hy2 ⊢
  have ht2 : H2 t = some (.tup ks) := k2 _ _ ht (ne_of ht hy (by intro z; cases z))
  have hR2 : ∀ {i : Nat} {v : V}, ks[i]? = some v → ∃ r k dk x, rs[i]? = some r ∧ v = .ref k ∧ H2 k = some (.ins CD dk (fldD r.n x r.b r.m)) := fun hv => by
    obtain ⟨r, er, k, rfl, dk, x, tt, hk, _⟩ := hR.at hv
    refine ⟨r, k, dk, x, er, rfl, k2 _ _ hk fun z => ?_⟩
    rw [z, hy] at hk
    injection hk with hk
    injection hk with e1 e2 e3
    cases e3
  refine ⟨_, rfl, t, rfl, ⟨_, SqT.of ht2⟩, fun D hD => ?_⟩
  have nyD : y ≠ D := ne_of_none hy2 hD
  refine ⟨fun i m H3 => m = ks.length - i ∧ i ≤ ks.length ∧ H3 D = some (.lst ((sess (rs.take i)).map V.str)) ∧ Same H2 H3, ⟨ks.length, rfl, Nat.zero_le _, upd_same, same_new hD _⟩, ?_⟩
  rintro i m H3 ⟨rfl, hi, h3, s3⟩
  by_cases lt : i < ks.length
  · obtain ⟨r, k, dk, x, er, ek, hk⟩ := hR2 (List.getElem?_eq_getElem lt)
    have lir : i < rs.length := (List.getElem?_eq_some_iff.mp er).1
    have rl := lim' r (List.mem_of_getElem? er)
    refine .inr ⟨⟨ks, ks[i], SqT.of (s3 _ _ ht2), List.getElem?_eq_getElem lt⟩, fun H4 => H4 D = some (.lst ((sess (rs.take (i + 1))).map V.str)) ∧ Same H2 H4, fun H4 h4 => ⟨ks.length - (i + 1), by omega, rfl, lt, h4⟩, ?_⟩
    rintro v H4 ⟨rfl, hv⟩
    have ev := hv ks (SqT.of (s3 _ _ ht2))
    rw [List.getElem?_eq_getElem lt] at ev
    obtain rfl : ks[i] = v := Option.some.inj ev
    refine ⟨rfl, ?_⟩
    unfold tYes
    dsimp only
    rw [if_pos rfl]
    refine ⟨_, rfl, k, CD, dk, _, _, ek, s3 _ _ hk, U.isD.cl, U.nM, fldD_m _ _ _ _, r.m, rfl, by omega, by omega, ?_⟩
    have et : rs.take (i + 1) = rs.take i ++ [r] := by rw [List.take_add_one, er]; rfl
    have lt3 : (sess (rs.take i)).length ≤ 3 * i := by
      have := sess_le (rs := rs.take i) fun r hr => lim' r (List.mem_of_mem_take hr)
      rw [List.length_take] at this
      omega
    refine ⟨fun j p H5 => p = r.m.toNat - j ∧ j ≤ r.m.toNat ∧ H5 D = some (.lst ((sess (rs.take i) ++ List.replicate j r.n).map V.str)) ∧ Same H2 H5, ⟨r.m.toNat, rfl, Nat.zero_le _, by rw [List.replicate_zero, List.append_nil]; exact h3, s3⟩, ?_⟩
    rintro j p H5 ⟨rfl, hj, h5, s5⟩
    by_cases lj : j < r.m.toNat
    · refine .inr ⟨lj, fun H6 => H6 D = some (.lst ((sess (rs.take i) ++ List.replicate (j + 1) r.n).map V.str)) ∧ Same H2 H6, fun H6 h6 => ⟨r.m.toNat - (j + 1), by omega, rfl, lj, h6⟩, ?_⟩
      rintro v H6 ⟨rfl, rfl⟩
      refine ⟨rfl, ?_⟩
      rw [if_pos rfl]
      refine ⟨_, rfl, k, CD, dk, _, _, ek, s5 _ _ hk, U.isD.cl, U.nN, fldD_n _ _ _ _, _, h5, small1000 ?_, ?_, fun b o e => ?_⟩
      · rw [List.length_map, List.length_append, List.length_replicate]; omega
      · rw [upd_same, List.replicate_succ', ← List.append_assoc, List.map_append (l₂ := [r.n])]; rfl
      · rw [upd_ne (ne_of_none e hD)]; exact s5 _ _ e
    · have ej : j = r.m.toNat := by omega
      subst ej
      refine .inl ⟨Nat.le_refl _, ?_, s5⟩
      rw [et, sess_snoc]; exact h5
  · have ei : i = ks.length := by omega
    subst ei
    rw [hR.len, List.take_length] at h3
    refine .inl ⟨⟨ks, SqT.of (s3 _ _ ht2), Nat.le_refl _⟩, ?_⟩
    refine ⟨D, _, rfl, .inl ⟨SqL.of h3, fun l hl => ?_⟩⟩
    have hy3 := s3 _ _ hy2
    have nyl : y ≠ l := ne_of_none hy3 hl
    refine ⟨_, rfl, y, CY, dx, _, rfl, by rw [upd_ne nyl]; exact hy3, cl, G.nL, (by show 4 < 1000; decide), ?_⟩
    rw [fldY_put]
    refine q rs ey rfl l _ upd_same (by rw [upd_ne nyl.symm]; exact upd_same) ?_
    exact ((k2.trans (Kp.of_same s3)).new hl).trans Kp.upd
end
end Tk
set_option maxRecDepth 100000
namespace Tk
open PySem L2 StK StX
theorem bindYw (D : Addr) (doc pm cdv ct : Value) (an : Option Addr) : ∀ us rest mv ws : List Value, us.length = 1 → mv.length = 2 → ws.length = 1 →
    KwTail D ((["ahead", "crashes"] : List Str).zip mv) (bindArgs (PySem.W.fnOf "__init__" "System.__init__" (defArgs sYInit) (defBody sYInit) (defScope sYInit) .none (.ref D) doc pm an cdv ct) ⟨us ++ rest, (["window"] : List Str).zip ws⟩) (newTuple rest >>= fun t => pure (psY.zip (us ++ (mv.take 1 ++ ws ++ mv.drop 1)) ++ [(("kinds" : Str), t)]))
  | [u], [], [a, c], [b], _, _, _ => ⟨_, _, _, _, _, _, rfl, rfl, _, _, _, _, _, _, rfl, rfl, rfl⟩
  | [u], r :: rs, [a, c], [b], _, _, _ => ⟨_, _, _, _, _, _, rfl, rfl, _, _, _, _, _, _, rfl, rfl, rfl⟩
theorem bindYp (D : Addr) (doc pm cdv ct : Value) (an : Option Addr) : ∀ us rest mv ws : List Value, us.length = 1 → mv.length = 0 → ws.length = 3 →
    KwTail D (([] : List Str).zip mv) (bindArgs (PySem.W.fnOf "__init__" "System.__init__" (defArgs sYInit) (defBody sYInit) (defScope sYInit) .none (.ref D) doc pm an cdv ct) ⟨us ++ rest, (["crashes", "ahead", "window"] : List Str).zip ws⟩) (newTuple rest >>= fun t => pure (psY.zip (us ++ (ws.drop 1 ++ ws.take 1)) ++ [(("kinds" : Str), t)]))
  | [u], [], [], [a, b, c], _, _, _ => rfl
  | [u], r :: rs, [], [a, b, c], _, _, _ => rfl
theorem bindYq (D : Addr) (doc pm cdv ct : Value) (an : Option Addr) : ∀ us rest mv ws : List Value, us.length = 1 → mv.length = 0 → ws.length = 3 →
    KwTail D (([] : List Str).zip mv) (bindArgs (PySem.W.fnOf "__init__" "System.__init__" (defArgs sYInit) (defBody sYInit) (defScope sYInit) .none (.ref D) doc pm an cdv ct) ⟨us ++ rest, (["window", "ahead", "crashes"] : List Str).zip ws⟩) (newTuple rest >>= fun t => pure (psY.zip (us ++ ((ws.drop 1).take 1 ++ (ws.take 1 ++ ws.drop 2))) ++ [(("kinds" : Str), t)]))
  | [u], [], [], [a, b, c], _, _, _ => rfl
  | [u], r :: rs, [], [a, b, c], _, _, _ => rfl
/-- System(k, ..): what is asked of the arguments in front, vs the instance and the kinds; a, w, c the values -/
def spYC (CS CD CY CBY : Addr) (a w c : V) : Sp := fun vs H Q E => ∃ (y dx : Addr) (ks : List V) (os : List (Option KR)), vs = .ref y :: ks ∧ H y = some (.ins CY dx []) ∧ OsAt CS CD H ks os ∧ os.length ≤ 10 ∧ (∀ r, some r ∈ os → 1 ≤ r.m ∧ r.m ≤ 3) ∧
  AnyV H a ∧ AnyV H w ∧ AnyV H c ∧
  (∀ z, yWhy os a w c = some z → ∀ (d : Addr) (H' : Hp), Same H H' → H d = none → H' d = some (.xd [("why", .str z)]) → E (.ref CBY) (some d) H') ∧
  (∀ rs, yWhy os a w c = none → os = rs.map some → ∀ (t l : Addr) (H' : Hp), H' y = some (.ins CY dx (fldY t a w c l)) → H' t = some (.tup ks) → H' l = some (.tup ((sess rs).map V.str)) → Kp y H H' → Q .non H')
section
variable {P : Program} {w : World} {K : PySem.W.Frag} {mg : Str → Option Value} {base : Heap} {CS CK CD CY CBY KD : Addr}
/-- where System.__init__ stands, with its defaults at KD -/
structure FnY (K : PySem.W.Frag) (KD f : Addr) : Prop where
  ex : ∃ oc od doc pm an cdv ct osl, K.lookup f = some ⟨oc, od, .func (PySem.W.fnOf "__init__" "System.__init__" (defArgs sYInit) (defBody sYInit) (defScope sYInit) .none (.ref KD) doc pm an cdv ct), osl⟩ ∧ PySem.W.codeIn K cdv "System.__init__" = true
  da : ∃ t, PySem.W.nsIn K KD "ahead" = some (some (.int 0 t))
  dw : PySem.W.nsIn K KD "window" = some (some .none)
  dc : ∃ t, PySem.W.nsIn K KD "crashes" = some (some (.int 0 t))
/-- a call with the keywords ks; sel: ahead, window, crashes from the keywords' values -/
def FnYK (P : Program) (w : World) (K : PySem.W.Frag) (mg : Str → Option Value) (base : Heap) (CS CD CY CBY f : Addr) (ks : List Str) (sel : List V → V × V × V) : Prop :=
  FnRK P w K mg base (L2.CX P w) 4 f ks (fun zs => spYC CS CD CY CBY (sel zs).1 (sel zs).2.1 (sel zs).2.2)
theorem fnrk_mono {CX : CXT} {k : Nat} {f : Addr} {ks : List Str} {sp sp' : List V → Sp} (F : FnRK P w K mg base CX k f ks sp) (h : ∀ zs vs H Q E, zs.length = ks.length → sp' zs vs H Q E → sp zs vs H Q E) : FnRK P w K mg base CX k f ks sp' :=
  fun A outer s H us ws vs zs Q E a b c d e g => F A outer s H us ws vs zs Q E a b c d e (h zs vs H Q E e g)
theorem yc_of {a wv c : V} {vs : List V} {H : Hp} {Q : VK} {E : XK} (h : spYC CS CD CY CBY a wv c vs H Q E) : ∃ ws rest, vs = ws ++ rest ∧ ws.length = 1 ∧ rest.length ≤ sizeLine ∧ ∀ p, H p = Option.none → spYInit CS CD CY CBY (ws ++ [a, wv, c] ++ [V.ref p]) (L2.upd H p (.tup rest)) Q E := by
  obtain ⟨y, dx, ks, os, rfl, hy, hO, few, lim, aa, aw, ac, qx, q⟩ := h
  refine ⟨[.ref y], ks, rfl, rfl, Nat.le_of_lt (small10 (by rw [hO.len]; exact few)), fun p hp => ?_⟩
  have s := same_new hp (.tup ks)
  have nyp := ne_of_none hy hp
  refine ⟨y, dx, p, ks, os, a, wv, c, rfl, s _ _ hy, upd_same, hO.keep s, few, lim, aa.imp fun _ k => k.keep s, aw.imp fun _ k => k.keep s, ac.imp fun _ k => k.keep s, fun z ez d H' s' hd hx => qx z ez d H' (s.trans s') ?_ hx, fun rs ez eo l H' h1 h2 k => q rs ez eo p l H' h1 (k _ _ upd_same nyp.symm) h2 ((Kp.of_same s).trans k)⟩
  exact s.free hd
theorem fny0 {f : Addr} (Z : FnY K KD f)
    (body : ∀ (A : Around) (outer : List Env) (s : Shared) (H : Hp) (vs : List V) (Q : VK) (E : XK) (cdv : Value), Room 3 (A.deeper (PyProof.Rows.envOfC "System.__init__" (defScope sYInit) s.heap.objs.size f cdv)) → spYInit CS CD CY CBY vs H Q E →
      ∃ t, PSs (cxOf (L2.CX P w) P w K mg base nsY "System.__init__" (defScope sYInit) f cdv A outer s H E) (defBody sYInit) t ∧ t { nx := fun _ H' => Q .non H', rt := Q } (L2.start nsY vs) H) :
    FnYK P w K mg base CS CD CY CBY f [] (fun _ => (.int 0, .non, .int 0)) := by
  obtain ⟨⟨oc, od, doc, pm, an, cdv, ct, osl, lk, hcd⟩, ⟨ta, da⟩, dw, ⟨tc, dc⟩⟩ := Z
  refine fnrk_mono (fn_starK (n := 1) (ks := []) (ms := [("ahead", .int 0), ("window", .non), ("crashes", .int 0)]) (sp := spYInit CS CD CY CBY) lk hcd scYI cxUp ?_ (fun us mv ws => us ++ mv) (fun a b _ => a.append b) ?_ (bindY0 KD doc pm cdv ct an) fun A outer s H vs Q E hr h => body A outer s H vs Q E cdv hr h) fun zs vs H Q E _ h => yc_of h
  · intro q hq
    simp only [List.mem_cons, List.not_mem_nil, or_false] at hq
    rcases hq with rfl | rfl | rfl
    · exact ⟨_, da, _, rfl⟩
    · exact ⟨_, dw, rfl⟩
    · exact ⟨_, dc, _, rfl⟩
  · intro α us mv ws h1 h2 h3
    rw [List.length_append, h1, h2]; rfl
def sel3 : List V → V × V × V
  | [x, y, z] => (x, y, z)
  | _ => (.non, .non, .non)
theorem fny3 {f : Addr} (Z : FnY K KD f)
    (body : ∀ (A : Around) (outer : List Env) (s : Shared) (H : Hp) (vs : List V) (Q : VK) (E : XK) (cdv : Value), Room 3 (A.deeper (PyProof.Rows.envOfC "System.__init__" (defScope sYInit) s.heap.objs.size f cdv)) → spYInit CS CD CY CBY vs H Q E →
      ∃ t, PSs (cxOf (L2.CX P w) P w K mg base nsY "System.__init__" (defScope sYInit) f cdv A outer s H E) (defBody sYInit) t ∧ t { nx := fun _ H' => Q .non H', rt := Q } (L2.start nsY vs) H) :
    FnYK P w K mg base CS CD CY CBY f ["ahead", "window", "crashes"] sel3 := by
  obtain ⟨⟨oc, od, doc, pm, an, cdv, ct, osl, lk, hcd⟩, _⟩ := Z
  refine fnrk_mono (fn_starK (n := 1) (ks := ["ahead", "window", "crashes"]) (ms := []) (sp := spYInit CS CD CY CBY) lk hcd scYI cxUp (fun q hq => nomatch hq) (fun us mv ws => us ++ ws) (fun a b c => a.append c) ?_ (bindY3 KD doc pm cdv ct an) fun A outer s H vs Q E hr h => body A outer s H vs Q E cdv hr h) fun zs vs H Q E hz h => ?_
  · intro α us mv ws h1 h2 h3
    match us, ws, h1, h3 with
    | [_], [_, _, _], _, _ => rfl
  · match zs, hz with
    | [x, y, z], _ => exact yc_of h
def selp : List V → V × V × V
  | [x, y, z] => (y, z, x)
  | _ => (.non, .non, .non)
theorem fnyp {f : Addr} (Z : FnY K KD f)
    (body : ∀ (A : Around) (outer : List Env) (s : Shared) (H : Hp) (vs : List V) (Q : VK) (E : XK) (cdv : Value), Room 3 (A.deeper (PyProof.Rows.envOfC "System.__init__" (defScope sYInit) s.heap.objs.size f cdv)) → spYInit CS CD CY CBY vs H Q E →
      ∃ t, PSs (cxOf (L2.CX P w) P w K mg base nsY "System.__init__" (defScope sYInit) f cdv A outer s H E) (defBody sYInit) t ∧ t { nx := fun _ H' => Q .non H', rt := Q } (L2.start nsY vs) H) :
    FnYK P w K mg base CS CD CY CBY f ["crashes", "ahead", "window"] selp := by
  obtain ⟨⟨oc, od, doc, pm, an, cdv, ct, osl, lk, hcd⟩, _⟩ := Z
  refine fnrk_mono (fn_starK (n := 1) (ks := ["crashes", "ahead", "window"]) (ms := []) (sp := spYInit CS CD CY CBY) lk hcd scYI cxUp (fun q hq => nomatch hq) (fun us mv ws => us ++ (ws.drop 1 ++ ws.take 1)) (fun a b c => a.append ((c.drop 1).append (c.take 1))) ?_ (bindYp KD doc pm cdv ct an) fun A outer s H vs Q E hr h => body A outer s H vs Q E cdv hr h) fun zs vs H Q E hz h => ?_
  · intro α us mv ws h1 h2 h3
    match us, ws, h1, h3 with
    | [_], [_, _, _], _, _ => rfl
  · match zs, hz with
    | [x, y, z], _ => exact yc_of h
def selq : List V → V × V × V
  | [x, y, z] => (y, x, z)
  | _ => (.non, .non, .non)
theorem fnyq {f : Addr} (Z : FnY K KD f)
    (body : ∀ (A : Around) (outer : List Env) (s : Shared) (H : Hp) (vs : List V) (Q : VK) (E : XK) (cdv : Value), Room 3 (A.deeper (PyProof.Rows.envOfC "System.__init__" (defScope sYInit) s.heap.objs.size f cdv)) → spYInit CS CD CY CBY vs H Q E →
      ∃ t, PSs (cxOf (L2.CX P w) P w K mg base nsY "System.__init__" (defScope sYInit) f cdv A outer s H E) (defBody sYInit) t ∧ t { nx := fun _ H' => Q .non H', rt := Q } (L2.start nsY vs) H) :
    FnYK P w K mg base CS CD CY CBY f ["window", "ahead", "crashes"] selq := by
  obtain ⟨⟨oc, od, doc, pm, an, cdv, ct, osl, lk, hcd⟩, _⟩ := Z
  refine fnrk_mono (fn_starK (n := 1) (ks := ["window", "ahead", "crashes"]) (ms := []) (sp := spYInit CS CD CY CBY) lk hcd scYI cxUp (fun q hq => nomatch hq) (fun us mv ws => us ++ ((ws.drop 1).take 1 ++ (ws.take 1 ++ ws.drop 2))) (fun a b c => a.append (((c.drop 1).take 1).append ((c.take 1).append (c.drop 2)))) ?_ (bindYq KD doc pm cdv ct an) fun A outer s H vs Q E hr h => body A outer s H vs Q E cdv hr h) fun zs vs H Q E hz h => ?_
  · intro α us mv ws h1 h2 h3
    match us, ws, h1, h3 with
    | [_], [_, _, _], _, _ => rfl
  · match zs, hz with
    | [x, y, z], _ => exact yc_of h
def selw : List V → V × V × V
  | [x] => (.int 0, x, .int 0)
  | _ => (.non, .non, .non)
theorem fnyw {f : Addr} (Z : FnY K KD f)
    (body : ∀ (A : Around) (outer : List Env) (s : Shared) (H : Hp) (vs : List V) (Q : VK) (E : XK) (cdv : Value), Room 3 (A.deeper (PyProof.Rows.envOfC "System.__init__" (defScope sYInit) s.heap.objs.size f cdv)) → spYInit CS CD CY CBY vs H Q E →
      ∃ t, PSs (cxOf (L2.CX P w) P w K mg base nsY "System.__init__" (defScope sYInit) f cdv A outer s H E) (defBody sYInit) t ∧ t { nx := fun _ H' => Q .non H', rt := Q } (L2.start nsY vs) H) :
    FnYK P w K mg base CS CD CY CBY f ["window"] selw := by
  obtain ⟨⟨oc, od, doc, pm, an, cdv, ct, osl, lk, hcd⟩, ⟨ta, da⟩, _, ⟨tc, dc⟩⟩ := Z
  refine fnrk_mono (fn_starK (n := 1) (ks := ["window"]) (ms := [("ahead", .int 0), ("crashes", .int 0)]) (sp := spYInit CS CD CY CBY) lk hcd scYI cxUp ?_ (fun us mv ws => us ++ (mv.take 1 ++ ws ++ mv.drop 1)) (fun a b c => a.append (((b.take 1).append c).append (b.drop 1))) ?_ (bindYw KD doc pm cdv ct an) fun A outer s H vs Q E hr h => body A outer s H vs Q E cdv hr h) fun zs vs H Q E hz h => ?_
  · intro q hq
    simp only [List.mem_cons, List.not_mem_nil, or_false] at hq
    rcases hq with rfl | rfl
    · exact ⟨_, da, _, rfl⟩
    · exact ⟨_, dc, _, rfl⟩
  · intro α us mv ws h1 h2 h3
    match us, mv, ws, h1, h2, h3 with
    | [_], [_, _], [_], _, _, _ => rfl
  · match zs, hz with
    | [x], _ => exact yc_of h
end
end Tk
set_option maxRecDepth 100000
namespace Tk
open PySem L2 StK
abbrev sMade : Stmt := top 40
theorem yc_go {CS CD CY CBY : Addr} {a wv c : V} {ks : List V} {os : List (Option KR)} {H : Hp} {x dx : Addr} {Q : VK} {E : XK} (hO : OsAt CS CD H ks os) (few : ks.length ≤ 3) (lim : ∀ r, some r ∈ os → 1 ≤ r.m ∧ r.m ≤ 3) (aa : AnyV H a) (aw : AnyV H wv) (ac : AnyV H c)
    (nx : H x = none) (ndx : H dx = none) (ne : dx ≠ x)
    (qx : ∀ z, yWhy os a wv c = some z → ∀ (d : Addr) (H' : Hp), Same H H' → H d = none → H' d = some (.xd [("why", .str z)]) → E (.ref CBY) (some d) H')
    (q : ∀ rs, yWhy os a wv c = none → os = rs.map some → ∀ (t l : Addr) (H' : Hp), H' x = some (.ins CY dx (fldY t a wv c l)) → H' t = some (.tup ks) → H' l = some (.tup ((sess rs).map V.str)) → Same H H' → Q .non H') :
    spYC CS CD CY CBY a wv c (.ref x :: ks) (L2.upd (L2.upd H dx (.own x)) x (.ins CY dx [])) Q E := by
  have s : Same H (L2.upd (L2.upd H dx (.own x)) x (.ins CY dx [])) := fun b o e => by
    rw [upd_ne (ne_of_none e nx), upd_ne (ne_of_none e ndx)]; exact e
  refine ⟨x, dx, ks, os, rfl, upd_same, hO.keep s, by rw [← hO.len]; omega, lim, aa.imp fun _ k => k.keep s, aw.imp fun _ k => k.keep s, ac.imp fun _ k => k.keep s, fun z ez d H' s' hd hx => qx z ez d H' (s.trans s') (s.free hd) hx, fun rs ez eo t l H' h1 h2 h3 k => q rs ez eo t l H' h1 h2 h3 fun b o e => ?_⟩
  exact k _ _ (s _ _ e) (ne_of_none e nx)
def spMade (CS CD CY CBY : Addr) : Sp := fun vs H Q E => ∃ (kl vl : Addr) (short : Bool) (ks : List V) (os : List (Option KR)) (va vw vc : V), vs = [.ref kl, .ref vl, .bl short] ∧ H kl = some (.lst ks) ∧ OsAt CS CD H ks os ∧ ks.length ≤ 3 ∧ (∀ r, some r ∈ os → 1 ≤ r.m ∧ r.m ≤ 3) ∧
  H vl = some (.lst [va, vw, vc]) ∧ AnyV H va ∧ AnyV H vw ∧ AnyV H vc ∧ (short = true → (ks.length = 1 → va = .int 0 ∧ vw = .non ∧ vc = .int 0) ∧ (ks.length = 2 → va = .int 0 ∧ vc = .int 0)) ∧
  (∀ z, yWhy os va vw vc = some z → ∀ (d : Addr) (H' : Hp), Same H H' → H d = none → H' d = some (.xd [("why", .str z)]) → E (.ref CBY) (some d) H') ∧
  (∀ rs, yWhy os va vw vc = none → os = rs.map some → ∀ (y dx t l : Addr) (H' : Hp), Same H H' → H' y = some (.ins CY dx (fldY t va vw vc l)) → H' t = some (.tup ks) → H' l = some (.tup ((sess rs).map V.str)) → Q (.ref y) H')
section
variable {P : Program} {w : World} {K : PySem.W.Frag} {mg : Str → Option Value} {base : Heap} {CS CK CD CY CBY KD : Addr}
theorem scMd : FnScope ["_law_kinds", "_law_values", "_law_short"] ["_law_kinds", "_law_values", "_law_short"] (defScope sMade) := ⟨rfl, rfl, rfl, by decide +kernel, rfl, by decide +kernel, by decide +kernel⟩
theorem ok_made {f fY : Addr} {fd : FuncData} (F : Fun K "_law_made" "_law_made" sMade f fd) (B : Bl mg) (MY : Mk K CY fY) (mY : mg "System" = some (.ref CY))
    (G0 : FnYK P w K mg base CS CD CY CBY fY [] (fun _ => (.int 0, .non, .int 0))) (Gw : FnYK P w K mg base CS CD CY CBY fY ["window"] selw) (G3 : FnYK P w K mg base CS CD CY CBY fY ["ahead", "window", "crashes"] sel3)
    (Gp : FnYK P w K mg base CS CD CY CBY fY ["crashes", "ahead", "window"] selp) (Gq : FnYK P w K mg base CS CD CY CBY fY ["window", "ahead", "crashes"] selq) :
    FnOk P w K mg base (L2.CX P w) 6 f fd ["_law_kinds", "_law_values", "_law_short"] (spMade CS CD CY CBY) := by
  refine F.okX scMd (fun vs H Q E h => ?_) (fun cdv A outer s H vs Q E hr h => ?_)
  · obtain ⟨kl, vl, short, ks, os, va, vw, vc, rfl, _⟩ := h
    rfl
  obtain ⟨kl, vl, short, ks, os, va, vw, vc, rfl, hk, hO, few, lim, hv, aa, aw, ac, cond, qx, q⟩ := h
  refine ⟨_, (pss_cons (ps_if (PW.pt (pw_and (pt_val (pv 2)) (pw_and1 (pt_cmpR op_eq (pe_callB call_len_seq (by rfl) B.len PySem.boot_len (pa_cons (pv 0) pa_nil)) (pe_int) (nomark _))))) (pss_one (ps_ret (StK.pe_makeRK MY G0 hr rfl mY (fun σ => passAt (takes_of rfl rfl rfl rfl) σ) (pa_cons (pe_ix ix_list (pv 0) (pe_int) (fun _ _ => rfl)) pa_nil) pk_nil))) pss_nil)
 (pss_cons (ps_if (PW.pt (pw_and (pt_val (pv 2)) (pw_and1 (pt_cmpR op_eq (pe_callB call_len_seq (by rfl) B.len PySem.boot_len (pa_cons (pv 0) pa_nil)) (pe_int) (nomark _))))) (pss_one (ps_ret (StK.pe_makeRK MY Gw hr rfl mY (fun σ => passAt (takes_of rfl rfl rfl rfl) σ) (pa_cons (pe_ix ix_list (pv 0) (pe_int) (fun _ _ => rfl)) (pa_cons (pe_ix ix_list (pv 0) (pe_int) (fun _ _ => rfl)) pa_nil)) (pk_cons (pe_ix ix_list (pv 1) (pe_int) (fun _ _ => rfl)) pk_nil)))) pss_nil)
 (pss_cons (ps_if (pt_cmpR op_eq (pe_callB call_len_seq (by rfl) B.len PySem.boot_len (pa_cons (pv 0) pa_nil)) (pe_int) (nomark _)) (pss_one (ps_ret (StK.pe_makeRK0 MY G3 hr rfl mY (fun σ => passAt (takes_of rfl rfl rfl rfl) σ) (pk_cons (pe_ix ix_list (pv 1) (pe_int) (fun _ _ => rfl)) (pk_cons (pe_ix ix_list (pv 1) (pe_int) (fun _ _ => rfl)) (pk_cons (pe_ix ix_list (pv 1) (pe_int) (fun _ _ => rfl)) pk_nil)))))) pss_nil)
 (pss_cons (ps_if (pt_cmpR op_eq (pe_callB call_len_seq (by rfl) B.len PySem.boot_len (pa_cons (pv 0) pa_nil)) (pe_int) (nomark _)) (pss_one (ps_ret (StK.pe_makeRK MY G3 hr rfl mY (fun σ => passAt (takes_of rfl rfl rfl rfl) σ) (pa_cons (pe_ix ix_list (pv 0) (pe_int) (fun _ _ => rfl)) pa_nil) (pk_cons (pe_ix ix_list (pv 1) (pe_int) (fun _ _ => rfl)) (pk_cons (pe_ix ix_list (pv 1) (pe_int) (fun _ _ => rfl)) (pk_cons (pe_ix ix_list (pv 1) (pe_int) (fun _ _ => rfl)) pk_nil)))))) pss_nil)
 (pss_cons (ps_if (pt_cmpR op_eq (pe_callB call_len_seq (by rfl) B.len PySem.boot_len (pa_cons (pv 0) pa_nil)) (pe_int) (nomark _)) (pss_one (ps_ret (StK.pe_makeRK MY Gp hr rfl mY (fun σ => passAt (takes_of rfl rfl rfl rfl) σ) (pa_cons (pe_ix ix_list (pv 0) (pe_int) (fun _ _ => rfl)) (pa_cons (pe_ix ix_list (pv 0) (pe_int) (fun _ _ => rfl)) pa_nil)) (pk_cons (pe_ix ix_list (pv 1) (pe_int) (fun _ _ => rfl)) (pk_cons (pe_ix ix_list (pv 1) (pe_int) (fun _ _ => rfl)) (pk_cons (pe_ix ix_list (pv 1) (pe_int) (fun _ _ => rfl)) pk_nil)))))) pss_nil)
 (pss_one (ps_ret (StK.pe_makeRK MY Gq hr rfl mY (fun σ => passAt (takes_of rfl rfl rfl rfl) σ) (pa_cons (pe_ix ix_list (pv 0) (pe_int) (fun _ _ => rfl)) (pa_cons (pe_ix ix_list (pv 0) (pe_int) (fun _ _ => rfl)) (pa_cons (pe_ix ix_list (pv 0) (pe_int) (fun _ _ => rfl)) pa_nil))) (pk_cons (pe_ix ix_list (pv 1) (pe_int) (fun _ _ => rfl)) (pk_cons (pe_ix ix_list (pv 1) (pe_int) (fun _ _ => rfl)) (pk_cons (pe_ix ix_list (pv 1) (pe_int) (fun _ _ => rfl)) pk_nil))))))))))), ?_⟩
  match ks, hk, hO, few, cond with
  | [], hk, hO, few, cond =>
    cases short with
    | false =>
      refine ⟨_, rfl, _, rfl, iteF ⟨_, rfl, _, rfl, iteF ⟨_, rfl, kl, _, rfl, .inl (SqL.of hk), rfl, _, rfl, iteTb (show decide (V.int ((0 : Nat) : Int) = V.int 0) = true from by decide) ⟨_, rfl, vl, _, _, _, rfl, rfl, SqL.of hv, rfl, _, rfl, vl, _, _, _, rfl, rfl, SqL.of hv, rfl, _, rfl, vl, _, _, _, rfl, rfl, SqL.of hv, rfl, rfl, fun x dx nx ndx ne => ?_⟩⟩⟩⟩
      exact yc_go hO few lim aa aw ac nx ndx ne (fun z ez d H' s' hd hx => qx z ez d H' s' hd hx) (fun rs ez eo t l H' h1 h2 h3 s' => ⟨rfl, q rs ez eo x dx t l H' s' h1 h2 h3⟩)
    | true =>
      refine ⟨_, rfl, _, rfl, iteT ⟨_, rfl, kl, _, rfl, .inl (SqL.of hk), rfl, _, rfl, iteFb (show decide (V.int ((0 : Nat) : Int) = V.int 1) = false from by decide) ⟨_, rfl, _, rfl, iteT ⟨_, rfl, kl, _, rfl, .inl (SqL.of hk), rfl, _, rfl, iteFb (show decide (V.int ((0 : Nat) : Int) = V.int 2) = false from by decide) ⟨_, rfl, kl, _, rfl, .inl (SqL.of hk), rfl, _, rfl, iteTb (show decide (V.int ((0 : Nat) : Int) = V.int 0) = true from by decide) ⟨_, rfl, vl, _, _, _, rfl, rfl, SqL.of hv, rfl, _, rfl, vl, _, _, _, rfl, rfl, SqL.of hv, rfl, _, rfl, vl, _, _, _, rfl, rfl, SqL.of hv, rfl, rfl, fun x dx nx ndx ne => ?_⟩⟩⟩⟩⟩⟩
      exact yc_go hO few lim aa aw ac nx ndx ne (fun z ez d H' s' hd hx => qx z ez d H' s' hd hx) (fun rs ez eo t l H' h1 h2 h3 s' => ⟨rfl, q rs ez eo x dx t l H' s' h1 h2 h3⟩)
  | [k0], hk, hO, few, cond =>
    cases short with
    | false =>
      refine ⟨_, rfl, _, rfl, iteF ⟨_, rfl, _, rfl, iteF ⟨_, rfl, kl, _, rfl, .inl (SqL.of hk), rfl, _, rfl, iteFb (show decide (V.int ((1 : Nat) : Int) = V.int 0) = false from by decide) ⟨_, rfl, kl, _, rfl, .inl (SqL.of hk), rfl, _, rfl, iteTb (show decide (V.int ((1 : Nat) : Int) = V.int 1) = true from by decide) ⟨_, rfl, kl, _, _, _, rfl, rfl, SqL.of hk, rfl, _, rfl, vl, _, _, _, rfl, rfl, SqL.of hv, rfl, _, rfl, vl, _, _, _, rfl, rfl, SqL.of hv, rfl, _, rfl, vl, _, _, _, rfl, rfl, SqL.of hv, rfl, rfl, fun x dx nx ndx ne => ?_⟩⟩⟩⟩⟩
      exact yc_go hO few lim aa aw ac nx ndx ne (fun z ez d H' s' hd hx => qx z ez d H' s' hd hx) (fun rs ez eo t l H' h1 h2 h3 s' => ⟨rfl, q rs ez eo x dx t l H' s' h1 h2 h3⟩)
    | true =>
      obtain ⟨rfl, rfl, rfl⟩ := (cond rfl).1 rfl
      refine ⟨_, rfl, _, rfl, iteT ⟨_, rfl, kl, _, rfl, .inl (SqL.of hk), rfl, _, rfl, iteTb (show decide (V.int ((1 : Nat) : Int) = V.int 1) = true from by decide) ⟨_, rfl, kl, _, _, _, rfl, rfl, SqL.of hk, rfl, rfl, fun x dx nx ndx ne => ?_⟩⟩⟩
      exact yc_go hO few lim aa aw ac nx ndx ne (fun z ez d H' s' hd hx => qx z ez d H' s' hd hx) (fun rs ez eo t l H' h1 h2 h3 s' => ⟨rfl, q rs ez eo x dx t l H' s' h1 h2 h3⟩)
  | [k0, k1], hk, hO, few, cond =>
    cases short with
    | false =>
      refine ⟨_, rfl, _, rfl, iteF ⟨_, rfl, _, rfl, iteF ⟨_, rfl, kl, _, rfl, .inl (SqL.of hk), rfl, _, rfl, iteFb (show decide (V.int ((2 : Nat) : Int) = V.int 0) = false from by decide) ⟨_, rfl, kl, _, rfl, .inl (SqL.of hk), rfl, _, rfl, iteFb (show decide (V.int ((2 : Nat) : Int) = V.int 1) = false from by decide) ⟨_, rfl, kl, _, rfl, .inl (SqL.of hk), rfl, _, rfl, iteTb (show decide (V.int ((2 : Nat) : Int) = V.int 2) = true from by decide) ⟨_, rfl, kl, _, _, _, rfl, rfl, SqL.of hk, rfl, _, rfl, kl, _, _, _, rfl, rfl, SqL.of hk, rfl, _, rfl, vl, _, _, _, rfl, rfl, SqL.of hv, rfl, _, rfl, vl, _, _, _, rfl, rfl, SqL.of hv, rfl, _, rfl, vl, _, _, _, rfl, rfl, SqL.of hv, rfl, rfl, fun x dx nx ndx ne => ?_⟩⟩⟩⟩⟩⟩
      exact yc_go hO few lim aa aw ac nx ndx ne (fun z ez d H' s' hd hx => qx z ez d H' s' hd hx) (fun rs ez eo t l H' h1 h2 h3 s' => ⟨rfl, q rs ez eo x dx t l H' s' h1 h2 h3⟩)
    | true =>
      obtain ⟨rfl, rfl⟩ := (cond rfl).2 rfl
      refine ⟨_, rfl, _, rfl, iteT ⟨_, rfl, kl, _, rfl, .inl (SqL.of hk), rfl, _, rfl, iteFb (show decide (V.int ((2 : Nat) : Int) = V.int 1) = false from by decide) ⟨_, rfl, _, rfl, iteT ⟨_, rfl, kl, _, rfl, .inl (SqL.of hk), rfl, _, rfl, iteTb (show decide (V.int ((2 : Nat) : Int) = V.int 2) = true from by decide) ⟨_, rfl, kl, _, _, _, rfl, rfl, SqL.of hk, rfl, _, rfl, kl, _, _, _, rfl, rfl, SqL.of hk, rfl, _, rfl, vl, _, _, _, rfl, rfl, SqL.of hv, rfl, rfl, fun x dx nx ndx ne => ?_⟩⟩⟩⟩⟩
      exact yc_go hO few lim aa aw ac nx ndx ne (fun z ez d H' s' hd hx => qx z ez d H' s' hd hx) (fun rs ez eo t l H' h1 h2 h3 s' => ⟨rfl, q rs ez eo x dx t l H' s' h1 h2 h3⟩)
  | [k0, k1, k2], hk, hO, few, cond =>
    cases short with
    | false =>
      refine ⟨_, rfl, _, rfl, iteF ⟨_, rfl, _, rfl, iteF ⟨_, rfl, kl, _, rfl, .inl (SqL.of hk), rfl, _, rfl, iteFb (show decide (V.int ((3 : Nat) : Int) = V.int 0) = false from by decide) ⟨_, rfl, kl, _, rfl, .inl (SqL.of hk), rfl, _, rfl, iteFb (show decide (V.int ((3 : Nat) : Int) = V.int 1) = false from by decide) ⟨_, rfl, kl, _, rfl, .inl (SqL.of hk), rfl, _, rfl, iteFb (show decide (V.int ((3 : Nat) : Int) = V.int 2) = false from by decide) ⟨_, rfl, kl, _, _, _, rfl, rfl, SqL.of hk, rfl, _, rfl, kl, _, _, _, rfl, rfl, SqL.of hk, rfl, _, rfl, kl, _, _, _, rfl, rfl, SqL.of hk, rfl, _, rfl, vl, _, _, _, rfl, rfl, SqL.of hv, rfl, _, rfl, vl, _, _, _, rfl, rfl, SqL.of hv, rfl, _, rfl, vl, _, _, _, rfl, rfl, SqL.of hv, rfl, rfl, fun x dx nx ndx ne => ?_⟩⟩⟩⟩⟩⟩
      exact yc_go hO few lim aa aw ac nx ndx ne (fun z ez d H' s' hd hx => qx z ez d H' s' hd hx) (fun rs ez eo t l H' h1 h2 h3 s' => ⟨rfl, q rs ez eo x dx t l H' s' h1 h2 h3⟩)
    | true =>
      refine ⟨_, rfl, _, rfl, iteT ⟨_, rfl, kl, _, rfl, .inl (SqL.of hk), rfl, _, rfl, iteFb (show decide (V.int ((3 : Nat) : Int) = V.int 1) = false from by decide) ⟨_, rfl, _, rfl, iteT ⟨_, rfl, kl, _, rfl, .inl (SqL.of hk), rfl, _, rfl, iteFb (show decide (V.int ((3 : Nat) : Int) = V.int 2) = false from by decide) ⟨_, rfl, kl, _, rfl, .inl (SqL.of hk), rfl, _, rfl, iteFb (show decide (V.int ((3 : Nat) : Int) = V.int 0) = false from by decide) ⟨_, rfl, kl, _, rfl, .inl (SqL.of hk), rfl, _, rfl, iteFb (show decide (V.int ((3 : Nat) : Int) = V.int 1) = false from by decide) ⟨_, rfl, kl, _, rfl, .inl (SqL.of hk), rfl, _, rfl, iteFb (show decide (V.int ((3 : Nat) : Int) = V.int 2) = false from by decide) ⟨_, rfl, kl, _, _, _, rfl, rfl, SqL.of hk, rfl, _, rfl, kl, _, _, _, rfl, rfl, SqL.of hk, rfl, _, rfl, kl, _, _, _, rfl, rfl, SqL.of hk, rfl, _, rfl, vl, _, _, _, rfl, rfl, SqL.of hv, rfl, _, rfl, vl, _, _, _, rfl, rfl, SqL.of hv, rfl, _, rfl, vl, _, _, _, rfl, rfl, SqL.of hv, rfl, rfl, fun x dx nx ndx ne => ?_⟩⟩⟩⟩⟩⟩⟩⟩
      exact yc_go hO few lim aa aw ac nx ndx ne (fun z ez d H' s' hd hx => qx z ez d H' s' hd hx) (fun rs ez eo t l H' h1 h2 h3 s' => ⟨rfl, q rs ez eo x dx t l H' s' h1 h2 h3⟩)
  | _ :: _ :: _ :: _ :: _, _, _, few, _ => exact absurd few (by rw [List.length_cons, List.length_cons, List.length_cons, List.length_cons]; omega)

end
end Tk
set_option maxRecDepth 100000
namespace Tk
open PySem L2 StK
abbrev sTold : Stmt := top 41
abbrev psTo : List Str := ["_law_kinds", "_law_values", "_law_short"]
abbrev nsTo : List Str := ["_law_kinds", "_law_values", "_law_short", "_law_system", "e", "_law_k"]
def spTold (CS CD CY : Addr) : Sp := fun vs H Q _ => ∃ (kl vl : Addr) (short : Bool) (ks : List V) (os : List (Option KR)) (va vw vc : V), vs = [.ref kl, .ref vl, .bl short] ∧ H kl = some (.lst ks) ∧ OsAt CS CD H ks os ∧ ks.length ≤ 3 ∧ (∀ r, some r ∈ os → 1 ≤ r.m ∧ r.m ≤ 3) ∧
  H vl = some (.lst [va, vw, vc]) ∧ AnyV H va ∧ AnyV H vw ∧ AnyV H vc ∧ (short = true → (ks.length = 1 → va = .int 0 ∧ vw = .non ∧ vc = .int 0) ∧ (ks.length = 2 → va = .int 0 ∧ vc = .int 0)) ∧
  (∀ z, yWhy os va vw vc = some z → ∀ (u : Addr) (H' : Hp), Same H H' → H' u = some (.tup [.str "refused", .str z]) → Q (.ref u) H') ∧
  (∀ rs, yWhy os va vw vc = none → os = rs.map some → ∀ (u l : Addr) (H' : Hp), Same H H' → H' u = some (.tup [.str "made", va, vw, vc, .ref l]) → H' l = some (.tup ((sess rs).map V.str)) → Q (.ref u) H')
theorem kEq_refl {n : Str} {S : List Stm} {b m h : Int} (ok : okAll 0 S h) : kEq n n S S b b m m = true := by
  unfold kEq
  rw [sEq_refl ok]
  simp
section
variable {P : Program} {w : World} {K : PySem.W.Frag} {mg : Str → Option Value} {base : Heap} {CS CK CD CY CBY CBK CT KD it : Addr}
theorem scTo : FnScope nsTo psTo (defScope sTold) := ⟨rfl, rfl, rfl, by decide +kernel, rfl, by decide +kernel, by decide +kernel⟩
theorem ok_told {f fM fX fE : Addr} {fd fdM fdE : FuncData} (F : Fun K "_law_told" "_law_told" sTold f fd) (B : Bl mg) (T : Txt K w mg CS CK it) (U : TxK K mg CS CD) (G : FY K CY) (TB : Ecl K mg "BadSystem" "why" CBY fX)
    (mK : mg "BadKind" = some (.ref CBK)) (mT : mg "TakeError" = some (.ref CT)) (k1 : PySem.W.kitOne K (.ref CBY) (.ref CBK) = some false) (k2 : PySem.W.kitOne K (.ref CBY) (.ref CT) = some true)
    (OD : OwnEq K CD fE) (GE : FnOk P w K mg base CX0 2 fE fdE ["self", "other"] (spDEq CS CD)) (bE : Binds K fdE ["self", "other"] [])
    (GM : FnOk P w K mg base (L2.CX P w) 6 fM fdM psTo (spMade CS CD CY CBY)) (bM : Binds K fdM psTo []) (kM : PySem.W.keepIn K (.ref fM) = true) (mM : mg "_law_made" = some (.ref fM)) :
    FnOk P w K mg base CX0 7 f fd psTo (spTold CS CD CY) := by
  refine F.ok scTo (fun vs H Q E h => ?_) (fun cdv A outer s H vs Q E hr h => ?_)
  · obtain ⟨kl, vl, short, ks, os, va, vw, vc, rfl, _⟩ := h
    rfl
  obtain ⟨kl, vl, short, ks, os, va, vw, vc, rfl, hk, hO, few, lim, hv, aa, aw, ac, cond, qx, q⟩ := h
  have nd := scTo.nd
  refine ⟨_, pss_cons (ps_try_as (i := 4) rfl rfl nd rfl rfl ⟨rfl, by decide, .inl TB.gC⟩ takes0
      (fun W pn xe tk _ => pss_one (ps_set (i := 3) nd rfl (Or.inl rfl) (pe_callS GM hr rfl mM kM bM (fun σ => passAt tk σ) (pa_cons (pv 0) (pa_cons (pv 1) (pa_cons (pv 2) pa_nil))))))
      (fun a oe cls d pn hz hf => pss_cons (ps_if (PW.pt (pw_or (pt_val (pe_callB (call_isX TB hz hf) (by rfl) T.isi (by decide +kernel) (pa_cons (pv 4) (pa_cons (pe_glob (v := .ref CBK) (by rfl) mK rfl) pa_nil))))
          (pw_or1 (pt_not (pt_val (pe_callB (call_isX TB hz hf) (by rfl) T.isi (by decide +kernel) (pa_cons (pv 4) (pa_cons (pe_glob (v := .ref CT) (by rfl) mT rfl) pa_nil)))))))) (pss_one (ps_ret (pe_tup (pa_cons pe_str pa_nil)))) pss_nil)
        (pss_one (ps_ret (pe_tup (pa_cons pe_str (pa_cons (pe_xf TB.xf TB.noF hz hf (pv 4)) pa_nil)))))))
    (pss_cons (ps_if (PW.pt (pw_or (pt_not (pt_val (pe_callB call_isi (by rfl) T.isi (by decide +kernel) (pa_cons (pe_fld (pv 3) rfl) (pa_cons (pe_bltn (v := .ty "tuple") (by rfl) B.tuple (by decide +kernel) rfl) pa_nil)))))
        (pw_or1 (pt_cmpR op_ne (pe_callB call_len_seq (by rfl) B.len PySem.boot_len (pa_cons (pe_fld (pv 3) rfl) pa_nil)) (pe_callB call_len_seq (by rfl) B.len PySem.boot_len (pa_cons (pv 0) pa_nil)) (nomark _))))) (pss_one ps_never) pss_nil)
    (pss_cons (ps_for PassesOwn.never rfl (pi_range1 rfl B.range (pa_cons (pe_callB call_len_seq (by rfl) B.len PySem.boot_len (pa_cons (pv 0) pa_nil)) pa_nil)) (pg_name (i := 5) nd rfl (Or.inl rfl))
      (pss_one (ps_if (pt_not (pt_cmpR (op_eqOwn OD GE (hr.mono (by decide)) bE pass0) (pe_ix ix_tup (pe_fld (pv 3) rfl) (pv 5) (fun _ _ => rfl)) (pe_ix ix_list (pv 0) (pv 5) (fun _ _ => rfl)) (nomark _))) (pss_one ps_never) pss_nil)))
    (pss_one (ps_ret (pe_tup (pa_cons pe_str (pa_cons (pe_fld (pv 3) rfl) (pa_cons (pe_fld (pv 3) rfl) (pa_cons (pe_fld (pv 3) rfl) (pa_cons (pe_fld (pv 3) rfl) pa_nil)))))))))), ?_⟩
  refine ⟨_, rfl, _, rfl, _, rfl, kl, vl, short, ks, os, va, vw, vc, rfl, hk, hO, few, lim, hv, aa, aw, ac, cond, fun z ez d H' s1 hd hx => ?_, fun rs ez eo y dx t l H1 s1 hy ht hl => ?_⟩
  · refine ⟨true, TB.te, fun _ a ha => ?_, fun z => nomatch z⟩
    refine ⟨_, rfl, .ref CBK, _, false, d, _, rfl, rfl, hx, rfl, (fun u z => z), k1, false, rfl, iteF ?_⟩
    refine ⟨_, rfl, .ref CT, _, true, d, _, rfl, rfl, hx, rfl, (fun u z => z), k2, true, rfl, iteF ?_⟩
    refine ⟨_, rfl, rfl, rfl, d, _, _, rfl, hx, rfl, (by show 2 ≤ sizeLine; decide), fun u hu => ?_⟩
    exact qx z ez u _ (s1.trans (same_new hu _)) upd_same
  have cl := G.isY.cl
  have hk1 := s1 _ _ hk
  refine ⟨_, rfl, y, CY, dx, _, _, rfl, hy, cl, G.nK, fldY_k _ _ _ _ _, .ref t, _, _, _, true, rfl, .ty "tuple", .base (.tup ht), kit_ty (by decide +kernel), true, rfl, iteF ?_⟩
  refine ⟨_, rfl, y, CY, dx, _, _, rfl, hy, cl, G.nK, fldY_k _ _ _ _ _, t, _, rfl, .inr (SqT.of ht), _, rfl, kl, _, rfl, .inl (SqL.of hk1), rfl, _, rfl, iteFb (by simp) ?_⟩
  refine ⟨_, rfl, kl, _, rfl, .inl (SqL.of hk1), _, rfl, by omega, by omega, ?_⟩
  subst eo
  have hR := (hO.all (by simp)).imp fun rs' h => h.2
  refine for_range (lo := 0) (n := ((ks.length : Nat) : Int).toNat) (fun i σ H2 => ∃ v5 : Option V, σ = [some (.ref kl), some (.ref vl), some (.bl short), some (.ref y), none, v5] ∧ Same H1 H2) ⟨_, rfl, Same.refl _⟩ ?_ ?_
  · rintro i σ H2 hi ⟨v5, rfl, s2⟩
    have lt : i < ks.length := by omega
    obtain ⟨rs', hR'⟩ := hR
    obtain ⟨r, er, k, ek, hkd⟩ := (hR'.keep (s1.trans s2)).at (List.getElem?_eq_getElem lt)
    have at_ : atI ks (0 + (i : Int)) = some (.ref k) := by
      rw [show (0 : Int) + (i : Int) = ((i : Nat) : Int) from by omega, ← ek]
      exact atI_nat (List.getElem?_eq_getElem lt)
    obtain ⟨dk, x, tt, hk2, hx⟩ := id hkd
    refine ⟨_, rfl, y, CY, dx, _, _, rfl, s2 _ _ hy, cl, G.nK, fldY_k _ _ _ _ _, _, rfl, t, ks, _, _, rfl, rfl, SqT.of (s2 _ _ ht), at_, _, rfl, _, rfl, kl, ks, _, _, rfl, rfl, SqL.of (s2 _ _ hk1), at_, ?_⟩
    refine ⟨k, k, dk, dk, _, _, rfl, rfl, hk2, hk2, k, k, r.n, r.n, r.S, r.S, r.b, r.b, r.m, r.m, rfl, hkd, hkd, _, rfl, _, rfl, ?_⟩
    refine iteFb (by rw [kEq_refl hx.ok]; rfl) ⟨_, rfl, s2⟩
  · rintro σ H2 ⟨v5, rfl, s2⟩
    have hy2 := s2 _ _ hy
    refine ⟨_, rfl, y, CY, dx, _, _, rfl, hy2, cl, G.nA, fldY_a _ _ _ _ _, _, rfl, y, CY, dx, _, _, rfl, hy2, cl, G.nW, fldY_w _ _ _ _ _, _, rfl, y, CY, dx, _, _, rfl, hy2, cl, G.nC, fldY_c _ _ _ _ _, _, rfl, y, CY, dx, _, _, rfl, hy2, cl, G.nL, fldY_l _ _ _ _ _, (by show 5 ≤ sizeLine; decide), fun u hu => ?_⟩
    exact q rs ez rfl u l _ ((s1.trans s2).trans (same_new hu _)) upd_same ((same_new hu _) _ _ (s2 _ _ hl))
end
end Tk
set_option maxRecDepth 100000
namespace Tk
open PySem L2 StK
abbrev sInteger : Stmt := top 42
abbrev sDue : Stmt := top 43
def spInteger : Sp := fun vs H Q _ => ∃ (v : V) (T : String) (lo hi : Int), vs = [v, .int lo, .int hi] ∧ Kd H v T ∧ Q (.bl (inB v lo hi)) H
def RowAt (H : Hp) (v : V) (r : KR) : Prop := ∃ t, v = .ref t ∧ H t = some (.tup [.str r.n, .int r.b, .int r.m, .int ((cntAll r.S : Nat) : Int)])
inductive RsAt (H : Hp) : List V → List KR → Prop
  | nil : RsAt H [] []
  | cons {v : V} {r : KR} {vs : List V} {rs : List KR} (h : RowAt H v r) (t : RsAt H vs rs) : RsAt H (v :: vs) (r :: rs)
section
variable {H H' : Hp} {vs : List V} {rs : List KR}
theorem RsAt.len (h : RsAt H vs rs) : vs.length = rs.length := by
  induction h with
  | nil => rfl
  | cons _ _ ih => rw [List.length_cons, List.length_cons, ih]
theorem RsAt.tk (s : TK H H') (h : RsAt H vs rs) : RsAt H' vs rs := by
  induction h with
  | nil => exact .nil
  | cons h _ ih =>
    obtain ⟨t, e, h⟩ := h
    exact .cons ⟨t, e, s _ _ h⟩ ih
theorem RsAt.at {v : V} : ∀ {vs : List V} {rs : List KR} {i : Nat}, RsAt H vs rs → vs[i]? = some v → ∃ r, rs[i]? = some r ∧ RowAt H v r
  | _, _, 0, .cons h _, q => ⟨_, rfl, Option.some.inj q ▸ h⟩
  | _, _, i + 1, .cons _ t, q => RsAt.at (i := i) t q
theorem RsAt.snoc {v : V} {r : KR} (h : RsAt H vs rs) (g : RowAt H v r) : RsAt H (vs ++ [v]) (rs ++ [r]) := by
  induction h with
  | nil => exact .cons g .nil
  | cons h _ ih => exact .cons h ih
end
theorem many_full {xs : List Str} : ∀ i, i ≤ xs.length → (∀ j, j < i → (xs.take j).any (· == xs.getD j Str.empty) = false) → LenS.many xs i = i
  | 0, _, _ => rfl
  | i + 1, h, g => by
    unfold LenS.many
    rw [g i (Nat.lt_succ_self i), many_full i (by omega) fun j hj => g j (by omega)]
    rfl
theorem many_less {xs : List Str} : ∀ i j, j < i → (xs.take j).any (· == xs.getD j Str.empty) = true → LenS.many xs i < i
  | 0, j, h, _ => absurd h (Nat.not_lt_zero j)
  | i + 1, j, h, g => by
    unfold LenS.many
    rcases Nat.lt_succ_iff_lt_or_eq.mp h with h | rfl
    · have := many_less i j h g
      split <;> omega
    · rw [if_pos g]
      have := LenS.many_le xs j
      omega
theorem cut_takeS (ws : List Str) (k : Nat) (h : k ≤ ws.length) : cutV (ws.map V.str) none (some (k : Int)) = (ws.take k).map V.str := by
  unfold cutV
  rw [HT.sIx_none, HT.sIx_nat, List.map_take, List.length_map, Nat.min_eq_left h, Nat.sub_zero, List.drop_zero]
theorem flat_strs (ws : List Str) : (ws.map V.str).all flatV = true := by
  rw [List.all_map]
  exact List.all_eq_true.mpr fun _ _ => rfl
theorem inV_strs (z : Str) (ws : List Str) : inV (.str z) (ws.map V.str) = ws.any (· == z) := by
  unfold inV
  rw [List.any_map]
  rfl
/-- what the law expects -/
def yDue (strange : Bool) (rs : List KR) (va vw vc : V) : Option Str := yWhy (if strange then [none] else rs.map some) va vw vc
theorem yDue_no {rs : List KR} {va vw vc : V} (h : areB rs = false) : yDue false rs va vw vc = (some ("kinds" : Str) : Option Str) := by
  show yWhy (rs.map some) va vw vc = _
  unfold yWhy
  rw [if_pos (by rw [aresB_some]; exact h)]
def yRest (rs : List KR) (va vw vc : V) : Option Str :=
  if sumM rs = 3 ∧ 4 < maxS rs then some "size" else
  if inB va 0 4 = false then some "ahead" else
  if isNon vw = false ∧ inB vw (maxB rs) 8 = false then some "window" else
  if inB vc 0 2 = false then some "crashes" else none
theorem yDue_yes {rs : List KR} {va vw vc : V} (h : areB rs = true) : yDue false rs va vw vc = yRest rs va vw vc := by
  show yWhy (rs.map some) va vw vc = _
  unfold yWhy
  have ef : (rs.map some).filterMap id = rs := by simp
  rw [if_neg (by rw [aresB_some, h]; decide), ef]
  rfl
def spDue : Sp := fun vs H Q _ => ∃ (rl vl : Addr) (strange : Bool) (rvs : List V) (rs : List KR) (va vw vc : V), vs = [.ref rl, .bl strange, .ref vl] ∧ H rl = some (.lst rvs) ∧ RsAt H rvs rs ∧ rs.length ≤ 3 ∧ (∀ r ∈ rs, 1 ≤ r.m ∧ r.m ≤ 3) ∧ H vl = some (.lst [va, vw, vc]) ∧ AnyV H va ∧ AnyV H vw ∧ AnyV H vc ∧
  (∀ z, yDue strange rs va vw vc = some z → ∀ (u : Addr) (H' : Hp), Same H H' → H' u = some (.tup [.str "refused", .str z]) → Q (.ref u) H') ∧
  (yDue strange rs va vw vc = none → ∀ (u l : Addr) (H' : Hp), Same H H' → H' u = some (.tup [.str "made", va, vw, vc, .ref l]) → H' l = some (.tup ((sess rs).map V.str)) → Q (.ref u) H')
abbrev nsDu : List Str := ["_law_rows", "_law_strange", "_law_values", "_law_names_here", "_law_k", "_law_sessions", "_law_row"]
section
variable {P : Program} {w : World} {K : PySem.W.Frag} {mg : Str → Option Value} {base : Heap} {CS CK it : Addr}
theorem scIt : FnScope ["_law_value_here", "_law_least", "_law_most"] ["_law_value_here", "_law_least", "_law_most"] (defScope sInteger) := ⟨rfl, rfl, rfl, by decide +kernel, rfl, by decide +kernel, by decide +kernel⟩
theorem ok_integer {f : Addr} {fd : FuncData} (F : Fun K "_law_integer" "_law_integer" sInteger f fd) (B : Bl mg) (T : Txt K w mg CS CK it) : FnOk P w K mg base CX0 1 f fd ["_law_value_here", "_law_least", "_law_most"] spInteger := by
  refine F.ok scIt (fun vs H Q E h => ?_) (fun cdv A outer s H vs Q E hr h => ?_)
  · obtain ⟨v, T', lo, hi, rfl, _⟩ := h
    rfl
  obtain ⟨v, T', lo, hi, rfl, k, q⟩ := h
  obtain ⟨b1, b2, k1, k2, eb⟩ := k.intB
  refine ⟨_, pss_one (ps_ret (pe_and (pe_callB call_isi (by rfl) T.isi (by decide +kernel) (pa_cons (pv 0) (pa_cons (pe_bltn (v := .ty "int") (by rfl) B.int (by decide +kernel) rfl) pa_nil)))
    (pe_and (pe_not (pe_callB call_isi (by rfl) T.isi (by decide +kernel) (pa_cons (pv 0) (pa_cons (pe_bltn (v := .ty "bool") (by rfl) T.bool (by decide +kernel) rfl) pa_nil)))) (pe_one (pe_chain op_le op_le (pv 1) (pv 0) (pv 2)))))), ?_⟩
  refine ⟨_, rfl, v, _, _, _, b1, rfl, .ty "int", k.ty, kit_ty k1, b1, rfl, ?_⟩
  cases b1 with
  | false => rw [inB_no (v := v) (by rw [← eb]; rfl)] at q; exact iteF q
  | true =>
  refine iteT ⟨_, rfl, v, _, _, _, b2, rfl, .ty "bool", k.ty, kit_ty k2, _, rfl, _, rfl, ?_⟩
  cases b2 with
  | true => rw [inB_no (v := v) (by rw [← eb]; rfl)] at q; exact iteFb rfl q
  | false =>
  obtain ⟨i, rfl⟩ := intB_int (v := v) (by rw [← eb]; rfl)
  have q' : Q (.bl (decide (lo ≤ i) && decide (i ≤ hi))) H := q
  refine iteTb rfl ⟨_, rfl, _, rfl, _, _, rfl, rfl, _, rfl, ?_⟩
  by_cases c : lo ≤ i
  · rw [decide_eq_true c, Bool.true_and] at q'
    exact iteTb (decide_eq_true c) ⟨_, rfl, _, _, rfl, rfl, q'⟩
  · rw [decide_eq_false c, Bool.false_and] at q'
    exact iteFb (decide_eq_false c) q'
theorem scDu : FnScope nsDu ["_law_rows", "_law_strange", "_law_values"] (defScope sDue) := ⟨rfl, rfl, rfl, by decide +kernel, rfl, by decide +kernel, by decide +kernel⟩
theorem ok_due {f fI : Addr} {fd fdI : FuncData} (F : Fun K "_law_due" "_law_due" sDue f fd) (B : Bl mg) (T : Txt K w mg CS CK it) (hSum : mg "sum" = none)
    (GI : FnOk P w K mg base CX0 1 fI fdI ["_law_value_here", "_law_least", "_law_most"] spInteger) (bI : Binds K fdI ["_law_value_here", "_law_least", "_law_most"] []) (kI : PySem.W.keepIn K (.ref fI) = true) (mI : mg "_law_integer" = some (.ref fI)) :
    FnOk P w K mg base CX0 2 f fd ["_law_rows", "_law_strange", "_law_values"] spDue := by
  refine F.ok scDu (fun vs H Q E h => ?_) (fun cdv A outer s H vs Q E hr h => ?_)
  · obtain ⟨rl, vl, strange, rvs, rs, va, vw, vc, rfl, _⟩ := h
    rfl
  obtain ⟨rl, vl, strange, rvs, rs, va, vw, vc, rfl, hr0, hR, few, lim, hv, ⟨Ta, ka⟩, ⟨Tw, kw⟩, ⟨Tc, kc⟩, qx, q⟩ := h
  refine ⟨_, (pss_cons (ps_setLc (i := 3) (own := [("_law_row", 6)]) (g := gName 6) (tt := tYes) rfl scDu.nd rfl rfl (sw_true rfl rfl rfl (by decide +kernel)) (pi_list (pv 0)) (blkOk_by (own := [("_law_row", 6)]) (N := nsDu) (sc := defScope sDue) (by decide +kernel)) (fun _ _ _ _ _ => pg_name (i := 6) scDu.nd rfl (Or.inl rfl)) (fun _ _ _ _ _ => pts_nil) (fun _ _ _ _ _ => pe_ix (r := rIxT K) ix_tup (pv 6) (pe_int) (fun _ _ => rfl)))
 (C8.pss_cut (ps_if (PW.pt (pw_or (pt_val (pv 1)) (pw_or (pt_cmpR op_eq (pe_callB call_len_seq (by rfl) B.len PySem.boot_len (pa_cons (pv 0) pa_nil)) (pe_int) (nomark _)) (pw_or1 (pt_cmpR op_gt (pe_callB (cr_sum rfl) (by rfl) hSum (by decide +kernel) (pa_cons (pe_lc (own := [("_law_row", 6)]) (g := gName 6) (tt := tYes) rfl scDu.nd (pi_list (pv 0)) (blkOk_by (own := [("_law_row", 6)]) (N := nsDu) (sc := defScope sDue) (by decide +kernel)) (fun _ _ _ _ _ => pg_name (i := 6) scDu.nd rfl (Or.inl rfl)) (fun _ _ _ _ _ => pts_nil) (fun _ _ _ _ _ => pe_ix (r := rIxT K) ix_tup (pv 6) (pe_int) (fun _ _ => rfl))) pa_nil)) (pe_int) (nomark _)))))) (pss_one (ps_ret (pe_tup (pa_cons (pe_str) (pa_cons (pe_str) pa_nil))))) pss_nil)
 (pss_cons (ps_for PassesOwn.never rfl (pi_range1 rfl B.range (pa_cons (pe_callB call_len_seq (by rfl) B.len PySem.boot_len (pa_cons (pv 3) pa_nil)) pa_nil)) (pg_name (i := 4) scDu.nd rfl (Or.inl rfl)) (pss_one (ps_if (pt_cmpR op_in_seq (pe_ix ix_list (pv 3) (pv 4) (fun _ _ => rfl)) (pe_slice sl_list (pv 3) po_none (po_some (pv 4))) (by rfl)) (pss_one (ps_ret (pe_tup (pa_cons (pe_str) (pa_cons (pe_str) pa_nil))))) pss_nil)))
 (C8.pss_cut (ps_if (PW.pt (pw_and (pt_cmpR op_eq (pe_callB (cr_sum rfl) (by rfl) hSum (by decide +kernel) (pa_cons (pe_lc (own := [("_law_row", 6)]) (g := gName 6) (tt := tYes) rfl scDu.nd (pi_list (pv 0)) (blkOk_by (own := [("_law_row", 6)]) (N := nsDu) (sc := defScope sDue) (by decide +kernel)) (fun _ _ _ _ _ => pg_name (i := 6) scDu.nd rfl (Or.inl rfl)) (fun _ _ _ _ _ => pts_nil) (fun _ _ _ _ _ => pe_ix (r := rIxT K) ix_tup (pv 6) (pe_int) (fun _ _ => rfl))) pa_nil)) (pe_int) (nomark _)) (pw_and1 (pt_cmpR op_gt (pe_callB (cr_max rfl) (by rfl) B.max (by decide +kernel) (pa_cons (pe_lc (own := [("_law_row", 6)]) (g := gName 6) (tt := tYes) rfl scDu.nd (pi_list (pv 0)) (blkOk_by (own := [("_law_row", 6)]) (N := nsDu) (sc := defScope sDue) (by decide +kernel)) (fun _ _ _ _ _ => pg_name (i := 6) scDu.nd rfl (Or.inl rfl)) (fun _ _ _ _ _ => pts_nil) (fun _ _ _ _ _ => pe_ix (r := rIxT K) ix_tup (pv 6) (pe_int) (fun _ _ => rfl))) pa_nil)) (pe_int) (nomark _))))) (pss_one (ps_ret (pe_tup (pa_cons (pe_str) (pa_cons (pe_str) pa_nil))))) pss_nil)
 (pss_cons (ps_if (pt_not (pt_val (pe_call GI (hr.mono (by decide)) rfl mI kI bI .nil pass0 (pa_cons (pe_ix ix_list (pv 2) (pe_int) (fun _ _ => rfl)) (pa_cons (pe_int) (pa_cons (pe_int) pa_nil)))))) (pss_one (ps_ret (pe_tup (pa_cons (pe_str) (pa_cons (pe_str) pa_nil))))) pss_nil)
 (C8.pss_cut (ps_if (PW.pt (pw_and (pt_cmpR op_notN (pe_ix ix_list (pv 2) (pe_int) (fun _ _ => rfl)) pe_non (nomark _)) (pw_and1 (pt_not (pt_val (pe_call GI (hr.mono (by decide)) rfl mI kI bI .nil pass0 (pa_cons (pe_ix ix_list (pv 2) (pe_int) (fun _ _ => rfl)) (pa_cons (pe_callB (cr_max rfl) (by rfl) B.max (by decide +kernel) (pa_cons (pe_lc (own := [("_law_row", 6)]) (g := gName 6) (tt := tYes) rfl scDu.nd (pi_list (pv 0)) (blkOk_by (own := [("_law_row", 6)]) (N := nsDu) (sc := defScope sDue) (by decide +kernel)) (fun _ _ _ _ _ => pg_name (i := 6) scDu.nd rfl (Or.inl rfl)) (fun _ _ _ _ _ => pts_nil) (fun _ _ _ _ _ => pe_ix (r := rIxT K) ix_tup (pv 6) (pe_int) (fun _ _ => rfl))) pa_nil)) (pa_cons (pe_int) pa_nil))))))))) (pss_one (ps_ret (pe_tup (pa_cons (pe_str) (pa_cons (pe_str) pa_nil))))) pss_nil)
 (pss_cons (ps_if (pt_not (pt_val (pe_call GI (hr.mono (by decide)) rfl mI kI bI .nil pass0 (pa_cons (pe_ix ix_list (pv 2) (pe_int) (fun _ _ => rfl)) (pa_cons (pe_int) (pa_cons (pe_int) pa_nil)))))) (pss_one (ps_ret (pe_tup (pa_cons (pe_str) (pa_cons (pe_str) pa_nil))))) pss_nil)
 (pss_cons (ps_set (i := 5) scDu.nd rfl (Or.inl rfl) (pe_lst pa_nil))
 (pss_cons (ps_for PassesOwn.never rfl (pi_list (pv 0)) (pg_name (i := 6) scDu.nd rfl (Or.inl rfl)) (pss_one (ps_set (i := 5) scDu.nd rfl (Or.inl rfl) (pe_op op_cat (pv 5) (pe_op op_rep (pe_lst (pa_cons (pe_ix ix_tup (pv 6) (pe_int) (fun _ _ => rfl)) pa_nil)) (pe_ix ix_tup (pv 6) (pe_int) (fun _ _ => rfl)))))))
 (pss_one (ps_ret (pe_tup (pa_cons (pe_str) (pa_cons (pe_ix ix_list (pv 2) (pe_int) (fun _ _ => rfl)) (pa_cons (pe_ix ix_list (pv 2) (pe_int) (fun _ _ => rfl)) (pa_cons (pe_ix ix_list (pv 2) (pe_int) (fun _ _ => rfl)) (pa_cons (pe_callTy call_tuple_of (by rfl) B.tuple (by decide +kernel) (pa_cons (pv 5) pa_nil)) pa_nil))))))))))))))))), ?_⟩
  have er0 : rvs.length = rs.length := hR.len
  refine ⟨_, rfl, rl, rfl, ⟨_, SqL.of hr0⟩, fun N hN => ?_⟩
  refine lc_list (K := K) (a := rl) (xs := rvs) (fun i H2 => H2 N = some (.lst (((rs.take i).map KR.n).map V.str)) ∧ Same H H2 ∧ i ≤ rs.length) ⟨upd_same, same_new hN _, Nat.zero_le _⟩ (fun i H2 _ z => SqL.of (z.2.1 _ _ ((Same.refl H) _ _ hr0))) ?_ ?_
  · rintro i v H2 hv' ⟨h2, s2, _⟩
    obtain ⟨r, er, t, rfl, ht⟩ := hR.at hv'
    refine ⟨rfl, ?_⟩
    unfold tYes
    dsimp only
    rw [if_pos rfl]
    exact ⟨_, rfl, t, _, _, _, rfl, rfl, SqT.of (s2 _ _ ((Same.refl H) _ _ ht)), rfl, tail1 (g := V.str) (φ := KR.n) er (by omega) hN h2 s2 (Same.refl _)⟩
  rintro H1 ⟨hn, s1, _⟩
  rw [er0, List.take_length] at hn
  refine ⟨fun σ' H' => σ' = [some (.ref rl), some (.bl strange), some (.ref vl), some (.ref N), none, none, none] ∧ Same H1 H' ∧ strange = false ∧ rs ≠ [] ∧ sumM rs ≤ 3, ?_, ?_⟩
  · refine ⟨_, rfl, _, rfl, ?_⟩
    cases strange with
    | true =>
      exact iteT ⟨(by show 2 ≤ sizeLine; decide), fun u hu => qx "kinds" (by unfold yDue; rw [if_pos rfl]; rfl) u _ ((s1).trans (same_new hu _)) upd_same⟩
    | false =>
    refine iteF ⟨_, rfl, rl, _, rfl, .inl (SqL.of (s1 _ _ hr0)), rfl, _, rfl, ?_⟩
    by_cases e0 : rs = []
    · subst e0
      refine iteTb (by rw [er0]; rfl) ?_
      exact ⟨(by show 2 ≤ sizeLine; decide), fun u hu => qx "kinds" rfl u _ ((s1).trans (same_new hu _)) upd_same⟩
    refine iteFb (by
      rw [er0]
      refine decide_eq_false fun z => e0 (List.eq_nil_of_length_eq_zero ?_)
      injection z with z
      omega) ?_
    refine ⟨_, rfl, rl, rfl, ⟨_, SqL.of (s1 _ _ hr0)⟩, fun D hD => ?_⟩
    refine lc_list (K := K) (a := rl) (xs := rvs) (fun i H2 => H2 D = some (.lst (((rs.take i).map KR.m).map V.int)) ∧ Same H1 H2 ∧ i ≤ rs.length) ⟨upd_same, same_new hD _, Nat.zero_le _⟩ (fun i H2 _ z => SqL.of (z.2.1 _ _ (s1 _ _ hr0))) ?_ ?_
    · rintro i v H2 hv' ⟨h2, s2, _⟩
      obtain ⟨r, er, t, rfl, ht⟩ := hR.at hv'
      refine ⟨rfl, ?_⟩
      unfold tYes
      dsimp only
      rw [if_pos rfl]
      exact ⟨_, rfl, t, _, _, _, rfl, rfl, SqT.of (s2 _ _ (s1 _ _ ht)), rfl, tail1 (g := V.int) (φ := KR.m) er (by omega) hD h2 s2 (Same.refl _)⟩
    rintro H2 ⟨h2, s2, _⟩
    rw [er0, List.take_length] at h2
    refine ⟨D, _, rfl, SqL.of h2, _, _, rfl, rfl, _, rfl, ite2 (fun c => ?_) (fun c => ?_)⟩
    · have c3 : 3 < sumM rs := of_decide_eq_true c
      refine ⟨(by show 2 ≤ sizeLine; decide), fun u hu => qx "kinds" ?_ u _ (((s1.trans s2)).trans (same_new hu _)) upd_same⟩
      refine yDue_no ?_
      unfold areB
      rw [decide_eq_false (show ¬ sumM rs ≤ 3 by omega), Bool.and_false]
    · have c3 : ¬ (3 < sumM rs) := fun z => c (decide_eq_true z)
      exact ⟨rfl, s2, rfl, e0, by omega⟩
  rintro σ' H2 ⟨rfl, s12, rfl, ne, sm⟩
  have hn2 := s12 _ _ hn
  have s02 := s1.trans s12
  have ln : (((rs.map KR.n).map V.str).length : Nat) = rs.length := by rw [List.length_map, List.length_map]
  refine ⟨_, rfl, N, _, rfl, .inl (SqL.of hn2), _, rfl, by rw [ln]; omega, by rw [ln]; omega, ?_⟩
  refine for_range (lo := 0) (n := ((((rs.map KR.n).map V.str).length : Nat) : Int).toNat) (fun i σ H3 => ∃ v4 : Option V, σ = [some (.ref rl), some (.bl false), some (.ref vl), some (.ref N), v4, none, none] ∧ Same H2 H3 ∧ i ≤ rs.length ∧ ∀ j, j < i → ((rs.map KR.n).take j).any (· == (rs.map KR.n).getD j Str.empty) = false) ⟨_, rfl, Same.refl _, Nat.zero_le _, fun j h => absurd h (Nat.not_lt_zero j)⟩ ?_ ?_
  · rintro i σ H3 hi ⟨v4, rfl, s3, _, hno⟩
    rw [ln] at hi
    have lt : i < rs.length := by omega
    have ei : (0 : Int) + (i : Int) = ((i : Nat) : Int) := by omega
    have ltn : i < (rs.map KR.n).length := by rw [List.length_map]; exact lt
    have hn3 := s3 _ _ hn2
    have at_ : atI ((rs.map KR.n).map V.str) (0 + (i : Int)) = some (.str (rs.map KR.n)[i]) := by
      rw [ei]
      exact atI_nat (by rw [List.getElem?_map, List.getElem?_eq_getElem ltn]; rfl)
    refine ⟨_, rfl, _, rfl, N, _, _, _, rfl, rfl, SqL.of hn3, at_, _, rfl, _, rfl, _, rfl, N, _, rfl, SqL.of hn3, fun c1 hc1 => ?_⟩
    rw [ei, cut_takeS _ i (by omega)]
    refine ⟨c1, _, rfl, .inl (SqL.of upd_same), rfl, flat_strs _, _, rfl, ?_⟩
    rw [inV_strs]
    have eg : (rs.map KR.n).getD i Str.empty = (rs.map KR.n)[i] := by rw [List.getD_eq_getElem?_getD, List.getElem?_eq_getElem ltn]; rfl
    cases ea : ((rs.map KR.n).take i).any (· == (rs.map KR.n)[i]) with
    | true =>
      refine iteT ⟨(by show 2 ≤ sizeLine; decide), fun u hu => qx "kinds" ?_ u _ ((((s02.trans s3).trans (same_new hc1 _))).trans (same_new hu _)) upd_same⟩
      refine yDue_no ?_
      unfold areB dupB
      have := many_less (xs := rs.map KR.n) rs.length i lt (by rw [eg]; exact ea)
      rw [decide_eq_true this]
      simp
    | false =>
      refine iteF ⟨_, rfl, s3.trans (same_new hc1 _), lt, fun j hj => ?_⟩
      rcases Nat.lt_succ_iff_lt_or_eq.mp hj with h | rfl
      · exact hno j h
      · rw [eg]; exact ea
  rintro σ H3 ⟨v4, rfl, s3, _, hno⟩
  rw [ln] at hno
  have hA : areB rs = true := by
    unfold areB dupB
    have := many_full (xs := rs.map KR.n) rs.length (by rw [List.length_map]; exact Nat.le_refl _) fun j hj => hno j (by omega)
    rw [this, decide_eq_false (Nat.lt_irrefl _), decide_eq_true sm]
    cases rs with
    | nil => exact absurd rfl ne
    | cons _ _ => rfl
  rw [yDue_yes hA] at q qx
  unfold yRest at q qx
  have s03 := s02.trans s3
  clear hno hn hn2 s12 s3 s02 s1
  refine ⟨fun σ' H' => σ' = [some (.ref rl), some (.bl false), some (.ref vl), some (.ref N), v4, none, none] ∧ Same H H' ∧ ¬ (sumM rs = 3 ∧ 4 < maxS rs), ?_, ?_⟩
  · refine ⟨_, rfl, rl, rfl, ⟨_, SqL.of (s03 _ _ hr0)⟩, fun D hD => ?_⟩
    refine lc_list (K := K) (a := rl) (xs := rvs) (fun i H2 => H2 D = some (.lst (((rs.take i).map KR.m).map V.int)) ∧ Same H3 H2 ∧ i ≤ rs.length) ⟨upd_same, same_new hD _, Nat.zero_le _⟩ (fun i H2 _ z => SqL.of (z.2.1 _ _ (s03 _ _ hr0))) ?_ ?_
    · rintro i v H2 hv' ⟨h2, s2, _⟩
      obtain ⟨r, er, t, rfl, ht⟩ := hR.at hv'
      refine ⟨rfl, ?_⟩
      unfold tYes
      dsimp only
      rw [if_pos rfl]
      exact ⟨_, rfl, t, _, _, _, rfl, rfl, SqT.of (s2 _ _ (s03 _ _ ht)), rfl, tail1 (g := V.int) (φ := KR.m) er (by omega) hD h2 s2 (Same.refl _)⟩
    rintro H4 ⟨h4, s4, _⟩
    rw [er0, List.take_length] at h4
    have s04 := s03.trans s4
    refine ⟨D, _, rfl, SqL.of h4, rfl, _, rfl, ?_⟩
    by_cases c3 : sumM rs = 3
    · refine iteTb (decide_eq_true (by rw [show ((rs.map KR.m).sum) = sumM rs from rfl, c3])) ?_
      refine ⟨_, rfl, rl, rfl, ⟨_, SqL.of (s04 _ _ hr0)⟩, fun D2 hD2 => ?_⟩
      refine lc_list (K := K) (a := rl) (xs := rvs) (fun i H2 => H2 D2 = some (.lst (((rs.take i).map (fun r => ((cntAll r.S : Nat) : Int))).map V.int)) ∧ Same H4 H2 ∧ i ≤ rs.length) ⟨upd_same, same_new hD2 _, Nat.zero_le _⟩ (fun i H2 _ z => SqL.of (z.2.1 _ _ (s04 _ _ hr0))) ?_ ?_
      · rintro i v H2 hv' ⟨h2, s2, _⟩
        obtain ⟨r, er, t, rfl, ht⟩ := hR.at hv'
        refine ⟨rfl, ?_⟩
        unfold tYes
        dsimp only
        rw [if_pos rfl]
        exact ⟨_, rfl, t, _, _, _, rfl, rfl, SqT.of (s2 _ _ (s04 _ _ ht)), rfl, tail1 (g := V.int) (φ := (fun r => ((cntAll r.S : Nat) : Int))) er (by omega) hD2 h2 s2 (Same.refl _)⟩
      rintro H5 ⟨h5, s5, _⟩
      rw [er0, List.take_length] at h5
      refine ⟨D2, _, rfl, SqL.of h5, by rw [List.length_map]; exact List.length_pos_iff.mpr ne, fun m hm1 hm2 => ?_⟩
      have em : m = maxS rs := max_uniq hm1 hm2
      subst em
      refine ⟨_, _, rfl, rfl, _, rfl, ite2 (fun c => ?_) (fun c => ?_)⟩
      · have c4 : 4 < maxS rs := of_decide_eq_true c
        exact ⟨(by show 2 ≤ sizeLine; decide), fun u hu => qx "size" (by rw [if_pos ⟨c3, c4⟩]) u _ (((s04.trans s5)).trans (same_new hu _)) upd_same⟩
      · exact ⟨rfl, s04.trans s5, fun z => c (decide_eq_true z.2)⟩
    · exact iteFb (decide_eq_false fun z => c3 (by injection z)) ⟨rfl, s04, fun z => c3 z.1⟩
  rintro σ' H4 ⟨rfl, s4, nsz⟩
  rw [if_neg nsz] at q qx
  have hv4 := s4 _ _ hv
  refine ⟨_, rfl, vl, _, _, _, rfl, rfl, SqL.of hv4, rfl, va, Ta, 0, 4, rfl, ka.keep s4, _, rfl, ?_⟩
  cases e1 : inB va 0 4 with
  | false =>
    exact iteT ⟨(by show 2 ≤ sizeLine; decide), fun u hu => qx "ahead" (by rw [if_pos e1]) u _ ((s4).trans (same_new hu _)) upd_same⟩
  | true =>
  refine iteF ?_
  rw [if_neg (by rw [e1]; decide)] at q qx
  refine ⟨fun σ' H' => σ' = [some (.ref rl), some (.bl false), some (.ref vl), some (.ref N), v4, none, none] ∧ Same H H' ∧ ¬ (isNon vw = false ∧ inB vw (maxB rs) 8 = false), ?_, ?_⟩
  · refine ⟨_, rfl, vl, _, _, _, rfl, rfl, SqL.of hv4, rfl, rfl, _, rfl, ?_⟩
    have en : (!decide (vw = V.non)) = !isNon vw := by cases vw <;> rfl
    rw [en]
    cases e2 : isNon vw with
    | true => exact iteF ⟨rfl, s4, fun z => absurd z.1 (by decide)⟩
    | false =>
      refine iteT ⟨_, rfl, vl, _, _, _, rfl, rfl, SqL.of hv4, rfl, _, rfl, rl, rfl, ⟨_, SqL.of (s4 _ _ hr0)⟩, fun D hD => ?_⟩
      refine lc_list (K := K) (a := rl) (xs := rvs) (fun i H2 => H2 D = some (.lst (((rs.take i).map KR.b).map V.int)) ∧ Same H4 H2 ∧ i ≤ rs.length) ⟨upd_same, same_new hD _, Nat.zero_le _⟩ (fun i H2 _ z => SqL.of (z.2.1 _ _ (s4 _ _ hr0))) ?_ ?_
      · rintro i v H2 hv' ⟨h2, s2, _⟩
        obtain ⟨r, er, t, rfl, ht⟩ := hR.at hv'
        refine ⟨rfl, ?_⟩
        unfold tYes
        dsimp only
        rw [if_pos rfl]
        exact ⟨_, rfl, t, _, _, _, rfl, rfl, SqT.of (s2 _ _ (s4 _ _ ht)), rfl, tail1 (g := V.int) (φ := KR.b) er (by omega) hD h2 s2 (Same.refl _)⟩
      rintro H5 ⟨h5, s5, _⟩
      rw [er0, List.take_length] at h5
      refine ⟨D, _, rfl, SqL.of h5, by rw [List.length_map]; exact List.length_pos_iff.mpr ne, fun m hm1 hm2 => ?_⟩
      have em : m = maxB rs := max_uniq hm1 hm2
      subst em
      have s05 := s4.trans s5
      refine ⟨vw, Tw, maxB rs, 8, rfl, kw.keep s05, _, rfl, ?_⟩
      cases e3 : inB vw (maxB rs) 8 with
      | false =>
        exact iteT ⟨(by show 2 ≤ sizeLine; decide), fun u hu => qx "window" (by rw [if_pos ⟨e2, e3⟩]) u _ ((s05).trans (same_new hu _)) upd_same⟩
      | true => exact iteF ⟨rfl, s05, fun z => absurd z.2 (by decide)⟩
  rintro σ' H5 ⟨rfl, s5, nw⟩
  rw [if_neg nw] at q qx
  have hv5 := s5 _ _ hv
  refine ⟨_, rfl, vl, _, _, _, rfl, rfl, SqL.of hv5, rfl, vc, Tc, 0, 2, rfl, kc.keep s5, _, rfl, ?_⟩
  cases e4 : inB vc 0 2 with
  | false =>
    exact iteT ⟨(by show 2 ≤ sizeLine; decide), fun u hu => qx "crashes" (by rw [if_pos e4]) u _ ((s5).trans (same_new hu _)) upd_same⟩
  | true =>
  refine iteF ?_
  rw [if_neg (by rw [e4]; decide)] at q
  refine ⟨Nat.zero_le _, fun S hS => ?_⟩
  have s6 := s5.trans (same_new hS (.lst []))
  refine ⟨_, rfl, rl, rfl, ⟨_, SqL.of (s6 _ _ hr0)⟩, ?_⟩
  refine for_list (K := K) (a := rl) (xs := rvs) (fun i σ H6 => ∃ (S' : Addr) (v6 : Option V), σ = [some (.ref rl), some (.bl false), some (.ref vl), some (.ref N), v4, some (.ref S'), v6] ∧ H6 S' = some (.lst ((sess (rs.take i)).map V.str)) ∧ Same H H6 ∧ i ≤ rs.length) ⟨S, _, rfl, upd_same, s6, Nat.zero_le _⟩ ?_ ?_ ?_
  · rintro i σ H6 hi ⟨_, _, _, _, s6, _⟩
    exact SqL.of (s6 _ _ hr0)
  · rintro i v σ H6 hv' ⟨S', v6, rfl, h6, s6, _⟩
    obtain ⟨r, er, t, rfl, ht⟩ := hR.at hv'
    have lt := (List.getElem?_eq_some_iff.mp er).1
    have ht6 := s6 _ _ ht
    have rl := lim r (List.mem_of_getElem? er)
    have lt3 : (sess (rs.take i)).length ≤ 3 * i := by
      have := sess_le (rs := rs.take i) fun r hr => lim r (List.mem_of_mem_take hr)
      rw [List.length_take] at this
      omega
    refine ⟨_, rfl, _, rfl, t, _, _, _, rfl, rfl, SqT.of ht6, rfl, (by show 1 ≤ sizeLine; decide), fun l1 hl1 => ?_⟩
    have s67 := same_new hl1 (.lst [.str r.n])
    refine ⟨_, rfl, t, _, _, _, rfl, rfl, SqT.of (s67 _ _ ht6), rfl, l1, r.m, _, rfl, rfl, upd_same, by omega, by omega, ?_, fun l2 hl2 => ?_⟩
    · refine Nat.le_of_lt (small1000 ?_)
      show 1 * r.m.toNat ≤ 1000
      omega
    have s68 := s67.trans (same_new hl2 (.lst (List.replicate r.m.toNat [V.str r.n]).flatten))
    refine ⟨S', l2, _, _, rfl, rfl, s68 _ _ h6, upd_same, Nat.le_of_lt (small1000 ?_), fun S2 hS2 => ?_⟩
    · have e : (List.replicate r.m.toNat [V.str r.n]).flatten.length = r.m.toNat := by simp
      rw [List.length_map, e]
      omega
    refine ⟨S2, _, rfl, ?_, (s6.trans s68).trans (same_new hS2 _), lt⟩
    rw [upd_same, List.take_add_one, er, show (some r).toList = [r] from rfl, sess_snoc, List.map_append]
    congr 2
    simp
  · rintro σ H6 ⟨S', v6, rfl, h6, s6, _⟩
    rw [er0, List.take_length] at h6
    have hv6 := s6 _ _ hv
    refine ⟨_, rfl, vl, _, _, _, rfl, rfl, SqL.of hv6, rfl, _, rfl, vl, _, _, _, rfl, rfl, SqL.of hv6, rfl, _, rfl, vl, _, _, _, rfl, rfl, SqL.of hv6, rfl, _, rfl, S', _, rfl, .inl ⟨SqL.of h6, fun l hl => ⟨(by show 5 ≤ sizeLine; decide), fun u hu => ?_⟩⟩⟩
    exact q rfl u l _ ((s6.trans (same_new hl _)).trans (same_new hu _)) upd_same ((same_new hu _) _ _ upd_same)
end
end Tk
set_option maxRecDepth 100000
set_option maxHeartbeats 4000000
/-! tuple * int, the number not above one -/
namespace L2
open PySem PySem.Spec PyProof.Rows
theorem tuple_mul_one (l : Addr) (items : Array Value) (n : Nat) (dd : Option Addr) (sl : Array (Option Value)) (u : Tok) (he : items.isEmpty = false) :
    Meets (Builtin.«tuple.__mul__» ⟨[.ref l, .int 1 u], []⟩) (fun _ R s => s.heap.get? l = some { cls := .type "tuple", dict := dd, data := .seq items n, slots := sl } ∧ R (.ok (.ret (Value.ref l))) s) :=
  .of_wp fun prog w A R s h => by
    obtain ⟨hp, g, d, tk, os⟩ := s
    obtain ⟨hl, h⟩ := h
    have f1 := AutoSeq1.idx_int
    wp_walk using wpAny_loadPart' hl
    exact ⟨_, rfl, h⟩
theorem tuple_mul_none (l : Addr) (items : Array Value) (n : Nat) (dd : Option Addr) (sl : Array (Option Value)) (u : Tok) (he : items.isEmpty = false) :
    Meets (Builtin.«tuple.__mul__» ⟨[.ref l, .int 0 u], []⟩) (fun _ R s => s.heap.get? l = some { cls := .type "tuple", dict := dd, data := .seq items n, slots := sl } ∧
      R (.ok (.ret (Value.ref s.heap.objs.size))) { s with heap := s.heap.push { cls := Value.type "tuple", data := Data.seq #[] }, toks := s.toks }) :=
  .of_wp fun prog w A R s h => by
    obtain ⟨hp, g, d, tk, os⟩ := s
    obtain ⟨hl, h⟩ := h
    have f1 := AutoSeq1.idx_int
    have c : (items.isEmpty || (0 : Int) == 1) = false := by rw [he]; rfl
    wp_walk using wpAny_loadPart' hl
    repeat (first
      | (refine wpAny_ite_false (decide_eq_false (by rw [c]; exact Bool.false_ne_true)) ?_; wp_walk using wpAny_loadPart' hl))
    exact ⟨_, rfl, h⟩
def rRepA (K : PySem.W.Frag) : R2 := fun x y H Q => ∃ l k xs, x = .ref l ∧ y = .int k ∧ SqT K H l xs ∧ xs ≠ [] ∧ 0 ≤ k ∧ k ≤ 1000 ∧ xs.length ≤ 1000 ∧ (k = 1 → Q (.ref l) H) ∧ (k ≠ 1 → ∀ p, H p = none → Q (.ref p) (upd H p (.tup (List.replicate k.toNat xs).flatten)))
theorem op_repA {X : Cx} : OpR X (binaryOp .Mult) (rRepA X.K) := by
  intro pins s σ H x y v u Q I rx ry h
  obtain ⟨l, k, xs, rfl, rfl, hT, hne, k0, k1, hz, q1, q2⟩ := h
  by_cases big : 2 ≤ k
  · exact op_repT pins s σ H _ _ v u Q I rx ry ⟨l, k, xs, rfl, rfl, hT, hne, big, k1, hz, q2 (by omega)⟩
  cases rx
  obtain ⟨t, rfl⟩ := ry
  obtain ⟨its, r, ⟨⟨cls, dd, data, sl⟩, ho, hc, n, hd⟩, hs⟩ := I.tuple hT
  simp only at hc hd
  subst hc hd
  have full : its.toArray.isEmpty = false := by
    cases its with
    | nil =>
      cases r
      exact absurd rfl hne
    | cons _ _ => rfl
  have typ : s.TypeIs (.ref l) "tuple" := ⟨_, ho, rfl⟩
  rcases (show k = 0 ∨ k = 1 by omega) with rfl | rfl
  · refine wpAny_binaryOp_repeat_ref (T := "tuple") (U := "int") (by decide) typ (fun s' => typeIs_int s' 0 t) noFill_tuple_mul F.fills_int_mul F.slot_int_rmul repeat_tuple F.slot_int_index.lookup
      (call_meets F.slot_int_rmul (typeIs_int s 0 t) F.entry_int_rmul (F.args_int_rmul_2 _ _) (int_rmul_tuple 0 t l its.toArray n dd sl) ⟨ho, rfl, typ, call_meets F.slot_tuple_mul typ F.entry_tuple_mul (F.args_tuple_mul_2 _ _) (tuple_mul_none l its.toArray n dd sl t full) ⟨ho, ?_⟩⟩)
    have new : ObjOk X.prog X.w (upd H s.heap.objs.size (.tup [])) (s.heap.push { cls := Value.type "tuple", data := Data.seq #[] }) s.heap.objs.size (.tup []) := ⟨Nat.zero_le _, [], .nil, IsTup.new _ _⟩
    exact ⟨.ref s.heap.objs.size, _, I.laid (t' := s.toks) (o := .tup []) (fun b ob q => Heap.get?_push_of_some _ q) (Nat.le_refl _) new, rfl, q2 (by decide) _ (I.hok.fresh (Nat.le_refl _))⟩
  · exact wpAny_binaryOp_repeat_ref (T := "tuple") (U := "int") (by decide) typ (fun s' => typeIs_int s' 1 t) noFill_tuple_mul F.fills_int_mul F.slot_int_rmul repeat_tuple F.slot_int_index.lookup
      (call_meets F.slot_int_rmul (typeIs_int s 1 t) F.entry_int_rmul (F.args_int_rmul_2 _ _) (int_rmul_tuple 1 t l its.toArray n dd sl) ⟨ho, rfl, typ, call_meets F.slot_tuple_mul typ F.entry_tuple_mul (F.args_tuple_mul_2 _ _) (tuple_mul_one l its.toArray n dd sl t full) ⟨ho, ⟨.ref l, H, I, rfl, q1 rfl⟩⟩⟩)
end L2
set_option maxRecDepth 100000
namespace L2
open PySem PySem.Spec PyProof.Rows
/-- tuple * int, one way on -/
theorem op_repB {X : Cx} : OpR X (binaryOp .Mult) (fun x y H Q => ∃ l k xs, x = .ref l ∧ y = .int k ∧ H l = some (.tup xs) ∧ xs ≠ [] ∧ 0 ≤ k ∧ k ≤ 1000 ∧ xs.length ≤ 1000 ∧ ∀ b H', Same H H' → H' b = some (.tup (List.replicate k.toNat xs).flatten) → Q (.ref b) H') := by
  intro pins s σ H x y v u Q I rx ry h
  obtain ⟨l, k, xs, rfl, rfl, hT, hne, k0, k1, hz, q⟩ := h
  refine op_repA pins s σ H _ _ v u Q I rx ry ⟨l, k, xs, rfl, rfl, SqT.of hT, hne, k0, k1, hz, fun e => q l H (Same.refl H) ?_, fun _ p hp => q p _ (fun b o e => by rw [upd_ne (ne_of_none e hp)]; exact e) upd_same⟩
  subst e
  rw [hT]
  simp
/-- tuple + tuple, one way on -/
theorem op_catB {X : Cx} : OpR X (binaryOp .Add) (fun x y H Q => ∃ a b xs ys, x = .ref a ∧ y = .ref b ∧ H a = some (.tup xs) ∧ H b = some (.tup ys) ∧ xs.length + ys.length ≤ sizeLine ∧ ∀ c H', Same H H' → H' c = some (.tup (xs ++ ys)) → Q (.ref c) H') := by
  intro pins s σ H x y v u Q I rx ry h
  obtain ⟨a, b, xs, ys, rfl, rfl, ha, hb, hz, q⟩ := h
  refine op_catA pins s σ H _ _ v u Q I rx ry ⟨a, b, xs, ys, rfl, rfl, SqT.of ha, SqT.of hb, hz, fun e => q b H (Same.refl H) (by rw [e, List.nil_append]; exact hb), fun _ e => q a H (Same.refl H) (by rw [e, List.append_nil]; exact ha), fun _ _ p hp => q p _ (fun c o e => by rw [upd_ne (ne_of_none e hp)]; exact e) upd_same⟩
end L2
namespace Tk
open PySem L2 StK
abbrev sValue : Stmt := top 44
/-- values that stand as long as tuples do -/
inductive VV (H : Hp) : V → Prop
  | non : VV H .non
  | bl (b : Bool) : VV H (.bl b)
  | int (i : Int) : VV H (.int i)
  | str (z : Str) : VV H (.str z)
  | tup {a : Addr} {xs : List V} (e : H a = some (.tup xs)) : VV H (.ref a)
theorem VV.any {H : Hp} {v : V} (h : VV H v) : AnyV H v := by
  cases h with
  | non => exact ⟨_, .non⟩
  | bl b => exact ⟨_, .bl b⟩
  | int i => exact ⟨_, .int i⟩
  | str z => exact ⟨_, .str z⟩
  | tup e => exact ⟨_, .tup e⟩
theorem VV.tk {H H' : Hp} {v : V} (k : TK H H') (h : VV H v) : VV H' v := by
  cases h with
  | non => exact .non
  | bl b => exact .bl b
  | int i => exact .int i
  | str z => exact .str z
  | tup e => exact .tup (k _ _ e)
def spValue : Sp := fun vs H Q _ => ∃ (p : Addr) (g : V) (m t : Int), vs = [.ref p, g, .int m, .int t] ∧ PoolAt H p ∧ VV H g ∧ ∀ (v : V) (H' : Hp), Kp p H H' → PoolAt H' p → VV H' v → Q v H'
theorem pool_ne {H : Hp} {p a : Addr} (h : PoolAt H p) (n : H a = none) : p ≠ a := by
  obtain ⟨_, _, _, e⟩ := h
  intro z; rw [z, n] at e; cases e
theorem PoolAt.same {H H' : Hp} {p : Addr} (s : Same H H') (h : PoolAt H p) : PoolAt H' p := by
  obtain ⟨x, y, z, e⟩ := h
  exact ⟨x, y, z, s _ _ e⟩
theorem PoolAt.put {H : Hp} {p a : Addr} {o : HO} (h : PoolAt H p) (ne : p ≠ a) : PoolAt (L2.upd H a o) p := by
  obtain ⟨x, y, z, e⟩ := h
  exact ⟨x, y, z, by rw [upd_ne ne]; exact e⟩
theorem NamesAt.same {H H' : Hp} {p : Addr} (s : Same H H') (h : NamesAt H p) : NamesAt H' p := by
  obtain ⟨x, y, z, e, r⟩ := h
  exact ⟨x, y, z, s _ _ e, r⟩
theorem NamesAt.kp {H H' : Hp} {p q : Addr} (k : Kp p H H') (ne : q ≠ p) (h : NamesAt H q) : NamesAt H' q := by
  obtain ⟨x, y, z, e, r⟩ := h
  exact ⟨x, y, z, k _ _ e ne, r⟩
theorem Kp.tkp {p : Addr} {H H' : Hp} (k : Kp p H H') (h : PoolAt H p) : TK H H' := by
  obtain ⟨x, y, z, e⟩ := h
  exact k.tk e
theorem same_kp {H0 H1 H2 : Hp} {p : Addr} (s : Same H0 H1) (n : H0 p = none) (k : Kp p H1 H2) : Same H0 H2 := fun b o e => k b o (s b o e) (ne_of_none e n)
section
variable {P : Program} {w : World} {K : PySem.W.Frag} {mg : Str → Option Value} {base : Heap} {CS CK CD CY it : Addr}
theorem scVa : FnScope ["_law_pool_here", "_law_good", "_law_most", "_law_great"] ["_law_pool_here", "_law_good", "_law_most", "_law_great"] (defScope sValue) := ⟨rfl, rfl, rfl, by decide +kernel, rfl, by decide +kernel, by decide +kernel⟩
theorem ok_value {f fD : Addr} {fd fdD : FuncData} (F : Fun K "_law_value" "_law_value" sValue f fd) (GD : FnOk P w K mg base CX0 1 fD fdD ["_law_pool_here", "_law_amount"] spDraw) (bD : Binds K fdD ["_law_pool_here", "_law_amount"] []) (kD : PySem.W.keepIn K (.ref fD) = true) (mD : mg "_law_draw" = some (.ref fD)) :
    FnOk P w K mg base CX0 2 f fd ["_law_pool_here", "_law_good", "_law_most", "_law_great"] spValue := by
  refine F.ok scVa (fun vs H Q E h => ?_) (fun cdv A outer s H vs Q E hr h => ?_)
  · obtain ⟨p, g, m, t, rfl, _⟩ := h
    rfl
  obtain ⟨p, g, m, t, rfl, hp, hg, q⟩ := h
  refine ⟨_, pss_cons (ps_if (pt_cmpR op_gt (pe_call GD hr rfl mD kD bD .nil pass0 (pa_cons (pv 0) (pa_cons pe_int pa_nil))) pe_int (nomark _)) (pss_one (ps_ret (pv 1))) pss_nil)
    (pss_one (ps_ret (pe_ix ix_list (pe_lst (pa_cons (pe_op op_sub pe_int pe_int) (pa_cons (pe_op op_add (pv 2) pe_int) (pa_cons (pe_op op_add (pe_op op_add (pv 2) pe_int) (pv 3)) (pa_cons (pe_op op_sub (pe_op op_sub pe_int pe_int) (pv 3)) (pa_cons pe_bl (pa_cons pe_str (pa_cons (pe_tup (pa_cons pe_int pa_nil)) (pa_cons pe_bl pa_nil)))))))))
      (pe_call GD hr rfl mD kD bD .nil pass0 (pa_cons (pv 0) (pa_cons pe_int pa_nil))) (fun _ _ => rfl)))), ?_⟩
  refine ⟨_, rfl, p, 3, rfl, hp, by decide, by decide, fun r H1 r0 r1 k1 P1 => ⟨_, _, rfl, rfl, _, rfl, ite2 (fun _ => ?_) (fun _ => ?_)⟩⟩
  · exact ⟨_, rfl, q g H1 k1 P1 (hg.tk (k1.tkp hp))⟩
  refine ⟨_, _, rfl, rfl, _, rfl, _, _, rfl, rfl, _, rfl, _, _, rfl, rfl, _, rfl, _, _, rfl, rfl, _, _, rfl, rfl, _, rfl, _, _, rfl, rfl, (by show 1 ≤ sizeLine; decide), fun a ha => ⟨(by show 8 ≤ sizeLine; decide), fun l hl => ?_⟩⟩
  have sa := same_new ha (.tup [.int 0])
  generalize hx : (V.int (0 - 1) :: _) = xs at *
  have sl := sa.trans (same_new hl (.lst xs))
  have P2 := P1.same sl
  have npl := pool_ne (P1.same sa) hl
  refine ⟨_, rfl, p, 8, rfl, P2, by decide, by decide, fun d H2 d0 d1 k2 Pd => ?_⟩
  have hl2 := k2 _ _ upd_same npl.symm
  have ha2 : H2 a = some (.tup [.int 0]) := k2.tkp P2 _ _ ((same_new hl (.lst xs)) _ _ upd_same)
  obtain ⟨v, ev, hv⟩ : ∃ v, atI xs d = some v ∧ VV H2 v := by
    subst hx
    have : d = 0 ∨ d = 1 ∨ d = 2 ∨ d = 3 ∨ d = 4 ∨ d = 5 ∨ d = 6 ∨ d = 7 := by omega
    rcases this with rfl | rfl | rfl | rfl | rfl | rfl | rfl | rfl
    · exact ⟨_, rfl, .int _⟩
    · exact ⟨_, rfl, .int _⟩
    · exact ⟨_, rfl, .int _⟩
    · exact ⟨_, rfl, .int _⟩
    · exact ⟨_, rfl, .bl _⟩
    · exact ⟨_, rfl, .str _⟩
    · exact ⟨_, rfl, .tup ha2⟩
    · exact ⟨_, rfl, .bl _⟩
  exact ⟨l, _, _, _, rfl, rfl, SqL.of hl2, ev, q v H2 (k1.trans ((Kp.of_same sl).trans k2)) Pd hv⟩
end
end Tk
set_option maxRecDepth 100000
namespace Tk
open PySem L2 StK
/-- the pool, the names, the values -/
structure J0 (H : Hp) (p q vl : Addr) (va vw vc : V) : Prop where
  pool : PoolAt H p
  names : NamesAt H q
  vals : H vl = some (.lst [va, vw, vc])
  a : VV H va
  w : VV H vw
  c : VV H vc
  pq : p ≠ q
  pv : p ≠ vl
theorem J0.same {H H' : Hp} {p q vl : Addr} {va vw vc : V} (s : Same H H') (j : J0 H p q vl va vw vc) : J0 H' p q vl va vw vc :=
  ⟨j.pool.same s, j.names.same s, s _ _ j.vals, j.a.tk (TK.of_same s), j.w.tk (TK.of_same s), j.c.tk (TK.of_same s), j.pq, j.pv⟩
theorem J0.kp {H H' : Hp} {p q vl : Addr} {va vw vc : V} (k : Kp p H H') (P : PoolAt H' p) (j : J0 H p q vl va vw vc) : J0 H' p q vl va vw vc :=
  ⟨P, j.names.kp k j.pq.symm, k _ _ j.vals j.pv.symm, j.a.tk (k.tkp j.pool), j.w.tk (k.tkp j.pool), j.c.tk (k.tkp j.pool), j.pq, j.pv⟩
theorem KindAt.kpl {CS CD : Addr} {H H' : Hp} {p k : Addr} {ys : List V} {n : Str} {S : List Stm} {b m : Int} (h : KindAt CS CD H k n S b m) (s : Kp p H H') (hp : H p = some (.lst ys)) : KindAt CS CD H' k n S b m := by
  obtain ⟨dx, x, t, h1, h2⟩ := h
  exact ⟨dx, x, t, s _ _ h1 (ne_of h1 hp (by intro z; cases z)), h2.kp s hp⟩
theorem IsKind.kpl {CS CD : Addr} {H H' : Hp} {p : Addr} {ys : List V} {v : V} {r : KR} (s : Kp p H H') (hp : H p = some (.lst ys)) (h : IsKind CS CD H v r) : IsKind CS CD H' v r := by
  obtain ⟨k, e, h⟩ := h
  exact ⟨k, e, h.kpl s hp⟩
theorem KsAt.kpl {CS CD : Addr} {H H' : Hp} {p : Addr} {ys vs : List V} {rs : List KR} (s : Kp p H H') (hp : H p = some (.lst ys)) (h : KsAt CS CD H vs rs) : KsAt CS CD H' vs rs := by
  induction h with
  | nil => exact .nil
  | cons h _ ih => exact .cons (h.kpl s hp) ih
theorem KsAt.snoc {CS CD : Addr} {H : Hp} {vs : List V} {rs : List KR} {v : V} {r : KR} (h : KsAt CS CD H vs rs) (g : IsKind CS CD H v r) : KsAt CS CD H (vs ++ [v]) (rs ++ [r]) := by
  induction h with
  | nil => exact .cons g .nil
  | cons h _ ih => exact .cons h ih
/-- .. the rows and the kinds -/
structure J (CS CD : Addr) (H : Hp) (p q vl rl kl : Addr) (va vw vc : V) (rvs ks : List V) (rs : List KR) : Prop where
  z : J0 H p q vl va vw vc
  rows : H rl = some (.lst rvs)
  rr : RsAt H rvs rs
  kinds : H kl = some (.lst ks)
  kk : KsAt CS CD H ks rs
  pr : p ≠ rl
  pk : p ≠ kl
  rk : rl ≠ kl
  qr : q ≠ rl
  qk : q ≠ kl
  vr : vl ≠ rl
  vk : vl ≠ kl
section
variable {CS CD : Addr} {H H' : Hp} {p q vl rl kl : Addr} {va vw vc : V} {rvs ks : List V} {rs : List KR}
theorem J.same (s : Same H H') (j : J CS CD H p q vl rl kl va vw vc rvs ks rs) : J CS CD H' p q vl rl kl va vw vc rvs ks rs :=
  ⟨j.z.same s, s _ _ j.rows, j.rr.tk (TK.of_same s), s _ _ j.kinds, j.kk.keep s, j.pr, j.pk, j.rk, j.qr, j.qk, j.vr, j.vk⟩
theorem J.kp (k : Kp p H H') (P : PoolAt H' p) (j : J CS CD H p q vl rl kl va vw vc rvs ks rs) : J CS CD H' p q vl rl kl va vw vc rvs ks rs := by
  obtain ⟨_, _, _, e⟩ := j.z.pool
  exact ⟨j.z.kp k P, k _ _ j.rows j.pr.symm, j.rr.tk (k.tk e), k _ _ j.kinds j.pk.symm, j.kk.kpl k e, j.pr, j.pk, j.rk, j.qr, j.qk, j.vr, j.vk⟩
/-- one row and one kind more -/
theorem J.more {rv : V} {k : V} {r : KR} {H2 : Hp} (j : J CS CD H p q vl rl kl va vw vc rvs ks rs) (hr : RowAt H rv r) (s : Same (L2.upd H rl (.lst (rvs ++ [rv]))) H2) (hk : IsKind CS CD H2 k r) :
    H2 kl = some (.lst ks) ∧ J CS CD (L2.upd H2 kl (.lst (ks ++ [k]))) p q vl rl kl va vw vc (rvs ++ [rv]) (ks ++ [k]) (rs ++ [r]) := by
  have k1 : Kp rl H (L2.upd H rl (.lst (rvs ++ [rv]))) := Kp.upd
  have t1 : TK H (L2.upd H rl (.lst (rvs ++ [rv]))) := k1.tk j.rows
  have kl1 : (L2.upd H rl (.lst (rvs ++ [rv]))) kl = some (.lst ks) := by rw [upd_ne j.rk.symm]; exact j.kinds
  have kl2 := s _ _ kl1
  have k2 : Kp kl H2 (L2.upd H2 kl (.lst (ks ++ [k]))) := Kp.upd
  have t2 : TK H2 (L2.upd H2 kl (.lst (ks ++ [k]))) := k2.tk kl2
  have t12 := (t1.trans (TK.of_same s)).trans t2
  refine ⟨kl2, ⟨⟨((j.z.pool.put j.pr).same s).put j.pk, ((j.z.names.kp k1 j.qr).same s).kp k2 j.qk, k2 _ _ (s _ _ (k1 _ _ j.z.vals j.vr)) j.vk, j.z.a.tk t12, j.z.w.tk t12, j.z.c.tk t12, j.z.pq, j.z.pv⟩, ?_, ?_, upd_same, ?_, j.pr, j.pk, j.rk, j.qr, j.qk, j.vr, j.vk⟩⟩
  · exact k2 _ _ (s _ _ upd_same) j.rk
  · refine (j.rr.tk t12).snoc ?_
    obtain ⟨t, e, h⟩ := hr
    exact ⟨t, e, t12 _ _ h⟩
  · exact (((j.kk.kpl k1 j.rows).keep s).kpl k2 kl2).snoc (hk.kpl k2 kl2)
end
theorem rep_flat {α : Type} (n : Nat) (x : α) : (List.replicate n [x]).flatten = List.replicate n x := by
  induction n with
  | zero => rfl
  | succ n ih => rw [List.replicate_succ, List.flatten_cons, ih]; rfl
theorem atAll_rep {H : Hp} {c : Addr} {w : Wd} (h : H c = some (.tup [.str w.s])) : ∀ n : Nat, atAll H (List.replicate n (.ref c)) (List.replicate n (.one w))
  | 0 => by unfold atAll; rfl
  | n + 1 => by
    rw [List.replicate_succ, List.replicate_succ]
    unfold atAll
    exact ⟨_, _, rfl, (by unfold Stm.at; exact ⟨c, rfl, h⟩), atAll_rep h n⟩
theorem cnt_rep (w : Wd) : ∀ n : Nat, cntAll (List.replicate n (.one w)) = n
  | 0 => by rw [List.replicate_zero, cntAll]
  | n + 1 => by rw [List.replicate_succ, cntAll, cnt_rep w n, Stm.cnt]; omega
theorem ok_rep {w : Wd} (hw : w ≠ .take) (d : Nat) : ∀ (n : Nat) (h : Int), okAll d (List.replicate n (.one w)) h
  | 0, h => by rw [List.replicate_zero, okAll]; trivial
  | n + 1, h => by
    rw [List.replicate_succ, okAll]
    exact ⟨by unfold Stm.ok; exact fun z => absurd z hw, ok_rep hw d n _⟩
theorem held_commit : ∀ n : Nat, heldAll (List.replicate n (.one .commit)) 0 = 0
  | 0 => by rw [List.replicate_zero, heldAll]
  | n + 1 => by rw [List.replicate_succ, heldAll]; exact held_commit n
/-- good statements of this many -/
structure Bran (H : Hp) (t : Addr) (S : List Stm) (n : Nat) : Prop where
  at_ : ∃ xs, H t = some (.tup xs) ∧ atAll H xs S
  ne : S ≠ []
  ok : okAll 0 S 0
  cnt : cntAll S = n
theorem bran_a {H : Hp} {t c k : Addr} {n : Nat} (hc : H c = some (.tup [.str "commit"])) (hk : H k = some (.tup [.str "take"])) (ht : H t = some (.tup (List.replicate n (.ref c) ++ [.ref k]))) : Bran H t (List.replicate n (.one .commit) ++ [.one .take]) (n + 1) := by
  refine ⟨⟨_, ht, atAll_app (atAll_rep hc n) (atAll_one (by unfold Stm.at; exact ⟨k, rfl, hk⟩))⟩, by simp, okAll_app _ _ _ _ (ok_rep (by decide) 0 n 0) ?_, ?_⟩
  · rw [held_commit, okAll, okAll]
    exact ⟨by unfold Stm.ok; exact fun _ => by decide, trivial⟩
  · rw [cntAll_app, cnt_rep, cntAll, cntAll, Stm.cnt]
theorem bran_b {H : Hp} {t x d r y n : Addr} {i j : Nat} (hd : H d = some (.tup [.str "drop"])) (hr : H r = some (.tup [.str "rollback"])) (hy : H y = some (.tup (List.replicate i (.ref d)))) (hn : H n = some (.tup (List.replicate j (.ref r))))
    (hx : H x = some (.tup [.str "choose", .ref y, .ref n])) (ht : H t = some (.tup [.ref x])) : Bran H t [.ch (List.replicate i (.one .drop)) (List.replicate j (.one .rollback))] (1 + i + j) := by
  refine ⟨⟨_, ht, atAll_one ?_⟩, by simp, ?_, ?_⟩
  · unfold Stm.at
    exact ⟨x, y, n, _, _, rfl, hx, hy, atAll_rep hd i, hn, atAll_rep hr j⟩
  · rw [okAll, okAll]
    refine ⟨?_, trivial⟩
    unfold Stm.ok
    exact ⟨by decide, ok_rep (by decide) 1 i 0, ok_rep (by decide) 1 j 0⟩
  · rw [cntAll, cntAll, Stm.cnt, cnt_rep, cnt_rep]; omega
theorem Bran.tk {H H' : Hp} {t : Addr} {S : List Stm} {n : Nat} (k : TK H H') (b : Bran H t S n) : Bran H' t S n := by
  obtain ⟨⟨xs, h1, h2⟩, h3, h4, h5⟩ := b
  exact ⟨⟨xs, k _ _ h1, atAll_keep k _ _ h2⟩, h3, h4, h5⟩
end Tk
set_option maxRecDepth 100000
namespace Tk
open PySem L2 StK
theorem OsAt.set {CS CD : Addr} {H : Hp} {v : V} {o : Option KR} (g : OrKind CS CD H v o) : ∀ {vs : List V} {os : List (Option KR)} (j : Nat), OsAt CS CD H vs os → OsAt CS CD H (vs.set j v) (os.set j o)
  | _, _, _, .nil => .nil
  | _, _, 0, .cons _ t => .cons g t
  | _, _, j + 1, .cons h t => .cons h (OsAt.set g j t)
theorem set_none : ∀ {os : List (Option KR)} {j : Nat}, j < os.length → (os.set j none).all Option.isSome = false
  | [], _, h => absurd h (Nat.not_lt_zero _)
  | _ :: _, 0, _ => rfl
  | o :: os, j + 1, h => by
    show (o.isSome && (os.set j none).all Option.isSome) = false
    rw [set_none (by simpa using h), Bool.and_false]
theorem mem_set_none : ∀ {os : List (Option KR)} {j : Nat} {r : KR}, some r ∈ os.set j none → some r ∈ os
  | [], _, _, h => h
  | _ :: _, 0, _, h => by
    rcases List.mem_cons.mp h with h | h
    · cases h
    · exact List.mem_cons_of_mem _ h
  | o :: os, j + 1, r, h => by
    rcases List.mem_cons.mp h with h | h
    · rw [h]; exact List.mem_cons_self
    · exact List.mem_cons_of_mem _ (mem_set_none h)
/-- the kinds that are handed, beside the rows -/
def OsRel (stg : Bool) (rs : List KR) (os : List (Option KR)) : Prop := (stg = true ∧ rs ≠ [] ∧ os.all Option.isSome = false) ∨ (¬ (stg = true ∧ rs ≠ []) ∧ os = rs.map some)
theorem ydue_eq {stg b : Bool} {rs : List KR} {os : List (Option KR)} (h : OsRel stg rs os) (hb : b = (stg && !rs.isEmpty)) (va vw vc : V) : yDue b rs va vw vc = yWhy os va vw vc := by
  rcases h with ⟨h1, h2, h3⟩ | ⟨h1, rfl⟩
  · have e : rs.isEmpty = false := by
      cases rs with
      | nil => exact absurd rfl h2
      | cons _ _ => rfl
    rw [h1, e] at hb
    subst hb
    have no : aresB os = false := by unfold aresB; rw [h3]; rfl
    show yWhy [none] va vw vc = yWhy os va vw vc
    unfold yWhy
    rw [if_pos no, if_pos (show aresB [none] = false from rfl)]
  · have e : b = false := by
      rw [hb]
      cases stg with
      | false => rfl
      | true =>
        cases rs with
        | nil => rfl
        | cons _ _ => exact absurd ⟨rfl, by simp⟩ h1
    rw [e]
    rfl
theorem why_ok {os : List (Option KR)} {va vw vc : V} {z : Str} (h : yWhy os va vw vc = some z) : PyData.strOk z = true := by
  unfold yWhy at h
  dsimp only at h
  split at h
  · injection h with h; subst h; decide +kernel
  split at h
  · injection h with h; subst h; decide +kernel
  split at h
  · injection h with h; subst h; decide +kernel
  split at h
  · injection h with h; subst h; decide +kernel
  split at h
  · injection h with h; subst h; decide +kernel
  · cases h
def IntNon (v : V) : Prop := v = .non ∨ ∃ i, v = .int i
theorem inB_int {v : V} {lo hi : Int} (h : inB v lo hi = true) : IntNon v := by
  cases v with
  | int i => exact .inr ⟨i, rfl⟩
  | _ => cases h
theorem made_vals {os : List (Option KR)} {va vw vc : V} (h : yWhy os va vw vc = none) : IntNon va ∧ IntNon vw ∧ IntNon vc := by
  unfold yWhy at h
  dsimp only at h
  split at h
  · cases h
  split at h
  · cases h
  split at h
  · cases h
  rename_i e1
  split at h
  · cases h
  rename_i e2
  split at h
  · cases h
  rename_i e3
  refine ⟨inB_int (Bool.not_eq_false _ ▸ e1), ?_, inB_int (Bool.not_eq_false _ ▸ e3)⟩
  cases hw : isNon vw with
  | true =>
    left
    cases vw with
    | non => rfl
    | _ => cases hw
  | false =>
    refine inB_int (v := vw) (lo := maxB (os.filterMap id)) (hi := 8) ?_
    cases hb : inB vw (maxB (os.filterMap id)) 8 with
    | true => rfl
    | false => exact absurd ⟨hw, hb⟩ e2
def dv : V → PyData
  | .int i => .int i
  | _ => .none
theorem dv_dp {K : PySem.W.Frag} {H : Hp} {v : V} (h : IntNon v) : Dp K H v (dv v) := by
  rcases h with rfl | ⟨i, rfl⟩
  · exact .non
  · exact .int i
theorem dv_lay (v : V) : (dv v).canLay0 = true ∧ (dv v).depth = 0 := by
  cases v <;> exact ⟨rfl, rfl⟩
theorem strs_dp {K : PySem.W.Frag} {H : Hp} : ∀ zs : List Str, DpAll K H (zs.map V.str) (zs.map PyData.str)
  | [] => .nil
  | z :: zs => .cons (.str z) (strs_dp zs)
theorem strs_lay : ∀ zs : List Str, (∀ z ∈ zs, PyData.strOk z = true) → PyData.canLayAll0 (zs.map PyData.str) = true ∧ PyData.depthAll (zs.map PyData.str) = 0
  | [], _ => ⟨rfl, rfl⟩
  | z :: zs, h => by
    obtain ⟨a, b⟩ := strs_lay zs fun y hy => h y (List.mem_cons_of_mem _ hy)
    rw [List.map_cons]
    constructor
    · rw [PyData.canLayAll0, a]
      show (PyData.strOk z && true) = true
      rw [h z List.mem_cons_self]; rfl
    · rw [PyData.depthAll, b]; rfl
theorem sess_mem {rs : List KR} {z : Str} (h : z ∈ sess rs) : ∃ r ∈ rs, z = r.n := by
  unfold sess at h
  obtain ⟨l, hl, hz⟩ := List.mem_flatten.mp h
  obtain ⟨r, hr, rfl⟩ := List.mem_map.mp hl
  exact ⟨r, hr, (List.mem_replicate.mp hz).2⟩
/-- two such tuples are equal -/
theorem refused_eq {K : PySem.W.Frag} {H : Hp} {u t : Addr} {z : Str} (hz : PyData.strOk z = true) (hu : H u = some (.tup [.str "refused", .str z])) (ht : H t = some (.tup [.str "refused", .str z])) :
    ∃ d, Dp K H (.ref u) d ∧ Dp K H (.ref t) d ∧ SeqAt.shaped d = true ∧ PyData.eqv d d = true := by
  have lay : PyData.canLay0 (.tuple [.str "refused", .str z]) = true := by
    show PyData.canLayAll0 [.str "refused", .str z] = true
    rw [PyData.canLayAll0, PyData.canLayAll0, PyData.canLayAll0]
    show (PyData.strOk "refused" && (PyData.strOk z && true)) = true
    rw [hz]; decide +kernel
  refine ⟨_, .tup (SqT.of hu) (.cons (.str _) (.cons (.str _) .nil)), .tup (SqT.of ht) (.cons (.str _) (.cons (.str _) .nil)), ?_, SeqAt.eqv_refl _ lay⟩
  unfold SeqAt.shaped
  rw [lay]
  exact decide_eq_true (by show PyData.depthAll [.str "refused", .str z] + 1 ≤ 64; rw [PyData.depthAll, PyData.depthAll, PyData.depthAll]; show max 0 (max 0 0) + 1 ≤ 64; decide)
theorem made_eq {K : PySem.W.Frag} {H : Hp} {u t l m : Addr} {va vw vc : V} {zs : List Str} (hz : ∀ z ∈ zs, PyData.strOk z = true) (ha : IntNon va) (hw : IntNon vw) (hc : IntNon vc)
    (hu : H u = some (.tup [.str "made", va, vw, vc, .ref l])) (ht : H t = some (.tup [.str "made", va, vw, vc, .ref m])) (hl : H l = some (.tup (zs.map V.str))) (hm : H m = some (.tup (zs.map V.str))) :
    ∃ d, Dp K H (.ref u) d ∧ Dp K H (.ref t) d ∧ SeqAt.shaped d = true ∧ PyData.eqv d d = true := by
  obtain ⟨s1, s2⟩ := strs_lay zs hz
  have lay : PyData.canLay0 (.tuple [.str "made", dv va, dv vw, dv vc, .tuple (zs.map PyData.str)]) = true := by
    show PyData.canLayAll0 [.str "made", dv va, dv vw, dv vc, .tuple (zs.map PyData.str)] = true
    rw [PyData.canLayAll0, PyData.canLayAll0, PyData.canLayAll0, PyData.canLayAll0, PyData.canLayAll0, PyData.canLayAll0, (dv_lay va).1, (dv_lay vw).1, (dv_lay vc).1]
    show (PyData.strOk "made" && (true && (true && (true && (PyData.canLayAll0 (zs.map PyData.str) && true))))) = true
    rw [s1]; decide +kernel
  refine ⟨_, .tup (SqT.of hu) (.cons (.str _) (.cons (dv_dp ha) (.cons (dv_dp hw) (.cons (dv_dp hc) (.cons (.tup (SqT.of hl) (strs_dp zs)) .nil))))), .tup (SqT.of ht) (.cons (.str _) (.cons (dv_dp ha) (.cons (dv_dp hw) (.cons (dv_dp hc) (.cons (.tup (SqT.of hm) (strs_dp zs)) .nil))))), ?_, SeqAt.eqv_refl _ lay⟩
  unfold SeqAt.shaped
  rw [lay]
  refine decide_eq_true ?_
  show PyData.depthAll [.str "made", dv va, dv vw, dv vc, .tuple (zs.map PyData.str)] + 1 ≤ 64
  rw [PyData.depthAll, PyData.depthAll, PyData.depthAll, PyData.depthAll, PyData.depthAll, PyData.depthAll, (dv_lay va).2, (dv_lay vw).2, (dv_lay vc).2]
  show max 0 (max 0 (max 0 (max 0 (max (PyData.depthAll (zs.map PyData.str) + 1) 0)))) + 1 ≤ 64
  rw [s2]; decide
/-- what is handed to the two sides at last -/
structure Fnl (CS CD : Addr) (H : Hp) (rl kl vl : Addr) (rvs ks : List V) (rs : List KR) (os : List (Option KR)) (stg sh : Bool) (va vw vc : V) : Prop where
  rows : H rl = some (.lst rvs)
  rr : RsAt H rvs rs
  hk : H kl = some (.lst ks)
  hO : OsAt CS CD H ks os
  few : ks.length ≤ 3
  fewr : rs.length ≤ 3
  len : ks.length = rs.length
  lim : ∀ r, some r ∈ os → 1 ≤ r.m ∧ r.m ≤ 3
  hv : H vl = some (.lst [va, vw, vc])
  ga : VV H va
  gw : VV H vw
  gc : VV H vc
  rel : OsRel stg rs os
  cond : sh = true → (ks.length = 1 → va = .int 0 ∧ vw = .non ∧ vc = .int 0) ∧ (ks.length = 2 → va = .int 0 ∧ vc = .int 0)
theorem Fnl.same {CS CD : Addr} {H H' : Hp} {rl kl vl : Addr} {rvs ks : List V} {rs : List KR} {os : List (Option KR)} {stg sh : Bool} {va vw vc : V} (s : Same H H') (f : Fnl CS CD H rl kl vl rvs ks rs os stg sh va vw vc) : Fnl CS CD H' rl kl vl rvs ks rs os stg sh va vw vc :=
  ⟨s _ _ f.rows, f.rr.tk (TK.of_same s), s _ _ f.hk, f.hO.keep s, f.few, f.fewr, f.len, f.lim, s _ _ f.hv, f.ga.tk (TK.of_same s), f.gw.tk (TK.of_same s), f.gc.tk (TK.of_same s), f.rel, f.cond⟩
theorem somes_inj {a b : List KR} (h : a.map some = b.map some) : a = b := by
  have e := congrArg (List.filterMap id) h
  simpa using e
theorem len_pos (rs : List KR) : decide ((0 : Int) < ((rs.length : Nat) : Int)) = (true && !rs.isEmpty) := by
  cases rs with
  | nil => rfl
  | cons _ r =>
    refine decide_eq_true ?_
    rw [List.length_cons]
    omega
end Tk
set_option maxRecDepth 100000
namespace Tk
open PySem L2 StK
def spLaw (K : PySem.W.Frag) : Sp := fun vs H Q _ => ∃ (a : Addr) (ns : List Int), vs = [.ref a] ∧ SqL K H a (ns.map V.int) ∧ ns.length ≤ 63 ∧ ∀ H', Q (.bl true) H'
abbrev nsL : List Str := ["_law_script", "_law_k", "_law_pool_here", "_law_names_here", "_law_short", "_law_strange", "_law_great", "_law_values", "_law_span", "_law_at", "_law_rows", "_law_kinds", "_law_size", "_law_inner", "_law_branch", "_law_row"]
section
variable {P : Program} {w : World} {K : PySem.W.Frag} {mg : Str → Option Value} {base : Heap} {CS CK CD CY it : Addr}
theorem scL : FnScope nsL ["_law_script"] (defScope sLaw) := ⟨rfl, rfl, rfl, by decide +kernel, rfl, by decide +kernel, by decide +kernel⟩
theorem ok_law {f fP fD fN fV fK fT fU : Addr} {fd fdP fdD fdN fdV fdK fdT fdU : FuncData} (F : Fun K "law" "law" sLaw f fd) (B : Bl mg) (U : TxK K mg CS CD)
    (GP : FnOk P w K mg base CX0 1 fP fdP ["_law_script", "_law_k"] (spPool K)) (bP : Binds K fdP ["_law_script", "_law_k"] []) (kP : PySem.W.keepIn K (.ref fP) = true) (mP : mg "_law_pool" = some (.ref fP))
    (GD : FnOk P w K mg base CX0 1 fD fdD ["_law_pool_here", "_law_amount"] spDraw) (bD : Binds K fdD ["_law_pool_here", "_law_amount"] []) (kD : PySem.W.keepIn K (.ref fD) = true) (mD : mg "_law_draw" = some (.ref fD))
    (GN : FnOk P w K mg base CX0 2 fN fdN ["_law_pool_here"] spNames) (bN : Binds K fdN ["_law_pool_here"] []) (kN : PySem.W.keepIn K (.ref fN) = true) (mN : mg "_law_names" = some (.ref fN))
    (GV : FnOk P w K mg base CX0 2 fV fdV ["_law_pool_here", "_law_good", "_law_most", "_law_great"] spValue) (bV : Binds K fdV ["_law_pool_here", "_law_good", "_law_most", "_law_great"] []) (kV : PySem.W.keepIn K (.ref fV) = true) (mV : mg "_law_value" = some (.ref fV))
    (MD : Mk K CD fK) (GK : FnOk P w K mg base CX0 12 fK fdK psD (spDInit CS CD)) (bK : KBn K fdK psD 3 ["block", "many"] (fun us ws => us ++ ws) (fun vs zs => vs ++ zs))
    (GT : FnOk P w K mg base CX0 7 fT fdT psTo (spTold CS CD CY)) (bT : Binds K fdT psTo []) (kT : PySem.W.keepIn K (.ref fT) = true) (mT : mg "_law_told" = some (.ref fT))
    (GU : FnOk P w K mg base CX0 2 fU fdU ["_law_rows", "_law_strange", "_law_values"] spDue) (bU : Binds K fdU ["_law_rows", "_law_strange", "_law_values"] []) (kU : PySem.W.keepIn K (.ref fU) = true) (mU : mg "_law_due" = some (.ref fU)) :
    FnOk P w K mg base CX0 14 f fd ["_law_script"] (spLaw K) := by
  refine F.ok scL (fun vs H Q E h => ?_) (fun cdv A outer s H vs Q E hr h => ?_)
  · obtain ⟨a, ns, rfl, _⟩ := h
    rfl
  obtain ⟨a, ns, rfl, hS, h63, q⟩ := h
  have hu64 : _ + 64 < cLine := Nat.lt_of_le_of_lt (Nat.add_le_add_left (by decide : 64 ≤ 16 * 13 + 200) _) (by have := hr.un; rwa [Nat.add_assoc] at this)
  have nd := scL.nd
  refine ⟨_, (pss_cons (ps_for PassesOwn.never rfl (pi_range1 rfl B.range (pa_cons (pe_callB (call_max2 rfl) (by rfl) B.max (by decide +kernel) (pa_cons (pe_int) (pa_cons (pe_callB call_len_seq (by rfl) B.len PySem.boot_len (pa_cons (pv 0) pa_nil)) pa_nil))) pa_nil)) (pg_name (i := 1) nd rfl (Or.inl rfl)) (pss_cons (ps_set (i := 2) nd rfl (Or.inl rfl) (pe_call GP (hr.mono (by decide)) rfl mP kP bP .nil pass0 (pa_cons (pv 0) (pa_cons (pv 1) pa_nil))))
 (pss_cons (ps_set (i := 3) nd rfl (Or.inl rfl) (pe_call GN (hr.mono (by decide)) rfl mN kN bN .nil pass0 (pa_cons (pv 2) pa_nil)))
 (pss_cons (ps_set (i := 4) nd rfl (Or.inl rfl) (pe_cmpR op_eq (pe_call GD (hr.mono (by decide)) rfl mD kD bD .nil pass0 (pa_cons (pv 2) (pa_cons (pe_int) pa_nil))) (pe_int) (nomark _)))
 (pss_cons (ps_set (i := 5) nd rfl (Or.inl rfl) (pe_cmpR op_eq (pe_call GD (hr.mono (by decide)) rfl mD kD bD .nil pass0 (pa_cons (pv 2) (pa_cons (pe_int) pa_nil))) (pe_int) (nomark _)))
 (pss_cons (ps_set (i := 6) nd rfl (Or.inl rfl) (pe_call GD (hr.mono (by decide)) rfl mD kD bD .nil pass0 (pa_cons (pv 2) (pa_cons (pe_op op_pow pe_int pe_int) pa_nil))))
 (pss_cons (ps_set (i := 7) nd rfl (Or.inl rfl) (pe_lst (pa_cons (pe_call GV (hr.mono (by decide)) rfl mV kV bV .nil pass0 (pa_cons (pv 2) (pa_cons (pe_call GD (hr.mono (by decide)) rfl mD kD bD .nil pass0 (pa_cons (pv 2) (pa_cons (pe_int) pa_nil))) (pa_cons (pe_int) (pa_cons (pv 6) pa_nil))))) pa_nil)))
 (pss_cons (ps_set (i := 8) nd rfl (Or.inl rfl) (pe_ix ix_list (pe_lst (pa_cons (pe_non) (pa_cons (pe_op op_add (pe_int) (pe_call GD (hr.mono (by decide)) rfl mD kD bD .nil pass0 (pa_cons (pv 2) (pa_cons (pe_int) pa_nil)))) pa_nil))) (pe_call GD (hr.mono (by decide)) rfl mD kD bD .nil pass0 (pa_cons (pv 2) (pa_cons (pe_int) pa_nil))) (fun _ _ => rfl)))
 (C8.pss_cut (ps_set (i := 7) nd rfl (Or.inl rfl) (pe_op op_cat (pv 7) (pe_lst (pa_cons (pe_call GV (hr.mono (by decide)) rfl mV kV bV .nil pass0 (pa_cons (pv 2) (pa_cons (pv 8) (pa_cons (pe_int) (pa_cons (pv 6) pa_nil))))) (pa_cons (pe_call GV (hr.mono (by decide)) rfl mV kV bV .nil pass0 (pa_cons (pv 2) (pa_cons (pe_call GD (hr.mono (by decide)) rfl mD kD bD .nil pass0 (pa_cons (pv 2) (pa_cons (pe_int) pa_nil))) (pa_cons (pe_int) (pa_cons (pv 6) pa_nil))))) pa_nil)))))
 (C8.pss_cut (ps_if (pt_cmpR op_eq (pe_call GD (hr.mono (by decide)) rfl mD kD bD .nil pass0 (pa_cons (pv 2) (pa_cons (pe_int) pa_nil))) (pe_int) (nomark _)) (pss_cons (ps_set (i := 9) nd rfl (Or.inl rfl) (pe_call GD (hr.mono (by decide)) rfl mD kD bD .nil pass0 (pa_cons (pv 2) (pa_cons (pe_int) pa_nil))))
 (pss_one (ps_set (i := 3) nd rfl (Or.inl rfl) (pe_lst (pa_cons (pe_ix ix_list (pv 3) (pe_int) (fun _ _ => rfl)) (pa_cons (pe_ix ix_list (pv 3) (pe_callTy call_int1 (by rfl) B.int (by decide +kernel) (pa_cons (pe_cmpR op_eq (pv 9) (pe_int) (nomark _)) pa_nil)) (fun _ _ => rfl)) (pa_cons (pe_ix ix_list (pv 3) (pe_callTy call_int1 (by rfl) B.int (by decide +kernel) (pa_cons (pe_cmpR op_gt (pv 9) pe_int (nomark _)) pa_nil)) (fun _ _ => rfl)) pa_nil))))))) pss_nil)
 (pss_cons (ps_set (i := 10) nd rfl (Or.inl rfl) (pe_lst pa_nil))
 (pss_cons (ps_set (i := 11) nd rfl (Or.inl rfl) (pe_lst pa_nil))
 (pss_cons (ps_for PassesOwn.never rfl (pi_range1 rfl B.range (pa_cons (pe_op op_fdivN (pe_callTy call_int1 (by rfl) B.int (by decide +kernel) (pa_cons (pe_op op_add (pe_call GD (hr.mono (by decide)) rfl mD kD bD .nil pass0 (pa_cons (pv 2) (pa_cons (pe_int) pa_nil))) (pe_int)) pa_nil)) (pe_int)) pa_nil)) (pg_name (i := 9) nd rfl (Or.inl rfl)) (pss_cons (ps_set (i := 12) nd rfl (Or.inl rfl) (pe_op op_add (pe_int) (pe_call GD (hr.mono (by decide)) rfl mD kD bD .nil pass0 (pa_cons (pv 2) (pa_cons (pe_int) pa_nil)))))
 (pss_cons (ps_set (i := 13) nd rfl (Or.inl rfl) (pe_call GD (hr.mono (by decide)) rfl mD kD bD .nil pass0 (pa_cons (pv 2) (pa_cons (pv 12) pa_nil))))
 (pss_cons (ps_set (i := 14) nd rfl (Or.inl rfl) (pe_op op_catB (pe_op op_repB (pe_tup (pa_cons (pe_tup (pa_cons (pe_str) pa_nil)) pa_nil)) (pe_op op_sub (pv 12) (pe_int))) (pe_tup (pa_cons (pe_tup (pa_cons (pe_str) pa_nil)) pa_nil))))
 (C8.pss_cut (ps_if (pt_cmpR op_eq (pe_call GD (hr.mono (by decide)) rfl mD kD bD .nil pass0 (pa_cons (pv 2) (pa_cons (pe_int) pa_nil))) (pe_int) (nomark _)) (pss_one (ps_set (i := 14) nd rfl (Or.inl rfl) (pe_tup (pa_cons (pe_tup (pa_cons (pe_str) (pa_cons (pe_op op_repB (pe_tup (pa_cons (pe_tup (pa_cons (pe_str) pa_nil)) pa_nil)) (pv 13)) (pa_cons (pe_op op_repB (pe_tup (pa_cons (pe_tup (pa_cons (pe_str) pa_nil)) pa_nil)) (pe_op op_sub (pe_op op_sub (pv 12) (pe_int)) (pv 13))) pa_nil)))) pa_nil)))) pss_nil)
 (pss_cons (ps_set (i := 15) nd rfl (Or.inl rfl) (pe_tup (pa_cons (pe_ix ix_list (pv 3) (pv 9) (fun _ _ => rfl)) (pa_cons (pe_op op_add (pe_int) (pe_call GD (hr.mono (by decide)) rfl mD kD bD .nil pass0 (pa_cons (pv 2) (pa_cons (pe_int) pa_nil)))) (pa_cons (pe_ix ix_list (pe_lst (pa_cons (pe_int) (pa_cons (pe_int) (pa_cons (pe_int) (pa_cons (pe_int) (pa_cons (pe_int) (pa_cons (pe_int) pa_nil))))))) (pe_call GD (hr.mono (by decide)) rfl mD kD bD .nil pass0 (pa_cons (pv 2) (pa_cons (pe_int) pa_nil))) (fun _ _ => rfl)) (pa_cons (pv 12) pa_nil))))))
 (pss_cons (ps_expr (pe_bm PySem.F.plainAttrs_list PySem.F.slot_list_append PySem.F.type_list_append mt_append (pv 10) (pa_cons (pv 15) pa_nil)))
 (pss_one (ps_expr (pe_bm PySem.F.plainAttrs_list PySem.F.slot_list_append PySem.F.type_list_append mt_append (pv 11) (pa_cons (pe_makeK MD GK (hr.mono (by decide)) rfl U.mgD bK pass0 (pa_cons (pe_ix ix_tup (pv 15) (pe_int) (fun _ _ => rfl)) (pa_cons (pv 14) pa_nil)) (pk_cons (pe_ix ix_tup (pv 15) (pe_int) (fun _ _ => rfl)) (pk_cons (pe_ix ix_tup (pv 15) (pe_int) (fun _ _ => rfl)) pk_nil))) pa_nil)))))))))))
 (C8.pss_cut (ps_if (PW.pt (pw_and (pt_val (pv 5)) (pw_and1 (pt_cmpR op_gt (pe_callB call_len_seq (by rfl) B.len PySem.boot_len (pa_cons (pv 11) pa_nil)) (pe_int) (nomark _))))) (pss_one (ps_asg (pe_ix ix_list (pe_lst (pa_cons (pe_non) (pa_cons (pe_str) (pa_cons (pe_tup (pa_cons (pe_str) pa_nil)) (pa_cons (pe_int) pa_nil))))) (pe_call GD (hr.mono (by decide)) rfl mD kD bD .nil pass0 (pa_cons (pv 2) (pa_cons (pe_int) pa_nil))) (fun _ _ => rfl)) (pg_sub (pv 11) (pe_call GD (hr.mono (by decide)) rfl mD kD bD .nil pass0 (pa_cons (pv 2) (pa_cons (pe_callB call_len_seq (by rfl) B.len PySem.boot_len (pa_cons (pv 11) pa_nil)) pa_nil))) set_list))) pss_nil)
 (C8.pss_cut (ps_if (PW.pt (pw_and (pt_val (pv 4)) (pw_and1 (pt_cmpR op_lt (pe_callB call_len_seq (by rfl) B.len PySem.boot_len (pa_cons (pv 11) pa_nil)) (pe_int) (nomark _))))) (pss_one (ps_set (i := 7) nd rfl (Or.inl rfl) (pe_lst (pa_cons (pe_int) (pa_cons (pe_ix ix_list (pe_lst (pa_cons (pe_non) (pa_cons (pe_ix ix_list (pv 7) (pe_int) (fun _ _ => rfl)) pa_nil))) (pe_callTy call_int1 (by rfl) B.int (by decide +kernel) (pa_cons (pe_cmpR op_eq (pe_callB call_len_seq (by rfl) B.len PySem.boot_len (pa_cons (pv 11) pa_nil)) (pe_int) (nomark _)) pa_nil)) (fun _ _ => rfl)) (pa_cons (pe_int) pa_nil)))))) pss_nil)
 (C8.pss_cut (ps_if (pt_cmpR op_eq (pe_callB call_len_seq (by rfl) B.len PySem.boot_len (pa_cons (pv 11) pa_nil)) (pe_int) (nomark _)) (pss_one (ps_set (i := 4) nd rfl (Or.inl rfl) (pe_bl))) pss_nil)
 (pss_one (ps_if (pt_cmpR (op_neD hu64) (pe_call GT (hr.mono (by decide)) rfl mT kT bT .nil pass0 (pa_cons (pv 11) (pa_cons (pv 7) (pa_cons (pv 4) pa_nil)))) (pe_call GU (hr.mono (by decide)) rfl mU kU bU .nil pass0 (pa_cons (pv 10) (pa_cons (pe_and (pv 5) (pe_one (pe_cmpR op_gt (pe_callB call_len_seq (by rfl) B.len PySem.boot_len (pa_cons (pv 11) pa_nil)) pe_int (nomark _)))) (pa_cons (pv 7) pa_nil)))) (nomark _)) (pss_one (ps_never)) pss_nil))))))))))))))))))
 (pss_one (ps_ret pe_bl))), ?_⟩
  have hl0 : (ns.map V.int).length = ns.length := List.length_map _
  have bnd : (if ((ns.map V.int).length : Int) > 1 then ((ns.map V.int).length : Int) else 1) ≤ 63 ∧ 1 ≤ (if ((ns.map V.int).length : Int) > 1 then ((ns.map V.int).length : Int) else 1) := by
    rw [hl0]
    split <;> omega
  refine ⟨_, rfl, a, _, rfl, .inl hS, _, _, rfl, _, rfl, by omega, by omega, ?_⟩
  refine for_range (lo := 0) (fun i σ H2 => ∃ v1 v2 v3 v4 v5 v6 v7 v8 v9 v10 v11 v12 v13 v14 v15 : Option V, σ = [some (.ref a), v1, v2, v3, v4, v5, v6, v7, v8, v9, v10, v11, v12, v13, v14, v15] ∧ Same H H2) ⟨none, none, none, none, none, none, none, none, none, none, none, none, none, none, none, rfl, Same.refl H⟩ ?_ ?_
  rotate_left
  · rintro σ H2 ⟨_, _, _, _, _, _, _, _, _, _, _, _, _, _, _, rfl, _⟩
    exact q H2
  rintro i σ H2 hi ⟨v1, v2, v3, v4, v5, v6, v7, v8, v9, v10, v11, v12, v13, v14, v15, rfl, s2⟩
  refine ⟨_, rfl, _, rfl, a, ns, _, rfl, s2.seq hS, by omega, fun p H3 hp s3 P3 => ?_⟩
  have hp0 : H p = none := s2.free hp
  refine ⟨_, rfl, p, rfl, P3, fun nq H4 hq k4 P4 N4 => ?_⟩
  have pq := pool_ne P3 hq
  have s4 := same_kp (s2.trans s3) hp0 k4
  refine ⟨_, rfl, p, 6, rfl, P4, by decide, by decide, fun r5 H5 _ _ k5 P5 => ⟨rfl, ?_⟩⟩
  have N5 := N4.kp k5 pq.symm
  have s5 := same_kp s4 hp0 k5
  refine ⟨_, rfl, p, 9, rfl, P5, by decide, by decide, fun r6 H6 _ _ k6 P6 => ⟨rfl, ?_⟩⟩
  have N6 := N5.kp k6 pq.symm
  have s6 := same_kp s5 hp0 k6
  refine ⟨_, rfl, _, _, rfl, rfl, ⟨by decide, by decide, by decide⟩, p, _, rfl, P6, by decide, by decide, fun g H7 _ _ k7 P7 => ?_⟩
  have N7 := N6.kp k7 pq.symm
  have s7 := same_kp s6 hp0 k7
  generalize decide (V.int r5 = V.int 0) = sh
  generalize decide (V.int r6 = V.int 0) = stg
  refine ⟨_, rfl, _, rfl, p, 5, rfl, P7, by decide, by decide, fun r8 H8 _ _ k8 P8 => ?_⟩
  have N8 := N7.kp k8 pq.symm
  have s8 := same_kp s7 hp0 k8
  refine ⟨_, rfl, p, .int r8, 4, g, rfl, P8, .int r8, fun va H9 k9 P9 Va9 => ⟨(by show 1 ≤ sizeLine; decide), fun La hLa => ?_⟩⟩
  have N9 := N8.kp k9 pq.symm
  have s9 := same_kp s8 hp0 k9
  have t10 := same_new hLa (.lst [va])
  have P10 := P9.same t10
  have N10 := N9.same t10
  have V10 := Va9.tk (TK.of_same t10)
  have s10 := s9.trans t10
  have l10 : (L2.upd H9 La (.lst [va])) La = some (.lst [va]) := upd_same
  have pLa := pool_ne P9 hLa
  clear k4 k5 k6 k7 k8 k9 s2 s3 s4 s5 s6 s7 s8 s9 P3 P4 P5 P6 P7 P8 P9 N4 N5 N6 N7 N8 N9 Va9
  generalize (L2.upd H9 La (.lst [va])) = HA at t10 P10 N10 V10 s10 l10 ⊢
  clear t10
  refine ⟨_, rfl, p, 8, rfl, P10, by decide, by decide, fun r11 H11 _ _ k11 P11 => ⟨_, _, rfl, rfl, (by show 2 ≤ sizeLine; decide), fun Lb hLb => ?_⟩⟩
  have N11 := N10.kp k11 pq.symm
  have V11 := V10.tk (k11.tkp P10)
  have s11 := same_kp s10 hp0 k11
  have l11 := k11 _ _ l10 pLa.symm
  have t12 := same_new hLb (.lst [V.non, .int (1 + r11)])
  have pLb := pool_ne P11 hLb
  refine ⟨_, rfl, p, 2, rfl, P11.same t12, by decide, by decide, fun r13 H13 d0 d1 k13 P13 => ?_⟩
  have N13 := (N11.same t12).kp k13 pq.symm
  have V13 := (V11.tk (TK.of_same t12)).tk (k13.tkp (P11.same t12))
  have s13 := same_kp (s11.trans t12) hp0 k13
  have l13 := k13 _ _ (t12 _ _ l11) pLa.symm
  obtain ⟨vsp, ev, hsp⟩ : ∃ v, atI [V.non, .int (1 + r11)] r13 = some v ∧ ∀ H, VV H v := by
    have : r13 = 0 ∨ r13 = 1 := by omega
    rcases this with rfl | rfl
    · exact ⟨_, rfl, fun _ => .non⟩
    · exact ⟨_, rfl, fun _ => .int _⟩
  refine ⟨Lb, _, _, _, rfl, rfl, SqL.of (k13 _ _ upd_same pLb.symm), ev, ?_⟩
  clear t12 k11 k13 N10 N11 V10 V11 l10 l11 P10 P11 s10 s11 ev
  refine ⟨fun σ' H' => ∃ (q vl : Addr) (va vw vc : V), σ' = [some (.ref a), some (.int (0 + (i : Int))), some (.ref p), some (.ref q), some (.bl sh), some (.bl stg), some (.int g), some (.ref vl), some vsp, v9, v10, v11, v12, v13, v14, v15] ∧ Same H H' ∧ J0 H' p q vl va vw vc, ?_, ?_⟩
  · refine ⟨_, rfl, _, rfl, _, rfl, _, rfl, p, vsp, 8, g, rfl, P13, hsp _, fun vw H14 k14 P14 V14 => ?_⟩
    have N14 := N13.kp k14 pq.symm
    have Va14 := V13.tk (k14.tkp P13)
    have l14 := k14 _ _ l13 pLa.symm
    have s14 := same_kp s13 hp0 k14
    refine ⟨_, rfl, _, rfl, p, 3, rfl, P14, by decide, by decide, fun r15 H15 _ _ k15 P15 => ?_⟩
    have N15 := N14.kp k15 pq.symm
    have Va15 := Va14.tk (k15.tkp P14)
    have Vw15 := V14.tk (k15.tkp P14)
    have l15 := k15 _ _ l14 pLa.symm
    have s15 := same_kp s14 hp0 k15
    refine ⟨_, rfl, p, .int r15, 2, g, rfl, P15, .int r15, fun vc H16 k16 P16 V16 => ⟨(by show 2 ≤ sizeLine; decide), fun Lc hLc => ?_⟩⟩
    have N16 := N15.kp k16 pq.symm
    have Va16 := Va15.tk (k16.tkp P15)
    have Vw16 := Vw15.tk (k16.tkp P15)
    have l16 := k16 _ _ l15 pLa.symm
    have s16 := same_kp s15 hp0 k16
    have t17 := same_new hLc (.lst [vw, vc])
    refine ⟨La, Lc, _, _, rfl, rfl, t17 _ _ l16, upd_same, (by show 1 + 2 ≤ sizeLine; decide), fun Ld hLd => ?_⟩
    have t18 := t17.trans (same_new hLd (.lst [va, vw, vc]))
    have tk := TK.of_same t18
    exact ⟨nq, Ld, va, vw, vc, rfl, s16.trans t18, P16.same t18, N16.same t18, upd_same, Va16.tk tk, Vw16.tk tk, V16.tk tk, pq, pool_ne (P16.same t17) hLd⟩
  rintro σ' HA ⟨q0, vl, va, vw, vc, rfl, sA, jA⟩
  clear N13 V13 l13 P13 s13 pLa pLb hLa hLb pq
  refine ⟨fun σ' H' => ∃ (q : Addr) (w9 : Option V), σ' = [some (.ref a), some (.int (0 + (i : Int))), some (.ref p), some (.ref q), some (.bl sh), some (.bl stg), some (.int g), some (.ref vl), some vsp, w9, v10, v11, v12, v13, v14, v15] ∧ Same H H' ∧ J0 H' p q vl va vw vc, ?_, ?_⟩
  · refine ⟨_, rfl, p, 12, rfl, jA.pool, by decide, by decide, fun rB HB _ _ kB PB => ⟨rfl, _, rfl, ite2 (fun _ => ?_) (fun _ => ⟨q0, _, rfl, same_kp sA hp0 kB, jA.kp kB PB⟩)⟩⟩
    have jB := jA.kp kB PB
    have sB := same_kp sA hp0 kB
    refine ⟨_, rfl, p, 3, rfl, PB, by decide, by decide, fun at_ HC a0 a1 kC PC => ?_⟩
    have jC := jB.kp kC PC
    have sC := same_kp sB hp0 kC
    obtain ⟨x, y, z, eq_, ix, iy, iz⟩ := jC.names
    have pick : ∀ b : Bool, ∃ n, atI [V.str x, .str y, .str z] (if b = true then 1 else 0) = some (.str n) ∧ IsName n := fun b => by
      cases b with
      | true => exact ⟨y, rfl, iy⟩
      | false => exact ⟨x, rfl, ix⟩
    obtain ⟨n1, e1, i1⟩ := pick (decide (V.int at_ = V.int 1))
    obtain ⟨n2, e2, i2⟩ := pick (decide (0 < at_))
    refine ⟨_, rfl, q0, _, _, _, rfl, rfl, SqL.of eq_, rfl, _, rfl, _, rfl, rfl, .inr ⟨_, rfl, q0, _, _, _, rfl, rfl, SqL.of eq_, e1, _, rfl, _, rfl, _, _, rfl, rfl, .inr ⟨_, rfl, q0, _, _, _, rfl, rfl, SqL.of eq_, e2, (by show 3 ≤ sizeLine; decide), fun L hL => ?_⟩⟩⟩
    have t := same_new hL (.lst [V.str x, .str n1, .str n2])
    exact ⟨L, _, rfl, sC.trans t, ⟨jC.pool.same t, ⟨x, n1, n2, upd_same, ix, i1, i2⟩, t _ _ jC.vals, jC.a.tk (TK.of_same t), jC.w.tk (TK.of_same t), jC.c.tk (TK.of_same t), pool_ne jC.pool hL, jC.pv⟩⟩
  rintro σ' HB ⟨nq, w9, rfl, sB, jB⟩
  clear jA sA
  refine ⟨Nat.zero_le _, fun rl hrl => ⟨Nat.zero_le _, fun kl hkl => ?_⟩⟩
  have t1 := same_new hrl (.lst [])
  have t2 := t1.trans (same_new hkl (.lst []))
  have jC : J CS CD (L2.upd (L2.upd HB rl (.lst [])) kl (.lst [])) p nq vl rl kl va vw vc [] [] [] := by
    obtain ⟨_, _, _, en, _⟩ := jB.names
    exact ⟨jB.same t2, (same_new hkl _) _ _ upd_same, .nil, upd_same, .nil, pool_ne jB.pool hrl, pool_ne (jB.pool.same t1) hkl, ne_of_none upd_same hkl, ne_of_none en hrl, ne_of_none (t1 _ _ en) hkl, ne_of_none jB.vals hrl, ne_of_none (t1 _ _ jB.vals) hkl⟩
  have sC := sB.trans t2
  have hrl0 : H rl = none := sB.free hrl
  have hkl0 : H kl = none := (sB.trans t1).free hkl
  clear jB sB t1 t2 hrl hkl
  generalize (L2.upd (L2.upd HB rl (.lst [])) kl (.lst [])) = HC at jC sC ⊢
  refine ⟨_, rfl, p, 16, rfl, jC.z.pool, by decide, by decide, fun rD HD d0 d1 kD_ PD => ?_⟩
  have jD := jC.kp kD_ PD
  have sD := same_kp sC hp0 kD_
  have hN : 0 ≤ (rD + 3).fdiv 5 ∧ (rD + 3).fdiv 5 ≤ 3 := by
    rw [Int.fdiv_eq_ediv_of_nonneg _ (by decide)]
    omega
  refine ⟨_, _, rfl, rfl, .inl ⟨_, rfl, _, _, rfl, rfl, ⟨by decide, by decide⟩, ?_⟩⟩
  refine ⟨(rD + 3).fdiv 5, rfl, by omega, by omega, ?_⟩
  generalize (rD + 3).fdiv 5 = NN at hN ⊢
  clear jC sC kD_
  refine for_range (lo := 0) (n := NN.toNat) (fun j σ H' => ∃ (rvs ks : List V) (rs : List KR) (x9 x12 x13 x14 x15 : Option V), σ = [some (.ref a), some (.int (0 + (i : Int))), some (.ref p), some (.ref nq), some (.bl sh), some (.bl stg), some (.int g), some (.ref vl), some vsp, x9, some (.ref rl), some (.ref kl), x12, x13, x14, x15] ∧ Same H H' ∧ J CS CD H' p nq vl rl kl va vw vc rvs ks rs ∧ rs.length = j ∧ j ≤ NN.toNat ∧ ∀ r ∈ rs, (1 ≤ r.m ∧ r.m ≤ 3) ∧ IsName r.n)
    ⟨[], [], [], _, _, _, _, _, rfl, sD, jD, rfl, Nat.zero_le _, fun r hr => (nomatch hr)⟩ ?_ ?_
  · rintro j σ H1 hj ⟨rvs, ks, rs, x9, x12, x13, x14, x15, rfl, s1, j1, lj, _, lim⟩
    refine ⟨_, rfl, p, 6, rfl, j1.z.pool, by decide, by decide, fun z0 H2 z00 z01 k2 P2 => ⟨_, _, rfl, rfl, ?_⟩⟩
    have j2 := j1.kp k2 P2
    have s2 := same_kp s1 hp0 k2
    obtain ⟨sz, rfl⟩ : ∃ sz : Nat, z0 = (sz : Int) := ⟨z0.toNat, by omega⟩
    refine ⟨_, rfl, _, rfl, p, 1 + (sz : Int), rfl, j2.z.pool, by omega, by omega, fun n0 H3 n00 n01 k3 P3 => ?_⟩
    have j3 := j2.kp k3 P3
    have s3 := same_kp s2 hp0 k3
    obtain ⟨nn, rfl⟩ : ∃ nn : Nat, n0 = (nn : Int) := ⟨n0.toNat, by omega⟩
    clear j1 j2 s1 s2 k2 k3 P2 P3 z00 n00
    refine ⟨(by show 1 ≤ sizeLine; decide), fun c hc => ⟨(by show 1 ≤ sizeLine; decide), fun o ho => ?_⟩⟩
    have tc := same_new hc (.tup [.str "commit"])
    have to := same_new ho (.tup [V.ref c])
    have hc4 := to _ _ (show (L2.upd H3 c (.tup [.str "commit"])) c = _ from upd_same)
    refine ⟨_, rfl, _, _, rfl, rfl, o, _, _, rfl, rfl, upd_same, by simp, by omega, by omega, (by show 1 ≤ 1000; decide), fun b H4 s4 hb => ?_⟩
    rw [rep_flat] at hb
    refine ⟨(by show 1 ≤ sizeLine; decide), fun c2 hc2 => ⟨(by show 1 ≤ sizeLine; decide), fun o2 ho2 => ?_⟩⟩
    have t5 := (same_new hc2 (.tup [.str "take"])).trans (same_new ho2 (.tup [V.ref c2]))
    refine ⟨b, o2, _, _, rfl, rfl, t5 _ _ hb, upd_same, Nat.le_of_lt (small1000 (by rw [List.length_replicate]; show _ + 1 ≤ 1000; omega)), fun t H5 s5 ht => ?_⟩
    have s35 := (((tc.trans to).trans s4).trans t5).trans s5
    have j5 := j3.same s35
    have sH5 := s3.trans s35
    have br5 : Bran H5 t (List.replicate sz (.one .commit) ++ [.one .take]) (sz + 1) := by
      have hc5 := ((s4.trans t5).trans s5) _ _ hc4
      have hk5 := s5 _ _ ((same_new ho2 (.tup [V.ref c2])) _ _ (show (L2.upd H4 c2 (.tup [.str "take"])) c2 = _ from upd_same))
      have e : ((1 + (sz : Int)) - 1).toNat = sz := by omega
      rw [e] at ht
      exact bran_a hc5 hk5 ht
    clear s3 tc to hc4 hb s4 t5 s5 ht s35 j3
    refine ⟨fun σ' H' => ∃ (t : Addr) (S : List Stm), σ' = [some (.ref a), some (.int (0 + (i : Int))), some (.ref p), some (.ref nq), some (.bl sh), some (.bl stg), some (.int g), some (.ref vl), some vsp, some (.int (0 + (j : Int))), some (.ref rl), some (.ref kl), some (.int (1 + (sz : Int))), some (.int (nn : Int)), some (.ref t), x15] ∧ Same H H' ∧ J CS CD H' p nq vl rl kl va vw vc rvs ks rs ∧ Bran H' t S (sz + 1), ?_, ?_⟩
    · refine ⟨_, rfl, p, 2, rfl, j5.z.pool, by decide, by decide, fun r6 H6 _ _ k6 P6 => ⟨rfl, _, rfl, ite2 (fun _ => ?_) (fun _ => ⟨t, _, rfl, same_kp sH5 hp0 k6, j5.kp k6 P6, br5.tk (k6.tkp j5.z.pool)⟩)⟩⟩
      have j6 := j5.kp k6 P6
      have sH6 := same_kp sH5 hp0 k6
      refine ⟨(by show 1 ≤ sizeLine; decide), fun d hd => ⟨(by show 1 ≤ sizeLine; decide), fun o ho => ?_⟩⟩
      have to := same_new ho (.tup [V.ref d])
      have hd7 := to _ _ (show (L2.upd H6 d (.tup [.str "drop"])) d = _ from upd_same)
      refine ⟨_, rfl, o, _, _, rfl, rfl, upd_same, by simp, by omega, by omega, (by show 1 ≤ 1000; decide), fun y H7 s7 hy => ?_⟩
      rw [rep_flat] at hy
      refine ⟨(by show 1 ≤ sizeLine; decide), fun r hr_ => ⟨(by show 1 ≤ sizeLine; decide), fun o2 ho2 => ?_⟩⟩
      have to2 := same_new ho2 (.tup [V.ref r])
      have hr8 := to2 _ _ (show (L2.upd H7 r (.tup [.str "rollback"])) r = _ from upd_same)
      refine ⟨_, rfl, _, _, rfl, rfl, _, rfl, _, _, rfl, rfl, o2, _, _, rfl, rfl, upd_same, by simp, by omega, by omega, (by show 1 ≤ 1000; decide), fun n H8 s8 hn => ?_⟩
      rw [rep_flat] at hn
      refine ⟨(by show 3 ≤ sizeLine; decide), fun x hx => ⟨(by show 1 ≤ sizeLine; decide), fun t2 ht2 => ?_⟩⟩
      have t9 := (same_new hx (.tup [.str "choose", V.ref y, .ref n])).trans (same_new ht2 (.tup [V.ref x]))
      have s78 := (((same_new hr_ (.tup [.str "rollback"])).trans to2).trans s8).trans t9
      have s69 := (((same_new hd (.tup [.str "drop"])).trans to).trans s7).trans s78
      refine ⟨t2, [.ch (List.replicate nn (.one .drop)) (List.replicate (sz - nn) (.one .rollback))], rfl, sH6.trans s69, j6.same s69, ?_⟩
      have e1 : ((nn : Nat) : Int).toNat = nn := by omega
      have e2 : ((1 + (sz : Int)) - 1 - (nn : Int)).toNat = sz - nn := by omega
      rw [e1] at hy
      rw [e2] at hn
      have e3 : 1 + nn + (sz - nn) = sz + 1 := by omega
      rw [← e3]
      exact bran_b (s78 _ _ (s7 _ _ hd7)) ((s8.trans t9) _ _ hr8) (s78 _ _ hy) (t9 _ _ hn) ((same_new ht2 _) _ _ upd_same) upd_same
    rintro σ' H6 ⟨t, S, rfl, s6, j6, br⟩
    clear j5 sH5 br5
    obtain ⟨nxs, nm, en, an, inm⟩ := names_at j6.z.names (r := 0 + (j : Int)) (by omega) (by omega)
    refine ⟨_, rfl, _, rfl, nq, _, _, _, rfl, rfl, SqL.of en, an, _, rfl, p, 3, rfl, j6.z.pool, by decide, by decide, fun rb H7 b0 b1 k7 P7 => ⟨_, _, rfl, rfl, (by show 6 ≤ sizeLine; decide), fun lm hlm => ?_⟩⟩
    have j7 := j6.kp k7 P7
    have s7 := same_kp s6 hp0 k7
    have br7 := br.tk (k7.tkp j6.z.pool)
    have t8 := same_new hlm (.lst [V.int 1, .int 1, .int 1, .int 2, .int 2, .int 3])
    have plm := pool_ne P7 hlm
    refine ⟨_, rfl, p, 6, rfl, P7.same t8, by decide, by decide, fun rm H9 m0 m1 k9 P9 => ?_⟩
    have j9 := (j7.same t8).kp k9 P9
    have s9 := same_kp (s7.trans t8) hp0 k9
    have br9 := (br7.tk (TK.of_same t8)).tk (k9.tkp (P7.same t8))
    obtain ⟨mm, em, mm1, mm3⟩ : ∃ m : Int, atI [V.int 1, .int 1, .int 1, .int 2, .int 2, .int 3] rm = some (.int m) ∧ 1 ≤ m ∧ m ≤ 3 := by
      have : rm = 0 ∨ rm = 1 ∨ rm = 2 ∨ rm = 3 ∨ rm = 4 ∨ rm = 5 := by omega
      rcases this with rfl | rfl | rfl | rfl | rfl | rfl
      · exact ⟨1, rfl, by decide, by decide⟩
      · exact ⟨1, rfl, by decide, by decide⟩
      · exact ⟨1, rfl, by decide, by decide⟩
      · exact ⟨2, rfl, by decide, by decide⟩
      · exact ⟨2, rfl, by decide, by decide⟩
      · exact ⟨3, rfl, by decide, by decide⟩
    refine ⟨lm, _, _, _, rfl, rfl, SqL.of (k9 _ _ upd_same plm.symm), em, _, rfl, (by show 4 ≤ sizeLine; decide), fun tr htr => ?_⟩
    clear j6 j7 s6 s7 br br7 t8 k7 k9 P7 P9 em an en plm
    have t10 := same_new htr (.tup [V.str nm, .int (1 + rb), .int mm, .int (1 + (sz : Int))])
    have jT := j9.same t10
    have sT := s9.trans t10
    have brT := br9.tk (TK.of_same t10)
    have hT : (L2.upd H9 tr (.tup [V.str nm, .int (1 + rb), .int mm, .int (1 + (sz : Int))])) tr = some (.tup [V.str nm, .int (1 + rb), .int mm, .int (1 + (sz : Int))]) := upd_same
    clear j9 s9 br9 t10
    generalize (L2.upd H9 tr (.tup [V.str nm, .int (1 + rb), .int mm, .int (1 + (sz : Int))])) = HT at jT sT brT hT ⊢
    have few : rs.length ≤ 3 := by omega
    have lrv := jT.rr.len
    have lks := jT.kk.len
    refine ⟨_, rfl, .inl ⟨rfl, _, SqL.of jT.rows⟩, _, rfl, rl, rvs, _, rfl, rfl, jT.rows, small1000 (by omega), ?_⟩
    have kr : Kp rl HT (L2.upd HT rl (.lst (rvs ++ [.ref tr]))) := Kp.upd
    have tk1 := kr.tk jT.rows
    have hT1 := tk1 _ _ hT
    have br1 := brT.tk tk1
    have kl1 : (L2.upd HT rl (.lst (rvs ++ [.ref tr]))) kl = some (.lst ks) := kr _ _ jT.kinds jT.rk.symm
    refine ⟨_, rfl, .inl ⟨rfl, _, SqL.of kl1⟩, _, rfl, tr, _, _, _, rfl, rfl, SqT.of hT1, rfl, _, rfl, _, rfl, tr, _, _, _, rfl, rfl, SqT.of hT1, rfl, _, rfl, tr, _, _, _, rfl, rfl, SqT.of hT1, rfl, rfl, rfl, fun x dx nx ndx ne => ?_⟩
    have sx : Same (L2.upd HT rl (.lst (rvs ++ [.ref tr]))) (L2.upd (L2.upd (L2.upd HT rl (.lst (rvs ++ [.ref tr]))) dx (.own x)) x (.ins CD dx [])) := fun c o e => by
      rw [upd_ne (ne_of_none e nx), upd_ne (ne_of_none e ndx)]; exact e
    obtain ⟨⟨bxs, bt1, bt2⟩, bne, bok, bcnt⟩ := br1.tk (TK.of_same sx)
    refine ⟨x, dx, nm, .ref t, S, 1 + rb, mm, rfl, upd_same, inm, .inr ⟨t, bxs, rfl, bt1, bt2, bne, bok, by omega⟩, by omega, by omega, mm1, mm3, fun H2 hkind kk => ⟨rfl, ?_⟩⟩
    have s12 : Same (L2.upd HT rl (.lst (rvs ++ [.ref tr]))) H2 := fun c o e => kk _ _ (sx _ _ e) (ne_of_none e nx)
    have e1 : (((cntAll S : Nat) : Int)) = 1 + (sz : Int) := by omega
    obtain ⟨kl2, jF⟩ := jT.more (rv := .ref tr) (k := .ref x) (r := ⟨nm, S, 1 + rb, mm⟩) (H2 := H2) ⟨tr, rfl, by show HT tr = some (.tup [.str nm, .int (1 + rb), .int mm, .int ((cntAll S : Nat) : Int)]); rw [e1]; exact hT⟩ s12 ⟨x, rfl, hkind⟩
    refine ⟨kl, ks, _, rfl, rfl, kl2, small1000 (by omega), ?_⟩
    refine ⟨_, _, _, _, _, _, _, _, rfl, fun c o e => ?_, jF, by rw [List.length_append, lj]; rfl, by omega, fun r hr => ?_⟩
    · rw [upd_ne (ne_of_none e hkl0)]
      exact s12 _ _ (kr _ _ (sT _ _ e) (ne_of_none e hrl0))
    · rcases List.mem_append.mp hr with h | h
      · exact lim r h
      · rw [List.mem_singleton.mp h]; exact ⟨⟨mm1, mm3⟩, inm⟩
  rintro σ H1 ⟨rvs, ks0, rs, x9, x12, x13, x14, x15, rfl, s1, j1, lj, _, lim⟩
  have fewr : rs.length ≤ 3 := by omega
  refine ⟨fun σ' H' => ∃ (ks : List V) (os : List (Option KR)), σ' = [some (.ref a), some (.int (0 + (i : Int))), some (.ref p), some (.ref nq), some (.bl sh), some (.bl stg), some (.int g), some (.ref vl), some vsp, x9, some (.ref rl), some (.ref kl), x12, x13, x14, x15] ∧ Same H H' ∧ Fnl CS CD H' rl kl vl rvs ks rs os stg false va vw vc, ?_, ?_⟩
  · refine ⟨_, rfl, _, rfl, ?_⟩
    have nolim : ∀ r, some r ∈ rs.map some → 1 ≤ r.m ∧ r.m ≤ 3 := fun r hr => by
      obtain ⟨x, hx, e⟩ := List.mem_map.mp hr
      cases e
      exact (lim r hx).1
    have plain : ∀ {H' : Hp}, J CS CD H' p nq vl rl kl va vw vc rvs ks0 rs → ¬ (stg = true ∧ rs ≠ []) → Fnl CS CD H' rl kl vl rvs ks0 rs (rs.map some) stg false va vw vc := fun j h =>
      ⟨j.rows, j.rr, j.kinds, OsAt.of j.kk, by rw [j.kk.len]; exact fewr, fewr, j.kk.len, nolim, j.z.vals, j.z.a, j.z.w, j.z.c, .inr ⟨h, rfl⟩, fun z => nomatch z⟩
    cases stg with
    | false => exact iteF ⟨ks0, _, rfl, s1, plain j1 (fun z => nomatch z.1)⟩
    | true =>
    refine iteT ⟨_, rfl, kl, _, rfl, .inl (SqL.of j1.kinds), _, _, rfl, rfl, _, rfl, ite2 (fun c => ?_) (fun c => ?_)⟩
    · have pos : 0 < ks0.length := by have := of_decide_eq_true c; omega
      have posr : 0 < rs.length := by rw [← j1.kk.len]; exact pos
      refine ⟨(by show 1 ≤ sizeLine; decide), fun tt htt => ⟨(by show 4 ≤ sizeLine; decide), fun lw hlw => ?_⟩⟩
      have t2 := (same_new htt (.tup [.str "take"])).trans (same_new hlw (.lst [V.non, .str "kind", .ref tt, .int 0]))
      have htt2 := (same_new hlw (.lst [V.non, .str "kind", .ref tt, .int 0])) _ _ (show (L2.upd H1 tt (.tup [.str "take"])) tt = _ from upd_same)
      have plw := pool_ne (j1.z.pool.same (same_new htt (.tup [.str "take"]))) hlw
      refine ⟨_, rfl, p, 4, rfl, j1.z.pool.same t2, by decide, by decide, fun r3 H3 d0 d1 k3 P3 => ?_⟩
      have j3 := (j1.same t2).kp k3 P3
      have s3 := same_kp (s1.trans t2) hp0 k3
      have htt3 := (k3.tkp (j1.z.pool.same t2)) _ _ htt2
      obtain ⟨bv, eb, hbv⟩ : ∃ v, atI [V.non, .str "kind", .ref tt, .int 0] r3 = some v ∧ ∀ H', H' tt = some (.tup [.str "take"]) → OrKind CS CD H' v none := by
        have : r3 = 0 ∨ r3 = 1 ∨ r3 = 2 ∨ r3 = 3 := by omega
        rcases this with rfl | rfl | rfl | rfl
        · exact ⟨_, rfl, fun _ _ => ⟨_, .non⟩⟩
        · exact ⟨_, rfl, fun _ _ => ⟨_, .str _⟩⟩
        · exact ⟨_, rfl, fun _ h => ⟨_, .tup h⟩⟩
        · exact ⟨_, rfl, fun _ _ => ⟨_, .int _⟩⟩
      refine ⟨lw, _, _, _, rfl, rfl, SqL.of (k3 _ _ upd_same plw.symm), eb, _, rfl, _, rfl, _, rfl, kl, _, rfl, .inl (SqL.of j3.kinds), p, _, rfl, j3.z.pool, by omega, by have := j3.kk.len; omega, fun r4 H4 e0 e1 k4 P4 => ?_⟩
      have j4 := j3.kp k4 P4
      have s4 := same_kp s3 hp0 k4
      have htt4 := (k4.tkp j3.z.pool) _ _ htt3
      refine ⟨kl, ks0, r4, r4.toNat, rfl, rfl, j4.kinds, by unfold ixN; rw [if_pos e0, if_pos e1], ?_⟩
      have kk : Kp kl H4 (L2.upd H4 kl (.lst (ks0.set r4.toNat bv))) := Kp.upd
      have tk := kk.tk j4.kinds
      refine ⟨_, (rs.map some).set r4.toNat none, rfl, fun b o e => ?_, ⟨kk _ _ j4.rows j4.rk, j4.rr.tk tk, upd_same, OsAt.set (hbv _ (tk _ _ htt4)) _ (OsAt.of (j4.kk.kpl kk j4.kinds)), by rw [List.length_set, j4.kk.len]; exact fewr, fewr, by rw [List.length_set, j4.kk.len], fun r hr => nolim r (mem_set_none hr), kk _ _ j4.z.vals j4.vk, j4.z.a.tk tk, j4.z.w.tk tk, j4.z.c.tk tk, .inl ⟨rfl, fun z => by rw [z] at posr; exact absurd posr (by decide), set_none (by rw [List.length_map]; have := j3.kk.len; omega)⟩, fun z => nomatch z⟩⟩
      rw [upd_ne (ne_of_none e hkl0)]
      exact s4 _ _ e
    · refine ⟨ks0, _, rfl, s1, plain j1 fun z => z.2 (List.eq_nil_of_length_eq_zero ?_)⟩
      have c' : ¬ ((0 : Int) < ((ks0.length : Nat) : Int)) := fun z => c (decide_eq_true z)
      have := j1.kk.len
      omega
  rintro σ' H2 ⟨ks, os, rfl, s2, f2⟩
  clear j1 s1
  refine ⟨fun σ' H' => ∃ (vl : Addr) (va vw vc : V), σ' = [some (.ref a), some (.int (0 + (i : Int))), some (.ref p), some (.ref nq), some (.bl sh), some (.bl stg), some (.int g), some (.ref vl), some vsp, x9, some (.ref rl), some (.ref kl), x12, x13, x14, x15] ∧ Same H H' ∧ Fnl CS CD H' rl kl vl rvs ks rs os stg sh va vw vc, ?_, ?_⟩
  · refine ⟨_, rfl, _, rfl, ?_⟩
    cases sh with
    | false => exact iteF ⟨vl, va, vw, vc, rfl, s2, f2⟩
    | true =>
    refine iteT ⟨_, rfl, kl, _, rfl, .inl (SqL.of f2.hk), _, _, rfl, rfl, _, rfl, ite2 (fun c => ?_) (fun c => ?_)⟩
    · refine ⟨_, rfl, vl, _, _, _, rfl, rfl, SqL.of f2.hv, rfl, (by show 2 ≤ sizeLine; decide), fun l1 hl1 => ?_⟩
      have t1 := same_new hl1 (.lst [V.non, vw])
      have f3 := f2.same t1
      refine ⟨_, rfl, kl, _, rfl, .inl (SqL.of f3.hk), rfl, .inr ⟨_, rfl, ?_⟩⟩
      obtain ⟨nv, en, hnv⟩ : ∃ nv, atI [V.non, vw] (if decide (V.int ((ks.length : Nat) : Int) = V.int 2) = true then 1 else 0) = some nv ∧ ((ks.length ≠ 2 ∧ nv = .non) ∨ (ks.length = 2 ∧ nv = vw)) := by
        by_cases c2 : ks.length = 2
        · exact ⟨vw, by rw [c2]; rfl, .inr ⟨c2, rfl⟩⟩
        · refine ⟨.non, ?_, .inl ⟨c2, rfl⟩⟩
          rw [if_neg fun z => c2 (by have := of_decide_eq_true z; injection this with h; omega)]
          rfl
      refine ⟨l1, _, _, _, rfl, rfl, SqL.of upd_same, en, (by show 3 ≤ sizeLine; decide), fun l2 hl2 => ?_⟩
      have t2 := same_new hl2 (.lst [V.int 0, nv, .int 0])
      have f4 := f3.same t2
      have vn : VV (L2.upd (L2.upd H2 l1 (.lst [V.non, vw])) l2 (.lst [V.int 0, nv, .int 0])) nv := by
        rcases hnv with ⟨_, rfl⟩ | ⟨_, rfl⟩
        · exact .non
        · exact f4.gw
      exact ⟨l2, .int 0, nv, .int 0, rfl, (s2.trans t1).trans t2, ⟨f4.rows, f4.rr, f4.hk, f4.hO, f4.few, f4.fewr, f4.len, f4.lim, upd_same, .int 0, vn, .int 0, f4.rel, fun _ => ⟨fun c1 => ⟨rfl, by rcases hnv with ⟨_, h⟩ | ⟨h, _⟩; exact h; omega, rfl⟩, fun _ => ⟨rfl, rfl⟩⟩⟩⟩
    · have c' : ¬ (((ks.length : Nat) : Int) < 3) := fun z => c (decide_eq_true z)
      exact ⟨vl, va, vw, vc, rfl, s2, ⟨f2.rows, f2.rr, f2.hk, f2.hO, f2.few, f2.fewr, f2.len, f2.lim, f2.hv, f2.ga, f2.gw, f2.gc, f2.rel, fun _ => ⟨fun c1 => by omega, fun c1 => by omega⟩⟩⟩
  clear f2 s2 jD sD
  rintro σ' H5 ⟨vl, va, vw, vc, rfl, s5, f5⟩
  refine ⟨fun σ' H' => ∃ sh' : Bool, σ' = [some (.ref a), some (.int (0 + (i : Int))), some (.ref p), some (.ref nq), some (.bl sh'), some (.bl stg), some (.int g), some (.ref vl), some vsp, x9, some (.ref rl), some (.ref kl), x12, x13, x14, x15] ∧ Same H H' ∧ Fnl CS CD H' rl kl vl rvs ks rs os stg sh' va vw vc, ?_, ?_⟩
  · refine ⟨_, rfl, kl, _, rfl, .inl (SqL.of f5.hk), rfl, _, rfl, ite2 (fun c => ?_) (fun c => ⟨sh, rfl, s5, f5⟩)⟩
    exact ⟨false, rfl, s5, ⟨f5.rows, f5.rr, f5.hk, f5.hO, f5.few, f5.fewr, f5.len, f5.lim, f5.hv, f5.ga, f5.gw, f5.gc, f5.rel, fun z => nomatch z⟩⟩
  rintro σ' H6 ⟨sh', rfl, s6, f6⟩
  clear f5 s5
  cases ey : yWhy os va vw vc with
  | none =>
    cases stg with
    | false =>
      refine ⟨_, rfl, _, rfl, _, rfl, kl, vl, sh', ks, os, va, vw, vc, rfl, f6.hk, f6.hO, f6.few, f6.lim, f6.hv, f6.ga.any, f6.gw.any, f6.gc.any, f6.cond, fun z' ez => (by rw [ey] at ez; cases ez), fun rs' ez eo u l H7 s7 hu hl => ?_⟩
      have f7 := f6.same s7
      have eb : yDue false rs va vw vc = yWhy os va vw vc := ydue_eq f6.rel (by rfl) va vw vc
      refine ⟨_, rfl, _, rfl, _, rfl, iteF ⟨_, rfl, rl, vl, _, rvs, rs, va, vw, vc, rfl, f7.rows, f7.rr, f7.fewr, fun r hr => (lim r hr).1, f7.hv, f7.ga.any, f7.gw.any, f7.gc.any, fun z2 ez2 => (by rw [eb, ey] at ez2; cases ez2), fun ez2 u2 l2 H8 s8 hu2 hl2 => ?_⟩⟩
      obtain ⟨ia, iw, ic⟩ := made_vals ey
      obtain rfl : rs = rs' := by
        rcases f6.rel with ⟨_, _, h⟩ | ⟨_, h⟩
        · rw [eo] at h; simp at h
        · exact somes_inj (h.symm.trans eo)
      obtain ⟨d, e1, e2, sh1, eq1⟩ := made_eq (K := K) (zs := sess rs) (fun z hz => by obtain ⟨r, hr, rfl⟩ := sess_mem hz; exact low_ok (lim r hr).2.2.2) ia iw ic (s8 _ _ hu) hu2 (s8 _ _ hl) hl2
      exact ⟨d, d, e1, e2, sh1, sh1, _, rfl, iteFb (by rw [eq1]; rfl) ⟨_, _, _, _, _, _, _, _, _, _, _, _, _, _, _, rfl, (s6.trans s7).trans s8⟩⟩
    | true =>
      refine ⟨_, rfl, _, rfl, _, rfl, kl, vl, sh', ks, os, va, vw, vc, rfl, f6.hk, f6.hO, f6.few, f6.lim, f6.hv, f6.ga.any, f6.gw.any, f6.gc.any, f6.cond, fun z' ez => (by rw [ey] at ez; cases ez), fun rs' ez eo u l H7 s7 hu hl => ?_⟩
      have f7 := f6.same s7
      have eb : yDue (decide ((0 : Int) < ((ks.length : Nat) : Int))) rs va vw vc = yWhy os va vw vc := ydue_eq f6.rel (by rw [f6.len]; exact len_pos rs) va vw vc
      refine ⟨_, rfl, _, rfl, _, rfl, iteT ⟨_, rfl, kl, _, rfl, .inl (SqL.of f7.hk), _, _, rfl, rfl, _, rfl, rl, vl, _, rvs, rs, va, vw, vc, rfl, f7.rows, f7.rr, f7.fewr, fun r hr => (lim r hr).1, f7.hv, f7.ga.any, f7.gw.any, f7.gc.any, fun z2 ez2 => (by rw [eb, ey] at ez2; cases ez2), fun ez2 u2 l2 H8 s8 hu2 hl2 => ?_⟩⟩
      obtain ⟨ia, iw, ic⟩ := made_vals ey
      obtain rfl : rs = rs' := by
        rcases f6.rel with ⟨_, _, h⟩ | ⟨_, h⟩
        · rw [eo] at h; simp at h
        · exact somes_inj (h.symm.trans eo)
      obtain ⟨d, e1, e2, sh1, eq1⟩ := made_eq (K := K) (zs := sess rs) (fun z hz => by obtain ⟨r, hr, rfl⟩ := sess_mem hz; exact low_ok (lim r hr).2.2.2) ia iw ic (s8 _ _ hu) hu2 (s8 _ _ hl) hl2
      exact ⟨d, d, e1, e2, sh1, sh1, _, rfl, iteFb (by rw [eq1]; rfl) ⟨_, _, _, _, _, _, _, _, _, _, _, _, _, _, _, rfl, (s6.trans s7).trans s8⟩⟩
  | some z =>
    cases stg with
    | false =>
      refine ⟨_, rfl, _, rfl, _, rfl, kl, vl, sh', ks, os, va, vw, vc, rfl, f6.hk, f6.hO, f6.few, f6.lim, f6.hv, f6.ga.any, f6.gw.any, f6.gc.any, f6.cond, fun z' ez u H7 s7 hu => ?_, fun rs' ez => by rw [ey] at ez; cases ez⟩
      have f7 := f6.same s7
      rw [ey] at ez
      obtain rfl : z = z' := Option.some.inj ez
      have eb : yDue false rs va vw vc = yWhy os va vw vc := ydue_eq f6.rel (by rfl) va vw vc
      refine ⟨_, rfl, _, rfl, _, rfl, iteF ⟨_, rfl, rl, vl, _, rvs, rs, va, vw, vc, rfl, f7.rows, f7.rr, f7.fewr, fun r hr => (lim r hr).1, f7.hv, f7.ga.any, f7.gw.any, f7.gc.any, fun z2 ez2 u2 H8 s8 hu2 => ?_, fun ez2 => by rw [eb, ey] at ez2; cases ez2⟩⟩
      rw [eb, ey] at ez2
      obtain rfl : z = z2 := Option.some.inj ez2
      obtain ⟨d, e1, e2, sh1, eq1⟩ := refused_eq (K := K) (why_ok ey) (s8 _ _ hu) hu2
      exact ⟨d, d, e1, e2, sh1, sh1, _, rfl, iteFb (by rw [eq1]; rfl) ⟨_, _, _, _, _, _, _, _, _, _, _, _, _, _, _, rfl, (s6.trans s7).trans s8⟩⟩
    | true =>
      refine ⟨_, rfl, _, rfl, _, rfl, kl, vl, sh', ks, os, va, vw, vc, rfl, f6.hk, f6.hO, f6.few, f6.lim, f6.hv, f6.ga.any, f6.gw.any, f6.gc.any, f6.cond, fun z' ez u H7 s7 hu => ?_, fun rs' ez => by rw [ey] at ez; cases ez⟩
      have f7 := f6.same s7
      rw [ey] at ez
      obtain rfl : z = z' := Option.some.inj ez
      have eb : yDue (decide ((0 : Int) < ((ks.length : Nat) : Int))) rs va vw vc = yWhy os va vw vc := ydue_eq f6.rel (by rw [f6.len]; exact len_pos rs) va vw vc
      refine ⟨_, rfl, _, rfl, _, rfl, iteT ⟨_, rfl, kl, _, rfl, .inl (SqL.of f7.hk), _, _, rfl, rfl, _, rfl, rl, vl, _, rvs, rs, va, vw, vc, rfl, f7.rows, f7.rr, f7.fewr, fun r hr => (lim r hr).1, f7.hv, f7.ga.any, f7.gw.any, f7.gc.any, fun z2 ez2 u2 H8 s8 hu2 => ?_, fun ez2 => by rw [eb, ey] at ez2; cases ez2⟩⟩
      rw [eb, ey] at ez2
      obtain rfl : z = z2 := Option.some.inj ez2
      obtain ⟨d, e1, e2, sh1, eq1⟩ := refused_eq (K := K) (why_ok ey) (s8 _ _ hu) hu2
      exact ⟨d, d, e1, e2, sh1, sh1, _, rfl, iteFb (by rw [eq1]; rfl) ⟨_, _, _, _, _, _, _, _, _, _, _, _, _, _, _, rfl, (s6.trans s7).trans s8⟩⟩
end
end Tk
set_option maxRecDepth 100000
namespace Tk
open PySem L2 StK PyProof.Rows
theorem checks {P : Program} {w : World} {K : PySem.W.Frag} {mg : Str → Option Value} {base : Heap} {CS CK it : Addr} {fB fS fF fH : Addr} {fdB fdS fdF fdH : FuncData} (FB : Fun K "check_branch" "Check.check_branch" sKBr fB fdB) (FS : Fun K "check_statement" "Check.check_statement" sKSt fS fdS) (B : Bl mg) (T : Txt K w mg CS CK it)
    (bB : Binds K fdB psKB []) (mB : Meth K CK "check_branch" fB) (bS : Binds K fdS psKS []) (mS : Meth K CK "check_statement" fS)
    (GF : FnOk P w K mg base CX0 2 fF fdF ["statement", "place", "earlier", "held"] spFault) (bF : Binds K fdF ["statement", "place", "earlier", "held"] []) (kF : PySem.W.keepIn K (.ref fF) = true) (mF : mg "fault_of" = some (.ref fF)) (GH : FnOk P w K mg base CX0 1 fH fdH ["word", "held"] spHeld) (bH : Binds K fdH ["word", "held"] []) (kH : PySem.W.keepIn K (.ref fH) = true) (mH : mg "held_after" = some (.ref fH)) : ∀ m : Nat, FnOk P w K mg base CX0 (2 + 2 * m) fB fdB psKB (spKB CK m)
  | 0 => by
    have no : ∀ vs H Q E, ¬ spKB CK 0 vs H Q E := fun vs H Q E h => by
      obtain ⟨c, dd, t, u, xs, h, B, d, p, W, _, e, d2, _⟩ := h
      omega
    exact ⟨fun vs H Q E h => absurd h (no vs H Q E), fun A outer s H args us vs Q E _ _ _ _ h => absurd h (no vs H Q E)⟩
  | m + 1 => ok_kbr FB T (ok_kst (Nat.le_add_right 2 _) FS B T (checks FB FS B T bB mB bS mS GF bF kF mF GH bH kH mH m) bB mB GF bF kF mF GH bH kH mH) bS mS
theorem kit_ref {K : PySem.W.Frag} {D C : Addr} {b : Bool} (hne : (Value.ref D == Value.ref C) = false) (ic : PySem.W.isClsIn K C = true) (tC : PySem.W.typeIn K (.ref C) = some (.type "type")) (s : PySem.W.subIn K (.ref D) (.ref C) = some b) : PySem.W.kitOne K (.ref D) (.ref C) = some b := by
  have e1 : (PySem.W.clsIn K C).isSome = true := ic
  unfold PySem.W.kitOne
  rw [hne, if_neg (by decide)]
  show (if ((PySem.W.clsIn K C).isSome && PySem.W.typeIn K (.ref C) == some (.type "type")) = true then PySem.W.subIn K (.ref D) (.ref C) else none) = some b
  rw [e1, tC, if_pos (show (true && some (Value.type "type") == some (Value.type "type")) = true from by rw [beq_self_eq_true]; rfl)]
  exact s
theorem ve_ok {CT : Addr} : PySem.HandSPX.refsVE [.ref CT, .type "ValueError", .type "Exception", .type "BaseException", .type "object"] = true := by
  show PySem.HandSPX.refsVE [.type "ValueError", .type "Exception", .type "BaseException", .type "object"] = true
  decide +kernel
theorem kit_no {K : PySem.W.Frag} {C : Addr} {t : String} (iC : PySem.W.isClsIn K C = true) (tC : PySem.W.typeIn K (.ref C) = some (.type "type")) (u : PySem.W.subIn K (.type t) (.ref C) = some false) : PySem.W.kitOne K (.type t) (.ref C) = some false := by
  have e1 : (PySem.W.clsIn K C).isSome = true := iC
  show (if ((PySem.W.clsIn K C).isSome && PySem.W.typeIn K (.ref C) == some (.type "type")) = true then PySem.W.subIn K (.type t) (.ref C) else none) = some false
  rw [e1, tC, if_pos (show (true && some (Value.type "type") == some (Value.type "type")) = true from by rw [beq_self_eq_true]; rfl)]
  exact u
theorem all_mk {l : PySem.W.OpenLaw} {w : World} {K : PySem.W.Frag} {h : Heap} {mg : Str → Option Value} {fa CS CK CD CY CBY CBK CT it KD KY f_isInt f_within f_isName f_fault f_form f_held f_scriptOf f_count f_are f_faultY f_pool f_draw f_names f_made f_told f_integer f_due f_value f_law f_sinit f_seq f_slen f_kinit f_kbr f_kst f_deq f_byi f_dinit f_yinit : Addr} (X : K.In h) (G : h.Ns mainGlobals mg) (hfa : mg "law" = some (.ref fa))
    {nmCBY qCBY : Str} {NCBY : Addr} {bsCBY sbCBY : List Value} {snCBY : List Str} {abCBY : Bool} {coCBY : Option Bool} {ddCBY : Option Addr} {m0CBY m1CBY m2CBY m3CBY m5CBY : Option Value}
    {od_isInt an_isInt : Option Addr} {sl_isInt : Array (Option Value)} {oc_isInt kV_isInt dc_isInt pm_isInt cd_isInt ct_isInt : Value}
    {od_within an_within : Option Addr} {sl_within : Array (Option Value)} {oc_within kV_within dc_within pm_within cd_within ct_within : Value}
    {od_isName an_isName : Option Addr} {sl_isName : Array (Option Value)} {oc_isName kV_isName dc_isName pm_isName cd_isName ct_isName : Value}
    {od_fault an_fault : Option Addr} {sl_fault : Array (Option Value)} {oc_fault kV_fault dc_fault pm_fault cd_fault ct_fault : Value}
    {od_form an_form : Option Addr} {sl_form : Array (Option Value)} {oc_form kV_form dc_form pm_form cd_form ct_form : Value}
    {od_held an_held : Option Addr} {sl_held : Array (Option Value)} {oc_held kV_held dc_held pm_held cd_held ct_held : Value}
    {od_scriptOf an_scriptOf : Option Addr} {sl_scriptOf : Array (Option Value)} {oc_scriptOf kV_scriptOf dc_scriptOf pm_scriptOf cd_scriptOf ct_scriptOf : Value}
    {od_count an_count : Option Addr} {sl_count : Array (Option Value)} {oc_count kV_count dc_count pm_count cd_count ct_count : Value}
    {od_are an_are : Option Addr} {sl_are : Array (Option Value)} {oc_are kV_are dc_are pm_are cd_are ct_are : Value}
    {od_faultY an_faultY : Option Addr} {sl_faultY : Array (Option Value)} {oc_faultY kV_faultY dc_faultY pm_faultY cd_faultY ct_faultY : Value}
    {od_pool an_pool : Option Addr} {sl_pool : Array (Option Value)} {oc_pool kV_pool dc_pool pm_pool cd_pool ct_pool : Value}
    {od_draw an_draw : Option Addr} {sl_draw : Array (Option Value)} {oc_draw kV_draw dc_draw pm_draw cd_draw ct_draw : Value}
    {od_names an_names : Option Addr} {sl_names : Array (Option Value)} {oc_names kV_names dc_names pm_names cd_names ct_names : Value}
    {od_made an_made : Option Addr} {sl_made : Array (Option Value)} {oc_made kV_made dc_made pm_made cd_made ct_made : Value}
    {od_told an_told : Option Addr} {sl_told : Array (Option Value)} {oc_told kV_told dc_told pm_told cd_told ct_told : Value}
    {od_integer an_integer : Option Addr} {sl_integer : Array (Option Value)} {oc_integer kV_integer dc_integer pm_integer cd_integer ct_integer : Value}
    {od_due an_due : Option Addr} {sl_due : Array (Option Value)} {oc_due kV_due dc_due pm_due cd_due ct_due : Value}
    {od_value an_value : Option Addr} {sl_value : Array (Option Value)} {oc_value kV_value dc_value pm_value cd_value ct_value : Value}
    {od_law an_law : Option Addr} {sl_law : Array (Option Value)} {oc_law kV_law dc_law pm_law cd_law ct_law : Value}
    {od_sinit an_sinit : Option Addr} {sl_sinit : Array (Option Value)} {oc_sinit kV_sinit dc_sinit pm_sinit cd_sinit ct_sinit : Value}
    {od_seq an_seq : Option Addr} {sl_seq : Array (Option Value)} {oc_seq kV_seq dc_seq pm_seq cd_seq ct_seq : Value}
    {od_slen an_slen : Option Addr} {sl_slen : Array (Option Value)} {oc_slen kV_slen dc_slen pm_slen cd_slen ct_slen : Value}
    {od_kinit an_kinit : Option Addr} {sl_kinit : Array (Option Value)} {oc_kinit kV_kinit dc_kinit pm_kinit cd_kinit ct_kinit : Value}
    {od_kbr an_kbr : Option Addr} {sl_kbr : Array (Option Value)} {oc_kbr kV_kbr dc_kbr pm_kbr cd_kbr ct_kbr : Value}
    {od_kst an_kst : Option Addr} {sl_kst : Array (Option Value)} {oc_kst kV_kst dc_kst pm_kst cd_kst ct_kst : Value}
    {od_deq an_deq : Option Addr} {sl_deq : Array (Option Value)} {oc_deq kV_deq dc_deq pm_deq cd_deq ct_deq : Value}
    {od_byi an_byi : Option Addr} {sl_byi : Array (Option Value)} {oc_byi kV_byi dc_byi pm_byi cd_byi ct_byi : Value}
    {od_dinit an_dinit : Option Addr} {sl_dinit : Array (Option Value)} {oc_dinit dc_dinit pm_dinit cd_dinit ct_dinit : Value}
    {od_yinit an_yinit : Option Addr} {sl_yinit : Array (Option Value)} {oc_yinit dc_yinit pm_yinit cd_yinit ct_yinit : Value}
    {esI : Array DictEntry} {nI : Nat} {t_LONGEST_NAME t_MOST_STATEMENTS t_MOST_HELD t_MOST_NESTED t_MOST_BLOCK t_MOST_SESSIONS t_LONGEST_OF_MANY t_MOST_AHEAD t_MOST_WINDOW t_MOST_CRASHES t_take t_commit t_rollback t_drop t_leave t_lock t_unlock t_choose tk1 tk2 tk3 tk4 : Tok}
    (aCS : PySem.W.nsIn K mainGlobals "Script" = some (some (.ref CS)))
    (aCK : PySem.W.nsIn K mainGlobals "Check" = some (some (.ref CK)))
    (aCD : PySem.W.nsIn K mainGlobals "Kind" = some (some (.ref CD)))
    (aCY : PySem.W.nsIn K mainGlobals "System" = some (some (.ref CY)))
    (aCBY : PySem.W.nsIn K mainGlobals "BadSystem" = some (some (.ref CBY)))
    (aCBK : PySem.W.nsIn K mainGlobals "BadKind" = some (some (.ref CBK)))
    (aCT : PySem.W.nsIn K mainGlobals "TakeError" = some (some (.ref CT)))
    (pgCS : PySem.W.plainGet K CS Str.empty = true)
    (hdCS : PySem.W.hasDictIn K CS = true)
    (poCS : PySem.W.plainOver K CS = true)
    (saCS : PySem.W.findIn K (.ref CS) "__setattr__" = some (some (.builtin "object.__setattr__")))
    (mkCS : PySem.W.makesIn K CS = true)
    (kcCS : PySem.W.keepIn K (.ref CS) = true)
    (pgCK : PySem.W.plainGet K CK Str.empty = true)
    (hdCK : PySem.W.hasDictIn K CK = true)
    (poCK : PySem.W.plainOver K CK = true)
    (saCK : PySem.W.findIn K (.ref CK) "__setattr__" = some (some (.builtin "object.__setattr__")))
    (mkCK : PySem.W.makesIn K CK = true)
    (kcCK : PySem.W.keepIn K (.ref CK) = true)
    (pgCD : PySem.W.plainGet K CD Str.empty = true)
    (hdCD : PySem.W.hasDictIn K CD = true)
    (poCD : PySem.W.plainOver K CD = true)
    (saCD : PySem.W.findIn K (.ref CD) "__setattr__" = some (some (.builtin "object.__setattr__")))
    (mkCD : PySem.W.makesIn K CD = true)
    (kcCD : PySem.W.keepIn K (.ref CD) = true)
    (pgCY : PySem.W.plainGet K CY Str.empty = true)
    (hdCY : PySem.W.hasDictIn K CY = true)
    (poCY : PySem.W.plainOver K CY = true)
    (saCY : PySem.W.findIn K (.ref CY) "__setattr__" = some (some (.builtin "object.__setattr__")))
    (mkCY : PySem.W.makesIn K CY = true)
    (kcCY : PySem.W.keepIn K (.ref CY) = true)
    (caCS : PySem.W.findIn K (.ref CS) "__class__" = some (some (.builtin "object.__class__")))
    (obCS : PySem.W.mroIn K CS (.type "object") = some true)
    (caCD : PySem.W.findIn K (.ref CD) "__class__" = some (some (.builtin "object.__class__")))
    (obCD : PySem.W.mroIn K CD (.type "object") = some true)
    (caCY : PySem.W.findIn K (.ref CY) "__class__" = some (some (.builtin "object.__class__")))
    (obCY : PySem.W.mroIn K CY (.type "object") = some true)
    (neCS : PySem.W.findIn K (.ref CS) "__ne__" = some (some (.builtin "object.__ne__")))
    (neCD : PySem.W.findIn K (.ref CD) "__ne__" = some (some (.builtin "object.__ne__")))
    (cn : PySem.W.specialIn K (.builtin "object.__class__") "__get__" = some (some (.builtin "getset_descriptor.__get__")))
    (ct : PySem.W.takesIn K (.builtin "object.__class__") = some true)
    (iCS : PySem.W.isClsIn K CS = true)
    (tCS : PySem.W.typeIn K (.ref CS) = some (.type "type"))
    (uCS : PySem.W.subIn K (.type "tuple") (.ref CS) = some false)
    (iCD : PySem.W.isClsIn K CD = true)
    (tCD : PySem.W.typeIn K (.ref CD) = some (.type "type"))
    (u_NoneType : PySem.W.subIn K (.type "NoneType") (.ref CD) = some false)
    (u_bool : PySem.W.subIn K (.type "bool") (.ref CD) = some false)
    (u_int : PySem.W.subIn K (.type "int") (.ref CD) = some false)
    (u_str : PySem.W.subIn K (.type "str") (.ref CD) = some false)
    (u_list : PySem.W.subIn K (.type "list") (.ref CD) = some false)
    (u_tuple : PySem.W.subIn K (.type "tuple") (.ref CD) = some false)
    (u_dict : PySem.W.subIn K (.type "dict") (.ref CD) = some false)
    (nCSstatements : PySem.W.findIn K (.ref CS) "statements" = some none)
    (nCSfound : PySem.W.findIn K (.ref CS) "found" = some none)
    (nCSplaces : PySem.W.findIn K (.ref CS) "places" = some none)
    (nCKfound : PySem.W.findIn K (.ref CK) "found" = some none)
    (nCDname : PySem.W.findIn K (.ref CD) "name" = some none)
    (nCDscript : PySem.W.findIn K (.ref CD) "script" = some none)
    (nCDblock : PySem.W.findIn K (.ref CD) "block" = some none)
    (nCDmany : PySem.W.findIn K (.ref CD) "many" = some none)
    (nCYkinds : PySem.W.findIn K (.ref CY) "kinds" = some none)
    (nCYahead : PySem.W.findIn K (.ref CY) "ahead" = some none)
    (nCYwindow : PySem.W.findIn K (.ref CY) "window" = some none)
    (nCYcrashes : PySem.W.findIn K (.ref CY) "crashes" = some none)
    (nCYsessions : PySem.W.findIn K (.ref CY) "sessions" = some none)
    (xCBY : K.lookup CBY = some (excClassObj nmCBY qCBY CBY NCBY bsCBY [.ref CT, .type "ValueError", .type "Exception", .type "BaseException", .type "object"] true snCBY sbCBY abCBY coCBY ddCBY m0CBY m1CBY m2CBY m3CBY m5CBY "ValueError.__new__"))
    (saCBY : PySem.W.findIn K (.ref CBY) "__setattr__" = some (some (.builtin "object.__setattr__")))
    (gaCBY : PySem.W.findIn K (.ref CBY) "__getattribute__" = some (some (.builtin "BaseException.__getattribute__")))
    (ggCBY : PySem.W.findIn K (.ref CBY) "__getattr__" = some none)
    (nfCBY : PySem.W.findIn K (.ref CBY) "why" = some none)
    (eCBY : PySem.W.subIn K (.ref CBY) (.type "BaseException") = some true)
    (tCBY : PySem.W.typeIn K (.ref CBY) = some (.type "type"))
    (hCBY : PySem.W.hasDictIn K CBY = true)
    (kcCBY : PySem.W.keepIn K (.ref CBY) = true)
    (caCBY : PySem.W.findIn K (.ref CBY) "__class__" = some (some (.builtin "object.__class__")))
    (obCBY : PySem.W.mroIn K CBY (.type "object") = some true)
    (iCBY : PySem.W.isClsIn K CBY = true)
    (iCT : PySem.W.isClsIn K CT = true)
    (tCT : PySem.W.typeIn K (.ref CT) = some (.type "type"))
    (iCBK : PySem.W.isClsIn K CBK = true)
    (tCBK : PySem.W.typeIn K (.ref CBK) = some (.type "type"))
    (sCBYCBY : PySem.W.subIn K (.ref CBY) (.ref CBY) = some true)
    (sCBYCT : PySem.W.subIn K (.ref CBY) (.ref CT) = some true)
    (sCBYCBK : PySem.W.subIn K (.ref CBY) (.ref CBK) = some false)
    (dCBYCT : (Value.ref CBY == Value.ref CT) = false)
    (dCBYCBK : (Value.ref CBY == Value.ref CBK) = false)
    (a_isInt : PySem.W.nsIn K mainGlobals "is_integer" = some (some (.ref f_isInt)))
    (l_isInt : K.lookup f_isInt = some ⟨oc_isInt, od_isInt, .func (PySem.W.fnOf "is_integer" "is_integer" (defArgs sIsInt) (defBody sIsInt) (defScope sIsInt) .none kV_isInt dc_isInt pm_isInt an_isInt cd_isInt ct_isInt), sl_isInt⟩)
    (c_isInt : PySem.W.codeIn K cd_isInt "is_integer" = true)
    (k_isInt : PySem.W.keepIn K (.ref f_isInt) = true)
    (a_within : PySem.W.nsIn K mainGlobals "is_within" = some (some (.ref f_within)))
    (l_within : K.lookup f_within = some ⟨oc_within, od_within, .func (PySem.W.fnOf "is_within" "is_within" (defArgs sWithin) (defBody sWithin) (defScope sWithin) .none kV_within dc_within pm_within an_within cd_within ct_within), sl_within⟩)
    (c_within : PySem.W.codeIn K cd_within "is_within" = true)
    (k_within : PySem.W.keepIn K (.ref f_within) = true)
    (a_isName : PySem.W.nsIn K mainGlobals "is_name" = some (some (.ref f_isName)))
    (l_isName : K.lookup f_isName = some ⟨oc_isName, od_isName, .func (PySem.W.fnOf "is_name" "is_name" (defArgs sIsName) (defBody sIsName) (defScope sIsName) .none kV_isName dc_isName pm_isName an_isName cd_isName ct_isName), sl_isName⟩)
    (c_isName : PySem.W.codeIn K cd_isName "is_name" = true)
    (k_isName : PySem.W.keepIn K (.ref f_isName) = true)
    (a_fault : PySem.W.nsIn K mainGlobals "fault_of" = some (some (.ref f_fault)))
    (l_fault : K.lookup f_fault = some ⟨oc_fault, od_fault, .func (PySem.W.fnOf "fault_of" "fault_of" (defArgs sFault) (defBody sFault) (defScope sFault) .none kV_fault dc_fault pm_fault an_fault cd_fault ct_fault), sl_fault⟩)
    (c_fault : PySem.W.codeIn K cd_fault "fault_of" = true)
    (k_fault : PySem.W.keepIn K (.ref f_fault) = true)
    (a_form : PySem.W.nsIn K mainGlobals "has_form" = some (some (.ref f_form)))
    (l_form : K.lookup f_form = some ⟨oc_form, od_form, .func (PySem.W.fnOf "has_form" "has_form" (defArgs sForm) (defBody sForm) (defScope sForm) .none kV_form dc_form pm_form an_form cd_form ct_form), sl_form⟩)
    (c_form : PySem.W.codeIn K cd_form "has_form" = true)
    (k_form : PySem.W.keepIn K (.ref f_form) = true)
    (a_held : PySem.W.nsIn K mainGlobals "held_after" = some (some (.ref f_held)))
    (l_held : K.lookup f_held = some ⟨oc_held, od_held, .func (PySem.W.fnOf "held_after" "held_after" (defArgs sHeld) (defBody sHeld) (defScope sHeld) .none kV_held dc_held pm_held an_held cd_held ct_held), sl_held⟩)
    (c_held : PySem.W.codeIn K cd_held "held_after" = true)
    (k_held : PySem.W.keepIn K (.ref f_held) = true)
    (a_scriptOf : PySem.W.nsIn K mainGlobals "script_of" = some (some (.ref f_scriptOf)))
    (l_scriptOf : K.lookup f_scriptOf = some ⟨oc_scriptOf, od_scriptOf, .func (PySem.W.fnOf "script_of" "script_of" (defArgs sScriptOf) (defBody sScriptOf) (defScope sScriptOf) .none kV_scriptOf dc_scriptOf pm_scriptOf an_scriptOf cd_scriptOf ct_scriptOf), sl_scriptOf⟩)
    (c_scriptOf : PySem.W.codeIn K cd_scriptOf "script_of" = true)
    (k_scriptOf : PySem.W.keepIn K (.ref f_scriptOf) = true)
    (a_count : PySem.W.nsIn K mainGlobals "count_of_sessions" = some (some (.ref f_count)))
    (l_count : K.lookup f_count = some ⟨oc_count, od_count, .func (PySem.W.fnOf "count_of_sessions" "count_of_sessions" (defArgs sCount) (defBody sCount) (defScope sCount) .none kV_count dc_count pm_count an_count cd_count ct_count), sl_count⟩)
    (c_count : PySem.W.codeIn K cd_count "count_of_sessions" = true)
    (k_count : PySem.W.keepIn K (.ref f_count) = true)
    (a_are : PySem.W.nsIn K mainGlobals "are_kinds" = some (some (.ref f_are)))
    (l_are : K.lookup f_are = some ⟨oc_are, od_are, .func (PySem.W.fnOf "are_kinds" "are_kinds" (defArgs sAre) (defBody sAre) (defScope sAre) .none kV_are dc_are pm_are an_are cd_are ct_are), sl_are⟩)
    (c_are : PySem.W.codeIn K cd_are "are_kinds" = true)
    (k_are : PySem.W.keepIn K (.ref f_are) = true)
    (a_faultY : PySem.W.nsIn K mainGlobals "fault_of_system" = some (some (.ref f_faultY)))
    (l_faultY : K.lookup f_faultY = some ⟨oc_faultY, od_faultY, .func (PySem.W.fnOf "fault_of_system" "fault_of_system" (defArgs sFaultY) (defBody sFaultY) (defScope sFaultY) .none kV_faultY dc_faultY pm_faultY an_faultY cd_faultY ct_faultY), sl_faultY⟩)
    (c_faultY : PySem.W.codeIn K cd_faultY "fault_of_system" = true)
    (k_faultY : PySem.W.keepIn K (.ref f_faultY) = true)
    (a_pool : PySem.W.nsIn K mainGlobals "_law_pool" = some (some (.ref f_pool)))
    (l_pool : K.lookup f_pool = some ⟨oc_pool, od_pool, .func (PySem.W.fnOf "_law_pool" "_law_pool" (defArgs sPool) (defBody sPool) (defScope sPool) .none kV_pool dc_pool pm_pool an_pool cd_pool ct_pool), sl_pool⟩)
    (c_pool : PySem.W.codeIn K cd_pool "_law_pool" = true)
    (k_pool : PySem.W.keepIn K (.ref f_pool) = true)
    (a_draw : PySem.W.nsIn K mainGlobals "_law_draw" = some (some (.ref f_draw)))
    (l_draw : K.lookup f_draw = some ⟨oc_draw, od_draw, .func (PySem.W.fnOf "_law_draw" "_law_draw" (defArgs sDraw) (defBody sDraw) (defScope sDraw) .none kV_draw dc_draw pm_draw an_draw cd_draw ct_draw), sl_draw⟩)
    (c_draw : PySem.W.codeIn K cd_draw "_law_draw" = true)
    (k_draw : PySem.W.keepIn K (.ref f_draw) = true)
    (a_names : PySem.W.nsIn K mainGlobals "_law_names" = some (some (.ref f_names)))
    (l_names : K.lookup f_names = some ⟨oc_names, od_names, .func (PySem.W.fnOf "_law_names" "_law_names" (defArgs sNames) (defBody sNames) (defScope sNames) .none kV_names dc_names pm_names an_names cd_names ct_names), sl_names⟩)
    (c_names : PySem.W.codeIn K cd_names "_law_names" = true)
    (k_names : PySem.W.keepIn K (.ref f_names) = true)
    (a_made : PySem.W.nsIn K mainGlobals "_law_made" = some (some (.ref f_made)))
    (l_made : K.lookup f_made = some ⟨oc_made, od_made, .func (PySem.W.fnOf "_law_made" "_law_made" (defArgs sMade) (defBody sMade) (defScope sMade) .none kV_made dc_made pm_made an_made cd_made ct_made), sl_made⟩)
    (c_made : PySem.W.codeIn K cd_made "_law_made" = true)
    (k_made : PySem.W.keepIn K (.ref f_made) = true)
    (a_told : PySem.W.nsIn K mainGlobals "_law_told" = some (some (.ref f_told)))
    (l_told : K.lookup f_told = some ⟨oc_told, od_told, .func (PySem.W.fnOf "_law_told" "_law_told" (defArgs sTold) (defBody sTold) (defScope sTold) .none kV_told dc_told pm_told an_told cd_told ct_told), sl_told⟩)
    (c_told : PySem.W.codeIn K cd_told "_law_told" = true)
    (k_told : PySem.W.keepIn K (.ref f_told) = true)
    (a_integer : PySem.W.nsIn K mainGlobals "_law_integer" = some (some (.ref f_integer)))
    (l_integer : K.lookup f_integer = some ⟨oc_integer, od_integer, .func (PySem.W.fnOf "_law_integer" "_law_integer" (defArgs sInteger) (defBody sInteger) (defScope sInteger) .none kV_integer dc_integer pm_integer an_integer cd_integer ct_integer), sl_integer⟩)
    (c_integer : PySem.W.codeIn K cd_integer "_law_integer" = true)
    (k_integer : PySem.W.keepIn K (.ref f_integer) = true)
    (a_due : PySem.W.nsIn K mainGlobals "_law_due" = some (some (.ref f_due)))
    (l_due : K.lookup f_due = some ⟨oc_due, od_due, .func (PySem.W.fnOf "_law_due" "_law_due" (defArgs sDue) (defBody sDue) (defScope sDue) .none kV_due dc_due pm_due an_due cd_due ct_due), sl_due⟩)
    (c_due : PySem.W.codeIn K cd_due "_law_due" = true)
    (k_due : PySem.W.keepIn K (.ref f_due) = true)
    (a_value : PySem.W.nsIn K mainGlobals "_law_value" = some (some (.ref f_value)))
    (l_value : K.lookup f_value = some ⟨oc_value, od_value, .func (PySem.W.fnOf "_law_value" "_law_value" (defArgs sValue) (defBody sValue) (defScope sValue) .none kV_value dc_value pm_value an_value cd_value ct_value), sl_value⟩)
    (c_value : PySem.W.codeIn K cd_value "_law_value" = true)
    (k_value : PySem.W.keepIn K (.ref f_value) = true)
    (a_law : PySem.W.nsIn K mainGlobals "law" = some (some (.ref f_law)))
    (l_law : K.lookup f_law = some ⟨oc_law, od_law, .func (PySem.W.fnOf "law" "law" (defArgs sLaw) (defBody sLaw) (defScope sLaw) .none kV_law dc_law pm_law an_law cd_law ct_law), sl_law⟩)
    (c_law : PySem.W.codeIn K cd_law "law" = true)
    (k_law : PySem.W.keepIn K (.ref f_law) = true)
    (a_sinit : PySem.W.findIn K (.ref CS) "__init__" = some (some (.ref f_sinit)))
    (i_sinit : PySem.W.isFn K (.ref f_sinit) = true)
    (l_sinit : K.lookup f_sinit = some ⟨oc_sinit, od_sinit, .func (PySem.W.fnOf "__init__" "Script.__init__" (defArgs sSInit) (defBody sSInit) (defScope sSInit) .none kV_sinit dc_sinit pm_sinit an_sinit cd_sinit ct_sinit), sl_sinit⟩)
    (c_sinit : PySem.W.codeIn K cd_sinit "Script.__init__" = true)
    (k_sinit : PySem.W.keepIn K (.ref f_sinit) = true)
    (a_seq : PySem.W.findIn K (.ref CS) "__eq__" = some (some (.ref f_seq)))
    (i_seq : PySem.W.isFn K (.ref f_seq) = true)
    (l_seq : K.lookup f_seq = some ⟨oc_seq, od_seq, .func (PySem.W.fnOf "__eq__" "Script.__eq__" (defArgs sSEq) (defBody sSEq) (defScope sSEq) .none kV_seq dc_seq pm_seq an_seq cd_seq ct_seq), sl_seq⟩)
    (c_seq : PySem.W.codeIn K cd_seq "Script.__eq__" = true)
    (k_seq : PySem.W.keepIn K (.ref f_seq) = true)
    (a_slen : PySem.W.findIn K (.ref CS) "__len__" = some (some (.ref f_slen)))
    (i_slen : PySem.W.isFn K (.ref f_slen) = true)
    (l_slen : K.lookup f_slen = some ⟨oc_slen, od_slen, .func (PySem.W.fnOf "__len__" "Script.__len__" (defArgs sSLen) (defBody sSLen) (defScope sSLen) .none kV_slen dc_slen pm_slen an_slen cd_slen ct_slen), sl_slen⟩)
    (c_slen : PySem.W.codeIn K cd_slen "Script.__len__" = true)
    (k_slen : PySem.W.keepIn K (.ref f_slen) = true)
    (a_kinit : PySem.W.findIn K (.ref CK) "__init__" = some (some (.ref f_kinit)))
    (i_kinit : PySem.W.isFn K (.ref f_kinit) = true)
    (l_kinit : K.lookup f_kinit = some ⟨oc_kinit, od_kinit, .func (PySem.W.fnOf "__init__" "Check.__init__" (defArgs sKInit) (defBody sKInit) (defScope sKInit) .none kV_kinit dc_kinit pm_kinit an_kinit cd_kinit ct_kinit), sl_kinit⟩)
    (c_kinit : PySem.W.codeIn K cd_kinit "Check.__init__" = true)
    (k_kinit : PySem.W.keepIn K (.ref f_kinit) = true)
    (a_kbr : PySem.W.findIn K (.ref CK) "check_branch" = some (some (.ref f_kbr)))
    (i_kbr : PySem.W.isFn K (.ref f_kbr) = true)
    (l_kbr : K.lookup f_kbr = some ⟨oc_kbr, od_kbr, .func (PySem.W.fnOf "check_branch" "Check.check_branch" (defArgs sKBr) (defBody sKBr) (defScope sKBr) .none kV_kbr dc_kbr pm_kbr an_kbr cd_kbr ct_kbr), sl_kbr⟩)
    (c_kbr : PySem.W.codeIn K cd_kbr "Check.check_branch" = true)
    (k_kbr : PySem.W.keepIn K (.ref f_kbr) = true)
    (a_kst : PySem.W.findIn K (.ref CK) "check_statement" = some (some (.ref f_kst)))
    (i_kst : PySem.W.isFn K (.ref f_kst) = true)
    (l_kst : K.lookup f_kst = some ⟨oc_kst, od_kst, .func (PySem.W.fnOf "check_statement" "Check.check_statement" (defArgs sKSt) (defBody sKSt) (defScope sKSt) .none kV_kst dc_kst pm_kst an_kst cd_kst ct_kst), sl_kst⟩)
    (c_kst : PySem.W.codeIn K cd_kst "Check.check_statement" = true)
    (k_kst : PySem.W.keepIn K (.ref f_kst) = true)
    (a_deq : PySem.W.findIn K (.ref CD) "__eq__" = some (some (.ref f_deq)))
    (i_deq : PySem.W.isFn K (.ref f_deq) = true)
    (l_deq : K.lookup f_deq = some ⟨oc_deq, od_deq, .func (PySem.W.fnOf "__eq__" "Kind.__eq__" (defArgs sDEq) (defBody sDEq) (defScope sDEq) .none kV_deq dc_deq pm_deq an_deq cd_deq ct_deq), sl_deq⟩)
    (c_deq : PySem.W.codeIn K cd_deq "Kind.__eq__" = true)
    (k_deq : PySem.W.keepIn K (.ref f_deq) = true)
    (a_byi : PySem.W.findIn K (.ref CBY) "__init__" = some (some (.ref f_byi)))
    (i_byi : PySem.W.typeIn K (.ref f_byi) = some (.type "function"))
    (l_byi : K.lookup f_byi = some ⟨oc_byi, od_byi, .func (PySem.W.fnOf "__init__" "BadSystem.__init__" (defArgs sBYInit) (defBody sBYInit) (defScope sBYInit) .none kV_byi dc_byi pm_byi an_byi cd_byi ct_byi), sl_byi⟩)
    (c_byi : PySem.W.codeIn K cd_byi "BadSystem.__init__" = true)
    (k_byi : PySem.W.keepIn K (.ref f_byi) = true)
    (a_dinit : PySem.W.findIn K (.ref CD) "__init__" = some (some (.ref f_dinit)))
    (i_dinit : PySem.W.isFn K (.ref f_dinit) = true)
    (l_dinit : K.lookup f_dinit = some ⟨oc_dinit, od_dinit, .func (PySem.W.fnOf "__init__" "Kind.__init__" (defArgs sDInit) (defBody sDInit) (defScope sDInit) .none (.ref KD) dc_dinit pm_dinit an_dinit cd_dinit ct_dinit), sl_dinit⟩)
    (c_dinit : PySem.W.codeIn K cd_dinit "Kind.__init__" = true)
    (k_dinit : PySem.W.keepIn K (.ref f_dinit) = true)
    (a_yinit : PySem.W.findIn K (.ref CY) "__init__" = some (some (.ref f_yinit)))
    (i_yinit : PySem.W.isFn K (.ref f_yinit) = true)
    (l_yinit : K.lookup f_yinit = some ⟨oc_yinit, od_yinit, .func (PySem.W.fnOf "__init__" "System.__init__" (defArgs sYInit) (defBody sYInit) (defScope sYInit) .none (.ref KY) dc_yinit pm_yinit an_yinit cd_yinit ct_yinit), sl_yinit⟩)
    (c_yinit : PySem.W.codeIn K cd_yinit "System.__init__" = true)
    (k_yinit : PySem.W.keepIn K (.ref f_yinit) = true)
    (kd1 : PySem.W.nsIn K KD "block" = some (some (.int 1 tk1)))
    (kd2 : PySem.W.nsIn K KD "many" = some (some (.int 1 tk2)))
    (ky1 : PySem.W.nsIn K KY "ahead" = some (some (.int 0 tk3)))
    (ky2 : PySem.W.nsIn K KY "window" = some (some .none))
    (ky3 : PySem.W.nsIn K KY "crashes" = some (some (.int 0 tk4)))
    (z_len : PySem.W.nsIn K mainGlobals "len" = some none)
    (z_int : PySem.W.nsIn K mainGlobals "int" = some none)
    (z_max : PySem.W.nsIn K mainGlobals "max" = some none)
    (z_range : PySem.W.nsIn K mainGlobals "range" = some none)
    (z_tuple : PySem.W.nsIn K mainGlobals "tuple" = some none)
    (z_isinstance : PySem.W.nsIn K mainGlobals "isinstance" = some none)
    (z_all : PySem.W.nsIn K mainGlobals "all" = some none)
    (z_list : PySem.W.nsIn K mainGlobals "list" = some none)
    (z_enumerate : PySem.W.nsIn K mainGlobals "enumerate" = some none)
    (z_str : PySem.W.nsIn K mainGlobals "str" = some none)
    (z_bool : PySem.W.nsIn K mainGlobals "bool" = some none)
    (z_sum : PySem.W.nsIn K mainGlobals "sum" = some none)
    (z_set : PySem.W.nsIn K mainGlobals "set" = some none)
    (v_LONGEST_NAME : PySem.W.nsIn K mainGlobals "LONGEST_NAME" = some (some (.int 8 t_LONGEST_NAME)))
    (v_MOST_STATEMENTS : PySem.W.nsIn K mainGlobals "MOST_STATEMENTS" = some (some (.int 8 t_MOST_STATEMENTS)))
    (v_MOST_HELD : PySem.W.nsIn K mainGlobals "MOST_HELD" = some (some (.int 3 t_MOST_HELD)))
    (v_MOST_NESTED : PySem.W.nsIn K mainGlobals "MOST_NESTED" = some (some (.int 2 t_MOST_NESTED)))
    (v_MOST_BLOCK : PySem.W.nsIn K mainGlobals "MOST_BLOCK" = some (some (.int 3 t_MOST_BLOCK)))
    (v_MOST_SESSIONS : PySem.W.nsIn K mainGlobals "MOST_SESSIONS" = some (some (.int 3 t_MOST_SESSIONS)))
    (v_LONGEST_OF_MANY : PySem.W.nsIn K mainGlobals "LONGEST_OF_MANY" = some (some (.int 4 t_LONGEST_OF_MANY)))
    (v_MOST_AHEAD : PySem.W.nsIn K mainGlobals "MOST_AHEAD" = some (some (.int 4 t_MOST_AHEAD)))
    (v_MOST_WINDOW : PySem.W.nsIn K mainGlobals "MOST_WINDOW" = some (some (.int 8 t_MOST_WINDOW)))
    (v_MOST_CRASHES : PySem.W.nsIn K mainGlobals "MOST_CRASHES" = some (some (.int 2 t_MOST_CRASHES)))
    (aI : PySem.W.nsIn K mainGlobals "ITEMS" = some (some (.ref it)))
    (lI : K.lookup it = some ⟨.type "dict", none, .dict esI nI, #[]⟩)
    (kI : PySem.W.KeysLit w.params esI.toList)
    (sI : (it == sysModules) = false)
    (e_take : PySem.W.nsIn K it "take" = some (some (.int 1 t_take)))
    (e_commit : PySem.W.nsIn K it "commit" = some (some (.int 1 t_commit)))
    (e_rollback : PySem.W.nsIn K it "rollback" = some (some (.int 1 t_rollback)))
    (e_drop : PySem.W.nsIn K it "drop" = some (some (.int 1 t_drop)))
    (e_leave : PySem.W.nsIn K it "leave" = some (some (.int 1 t_leave)))
    (e_lock : PySem.W.nsIn K it "lock" = some (some (.int 2 t_lock)))
    (e_unlock : PySem.W.nsIn K it "unlock" = some (some (.int 2 t_unlock)))
    (e_choose : PySem.W.nsIn K it "choose" = some (some (.int 3 t_choose)))
    : ∃ fd : FuncData, (∀ (s : Shared) (v : Value), BindsTo s fd ⟨[v], []⟩ [("_law_script", v)]) ∧ ∀ base : Heap, K.In base → base.Ns mainGlobals mg → FnOk l.prog w K mg base CX0 14 fa fd ["_law_script"] (spLaw K) := by
  have e := hfa.symm.trans (PySem.W.mg_of X G a_law)
  cases e
  have B : Bl mg := ⟨PySem.W.mg_none_of X G z_len, PySem.W.mg_none_of X G z_int, PySem.W.mg_none_of X G z_max, PySem.W.mg_none_of X G z_range, PySem.W.mg_none_of X G z_tuple⟩
  have kg : ∀ z n, (z, n) ∈ items8 → KG K w it z (.int n) := by
    intro z n hm
    simp only [items8, List.mem_cons, List.not_mem_nil, or_false, Prod.mk.injEq] at hm
    rcases hm with ⟨rfl, rfl⟩ | ⟨rfl, rfl⟩ | ⟨rfl, rfl⟩ | ⟨rfl, rfl⟩ | ⟨rfl, rfl⟩ | ⟨rfl, rfl⟩ | ⟨rfl, rfl⟩ | ⟨rfl, rfl⟩
    · exact ⟨⟨_, _, _, lI, kI, e_take, ⟨_, rfl⟩⟩, sI⟩
    · exact ⟨⟨_, _, _, lI, kI, e_commit, ⟨_, rfl⟩⟩, sI⟩
    · exact ⟨⟨_, _, _, lI, kI, e_rollback, ⟨_, rfl⟩⟩, sI⟩
    · exact ⟨⟨_, _, _, lI, kI, e_drop, ⟨_, rfl⟩⟩, sI⟩
    · exact ⟨⟨_, _, _, lI, kI, e_leave, ⟨_, rfl⟩⟩, sI⟩
    · exact ⟨⟨_, _, _, lI, kI, e_lock, ⟨_, rfl⟩⟩, sI⟩
    · exact ⟨⟨_, _, _, lI, kI, e_unlock, ⟨_, rfl⟩⟩, sI⟩
    · exact ⟨⟨_, _, _, lI, kI, e_choose, ⟨_, rfl⟩⟩, sI⟩
  have T : Txt K w mg CS CK it := ⟨PySem.W.mg_none_of X G z_isinstance, PySem.W.mg_none_of X G z_all, PySem.W.mg_none_of X G z_list, PySem.W.mg_none_of X G z_enumerate, PySem.W.mg_none_of X G z_str, PySem.W.mg_none_of X G z_bool,
    ⟨_, PySem.W.mg_of X G v_LONGEST_NAME⟩, ⟨_, PySem.W.mg_of X G v_MOST_STATEMENTS⟩, ⟨_, PySem.W.mg_of X G v_MOST_HELD⟩, ⟨_, PySem.W.mg_of X G v_MOST_NESTED⟩, PySem.W.mg_of X G aI, ⟨_, _, lI⟩, kg,
    ⟨pgCS, hdCS, poCS, saCS⟩, ⟨pgCK, hdCK, poCK, saCK⟩, PySem.W.mg_of X G aCS, PySem.W.mg_of X G aCK, nCSstatements, nCSfound, nCSplaces, nCKfound⟩
  have noT : PySem.W.kitOne K (.type "tuple") (.ref CS) = some false := kit_no iCS tCS uCS
  have noD : ∀ t ∈ tys7, PySem.W.kitOne K (.type t) (.ref CD) = some false := fun t ht => by
    simp only [List.mem_cons, List.not_mem_nil, or_false] at ht
    rcases ht with rfl | rfl | rfl | rfl | rfl | rfl | rfl
    · exact kit_no iCD tCD u_NoneType
    · exact kit_no iCD tCD u_bool
    · exact kit_no iCD tCD u_int
    · exact kit_no iCD tCD u_str
    · exact kit_no iCD tCD u_list
    · exact kit_no iCD tCD u_tuple
    · exact kit_no iCD tCD u_dict
  have me : ∀ C : Addr, PySem.W.kitOne K (.ref C) (.ref C) = some true := fun C => by
    unfold PySem.W.kitOne
    rw [if_pos (beq_self_eq_true _)]
  have U : TxK K mg CS CD := ⟨⟨⟨pgCS, hdCS, poCS, saCS⟩, caCS, cn, ct, obCS, me CS⟩, ⟨⟨pgCD, hdCD, poCD, saCD⟩, caCD, cn, ct, obCD, me CD⟩, PySem.W.mg_of X G aCD, ⟨_, PySem.W.mg_of X G v_MOST_BLOCK⟩, ⟨_, PySem.W.mg_of X G v_MOST_SESSIONS⟩, noT, nCDname, nCDscript, nCDblock, nCDmany⟩
  have Y : TxY K mg CD := ⟨PySem.W.mg_none_of X G z_sum, PySem.W.mg_none_of X G z_set, ⟨_, PySem.W.mg_of X G v_LONGEST_OF_MANY⟩, ⟨_, PySem.W.mg_of X G v_MOST_AHEAD⟩, ⟨_, PySem.W.mg_of X G v_MOST_WINDOW⟩, ⟨_, PySem.W.mg_of X G v_MOST_CRASHES⟩, noD⟩
  have Z : FY K CY := ⟨⟨⟨pgCY, hdCY, poCY, saCY⟩, caCY, cn, ct, obCY, me CY⟩, nCYkinds, nCYahead, nCYwindow, nCYcrashes, nCYsessions⟩
  have ZF : FnY K KY f_yinit := ⟨⟨_, _, _, _, _, _, _, _, l_yinit, c_yinit⟩, ⟨_, ky1⟩, ky2, ⟨_, ky3⟩⟩
  have R1 : PySem.W.kitOne K (.ref CBY) (.ref CBK) = some false := kit_ref dCBYCBK iCBK tCBK sCBYCBK
  have R2 : PySem.W.kitOne K (.ref CBY) (.ref CT) = some true := kit_ref dCBYCT iCT tCT sCBYCT
  have E_CBY : Ecl K mg "BadSystem" "why" CBY f_byi := ⟨PySem.W.mg_of X G aCBY, ⟨⟨_, _, _, _, _, _, _, _, _, _, _, _, _, _, _, xCBY, ve_ok⟩, saCBY, eCBY, tCBY, kcCBY⟩, a_byi, i_byi, nfCBY, ⟨gaCBY, ggCBY, eCBY, hCBY⟩, iCBY, caCBY, cn, ct, obCBY, PySem.W.exm_ref eCBY hCBY tCBY sCBYCBY⟩
  have F_isInt := fun_mk (st := sIsInt) l_isInt c_isInt k_isInt
  have b_isInt := F_isInt.binds (ps := ["value"]) fun _ _ _ _ _ _ us hl => match us, hl with | [_], _ => rfl
  have m_isInt := PySem.W.mg_of X G a_isInt
  have F_within := fun_mk (st := sWithin) l_within c_within k_within
  have b_within := F_within.binds (ps := ["value", "low", "high"]) fun _ _ _ _ _ _ us hl => match us, hl with | [_, _, _], _ => rfl
  have m_within := PySem.W.mg_of X G a_within
  have F_isName := fun_mk (st := sIsName) l_isName c_isName k_isName
  have b_isName := F_isName.binds (ps := ["value"]) fun _ _ _ _ _ _ us hl => match us, hl with | [_], _ => rfl
  have m_isName := PySem.W.mg_of X G a_isName
  have F_fault := fun_mk (st := sFault) l_fault c_fault k_fault
  have b_fault := F_fault.binds (ps := ["statement", "place", "earlier", "held"]) fun _ _ _ _ _ _ us hl => match us, hl with | [_, _, _, _], _ => rfl
  have m_fault := PySem.W.mg_of X G a_fault
  have F_form := fun_mk (st := sForm) l_form c_form k_form
  have b_form := F_form.binds (ps := ["statement"]) fun _ _ _ _ _ _ us hl => match us, hl with | [_], _ => rfl
  have m_form := PySem.W.mg_of X G a_form
  have F_held := fun_mk (st := sHeld) l_held c_held k_held
  have b_held := F_held.binds (ps := ["word", "held"]) fun _ _ _ _ _ _ us hl => match us, hl with | [_, _], _ => rfl
  have m_held := PySem.W.mg_of X G a_held
  have F_scriptOf := fun_mk (st := sScriptOf) l_scriptOf c_scriptOf k_scriptOf
  have b_scriptOf := F_scriptOf.binds (ps := ["script"]) fun _ _ _ _ _ _ us hl => match us, hl with | [_], _ => rfl
  have m_scriptOf := PySem.W.mg_of X G a_scriptOf
  have F_count := fun_mk (st := sCount) l_count c_count k_count
  have b_count := F_count.binds (ps := ["kinds"]) fun _ _ _ _ _ _ us hl => match us, hl with | [_], _ => rfl
  have m_count := PySem.W.mg_of X G a_count
  have F_are := fun_mk (st := sAre) l_are c_are k_are
  have b_are := F_are.binds (ps := ["kinds"]) fun _ _ _ _ _ _ us hl => match us, hl with | [_], _ => rfl
  have m_are := PySem.W.mg_of X G a_are
  have F_faultY := fun_mk (st := sFaultY) l_faultY c_faultY k_faultY
  have b_faultY := F_faultY.binds (ps := ["kinds", "ahead", "window", "crashes"]) fun _ _ _ _ _ _ us hl => match us, hl with | [_, _, _, _], _ => rfl
  have m_faultY := PySem.W.mg_of X G a_faultY
  have F_pool := fun_mk (st := sPool) l_pool c_pool k_pool
  have b_pool := F_pool.binds (ps := ["_law_script", "_law_k"]) fun _ _ _ _ _ _ us hl => match us, hl with | [_, _], _ => rfl
  have m_pool := PySem.W.mg_of X G a_pool
  have F_draw := fun_mk (st := sDraw) l_draw c_draw k_draw
  have b_draw := F_draw.binds (ps := ["_law_pool_here", "_law_amount"]) fun _ _ _ _ _ _ us hl => match us, hl with | [_, _], _ => rfl
  have m_draw := PySem.W.mg_of X G a_draw
  have F_names := fun_mk (st := sNames) l_names c_names k_names
  have b_names := F_names.binds (ps := ["_law_pool_here"]) fun _ _ _ _ _ _ us hl => match us, hl with | [_], _ => rfl
  have m_names := PySem.W.mg_of X G a_names
  have F_made := fun_mk (st := sMade) l_made c_made k_made
  have b_made := F_made.binds (ps := ["_law_kinds", "_law_values", "_law_short"]) fun _ _ _ _ _ _ us hl => match us, hl with | [_, _, _], _ => rfl
  have m_made := PySem.W.mg_of X G a_made
  have F_told := fun_mk (st := sTold) l_told c_told k_told
  have b_told := F_told.binds (ps := ["_law_kinds", "_law_values", "_law_short"]) fun _ _ _ _ _ _ us hl => match us, hl with | [_, _, _], _ => rfl
  have m_told := PySem.W.mg_of X G a_told
  have F_integer := fun_mk (st := sInteger) l_integer c_integer k_integer
  have b_integer := F_integer.binds (ps := ["_law_value_here", "_law_least", "_law_most"]) fun _ _ _ _ _ _ us hl => match us, hl with | [_, _, _], _ => rfl
  have m_integer := PySem.W.mg_of X G a_integer
  have F_due := fun_mk (st := sDue) l_due c_due k_due
  have b_due := F_due.binds (ps := ["_law_rows", "_law_strange", "_law_values"]) fun _ _ _ _ _ _ us hl => match us, hl with | [_, _, _], _ => rfl
  have m_due := PySem.W.mg_of X G a_due
  have F_value := fun_mk (st := sValue) l_value c_value k_value
  have b_value := F_value.binds (ps := ["_law_pool_here", "_law_good", "_law_most", "_law_great"]) fun _ _ _ _ _ _ us hl => match us, hl with | [_, _, _, _], _ => rfl
  have m_value := PySem.W.mg_of X G a_value
  have F_law := fun_mk (st := sLaw) l_law c_law k_law
  have m_law := PySem.W.mg_of X G a_law
  have F_sinit := fun_mk (st := sSInit) l_sinit c_sinit k_sinit
  have b_sinit := F_sinit.binds (ps := ["self", "statements"]) fun _ _ _ _ _ _ us hl => match us, hl with | [_, _], _ => rfl
  have F_seq := fun_mk (st := sSEq) l_seq c_seq k_seq
  have b_seq := F_seq.binds (ps := ["self", "other"]) fun _ _ _ _ _ _ us hl => match us, hl with | [_, _], _ => rfl
  have F_slen := fun_mk (st := sSLen) l_slen c_slen k_slen
  have b_slen := F_slen.binds (ps := ["self"]) fun _ _ _ _ _ _ us hl => match us, hl with | [_], _ => rfl
  have F_kinit := fun_mk (st := sKInit) l_kinit c_kinit k_kinit
  have b_kinit := F_kinit.binds (ps := ["self"]) fun _ _ _ _ _ _ us hl => match us, hl with | [_], _ => rfl
  have F_kbr := fun_mk (st := sKBr) l_kbr c_kbr k_kbr
  have b_kbr := F_kbr.binds (ps := ["self", "branch", "above", "held"]) fun _ _ _ _ _ _ us hl => match us, hl with | [_, _, _, _], _ => rfl
  have F_kst := fun_mk (st := sKSt) l_kst c_kst k_kst
  have b_kst := F_kst.binds (ps := ["self", "statement", "place", "held"]) fun _ _ _ _ _ _ us hl => match us, hl with | [_, _, _, _], _ => rfl
  have F_deq := fun_mk (st := sDEq) l_deq c_deq k_deq
  have b_deq := F_deq.binds (ps := ["self", "other"]) fun _ _ _ _ _ _ us hl => match us, hl with | [_, _], _ => rfl
  have F_byi := fun_mk (st := sBYInit) l_byi c_byi k_byi
  have b_byi := F_byi.binds (ps := ["self", "why"]) fun _ _ _ _ _ _ us hl => match us, hl with | [_, _], _ => rfl
  have F_dinit : FunD K "__init__" "Kind.__init__" (defArgs sDInit) (defBody sDInit) (defScope sDInit) [] [("block", .int 1), ("many", .int 1)] f_dinit _ := ⟨⟨_, _, _, _, _, _, _, _, _, _, rfl, l_dinit, c_dinit, .inl ⟨rfl, rfl⟩, .inr ⟨KD, rfl, fun q hq => by
    simp only [List.mem_cons, List.not_mem_nil, or_false] at hq
    rcases hq with rfl | rfl
    · exact ⟨_, kd1, ⟨_, rfl⟩⟩
    · exact ⟨_, kd2, ⟨_, rfl⟩⟩⟩⟩, k_dinit⟩
  obtain ⟨mv, b_dinit⟩ := F_dinit.kbinds0 (ps := ["self", "name", "script", "block", "many"]) 3 ["block", "many"] [] (fun us mv ws => us ++ ws) (by simp) (fun q hq => by cases hq) (fun r1 _ r3 => r1.append r3)
    (fun _ _ _ _ _ _ us mv ws h1 h2 h3 => match us, mv, ws, h1, h2, h3 with | [_, _, _], [], [_, _], _, _, _ => rfl)
  refine ⟨PySem.W.fnOf "law" "law" (defArgs sLaw) (defBody sLaw) (defScope sLaw) .none kV_law dc_law pm_law an_law cd_law ct_law, fun s v => .of_eq rfl, fun base _ _ => ?_⟩
  have Gii := ok_isint (P := l.prog) (w := w) (base := base) F_isInt B T
  have Gwi := ok_within F_within Gii b_isInt k_isInt m_isInt
  have Gnm := ok_isname (P := l.prog) (w := w) (base := base) F_isName B T
  have Gfo := ok_form (P := l.prog) (w := w) (base := base) F_form B T
  have Gfa := ok_fault F_fault B T Gfo b_form k_form m_form Gnm b_isName k_isName m_isName
  have Gpo := ok_pool (P := l.prog) (w := w) (base := base) F_pool B
  have Gdr := ok_draw (P := l.prog) (w := w) (base := base) F_draw B
  have Gna := ok_names F_names B Gdr b_draw k_draw m_draw
  have Gki := ok_kinit (P := l.prog) (w := w) (base := base) F_kinit T
  have Ghd := ok_held (P := l.prog) (w := w) (mg := mg) (base := base) F_held
  have Gkb := checks F_kbr F_kst B T b_kbr ⟨a_kbr, i_kbr, k_kbr⟩ b_kst ⟨a_kst, i_kst, k_kst⟩ Gfa b_fault k_fault m_fault Ghd b_held k_held m_held 3
  have Gin := ok_sinit F_sinit B T ⟨mkCK, a_kinit, i_kinit, kcCK⟩ Gki b_kinit Gkb b_kbr ⟨a_kbr, i_kbr, k_kbr⟩
  have Gse := ok_seq (P := l.prog) (w := w) (base := base) F_seq T U
  have Gsl := ok_slen (P := l.prog) (w := w) (base := base) F_slen B T
  have MS : Mk K CS f_sinit := ⟨mkCS, a_sinit, i_sinit, kcCS⟩
  have Gso := ok_scriptof F_scriptOf T U MS Gin b_sinit
  have Gdi := ok_dinit F_dinit U Gnm b_isName k_isName m_isName Gso b_scriptOf k_scriptOf m_scriptOf Gwi b_within k_within m_within
  have OS : OwnEq K CS f_seq := ⟨a_seq, i_seq, neCS, obCS⟩
  have Gde := ok_deq F_deq T U OS Gse b_seq
  have Gcn := ok_count (P := l.prog) (w := w) (base := base) F_count U Y
  have Gar := ok_are F_are B T U Y Gcn b_count k_count m_count
  have Gfy := ok_faultY F_faultY B T U Y Gcn b_count k_count m_count Gar b_are k_are m_are Gwi b_within k_within m_within ⟨a_slen, i_slen⟩ Gsl b_slen
  have Gby := ok_byi (P := l.prog) (w := w) (mg := mg) (base := base) F_byi E_CBY
  have bod := fun (A : Around) (outer : List Env) (s : Shared) (H : Hp) (vs : List V) (Q : VK) (E : XK) (cdv : Value) (hr : Room 3 (A.deeper (PyProof.Rows.envOfC "System.__init__" (defScope sYInit) s.heap.objs.size f_yinit cdv))) (h : spYInit CS CD CY CBY vs H Q E) => body_yinit U Y Z B E_CBY Gby b_byi Gfy b_faultY k_faultY m_faultY A outer s H vs Q E cdv hr h
  have Gmd := ok_made F_made B ⟨mkCY, a_yinit, i_yinit, kcCY⟩ (PySem.W.mg_of X G aCY) (fny0 ZF bod) (fnyw ZF bod) (fny3 ZF bod) (fnyp ZF bod) (fnyq ZF bod)
  have Gto := ok_told F_told B T U Z E_CBY (PySem.W.mg_of X G aCBK) (PySem.W.mg_of X G aCT) R1 R2 ⟨a_deq, i_deq, neCD, obCD⟩ Gde b_deq Gmd b_made k_made m_made
  have Gig := ok_integer (P := l.prog) (w := w) (base := base) F_integer B T
  have Gdu := ok_due F_due B T (PySem.W.mg_none_of X G z_sum) Gig b_integer k_integer m_integer
  have Gva := ok_value F_value Gdr b_draw k_draw m_draw
  exact ok_law F_law B U Gpo b_pool k_pool m_pool Gdr b_draw k_draw m_draw Gna b_names k_names m_names Gva b_value k_value m_value ⟨mkCD, a_dinit, i_dinit, kcCD⟩ Gdi b_dinit Gto b_told k_told m_told Gdu b_due k_due m_due
theorem walk {l : PySem.W.OpenLaw} {q : Program} {loose : List Str} {XP : (Str → Option Value) → Heap → Prop} {YP : World → Heap → Prop} {d : DefRec} {K : Params → PySem.W.Frag} (hn : l.most = some 63) (hdf : d.params.defaults = [])
    (hY : ∀ (w : World) (h : Heap), YP w h → (K w.params).In h)
    (F : ∀ (w : World) (mg : Str → Option Value) (fa : Addr) (h : Heap), (K w.params).In h → h.Ns mainGlobals mg → mg d.name = some (.ref fa) →
      ∃ fd : FuncData, (∀ (s : Shared) (u : Value), BindsTo s fd ⟨[u], []⟩ [("_law_script", u)]) ∧ ∀ base : Heap, (K w.params).In base → base.Ns mainGlobals mg → FnOk l.prog w (K w.params) mg base CX0 14 fa fd ["_law_script"] (spLaw (K w.params))) :
    PySem.W.WalkO q loose XP YP l.row.toRowW d [] (fun f vs => PySem.call f vs) :=
  L2.walk_of (n := 63) (k := 14) (x := "_law_script") (CX := fun _ => CX0) (sp := fun w => spLaw (K w.params)) hn (by decide) hdf ⟨rfl, by decide, by decide⟩ hY F (fun _ _ a ns hl _ hS => ⟨a, ns, rfl, hS, hl, fun _ => rfl⟩) fun _ _ _ _ _ z => z
end Tk
open PySem PySem.W PyProof.Rows
set_option maxRecDepth 100000 in
set_option maxHeartbeats 0 in
theorem PySem.Challenge.cw_takenahead_k07_systems_refused_holds : PySem.Challenge.rw_takenahead_k07_systems_refused.Holds := by
  w_on; o_law; k_head; (case hw => w_witness2)
  k_fill
  refine Tk.walk (l := PySem.Challenge.rw_takenahead_k07_systems_refused) rfl rfl (fun w h Y => PySem.W.kIn_of Y) ?F
  case F =>
    intro w mg fa h KX G hmg
    refine' Tk.all_mk KX G hmg ?aCS ?aCK ?aCD ?aCY ?aCBY ?aCBK ?aCT ?pgCS ?hdCS ?poCS ?saCS ?mkCS ?kcCS ?pgCK ?hdCK ?poCK ?saCK ?mkCK ?kcCK ?pgCD ?hdCD ?poCD ?saCD ?mkCD ?kcCD ?pgCY ?hdCY ?poCY ?saCY ?mkCY ?kcCY ?caCS ?obCS ?caCD ?obCD ?caCY ?obCY ?neCS ?neCD ?cn ?ct ?iCS ?tCS ?uCS ?iCD ?tCD ?u_NoneType ?u_bool ?u_int ?u_str ?u_list ?u_tuple ?u_dict ?nCSstatements ?nCSfound ?nCSplaces ?nCKfound ?nCDname ?nCDscript ?nCDblock ?nCDmany ?nCYkinds ?nCYahead ?nCYwindow ?nCYcrashes ?nCYsessions ?xCBY ?saCBY ?gaCBY ?ggCBY ?nfCBY ?eCBY ?tCBY ?hCBY ?kcCBY ?caCBY ?obCBY ?iCBY ?iCT ?tCT ?iCBK ?tCBK ?sCBYCBY ?sCBYCT ?sCBYCBK ?dCBYCT ?dCBYCBK ?a_isInt ?l_isInt ?c_isInt ?k_isInt ?a_within ?l_within ?c_within ?k_within ?a_isName ?l_isName ?c_isName ?k_isName ?a_fault ?l_fault ?c_fault ?k_fault ?a_form ?l_form ?c_form ?k_form ?a_held ?l_held ?c_held ?k_held ?a_scriptOf ?l_scriptOf ?c_scriptOf ?k_scriptOf ?a_count ?l_count ?c_count ?k_count ?a_are ?l_are ?c_are ?k_are ?a_faultY ?l_faultY ?c_faultY ?k_faultY ?a_pool ?l_pool ?c_pool ?k_pool ?a_draw ?l_draw ?c_draw ?k_draw ?a_names ?l_names ?c_names ?k_names ?a_made ?l_made ?c_made ?k_made ?a_told ?l_told ?c_told ?k_told ?a_integer ?l_integer ?c_integer ?k_integer ?a_due ?l_due ?c_due ?k_due ?a_value ?l_value ?c_value ?k_value ?a_law ?l_law ?c_law ?k_law ?a_sinit ?i_sinit ?l_sinit ?c_sinit ?k_sinit ?a_seq ?i_seq ?l_seq ?c_seq ?k_seq ?a_slen ?i_slen ?l_slen ?c_slen ?k_slen ?a_kinit ?i_kinit ?l_kinit ?c_kinit ?k_kinit ?a_kbr ?i_kbr ?l_kbr ?c_kbr ?k_kbr ?a_kst ?i_kst ?l_kst ?c_kst ?k_kst ?a_deq ?i_deq ?l_deq ?c_deq ?k_deq ?a_byi ?i_byi ?l_byi ?c_byi ?k_byi ?a_dinit ?i_dinit ?l_dinit ?c_dinit ?k_dinit ?a_yinit ?i_yinit ?l_yinit ?c_yinit ?k_yinit ?kd1 ?kd2 ?ky1 ?ky2 ?ky3 ?z_len ?z_int ?z_max ?z_range ?z_tuple ?z_isinstance ?z_all ?z_list ?z_enumerate ?z_str ?z_bool ?z_sum ?z_set ?v_LONGEST_NAME ?v_MOST_STATEMENTS ?v_MOST_HELD ?v_MOST_NESTED ?v_MOST_BLOCK ?v_MOST_SESSIONS ?v_LONGEST_OF_MANY ?v_MOST_AHEAD ?v_MOST_WINDOW ?v_MOST_CRASHES ?aI ?lI ?kI ?sI ?e_take ?e_commit ?e_rollback ?e_drop ?e_leave ?e_lock ?e_unlock ?e_choose
    (case aCS => k_is)
    (case aCK => k_is)
    (case aCD => k_is)
    (case aCY => k_is)
    (case aCBY => k_is)
    (case aCBK => k_is)
    (case aCT => k_is)
    (case pgCS => k_is)
    (case hdCS => k_is)
    (case poCS => k_is)
    (case saCS => k_is)
    (case mkCS => k_is)
    (case kcCS => k_is)
    (case pgCK => k_is)
    (case hdCK => k_is)
    (case poCK => k_is)
    (case saCK => k_is)
    (case mkCK => k_is)
    (case kcCK => k_is)
    (case pgCD => k_is)
    (case hdCD => k_is)
    (case poCD => k_is)
    (case saCD => k_is)
    (case mkCD => k_is)
    (case kcCD => k_is)
    (case pgCY => k_is)
    (case hdCY => k_is)
    (case poCY => k_is)
    (case saCY => k_is)
    (case mkCY => k_is)
    (case kcCY => k_is)
    (case caCS => k_is)
    (case obCS => k_is)
    (case caCD => k_is)
    (case obCD => k_is)
    (case caCY => k_is)
    (case obCY => k_is)
    (case neCS => k_is)
    (case neCD => k_is)
    (case cn => k_is)
    (case ct => k_is)
    (case iCS => k_is)
    (case tCS => k_is)
    (case uCS => k_is)
    (case iCD => k_is)
    (case tCD => k_is)
    (case u_NoneType => k_is)
    (case u_bool => k_is)
    (case u_int => k_is)
    (case u_str => k_is)
    (case u_list => k_is)
    (case u_tuple => k_is)
    (case u_dict => k_is)
    (case nCSstatements => k_is)
    (case nCSfound => k_is)
    (case nCSplaces => k_is)
    (case nCKfound => k_is)
    (case nCDname => k_is)
    (case nCDscript => k_is)
    (case nCDblock => k_is)
    (case nCDmany => k_is)
    (case nCYkinds => k_is)
    (case nCYahead => k_is)
    (case nCYwindow => k_is)
    (case nCYcrashes => k_is)
    (case nCYsessions => k_is)
    (case xCBY => k_is)
    (case saCBY => k_is)
    (case gaCBY => k_is)
    (case ggCBY => k_is)
    (case nfCBY => k_is)
    (case eCBY => k_is)
    (case tCBY => k_is)
    (case hCBY => k_is)
    (case kcCBY => k_is)
    (case caCBY => k_is)
    (case obCBY => k_is)
    (case iCBY => k_is)
    (case iCT => k_is)
    (case tCT => k_is)
    (case iCBK => k_is)
    (case tCBK => k_is)
    (case sCBYCBY => k_is)
    (case sCBYCT => k_is)
    (case sCBYCBK => k_is)
    (case dCBYCT => first | rfl | decide)
    (case dCBYCBK => first | rfl | decide)
    (case a_isInt => k_is)
    (case l_isInt => k_is)
    (case c_isInt => k_is)
    (case k_isInt => k_is)
    (case a_within => k_is)
    (case l_within => k_is)
    (case c_within => k_is)
    (case k_within => k_is)
    (case a_isName => k_is)
    (case l_isName => k_is)
    (case c_isName => k_is)
    (case k_isName => k_is)
    (case a_fault => k_is)
    (case l_fault => k_is)
    (case c_fault => k_is)
    (case k_fault => k_is)
    (case a_form => k_is)
    (case l_form => k_is)
    (case c_form => k_is)
    (case k_form => k_is)
    (case a_held => k_is)
    (case l_held => k_is)
    (case c_held => k_is)
    (case k_held => k_is)
    (case a_scriptOf => k_is)
    (case l_scriptOf => k_is)
    (case c_scriptOf => k_is)
    (case k_scriptOf => k_is)
    (case a_count => k_is)
    (case l_count => k_is)
    (case c_count => k_is)
    (case k_count => k_is)
    (case a_are => k_is)
    (case l_are => k_is)
    (case c_are => k_is)
    (case k_are => k_is)
    (case a_faultY => k_is)
    (case l_faultY => k_is)
    (case c_faultY => k_is)
    (case k_faultY => k_is)
    (case a_pool => k_is)
    (case l_pool => k_is)
    (case c_pool => k_is)
    (case k_pool => k_is)
    (case a_draw => k_is)
    (case l_draw => k_is)
    (case c_draw => k_is)
    (case k_draw => k_is)
    (case a_names => k_is)
    (case l_names => k_is)
    (case c_names => k_is)
    (case k_names => k_is)
    (case a_made => k_is)
    (case l_made => k_is)
    (case c_made => k_is)
    (case k_made => k_is)
    (case a_told => k_is)
    (case l_told => k_is)
    (case c_told => k_is)
    (case k_told => k_is)
    (case a_integer => k_is)
    (case l_integer => k_is)
    (case c_integer => k_is)
    (case k_integer => k_is)
    (case a_due => k_is)
    (case l_due => k_is)
    (case c_due => k_is)
    (case k_due => k_is)
    (case a_value => k_is)
    (case l_value => k_is)
    (case c_value => k_is)
    (case k_value => k_is)
    (case a_law => k_is)
    (case l_law => k_is)
    (case c_law => k_is)
    (case k_law => k_is)
    (case a_sinit => k_is)
    (case i_sinit => k_is)
    (case l_sinit => k_is)
    (case c_sinit => k_is)
    (case k_sinit => k_is)
    (case a_seq => k_is)
    (case i_seq => k_is)
    (case l_seq => k_is)
    (case c_seq => k_is)
    (case k_seq => k_is)
    (case a_slen => k_is)
    (case i_slen => k_is)
    (case l_slen => k_is)
    (case c_slen => k_is)
    (case k_slen => k_is)
    (case a_kinit => k_is)
    (case i_kinit => k_is)
    (case l_kinit => k_is)
    (case c_kinit => k_is)
    (case k_kinit => k_is)
    (case a_kbr => k_is)
    (case i_kbr => k_is)
    (case l_kbr => k_is)
    (case c_kbr => k_is)
    (case k_kbr => k_is)
    (case a_kst => k_is)
    (case i_kst => k_is)
    (case l_kst => k_is)
    (case c_kst => k_is)
    (case k_kst => k_is)
    (case a_deq => k_is)
    (case i_deq => k_is)
    (case l_deq => k_is)
    (case c_deq => k_is)
    (case k_deq => k_is)
    (case a_byi => k_is)
    (case i_byi => k_is)
    (case l_byi => k_is)
    (case c_byi => k_is)
    (case k_byi => k_is)
    (case a_dinit => k_is)
    (case i_dinit => k_is)
    (case l_dinit => k_is)
    (case c_dinit => k_is)
    (case k_dinit => k_is)
    (case a_yinit => k_is)
    (case i_yinit => k_is)
    (case l_yinit => k_is)
    (case c_yinit => k_is)
    (case k_yinit => k_is)
    (case kd1 => k_is)
    (case kd2 => k_is)
    (case ky1 => k_is)
    (case ky2 => k_is)
    (case ky3 => k_is)
    (case z_len => k_is)
    (case z_int => k_is)
    (case z_max => k_is)
    (case z_range => k_is)
    (case z_tuple => k_is)
    (case z_isinstance => k_is)
    (case z_all => k_is)
    (case z_list => k_is)
    (case z_enumerate => k_is)
    (case z_str => k_is)
    (case z_bool => k_is)
    (case z_sum => k_is)
    (case z_set => k_is)
    (case v_LONGEST_NAME => k_is)
    (case v_MOST_STATEMENTS => k_is)
    (case v_MOST_HELD => k_is)
    (case v_MOST_NESTED => k_is)
    (case v_MOST_BLOCK => k_is)
    (case v_MOST_SESSIONS => k_is)
    (case v_LONGEST_OF_MANY => k_is)
    (case v_MOST_AHEAD => k_is)
    (case v_MOST_WINDOW => k_is)
    (case v_MOST_CRASHES => k_is)
    (case aI => k_is)
    (case lI => k_is)
    (case kI => (repeat (first | exact trivial | refine ⟨⟨_, _, rfl, rfl⟩, ?_⟩)))
    (case sI => first | rfl | decide)
    (case e_take => k_is)
    (case e_commit => k_is)
    (case e_rollback => k_is)
    (case e_drop => k_is)
    (case e_leave => k_is)
    (case e_lock => k_is)
    (case e_unlock => k_is)
    (case e_choose => k_is)
