import PyProof.Rows.All
import Wide.All
import OpenK.AllK
import Wide.FinOn
import HandS.ForMost
import HandS.TupAny
import HandS.TupLen
import HandS.TupLe
import HandS.Conv
import HandS.IsInst
import HandS.More
import HandS.OwnEq
import KE.GoesMore
import HandS.Walk
import HandS.ExcInit
import HandS.ExcOwn
import HandS.ExcField
import HandS.ExcIs
import HandS.WordsExc
import HandS.DeepEq
import KE.KExcIs
import HandS.Defaults
import HandS.Codes
import PyProof.NeKinds
import PySem.Challenge.RW_takenahead_k03_after
set_option Elab.async false
set_option linter.all false
set_option maxRecDepth 100000
namespace Tk
open PySem L2
/-! ## heaps -/
/-- all but what stands at p is as it was -/
def Kp (p : Addr) (H H' : Hp) : Prop := ∀ b o, H b = some o → b ≠ p → H' b = some o
theorem Kp.refl (p : Addr) (H : Hp) : Kp p H H := fun _ _ e _ => e
theorem Kp.trans {p : Addr} {H H1 H2 : Hp} (a : Kp p H H1) (b : Kp p H1 H2) : Kp p H H2 := fun c o e n => b c o (a c o e n) n
theorem Kp.upd {p : Addr} {H : Hp} {o : HO} : Kp p H (L2.upd H p o) := fun c u e n => by rw [upd_ne n]; exact e
theorem Kp.new {p q : Addr} {H H' : Hp} {o : HO} (a : Kp p H H') (n : H' q = none) : Kp p H (L2.upd H' q o) := fun c u e m => by
  rw [upd_ne (ne_of_none (a c u e m) n)]; exact a c u e m
theorem Kp.of_same {p : Addr} {H H' : Hp} (a : Same H H') : Kp p H H' := fun c o e _ => a c o e
theorem same_new {H : Hp} {p : Addr} (h : H p = none) (o : HO) : Same H (L2.upd H p o) := fun b u q => by rw [upd_ne (ne_of_none q h)]; exact q
/-- the pool: three whole numbers -/
def PoolAt (H : Hp) (p : Addr) : Prop := ∃ a b c : Int, H p = some (.lst [.int a, .int b, .int c])
theorem Kp.tup {p q : Addr} {H H' : Hp} {xs : List V} {ys : List V} (k : Kp p H H') (hp : H p = some (.lst ys)) (h : H q = some (.tup xs)) : H' q = some (.tup xs) :=
  k q _ h (ne_of h hp (by intro z; cases z))
/-! ## numbers -/
theorem fmod_ok {a n : Int} (h : 0 < n) : 0 ≤ a.fmod n ∧ a.fmod n < n := ⟨Int.fmod_nonneg_of_pos a h, Int.fmod_lt_of_pos a h⟩
/-! ## texts -/
def Low (z : Str) : Prop := ∀ c ∈ z.cps.toList, 97 ≤ c ∧ c ≤ 122
def IsName (z : Str) : Prop := 1 ≤ z.length ∧ z.length ≤ 8 ∧ Low z
abbrev alpha : Str := "abcdefghijklmnopqrstuvwxyz"
theorem alpha_all : ∀ n : Fin 26, atI alpha.cps.toList ((n.val : Nat) : Int) = some (97 + n.val) := by decide +kernel
theorem alpha_at {i : Int} (h0 : 0 ≤ i) (h1 : i < 26) : ∃ c, atI alpha.cps.toList i = some c ∧ 97 ≤ c ∧ c ≤ 122 := by
  have e : i = ((i.toNat : Nat) : Int) := by omega
  have q := alpha_all ⟨i.toNat, by omega⟩
  rw [e]
  exact ⟨_, q, by simp, by simp; omega⟩
theorem low_nil : Low ("" : Str) := fun c h => by cases h
theorem low_app {x y : Str} (a : Low x) (b : Low y) : Low (x ++ y) := fun c h => by
  have h' : c ∈ (x.cps ++ y.cps).toList := h
  rw [Array.toList_append] at h'
  rcases List.mem_append.mp h' with q | q
  · exact a c q
  · exact b c q
theorem low_one {c : Nat} (h : 97 ≤ c ∧ c ≤ 122) : Low ⟨#[c]⟩ := fun d q => by
  have e : d = c := by simpa using q
  rw [e]; exact h
theorem low_cut {x : Str} (a : Low x) (lo hi : Option Int) : Low (cutS x lo hi) := fun c h => by
  have h' : c ∈ ((x.cps.toList.drop (HT.sIx x.length 0 lo)).take (HT.sIx x.length x.length hi - HT.sIx x.length 0 lo)) := by simpa [cutS] using h
  exact a c (List.mem_of_mem_drop (List.mem_of_mem_take h'))
theorem len_app (x y : Str) : (x ++ y).length = x.length + y.length := by
  show (x.cps ++ y.cps).size = _
  rw [Array.size_append]; rfl
theorem len_one (c : Nat) : (⟨#[c]⟩ : Str).length = 1 := rfl
theorem len_cut_lo (x : Str) (k : Nat) (h : k ≤ x.length) : (cutS x none (some (k : Int))).length = k := by
  have e : x.cps.toList.length = x.length := by simp [Str.length]
  show (((x.cps.toList.drop (HT.sIx x.length 0 none)).take (HT.sIx x.length x.length (some (k : Int)) - HT.sIx x.length 0 none)).toArray).size = k
  rw [HT.sIx_nat, HT.sIx_none, List.size_toArray, List.length_take, List.length_drop, e]
  omega
theorem len_cut_hi (x : Str) (k : Nat) (h : k ≤ x.length) : (cutS x (some (k : Int)) none).length = x.length - k := by
  have e : x.cps.toList.length = x.length := by simp [Str.length]
  show (((x.cps.toList.drop (HT.sIx x.length 0 (some (k : Int)))).take (HT.sIx x.length x.length none - HT.sIx x.length 0 (some (k : Int)))).toArray).size = _
  rw [HT.sIx_nat, HT.sIx_none, List.size_toArray, List.length_take, List.length_drop, e]
  omega
theorem isName_mk {b : Str} {c : Nat} {k : Int} (hb : Low b) (hl : b.length ≤ 7) (hc : 97 ≤ c ∧ c ≤ 122) (h0 : 0 ≤ k) (h1 : k ≤ b.length) :
    IsName (cutS b none (some k) ++ ⟨#[c]⟩ ++ cutS b (some k) none) := by
  obtain ⟨n, rfl⟩ : ∃ n : Nat, k = (n : Int) := ⟨k.toNat, by omega⟩
  have hn : n ≤ b.length := by omega
  refine ⟨?_, ?_, low_app (low_app (low_cut hb _ _) (low_one hc)) (low_cut hb _ _)⟩
  · rw [len_app, len_app, len_one]; omega
  · rw [len_app, len_app, len_one, len_cut_lo b n hn, len_cut_hi b n hn]; omega
/-- the list of the three names -/
def NamesAt (H : Hp) (q : Addr) : Prop := ∃ x y z : Str, H q = some (.lst [.str x, .str y, .str z]) ∧ IsName x ∧ IsName y ∧ IsName z
/-! ## statements -/
inductive Wd | take | commit | rollback | drop | leave
  deriving DecidableEq
def Wd.s : Wd → Str
  | .take => "take" | .commit => "commit" | .rollback => "rollback" | .drop => "drop" | .leave => "leave"
def Wd.held : Wd → Int → Int
  | .take, h => h + 1 | .commit, _ => 0 | .rollback, _ => 0 | .leave, _ => 0 | .drop, h => h
/-- lock (true), unlock -/
def lockS (b : Bool) : Str := if b then "lock" else "unlock"
inductive Stm
  | one (w : Wd)
  | nam (b : Bool) (n : Str)
  | ch (y n : List Stm)
mutual
def Stm.d : Stm → PyData
  | .one w => .tuple [.str w.s]
  | .nam b n => .tuple [.str (lockS b), .str n]
  | .ch y n => .tuple [.str "choose", .tuple (dAll y), .tuple (dAll n)]
def dAll : List Stm → List PyData
  | [] => []
  | s :: r => s.d :: dAll r
end
mutual
def Stm.cnt : Stm → Nat
  | .one _ => 1
  | .nam _ _ => 1
  | .ch y n => 1 + cntAll y + cntAll n
def cntAll : List Stm → Nat
  | [] => 0
  | s :: r => s.cnt + cntAll r
end
mutual
def Stm.held : Stm → Int → Int
  | .one w, h => w.held h
  | .nam _ _, h => h
  | .ch y n, h => max (heldAll y h) (heldAll n h)
def heldAll : List Stm → Int → Int
  | [], h => h
  | s :: r, h => heldAll r (s.held h)
end
mutual
/-- s is a good statement inside of d chooses, when h numbers are held -/
def Stm.ok : Nat → Stm → Int → Prop
  | _, .one w, h => w = .take → h ≠ 3
  | _, .nam _ n, _ => IsName n
  | d, .ch y n, h => d < 2 ∧ okAll (d + 1) y h ∧ okAll (d + 1) n h
def okAll : Nat → List Stm → Int → Prop
  | _, [], _ => True
  | d, s :: r, h => s.ok d h ∧ okAll d r (s.held h)
end
mutual
/-- the value v is the statement s -/
def Stm.at : Hp → V → Stm → Prop
  | H, v, .one w => ∃ a, v = .ref a ∧ H a = some (.tup [.str w.s])
  | H, v, .nam b n => ∃ a, v = .ref a ∧ H a = some (.tup [.str (lockS b), .str n])
  | H, v, .ch y n => ∃ a b c xs ys, v = .ref a ∧ H a = some (.tup [.str "choose", .ref b, .ref c]) ∧ H b = some (.tup xs) ∧ atAll H xs y ∧ H c = some (.tup ys) ∧ atAll H ys n
def atAll : Hp → List V → List Stm → Prop
  | _, xs, [] => xs = []
  | H, xs, s :: r => ∃ v vs, xs = v :: vs ∧ s.at H v ∧ atAll H vs r
end
/-- tuples stay -/
def TK (H H' : Hp) : Prop := ∀ a xs, H a = some (.tup xs) → H' a = some (.tup xs)
theorem TK.refl (H : Hp) : TK H H := fun _ _ h => h
theorem TK.trans {H H1 H2 : Hp} (a : TK H H1) (b : TK H1 H2) : TK H H2 := fun c o h => b c o (a c o h)
theorem TK.of_same {H H' : Hp} (s : Same H H') : TK H H' := fun a xs h => s a _ h
theorem Kp.tk {p : Addr} {H H' : Hp} {ys : List V} (k : Kp p H H') (hp : H p = some (.lst ys)) : TK H H' := fun a xs h => k.tup hp h
mutual
theorem Stm.at_keep {H H' : Hp} (k : TK H H') : ∀ (s : Stm) (v : V), s.at H v → s.at H' v
  | .one w, v, h => by
    unfold Stm.at at h ⊢
    obtain ⟨a, e, h⟩ := h
    exact ⟨a, e, k _ _ h⟩
  | .nam b n, v, h => by
    unfold Stm.at at h ⊢
    obtain ⟨a, e, h⟩ := h
    exact ⟨a, e, k _ _ h⟩
  | .ch y n, v, h => by
    unfold Stm.at at h ⊢
    obtain ⟨a, b, c, xs, ys, e, h1, h2, h3, h4, h5⟩ := h
    exact ⟨a, b, c, xs, ys, e, k _ _ h1, k _ _ h2, atAll_keep k y xs h3, k _ _ h4, atAll_keep k n ys h5⟩
theorem atAll_keep {H H' : Hp} (k : TK H H') : ∀ (B : List Stm) (xs : List V), atAll H xs B → atAll H' xs B
  | [], xs, h => h
  | s :: r, xs, h => by
    unfold atAll at h ⊢
    obtain ⟨v, vs, e, h1, h2⟩ := h
    exact ⟨v, vs, e, Stm.at_keep k s v h1, atAll_keep k r vs h2⟩
end
theorem atAll_len {H : Hp} : ∀ {B : List Stm} {xs : List V}, atAll H xs B → xs.length = B.length
  | [], xs, h => by unfold atAll at h; rw [h]; rfl
  | s :: r, xs, h => by
    unfold atAll at h
    obtain ⟨v, vs, e, h1, h2⟩ := h
    rw [e, List.length_cons, List.length_cons, atAll_len h2]
theorem atAll_get {H : Hp} : ∀ {B : List Stm} {xs : List V} {i : Nat} {s : Stm}, atAll H xs B → B[i]? = some s → ∃ v, xs[i]? = some v ∧ s.at H v
  | [], xs, i, s, h, e => by simp at e
  | t :: r, xs, 0, s, h, e => by
    unfold atAll at h
    obtain ⟨v, vs, e1, h1, h2⟩ := h
    have e2 : t = s := Option.some.inj e
    exact ⟨v, by rw [e1]; rfl, e2 ▸ h1⟩
  | t :: r, xs, i + 1, s, h, e => by
    unfold atAll at h
    obtain ⟨v, vs, e1, h1, h2⟩ := h
    obtain ⟨u, h3, h4⟩ := atAll_get (i := i) (s := s) h2 e
    exact ⟨u, by rw [e1]; exact h3, h4⟩
theorem atAll_app {H : Hp} : ∀ {B C : List Stm} {xs ys : List V}, atAll H xs B → atAll H ys C → atAll H (xs ++ ys) (B ++ C)
  | [], C, xs, ys, h, g => by unfold atAll at h; rw [h]; exact g
  | s :: r, C, xs, ys, h, g => by
    unfold atAll at h
    obtain ⟨v, vs, e, h1, h2⟩ := h
    rw [e]
    show atAll H (v :: (vs ++ ys)) (s :: (r ++ C))
    unfold atAll
    exact ⟨v, vs ++ ys, rfl, h1, atAll_app h2 g⟩
theorem atAll_one {H : Hp} {s : Stm} {v : V} (h : s.at H v) : atAll H [v] [s] := by
  unfold atAll
  exact ⟨v, [], rfl, h, by unfold atAll; rfl⟩
theorem atAll_drop {H : Hp} : ∀ {B : List Stm} {xs : List V} (n : Nat), atAll H xs B → atAll H (xs.drop n) (B.drop n)
  | B, xs, 0, h => h
  | [], xs, n + 1, h => by unfold atAll at h; rw [h]; rfl
  | s :: r, xs, n + 1, h => by
    unfold atAll at h
    obtain ⟨v, vs, e, h1, h2⟩ := h
    rw [e]
    exact atAll_drop n h2
theorem heldAll_app : ∀ (B C : List Stm) (h : Int), heldAll (B ++ C) h = heldAll C (heldAll B h)
  | [], C, h => rfl
  | s :: r, C, h => by
    show heldAll (s :: (r ++ C)) h = heldAll C (heldAll (s :: r) h)
    rw [heldAll, heldAll]
    exact heldAll_app r C _
theorem okAll_app : ∀ (d : Nat) (B C : List Stm) (h : Int), okAll d B h → okAll d C (heldAll B h) → okAll d (B ++ C) h
  | d, [], C, h, _, g => by rw [heldAll] at g; exact g
  | d, s :: r, C, h, f, g => by
    rw [okAll] at f
    rw [heldAll] at g
    show okAll d (s :: (r ++ C)) h
    rw [okAll]
    exact ⟨f.1, okAll_app d r C _ f.2 g⟩
theorem cntAll_app : ∀ (B C : List Stm), cntAll (B ++ C) = cntAll B + cntAll C
  | [], C => by rw [cntAll]; simp
  | s :: r, C => by
    show cntAll (s :: (r ++ C)) = _
    rw [cntAll, cntAll, cntAll_app r C]; omega
theorem cnt_pos (s : Stm) : 1 ≤ s.cnt := by
  cases s <;> rw [Stm.cnt] <;> omega
theorem len_le_cnt : ∀ (B : List Stm), B.length ≤ cntAll B
  | [] => Nat.zero_le _
  | s :: r => by
    have := cnt_pos s
    have := len_le_cnt r
    rw [cntAll, List.length_cons]; omega
/-! ## what the draws stand on: the pool p, the box b (what is left, what is held), the names q -/
def BoxAt (H : Hp) (b : Addr) (k h : Int) : Prop := H b = some (.lst [.int k, .int h, .int 3])
structure Dr (H : Hp) (p b q : Addr) (k h : Int) : Prop where
  pool : PoolAt H p
  box : BoxAt H b k h
  names : NamesAt H q
  npb : p ≠ b
  npq : p ≠ q
  nbq : b ≠ q
def K2 (p b : Addr) (H H' : Hp) : Prop := ∀ a o, H a = some o → a ≠ p → a ≠ b → H' a = some o
theorem K2.refl (p b : Addr) (H : Hp) : K2 p b H H := fun _ _ e _ _ => e
theorem K2.trans {p b : Addr} {H H1 H2 : Hp} (x : K2 p b H H1) (y : K2 p b H1 H2) : K2 p b H H2 := fun c o e n m => y c o (x c o e n m) n m
theorem Kp.k2 {p b : Addr} {H H' : Hp} (k : Kp p H H') : K2 p b H H' := fun a o e n _ => k a o e n
theorem K2.upd {p b : Addr} {H : Hp} {o : HO} : K2 p b H (L2.upd H b o) := fun a u e _ n => by rw [upd_ne n]; exact e
theorem K2.new {p b q : Addr} {H H' : Hp} {o : HO} (k : K2 p b H H') (n : H' q = none) : K2 p b H (L2.upd H' q o) := fun c u e m m' => by
  rw [upd_ne (ne_of_none (k c u e m m') n)]; exact k c u e m m'
theorem Dr.tk {H H' : Hp} {p b q : Addr} {k h : Int} (D : Dr H p b q k h) (x : K2 p b H H') : TK H H' := fun a xs e => by
  obtain ⟨_, _, _, hp⟩ := D.pool
  exact x a _ e (ne_of e hp (by intro z; cases z)) (ne_of e D.box (by intro z; cases z))
theorem Dr.draw {H H' : Hp} {p b q : Addr} {k h : Int} (D : Dr H p b q k h) (x : Kp p H H') (y : PoolAt H' p) : Dr H' p b q k h := by
  obtain ⟨a1, a2, a3, hq, n1, n2, n3⟩ := D.names
  exact ⟨y, x b _ D.box D.npb.symm, ⟨a1, a2, a3, x q _ hq D.npq.symm, n1, n2, n3⟩, D.npb, D.npq, D.nbq⟩
theorem Dr.put {H : Hp} {p b q : Addr} {k h k' h' : Int} (D : Dr H p b q k h) : Dr (L2.upd H b (.lst [.int k', .int h', .int 3])) p b q k' h' := by
  obtain ⟨a1, a2, a3, hq, n1, n2, n3⟩ := D.names
  obtain ⟨x, y, z, hp⟩ := D.pool
  exact ⟨⟨x, y, z, by rw [upd_ne D.npb]; exact hp⟩, upd_same, ⟨a1, a2, a3, by rw [upd_ne D.nbq.symm]; exact hq, n1, n2, n3⟩, D.npb, D.npq, D.nbq⟩
theorem Dr.new {H : Hp} {p b q a : Addr} {o : HO} {k h : Int} (D : Dr H p b q k h) (n : H a = none) : Dr (L2.upd H a o) p b q k h := by
  obtain ⟨a1, a2, a3, hq, n1, n2, n3⟩ := D.names
  obtain ⟨x, y, z, hp⟩ := D.pool
  exact ⟨⟨x, y, z, by rw [upd_ne (ne_of_none hp n)]; exact hp⟩, by unfold BoxAt; rw [upd_ne (ne_of_none D.box n)]; exact D.box, ⟨a1, a2, a3, by rw [upd_ne (ne_of_none hq n)]; exact hq, n1, n2, n3⟩, D.npb, D.npq, D.nbq⟩
theorem names_at {H : Hp} {q : Addr} (h : NamesAt H q) {r : Int} (r0 : 0 ≤ r) (r1 : r < 3) : ∃ xs n, H q = some (.lst xs) ∧ atI xs r = some (.str n) ∧ IsName n := by
  obtain ⟨a1, a2, a3, hq, n1, n2, n3⟩ := h
  have e : r = 0 ∨ r = 1 ∨ r = 2 := by omega
  rcases e with rfl | rfl | rfl
  · exact ⟨_, a1, hq, rfl, n1⟩
  · exact ⟨_, a2, hq, rfl, n2⟩
  · exact ⟨_, a3, hq, rfl, n3⟩
end Tk
set_option maxRecDepth 100000
/-! Own rules: enumerate over a tuple; .get of a written dict; o[i], x in o, len(o) by the text's own methods. -/
namespace PySem
section
variable {prog : Program} {w : World} {A : Around} {E : Value → Shared → Prop} {s : Shared}
abbrev tkE (j : Addr) : Obj := { cls := .type "enumerate", data := .fields #[.none, .bool false, .ref j, rawInt 0, .none, .none] }
theorem tk_new {v : Value} {o : Obj} {T : Heap → Prop} (B : Begins v o T) :
    Meets (Builtin.«enumerate.__new__» ⟨[.type "enumerate", v], []⟩) (fun _ R s => T s.heap ∧ R (.ok (.ret (.ref (s.heap.push o).objs.size))) { s with heap := (s.heap.push o).push (tkE s.heap.objs.size) }) :=
  .of_wp fun prog w A R s h => by
    obtain ⟨hp, g, d, tk, os⟩ := s
    obtain ⟨h1, h⟩ := h
    have hz := sub_enumerate
    have it1 : ∀ {A' : Around} {E' : Value → Shared → Prop} {Q' : Value → Shared → Prop}, Q' (.ref hp.objs.size) ⟨hp.push o, g, d, tk, os⟩ → wpAny (model prog w) A' (pyIter v) Q' E' ⟨hp, g, d, tk, os⟩ := fun z => B.iter prog w _ _ ⟨hp, g, d, tk, os⟩ _ h1 z
    wp_walk using it1
    refine wpAny_stack_any fun _ => wpAny_pure ?_
    split
    · rename_i c _ _ _ _ _
      cases (c == Value.type "enumerate") <;> (wp_walk using it1; exact ⟨_, rfl, h⟩)
    · wp_walk using it1
      exact ⟨_, rfl, h⟩
theorem tk_enum {v : Value} {o : Obj} {T : Heap → Prop} {Q : Value → Shared → Prop} (B : Begins v o T) (h1 : T s.heap)
    (h : ∀ h', IsEnum h' (s.heap.objs.size + 1) s.heap.objs.size 0 .none → h'.get? s.heap.objs.size = some o → (∀ b u, s.heap.get? b = some u → h'.get? b = some u) → Q (.ref (s.heap.objs.size + 1)) { s with heap := h' }) :
    wpAny (model prog w) A (call (.type "enumerate") [v]) Q E s := by
  have z1 : (s.heap.push o).objs.size = s.heap.objs.size + 1 := Heap.size_push ..
  refine callType_new F.called_enumerate (by decide) (F.typeCall_enumerate_1 _) (F.newCall_enumerate_1 _) (fun obj => F.args_object_init_2 obj _) F.entry_enumerate_new (tk_new B) (And.intro h1 ?_)
  show _ ∧ _
  rw [z1]
  have q : ((s.heap.push o).push (tkE s.heap.objs.size)).get? (s.heap.push o).objs.size = some (tkE s.heap.objs.size) := Heap.get?_push_size _ rfl
  rw [z1] at q
  exact And.intro ⟨_, q, rfl⟩ (h _ q (Heap.get?_push_of_some _ (Heap.get?_push_size _ B.free)) fun b u y => Heap.get?_push_of_some _ (Heap.get?_push_of_some _ y))
end
end PySem
namespace L2
open PySem PySem.Spec PyProof.Rows
/-- the tuple at a, each item in a new pair with its number -/
def IteT (K : PySem.W.Frag) (a : Addr) : It where
  go := fun i H => ∃ (xs : List V) (x : V), SqT K H a xs ∧ xs[i]? = some x
  yld := fun i H v H' => ∃ T x, v = .ref T ∧ H T = none ∧ H' = upd H T (.tup [.int (i : Nat), x]) ∧ ∀ xs, SqT K H a xs → xs[i]? = some x
  stop := fun i H => ∃ xs : List V, SqT K H a xs ∧ xs.length = i
theorem tk_turn {P : Program} {w : World} {K : PySem.W.Frag} {elts : List Expr} {kk : Nat} {tp : Pos} (a e j : Addr) (n1 : a ≠ j) (n2 : e ≠ a) (n3 : e ≠ j) :
    Turn P w K (.Tuple elts kk tp) (IteT K a) [e, j] e (fun i h => (∃ old, IsEnum h e j ((i : Nat) : Int) old) ∧ h.IsTupleIter j a i) := by
  have two : ∀ b, b ∈ [e, j] → b = e ∨ b = j := fun b hb => by simpa using hb
  refine { mem := by simp, obj := ?_, keep := ?_, item := ?_, done := ?_, self := fun A i s Q E st h => wpAny_pyIter_enum st.1.choose_spec h }
  · intro i h st b hb
    obtain ⟨⟨old, he⟩, ⟨o, ho, _, hd⟩⟩ := st
    rcases two b hb with rfl | rfl
    · exact ⟨_, he, fun v q => nomatch q⟩
    · exact ⟨o, ho, fun v q => by rw [hd] at q; cases q⟩
  · intro i h h' st k
    obtain ⟨⟨old, he⟩, hi⟩ := st
    exact ⟨⟨old, k e (by simp) _ he⟩, hi.at fun o q => k j (by simp) o q⟩
  · intro X hP hw hK hc i pins s σ H E I hf st hg
    subst hP hw hK
    obtain ⟨⟨old, he⟩, hj⟩ := st
    obtain ⟨xs, x, hq, hx⟩ := hg
    obtain ⟨its, rv, p, hz⟩ := I.tuple hq
    obtain ⟨u, hu, ru⟩ := rv.get hx
    have szE : e < s.heap.objs.size := Heap.lt_size he
    have szJ : j < s.heap.objs.size := by obtain ⟨_, q, _⟩ := hj; exact Heap.lt_size q
    have hu2 : its.toArray[i]? = some u := by simpa using hu
    have hlt : i < its.toArray.size := by
      rcases Nat.lt_or_ge i its.toArray.size with z | z
      · exact z
      · rw [Array.getElem?_eq_none z] at hu2; cases hu2
    refine wpAny_pyNext_enum_itemD (Draws.tuple (show X.A.in1.handled = none from I.ok.hd hc) j a n1 its.toArray) he ⟨hj, p⟩ hlt n3 (fun z => by
      rcases List.mem_cons.mp z with z | z
      · exact n3 z
      · exact n2 (by simpa using z)) (fun y h' tk py ho st' hT hsz hk => ?_)
    have ey : y = u := Option.some.inj (py.symm.trans hu2)
    subst ey
    refine ⟨_, rfl, wpAny_letOwnedTupleGo_enum (s := { s with heap := h', toks := tk + 1 }) ho fun h'' he' sb => ?_⟩
    have gT : h''.get? s.heap.objs.size = some { cls := .type "tuple", data := .seq #[.int i tk, y] } := (sb.2 _ (Nat.ne_of_gt szE)).trans hT
    have nw : ObjOk X.prog X.w (upd H s.heap.objs.size (.tup [.int (i : Nat), x])) h'' s.heap.objs.size (.tup [.int (i : Nat), x]) :=
      ⟨by show 2 ≤ sizeLine; decide, [.int i tk, y], .cons ⟨_, rfl⟩ (.cons ru .nil), _, gT, rfl, _, rfl⟩
    have I1 : Inv X pins σ (upd H s.heap.objs.size (.tup [.int (i : Nat), x])) { s with heap := h'', toks := tk + 1 } :=
      I.turnedNew (ch := [e, j]) (fun b ob hb q => (sb.2 b fun z => hb (by simp [z])).trans (hk b ob (fun z => hb (by simp [z])) (fun z => hb (by simp [z])) q)) hf (Nat.le_refl _) nw
    refine ⟨.ref s.heap.objs.size, _, I1, rfl, ⟨_, x, rfl, I.hok.fresh (Nat.le_refl _), rfl, fun ys hy => by rw [I.tuple_inj hy hq]; exact hx⟩, ⟨⟨y, ?_⟩, st'.1.at fun o q => (sb.2 j n3.symm).trans q⟩, fun b hb => ?_⟩
    · have e1 : (i : Int) + 1 = ((i + 1 : Nat) : Int) := by omega
      rw [← e1]
      exact he'
    · have lb : b < s.heap.objs.size := by
        rcases two b hb with rfl | rfl
        · exact szE
        · exact szJ
      rw [upd_ne (Nat.ne_of_lt lb)]
      exact (hf b hb).1
  · intro X hP hw hK hc i pins s σ H E I hf st hg
    subst hP hw hK
    obtain ⟨⟨old, he⟩, hj⟩ := st
    obtain ⟨xs, hq, hx⟩ := hg
    obtain ⟨its, rv, p, hz⟩ := I.tuple hq
    obtain ⟨f0, f1, f2, f3, f4, f5⟩ := hf j (by simp)
    have hl : i = its.toArray.size := by rw [List.size_toArray, ← rv.length]; exact hx.symm
    subst hl
    exact wpAny_pyNext_enum_endD (Draws.tuple (show X.A.in1.handled = none from I.ok.hd hc) j a n1 its.toArray) he ⟨hj, p⟩ fun h' eb => ⟨rfl, I.turned (t' := s.toks) (fun b o hb q => eb b o hb q) f0 f1 f3 f4 f5⟩
/-- for i, x in enumerate(t), t a tuple -/
def iEnumT (K : PySem.W.Frag) (ta : TA) : TI := fun σ H R => ta σ H fun vs H1 => ∃ a xs, vs = [.ref a] ∧ SqT K H1 a xs ∧ R (IteT K a) H1
theorem pi_enumT {X : Cx} {e : Expr} {ta : TA} {p pos tp : Pos} {elts : List Expr} {kk : Nat} (hg : Gl X "enumerate") (hm : X.mg "enumerate" = none) (ha : PA X [e] ta) (hs : starEach [e] X.env = [(false, eval e X.env)] := by rfl) :
    PI X (.Tuple elts kk tp) (.Call (.Name "enumerate" p) [e] [] pos) (iEnumT X.K ta) := by
  refine ⟨fun pins s σ H R I h => ?_⟩
  refine Call_ (ld_blt I hg hm boot_enumerate (PyProof.Rows.callWith_type1 (thn (ha.run pos pins s σ H _ I h) fun us s1 q0 => ?_) hs rfl))
  obtain ⟨vs, H1, I1, r1, a, xs, ex, hq, q⟩ := q0
  subst ex
  cases r1 with
  | cons r rr =>
    cases rr
    cases r
    obtain ⟨its, rv, p', hz⟩ := I1.tuple hq
    have la : a < s1.heap.objs.size := by obtain ⟨_, z, _⟩ := p'; exact Heap.lt_size z
    refine tk_enum (begins_tuple a its.toArray) p' fun h' he hit hk => wpAny_pyIter_enum he ?_
    have I2 : Inv X pins σ H1 { s1 with heap := h' } := I1.kept (t' := s1.toks) hk
    refine ⟨s1.heap.objs.size + 1, [s1.heap.objs.size + 1, s1.heap.objs.size], _, _, H1, rfl, I2, tk_turn a (s1.heap.objs.size + 1) s1.heap.objs.size (Nat.ne_of_lt la) (Nat.ne_of_gt (Nat.lt_succ_of_lt la)) (Nat.succ_ne_self _), ⟨⟨.none, he⟩, ⟨_, hit, rfl, rfl⟩⟩, fun b hb => ?_, q⟩
    have two : b = s1.heap.objs.size + 1 ∨ b = s1.heap.objs.size := by simpa using hb
    have le : s1.heap.objs.size ≤ b := two.elim (fun z => z ▸ Nat.le_succ _) (fun z => z ▸ Nat.le_refl _)
    exact I1.fpOk le (I1.hok.fresh le)
/-- the reading of such a loop -/
theorem for_enumT {K : PySem.W.Frag} {a : Addr} {xs : List V} {g : TG} {tb : TS} {D : Ends} {σ : St} {H : Hp} (Pv : Nat → St → Hp → Prop) (h0 : Pv 0 σ H) (hl : ∀ i σ H, i ≤ xs.length → Pv i σ H → SqT K H a xs)
    (hs : ∀ i x T σ H, xs[i]? = some x → Pv i σ H → H T = none → g (.ref T) σ (upd H T (.tup [.int (i : Nat), x])) fun σ2 H2 => tb { D with nx := Pv (i + 1), ct := Pv (i + 1), bk := D.nx } σ2 H2) (hd : ∀ σ H, Pv xs.length σ H → D.nx σ H) :
    ∃ W : Nat → Nat → St → Hp → Prop, (∃ m, W 0 m σ H) ∧ ∀ i m σ H, W i m σ H → ((IteT K a).stop i H ∧ D.nx σ H) ∨ ((IteT K a).go i H ∧ ∃ N : St → Hp → Prop, (∀ σ' H', N σ' H' → ∃ m', m' < m ∧ W (i + 1) m' σ' H') ∧
      ∀ x H', (IteT K a).yld i H x H' → g x σ H' fun σ2 H2 => tb { D with nx := N, ct := N, bk := D.nx } σ2 H2) := by
  refine ⟨fun i m σ H => m = xs.length - i ∧ i ≤ xs.length ∧ Pv i σ H, ⟨xs.length, by simp, Nat.zero_le _, h0⟩, ?_⟩
  rintro i m σ H ⟨rfl, hi, p⟩
  have q := hl i σ H hi p
  by_cases lt : i < xs.length
  · refine .inr ⟨⟨xs, xs[i], q, by simp [lt]⟩, Pv (i + 1), fun σ' H' p' => ⟨xs.length - (i + 1), by omega, rfl, lt, p'⟩, ?_⟩
    rintro x H' ⟨T, y, rfl, hT, rfl, hy⟩
    exact hs i y T σ H (hy xs q) p hT
  · have e : i = xs.length := by omega
    exact .inl ⟨⟨xs, q, e.symm⟩, hd σ H (e ▸ p)⟩
/-! ### the text's own methods by signs -/
section
variable {X : Cx} {CX : CXT} {k n : Nat} {C f : Addr} {fd : FuncData} {ps : List Str} {sp : Sp} {E : XK}
/-- a def called somewhere below the running body -/
theorem tk_run {A : Around} {pins : List (Addr × Obj)} {σ : St} {H : Hp} {s : Shared} {Q : VK} {us : List Value} {vs : List V} (sb : Sub X k A) (F : FnOk X.prog X.w X.K X.mg X.base CX k f fd ps sp) (hb : Binds X.K fd ps []) (hx : Passes CX X E)
    (I : Inv X pins σ H s) (r : Vals vs us) (h : sp vs H Q E) : wpAny (model X.prog X.w) A (call (.ref f) us) (EP X pins σ Q) X.xe s := by
  have e := I.env0
  have e0 : Env0 X.prog X.w X.K X.mg X.base A X.stack s H := ⟨by rw [sb.fr]; exact e.frames, e.mod, e.bs, e.bsz, e.funs, e.frf, e.hok, e.bare⟩
  have hl : us.length = ps.length := r.length.symm.trans (F.len _ _ _ _ h)
  have bd := hb s us I.kIn (by simpa using hl)
  refine wpAny_call (codeAny_mono (F.run A X.stack s H ⟨us, []⟩ us vs Q E sb.room e0 (by simpa using bd) r h) fun res s' hq => ?_)
  match res, hq with
  | .error e, hq => exact hx pins σ H s e s' I hq
  | .ok (.ret u), hq => exact I.after hq
/-- what stands in the class C as the method m -/
structure OwnM (K : PySem.W.Frag) (C : Addr) (m : Str) (f : Addr) : Prop where
  at_ : PySem.W.findIn K (.ref C) m = some (some (.ref f))
  fn : PySem.W.isFn K (.ref f) = true
theorem ownInst {pins : List (Addr × Obj)} {σ : St} {H : Hp} {s : Shared} {a dx : Addr} {fs : List (Str × V)} (I : Inv X pins σ H s) (ha : H a = some (.ins C dx fs)) : ∃ ox od, PySem.W.InstAt s.heap a ox C od := by
  obtain ⟨mA, J, _⟩ := ins_get I.hok ha
  obtain ⟨od, J, _⟩ := J.look
  exact ⟨_, _, J⟩
def rOwn2 (C : Addr) (sp : Sp) (E : XK) : R2 := fun x y H Q => ∃ a dx fs, x = .ref a ∧ H a = some (.ins C dx fs) ∧ sp [.ref a, y] H Q E
/-- o[i] by the class's own __getitem__ -/
theorem ix_own {value slice : Expr} (M : OwnM X.K C "__getitem__" f) (hf : PySem.W.fnIn X.K f = true) (F : FnOk X.prog X.w X.K X.mg X.base CX k f fd ps sp) (hr : Room (k + 1) X.A) (hb : Binds X.K fd ps []) (hx : Passes CX X E)
    {a b : Expr} {ta tb : TE} {pos : Pos} (ha : PE X a ta) (hb2 : PE X b tb) (hs : ∀ o i, subscripted b true o i = runValue (.builtin "lifetime.subscript" ⟨[o, i], []⟩)) : PE X (.Subscript a b pos) (tOp (rOwn2 C sp E) ta tb) := by
  refine ⟨fun pins s σ H Q I h => ?_⟩
  refine Subscript_ (binT ha hb2 I h fun v u s2 x y H2 I2 rx ry q => ?_)
  obtain ⟨p, dx, fs, rfl, hp, q⟩ := q
  obtain rfl : v = Value.ref p := rx
  obtain ⟨ox, od, J⟩ := ownInst I2 hp
  obtain ⟨m, hF⟩ := I2.fr
  refine PySem.W.sub_K hF I2.ok.mod.kin J M.at_ hf M.fn ?_ (hs _ _)
  exact tk_run ⟨hr.in1, rfl⟩ F hb hx I2 (.cons (show RelV (.ref p) (.ref p) from rfl) (.cons ry .nil)) q
def rOwnIn (C : Addr) (sp : Sp) (E : XK) (neg : Bool) : R2 := fun y x H Q => ∃ a dx fs, x = .ref a ∧ H a = some (.ins C dx fs) ∧ sp [.ref a, y] H (fun v H' => ∃ c, v = .bl c ∧ Q (.bl (if neg then !c else c)) H') E
/-- y in o by the class's own __contains__ -/
theorem op_inOwn (M : OwnM X.K C "__contains__" f) (F : FnOk X.prog X.w X.K X.mg X.base CX k f fd ps sp) (hr : Room k X.A) (hb : Binds X.K fd ps []) (hx : Passes CX X E) : OpR X (compareOp .In) (rOwnIn C sp E false) := by
  intro pins s σ H y x u v Q I ry rx h
  obtain ⟨p, dx, fs, rfl, hp, q⟩ := h
  obtain rfl : v = Value.ref p := rx
  obtain ⟨ox, od, J⟩ := ownInst I hp
  obtain ⟨m, hF⟩ := I.fr
  refine PySem.W.in_K hF I.ok.mod.kin J M.at_ M.fn (thn (tk_run ⟨hr, rfl⟩ F hb hx I (.cons (show RelV (.ref p) (.ref p) from rfl) (.cons ry .nil)) q) fun r s' hq => ?_)
  obtain ⟨z, H', I', rz, c, rfl, q'⟩ := hq
  cases rz
  exact wpAny_truthy_bool ⟨.bl c, H', I', rfl, q'⟩
theorem op_notInOwn (M : OwnM X.K C "__contains__" f) (F : FnOk X.prog X.w X.K X.mg X.base CX k f fd ps sp) (hr : Room k X.A) (hb : Binds X.K fd ps []) (hx : Passes CX X E) : OpR X (compareOp .NotIn) (rOwnIn C sp E true) := by
  intro pins s σ H y x u v Q I ry rx h
  obtain ⟨p, dx, fs, rfl, hp, q⟩ := h
  obtain rfl : v = Value.ref p := rx
  obtain ⟨ox, od, J⟩ := ownInst I hp
  obtain ⟨m, hF⟩ := I.fr
  refine PySem.W.notIn_K hF I.ok.mod.kin J M.at_ M.fn (thn (tk_run ⟨hr, rfl⟩ F hb hx I (.cons (show RelV (.ref p) (.ref p) from rfl) (.cons ry .nil)) q) fun r s' hq => ?_)
  obtain ⟨z, H', I', rz, c, rfl, q'⟩ := hq
  cases rz
  exact wpAny_truthy_bool ⟨.bl (!c), H', I', rfl, q'⟩
/-- len(o) by the class's own __len__ -/
theorem call_lenOwn (M : OwnM X.K C "__len__" f) (F : FnOk X.prog X.w X.K X.mg X.base CX k f fd ps sp) (hr : Room (k + 1) X.A) (hb : Binds X.K fd ps []) (hx : Passes CX X E) :
    CallR X (.builtin "len") (fun xs H Q => ∃ a dx fs, xs = [.ref a] ∧ H a = some (.ins C dx fs) ∧ sp [.ref a] H (fun v H' => ∃ i : Int, v = .int i ∧ 0 ≤ i ∧ i < 2 ^ 63 ∧ Q v H') E) := by
  intro pins s σ H xs us Q I r h
  obtain ⟨p, dx, fs, rfl, hp, q⟩ := h
  obtain ⟨u, rfl, rx⟩ := vals1 r
  obtain rfl : u = Value.ref p := rx
  obtain ⟨ox, od, J⟩ := ownInst I hp
  obtain ⟨m, hF⟩ := I.fr
  refine PySem.W.len_K hF I.ok.mod.kin J M.at_ M.fn (thn (tk_run ⟨hr.in1, rfl⟩ F hb hx I (.cons (show RelV (.ref p) (.ref p) from rfl) .nil) q) fun r s' hq => ?_)
  obtain ⟨z, H', I', rz, i, rfl, i0, i1, q'⟩ := hq
  obtain ⟨t, rfl⟩ := rz
  refine ⟨⟨i0, i1⟩, ⟨.int i, H', I'.tok _, ⟨_, rfl⟩, q'⟩⟩
end
/-! ### .get of a written dict -/
def KG (K : PySem.W.Frag) (w : World) (a : Addr) (x : Str) (v : V) : Prop := KDct K w a x v ∧ (a == sysModules) = false
def tKGet (K : PySem.W.Frag) (w : World) (td ty : TE) : TE := fun σ H Q => td σ H fun x H1 => ty σ H1 fun y H2 => ∃ a z v, x = .ref a ∧ y = .str z ∧ KG K w a z v ∧ Q v H2
theorem pe_kget {X : Cx} {o e : Expr} {td ty : TE} {apos cpos : Pos} (ho : PE X o td) (he : PE X e ty) (hd : ∀ σ H Q, td σ H Q → td σ H fun x H1 => (∃ a oc es n, x = V.ref a ∧ X.K.lookup a = some oc ∧ oc = ⟨.type "dict", none, .dict es n, #[]⟩) ∧ Q x H1) (m : M1 X o "get" apos e cpos) :
    PE X (.Call (.Attribute o "get" apos) [e] [] cpos) (tKGet X.K X.w td ty) := by
  refine ⟨fun pins s σ H Q I h => ?_⟩
  refine wpAny_Call_method m.base m.few m.line PySem.F.plainAttrs_dict PySem.F.slot_dict_get PySem.F.type_dict_get (thn (ho.run pins s σ H _ I (hd _ _ _ h)) fun u s1 q0 => ?_)
  obtain ⟨x, H1, I1, rx, ⟨a, oc, es, n, rfl, lk, rfl⟩, q1⟩ := q0
  obtain rfl : u = Value.ref a := rx
  have ga := I1.kIn _ _ lk
  refine ⟨⟨_, ga, rfl⟩, fun b q => by cases q; exact ⟨_, ga, rfl⟩, ?_⟩
  rw [m.trees]
  refine Calls.callWith_builtin rfl (Calls.evalArgs_plain (Calls.spliced_cons (thn (he.run pins s1 σ H1 _ I1 q1) fun iv s2 q2 => Calls.spliced_nil ?_)))
  obtain ⟨y, H2, I2, ry, a', z, v, ea, rfl, ⟨⟨es', n', u0, hl, hk, e1, ru⟩, hs⟩, q2⟩ := q2
  cases ea
  obtain ⟨t, rfl⟩ := ry
  have mo := PySem.W.mapOf_K (prog := X.prog) (w := X.w) I2.kIn hl hk
  refine call_meetsIn PySem.F.slot_dict_get mo.typeIs PySem.F.entry_dict_get (PySem.F.args_dict_get_2 _ _) (meets_dict_get (strKind X.prog X.w) a (strKind_is X.prog X.w z t) hs) ⟨_, mo, ?_⟩
  rw [PySem.W.find_K hl e1]
  exact ⟨v, H2, I2.tok _, ru, q2⟩
end L2
namespace Tk
open PySem L2
abbrev Pl := List Int
mutual
/-- the statements at and below the place p, in reading order -/
def Stm.walk : Stm → Pl → List (Pl × Stm)
  | .one w, p => [(p, .one w)]
  | .nam b n, p => [(p, .nam b n)]
  | .ch y n, p => (p, .ch y n) :: (walkAll y (p ++ [0]) 0 ++ walkAll n (p ++ [1]) 0)
def walkAll : List Stm → Pl → Nat → List (Pl × Stm)
  | [], _, _ => []
  | s :: r, p, i => s.walk (p ++ [(i : Int)]) ++ walkAll r p (i + 1)
end
def lk : List (Pl × Stm) → Pl → Option Stm
  | [], _ => none
  | (p, s) :: r, k => if p = k then some s else lk r k
theorem lk_app (k : Pl) : ∀ a b : List (Pl × Stm), lk (a ++ b) k = (lk a k).or (lk b k)
  | [], b => rfl
  | (p, s) :: r, b => by
    show (if p = k then some s else lk (r ++ b) k) = (if p = k then some s else lk r k).or (lk b k)
    by_cases h : p = k
    · rw [if_pos h, if_pos h]; rfl
    · rw [if_neg h, if_neg h, lk_app k r b]
def nth (B : List Stm) (j : Int) : Option Stm := if 0 ≤ j then B[j.toNat]? else none
def sub : Stm → Pl → Option Stm
  | s, [] => some s
  | .ch y n, a :: j :: q => if a = 0 then (nth y j).bind fun t => sub t q else if a = 1 then (nth n j).bind fun t => sub t q else none
  | _, _ => none
def look : List Stm → Pl → Option Stm
  | B, [] => none
  | B, j :: q => (nth B j).bind fun s => sub s q
theorem pre_ne {p q : Pl} {a b : Int} (h : a ≠ b) : ∀ r : Pl, p ++ a :: q ≠ (p ++ [b]) ++ r := fun r e => by
  rw [List.append_assoc] at e
  have := List.append_cancel_left e
  simp at this
  exact h this.1
mutual
theorem walk_none : ∀ (s : Stm) (p k : Pl), (∀ q, k ≠ p ++ q) → lk (s.walk p) k = none
  | .one w, p, k, h => by
    rw [Stm.walk, lk, if_neg (fun e => h [] (by rw [← e]; simp)), lk]
  | .nam b n, p, k, h => by
    rw [Stm.walk, lk, if_neg (fun e => h [] (by rw [← e]; simp)), lk]
  | .ch y n, p, k, h => by
    rw [Stm.walk, lk, if_neg (fun e => h [] (by rw [← e]; simp)), lk_app, walkAll_none y (p ++ [0]) 0 k (fun j q e => h (0 :: j :: q) (by rw [e]; simp)), walkAll_none n (p ++ [1]) 0 k (fun j q e => h (1 :: j :: q) (by rw [e]; simp))]
    rfl
theorem walkAll_none : ∀ (B : List Stm) (p : Pl) (i : Nat) (k : Pl), (∀ j q, k ≠ p ++ j :: q) → lk (walkAll B p i) k = none
  | [], p, i, k, h => by rw [walkAll, lk]
  | s :: r, p, i, k, h => by
    rw [walkAll, lk_app, walk_none s (p ++ [(i : Int)]) k (fun q e => h i q (by rw [e]; simp)), walkAll_none r p (i + 1) k h]
    rfl
end
theorem nth_nil (j : Int) : nth [] j = none := by
  unfold nth
  by_cases h : 0 ≤ j
  · rw [if_pos h]; rfl
  · rw [if_neg h]
theorem nth_zero (s : Stm) (r : List Stm) : nth (s :: r) 0 = some s := rfl
theorem nth_succ (s : Stm) (r : List Stm) (j : Int) (h : j ≠ 0) : nth (s :: r) j = nth r (j - 1) := by
  unfold nth
  by_cases h0 : 0 ≤ j
  · rw [if_pos h0, if_pos (by omega)]
    have e : j.toNat = (j - 1).toNat + 1 := by omega
    rw [e, List.getElem?_cons_succ]
  · rw [if_neg h0, if_neg (by omega)]
mutual
theorem walk_lk : ∀ (s : Stm) (p q : Pl), lk (s.walk p) (p ++ q) = sub s q
  | .one w, p, [] => by rw [Stm.walk, lk, if_pos (by simp), sub]
  | .one w, p, a :: q => by
    rw [Stm.walk, lk, if_neg (fun e => by have := congrArg List.length e; simp at this), lk]
    cases q <;> rfl
  | .nam b n, p, [] => by rw [Stm.walk, lk, if_pos (by simp), sub]
  | .nam b n, p, a :: q => by
    rw [Stm.walk, lk, if_neg (fun e => by have := congrArg List.length e; simp at this), lk]
    cases q <;> rfl
  | .ch y n, p, [] => by rw [Stm.walk, lk, if_pos (by simp), sub]
  | .ch y n, p, [a] => by
    rw [Stm.walk, lk, if_neg (fun e => by have := congrArg List.length e; simp at this), lk_app, walkAll_none, walkAll_none]
    · rfl
    · intro j q e; have := congrArg List.length e; simp at this
    · intro j q e; have := congrArg List.length e; simp at this
  | .ch y n, p, a :: j :: q => by
    rw [Stm.walk, lk, if_neg (fun e => by have := congrArg List.length e; simp at this), lk_app, sub]
    by_cases h0 : a = 0
    · subst h0
      rw [if_pos rfl]
      have e : p ++ (0 : Int) :: j :: q = (p ++ [0]) ++ j :: q := by simp
      have z : lk (walkAll n (p ++ [1]) 0) (p ++ (0 : Int) :: j :: q) = none := walkAll_none n (p ++ [1]) 0 _ (fun j' q' => pre_ne (by decide) _)
      rw [z, e, walkAll_lk y (p ++ [0]) 0 j q]
      simp
    · rw [if_neg h0]
      have z : lk (walkAll y (p ++ [0]) 0) (p ++ a :: j :: q) = none := walkAll_none y (p ++ [0]) 0 _ (fun j' q' => pre_ne h0 _)
      rw [z]
      by_cases h1 : a = 1
      · subst h1
        rw [if_pos rfl]
        have e : p ++ (1 : Int) :: j :: q = (p ++ [1]) ++ j :: q := by simp
        rw [e, walkAll_lk n (p ++ [1]) 0 j q]
        simp
      · rw [if_neg h1]
        have z2 : lk (walkAll n (p ++ [1]) 0) (p ++ a :: j :: q) = none := walkAll_none n (p ++ [1]) 0 _ (fun j' q' => pre_ne h1 _)
        rw [z2]; rfl
theorem walkAll_lk : ∀ (B : List Stm) (p : Pl) (i : Nat) (j : Int) (q : Pl), lk (walkAll B p i) (p ++ j :: q) = (nth B (j - i)).bind fun s => sub s q
  | [], p, i, j, q => by rw [walkAll, lk, nth_nil]; rfl
  | s :: r, p, i, j, q => by
    rw [walkAll, lk_app]
    by_cases h : j = i
    · subst h
      have e : p ++ (i : Int) :: q = (p ++ [(i : Int)]) ++ q := by simp
      have z : lk (walkAll r p (i + 1)) (p ++ (i : Int) :: q) = none ∨ True := .inr trivial
      rw [e, walk_lk s (p ++ [(i : Int)]) q, ← e, walkAll_lk r p (i + 1) i q]
      have e1 : nth (s :: r) ((i : Int) - i) = some s := by rw [Int.sub_self]; rfl
      have e2 : nth r ((i : Int) - ((i + 1 : Nat) : Int)) = none := by unfold nth; rw [if_neg (by omega)]
      rw [e1, e2]
      simp
    · have z : lk (s.walk (p ++ [(i : Int)])) (p ++ j :: q) = none := walk_none s _ _ (fun q' => pre_ne h _)
      rw [z, walkAll_lk r p (i + 1) j q, nth_succ s r (j - i) (by omega)]
      have e : j - ((i + 1 : Nat) : Int) = j - i - 1 := by omega
      rw [e]; rfl
end
theorem look_lk (S : List Stm) : ∀ p : Pl, lk (walkAll S [] 0) p = look S p
  | [] => walkAll_none S [] 0 [] (fun j q e => by cases e)
  | j :: q => by
    have := walkAll_lk S [] 0 j q
    simpa [look] using this
mutual
theorem walk_len : ∀ (s : Stm) (p : Pl), (s.walk p).length = s.cnt
  | .one w, p => by rw [Stm.walk, Stm.cnt]; rfl
  | .nam b n, p => by rw [Stm.walk, Stm.cnt]; rfl
  | .ch y n, p => by
    rw [Stm.walk, Stm.cnt, List.length_cons, List.length_append, walkAll_len y, walkAll_len n]; omega
theorem walkAll_len : ∀ (B : List Stm) (p : Pl) (i : Nat), (walkAll B p i).length = cntAll B
  | [], p, i => by rw [walkAll, cntAll]; rfl
  | s :: r, p, i => by rw [walkAll, cntAll, List.length_append, walk_len s, walkAll_len r]
end
theorem walkAll_snoc : ∀ (B : List Stm) (s : Stm) (p : Pl) (i : Nat), walkAll (B ++ [s]) p i = walkAll B p i ++ s.walk (p ++ [((i + B.length : Nat) : Int)])
  | [], s, p, i => by
    show walkAll [s] p i = walkAll [] p i ++ _
    rw [walkAll, walkAll, walkAll]; simp
  | t :: r, s, p, i => by
    show walkAll (t :: (r ++ [s])) p i = _
    rw [walkAll, walkAll, walkAll_snoc r s p (i + 1), List.append_assoc]
    have e : i + 1 + r.length = i + (t :: r).length := by rw [List.length_cons]; omega
    rw [e]
/-! ## the found statements as a dict -/
def key (p : Pl) : List Key := p.map Sum.inl
theorem key_kV (p : Pl) : (key p).map kV = p.map V.int := by
  unfold key; rw [List.map_map]; rfl
theorem key_inj : ∀ {p q : Pl}, key p = key q → p = q
  | [], [], _ => rfl
  | [], _ :: _, h => by cases h
  | _ :: _, [], h => by cases h
  | a :: p, b :: q, h => by
    have h' : Sum.inl a :: key p = Sum.inl b :: key q := h
    injection h' with h1 h2
    injection h1 with h1
    rw [h1, key_inj h2]
def FRel (H : Hp) : List (List Key × V) → List (Pl × Stm) → Prop
  | [], [] => True
  | (k, v) :: r, (p, s) :: r' => k = key p ∧ s.at H v ∧ FRel H r r'
  | _, _ => False
theorem FRel.len {H : Hp} : ∀ {a : List (List Key × V)} {b : List (Pl × Stm)}, FRel H a b → a.length = b.length
  | [], [], _ => rfl
  | _ :: _, _ :: _, h => by rw [List.length_cons, List.length_cons, FRel.len h.2.2]
  | [], _ :: _, h => h.elim
  | _ :: _, [], h => h.elim
theorem FRel.keep {H H' : Hp} (k : TK H H') : ∀ {a : List (List Key × V)} {b : List (Pl × Stm)}, FRel H a b → FRel H' a b
  | [], [], _ => trivial
  | _ :: _, _ :: _, h => ⟨h.1, Stm.at_keep k _ _ h.2.1, FRel.keep k h.2.2⟩
  | [], _ :: _, h => h.elim
  | _ :: _, [], h => h.elim
theorem FRel.snoc {H : Hp} {p : Pl} {v : V} {s : Stm} (hs : s.at H v) : ∀ {a : List (List Key × V)} {b : List (Pl × Stm)}, FRel H a b → FRel H (a ++ [(key p, v)]) (b ++ [(p, s)])
  | [], [], _ => ⟨rfl, hs, trivial⟩
  | _ :: _, _ :: _, h => ⟨h.1, h.2.1, FRel.snoc hs h.2.2⟩
  | [], _ :: _, h => h.elim
  | _ :: _, [], h => h.elim
theorem FRel.val {H : Hp} (p : Pl) : ∀ {a : List (List Key × V)} {b : List (Pl × Stm)}, FRel H a b → (lk b p = none → valV a (key p) = none) ∧ (∀ s, lk b p = some s → ∃ v, valV a (key p) = some v ∧ s.at H v)
  | [], [], _ => ⟨fun _ => rfl, fun s e => by cases e⟩
  | (k, v) :: r, (q, s) :: r', h => by
    obtain ⟨rfl, h1, h2⟩ := h
    by_cases e : q = p
    · subst e
      rw [lk, if_pos rfl, valV_pos (p := (key q, v)) rfl]
      exact ⟨(fun z => nomatch z), fun t z => ⟨v, rfl, Option.some.inj z ▸ h1⟩⟩
    · rw [lk, if_neg e, valV_neg (p := (key q, v)) (fun z => e (key_inj z))]
      exact FRel.val p h2
  | [], _ :: _, h => h.elim
  | _ :: _, [], h => h.elim
end Tk
namespace Tk
open PySem L2
def br (a : Int) (y n : List Stm) : List Stm := if a = 0 then y else n
/-- R is what follows the statement at p, to the end of the script -/
inductive After : List Stm → Pl → List Stm → Prop
  | here (B : List Stm) (i : Nat) : i < B.length → After B [(i : Int)] (B.drop (i + 1))
  | inn (B : List Stm) (i : Nat) (a : Int) (y n : List Stm) (q : Pl) (R : List Stm) : B[i]? = some (.ch y n) → (a = 0 ∨ a = 1) → After (br a y n) q R → After B ((i : Int) :: a :: q) (R ++ B.drop (i + 1))
theorem nth_nat (B : List Stm) (i : Nat) : nth B (i : Int) = B[i]? := by
  unfold nth
  rw [if_pos (by omega), Int.toNat_natCast]
theorem After.ne {B : List Stm} {p : Pl} {R : List Stm} (h : After B p R) : p ≠ [] := by cases h <;> simp
theorem look_in {B : List Stm} {i : Nat} {a : Int} {y n : List Stm} {q : Pl} (h : B[i]? = some (.ch y n)) (ha : a = 0 ∨ a = 1) (hq : q ≠ []) : look B ((i : Int) :: a :: q) = look (br a y n) q := by
  cases q with
  | nil => exact absurd rfl hq
  | cons j r =>
    rw [look, nth_nat, h]
    show sub (.ch y n) (a :: j :: r) = _
    rw [sub, look]
    rcases ha with rfl | rfl
    · rw [if_pos rfl]; rfl
    · rw [if_neg (by decide), if_pos rfl]; rfl
theorem look_one (B : List Stm) (i : Nat) : look B [(i : Int)] = B[i]? := by
  rw [look, nth_nat]
  cases B[i]? <;> rfl
theorem After.step {S : List Stm} {p : Pl} {R : List Stm} (h : After S p R) : ∃ q j, p = q ++ [j] ∧
    ((∃ s R', look S (q ++ [j + 1]) = some s ∧ R = s :: R' ∧ After S (q ++ [j + 1]) R') ∨
     (look S (q ++ [j + 1]) = none ∧ ((q = [] ∧ R = []) ∨ ∃ q' a, q = q' ++ [a] ∧ q' ≠ [] ∧ After S q' R))) := by
  induction h with
  | here B i hi =>
    refine ⟨[], (i : Int), rfl, ?_⟩
    have e : ([] : Pl) ++ [(i : Int) + 1] = [((i + 1 : Nat) : Int)] := by simp
    rw [e, look_one]
    cases g : B[i + 1]? with
    | none =>
      refine .inr ⟨rfl, .inl ⟨rfl, ?_⟩⟩
      rw [List.drop_eq_nil_of_le]
      exact List.getElem?_eq_none_iff.mp g
    | some s =>
      obtain ⟨lt, e1⟩ := List.getElem?_eq_some_iff.mp g
      exact .inl ⟨s, B.drop (i + 1 + 1), rfl, by rw [List.drop_eq_getElem_cons lt, e1], .here B (i + 1) lt⟩
  | inn B i a y n q R hb ha hq ih =>
    obtain ⟨q0, j, e, ih⟩ := ih
    refine ⟨(i : Int) :: a :: q0, j, by rw [e]; rfl, ?_⟩
    have le : look B (((i : Int) :: a :: q0) ++ [j + 1]) = look (br a y n) (q0 ++ [j + 1]) := look_in hb ha (by simp)
    rw [le]
    rcases ih with ⟨s, R', l, eR, af⟩ | ⟨l, ⟨rfl, eR⟩ | ⟨q', a', eq, nq, af⟩⟩
    · exact .inl ⟨s, R' ++ B.drop (i + 1), l, by rw [eR]; rfl, .inn B i a y n _ R' hb ha af⟩
    · refine .inr ⟨l, .inr ⟨[(i : Int)], a, rfl, by simp, ?_⟩⟩
      rw [eR]
      exact .here B i (List.getElem?_eq_some_iff.mp hb).1
    · refine .inr ⟨l, .inr ⟨(i : Int) :: a :: q', a', by rw [eq]; rfl, by simp, ?_⟩⟩
      exact .inn B i a y n q' R hb ha af
theorem After.down {S : List Stm} {p : Pl} {R : List Stm} {y n : List Stm} {a : Int} (h : After S p R) (ha : a = 0 ∨ a = 1) (hn : br a y n ≠ []) :
    look S p = some (.ch y n) → look S (p ++ [a, 0]) = (br a y n)[0]? ∧ After S (p ++ [a, 0]) ((br a y n).drop 1 ++ R) := by
  have first : After (br a y n) [((0 : Nat) : Int)] ((br a y n).drop (0 + 1)) := .here _ 0 (List.length_pos_iff.mpr hn)
  induction h with
  | here B i hi =>
    intro l
    rw [look_one] at l
    refine ⟨?_, .inn B i a y n [0] _ l ha first⟩
    show look B ((i : Int) :: a :: [((0 : Nat) : Int)]) = _
    rw [look_in l ha (by simp), look_one]
  | inn B i a' y' n' q R hb ha' hq ih =>
    intro l
    rw [look_in hb ha' hq.ne] at l
    obtain ⟨l1, af⟩ := ih l
    refine ⟨?_, ?_⟩
    · show look B ((i : Int) :: a' :: (q ++ [a, 0])) = _
      rw [look_in hb ha' (by simp)]
      exact l1
    · rw [← List.append_assoc]
      exact .inn B i a' y' n' _ _ hb ha' af
theorem After.first {S : List Stm} (h : S ≠ []) : look S [0] = S[0]? ∧ After S [0] (S.drop 1) :=
  ⟨look_one S 0, .here S 0 (List.length_pos_iff.mpr h)⟩
theorem okAll_get : ∀ {d : Nat} {B : List Stm} {h : Int} {i : Nat} {s : Stm}, okAll d B h → B[i]? = some s → ∃ h', s.ok d h'
  | d, [], h, i, s, _, e => by simp at e
  | d, t :: r, h, 0, s, g, e => by
    rw [okAll] at g
    have e' : t = s := Option.some.inj e
    exact ⟨h, e' ▸ g.1⟩
  | d, t :: r, h, i + 1, s, g, e => by
    rw [okAll] at g
    exact okAll_get g.2 (i := i) (s := s) e
theorem After.len {S : List Stm} {p : Pl} {R : List Stm} (h : After S p R) : ∀ (d : Nat) (k : Int), okAll d S k → d ≤ 2 → p.length + 2 * d ≤ 5 := by
  induction h with
  | here B i hi => intro d k _ hd; show 1 + 2 * d ≤ 5; omega
  | inn B i a y n q R hb ha hq ih =>
    intro d k g hd
    obtain ⟨h', o⟩ := okAll_get g hb
    rw [Stm.ok] at o
    have z : q.length + 2 * (d + 1) ≤ 5 := by
      rcases ha with rfl | rfl
      · exact ih (d + 1) h' o.2.1 (by omega)
      · exact ih (d + 1) h' o.2.2 (by omega)
    show q.length + 1 + 1 + 2 * d ≤ 5
    omega
/-! ## greater places -/
def Gt (x y : Pl) : Prop := (∃ q i j r s, x = q ++ i :: r ∧ y = q ++ j :: s ∧ j < i) ∨ ∃ c, x = y ++ c ∧ c ≠ []
theorem lexAt_at (e r : Nat → Bool) (z : Bool) (m : Nat) : ∀ (k i : Nat), i ≤ m → m < i + k → (∀ j, i ≤ j → j < m → e j = true) → e m = false → Ob.lexAt e r z i k = r m
  | 0, i, h1, h2, _, _ => by omega
  | k + 1, i, h1, h2, g, b => by
    rw [Ob.lexAt_succ]
    by_cases c : i = m
    · subst c
      rw [b]; rfl
    · rw [g i (Nat.le_refl i) (by omega), if_pos rfl]
      exact lexAt_at e r z m k (i + 1) (by omega) (by omega) (fun j a b => g j (by omega) b) b
theorem lexAt_all (e r : Nat → Bool) (z : Bool) : ∀ (k i : Nat), (∀ j, i ≤ j → j < i + k → e j = true) → Ob.lexAt e r z i k = z
  | 0, i, _ => rfl
  | k + 1, i, g => by
    rw [Ob.lexAt_succ, g i (Nat.le_refl i) (by omega), if_pos rfl]
    exact lexAt_all e r z k (i + 1) (fun j a b => g j (by omega) (by omega))
theorem gt_not_le {x y : Pl} (h : Gt x y) : Ob.lexAt (fun j => decide (x.getD j 0 = y.getD j 0)) (fun j => decide (x.getD j 0 ≤ y.getD j 0)) (decide (x.length ≤ y.length)) 0 (min x.length y.length) = false := by
  rcases h with ⟨q, i, j, r, s, rfl, rfl, lt⟩ | ⟨c, rfl, hc⟩
  · have g1 : ∀ (t : Int) (u : Pl) (k : Nat), k < q.length → (q ++ t :: u).getD k 0 = q.getD k 0 := fun t u k hk => by
      rw [List.getD_eq_getElem?_getD, List.getD_eq_getElem?_getD, List.getElem?_append_left hk]
    have g2 : ∀ (t : Int) (u : Pl), (q ++ t :: u).getD q.length 0 = t := fun t u => by
      rw [List.getD_eq_getElem?_getD, List.getElem?_append_right (Nat.le_refl _), Nat.sub_self]; rfl
    rw [lexAt_at _ _ _ q.length]
    · show decide ((q ++ i :: r).getD q.length 0 ≤ (q ++ j :: s).getD q.length 0) = false
      rw [g2, g2]; exact decide_eq_false (by omega)
    · exact Nat.zero_le _
    · rw [List.length_append, List.length_append, List.length_cons, List.length_cons]; omega
    · intro k _ hk
      show decide ((q ++ i :: r).getD k 0 = (q ++ j :: s).getD k 0) = true
      rw [g1 _ _ k hk, g1 _ _ k hk]; exact decide_eq_true rfl
    · show decide ((q ++ i :: r).getD q.length 0 = (q ++ j :: s).getD q.length 0) = false
      rw [g2, g2]; exact decide_eq_false (by omega)
  · have hl : 0 < c.length := List.length_pos_iff.mpr hc
    rw [lexAt_all]
    · rw [List.length_append]; exact decide_eq_false (by omega)
    · intro k _ hk
      rw [List.length_append] at hk
      have hk' : k < y.length := by omega
      show decide ((y ++ c).getD k 0 = y.getD k 0) = true
      rw [List.getD_eq_getElem?_getD, List.getD_eq_getElem?_getD, List.getElem?_append_left hk']
      exact decide_eq_true rfl
end Tk
set_option maxRecDepth 100000
namespace Tk
open PySem L2
def top (i : Nat) : Stmt := PySem.Challenge.pw_takenahead_k03_after.main.body.getD i (.Pass ⟨0, 0, 0, 0⟩)
abbrev sPool : Stmt := top 22
abbrev sDraw : Stmt := top 23
abbrev sNames : Stmt := top 24
abbrev sSimple : Stmt := top 25
abbrev sBranch : Stmt := top 26
abbrev sLaw : Stmt := top 30
/-- the built-in names that the program reads -/
structure Bl (mg : Str → Option Value) : Prop where
  len : mg "len" = none
  int : mg "int" = none
  max : mg "max" = none
  range : mg "range" = none
  tuple : mg "tuple" = none
def spPool (K : PySem.W.Frag) : Sp := fun vs H Q _ => ∃ (a : Addr) (ns : List Int) (k : Int), vs = [.ref a, .int k] ∧ SqL K H a (ns.map V.int) ∧ 0 ≤ k ∧
  ∀ (p : Addr) (H' : Hp), H p = none → Same H H' → PoolAt H' p → Q (.ref p) H'
def spDraw : Sp := fun vs H Q _ => ∃ (p : Addr) (n : Int), vs = [.ref p, .int n] ∧ PoolAt H p ∧ 0 < n ∧ n < 1073741824 ∧
  ∀ (r : Int) (H' : Hp), 0 ≤ r → r < n → Kp p H H' → PoolAt H' p → Q (.int r) H'
section
variable {P : Program} {w : World} {K : PySem.W.Frag} {mg : Str → Option Value} {base : Heap}
theorem scPool : FnScope ["_law_script", "_law_k", "_law_cell"] ["_law_script", "_law_k"] (defScope sPool) := ⟨rfl, rfl, rfl, by decide +kernel, rfl, by decide +kernel, by decide +kernel⟩
theorem ok_pool {f : Addr} {fd : FuncData} (F : Fun K "_law_pool" "_law_pool" sPool f fd) (B : Bl mg) : FnOk P w K mg base CX0 1 f fd ["_law_script", "_law_k"] (spPool K) := by
  refine F.ok scPool (fun vs H Q E h => ?_) (fun cdv A outer s H vs Q E hr h => ?_)
  · obtain ⟨a, ns, k, rfl, _⟩ := h
    rfl
  obtain ⟨a, ns, k, rfl, hS, h0, q⟩ := h
  refine ⟨_, pss_cons (ps_set (i := 2) scPool.nd rfl (Or.inl rfl) (pe_op op_add (pv 1) pe_int))
    (pss_cons (ps_if (pt_cmpR op_lt (pv 1) (pe_callB call_len_seq (by rfl) B.len PySem.boot_len (pa_cons (pv 0) pa_nil)) (nomark _))
      (pss_one (ps_set (i := 2) scPool.nd rfl (Or.inl rfl) (pe_callTy call_int1 (by rfl) B.int (by decide +kernel) (pa_cons (pe_ix ix_list (pv 0) (pv 1) (fun _ _ => rfl)) pa_nil)))) pss_nil)
    (pss_one (ps_ret (pe_lst (pa_cons (pe_callB (call_max2 rfl) (by rfl) B.max (by decide +kernel) (pa_cons pe_int (pa_cons (pe_op op_sub (pv 2) (pe_op op_pow pe_int pe_int)) pa_nil)))
      (pa_cons (pe_op op_modN (pe_callTy call_int1 (by rfl) B.int (by decide +kernel) (pa_cons (pv 2) pa_nil)) pe_int) (pa_cons pe_int pa_nil))))))), ?_⟩
  have fin : ∀ c : Int, ((fun (c : Int) => ∀ (l : Addr), H l = none → Q (.ref l) (L2.upd H l (.lst [.int (if c - 10 ^ (18 : Int).toNat > 0 then c - 10 ^ (18 : Int).toNat else 0), .int (c.fmod 2147483647), .int 0]))) c) := by
    intro c l hl
    exact q l _ hl (same_new hl _) ⟨_, _, _, upd_same⟩
  refine ⟨_, rfl, _, _, rfl, rfl, ?_⟩
  refine ⟨_, rfl, _, rfl, a, _, rfl, .inl hS, _, _, rfl, rfl, _, rfl, ?_⟩
  have tail : ∀ c : Int, _ := fun c => fin c
  refine ite2 (fun c => ?_) (fun c => ?_)
  · have c' : k < (((ns.map V.int).length : Nat) : Int) := of_decide_eq_true c
    rw [List.length_map] at c'
    have hk : k.toNat < ns.length := by omega
    have ek : k = ((k.toNat : Nat) : Int) := by omega
    have q1 : atI (ns.map V.int) ((k.toNat : Nat) : Int) = some (.int ns[k.toNat]) := atI_nat (by rw [List.getElem?_map, List.getElem?_eq_getElem hk] <;> rfl)
    rw [← ek] at q1
    refine ⟨_, rfl, _, rfl, a, _, _, _, rfl, rfl, hS, q1, .inl ⟨_, rfl, ?_⟩⟩
    refine ⟨_, rfl, _, _, rfl, rfl, ⟨by decide, by decide, by decide⟩, _, _, rfl, rfl, _, _, rfl, _, rfl, .inl ⟨_, rfl, _, _, rfl, rfl, (by show (2147483647:Int) ≠ 0; decide), ?_⟩⟩
    exact ⟨by show 3 ≤ sizeLine; decide, fun l hl => fin _ l hl⟩
  · refine ⟨_, rfl, _, _, rfl, rfl, ⟨by decide, by decide, by decide⟩, _, _, rfl, rfl, _, _, rfl, _, rfl, .inl ⟨_, rfl, _, _, rfl, rfl, (by show (2147483647:Int) ≠ 0; decide), ?_⟩⟩
    exact ⟨by show 3 ≤ sizeLine; decide, fun l hl => fin _ l hl⟩
theorem scDraw : FnScope ["_law_pool_here", "_law_amount", "_law_digit", "_law_number"] ["_law_pool_here", "_law_amount"] (defScope sDraw) := ⟨rfl, rfl, rfl, by decide +kernel, rfl, by decide +kernel, by decide +kernel⟩
theorem ok_draw {f : Addr} {fd : FuncData} (F : Fun K "_law_draw" "_law_draw" sDraw f fd) (B : Bl mg) : FnOk P w K mg base CX0 1 f fd ["_law_pool_here", "_law_amount"] spDraw := by
  refine F.ok scDraw (fun vs H Q E h => ?_) (fun cdv A outer s H vs Q E hr h => ?_)
  · obtain ⟨p, n, rfl, _⟩ := h
    rfl
  obtain ⟨p, n, rfl, ⟨a, b, c0, hp⟩, n0, n1, q⟩ := h
  refine ⟨_, pss_cons (ps_if (pt_cmpR op_gt (pe_ix ix_list (pv 0) pe_int (fun _ _ => rfl)) pe_int (nomark _))
      (pss_cons (ps_set (i := 2) scDraw.nd rfl (Or.inl rfl) (pe_op op_modN (pe_callTy call_int1 (by rfl) B.int (by decide +kernel) (pa_cons (pe_ix ix_list (pv 0) pe_int (fun _ _ => rfl)) pa_nil)) (pv 1)))
      (pss_cons (ps_asg (pe_op op_fdivN (pe_ix ix_list (pv 0) pe_int (fun _ _ => rfl)) (pv 1)) (pg_sub (pv 0) pe_int set_list))
      (pss_one (ps_ret (pv 2))))) pss_nil)
    (pss_cons (ps_asg (pe_op op_add (pe_ix ix_list (pv 0) pe_int (fun _ _ => rfl)) pe_int) (pg_sub (pv 0) pe_int set_list))
    (pss_cons (ps_set (i := 3) scDraw.nd rfl (Or.inl rfl) (pe_op op_modN (pe_callTy call_int1 (by rfl) B.int (by decide +kernel) (pa_cons
        (pe_op op_mul (pe_op op_add (pe_op op_add (pe_ix ix_list (pv 0) pe_int (fun _ _ => rfl)) (pe_op op_mul pe_int (pe_ix ix_list (pv 0) pe_int (fun _ _ => rfl)))) pe_int) pe_int) pa_nil)) pe_int))
    (pss_cons (ps_set (i := 3) scDraw.nd rfl (Or.inl rfl) (pe_op op_modN (pe_callTy call_int1 (by rfl) B.int (by decide +kernel) (pa_cons
        (pe_op op_mul (pv 3) (pe_op op_add (pe_op op_fdivN (pv 3) pe_int) pe_int)) pa_nil)) pe_int))
    (pss_cons (ps_set (i := 3) scDraw.nd rfl (Or.inl rfl) (pe_op op_modN (pe_callTy call_int1 (by rfl) B.int (by decide +kernel) (pa_cons
        (pe_op op_mul (pv 3) (pe_op op_add (pe_op op_fdivN (pv 3) pe_int) pe_int)) pa_nil)) pe_int))
    (pss_one (ps_ret (pe_op op_modN (pe_callTy call_int1 (by rfl) B.int (by decide +kernel) (pa_cons (pv 3) pa_nil)) (pv 1)))))))), ?_⟩
  refine ⟨_, rfl, p, _, _, _, rfl, rfl, SqL.of hp, rfl, _, _, rfl, rfl, _, rfl, ?_⟩
  refine ite2 (fun c => ?_) (fun c => ?_)
  · refine ⟨_, rfl, p, _, _, _, rfl, rfl, SqL.of hp, rfl, .inl ⟨_, rfl, _, rfl, _, _, rfl, rfl, by omega, ?_⟩⟩
    refine ⟨_, rfl, p, _, _, _, rfl, rfl, SqL.of hp, rfl, _, rfl, _, _, rfl, rfl, ⟨by omega, by omega⟩, _, rfl, p, _, _, _, rfl, rfl, hp, rfl, ?_⟩
    exact ⟨_, rfl, q _ _ (fmod_ok n0).1 (fmod_ok n0).2 Kp.upd ⟨_, _, _, upd_same⟩⟩
  · refine ⟨_, rfl, p, _, _, _, rfl, rfl, SqL.of hp, rfl, _, _, rfl, rfl, _, rfl, p, _, _, _, rfl, rfl, hp, rfl, ?_⟩
    refine ⟨_, rfl, p, _, _, _, rfl, rfl, SqL.of upd_same, rfl, _, rfl, p, _, _, _, rfl, rfl, SqL.of upd_same, rfl, _, _, rfl, rfl, .inl ⟨by decide, by decide⟩, _, _, rfl, rfl, _, _, rfl, rfl,
      _, _, rfl, rfl, .inr ⟨by decide, by decide⟩, .inl ⟨_, rfl, _, _, rfl, rfl, (by show (2147483647:Int) ≠ 0; decide), ?_⟩⟩
    have r1 := fmod_ok (a := (b + 7919 * (c0 + 1) + 1) * 48271) (n := 2147483647) (by decide)
    refine ⟨_, rfl, _, rfl, _, _, rfl, rfl, ⟨by decide, by decide⟩, _, _, rfl, rfl, _, _, rfl, rfl, .inl ⟨by omega, by omega⟩, .inl ⟨_, rfl, _, _, rfl, rfl, (by show (2147483647:Int) ≠ 0; decide), ?_⟩⟩
    have r2 := fmod_ok (a := (((b + 7919 * (c0 + 1) + 1) * 48271).fmod 2147483647) * ((((b + 7919 * (c0 + 1) + 1) * 48271).fmod 2147483647).fdiv 1009 + 69621)) (n := 2147483647) (by decide)
    refine ⟨_, rfl, _, rfl, _, _, rfl, rfl, ⟨by decide, by decide⟩, _, _, rfl, rfl, _, _, rfl, rfl, .inl ⟨by omega, by omega⟩, .inl ⟨_, rfl, _, _, rfl, rfl, (by show (2147483399:Int) ≠ 0; decide), ?_⟩⟩
    refine ⟨_, rfl, .inl ⟨_, rfl, _, rfl, _, _, rfl, rfl, by omega, ?_⟩⟩
    exact q _ _ (fmod_ok n0).1 (fmod_ok n0).2 Kp.upd ⟨_, _, _, upd_same⟩
/-- a list of texts that are names -/
def spNames : Sp := fun vs H Q _ => ∃ p : Addr, vs = [.ref p] ∧ PoolAt H p ∧ ∀ (q : Addr) (H' : Hp), H q = none → Kp p H H' → PoolAt H' p → NamesAt H' q → Q (.ref q) H'
theorem scNames : FnScope ["_law_pool_here", "_law_letters", "_law_base", "_law_k", "_law_at", "_law_first", "_law_signs", "_law_sign"] ["_law_pool_here"] (defScope sNames) := ⟨rfl, rfl, rfl, by decide +kernel, rfl, by decide +kernel, by decide +kernel⟩
theorem ok_names {f fD : Addr} {fd fdD : FuncData} (F : Fun K "_law_names" "_law_names" sNames f fd) (B : Bl mg) (GD : FnOk P w K mg base CX0 1 fD fdD ["_law_pool_here", "_law_amount"] spDraw) (bD : Binds K fdD ["_law_pool_here", "_law_amount"] []) (kD : PySem.W.keepIn K (.ref fD) = true) (mD : mg "_law_draw" = some (.ref fD)) :
    FnOk P w K mg base CX0 2 f fd ["_law_pool_here"] spNames := by
  refine F.ok scNames (fun vs H Q E h => ?_) (fun cdv A outer s H vs Q E hr h => ?_)
  · obtain ⟨p, rfl, _⟩ := h
    rfl
  obtain ⟨p, rfl, hp, q⟩ := h
  refine ⟨_, pss_cons (ps_set (i := 1) scNames.nd rfl (Or.inr rfl) pe_str)
    (pss_cons (ps_set (i := 2) scNames.nd rfl (Or.inr rfl) pe_str)
    (pss_cons (ps_for PassesOwn.never rfl (pi_range1 rfl B.range (pa_cons (pe_call GD hr rfl mD kD bD .nil pass0 (pa_cons (pv 0) (pa_cons pe_int pa_nil))) pa_nil)) (pg_name (i := 3) scNames.nd rfl (Or.inl rfl))
      (pss_one (ps_set (i := 2) scNames.nd rfl (Or.inr rfl) (pe_op op_add_str (pv 2) (pe_ix ix_str (pv 1) (pe_call GD hr rfl mD kD bD .nil pass0 (pa_cons (pv 0) (pa_cons pe_int pa_nil))) (fun _ _ => rfl))))))
    (pss_cons (ps_set (i := 4) scNames.nd rfl (Or.inr rfl) (pe_call GD hr rfl mD kD bD .nil pass0 (pa_cons (pv 0) (pa_cons (pe_op op_add (pe_callB call_len_str (by rfl) B.len PySem.boot_len (pa_cons (pv 2) pa_nil)) pe_int) pa_nil))))
    (pss_cons (ps_set (i := 5) scNames.nd rfl (Or.inl rfl) (pe_call GD hr rfl mD kD bD .nil pass0 (pa_cons (pv 0) (pa_cons pe_int pa_nil))))
    (pss_cons (ps_set (i := 6) scNames.nd rfl (Or.inl rfl) (pe_lst (pa_cons (pv 5)
      (pa_cons (pe_op op_modN (pe_callTy call_int1 (by rfl) B.int (by decide +kernel) (pa_cons (pe_op op_add (pe_op op_add (pv 5) pe_int) (pe_call GD hr rfl mD kD bD .nil pass0 (pa_cons (pv 0) (pa_cons pe_int pa_nil)))) pa_nil)) pe_int)
      (pa_cons (pe_op op_modN (pe_callTy call_int1 (by rfl) B.int (by decide +kernel) (pa_cons (pe_op op_add (pe_op op_add (pv 5) pe_int) (pe_call GD hr rfl mD kD bD .nil pass0 (pa_cons (pv 0) (pa_cons pe_int pa_nil)))) pa_nil)) pe_int) pa_nil)))))
    (pss_one (ps_ret (pe_lc (own := [("_law_sign", 7)]) (g := gName 7) (tt := tYes) rfl scNames.nd (pi_list (pv 6)) (blkOk_by (own := [("_law_sign", 7)]) (N := ["_law_pool_here", "_law_letters", "_law_base", "_law_k", "_law_at", "_law_first", "_law_signs", "_law_sign"]) (sc := defScope sNames) (by decide +kernel))
      (fun _ _ _ _ _ => pg_name (i := 7) scNames.nd rfl (Or.inl rfl)) (fun _ _ _ _ _ => pts_nil)
      (fun _ _ _ _ _ => pe_op op_add_str (pe_op op_add_str (pe_slice sl_str (pv 2) po_none (po_some (pv 4))) (pe_ix ix_str (pv 1) (pv 7) (fun _ _ => rfl))) (pe_slice sl_str (pv 2) (po_some (pv 4)) po_none)))))))))), ?_⟩
  refine ⟨_, rfl, p, 8, rfl, hp, by decide, by decide, fun r H1 r0 r1 k1 hp1 => ⟨r, rfl, by omega, by omega, ?_⟩⟩
  refine for_range (lo := 0) (n := r.toNat) (fun i σ H2 => ∃ (b : Str) (v : Option V), σ = [some (.ref p), some (.str alpha), some (.str b), v, none, none, none, none] ∧ Low b ∧ b.length = i ∧ Kp p H H2 ∧ PoolAt H2 p) ⟨_, _, rfl, low_nil, rfl, k1, hp1⟩ ?_ ?_
  · rintro i σ H2 hi ⟨b, v, rfl, hb, hl, k2, hp2⟩
    refine ⟨_, rfl, _, rfl, _, rfl, p, 26, rfl, hp2, by decide, by decide, fun r2 H3 r20 r21 k3 hp3 => ?_⟩
    obtain ⟨c, hc, hc2⟩ := alpha_at r20 r21
    refine ⟨_, _, c, rfl, rfl, (by show 26 ≤ sizeLine; decide), hc, _, _, rfl, rfl, ?_, ?_⟩
    · show b.length + 1 ≤ sizeLine
      exact Nat.le_of_lt (small1000 (by omega))
    · refine ⟨_, _, rfl, low_app hb (low_one hc2), ?_, k2.trans k3, hp3⟩
      rw [len_app, len_one, hl]
  · rintro σ H2 ⟨b, v, rfl, hb, hl, k2, hp2⟩
    have hl7 : b.length ≤ 7 := by omega
    have hsz : b.length ≤ sizeLine := Nat.le_of_lt (small1000 (by omega))
    refine ⟨_, rfl, _, rfl, _, rfl, hsz, _, _, rfl, rfl, p, _, rfl, hp2, by omega, by omega, fun at_ H3 a0 a1 k3 hp3 => ?_⟩
    refine ⟨_, rfl, p, 26, rfl, hp3, by decide, by decide, fun f1 H4 f0 f1' k4 hp4 => ?_⟩
    refine ⟨_, rfl, _, rfl, _, _, rfl, rfl, _, rfl, p, 12, rfl, hp4, by decide, by decide, fun d1 H5 d0 d1' k5 hp5 => ?_⟩
    refine ⟨_, _, rfl, rfl, .inl ⟨_, rfl, _, _, rfl, rfl, (by show (26:Int) ≠ 0; decide), ?_⟩⟩
    refine ⟨_, rfl, _, _, rfl, rfl, _, rfl, p, 12, rfl, hp5, by decide, by decide, fun d2 H6 d20 d21 k6 hp6 => ?_⟩
    refine ⟨_, _, rfl, rfl, .inl ⟨_, rfl, _, _, rfl, rfl, (by show (26:Int) ≠ 0; decide), ?_⟩⟩
    refine ⟨(by show 3 ≤ sizeLine; decide), fun l hl0 => ?_⟩
    have s1 : ∀ n : Int, 0 ≤ n.fmod 26 ∧ n.fmod 26 < 26 := fun n => fmod_ok (by decide)
    have kAll : Kp p H H6 := ((((k2.trans k3).trans k4).trans k5).trans k6)
    have hpl : H6 p ≠ none := by obtain ⟨_, _, _, z⟩ := hp6; rw [z]; intro z'; cases z'
    have npl : p ≠ l := fun z => hpl (z ▸ hl0)
    refine ⟨_, rfl, l, rfl, ⟨_, SqL.of upd_same⟩, fun D hD => ?_⟩
    have nDl : l ≠ D := ne_of_none upd_same hD
    have hD6 : H6 D = none := by rw [upd_ne nDl.symm] at hD; exact hD
    have npD : p ≠ D := fun z => hpl (z ▸ hD6)
    have hD0 : H D = none := by
      cases e : H D with
      | none => rfl
      | some o =>
        have z := kAll D o e npD.symm
        rw [hD6] at z; cases z
    refine lc_list (K := K) (a := l) (xs := [.int f1, .int ((f1 + 1 + d1).fmod 26), .int ((f1 + 14 + d2).fmod 26)]) (fun i H7 => ∃ acc : List V, H7 D = some (.lst acc) ∧ acc.length = i ∧ (∀ v ∈ acc, ∃ z, v = V.str z ∧ IsName z) ∧
      H7 l = some (.lst [.int f1, .int ((f1 + 1 + d1).fmod 26), .int ((f1 + 14 + d2).fmod 26)]) ∧ Kp p H H7 ∧ PoolAt H7 p) ?_ ?_ ?_ ?_
    · refine ⟨[], upd_same, rfl, fun v hv => (nomatch hv), by rw [upd_ne nDl]; exact upd_same, (kAll.new hl0).new hD, ?_⟩
      obtain ⟨a, b', c, z⟩ := hp6
      exact ⟨a, b', c, by rw [upd_ne npD, upd_ne npl]; exact z⟩
    · rintro i H7 hi ⟨acc, h1, h2, h3, h4, h5, h6⟩
      exact SqL.of h4
    · rintro i x H7 hx ⟨acc, h1, h2, h3, h4, h5, h6⟩
      have hi3 : i < 3 := (List.getElem?_eq_some_iff.mp hx).1
      obtain ⟨n, rfl, n0, n1⟩ : ∃ n, x = V.int n ∧ 0 ≤ n ∧ n < 26 := by
        have hm := List.mem_of_getElem? hx
        simp only [List.mem_cons, List.not_mem_nil, or_false] at hm
        rcases hm with e | e | e
        · exact ⟨_, e, f0, f1'⟩
        · exact ⟨_, e, s1 _⟩
        · exact ⟨_, e, s1 _⟩
      obtain ⟨c, hc, hc2⟩ := alpha_at n0 n1
      have hnm := isName_mk (k := at_) hb hl7 hc2 a0 (by omega)
      refine ⟨rfl, ?_⟩
      unfold tYes
      dsimp only
      rw [if_pos rfl]
      refine ⟨_, rfl, _, rfl, _, rfl, _, rfl, hsz, _, rfl, _, rfl, _, _, c, rfl, rfl, (by show 26 ≤ sizeLine; decide), hc, _, _, rfl, rfl, ?_, ?_⟩
      · have z := hnm.2.1
        rw [len_app, len_app] at z
        exact Nat.le_of_lt (small1000 (by omega))
      refine ⟨_, rfl, _, rfl, _, rfl, _, rfl, hsz, _, _, rfl, rfl, ?_, acc, h1, ?_, ?_⟩
      · have z := hnm.2.1
        rw [len_app] at z
        exact Nat.le_of_lt (small1000 (by omega))
      · rw [h2]; exact small1000 (by omega)
      · refine ⟨_, upd_same, by rw [List.length_append, h2]; rfl, fun v hv => ?_, by rw [upd_ne nDl]; exact h4, ?_, ?_⟩
        · rcases List.mem_append.mp hv with z | z
          · exact h3 v z
          · have e : v = _ := List.mem_singleton.mp z
            exact ⟨_, e, hnm⟩
        · intro b' o e hne
          rw [upd_ne (ne_of_none e hD0)]
          exact h5 b' o e hne
        · obtain ⟨a, b', c', z⟩ := h6
          exact ⟨a, b', c', by rw [upd_ne npD]; exact z⟩
    · rintro H7 ⟨acc, h1, h2, h3, h4, h5, h6⟩
      refine q D H7 hD0 h5 h6 ?_
      match acc, h2, h3 with
      | [u, v, t], _, h3 =>
        obtain ⟨x, rfl, hx⟩ := h3 u (by simp)
        obtain ⟨y, rfl, hy⟩ := h3 v (by simp)
        obtain ⟨z, rfl, hz⟩ := h3 t (by simp)
        exact ⟨x, y, z, h1, hx, hy, hz⟩
def spSimple : Sp := fun vs H Q _ => ∃ (p b q : Addr) (k h : Int), vs = [.ref p, .ref b, .ref q] ∧ Dr H p b q k h ∧ 0 ≤ h ∧ h ≤ 3 ∧
  ∀ (v : V) (H' : Hp) (s : Stm), s.cnt = 1 → (∀ d, s.ok d h) → s.at H' v → 0 ≤ s.held h → s.held h ≤ 3 → Dr H' p b q k (s.held h) → K2 p b H H' → Q v H'
theorem scSimple : FnScope ["_law_pool_here", "_law_box", "_law_names_here", "_law_pick"] ["_law_pool_here", "_law_box", "_law_names_here"] (defScope sSimple) := ⟨rfl, rfl, rfl, by decide +kernel, rfl, by decide +kernel, by decide +kernel⟩
theorem ok_simple {f fD : Addr} {fd fdD : FuncData} (F : Fun K "_law_simple" "_law_simple" sSimple f fd) (B : Bl mg) (GD : FnOk P w K mg base CX0 1 fD fdD ["_law_pool_here", "_law_amount"] spDraw) (bD : Binds K fdD ["_law_pool_here", "_law_amount"] []) (kD : PySem.W.keepIn K (.ref fD) = true) (mD : mg "_law_draw" = some (.ref fD)) :
    FnOk P w K mg base CX0 2 f fd ["_law_pool_here", "_law_box", "_law_names_here"] spSimple := by
  refine F.ok scSimple (fun vs H Q E h => ?_) (fun cdv A outer s H vs Q E hr h => ?_)
  · obtain ⟨p, b, q, k, h, rfl, _⟩ := h
    rfl
  obtain ⟨p, b, q, k, h, rfl, D, h0, h3, z⟩ := h
  refine ⟨_, pss_cons (ps_set (i := 3) scSimple.nd rfl (Or.inl rfl) (pe_call GD hr rfl mD kD bD .nil pass0 (pa_cons (pv 0) (pa_cons pe_int pa_nil))))
    (pss_cons (ps_if (PW.pt (pw_and (pt_cmpR op_lt (pv 3) pe_int (nomark _)) (pw_and1 (pt_cmpR op_lt (pe_ix ix_list (pv 1) pe_int (fun _ _ => rfl)) (pe_ix ix_list (pv 1) pe_int (fun _ _ => rfl)) (nomark _)))))
      (pss_cons (ps_asg (pe_op op_add (pe_ix ix_list (pv 1) pe_int (fun _ _ => rfl)) pe_int) (pg_sub (pv 1) pe_int set_list)) (pss_one (ps_ret (pe_tup (pa_cons pe_str pa_nil))))) pss_nil)
    (pss_cons (ps_if (pt_cmpR op_eq (pv 3) pe_int (nomark _)) (pss_one (ps_ret (pe_tup (pa_cons pe_str (pa_cons (pe_ix ix_list (pv 2) (pe_call GD hr rfl mD kD bD .nil pass0 (pa_cons (pv 0) (pa_cons pe_int pa_nil))) (fun _ _ => rfl)) pa_nil))))) pss_nil)
    (pss_cons (ps_if (pt_cmpR op_eq (pv 3) pe_int (nomark _)) (pss_one (ps_ret (pe_tup (pa_cons pe_str (pa_cons (pe_ix ix_list (pv 2) (pe_call GD hr rfl mD kD bD .nil pass0 (pa_cons (pv 0) (pa_cons pe_int pa_nil))) (fun _ _ => rfl)) pa_nil))))) pss_nil)
    (pss_cons (ps_if (pt_cmpR op_eq (pv 3) pe_int (nomark _)) (pss_one (ps_ret (pe_tup (pa_cons pe_str pa_nil)))) pss_nil)
    (pss_cons (ps_asg pe_int (pg_sub (pv 1) pe_int set_list))
    (pss_cons (ps_if (pt_cmpR op_eq (pv 3) pe_int (nomark _)) (pss_one (ps_ret (pe_tup (pa_cons pe_str pa_nil)))) pss_nil)
    (pss_cons (ps_if (pt_cmpR op_eq (pv 3) pe_int (nomark _)) (pss_one (ps_ret (pe_tup (pa_cons pe_str pa_nil)))) pss_nil)
    (pss_one (ps_ret (pe_tup (pa_cons pe_str pa_nil))))))))))), ?_⟩
  refine ⟨_, rfl, p, 13, rfl, D.pool, by decide, by decide, fun r H1 r0 r1 k1 hp1 => ?_⟩
  have D1 := D.draw k1 hp1
  have one : ∀ (H2 : Hp) (w : Wd) (h' : Int), Dr H2 p b q k h' → K2 p b H H2 → w.held h = h' → 0 ≤ h' → h' ≤ 3 → (w = .take → h ≠ 3) → ∀ t, H2 t = none → Q (.ref t) (L2.upd H2 t (.tup [.str w.s])) := by
    intro H2 w h' D2 k2 e hh0 hh3 hw t ht
    have eh : (Stm.one w).held h = h' := by rw [Stm.held]; exact e
    refine z _ _ (.one w) (by rw [Stm.cnt]) (fun d => by rw [Stm.ok]; exact hw) (by rw [Stm.at]; exact ⟨t, rfl, upd_same⟩) (by rw [eh]; exact hh0) (by rw [eh]; exact hh3) (by rw [eh]; exact D2.new ht) (k2.new ht)
  have nam : ∀ (bb : Bool), (tRet (tTup (tCons (tC (.str (lockS bb))) (tCons (tOp (rIxL K) (tVar 2) (tCall spDraw [] E0 (tCons (tVar 0) (tCons (tC (.int 2)) tNil)))) tNil)))) { nx := fun _ H' => Q .non H', rt := Q } [some (.ref p), some (.ref b), some (.ref q), some (.int r)] H1 := by
    intro bb
    refine ⟨_, rfl, _, rfl, p, 2, rfl, hp1, by decide, by decide, fun r2 H2 r20 r21 k2 hp2 => ?_⟩
    have D2 := D1.draw k2 hp2
    obtain ⟨xs, n, hq, hat, hn⟩ := names_at D2.names r20 (by omega)
    refine ⟨q, xs, _, _, rfl, rfl, SqL.of hq, hat, (by show 2 ≤ sizeLine; decide), fun t ht => ?_⟩
    have eh : (Stm.nam bb n).held h = h := by rw [Stm.held]
    exact z _ _ (.nam bb n) (by rw [Stm.cnt]) (fun d => by rw [Stm.ok]; exact hn) (by rw [Stm.at]; exact ⟨t, rfl, upd_same⟩) (by rw [eh]; exact h0) (by rw [eh]; exact h3) (by rw [eh]; exact D2.new ht) (((Kp.k2 k1).trans (Kp.k2 k2)).new ht)
  have put := @Dr.put H1 p b q k h
  have u2 : ∀ h', K2 p b H (L2.upd H1 b (.lst [.int k, .int h', .int 3])) := fun h' => (Kp.k2 k1).trans K2.upd
  refine ⟨_, rfl, _, _, rfl, rfl, _, rfl, ?_⟩
  refine ite2 (fun c => ?_) (fun c => ?_)
  · refine ⟨_, rfl, b, _, _, _, rfl, rfl, SqL.of D1.box, rfl, _, rfl, b, _, _, _, rfl, rfl, SqL.of D1.box, rfl, _, _, rfl, rfl, _, rfl, ?_⟩
    refine ite2 (fun c' => ?_) (fun c' => ?_)
    · have c2 : h < 3 := of_decide_eq_true c'
      refine ⟨_, rfl, b, _, _, _, rfl, rfl, SqL.of D1.box, rfl, _, _, rfl, rfl, _, rfl, b, _, _, _, rfl, rfl, D1.box, rfl, ?_⟩
      exact ⟨by show 1 ≤ sizeLine; decide, fun t ht => one _ .take (h + 1) (put D1) (u2 _) rfl (by omega) (by omega) (fun _ => by omega) t ht⟩
    · refine ⟨_, rfl, rfl, _, rfl, ?_⟩
      refine ite2 (fun _ => nam true) (fun _ => ?_)
      refine ⟨_, rfl, rfl, _, rfl, ?_⟩
      refine ite2 (fun _ => nam false) (fun _ => ?_)
      refine ⟨_, rfl, rfl, _, rfl, ?_⟩
      refine ite2 (fun _ => ⟨by show 1 ≤ sizeLine; decide, fun t ht => one _ .drop h D1 (Kp.k2 k1) rfl h0 h3 (fun e => nomatch e) t ht⟩) (fun _ => ?_)
      refine ⟨_, rfl, b, _, _, _, rfl, rfl, D1.box, rfl, ?_⟩
      refine ⟨_, rfl, rfl, _, rfl, ?_⟩
      refine ite2 (fun _ => ⟨by show 1 ≤ sizeLine; decide, fun t ht => one _ .rollback 0 (put D1) (u2 _) rfl (by omega) (by omega) (fun e => nomatch e) t ht⟩) (fun _ => ?_)
      refine ⟨_, rfl, rfl, _, rfl, ?_⟩
      refine ite2 (fun _ => ⟨by show 1 ≤ sizeLine; decide, fun t ht => one _ .leave 0 (put D1) (u2 _) rfl (by omega) (by omega) (fun e => nomatch e) t ht⟩) (fun _ => ?_)
      exact ⟨by show 1 ≤ sizeLine; decide, fun t ht => one _ .commit 0 (put D1) (u2 _) rfl (by omega) (by omega) (fun e => nomatch e) t ht⟩
  · refine ⟨_, rfl, rfl, _, rfl, ?_⟩
    refine ite2 (fun _ => nam true) (fun _ => ?_)
    refine ⟨_, rfl, rfl, _, rfl, ?_⟩
    refine ite2 (fun _ => nam false) (fun _ => ?_)
    refine ⟨_, rfl, rfl, _, rfl, ?_⟩
    refine ite2 (fun _ => ⟨by show 1 ≤ sizeLine; decide, fun t ht => one _ .drop h D1 (Kp.k2 k1) rfl h0 h3 (fun e => nomatch e) t ht⟩) (fun _ => ?_)
    refine ⟨_, rfl, b, _, _, _, rfl, rfl, D1.box, rfl, ?_⟩
    refine ⟨_, rfl, rfl, _, rfl, ?_⟩
    refine ite2 (fun _ => ⟨by show 1 ≤ sizeLine; decide, fun t ht => one _ .rollback 0 (put D1) (u2 _) rfl (by omega) (by omega) (fun e => nomatch e) t ht⟩) (fun _ => ?_)
    refine ⟨_, rfl, rfl, _, rfl, ?_⟩
    refine ite2 (fun _ => ⟨by show 1 ≤ sizeLine; decide, fun t ht => one _ .leave 0 (put D1) (u2 _) rfl (by omega) (by omega) (fun e => nomatch e) t ht⟩) (fun _ => ?_)
    exact ⟨by show 1 ≤ sizeLine; decide, fun t ht => one _ .commit 0 (put D1) (u2 _) rfl (by omega) (by omega) (fun e => nomatch e) t ht⟩
abbrev psB : List Str := ["_law_pool_here", "_law_box", "_law_names_here", "_law_length", "_law_depth"]
def spBranch (m : Nat) : Sp := fun vs H Q _ => ∃ (p b q : Addr) (n k h : Int) (d : Nat), vs = [.ref p, .ref b, .ref q, .int n, .int (d : Nat)] ∧ d + m = 3 ∧ d ≤ 2 ∧ Dr H p b q k h ∧ 0 ≤ n ∧ n ≤ 9 ∧ 0 ≤ k ∧ k ≤ 8 ∧ 0 ≤ h ∧ h ≤ 3 ∧
  ∀ (t : Addr) (H' : Hp) (xs : List V) (S : List Stm), H' t = some (.tup xs) → atAll H' xs S → okAll d S h → (cntAll S : Int) ≤ k → 0 ≤ heldAll S h → heldAll S h ≤ 3 → (0 < n → 0 < k → S ≠ []) →
    Dr H' p b q (k - cntAll S) (heldAll S h) → K2 p b H H' → Q (.ref t) H'
theorem max_if (a b : Int) : (if b > a then b else a) = max a b := by
  by_cases h : b > a
  · rw [if_pos h]; omega
  · rw [if_neg h]; omega
/-- what holds behind i turns of the loop that makes a branch -/
def BrI (H : Hp) (p b q R : Addr) (n k h : Int) (d : Nat) (i : Nat) (σ : St) (H2 : Hp) : Prop :=
  ∃ (S : List Stm) (xs : List V) (v6 v7 v8 v9 v10 : Option V), σ = [some (.ref p), some (.ref b), some (.ref q), some (.int n), some (.int (d : Nat)), some (.ref R), v6, v7, v8, v9, v10] ∧
    H2 R = some (.lst xs) ∧ atAll H2 xs S ∧ okAll d S h ∧ (cntAll S : Int) ≤ k ∧ 0 ≤ heldAll S h ∧ heldAll S h ≤ 3 ∧ (0 < i → 0 < k → S ≠ []) ∧ Dr H2 p b q (k - cntAll S) (heldAll S h) ∧ R ≠ p ∧ R ≠ b ∧ K2 p b H H2
theorem heldAll_snoc (S : List Stm) (s : Stm) (h : Int) : heldAll (S ++ [s]) h = s.held (heldAll S h) := by
  rw [heldAll_app, heldAll, heldAll]
theorem cntAll_snoc (S : List Stm) (s : Stm) : cntAll (S ++ [s]) = cntAll S + s.cnt := by
  rw [cntAll_app, cntAll, cntAll]; rfl
theorem okAll_snoc {d : Nat} {S : List Stm} {s : Stm} {h : Int} (a : okAll d S h) (b : s.ok d (heldAll S h)) : okAll d (S ++ [s]) h := by
  refine okAll_app d S [s] h a ?_
  rw [okAll, okAll]
  exact ⟨b, trivial⟩
theorem BrI.more {H H4 : Hp} {p b q R : Addr} {n k h : Int} {d i : Nat} {S : List Stm} {xs : List V} {v : V} {s : Stm} {v6 v7 v8 v9 v10 : Option V} (hR : H R = none) (n1 : R ≠ p) (n2 : R ≠ b) (nq : R ≠ q) (hS : atAll H4 xs S) (okS : okAll d S h)
    (h4 : H4 R = some (.lst xs)) (hs : s.at H4 v) (ok : s.ok d (heldAll S h)) (hc : (cntAll S : Int) + s.cnt ≤ k) (h0 : 0 ≤ s.held (heldAll S h)) (h3 : s.held (heldAll S h) ≤ 3) (D : Dr H4 p b q (k - cntAll S - s.cnt) (s.held (heldAll S h))) (f : K2 p b H H4) :
    BrI H p b q R n k h d (i + 1) [some (.ref p), some (.ref b), some (.ref q), some (.int n), some (.int (d : Nat)), some (.ref R), v6, v7, v8, v9, v10] (L2.upd H4 R (.lst (xs ++ [v]))) := by
  have tk : TK H4 (L2.upd H4 R (.lst (xs ++ [v]))) := fun a ys e => by rw [upd_ne (ne_of e h4 (by intro z; cases z))]; exact e
  refine ⟨S ++ [s], xs ++ [v], v6, v7, v8, v9, v10, rfl, upd_same, atAll_app (atAll_keep tk S xs hS) (atAll_one (Stm.at_keep tk s v hs)), okAll_snoc okS ok, ?_, ?_, ?_, fun _ _ => by simp, ?_, n1, n2, ?_⟩
  · rw [cntAll_snoc]; omega
  · rw [heldAll_snoc]; exact h0
  · rw [heldAll_snoc]; exact h3
  · rw [heldAll_snoc]
    have e : k - ((cntAll (S ++ [s]) : Nat) : Int) = k - cntAll S - s.cnt := by rw [cntAll_snoc]; omega
    rw [e]
    obtain ⟨⟨x, y, z, hp⟩, hb, ⟨a1, a2, a3, hq, m⟩, e1, e2, e3⟩ := D
    exact ⟨⟨x, y, z, by rw [upd_ne n1.symm]; exact hp⟩, by unfold BoxAt; rw [upd_ne n2.symm]; exact hb, ⟨a1, a2, a3, by rw [upd_ne nq.symm]; exact hq, m⟩, e1, e2, e3⟩
  · intro a o e m m'
    rw [upd_ne (ne_of_none e hR)]
    exact f a o e m m'
theorem scBranch : FnScope ["_law_pool_here", "_law_box", "_law_names_here", "_law_length", "_law_depth", "_law_rows", "_law_k", "_law_before", "_law_yes", "_law_after", "_law_no"] psB (defScope sBranch) := ⟨rfl, rfl, rfl, by decide +kernel, rfl, by decide +kernel, by decide +kernel⟩
theorem ok_branch {m : Nat} {f fD fS : Addr} {fd fdD fdS : FuncData} (F : Fun K "_law_branch" "_law_branch" sBranch f fd) (B : Bl mg) (GD : FnOk P w K mg base CX0 1 fD fdD ["_law_pool_here", "_law_amount"] spDraw) (bD : Binds K fdD ["_law_pool_here", "_law_amount"] []) (kD : PySem.W.keepIn K (.ref fD) = true) (mD : mg "_law_draw" = some (.ref fD))
    (GS : FnOk P w K mg base CX0 2 fS fdS ["_law_pool_here", "_law_box", "_law_names_here"] spSimple) (bS : Binds K fdS ["_law_pool_here", "_law_box", "_law_names_here"] []) (kS : PySem.W.keepIn K (.ref fS) = true) (mS : mg "_law_simple" = some (.ref fS))
    (GB : FnOk P w K mg base CX0 (2 + m) f fd psB (spBranch m)) (bB : Binds K fd psB []) (mB : mg "_law_branch" = some (.ref f)) :
    FnOk P w K mg base CX0 (2 + m + 1) f fd psB (spBranch (m + 1)) := by
  have kB := F.kp
  refine F.ok scBranch (fun vs H Q E h => ?_) (fun cdv A outer s H vs Q E hr h => ?_)
  · obtain ⟨p, b, q, n, k, h, d, rfl, _⟩ := h
    rfl
  obtain ⟨p, b, q, n, k, h, d, rfl, hd3, hd2, D, n0, n9, k0, k8, h0, h3, z⟩ := h
  have hr1 : Room 1 _ := hr.mono (by omega)
  have hr2 : Room 2 _ := hr.mono (by omega)
  refine ⟨_, pss_cons (ps_set (i := 5) scBranch.nd rfl (Or.inl rfl) (pe_lst pa_nil))
    (pss_cons (ps_for PassesOwn.never rfl (pi_range1 rfl B.range (pa_cons (pv 3) pa_nil)) (pg_name (i := 6) scBranch.nd rfl (Or.inl rfl))
      (pss_one (ps_if (pt_cmpR op_gt (pe_ix ix_list (pv 1) pe_int (fun _ _ => rfl)) pe_int (nomark _))
        (pss_cons (ps_asg (pe_op op_sub (pe_ix ix_list (pv 1) pe_int (fun _ _ => rfl)) pe_int) (pg_sub (pv 1) pe_int set_list))
        (pss_one (ps_if (PW.pt (pw_and (pt_cmpR op_lt (pv 4) pe_int (nomark _)) (pw_and1 (pt_cmpR op_eq (pe_call GD hr1 rfl mD kD bD .nil pass0 (pa_cons (pv 0) (pa_cons pe_int pa_nil))) pe_int (nomark _)))))
          (pss_cons (ps_set (i := 7) scBranch.nd rfl (Or.inl rfl) (pe_ix ix_list (pv 1) pe_int (fun _ _ => rfl)))
          (pss_cons (ps_set (i := 8) scBranch.nd rfl (Or.inl rfl) (pe_call GB hr rfl mB kB bB .nil pass0 (pa_cons (pv 0) (pa_cons (pv 1) (pa_cons (pv 2) (pa_cons (pe_call GD hr1 rfl mD kD bD .nil pass0 (pa_cons (pv 0) (pa_cons pe_int pa_nil))) (pa_cons (pe_op op_add (pv 4) pe_int) pa_nil)))))))
          (pss_cons (ps_set (i := 9) scBranch.nd rfl (Or.inl rfl) (pe_ix ix_list (pv 1) pe_int (fun _ _ => rfl)))
          (pss_cons (ps_asg (pv 7) (pg_sub (pv 1) pe_int set_list))
          (pss_cons (ps_set (i := 10) scBranch.nd rfl (Or.inl rfl) (pe_call GB hr rfl mB kB bB .nil pass0 (pa_cons (pv 0) (pa_cons (pv 1) (pa_cons (pv 2) (pa_cons (pe_call GD hr1 rfl mD kD bD .nil pass0 (pa_cons (pv 0) (pa_cons pe_int pa_nil))) (pa_cons (pe_op op_add (pv 4) pe_int) pa_nil)))))))
          (pss_cons (ps_asg (pe_callB (call_max2 rfl) (by rfl) B.max (by decide +kernel) (pa_cons (pv 9) (pa_cons (pe_ix ix_list (pv 1) pe_int (fun _ _ => rfl)) pa_nil))) (pg_sub (pv 1) pe_int set_list))
          (pss_one (ps_expr (pe_bm PySem.F.plainAttrs_list PySem.F.slot_list_append PySem.F.type_list_append mt_append (pv 5) (pa_cons (pe_tup (pa_cons pe_str (pa_cons (pv 8) (pa_cons (pv 10) pa_nil)))) pa_nil))))))))))
          (pss_one (ps_expr (pe_bm PySem.F.plainAttrs_list PySem.F.slot_list_append PySem.F.type_list_append mt_append (pv 5) (pa_cons (pe_call GS hr2 rfl mS kS bS .nil pass0 (pa_cons (pv 0) (pa_cons (pv 1) (pa_cons (pv 2) pa_nil)))) pa_nil)))))))
        pss_nil)))
    (pss_one (ps_ret (pe_callTy call_tuple_of (by rfl) B.tuple (by decide +kernel) (pa_cons (pv 5) pa_nil))))), ?_⟩
  refine ⟨(by show 0 ≤ sizeLine; decide), fun R hR => ?_⟩
  refine ⟨_, rfl, n, rfl, by omega, by omega, ?_⟩
  have nRq : R ≠ q := by
    obtain ⟨_, _, _, hq, _⟩ := D.names
    exact (ne_of_none hq hR).symm
  refine for_range (lo := 0) (n := n.toNat) (BrI H p b q R n k h d) ?_ ?_ ?_
  · have D1 := D.new (o := .lst []) hR
    have e1 : heldAll [] h = h := by rw [heldAll]
    have e2 : k - ((cntAll [] : Nat) : Int) = k := by rw [cntAll]; simp
    refine ⟨[], [], none, none, none, none, none, rfl, upd_same, by rw [atAll], by rw [okAll]; trivial, by rw [cntAll]; simpa using k0, by rw [e1]; exact h0, by rw [e1]; exact h3, fun x => absurd x (Nat.lt_irrefl 0), by rw [e1, e2]; exact D1, ?_, ?_, (K2.refl _ _ _).new hR⟩
    · obtain ⟨_, _, _, hp⟩ := D.pool
      exact (ne_of_none hp hR).symm
    · exact (ne_of_none D.box hR).symm
  · rintro i σ H2 hi ⟨S, xs, v6, v7, v8, v9, v10, rfl, hx, hS, okS, cS, h0', h3', ne, D2, nRp, nRb, fr⟩
    have lenS := atAll_len hS
    have lenC := len_le_cnt S
    have small : xs.length < sizeLine := small1000 (by omega)
    refine ⟨_, rfl, b, _, _, _, rfl, rfl, SqL.of D2.box, rfl, _, _, rfl, rfl, _, rfl, ?_⟩
    refine ite2 (fun c => ?_) (fun c => ?_)
    · have c1 : 0 < k - (cntAll S : Int) := of_decide_eq_true c
      refine ⟨_, rfl, b, _, _, _, rfl, rfl, SqL.of D2.box, rfl, _, _, rfl, rfl, _, rfl, b, _, _, _, rfl, rfl, D2.box, rfl, ?_⟩
      have D3 : Dr (L2.upd H2 b (.lst [.int (k - cntAll S - 1), .int (heldAll S h), .int 3])) p b q (k - cntAll S - 1) (heldAll S h) := D2.put
      have f3 : K2 p b H2 (L2.upd H2 b (.lst [.int (k - cntAll S - 1), .int (heldAll S h), .int 3])) := K2.upd
      -- the way of a plain statement
      have plain : ∀ H4 w7 w8 w9 w10, Dr H4 p b q (k - cntAll S - 1) (heldAll S h) → K2 p b H2 H4 →
          (tDrop (tBM K "list" rAppend (tVar 5) (tCons (tCall spSimple [] E0 (tCons (tVar 0) (tCons (tVar 1) (tCons (tVar 2) tNil)))) tNil))) { nx := BrI H p b q R n k h d (i + 1), rt := Q } [some (.ref p), some (.ref b), some (.ref q), some (.int n), some (.int (d : Nat)), some (.ref R), some (.int (0 + i)), w7, w8, w9, w10] H4 := by
        intro H4 w7 w8 w9 w10 D4 f4
        have h4R : H4 R = some (.lst xs) := f4 R _ hx nRp nRb
        refine ⟨_, rfl, .inl ⟨rfl, _, .inl (.inl h4R)⟩, _, rfl, _, rfl, _, rfl, p, b, q, _, _, rfl, D4, h0', h3', fun v H5 s e1 e2 e3 e4 e5 D5 f5 => ?_⟩
        have tk : TK H2 H5 := (D2.tk f4).trans (D4.tk f5)
        refine ⟨R, xs, v, rfl, rfl, f5 R _ h4R nRp nRb, small, ?_⟩
        exact BrI.more hR nRp nRb nRq (atAll_keep tk S xs hS) okS (f5 R _ h4R nRp nRb) e3 (e2 d) (by rw [e1]; omega) e4 e5 (by rw [e1]; exact D5) ((fr.trans f4).trans f5)
      refine ⟨_, rfl, _, _, rfl, rfl, _, rfl, ?_⟩
      refine ite2 (fun c2 => ?_) (fun c2 => plain _ _ _ _ _ D3 f3)
      have c2' : (d : Int) < 2 := of_decide_eq_true c2
      refine ⟨_, rfl, p, 5, rfl, D3.pool, by decide, by decide, fun r H4 r0 r1 k4 hp4 => ?_⟩
      have D4 := D3.draw k4 hp4
      have f4 : K2 p b H2 H4 := f3.trans (Kp.k2 k4)
      refine ⟨rfl, _, rfl, ?_⟩
      refine ite2 (fun c3 => ?_) (fun c3 => plain _ _ _ _ _ D4 f4)
      -- a choose
      refine ⟨_, rfl, b, _, _, _, rfl, rfl, SqL.of D4.box, rfl, ?_⟩
      refine ⟨_, rfl, _, rfl, _, rfl, _, rfl, p, 3, rfl, D4.pool, by decide, by decide, fun r2 H5 r20 r21 k5 hp5 => ?_⟩
      have D5 := D4.draw k5 hp5
      refine ⟨_, rfl, _, _, rfl, rfl, p, b, q, r2, _, _, d + 1, rfl, by omega, by omega, D5, r20, by omega, by omega, by omega, h0', h3', fun t1 H6 ys Y ht1 at1 ok1 cn1 h01 h31 _ D6 f6 => ?_⟩
      have f6' : K2 p b H2 H6 := (f4.trans (Kp.k2 k5)).trans f6
      refine ⟨_, rfl, b, _, _, _, rfl, rfl, SqL.of D6.box, rfl, ?_⟩
      refine ⟨_, rfl, _, rfl, b, _, _, _, rfl, rfl, D6.box, rfl, ?_⟩
      have D7 : Dr (L2.upd H6 b (.lst [.int (k - cntAll S - 1 - cntAll Y), .int (heldAll S h), .int 3])) p b q (k - cntAll S - 1 - cntAll Y) (heldAll S h) := D6.put
      have f7 : K2 p b H6 (L2.upd H6 b (.lst [.int (k - cntAll S - 1 - cntAll Y), .int (heldAll S h), .int 3])) := K2.upd
      refine ⟨_, rfl, _, rfl, _, rfl, _, rfl, p, 3, rfl, D7.pool, by decide, by decide, fun r3 H8 r30 r31 k8' hp8 => ?_⟩
      have D8 := D7.draw k8' hp8
      refine ⟨_, rfl, _, _, rfl, rfl, p, b, q, r3, _, _, d + 1, rfl, by omega, by omega, D8, r30, by omega, by omega, by omega, h0', h3', fun t2 H9 zs Z ht2 at2 ok2 cn2 h02 h32 _ D9 f9 => ?_⟩
      have f79 : K2 p b H6 H9 := (f7.trans (Kp.k2 k8')).trans f9
      refine ⟨_, rfl, _, rfl, b, _, _, _, rfl, rfl, SqL.of D9.box, rfl, _, _, rfl, ?_⟩
      refine ⟨_, rfl, b, _, _, _, rfl, rfl, D9.box, rfl, ?_⟩
      rw [max_if]
      have D10 : Dr (L2.upd H9 b (.lst [.int (k - cntAll S - 1 - cntAll Y - cntAll Z), .int (max (heldAll Y (heldAll S h)) (heldAll Z (heldAll S h))), .int 3])) p b q (k - cntAll S - 1 - cntAll Y - cntAll Z) (max (heldAll Y (heldAll S h)) (heldAll Z (heldAll S h))) := D9.put
      have f10 : K2 p b H9 (L2.upd H9 b (.lst [.int (k - cntAll S - 1 - cntAll Y - cntAll Z), .int (max (heldAll Y (heldAll S h)) (heldAll Z (heldAll S h))), .int 3])) := K2.upd
      have f610 := f79.trans f10
      have fA := f6'.trans f610
      have hRA := fA R _ hx nRp nRb
      refine ⟨_, rfl, .inl ⟨rfl, _, .inl (.inl hRA)⟩, _, rfl, _, rfl, (by show 3 ≤ sizeLine; decide), fun t ht => ?_⟩
      have tk1 : TK H6 (L2.upd _ t (.tup [.str "choose", .ref t1, .ref t2])) := (D6.tk f610).trans (TK.of_same (same_new ht _))
      have tk2 : TK H9 (L2.upd _ t (.tup [.str "choose", .ref t1, .ref t2])) := (D9.tk f10).trans (TK.of_same (same_new ht _))
      refine ⟨R, xs, .ref t, rfl, rfl, (same_new ht _) R _ hRA, small, ?_⟩
      have es : (Stm.ch Y Z).cnt = 1 + cntAll Y + cntAll Z := by rw [Stm.cnt]
      have eh : (Stm.ch Y Z).held (heldAll S h) = max (heldAll Y (heldAll S h)) (heldAll Z (heldAll S h)) := by rw [Stm.held]
      have tk : TK H2 (L2.upd _ t (.tup [.str "choose", .ref t1, .ref t2])) := (D2.tk f6').trans tk1
      refine BrI.more (s := .ch Y Z) hR nRp nRb nRq (atAll_keep tk S xs hS) okS ((same_new ht _) R _ hRA) ?_ ?_ (by rw [es]; omega) (by rw [eh]; omega) (by rw [eh]; omega) ?_ ((fr.trans fA).new ht)
      · rw [Stm.at]
        exact ⟨t, t1, t2, ys, zs, rfl, upd_same, tk1 _ _ ht1, atAll_keep tk1 Y ys at1, tk2 _ _ ht2, atAll_keep tk2 Z zs at2⟩
      · rw [Stm.ok]
        exact ⟨by omega, ok1, ok2⟩
      · rw [es, eh]
        have e : k - (cntAll S : Int) - ((1 + cntAll Y + cntAll Z : Nat) : Int) = k - cntAll S - 1 - cntAll Y - cntAll Z := by omega
        rw [e]
        exact D10.new ht
    · -- nothing is left: no more
      have c1 : ¬ 0 < k - (cntAll S : Int) := fun x => c (decide_eq_true x)
      exact ⟨S, xs, _, v7, v8, v9, v10, rfl, hx, hS, okS, cS, h0', h3', fun _ k1 e => c1 (by rw [e, cntAll]; simpa using k1), D2, nRp, nRb, fr⟩
  · rintro σ H2 ⟨S, xs, v6, v7, v8, v9, v10, rfl, hx, hS, okS, cS, h0', h3', ne, D2, nRp, nRb, fr⟩
    refine ⟨_, rfl, R, xs, rfl, .inl ⟨SqL.of hx, fun t ht => ?_⟩⟩
    exact z t _ xs S upd_same (atAll_keep (TK.of_same (same_new ht _)) S xs hS) okS cS h0' h3' (fun a => ne (by omega)) (D2.new ht) (fr.new ht)
end
end Tk
set_option maxRecDepth 100000
namespace Tk
open PySem L2
abbrev sIsInt : Stmt := top 7
abbrev sIsName : Stmt := top 8
abbrev sSInit : Stmt := inClass (top 14) 0
abbrev sSLen : Stmt := inClass (top 14) 1
abbrev sSHas : Stmt := inClass (top 14) 2
abbrev sSGet : Stmt := inClass (top 14) 3
abbrev sAfter : Stmt := inClass (top 14) 6
abbrev sBehind : Stmt := inClass (top 14) 7
abbrev sKInit : Stmt := inClass (top 17) 0
abbrev sKBr : Stmt := inClass (top 17) 1
abbrev sKSt : Stmt := inClass (top 17) 2
abbrev sFault : Stmt := top 18
abbrev sForm : Stmt := top 20
abbrev sHeld : Stmt := top 19
def items8 : List (Str × Int) := [("take", 1), ("commit", 1), ("rollback", 1), ("drop", 1), ("leave", 1), ("lock", 2), ("unlock", 2), ("choose", 3)]
/-- what the top has made -/
structure Txt (K : PySem.W.Frag) (w : World) (mg : Str → Option Value) (CS CK it : Addr) : Prop where
  isi : mg "isinstance" = none
  all : mg "all" = none
  list : mg "list" = none
  enum : mg "enumerate" = none
  str : mg "str" = none
  bool : mg "bool" = none
  long : ∃ t, mg "LONGEST_NAME" = some (.int 8 t)
  mSt : ∃ t, mg "MOST_STATEMENTS" = some (.int 8 t)
  mHe : ∃ t, mg "MOST_HELD" = some (.int 3 t)
  mNe : ∃ t, mg "MOST_NESTED" = some (.int 2 t)
  mIt : mg "ITEMS" = some (.ref it)
  lkI : ∃ es n, K.lookup it = some ⟨.type "dict", none, .dict es n, #[]⟩
  kg : ∀ z n, (z, n) ∈ items8 → KG K w it z (.int n)
  clS : Cls K CS
  clK : Cls K CK
  mgS : mg "Script" = some (.ref CS)
  mgK : mg "Check" = some (.ref CK)
  nS : NoAttr K CS "statements"
  nF : NoAttr K CS "found"
  nP : NoAttr K CS "places"
  kF : NoAttr K CK "found"
theorem lt1 (a b : Nat) : ([a] < [b]) ↔ a < b := by
  rw [List.cons_lt_cons_iff]
  simp
theorem iteFb {c : Bool} {A B : Prop} (e : c = false) (h : B) : if c = true then A else B := by rw [e]; exact iteF h
theorem iteTb {c : Bool} {A B : Prop} (e : c = true) (h : A) : if c = true then A else B := by rw [e]; exact iteT h
def nameB (z : Str) : Bool := decide (1 ≤ z.length) && decide (z.length ≤ 8) && z.cps.toList.all fun c => decide (97 ≤ c) && decide (c ≤ 122)
theorem nameB_of {z : Str} (h : IsName z) : nameB z = true := by
  unfold nameB
  rw [decide_eq_true h.1, decide_eq_true h.2.1]
  simp only [Bool.true_and, List.all_eq_true]
  intro c hc
  have q := h.2.2 c hc
  rw [decide_eq_true q.1, decide_eq_true q.2]; rfl
def spIsInt (K : PySem.W.Frag) : Sp := fun vs H Q _ => ∃ (x : V) (T : String) (b1 b2 : Bool), vs = [x] ∧ TyX K H x (.type T) ∧ kitB T "int" = some b1 ∧ kitB T "bool" = some b2 ∧ Q (.bl (b1 && !b2)) H
def spIsName : Sp := fun vs H Q _ => ∃ z : Str, vs = [.str z] ∧ z.length ≤ 100 ∧ ∀ H', Same H H' → Q (.bl (nameB z)) H'
/-- a good statement -/
def spForm : Sp := fun vs H Q _ => ∃ (v : V) (s : Stm), vs = [v] ∧ s.at H v ∧ Q (.bl true) H
def spFault : Sp := fun vs H Q _ => ∃ (v : V) (u : Addr) (e h : Int) (s : Stm) (d : Nat) (p : List V), vs = [v, .ref u, .int e, .int h] ∧ s.at H v ∧ H u = some (.tup p) ∧ p.length = 2 * d + 1 ∧ e ≠ 8 ∧ s.ok d h ∧ ∀ H', Same H H' → Q .non H'
section
variable {P : Program} {w : World} {K : PySem.W.Frag} {mg : Str → Option Value} {base : Heap} {CS CK it : Addr}
theorem scII : FnScope ["value"] ["value"] (defScope sIsInt) := ⟨rfl, rfl, rfl, by decide +kernel, rfl, by decide +kernel, by decide +kernel⟩
theorem ok_isint {f : Addr} {fd : FuncData} (F : Fun K "is_integer" "is_integer" sIsInt f fd) (B : Bl mg) (T : Txt K w mg CS CK it) : FnOk P w K mg base CX0 1 f fd ["value"] (spIsInt K) := by
  refine F.ok scII (fun vs H Q E h => ?_) (fun cdv A outer s H vs Q E hr h => ?_)
  · obtain ⟨x, t, b1, b2, rfl, _⟩ := h
    rfl
  obtain ⟨x, t, b1, b2, rfl, ty, k1, k2, q⟩ := h
  refine ⟨_, pss_one (ps_ret (pe_and (pe_callB call_isi (by rfl) T.isi (by decide +kernel) (pa_cons (pv 0) (pa_cons (pe_bltn (v := .ty "int") (by rfl) B.int (by decide +kernel) rfl) pa_nil)))
    (pe_one (pe_not (pe_callB call_isi (by rfl) T.isi (by decide +kernel) (pa_cons (pv 0) (pa_cons (pe_bltn (v := .ty "bool") (by rfl) T.bool (by decide +kernel) rfl) pa_nil))))))), ?_⟩
  refine ⟨_, rfl, x, _, _, _, b1, rfl, .ty "int", ty, kit_ty k1, b1, rfl, ?_⟩
  cases b1 with
  | false => exact iteF q
  | true => exact iteT ⟨_, rfl, x, _, _, _, b2, rfl, .ty "bool", ty, kit_ty k2, b2, rfl, q⟩
theorem scIN : FnScope ["value", "letter"] ["value"] (defScope sIsName) := ⟨rfl, rfl, rfl, by decide +kernel, rfl, by decide +kernel, by decide +kernel⟩
theorem ok_isname {f : Addr} {fd : FuncData} (F : Fun K "is_name" "is_name" sIsName f fd) (B : Bl mg) (T : Txt K w mg CS CK it) : FnOk P w K mg base CX0 1 f fd ["value"] spIsName := by
  refine F.ok scIN (fun vs H Q E h => ?_) (fun cdv A outer s H vs Q E hr h => ?_)
  · obtain ⟨z, rfl, _⟩ := h
    rfl
  obtain ⟨z, rfl, h100, q⟩ := h
  have hsz : z.length ≤ sizeLine := Nat.le_of_lt (small1000 (by omega))
  obtain ⟨tl, gl⟩ := T.long
  refine ⟨_, pss_cons (ps_if (PW.pt (pw_or (pt_not (pt_val (pe_callB call_isi (by rfl) T.isi (by decide +kernel) (pa_cons (pv 0) (pa_cons (pe_bltn (v := .ty "str") (by rfl) T.str (by decide +kernel) rfl) pa_nil)))))
      (pw_or1 (pt_not (pt_chain op_le op_le pe_int (pe_callB call_len_str (by rfl) B.len PySem.boot_len (pa_cons (pv 0) pa_nil)) (pe_glob (v := .int 8) (by rfl) gl ⟨_, rfl⟩)))))) (pss_one (ps_ret pe_bl)) pss_nil)
    (pss_one (ps_ret (pe_callB (cr_all rfl) (by rfl) T.all (by decide +kernel) (pa_cons
      (pe_lc (own := [("letter", 1)]) (g := gName 1) (tt := tYes) rfl scIN.nd (pi_str (pv 0)) (blkOk_by (own := [("letter", 1)]) (N := ["value", "letter"]) (sc := defScope sIsName) (by decide +kernel))
        (fun _ _ _ _ _ => pg_name (i := 1) scIN.nd rfl (Or.inl rfl)) (fun _ _ _ _ _ => pts_nil)
        (fun _ _ _ _ _ => pe_chain op_le_str op_le_str pe_str (pv 1) pe_str)) pa_nil)))), ?_⟩
  refine ⟨_, rfl, _, _, _, _, true, rfl, .ty "str", .base (.str _), kit_ty (by decide +kernel), true, rfl, iteF ?_⟩
  refine ⟨_, rfl, _, rfl, hsz, _, _, rfl, rfl, _, rfl, ?_⟩
  have ret : ∀ b : Bool, nameB z = b → Q (.bl b) H := fun b e => e ▸ q H (Same.refl H)
  by_cases c1 : 1 ≤ z.length
  · have c1' : decide ((1 : Int) ≤ (z.length : Int)) = true := decide_eq_true (by omega)
    refine iteTb c1' ⟨_, _, rfl, rfl, _, rfl, ?_⟩
    by_cases c2 : z.length ≤ 8
    · have c2' : decide ((z.length : Int) ≤ 8) = true := decide_eq_true (by omega)
      rw [c2']
      refine iteF ?_
      refine ⟨_, rfl, z, rfl, fun D hD => ?_⟩
      refine lc_it walk_str (fun i H7 => H7 D = some (.lst (((z.cps.toList.take i).map fun c => decide (97 ≤ c) && decide (c ≤ 122)).map V.bl)) ∧ Same H H7 ∧ i ≤ z.cps.size) ?_ (fun _ _ _ _ => trivial) ?_ ?_
      · exact ⟨upd_same, same_new hD _, Nat.zero_le _⟩
      · rintro i x H7 H8 hi ⟨h1, h2, h3⟩ ⟨rfl, c, hc, rfl⟩
        refine ⟨rfl, ?_⟩
        unfold tYes
        dsimp only
        rw [if_pos rfl]
        have nx : ∀ b : Bool, (decide (97 ≤ c) && decide (c ≤ 122)) = b → ∃ acc, H8 D = some (.lst acc) ∧ acc.length < sizeLine ∧ (upd H8 D (.lst (acc ++ [.bl b]))) D = some (.lst (((z.cps.toList.take (i + 1)).map fun c => decide (97 ≤ c) && decide (c ≤ 122)).map V.bl)) ∧ Same H (upd H8 D (.lst (acc ++ [.bl b]))) ∧ i + 1 ≤ z.cps.size := by
          intro b e
          have hz : z.cps.size ≤ 8 := c2
          refine ⟨_, h1, small1000 (by simp; omega), ?_, ?_, hi⟩
          · rw [upd_same]
            have ez : z.cps.toList[i]? = some c := by simpa using hc
            rw [List.take_add_one, ez]
            simp [e]
          · intro b' o e'
            rw [upd_ne (ne_of_none e' hD)]
            exact h2 b' o e'
        refine ⟨_, rfl, _, _, rfl, rfl, _, rfl, ?_⟩
        have e1 : (!decide ((⟨#[c]⟩ : Str).cps.toList < ("a" : Str).cps.toList)) = decide (97 ≤ c) := by
          have e0 : ("a" : Str).cps.toList = [97] := by decide +kernel
          rw [e0]
          show (!decide ([c] < [97])) = _
          by_cases k : 97 ≤ c
          · rw [decide_eq_true k, decide_eq_false (fun x => absurd ((lt1 c 97).mp x) (by omega))]; rfl
          · rw [decide_eq_false k, decide_eq_true ((lt1 c 97).mpr (by omega))]; rfl
        have e2 : (!decide (("z" : Str).cps.toList < (⟨#[c]⟩ : Str).cps.toList)) = decide (c ≤ 122) := by
          have e0 : ("z" : Str).cps.toList = [122] := by decide +kernel
          rw [e0]
          show (!decide ([122] < [c])) = _
          by_cases k : c ≤ 122
          · rw [decide_eq_true k, decide_eq_false (fun x => absurd ((lt1 122 c).mp x) (by omega))]; rfl
          · rw [decide_eq_false k, decide_eq_true ((lt1 122 c).mpr (by omega))]; rfl
        rw [e1]
        by_cases k : 97 ≤ c
        · refine iteTb (decide_eq_true k) ⟨_, _, rfl, rfl, ?_⟩
          rw [e2]
          exact nx _ (by rw [decide_eq_true k, Bool.true_and])
        · refine iteFb (decide_eq_false k) ?_
          exact nx _ (by rw [decide_eq_false k, Bool.false_and])
      · rintro H7 ⟨h1, h2, _⟩
        refine ⟨D, _, rfl, SqL.of h1, ?_⟩
        have e : nameB z = ((z.cps.toList.take z.cps.size).map fun c => decide (97 ≤ c) && decide (c ≤ 122)).all id := by
          unfold nameB
          rw [decide_eq_true c1, decide_eq_true c2, List.take_of_length_le (by simp), List.all_map]
          rfl
        rw [← e]
        exact q H7 h2
    · have c2' : decide ((z.length : Int) ≤ 8) = false := decide_eq_false (by omega)
      rw [c2']
      refine iteT ?_
      exact ret false (by unfold nameB; rw [decide_eq_false c2]; simp)
  · have c1' : decide ((1 : Int) ≤ (z.length : Int)) = false := decide_eq_false (by omega)
    refine iteFb c1' ⟨_, rfl, iteT ?_⟩
    exact ret false (by unfold nameB; rw [decide_eq_false c1]; simp)
/-! ### has_form, fault_of -/
theorem wd_ne (w : Wd) : decide (V.str w.s = V.str "choose") = false := by cases w <;> decide +kernel
theorem lk_ne (b : Bool) : decide (V.str (lockS b) = V.str "choose") = false := by cases b <;> decide +kernel
theorem wd_it (w : Wd) : (w.s, (1 : Int)) ∈ items8 := by cases w <;> simp [items8, Wd.s]
theorem lk_it (b : Bool) : (lockS b, (2 : Int)) ∈ items8 := by cases b <;> simp [items8, lockS]
theorem ch_it : (("choose" : Str), (3 : Int)) ∈ items8 := by simp [items8]
theorem scHF : FnScope ["statement", "word"] ["statement"] (defScope sForm) := ⟨rfl, rfl, rfl, by decide +kernel, rfl, by decide +kernel, by decide +kernel⟩
theorem ok_form {f : Addr} {fd : FuncData} (F : Fun K "has_form" "has_form" sForm f fd) (B : Bl mg) (T : Txt K w mg CS CK it) : FnOk P w K mg base CX0 1 f fd ["statement"] spForm := by
  refine F.ok scHF (fun vs H Q E h => ?_) (fun cdv A outer s H vs Q E hr h => ?_)
  · obtain ⟨v, s, rfl, _⟩ := h
    rfl
  obtain ⟨v, s, rfl, hs, q⟩ := h
  obtain ⟨es, n, lkI⟩ := T.lkI
  refine ⟨_, pss_cons (ps_if (PW.pt (pw_or (pt_not (pt_val (pe_callB call_isi (by rfl) T.isi (by decide +kernel) (pa_cons (pv 0) (pa_cons (pe_bltn (v := .ty "tuple") (by rfl) B.tuple (by decide +kernel) rfl) pa_nil)))))
      (pw_or1 (pt_not (pt_truth (pv 0) (by intro _; rfl)))))) (pss_one (ps_ret pe_bl)) pss_nil)
    (pss_cons (ps_set (i := 1) scHF.nd rfl (Or.inl rfl) (pe_ix ix_tup (pv 0) pe_int (fun _ _ => rfl)))
    (pss_cons (ps_if (PW.pt (pw_or (pt_not (pt_val (pe_callB call_isi (by rfl) T.isi (by decide +kernel) (pa_cons (pv 1) (pa_cons (pe_bltn (v := .ty "str") (by rfl) T.str (by decide +kernel) rfl) pa_nil)))))
      (pw_or1 (pt_cmpR op_ne (pe_callB call_len_seq (by rfl) B.len PySem.boot_len (pa_cons (pv 0) pa_nil)) (pe_kget (pe_glob (v := .ref it) (by rfl) T.mIt rfl) (pv 1) (fun σ H Q h => ⟨⟨it, _, es, n, rfl, lkI, rfl⟩, h⟩) ⟨rfl, rfl, rfl, rfl⟩) (nomark _))))) (pss_one (ps_ret pe_bl)) pss_nil)
    (pss_cons (ps_if (pt_cmpR op_eq (pv 1) pe_str (nomark _)) (pss_one (ps_ret (pe_and (pe_callB call_isi (by rfl) T.isi (by decide +kernel) (pa_cons (pe_ix ix_tup (pv 0) pe_int (fun _ _ => rfl)) (pa_cons (pe_bltn (v := .ty "tuple") (by rfl) B.tuple (by decide +kernel) rfl) pa_nil)))
        (pe_one (pe_callB call_isi (by rfl) T.isi (by decide +kernel) (pa_cons (pe_ix ix_tup (pv 0) pe_int (fun _ _ => rfl)) (pa_cons (pe_bltn (v := .ty "tuple") (by rfl) B.tuple (by decide +kernel) rfl) pa_nil))))))) pss_nil)
    (pss_one (ps_ret pe_bl))))), ?_⟩
  cases s with
  | one w =>
    rw [Stm.at] at hs
    obtain ⟨a, rfl, ha⟩ := hs
    refine ⟨_, rfl, _, _, _, _, true, rfl, .ty "tuple", .base (.tup ha), kit_ty (by decide +kernel), true, rfl, iteF ?_⟩
    refine ⟨_, rfl, true, .inr (.inl ⟨_, SqT.of ha, rfl⟩), iteF ?_⟩
    refine ⟨_, rfl, a, _, _, _, rfl, rfl, SqT.of ha, rfl, ?_⟩
    refine ⟨_, rfl, _, _, _, _, true, rfl, .ty "str", .base (.str _), kit_ty (by decide +kernel), true, rfl, iteF ?_⟩
    refine ⟨_, rfl, a, _, rfl, .inr (SqT.of ha), _, rfl, it, _, _, rfl, rfl, T.kg _ _ (wd_it w), rfl, _, rfl, iteNS rfl ?_⟩
    exact ⟨_, rfl, rfl, _, rfl, iteFb (wd_ne w) q⟩
  | nam b z =>
    rw [Stm.at] at hs
    obtain ⟨a, rfl, ha⟩ := hs
    refine ⟨_, rfl, _, _, _, _, true, rfl, .ty "tuple", .base (.tup ha), kit_ty (by decide +kernel), true, rfl, iteF ?_⟩
    refine ⟨_, rfl, true, .inr (.inl ⟨_, SqT.of ha, rfl⟩), iteF ?_⟩
    refine ⟨_, rfl, a, _, _, _, rfl, rfl, SqT.of ha, rfl, ?_⟩
    refine ⟨_, rfl, _, _, _, _, true, rfl, .ty "str", .base (.str _), kit_ty (by decide +kernel), true, rfl, iteF ?_⟩
    refine ⟨_, rfl, a, _, rfl, .inr (SqT.of ha), _, rfl, it, _, _, rfl, rfl, T.kg _ _ (lk_it b), rfl, _, rfl, iteNS rfl ?_⟩
    exact ⟨_, rfl, rfl, _, rfl, iteFb (lk_ne b) q⟩
  | ch y n =>
    rw [Stm.at] at hs
    obtain ⟨a, b, c, xs, ys, rfl, ha, hb, _, hc, _⟩ := hs
    refine ⟨_, rfl, _, _, _, _, true, rfl, .ty "tuple", .base (.tup ha), kit_ty (by decide +kernel), true, rfl, iteF ?_⟩
    refine ⟨_, rfl, true, .inr (.inl ⟨_, SqT.of ha, rfl⟩), iteF ?_⟩
    refine ⟨_, rfl, a, _, _, _, rfl, rfl, SqT.of ha, rfl, ?_⟩
    refine ⟨_, rfl, _, _, _, _, true, rfl, .ty "str", .base (.str _), kit_ty (by decide +kernel), true, rfl, iteF ?_⟩
    refine ⟨_, rfl, a, _, rfl, .inr (SqT.of ha), _, rfl, it, _, _, rfl, rfl, T.kg _ _ ch_it, rfl, _, rfl, iteNS rfl ?_⟩
    refine ⟨_, rfl, rfl, _, rfl, iteTb (by decide +kernel) ?_⟩
    refine ⟨_, rfl, a, _, _, _, rfl, rfl, SqT.of ha, rfl, _, _, _, _, true, rfl, .ty "tuple", .base (.tup hb), kit_ty (by decide +kernel), true, rfl, iteT ?_⟩
    exact ⟨_, rfl, a, _, _, _, rfl, rfl, SqT.of ha, rfl, _, _, _, _, true, rfl, .ty "tuple", .base (.tup hc), kit_ty (by decide +kernel), q⟩
theorem wd_in (w : Wd) : inV (V.str w.s) [V.str "lock", V.str "unlock"] = false := by cases w <;> decide +kernel
theorem lk_in (b : Bool) : inV (V.str (lockS b)) [V.str "lock", V.str "unlock"] = true := by cases b <;> decide +kernel
theorem ch_in : inV (V.str "choose") [V.str "lock", V.str "unlock"] = false := by decide +kernel
theorem lk_tk (b : Bool) : decide (V.str (lockS b) = V.str "take") = false := by cases b <;> decide +kernel
theorem wd_tk (w : Wd) : decide (V.str w.s = V.str "take") = decide (w = .take) := by cases w <;> decide +kernel
theorem scFO : FnScope ["statement", "place", "earlier", "held", "word"] ["statement", "place", "earlier", "held"] (defScope sFault) := ⟨rfl, rfl, rfl, by decide +kernel, rfl, by decide +kernel, by decide +kernel⟩
theorem ok_fault {f fF fN : Addr} {fd fdF fdN : FuncData} (F : Fun K "fault_of" "fault_of" sFault f fd) (B : Bl mg) (T : Txt K w mg CS CK it)
    (GF : FnOk P w K mg base CX0 1 fF fdF ["statement"] spForm) (bF : Binds K fdF ["statement"] []) (kF : PySem.W.keepIn K (.ref fF) = true) (mF : mg "has_form" = some (.ref fF))
    (GN : FnOk P w K mg base CX0 1 fN fdN ["value"] spIsName) (bN : Binds K fdN ["value"] []) (kN : PySem.W.keepIn K (.ref fN) = true) (mN : mg "is_name" = some (.ref fN)) :
    FnOk P w K mg base CX0 2 f fd ["statement", "place", "earlier", "held"] spFault := by
  refine F.ok scFO (fun vs H Q E h => ?_) (fun cdv A outer s H vs Q E hr h => ?_)
  · obtain ⟨v, u, e, h, s, d, p, rfl, _⟩ := h
    rfl
  obtain ⟨v, u, e, h, s, d, p, rfl, hs, hu, hp, e8, ok, q⟩ := h
  obtain ⟨t1, g1⟩ := T.mSt
  obtain ⟨t2, g2⟩ := T.mNe
  obtain ⟨t3, g3⟩ := T.mHe
  refine ⟨_, pss_cons (ps_if (pt_cmpR op_eq (pv 2) (pe_glob (v := .int 8) (by rfl) g1 ⟨_, rfl⟩) (nomark _)) (pss_one (ps_ret pe_str)) pss_nil)
    (pss_cons (ps_if (pt_not (pt_val (pe_call GF hr rfl mF kF bF .nil pass0 (pa_cons (pv 0) pa_nil)))) (pss_one (ps_ret pe_str)) pss_nil)
    (pss_cons (ps_set (i := 4) scFO.nd rfl (Or.inl rfl) (pe_ix ix_tup (pv 0) pe_int (fun _ _ => rfl)))
    (pss_cons (ps_if (PW.pt (pw_and (pt_cmpR op_eq (pv 4) pe_str (nomark _)) (pw_and1 (pt_cmpR op_eq (pe_op op_fdivN (pe_callB call_len_seq (by rfl) B.len PySem.boot_len (pa_cons (pv 1) pa_nil)) pe_int) (pe_glob (v := .int 2) (by rfl) g2 ⟨_, rfl⟩) (nomark _))))) (pss_one (ps_ret pe_str)) pss_nil)
    (pss_cons (ps_if (PW.pt (pw_and (pt_cmpR op_in_seq (pv 4) (pe_tup (pa_cons pe_str (pa_cons pe_str pa_nil))) (by rfl)) (pw_and1 (pt_not (pt_val (pe_call GN hr rfl mN kN bN .nil pass0 (pa_cons (pe_ix ix_tup (pv 0) pe_int (fun _ _ => rfl)) pa_nil))))))) (pss_one (ps_ret pe_str)) pss_nil)
    (pss_cons (ps_if (PW.pt (pw_and (pt_cmpR op_eq (pv 4) pe_str (nomark _)) (pw_and1 (pt_cmpR op_eq (pv 3) (pe_glob (v := .int 3) (by rfl) g3 ⟨_, rfl⟩) (nomark _))))) (pss_one (ps_ret pe_str)) pss_nil)
    (pss_one (ps_ret pe_non))))))), ?_⟩
  have ne8 : decide (V.int e = V.int 8) = false := decide_eq_false (fun z => e8 (by injection z))
  refine ⟨_, rfl, rfl, _, rfl, iteFb ne8 ?_⟩
  refine ⟨_, rfl, v, s, rfl, hs, true, rfl, iteF ?_⟩
  cases s with
  | one wd =>
    rw [Stm.at] at hs
    obtain ⟨a, rfl, ha⟩ := hs
    rw [Stm.ok] at ok
    refine ⟨_, rfl, a, _, _, _, rfl, rfl, SqT.of ha, rfl, ?_⟩
    refine ⟨_, rfl, rfl, _, rfl, iteFb (wd_ne wd) ?_⟩
    refine ⟨_, rfl, (by show 2 ≤ sizeLine; decide), fun t ht => ⟨t, _, rfl, .inr (SqT.of upd_same), rfl, rfl, _, rfl, iteFb (wd_in wd) ?_⟩⟩
    refine ⟨_, rfl, rfl, _, rfl, ?_⟩
    rw [wd_tk]
    by_cases c : wd = .take
    · refine iteTb (decide_eq_true c) ⟨_, rfl, rfl, _, rfl, iteFb (decide_eq_false (fun z => ok c (by injection z))) (q _ (same_new ht _))⟩
    · exact iteFb (decide_eq_false c) (q _ (same_new ht _))
  | nam b z =>
    rw [Stm.at] at hs
    obtain ⟨a, rfl, ha⟩ := hs
    rw [Stm.ok] at ok
    refine ⟨_, rfl, a, _, _, _, rfl, rfl, SqT.of ha, rfl, ?_⟩
    refine ⟨_, rfl, rfl, _, rfl, iteFb (lk_ne b) ?_⟩
    refine ⟨_, rfl, (by show 2 ≤ sizeLine; decide), fun t ht => ⟨t, _, rfl, .inr (SqT.of upd_same), rfl, rfl, _, rfl, iteTb (lk_in b) ?_⟩⟩
    refine ⟨_, rfl, a, _, _, _, rfl, rfl, SqT.of ((same_new ht _) a _ ha), rfl, z, rfl, Nat.le_trans ok.2.1 (by decide), fun H2 s2 => ⟨_, rfl, ?_⟩⟩
    rw [nameB_of ok]
    refine iteF ⟨_, rfl, rfl, _, rfl, iteFb (lk_tk b) (q _ ((same_new ht _).trans s2))⟩
  | ch y n =>
    rw [Stm.at] at hs
    obtain ⟨a, b, c, xs, ys, rfl, ha, hb, _, hc, _⟩ := hs
    rw [Stm.ok] at ok
    refine ⟨_, rfl, a, _, _, _, rfl, rfl, SqT.of ha, rfl, ?_⟩
    refine ⟨_, rfl, rfl, _, rfl, iteTb (by decide +kernel) ?_⟩
    refine ⟨_, rfl, u, _, rfl, .inr (SqT.of hu), _, _, rfl, rfl, ⟨by decide, by decide⟩, rfl, _, rfl, ?_⟩
    have e1 : ((p.length : Nat) : Int).fdiv 2 = d := by
      rw [hp, Int.fdiv_eq_ediv_of_nonneg _ (by decide)]; omega
    refine iteFb ?_ ?_
    · show decide (V.int (((p.length : Nat) : Int).fdiv 2) = V.int 2) = false
      rw [e1]
      exact decide_eq_false (fun z => by injection z with z; omega)
    · refine ⟨_, rfl, (by show 2 ≤ sizeLine; decide), fun t ht => ⟨t, _, rfl, .inr (SqT.of upd_same), rfl, rfl, _, rfl, iteFb ch_in ?_⟩⟩
      exact ⟨_, rfl, rfl, _, rfl, iteFb (by decide +kernel) (q _ (same_new ht _))⟩
end
end Tk
set_option maxRecDepth 100000
namespace Tk
open PySem L2
def CkE (CK : Addr) (H : Hp) (c dd : Addr) (W : List (Pl × Stm)) : Prop := (∃ dx, H c = some (.ins CK dx [("found", .ref dd)])) ∧ ∃ kvs, H dd = some (.dT kvs) ∧ FRel H kvs W
theorem CkE.keep {CK : Addr} {H H' : Hp} {c dd : Addr} {W : List (Pl × Stm)} (x : CkE CK H c dd W) (s : Same H H') : CkE CK H' c dd W := by
  obtain ⟨⟨dx, h1⟩, kvs, h2, h3⟩ := x
  exact ⟨⟨dx, s _ _ h1⟩, kvs, s _ _ h2, h3.keep (TK.of_same s)⟩
theorem Kp.tkD {dd : Addr} {H H' : Hp} {kvs : List (List Key × V)} (k : Kp dd H H') (hp : H dd = some (.dT kvs)) : TK H H' := fun a xs h => k a _ h (ne_of h hp (by intro z; cases z))
abbrev psKB : List Str := ["self", "branch", "above", "held"]
abbrev psKS : List Str := ["self", "statement", "place", "held"]
def spKInit (CK : Addr) : Sp := fun vs H Q _ => ∃ c dx : Addr, vs = [.ref c] ∧ H c = some (.ins CK dx []) ∧ ∀ (dd : Addr) (H' : Hp), H dd = none → CkE CK H' c dd [] → (∀ b o, H b = some o → b ≠ c → H' b = some o) → Q .non H'
def spKS (CK : Addr) (m : Nat) : Sp := fun vs H Q _ => ∃ (c dd u : Addr) (v : V) (h : Int) (s : Stm) (d : Nat) (p : Pl) (W : List (Pl × Stm)), vs = [.ref c, v, .ref u, .int h] ∧ d + m = 3 ∧ d ≤ 2 ∧ CkE CK H c dd W ∧ s.at H v ∧ H u = some (.tup (p.map V.int)) ∧
  p.length = 2 * d + 1 ∧ s.ok d h ∧ W.length + s.cnt ≤ 8 ∧ (∀ q, lk W (p ++ q) = none) ∧ ∀ H', CkE CK H' c dd (W ++ s.walk p) → Kp dd H H' → Q (.int (s.held h)) H'
def spKB (CK : Addr) (m : Nat) : Sp := fun vs H Q _ => ∃ (c dd t u : Addr) (xs : List V) (h : Int) (B : List Stm) (d : Nat) (p : Pl) (W : List (Pl × Stm)), vs = [.ref c, .ref t, .ref u, .int h] ∧ d + m = 3 ∧ d ≤ 2 ∧ CkE CK H c dd W ∧ H t = some (.tup xs) ∧ atAll H xs B ∧ H u = some (.tup (p.map V.int)) ∧
  p.length = 2 * d ∧ okAll d B h ∧ W.length + cntAll B ≤ 8 ∧ (∀ j q, lk W (p ++ j :: q) = none) ∧ ∀ H', CkE CK H' c dd (W ++ walkAll B p 0) → Kp dd H H' → Q (.int (heldAll B h)) H'
theorem small {n : Nat} (h : n ≤ 1000) : n ≤ sizeLine := Nat.le_of_lt (small1000 h)
section
variable {P : Program} {w : World} {K : PySem.W.Frag} {mg : Str → Option Value} {base : Heap} {CS CK it : Addr}
theorem scKI : FnScope ["self"] ["self"] (defScope sKInit) := ⟨rfl, rfl, rfl, by decide +kernel, rfl, by decide +kernel, by decide +kernel⟩
theorem ok_kinit {f : Addr} {fd : FuncData} (F : Fun K "__init__" "Check.__init__" sKInit f fd) (T : Txt K w mg CS CK it) : FnOk P w K mg base CX0 1 f fd ["self"] (spKInit CK) := by
  refine F.ok scKI (fun vs H Q E h => ?_) (fun cdv A outer s H vs Q E hr h => ?_)
  · obtain ⟨c, dx, rfl, _⟩ := h
    rfl
  obtain ⟨c, dx, rfl, hc, q⟩ := h
  refine ⟨_, pss_one (ps_fld (pv 0) pe_dnewT rfl), ?_⟩
  intro dd hd
  have n : c ≠ dd := ne_of_none hc hd
  refine ⟨_, rfl, c, CK, dx, [], rfl, (by rw [upd_ne n]; exact hc), T.clK, T.kF, (by show 0 < 1000; decide), ?_⟩
  refine q dd _ hd ⟨⟨dx, upd_same⟩, [], by rw [upd_ne n.symm, upd_same], trivial⟩ fun b o e hb => ?_
  rw [upd_ne hb, upd_ne (ne_of_none e hd)]
  exact e
/-- above + (index,) : what follows gets the new place -/
theorem cat_one {H : Hp} {u : Addr} {p : Pl} {j : Int} {X : V → Hp → Prop} (hu : H u = some (.tup (p.map V.int))) (hp : p.length ≤ 10) (k : ∀ y H', H' y = some (.tup ((p ++ [j]).map V.int)) → Same H H' → X (.ref y) H') :
    ∀ t, H t = none → rCatA K (.ref u) (.ref t) (L2.upd H t (.tup [.int j])) X := by
  intro t ht
  have s1 := same_new ht (.tup [.int j])
  refine ⟨u, t, _, _, rfl, rfl, SqT.of (s1 _ _ hu), SqT.of upd_same, small (by simp; omega), (fun e => ?_), (fun _ e => nomatch e), fun _ _ z hz => ?_⟩
  · refine k t _ ?_ s1
    have e' : p = [] := List.map_eq_nil_iff.mp e
    rw [upd_same, e']; rfl
  · refine k z _ ?_ (s1.trans (same_new hz _))
    rw [upd_same, List.map_append]; rfl
theorem scKB : FnScope ["self", "branch", "above", "held", "index", "statement"] psKB (defScope sKBr) := ⟨rfl, rfl, rfl, by decide +kernel, rfl, by decide +kernel, by decide +kernel⟩
theorem ok_kbr {m n : Nat} {f fS : Addr} {fd fdS : FuncData} (F : Fun K "check_branch" "Check.check_branch" sKBr f fd) (T : Txt K w mg CS CK it) (GS : FnOk P w K mg base CX0 n fS fdS psKS (spKS CK m)) (bS : Binds K fdS psKS []) (mS : Meth K CK "check_statement" fS) :
    FnOk P w K mg base CX0 (n + 1) f fd psKB (spKB CK m) := by
  refine F.ok scKB (fun vs H Q E h => ?_) (fun cdv A outer s H vs Q E hr h => ?_)
  · obtain ⟨c, dd, t, u, xs, h, B, d, p, W, rfl, _⟩ := h
    rfl
  obtain ⟨c, dd, t, u, xs, h, B, d, p, W, rfl, hd3, hd2, C, ht, hB, hu, hp, ok, hn, hW, q⟩ := h
  refine ⟨_, pss_cons (ps_for PassesOwn.never rfl (pi_enumT rfl T.enum (pa_cons (pv 1) pa_nil)) (pg_tup rfl (pgs_cons (pg_name (i := 4) scKB.nd rfl (.inl rfl)) (pgs_cons (pg_name (i := 5) scKB.nd rfl (.inl rfl)) pgs_nil)))
      (pss_one (ps_set (i := 3) scKB.nd rfl (Or.inl rfl) (pe_meth (pv 0) T.clK mS GS hr bS .nil pass0 (pa_cons (pv 5) (pa_cons (pe_op op_catA (pv 2) (pe_tup (pa_cons (pv 4) pa_nil))) (pa_cons (pv 3) pa_nil)))))))
    (pss_one (ps_ret (pv 3))), ?_⟩
  have hl := atAll_len hB
  have hb8 : B.length ≤ 8 := Nat.le_trans (len_le_cnt B) (by omega)
  refine ⟨_, rfl, t, xs, rfl, SqT.of ht, for_enumT (xs := xs) (fun i σ H2 => ∃ v4 v5 : Option V, σ = [some (.ref c), some (.ref t), some (.ref u), some (.int (heldAll (B.take i) h)), v4, v5] ∧ i ≤ B.length ∧ CkE CK H2 c dd (W ++ walkAll (B.take i) p 0) ∧ Kp dd H H2) ?_ ?_ ?_ ?_⟩
  · exact ⟨none, none, by rw [List.take_zero, heldAll]; rfl, Nat.zero_le _, by rw [List.take_zero, walkAll, List.append_nil]; exact C, Kp.refl _ _⟩
  · rintro i σ H2 _ ⟨v4, v5, rfl, _, C2, k2⟩
    obtain ⟨_, kvs, hk, _⟩ := C
    exact SqT.of (k2.tkD hk _ _ ht)
  · rintro i x Tp σ H2 hx ⟨v4, v5, rfl, hi, C2, k2⟩ hT
    obtain ⟨_, kvs, hk, _⟩ := id C
    have tk := k2.tkD hk
    have lt : i < B.length := by have := (List.getElem?_eq_some_iff.mp hx).1; omega
    have hs : B[i]? = some B[i] := List.getElem?_eq_getElem lt
    obtain ⟨v, hv, sv⟩ := atAll_get hB hs
    have exv : x = v := Option.some.inj (hx.symm.trans hv)
    subst exv
    have s1 := same_new hT (.tup [.int (i : Nat), x])
    have et : B.take (i + 1) = B.take i ++ [B[i]] := by rw [List.take_add_one, hs]; rfl
    have okB : okAll d (B.take i) h ∧ B[i].ok d (heldAll (B.take i) h) := by
      have z : B = B.take i ++ (B[i] :: B.drop (i + 1)) := by rw [← List.drop_eq_getElem_cons lt, List.take_append_drop]
      have app : ∀ (X Y : List Stm) (h : Int), okAll d (X ++ Y) h → okAll d X h ∧ okAll d Y (heldAll X h) := by
        intro X
        induction X with
        | nil => intro Y h g; exact ⟨by rw [okAll]; trivial, by rw [heldAll]; exact g⟩
        | cons a r ih =>
          intro Y h g
          have g' : okAll d (a :: (r ++ Y)) h := g
          rw [okAll] at g'
          obtain ⟨g1, g2⟩ := ih Y _ g'.2
          exact ⟨by rw [okAll]; exact ⟨g'.1, g1⟩, by rw [heldAll]; exact g2⟩
      rw [z] at ok
      obtain ⟨o1, o2⟩ := app _ _ _ ok
      rw [okAll] at o2
      exact ⟨o1, o2.1⟩
    refine ⟨Tp, _, rfl, SqT.of upd_same, rfl, _, _, rfl, _, _, rfl, rfl, ?_⟩
    obtain ⟨⟨dx, hc⟩, _⟩ := C2.keep s1
    refine ⟨_, rfl, c, dx, _, rfl, hc, rfl, _, rfl, _, rfl, _, rfl, (by show 1 ≤ sizeLine; decide), ?_⟩
    refine fun t2 ht2 => cat_one (p := p) (j := (i : Nat)) (s1 _ _ (tk _ _ hu)) (by omega) (fun y H3 hy s3 => ?_) t2 ht2
    have s13 := s1.trans s3
    have cn : cntAll (B.take i) + B[i].cnt ≤ cntAll B := by
      have z : B = B.take i ++ (B[i] :: B.drop (i + 1)) := by rw [← List.drop_eq_getElem_cons lt, List.take_append_drop]
      have z2 := congrArg cntAll z
      rw [cntAll_app, cntAll] at z2
      omega
    refine ⟨_, rfl, c, dd, y, x, _, B[i], d, p ++ [((i : Nat) : Int)], _, rfl, hd3, hd2, C2.keep s13, Stm.at_keep (tk.trans (TK.of_same s13)) _ _ sv, hy, by rw [List.length_append, hp]; rfl, okB.2, ?_, ?_, fun H4 C4 k4 => ?_⟩
    · rw [List.length_append, walkAll_len]; omega
    · intro q'
      have e : (p ++ [((i : Nat) : Int)]) ++ q' = p ++ ((i : Nat) : Int) :: q' := by simp
      rw [e, lk_app, hW, walkAll_lk]
      have z : nth (B.take i) (((i : Nat) : Int) - ((0 : Nat) : Int)) = none := by
        unfold nth
        rw [if_pos (by omega), List.getElem?_eq_none (by rw [List.length_take]; omega)]
      rw [z]; rfl
    · refine ⟨some (.int (i : Nat)), some x, ?_, lt, ?_, (k2.trans (Kp.of_same s13)).trans k4⟩
      · rw [et, heldAll_snoc]; rfl
      · rw [et, walkAll_snoc]
        have e : 0 + (B.take i).length = i := by rw [List.length_take]; omega
        rw [e, ← List.append_assoc]
        exact C4
  · rintro σ H2 ⟨v4, v5, rfl, hi, C2, k2⟩
    rw [hl, List.take_length] at C2
    refine ⟨_, rfl, ?_⟩
    rw [hl, List.take_length]
    exact q H2 C2 k2
theorem wd_lv (w : Wd) : inV (V.str w.s) [V.str "commit", V.str "rollback", V.str "leave"] = decide (w = .commit ∨ w = .rollback ∨ w = .leave) := by cases w <;> decide +kernel
theorem lk_lv (b : Bool) : inV (V.str (lockS b)) [V.str "commit", V.str "rollback", V.str "leave"] = false := by cases b <;> decide +kernel
def heldS (z : Str) (h : Int) : Int := if z = "take" then h + 1 else if inV (V.str z) [V.str "commit", V.str "rollback", V.str "leave"] = true then 0 else h
theorem heldS_wd (w : Wd) (h : Int) : heldS w.s h = w.held h := by
  unfold heldS
  rw [wd_lv]
  cases w <;> first | rfl | (rw [if_neg (by decide +kernel)]; rfl)
theorem heldS_lk (b : Bool) (h : Int) : heldS (lockS b) h = h := by
  unfold heldS
  rw [lk_lv]
  cases b <;> (rw [if_neg (by decide +kernel)]; rfl)
def spHeld : Sp := fun vs H Q _ => ∃ (z : Str) (h : Int), vs = [.str z, .int h] ∧ ∀ H', Same H H' → Q (.int (heldS z h)) H'
theorem scHA : FnScope ["word", "held"] ["word", "held"] (defScope sHeld) := ⟨rfl, rfl, rfl, by decide +kernel, rfl, by decide +kernel, by decide +kernel⟩
theorem ok_held {f : Addr} {fd : FuncData} (F : Fun K "held_after" "held_after" sHeld f fd) : FnOk P w K mg base CX0 1 f fd ["word", "held"] spHeld := by
  refine F.ok scHA (fun vs H Q E h => ?_) (fun cdv A outer s H vs Q E hr h => ?_)
  · obtain ⟨z, h, rfl, _⟩ := h
    rfl
  obtain ⟨z, h, rfl, q⟩ := h
  refine ⟨_, pss_cons (ps_if (pt_cmpR op_eq (pv 0) pe_str (nomark _)) (pss_one (ps_ret (pe_op op_add (pv 1) pe_int))) pss_nil)
    (pss_one (ps_ret (pe_ifExp (pt_cmpR op_in_seq (pv 0) (pe_tup (pa_cons pe_str (pa_cons pe_str (pa_cons pe_str pa_nil)))) (by rfl)) pe_int (pv 1)))), ?_⟩
  refine ⟨_, rfl, rfl, _, rfl, ?_⟩
  by_cases ct : z = "take"
  · subst ct
    exact iteTb (decide_eq_true rfl) ⟨_, rfl, _, _, rfl, rfl, by have := q H (Same.refl H); rwa [show heldS "take" h = h + 1 from rfl] at this⟩
  · refine iteFb (decide_eq_false (fun e => ct (V.str.inj e))) ?_
    refine ⟨_, rfl, (by show 3 ≤ sizeLine; decide), fun t htn => ⟨t, _, rfl, .inr (SqT.of upd_same), rfl, rfl, _, rfl, ?_⟩⟩
    have fin := q _ (same_new htn (.tup [.str "commit", .str "rollback", .str "leave"]))
    unfold heldS at fin
    rw [if_neg ct] at fin
    show if (inV (V.str z) [V.str "commit", V.str "rollback", V.str "leave"]) = true then _ else _
    by_cases c : inV (V.str z) [V.str "commit", V.str "rollback", V.str "leave"] = true
    · rw [if_pos c] at fin
      exact iteTb c fin
    · rw [if_neg c] at fin
      exact iteFb (by simpa using c) ⟨_, rfl, fin⟩
theorem scKS : FnScope ["self", "statement", "place", "held", "why", "yes", "no"] psKS (defScope sKSt) := ⟨rfl, rfl, rfl, by decide +kernel, rfl, by decide +kernel, by decide +kernel⟩
theorem ok_kst {m n : Nat} {f fB fF fH : Addr} {fd fdB fdF fdH : FuncData} (hn : 2 ≤ n) (F : Fun K "check_statement" "Check.check_statement" sKSt f fd) (B : Bl mg) (T : Txt K w mg CS CK it) (GB : FnOk P w K mg base CX0 n fB fdB psKB (spKB CK m)) (bB : Binds K fdB psKB []) (mB : Meth K CK "check_branch" fB)
    (GF : FnOk P w K mg base CX0 2 fF fdF ["statement", "place", "earlier", "held"] spFault) (bF : Binds K fdF ["statement", "place", "earlier", "held"] []) (kF : PySem.W.keepIn K (.ref fF) = true) (mF : mg "fault_of" = some (.ref fF))
    (GH : FnOk P w K mg base CX0 1 fH fdH ["word", "held"] spHeld) (bH : Binds K fdH ["word", "held"] []) (kH : PySem.W.keepIn K (.ref fH) = true) (mH : mg "held_after" = some (.ref fH)) :
    FnOk P w K mg base CX0 (n + 1) f fd psKS (spKS CK (m + 1)) := by
  refine F.ok scKS (fun vs H Q E h => ?_) (fun cdv A outer s H vs Q E hr h => ?_)
  · obtain ⟨c, dd, u, v, h, s, d, p, W, rfl, _⟩ := h
    rfl
  obtain ⟨c, dd, u, v, h, s, d, p, W, rfl, hd3, hd2, C, hs, hu, hp, ok, hn8, hW, q⟩ := h
  have hu' := hu_of hr
  have hr2 : Room 2 _ := hr.mono hn
  have hr1 : Room 1 _ := hr2.mono (by decide)
  refine ⟨_, pss_cons (ps_set (i := 4) scKS.nd rfl (Or.inl rfl) (pe_call GF hr2 rfl mF kF bF .nil pass0 (pa_cons (pv 1) (pa_cons (pv 2) (pa_cons (pe_callB call_len_dT (by rfl) B.len PySem.boot_len (pa_cons (pe_fld (pv 0) rfl) pa_nil)) (pa_cons (pv 3) pa_nil))))))
    (pss_cons (ps_if (pt_cmpR op_notN (pv 4) pe_non (nomark _)) (pss_one ps_never) pss_nil)
    (pss_cons (ps_dput hu' (pe_fld (pv 0) rfl) (pv 2) (pv 1) rfl)
    (pss_cons (ps_if (pt_cmpR op_eq (pe_ix ix_tup (pv 1) pe_int (fun _ _ => rfl)) pe_str (nomark _))
      (pss_cons (ps_set (i := 5) scKS.nd rfl (Or.inl rfl) (pe_meth (pv 0) T.clK mB GB hr bB .nil pass0 (pa_cons (pe_ix ix_tup (pv 1) pe_int (fun _ _ => rfl)) (pa_cons (pe_op op_catA (pv 2) (pe_tup (pa_cons pe_int pa_nil))) (pa_cons (pv 3) pa_nil)))))
      (pss_cons (ps_set (i := 6) scKS.nd rfl (Or.inl rfl) (pe_meth (pv 0) T.clK mB GB hr bB .nil pass0 (pa_cons (pe_ix ix_tup (pv 1) pe_int (fun _ _ => rfl)) (pa_cons (pe_op op_catA (pv 2) (pe_tup (pa_cons pe_int pa_nil))) (pa_cons (pv 3) pa_nil)))))
      (pss_one (ps_ret (pe_callB (call_max2 rfl) (by rfl) B.max (by decide +kernel) (pa_cons (pv 5) (pa_cons (pv 6) pa_nil))))))) pss_nil)
    (pss_one (ps_ret (pe_call GH hr1 rfl mH kH bH .nil pass0 (pa_cons (pe_ix ix_tup (pv 1) pe_int (fun _ _ => rfl)) (pa_cons (pv 3) pa_nil)))))))), ?_⟩
  obtain ⟨⟨dx, hc⟩, kvs, hk, fr⟩ := id C
  have wl := fr.len
  have sp := cnt_pos s
  refine ⟨_, rfl, _, rfl, _, rfl, c, CK, dx, _, _, rfl, hc, T.clK, T.kF, rfl, dd, kvs, rfl, hk, _, rfl, v, u, _, h, s, d, _, rfl, hs, hu, by rw [List.length_map]; exact hp, by omega, ok, fun H1 s1 => ?_⟩
  refine ⟨_, rfl, rfl, _, rfl, iteF ?_⟩
  have ekv : (key p).map kV = p.map V.int := key_kV p
  have nodd : c ≠ dd := ne_of (s1 _ _ hc) (s1 _ _ hk) (by intro z; cases z)
  refine ⟨_, rfl, _, rfl, c, CK, dx, _, _, rfl, s1 _ _ hc, T.clK, T.kF, rfl, _, rfl, dd, _, rfl, DPut.t (k := key p) (s1 _ _ hk) (by rw [ekv]; exact s1 _ _ hu) (small1000 (by omega)), ?_⟩
  have non : valV kvs (key p) = none := (fr.val p).1 (by have := hW []; rwa [List.append_nil] at this)
  rw [putK_new _ non]
  have k2 : Kp dd H (L2.upd H1 dd (.dT (kvs ++ [(key p, v)]))) := (Kp.of_same s1).trans Kp.upd
  have tk2 : TK H (L2.upd H1 dd (.dT (kvs ++ [(key p, v)]))) := k2.tkD hk
  have C2 : CkE CK (L2.upd H1 dd (.dT (kvs ++ [(key p, v)]))) c dd (W ++ [(p, s)]) := ⟨⟨dx, by rw [upd_ne nodd]; exact s1 _ _ hc⟩, _, upd_same, FRel.snoc (Stm.at_keep tk2 _ _ hs) (fr.keep tk2)⟩
  generalize L2.upd H1 dd (.dT (kvs ++ [(key p, v)])) = H2 at k2 tk2 C2 ⊢
  have hs2 := Stm.at_keep tk2 _ _ hs
  have hu2 := tk2 _ _ hu
  cases s with
  | one wd =>
    rw [Stm.at] at hs2
    obtain ⟨a, rfl, ha⟩ := hs2
    have ew : (Stm.one wd).walk p = [(p, .one wd)] := by rw [Stm.walk]
    have eh : (Stm.one wd).held h = wd.held h := by rw [Stm.held]
    rw [ew, eh] at q
    refine ⟨_, rfl, a, _, _, _, rfl, rfl, SqT.of ha, rfl, ?_⟩
    refine ⟨rfl, _, rfl, iteFb (wd_ne wd) ?_⟩
    refine ⟨_, rfl, a, _, _, _, rfl, rfl, SqT.of ha, rfl, _, rfl, _, _, rfl, fun H3 s3 => ?_⟩
    rw [heldS_wd]
    exact q _ (C2.keep s3) (k2.trans (Kp.of_same s3))
  | nam b z =>
    rw [Stm.at] at hs2
    obtain ⟨a, rfl, ha⟩ := hs2
    have ew : (Stm.nam b z).walk p = [(p, .nam b z)] := by rw [Stm.walk]
    have eh : (Stm.nam b z).held h = h := by rw [Stm.held]
    rw [ew, eh] at q
    refine ⟨_, rfl, a, _, _, _, rfl, rfl, SqT.of ha, rfl, ?_⟩
    refine ⟨rfl, _, rfl, iteFb (lk_ne b) ?_⟩
    refine ⟨_, rfl, a, _, _, _, rfl, rfl, SqT.of ha, rfl, _, rfl, _, _, rfl, fun H3 s3 => ?_⟩
    rw [heldS_lk]
    exact q _ (C2.keep s3) (k2.trans (Kp.of_same s3))
  | ch y n' =>
    rw [Stm.at] at hs2
    obtain ⟨a, b1, b2, xs, ys, rfl, ha, hb1, aty, hb2, atn⟩ := hs2
    have ew : (Stm.ch y n').walk p = (p, .ch y n') :: (walkAll y (p ++ [0]) 0 ++ walkAll n' (p ++ [1]) 0) := by rw [Stm.walk]
    have eh : (Stm.ch y n').held h = max (heldAll y h) (heldAll n' h) := by rw [Stm.held]
    have ec : (Stm.ch y n').cnt = 1 + cntAll y + cntAll n' := by rw [Stm.cnt]
    rw [ew, eh] at q
    rw [ec] at hn8
    rw [Stm.ok] at ok
    refine ⟨_, rfl, a, _, _, _, rfl, rfl, SqT.of ha, rfl, ?_⟩
    refine ⟨rfl, _, rfl, iteTb (by decide +kernel) ?_⟩
    obtain ⟨dx2, hc2⟩ := C2.1
    have kvd : ∃ kv2, H2 dd = some (.dT kv2) := let ⟨_, x, y, _⟩ := C2; ⟨x, y⟩
    obtain ⟨kv2, hk2⟩ := kvd
    refine ⟨_, rfl, c, dx2, _, rfl, hc2, rfl, _, rfl, a, _, _, _, rfl, rfl, SqT.of ha, rfl, _, rfl, (by show 1 ≤ sizeLine; decide), ?_⟩
    refine fun t2 ht2 => cat_one (p := p) (j := 0) hu2 (by omega) (fun y1 H3 hy1 s3 => ?_) t2 ht2
    have tk3 := TK.of_same s3
    refine ⟨_, rfl, c, dd, b1, y1, xs, h, y, d + 1, p ++ [0], W ++ [(p, .ch y n')], rfl, by omega, by omega, C2.keep s3, s3 _ _ hb1, atAll_keep tk3 _ _ aty, hy1, by rw [List.length_append, hp]; show 2 * d + 1 + 1 = _; omega, ok.2.1, by rw [List.length_append]; show W.length + 1 + cntAll y ≤ 8; omega, ?_, fun H4 C4 k4 => ?_⟩
    · intro j q'
      have e : (p ++ [(0 : Int)]) ++ j :: q' = p ++ ((0 : Int) :: j :: q') := by simp
      rw [lk_app, e, hW, lk, if_neg (fun z => by have := congrArg List.length z; simp at this), lk]; rfl
    have tk4 : TK H3 H4 := k4.tkD (s3 _ _ hk2)
    have tk34 := tk3.trans tk4
    obtain ⟨dx4, hc4⟩ := C4.1
    refine ⟨_, rfl, c, dx4, _, rfl, hc4, rfl, _, rfl, a, _, _, _, rfl, rfl, SqT.of (tk34 _ _ ha), rfl, _, rfl, (by show 1 ≤ sizeLine; decide), ?_⟩
    refine fun t5 ht5 => cat_one (p := p) (j := 1) (tk34 _ _ hu2) (by omega) (fun y2 H5 hy2 s5 => ?_) t5 ht5
    have tk5 := tk34.trans (TK.of_same s5)
    refine ⟨_, rfl, c, dd, b2, y2, ys, h, n', d + 1, p ++ [1], _, rfl, by omega, by omega, C4.keep s5, tk5 _ _ hb2, atAll_keep tk5 _ _ atn, hy2, by rw [List.length_append, hp]; show 2 * d + 1 + 1 = _; omega, ok.2.2, by rw [List.length_append, List.length_append, walkAll_len]; show W.length + 1 + cntAll y + cntAll n' ≤ 8; omega, ?_, fun H6 C6 k6 => ?_⟩
    · intro j q'
      have e : (p ++ [(1 : Int)]) ++ j :: q' = p ++ ((1 : Int) :: j :: q') := by simp
      have z := walkAll_none y (p ++ [0]) 0 (p ++ ((1 : Int) :: j :: q')) (fun j' q'' => pre_ne (by decide) _)
      rw [lk_app, lk_app, e, z, hW, lk, if_neg (fun z => by have := congrArg List.length z; simp at this), lk]; rfl
    refine ⟨_, rfl, _, rfl, _, _, rfl, ?_⟩
    show Q (.int (if heldAll n' h > heldAll y h then heldAll n' h else heldAll y h)) H6
    rw [max_if]
    refine q H6 ?_ ((((k2.trans (Kp.of_same s3)).trans k4).trans (Kp.of_same s5)).trans k6)
    have e : W ++ (p, Stm.ch y n') :: (walkAll y (p ++ [0]) 0 ++ walkAll n' (p ++ [1]) 0) = W ++ [(p, .ch y n')] ++ walkAll y (p ++ [0]) 0 ++ walkAll n' (p ++ [1]) 0 := by simp
    rw [e]
    exact C6
end
end Tk
set_option maxRecDepth 100000
namespace Tk
open PySem L2
/-! ## a Script -/
theorem k1 : ¬ (("statements" : Str) = "found") := by decide +kernel
theorem k2' : ¬ (("statements" : Str) = "places") := by decide +kernel
theorem k3 : ¬ (("found" : Str) = "places") := by decide +kernel
def flds (t dd pl : Addr) : List (Str × V) := [("statements", .ref t), ("found", .ref dd), ("places", .ref pl)]
theorem flds_put (t dd pl : Addr) : putF "places" (.ref pl) (putF "found" (.ref dd) (putF "statements" (.ref t) [])) = flds t dd pl := by
  simp only [putF, if_neg k1, if_neg k2', if_neg k3]
  rfl
theorem flds_st (t dd pl : Addr) : (flds t dd pl).lookup ("statements" : Str) = some (.ref t) := by
  rw [← flds_put, lookup_putF, if_neg (by decide +kernel), lookup_putF, if_neg (by decide +kernel), lookup_putF, if_pos rfl]
theorem flds_fo (t dd pl : Addr) : (flds t dd pl).lookup ("found" : Str) = some (.ref dd) := by
  rw [← flds_put, lookup_putF, if_neg (by decide +kernel), lookup_putF, if_pos rfl]
theorem flds_pl (t dd pl : Addr) : (flds t dd pl).lookup ("places" : Str) = some (.ref pl) := by
  rw [← flds_put, lookup_putF, if_pos rfl]
theorem flds_no (t dd pl : Addr) {m : Str} (h1 : ¬ m = "statements") (h2 : ¬ m = "found") (h3 : ¬ m = "places") : (flds t dd pl).lookup m = none := by
  rw [← flds_put, lookup_putF, if_neg h3, lookup_putF, if_neg h2, lookup_putF, if_neg h1]; rfl
/-- x is the Script of the statements S, which stand at t -/
structure Sc (CS : Addr) (H : Hp) (x t : Addr) (S : List Stm) : Prop where
  ex : ∃ dx dd pl bs kvs xs, H x = some (.ins CS dx (flds t dd pl)) ∧ H t = some (.tup xs) ∧ atAll H xs S ∧ H dd = some (.dT kvs) ∧ FRel H kvs (walkAll S [] 0) ∧ H pl = some (.tup (bs.map V.ref)) ∧ IsKeys H kvs bs
  ne : S ≠ []
  ok : okAll 0 S 0
  few : cntAll S ≤ 8
theorem keys_keep {H H' : Hp} {kvs : List (List Key × V)} {bs : List Addr} (k : TK H H') (h : IsKeys H kvs bs) : IsKeys H' kvs bs := by
  unfold IsKeys at h ⊢
  exact L2.Paired.mapP h fun a b q => k _ _ q
theorem Sc.keep {CS : Addr} {H H' : Hp} {x t : Addr} {S : List Stm} (h : Sc CS H x t S) (s : Same H H') : Sc CS H' x t S := by
  obtain ⟨⟨dx, dd, pl, bs, kvs, xs, h1, h2, h3, h4, h5, h6, h7⟩, a, b, c⟩ := h
  have tk := TK.of_same s
  exact ⟨⟨dx, dd, pl, bs, kvs, xs, s _ _ h1, s _ _ h2, atAll_keep tk _ _ h3, s _ _ h4, h5.keep tk, s _ _ h6, keys_keep tk h7⟩, a, b, c⟩
theorem Sc.kp {CS p : Addr} {H H' : Hp} {x t : Addr} {S : List Stm} {ys : List V} (h : Sc CS H x t S) (s : Kp p H H') (hp : H p = some (.lst ys)) : Sc CS H' x t S := by
  obtain ⟨⟨dx, dd, pl, bs, kvs, xs, h1, h2, h3, h4, h5, h6, h7⟩, a, b, c⟩ := h
  have tk := s.tk hp
  exact ⟨⟨dx, dd, pl, bs, kvs, xs, s _ _ h1 (ne_of h1 hp (by intro z; cases z)), tk _ _ h2, atAll_keep tk _ _ h3, s _ _ h4 (ne_of h4 hp (by intro z; cases z)), h5.keep tk, tk _ _ h6, keys_keep tk h7⟩, a, b, c⟩
/-- values by their kinds -/
inductive Kd (H : Hp) : V → String → Prop
  | non : Kd H .non "NoneType"
  | bl (b : Bool) : Kd H (.bl b) "bool"
  | int (i : Int) : Kd H (.int i) "int"
  | str (z : Str) : Kd H (.str z) "str"
  | lst {a : Addr} {xs : List V} (e : H a = some (.lst xs)) : Kd H (.ref a) "list"
  | tup {a : Addr} {xs : List V} (e : H a = some (.tup xs)) : Kd H (.ref a) "tuple"
  | dK {a : Addr} {kvs : List (Key × V)} (e : H a = some (.dK kvs)) : Kd H (.ref a) "dict"
theorem Kd.ty {K : PySem.W.Frag} {H : Hp} {v : V} {T : String} (k : Kd H v T) : TyX K H v (.type T) := by
  cases k with
  | non => exact .base .non
  | bl b => exact .base (.bl b)
  | int i => exact .base (.int i)
  | str z => exact .base (.str z)
  | lst e => exact .base (.lst e)
  | tup e => exact .base (.tup e)
  | dK e => exact .base (.dK e)
theorem Kd.keep {H H' : Hp} {v : V} {T : String} (s : Same H H') (k : Kd H v T) : Kd H' v T := by
  cases k with
  | non => exact .non
  | bl b => exact .bl b
  | int i => exact .int i
  | str z => exact .str z
  | lst e => exact .lst (s _ _ e)
  | tup e => exact .tup (s _ _ e)
  | dK e => exact .dK (s _ _ e)
def intB : V → Bool
  | .int _ => true
  | _ => false
theorem Kd.intB {H : Hp} {v : V} {T : String} (k : Kd H v T) : ∃ b1 b2, kitB T "int" = some b1 ∧ kitB T "bool" = some b2 ∧ (b1 && !b2) = Tk.intB v := by
  cases k with
  | non => exact ⟨false, false, by decide +kernel, by decide +kernel, rfl⟩
  | bl b => exact ⟨true, true, by decide +kernel, by decide +kernel, rfl⟩
  | int i => exact ⟨true, false, by decide +kernel, by decide +kernel, rfl⟩
  | str z => exact ⟨false, false, by decide +kernel, by decide +kernel, rfl⟩
  | lst e => exact ⟨false, false, by decide +kernel, by decide +kernel, rfl⟩
  | tup e => exact ⟨false, false, by decide +kernel, by decide +kernel, rfl⟩
  | dK e => exact ⟨false, false, by decide +kernel, by decide +kernel, rfl⟩
def spSInit (CS : Addr) : Sp := fun vs H Q _ => ∃ (x t dx : Addr) (xs : List V) (S : List Stm), vs = [.ref x, .ref t] ∧ H x = some (.ins CS dx []) ∧ H t = some (.tup xs) ∧ atAll H xs S ∧ S ≠ [] ∧ okAll 0 S 0 ∧ cntAll S ≤ 8 ∧
  ∀ H', Sc CS H' x t S → Kp x H H' → Q .non H'
def spHas (CS : Addr) : Sp := fun vs H Q _ => ∃ (x t : Addr) (v : V) (S : List Stm), vs = [.ref x, v] ∧ Sc CS H x t S ∧
  ((∃ T, Kd H v T ∧ kitB T "tuple" = some false ∧ Q (.bl false) H) ∨
   ∃ (u : Addr) (xs : List V), v = .ref u ∧ H u = some (.tup xs) ∧ xs.length ≤ 100 ∧ (∀ y ∈ xs, ∃ T, Kd H y T) ∧ (xs.all intB = false → ∀ H', Same H H' → Q (.bl false) H') ∧ (∀ p, xs = p.map V.int → ∀ H', Same H H' → Q (.bl (look S p).isSome) H'))
/-- a place that is there -/
def spGet (CS : Addr) : Sp := fun vs H Q _ => ∃ (x t u : Addr) (S : List Stm) (p : Pl) (s : Stm), vs = [.ref x, .ref u] ∧ Sc CS H x t S ∧ H u = some (.tup (p.map V.int)) ∧ p.length ≤ 100 ∧ look S p = some s ∧
  ∀ (v : V) (H' : Hp), Same H H' → s.at H' v → Q v H'
def spSLen (CS : Addr) : Sp := fun vs H Q _ => ∃ (x t : Addr) (S : List Stm), vs = [.ref x] ∧ Sc CS H x t S ∧ Q (.int (cntAll S : Nat)) H
section
variable {P : Program} {w : World} {K : PySem.W.Frag} {mg : Str → Option Value} {base : Heap} {CS CK it : Addr}
theorem scSI : FnScope ["self", "statements", "check"] ["self", "statements"] (defScope sSInit) := ⟨rfl, rfl, rfl, by decide +kernel, rfl, by decide +kernel, by decide +kernel⟩
theorem ok_sinit {f fI fB : Addr} {fd fdI fdB : FuncData} (F : Fun K "__init__" "Script.__init__" sSInit f fd) (B : Bl mg) (T : Txt K w mg CS CK it) (M : Mk K CK fI) (GI : FnOk P w K mg base CX0 1 fI fdI ["self"] (spKInit CK)) (bI : Binds K fdI ["self"] [])
    (GB : FnOk P w K mg base CX0 8 fB fdB psKB (spKB CK 3)) (bB : Binds K fdB psKB []) (mB : Meth K CK "check_branch" fB) : FnOk P w K mg base CX0 9 f fd ["self", "statements"] (spSInit CS) := by
  refine F.ok scSI (fun vs H Q E h => ?_) (fun cdv A outer s H vs Q E hr h => ?_)
  · obtain ⟨x, t, dx, xs, S, rfl, _⟩ := h
    rfl
  obtain ⟨x, t, dx, xs, S, rfl, hx, ht, hS, ne, ok, few, q⟩ := h
  have hr2 : Room 2 _ := hr.mono (by decide)
  refine ⟨_, pss_cons (ps_if (pt_not (pt_val (pe_callB call_isi (by rfl) T.isi (by decide +kernel) (pa_cons (pv 1) (pa_cons (pe_bltn (v := .ty "tuple") (by rfl) B.tuple (by decide +kernel) rfl) pa_nil))))) (pss_one ps_never) pss_nil)
    (pss_cons (ps_if (pt_not (pt_truth (pv 1) (by intro _; rfl))) (pss_one ps_never) pss_nil)
    (pss_cons (ps_set (i := 2) scSI.nd rfl (Or.inl rfl) (pe_make0 M GI hr2 rfl T.mgK bI .nil pass0))
    (pss_cons (ps_expr (pe_meth (pv 2) T.clK mB GB hr bB .nil pass0 (pa_cons (pv 1) (pa_cons (pe_tup pa_nil) (pa_cons pe_int pa_nil)))))
    (pss_cons (ps_fld (pv 0) (pv 1) rfl)
    (pss_cons (ps_fld (pv 0) (pe_fld (pv 2) rfl) rfl)
    (pss_one (ps_fld (pv 0) (pe_callTy call_tuple_of (by rfl) B.tuple (by decide +kernel) (pa_cons (pe_callTy (call_list_dT rfl) (by rfl) T.list (by decide +kernel) (pa_cons (pe_fld (pv 0) rfl) pa_nil)) pa_nil)) rfl))))))), ?_⟩
  refine ⟨_, rfl, _, _, _, _, true, rfl, .ty "tuple", .base (.tup ht), kit_ty (by decide +kernel), true, rfl, iteF ?_⟩
  have nx : xs.isEmpty = false := by
    have hl := atAll_len hS
    cases xs with
    | nil => exact absurd (List.length_eq_zero_iff.mp hl.symm) ne
    | cons _ _ => rfl
  refine ⟨_, rfl, true, .inr (.inl ⟨_, SqT.of ht, by rw [nx]; rfl⟩), iteF ?_⟩
  intro c dc nc ndc ndcc
  refine ⟨c, dc, rfl, upd_same, fun dd H1 hdd C k1 => ⟨rfl, ?_⟩⟩
  have s0 : Same H (L2.upd (L2.upd H dc (.own c)) c (.ins CK dc [])) := fun b o e => by
    rw [upd_ne (ne_of_none e nc), upd_ne (ne_of_none e ndc)]; exact e
  have s1 : Same H H1 := fun b o e => k1 b o (s0 b o e) (ne_of_none e nc)
  have hdd0 : H dd = none := s0.free hdd
  obtain ⟨⟨dxc, hc1⟩, kvs0, hk0, _⟩ := id C
  refine ⟨_, rfl, c, dxc, _, rfl, hc1, rfl, _, rfl, (by show 0 ≤ sizeLine; decide), fun e he => ?_⟩
  have s2 := s1.trans (same_new he (.tup []))
  have s12 := same_new he (.tup [])
  refine ⟨c, dd, t, e, xs, 0, S, 0, [], [], rfl, rfl, by decide, C.keep s12, s2 _ _ ht, atAll_keep (TK.of_same s2) _ _ hS, upd_same, rfl, ok, by show 0 + cntAll S ≤ 8; omega, fun j q' => rfl, fun H3 C3 k3 => ?_⟩
  have k03 : Kp dd H H3 := (Kp.of_same s2).trans k3
  have s3 : Same H H3 := fun b o e => k03 b o e (ne_of_none e hdd0)
  obtain ⟨⟨dx3, hc3⟩, kvs, hk3, fr3⟩ := C3
  have nxc : x ≠ c := ne_of_none hx nc
  have nxd : x ≠ dd := ne_of_none hx hdd0
  refine ⟨_, rfl, _, rfl, x, CS, dx, [], rfl, s3 _ _ hx, T.clS, T.nS, (by show 0 < 1000; decide), ?_⟩
  refine ⟨_, rfl, c, CK, dx3, _, _, rfl, by rw [upd_ne nxc.symm]; exact hc3, T.clK, T.kF, rfl, _, rfl, x, CS, dx, _, rfl, upd_same, T.clS, T.nF, (by show 1 < 1000; decide), ?_⟩
  have hk5 : ∀ o1 o2, (L2.upd (L2.upd H3 x o1) x o2) dd = some (.dT kvs) := fun o1 o2 => by rw [upd_ne nxd.symm, upd_ne nxd.symm]; exact hk3
  refine ⟨_, rfl, x, CS, dx, _, _, rfl, upd_same, T.clS, T.nF, (by rw [lookup_putF, if_pos rfl]), dd, kvs, rfl, .inl (hk5 _ _), fun l bs hl hkeys => ?_⟩
  refine ⟨l, _, rfl, .inl ⟨SqL.of upd_same, fun pl hpl => ?_⟩⟩
  have nxl : x ≠ l := ne_of_none upd_same hl
  have nxp : x ≠ pl := ne_of_none (H := L2.upd (L2.upd (L2.upd H3 x _) x _) l _) (by rw [upd_ne nxl]; exact upd_same) hpl
  refine ⟨_, rfl, x, CS, dx, _, rfl, by rw [upd_ne nxp, upd_ne nxl]; exact upd_same, T.clS, T.nP, (by show 2 < 1000; decide), ?_⟩
  rw [flds_put]
  have kx : Kp x H3 (L2.upd (L2.upd (L2.upd (L2.upd (L2.upd H3 x (.ins CS dx (putF "statements" (.ref t) []))) x (.ins CS dx (putF "found" (.ref dd) (putF "statements" (.ref t) [])))) l (.lst (bs.map V.ref))) pl (.tup (bs.map V.ref))) x (.ins CS dx (flds t dd pl))) := by
    intro b o e nb
    have eb : (L2.upd (L2.upd H3 x (.ins CS dx (putF "statements" (.ref t) []))) x (.ins CS dx (putF "found" (.ref dd) (putF "statements" (.ref t) [])))) b = some o := by rw [upd_ne nb, upd_ne nb]; exact e
    have el : (L2.upd (L2.upd (L2.upd H3 x (.ins CS dx (putF "statements" (.ref t) []))) x (.ins CS dx (putF "found" (.ref dd) (putF "statements" (.ref t) [])))) l (.lst (bs.map V.ref))) b = some o := by rw [upd_ne (ne_of_none eb hl)]; exact eb
    rw [upd_ne nb, upd_ne (ne_of_none el hpl)]
    exact el
  have tkx : TK H3 _ := fun b ys e => kx b _ e (ne_of e (s3 _ _ hx) (by intro z; cases z))
  refine q _ ⟨⟨dx, dd, pl, bs, kvs, xs, upd_same, tkx _ _ (s3 _ _ ht), atAll_keep (TK.trans (TK.of_same s3) tkx) _ _ hS, kx _ _ hk3 nxd.symm, FRel.keep tkx fr3, ?_, ?_⟩, ne, ok, few⟩ ((Kp.of_same s3).trans kx)
  · rw [upd_ne nxp.symm, upd_same]
  · refine L2.Paired.mapP hkeys fun a b e => ?_
    have nbx : b ≠ x := fun z => by rw [z, upd_same] at e; cases e
    rw [upd_ne nbx, upd_ne nbx] at e
    exact kx b _ e nbx
theorem keys_len {H : Hp} : ∀ {kvs : List (List Key × V)} {bs : List Addr}, IsKeys H kvs bs → kvs.length = bs.length
  | _, _, h => PySem.Paired.length h
theorem scSL : FnScope ["self"] ["self"] (defScope sSLen) := ⟨rfl, rfl, rfl, by decide +kernel, rfl, by decide +kernel, by decide +kernel⟩
theorem ok_slen {f : Addr} {fd : FuncData} (F : Fun K "__len__" "Script.__len__" sSLen f fd) (B : Bl mg) (T : Txt K w mg CS CK it) : FnOk P w K mg base CX0 1 f fd ["self"] (spSLen CS) := by
  refine F.ok scSL (fun vs H Q E h => ?_) (fun cdv A outer s H vs Q E hr h => ?_)
  · obtain ⟨x, t, S, rfl, _⟩ := h
    rfl
  obtain ⟨x, t, S, rfl, ⟨⟨dx, dd, pl, bs, kvs, xs, h1, h2, h3, h4, h5, h6, h7⟩, _⟩, q⟩ := h
  refine ⟨_, pss_one (ps_ret (pe_callB call_len_seq (by rfl) B.len PySem.boot_len (pa_cons (pe_fld (pv 0) rfl) pa_nil))), ?_⟩
  have e : (((bs.map V.ref).length : Nat) : Int) = ((cntAll S : Nat) : Int) := by
    rw [List.length_map, ← keys_len h7, h5.len, walkAll_len]
  refine ⟨_, rfl, x, CS, dx, _, _, rfl, h1, T.clS, T.nP, flds_pl _ _ _, pl, _, rfl, .inr (SqT.of h6), ?_⟩
  rw [e]
  exact q
theorem all_ints : ∀ {xs : List V}, xs.all intB = true → ∃ p : Pl, xs = p.map V.int
  | [], _ => ⟨[], rfl⟩
  | x :: r, h => by
    rw [List.all_cons, Bool.and_eq_true] at h
    obtain ⟨p, e⟩ := all_ints h.2
    match x, h.1 with
    | .int i, _ => exact ⟨i :: p, by rw [e]; rfl⟩
theorem Sc.val {H : Hp} {x t : Addr} {S : List Stm} {p : Pl} {kvs : List (List Key × V)} (h5 : FRel H kvs (walkAll S [] 0)) : (look S p = none → valV kvs (key p) = none) ∧ (∀ s, look S p = some s → ∃ v, valV kvs (key p) = some v ∧ s.at H v) := by
  have z := h5.val p
  rw [look_lk] at z
  exact z
theorem scSH : FnScope ["self", "place", "item"] ["self", "place"] (defScope sSHas) := ⟨rfl, rfl, rfl, by decide +kernel, rfl, by decide +kernel, by decide +kernel⟩
theorem ok_shas {f fI : Addr} {fd fdI : FuncData} (F : Fun K "__contains__" "Script.__contains__" sSHas f fd) (B : Bl mg) (T : Txt K w mg CS CK it)
    (GI : FnOk P w K mg base CX0 1 fI fdI ["value"] (spIsInt K)) (bI : Binds K fdI ["value"] []) (kI : PySem.W.keepIn K (.ref fI) = true) (mI : mg "is_integer" = some (.ref fI)) : FnOk P w K mg base CX0 2 f fd ["self", "place"] (spHas CS) := by
  refine F.ok scSH (fun vs H Q E h => ?_) (fun cdv A outer s H vs Q E hr h => ?_)
  · obtain ⟨x, t, v, S, rfl, _⟩ := h
    rfl
  obtain ⟨x, t, v, S, rfl, C, hv⟩ := h
  have hu' := hu_of hr
  refine ⟨_, pss_cons (ps_if (PW.pt (pw_or (pt_not (pt_val (pe_callB call_isi (by rfl) T.isi (by decide +kernel) (pa_cons (pv 1) (pa_cons (pe_bltn (v := .ty "tuple") (by rfl) B.tuple (by decide +kernel) rfl) pa_nil)))))
      (pw_or1 (pt_not (pt_val (pe_callB (cr_all rfl) (by rfl) T.all (by decide +kernel) (pa_cons
        (pe_lc (own := [("item", 2)]) (g := gName 2) (tt := tYes) rfl scSH.nd (pi_tup (pv 1)) (blkOk_by (own := [("item", 2)]) (N := ["self", "place", "item"]) (sc := defScope sSHas) (by decide +kernel))
          (fun _ _ _ _ _ => pg_name (i := 2) scSH.nd rfl (Or.inl rfl)) (fun _ _ _ _ _ => pts_nil)
          (fun _ _ _ _ _ => pe_call GI hr rfl mI kI bI .nil pass0 (pa_cons (pv 2) pa_nil))) pa_nil))))))) (pss_one (ps_ret pe_bl)) pss_nil)
    (pss_one (ps_ret (pe_cmp (pc_din hu' (pv 1) (pe_fld (pv 0) rfl)) rfl))), ?_⟩
  rcases hv with ⟨T', kd, kt, q⟩ | ⟨u, xs, rfl, hu, h100, kds, q1, q2⟩
  · exact ⟨_, rfl, _, _, _, _, false, rfl, .ty "tuple", kd.ty, kit_ty kt, false, rfl, iteT (iteT q)⟩
  · refine ⟨_, rfl, _, _, _, _, true, rfl, .ty "tuple", .base (.tup hu), kit_ty (by decide +kernel), true, rfl, iteF ?_⟩
    refine ⟨_, rfl, u, rfl, ⟨_, SqT.of hu⟩, fun D hD => ?_⟩
    refine lc_tup (K := K) (a := u) (xs := xs) (fun i H7 => H7 D = some (.lst (((xs.take i).map intB).map V.bl)) ∧ Same H H7) ⟨upd_same, same_new hD _⟩ (fun i H7 _ z => SqT.of (z.2 _ _ hu)) ?_ ?_
    · rintro i y H7 hy ⟨h1, h2⟩
      refine ⟨rfl, ?_⟩
      unfold tYes
      dsimp only
      rw [if_pos rfl]
      obtain ⟨T', kd⟩ := kds y (List.mem_of_getElem? hy)
      obtain ⟨b1, b2, e1, e2, e3⟩ := kd.intB
      have lt : i < xs.length := (List.getElem?_eq_some_iff.mp hy).1
      refine ⟨_, rfl, y, T', b1, b2, rfl, (kd.keep h2).ty, e1, e2, _, h1, small1000 (by simp; omega), ?_, ?_⟩
      · rw [upd_same, List.take_add_one, hy, e3]
        simp
      · intro b o e
        rw [upd_ne (ne_of_none e hD)]
        exact h2 b o e
    · rintro H7 ⟨h1, h2⟩
      refine ⟨D, _, rfl, SqL.of h1, ?_⟩
      rw [List.take_length]
      have ea : (xs.map intB).all id = xs.all intB := by rw [List.all_map]; rfl
      rw [ea]
      cases ec : xs.all intB with
      | false => exact ⟨_, rfl, iteT (q1 ec H7 h2)⟩
      | true =>
        obtain ⟨p, rfl⟩ := all_ints ec
        obtain ⟨⟨dx, dd, pl, bs, kvs, ys, g1, g2, g3, g4, g5, g6, g7⟩, _⟩ := C.keep h2
        have z := Sc.val (x := x) (t := t) (p := p) g5
        have hg : DGet H7 dd (.ref u) (valV kvs (key p)) := DGet.t g4 (by rw [key_kV]; exact h2 _ _ hu)
        refine ⟨_, rfl, iteF ⟨_, rfl, _, rfl, x, CS, dx, _, _, rfl, g1, T.clS, T.nF, flds_fo _ _ _, dd, _, rfl, hg, ?_⟩⟩
        have e : (valV kvs (key p)).isSome = (look S p).isSome := by
          cases el : look S p with
          | none => rw [z.1 el]; rfl
          | some s =>
            obtain ⟨v, ev, _⟩ := z.2 s el
            rw [ev]; rfl
        rw [e]
        exact q2 p rfl H7 h2
theorem scSG : FnScope ["self", "place"] ["self", "place"] (defScope sSGet) := ⟨rfl, rfl, rfl, by decide +kernel, rfl, by decide +kernel, by decide +kernel⟩
theorem ok_sget {f fH : Addr} {fd fdH : FuncData} (F : Fun K "__getitem__" "Script.__getitem__" sSGet f fd) (T : Txt K w mg CS CK it)
    (GH : FnOk P w K mg base CX0 2 fH fdH ["self", "place"] (spHas CS)) (bH : Binds K fdH ["self", "place"] []) (mH : OwnM K CS "__contains__" fH) : FnOk P w K mg base CX0 3 f fd ["self", "place"] (spGet CS) := by
  refine F.ok scSG (fun vs H Q E h => ?_) (fun cdv A outer s H vs Q E hr h => ?_)
  · obtain ⟨x, t, u, S, p, s, rfl, _⟩ := h
    rfl
  obtain ⟨x, t, u, S, p, st, rfl, C, hu, h100, hl, q⟩ := h
  have hu' := hu_of hr
  refine ⟨_, pss_cons (ps_if (pt_cmpR (op_notInOwn mH GH hr bH pass0) (pv 1) (pv 0) (by rfl)) (pss_one ps_never) pss_nil)
    (pss_one (ps_ret (pe_dget hu' (pe_fld (pv 0) rfl) (pv 1) (fun _ _ => rfl)))), ?_⟩
  obtain ⟨⟨dx, dd, pl, bs, kvs, ys, g1, g2, g3, g4, g5, g6, g7⟩, _⟩ := id C
  refine ⟨_, rfl, _, rfl, x, dx, _, rfl, g1, x, t, .ref u, S, rfl, C, .inr ⟨u, _, rfl, hu, by rw [List.length_map]; exact h100, ?_, ?_, ?_⟩⟩
  · intro y hy
    obtain ⟨i, _, rfl⟩ := List.mem_map.mp hy
    exact ⟨_, .int i⟩
  · intro e
    have : (p.map V.int).all intB = true := by rw [List.all_map]; exact List.all_eq_true.mpr fun _ _ => rfl
    rw [this] at e; cases e
  · intro p' e H' s1
    have ep : p = p' := by
      have inj : ∀ {a b : Pl}, a.map V.int = b.map V.int → a = b := by
        intro a
        induction a with
        | nil => intro b e; cases b with
          | nil => rfl
          | cons _ _ => cases e
        | cons i r ih => intro b e; cases b with
          | nil => cases e
          | cons j r' =>
            rw [List.map_cons, List.map_cons] at e
            injection e with e1 e2
            injection e1 with e1
            rw [e1, ih e2]
      exact inj e
    subst ep
    rw [hl]
    refine ⟨true, rfl, _, rfl, iteF ?_⟩
    obtain ⟨⟨dx, dd, pl, bs, kvs, ys, g1, g2, g3, g4, g5, g6, g7⟩, _⟩ := C.keep s1
    obtain ⟨v, ev, hv⟩ := (Sc.val (x := x) (t := t) (p := p) g5).2 st hl
    have hg : DGet H' dd (.ref u) (valV kvs (key p)) := DGet.t g4 (by rw [key_kV]; exact s1 _ _ hu)
    rw [ev] at hg
    exact ⟨_, rfl, x, CS, dx, _, _, rfl, g1, T.clS, T.nF, flds_fo _ _ _, _, rfl, dd, v, rfl, hg, q v H' s1 hv⟩
end
end Tk
set_option maxRecDepth 100000
namespace Tk
open PySem L2
abbrev sAnswers : Stmt := top 15
abbrev sIsAns : Stmt := top 16
def isChB : Stm → Bool
  | .ch _ _ => true
  | _ => false
def answs (s : Stm) : List V := if isChB s = true then [.int 0, .int 1] else [.int 0]
/-- v is a possible answer at s -/
def canB (s : Stm) : V → Bool
  | .int a => inV (.int a) (answs s)
  | _ => false
def spAnswers : Sp := fun vs H Q _ => ∃ (v : V) (s : Stm), vs = [v] ∧ s.at H v ∧ ∀ (z : Addr) (H' : Hp), Same H H' → H' z = some (.tup (answs s)) → Q (.ref z) H'
def spIsAns (K : PySem.W.Frag) : Sp := fun vs H Q _ => ∃ (v x : V) (s : Stm) (T : String) (b1 b2 : Bool), vs = [v, x] ∧ s.at H v ∧ TyX K H x (.type T) ∧ kitB T "int" = some b1 ∧ kitB T "bool" = some b2 ∧ (b1 && !b2) = intB x ∧
  ∀ H' : Hp, Same H H' → Q (.bl (canB s x)) H'
section
variable {P : Program} {w : World} {K : PySem.W.Frag} {mg : Str → Option Value} {base : Heap} {CS CK it : Addr}
theorem scAns : FnScope ["statement"] ["statement"] (defScope sAnswers) := ⟨rfl, rfl, rfl, by decide +kernel, rfl, by decide +kernel, by decide +kernel⟩
theorem ok_answers {f : Addr} {fd : FuncData} (F : Fun K "answers_of" "answers_of" sAnswers f fd) : FnOk P w K mg base CX0 1 f fd ["statement"] spAnswers := by
  refine F.ok scAns (fun vs H Q E h => ?_) (fun cdv A outer s H vs Q E hr h => ?_)
  · obtain ⟨v, s, rfl, _⟩ := h
    rfl
  obtain ⟨v, s, rfl, hs, q⟩ := h
  refine ⟨_, pss_one (ps_ret (pe_ifExp (pt_cmpR op_eq (pe_ix ix_tup (pv 0) pe_int (fun _ _ => rfl)) pe_str (nomark _)) (pe_tup (pa_cons pe_int (pa_cons pe_int pa_nil))) (pe_tup (pa_cons pe_int pa_nil)))), ?_⟩
  cases s with
  | one wd =>
    rw [Stm.at] at hs
    obtain ⟨b, rfl, hb⟩ := hs
    refine ⟨_, rfl, b, _, _, _, rfl, rfl, SqT.of hb, rfl, ?_⟩
    refine ⟨rfl, _, rfl, iteFb (wd_ne wd) ?_⟩
    exact ⟨(by show 1 ≤ sizeLine; decide), fun z hz => q z _ (same_new hz _) (by rw [upd_same]; rfl)⟩
  | nam bb nm =>
    rw [Stm.at] at hs
    obtain ⟨b, rfl, hb⟩ := hs
    refine ⟨_, rfl, b, _, _, _, rfl, rfl, SqT.of hb, rfl, ?_⟩
    refine ⟨rfl, _, rfl, iteFb (lk_ne bb) ?_⟩
    exact ⟨(by show 1 ≤ sizeLine; decide), fun z hz => q z _ (same_new hz _) (by rw [upd_same]; rfl)⟩
  | ch y n =>
    rw [Stm.at] at hs
    obtain ⟨b, c1, c2, xs1, xs2, rfl, hb, _⟩ := hs
    refine ⟨_, rfl, b, _, _, _, rfl, rfl, SqT.of hb, rfl, ?_⟩
    refine ⟨rfl, _, rfl, iteTb (by decide +kernel) ?_⟩
    exact ⟨(by show 2 ≤ sizeLine; decide), fun z hz => q z _ (same_new hz _) (by rw [upd_same]; rfl)⟩
theorem scIA : FnScope ["statement", "answer"] ["statement", "answer"] (defScope sIsAns) := ⟨rfl, rfl, rfl, by decide +kernel, rfl, by decide +kernel, by decide +kernel⟩
theorem ok_isans {f fI fW : Addr} {fd fdI fdW : FuncData} (F : Fun K "is_answer" "is_answer" sIsAns f fd) (GI : FnOk P w K mg base CX0 1 fI fdI ["value"] (spIsInt K)) (bI : Binds K fdI ["value"] []) (kI : PySem.W.keepIn K (.ref fI) = true) (mI : mg "is_integer" = some (.ref fI))
    (GA : FnOk P w K mg base CX0 1 fW fdW ["statement"] spAnswers) (bA : Binds K fdW ["statement"] []) (kA : PySem.W.keepIn K (.ref fW) = true) (mA : mg "answers_of" = some (.ref fW)) :
    FnOk P w K mg base CX0 2 f fd ["statement", "answer"] (spIsAns K) := by
  refine F.ok scIA (fun vs H Q E h => ?_) (fun cdv A outer s H vs Q E hr h => ?_)
  · obtain ⟨v, x, s, T, b1, b2, rfl, _⟩ := h
    rfl
  obtain ⟨v, x, s, T, b1, b2, rfl, hs, ty, e1, e2, e3, q⟩ := h
  refine ⟨_, pss_one (ps_ret (pe_and (pe_call GI hr rfl mI kI bI .nil pass0 (pa_cons (pv 1) pa_nil)) (pe_one (pe_cmpR op_in_seq (pv 1) (pe_call GA hr rfl mA kA bA .nil pass0 (pa_cons (pv 0) pa_nil)) (by rfl))))), ?_⟩
  refine ⟨_, rfl, x, T, b1, b2, rfl, ty, e1, e2, _, rfl, ?_⟩
  rw [e3]
  cases x with
  | int a =>
    refine iteT ⟨_, rfl, _, rfl, v, s, rfl, hs, fun z H' s' hz => ?_⟩
    refine ⟨z, answs s, rfl, .inr (SqT.of hz), rfl, ?_, q H' s'⟩
    unfold answs
    split <;> rfl
  | _ => exact iteF (q H (Same.refl H))
end
end Tk
set_option maxRecDepth 100000
namespace L2
open PySem PySem.Spec PyProof.Rows
/-! ### a class's own methods, where an error may come out -/
section
variable {X : Cx} {CX : CXT} {k n : Nat} {C f : Addr} {fd : FuncData} {ps : List Str} {sp : Sp} {E : St → XK}
theorem tk_runS {A : Around} {pins : List (Addr × Obj)} {σ : St} {H : Hp} {s : Shared} {Q : VK} {us : List Value} {vs : List V} (sb : Sub X k A) (F : FnOk X.prog X.w X.K X.mg X.base CX k f fd ps sp) (hb : Binds X.K fd ps []) (hx : PassesAt CX X σ (E σ))
    (I : Inv X pins σ H s) (r : Vals vs us) (h : sp vs H Q (E σ)) : wpAny (model X.prog X.w) A (call (.ref f) us) (EP X pins σ Q) X.xe s := by
  have e := I.env0
  have e0 : Env0 X.prog X.w X.K X.mg X.base A X.stack s H := ⟨by rw [sb.fr]; exact e.frames, e.mod, e.bs, e.bsz, e.funs, e.frf, e.hok, e.bare⟩
  have hl : us.length = ps.length := r.length.symm.trans (F.len _ _ _ _ h)
  have bd := hb s us I.kIn (by simpa using hl)
  refine wpAny_call (codeAny_mono (F.run A X.stack s H ⟨us, []⟩ us vs Q (E σ) sb.room e0 (by simpa using bd) r h) fun res s' hq => ?_)
  match res, hq with
  | .error e, hq => exact hx pins H s e s' I hq
  | .ok (.ret u), hq => exact I.after hq
/-- o[i] by the class's own __getitem__, which may raise -/
def tIxS (C : Addr) (sp : Sp) (E : St → XK) (ta tb : TE) : TE := fun σ H Q => ta σ H fun x H1 => tb σ H1 fun y H2 => rOwn2 C sp (E σ) x y H2 Q
theorem ix_ownS {value slice : Expr} (M : OwnM X.K C "__getitem__" f) (hf : PySem.W.fnIn X.K f = true) (F : FnOk X.prog X.w X.K X.mg X.base CX k f fd ps sp) (hr : Room (k + 1) X.A) (hb : Binds X.K fd ps []) (hx : ∀ σ, PassesAt CX X σ (E σ))
    {a b : Expr} {ta tb : TE} {pos : Pos} (ha : PE X a ta) (hb2 : PE X b tb) (hs : ∀ o i, subscripted b true o i = runValue (.builtin "lifetime.subscript" ⟨[o, i], []⟩)) : PE X (.Subscript a b pos) (tIxS C sp E ta tb) := by
  refine ⟨fun pins s σ H Q I h => ?_⟩
  refine Subscript_ (binT ha hb2 I h fun v u s2 x y H2 I2 rx ry q => ?_)
  obtain ⟨p, dx, fs, rfl, hp, q⟩ := q
  obtain rfl : v = Value.ref p := rx
  obtain ⟨ox, od, J⟩ := ownInst I2 hp
  obtain ⟨m, hF⟩ := I2.fr
  refine PySem.W.sub_K hF I2.ok.mod.kin J M.at_ hf M.fn ?_ (hs _ _)
  exact tk_runS ⟨hr.in1, rfl⟩ F hb (hx σ) I2 (.cons (show RelV (.ref p) (.ref p) from rfl) (.cons ry .nil)) q
end
/-! ### an error class with one field -/
structure Ecl (K : PySem.W.Frag) (mg : Str → Option Value) (nm f : Str) (C fI : Addr) : Prop where
  gC : mg nm = some (.ref C)
  ox : OexC K C
  iC : PySem.W.findIn K (.ref C) "__init__" = some (some (.ref fI))
  tI : PySem.W.typeIn K (.ref fI) = some (.type "function")
  noF : PySem.W.findIn K (.ref C) f = some none
  xf : XfC K C
  cl : (PySem.W.clsIn K C).isSome = true
  ha : PySem.W.findIn K (.ref C) "__class__" = some (some (.builtin "object.__class__"))
  hn : PySem.W.specialIn K (.builtin "object.__class__") "__get__" = some (some (.builtin "getset_descriptor.__get__"))
  ht : PySem.W.takesIn K (.builtin "object.__class__") = some true
  hm : PySem.W.mroIn K C (.type "object") = some true
  te : PySem.W.exmOne K (.ref C) (.ref C) = some true
/-- what such an __init__ promises -/
def spEI (C : Addr) (f : Str) : Sp := fun vs H Q _ => ∃ (a : Addr) (v : V), vs = [.ref a, v] ∧ H a = some (exo a C none) ∧ ∀ dx, H dx = none → dx ≠ a → Q .non (upd (upd H dx (exd dx [(f, v)])) a (exo a C (some dx)))
/-- raise C(e) -/
theorem ps_raise1 {X : Cx} {W : WX} {nm f : Str} {C fI : Addr} {fd : FuncData} {ps : List Str} {e : Expr} {es : List Expr} {ta : TA} {p pos ppos : Pos} (hc : X.calm = true) (tk : Takes X W) (T : Ecl X.K X.mg nm f C fI) (F1 : FnOk X.prog X.w X.K X.mg X.base CX0 1 fI fd ps (spEI C f)) (hr : Room 2 X.A) (hb : Binds X.K fd ps [])
    (hg : Gl X nm) (ha : PA X (e :: es) ta) (hdb : (nm == ("__debug__" : Str)) = false := by decide) (he : starEach (e :: es) X.env = (false, eval e X.env) :: starEach es X.env := by rfl) (hpl : (backTo pos (starEach es X.env)).any (·.1) = false := by rfl) :
    PS X (.Raise (some (.Call (.Name nm p) (e :: es) [] pos)) none ppos) (fun _ σ H => tMkO C (spEI C f) [] ta σ H fun cls d H' => W cls d σ H') :=
  ps_raise (pos := ppos) hc tk (pmk_oex T.ox T.iC T.tI F1 hr hb .nil pass0 hg T.gC ha hdb he hpl)
theorem made1 {C : Addr} {f : Str} {v : V} {H1 : Hp} {Q : XK} (q : ∀ d, H1 d = none → Q (.ref C) (some d) (upd H1 d (.xd [(f, v)]))) : [v].length ≤ 1000 ∧ ∀ a, H1 a = none → spEI C f (.ref a :: ([v] ++ [])) (upd H1 a (exo a C none))
    (fun v H2 => v = .non ∧ ∃ (d : Addr) (fs : List (Str × V)), H2 a = some (exo a C (some d)) ∧ H2 d = some (exd d fs) ∧ H1 d = none ∧ Q (.ref C) (some d) (upd (del H2 a) d (.xd fs))) (fun _ _ _ => False) := by
  refine ⟨(by show 1 ≤ 1000; decide), fun a ha => ⟨a, v, rfl, upd_same, fun dx hd ne => ⟨rfl, dx, _, upd_same, by rw [upd_ne ne, upd_same], by rw [upd_ne ne] at hd; exact hd, ?_⟩⟩⟩
  have hd' : H1 dx = none := by rw [upd_ne ne] at hd; exact hd
  have e : upd (del (upd (upd (upd H1 a (exo a C none)) dx (exd dx [(f, v)])) a (exo a C (some dx))) a) dx (.xd [(f, v)]) = upd H1 dx (.xd [(f, v)]) := by
    funext b
    by_cases h1 : b = dx
    · rw [h1, upd_same, upd_same]
    · rw [upd_ne h1, upd_ne h1]
      by_cases h2 : b = a
      · rw [h2, del_same, ha]
      · rw [del_ne h2, upd_ne h2, upd_ne h1, upd_ne h2]
  rw [e]
  exact q dx hd'
/-- isinstance(e, c), e the caught error with its dict -/
def rIsX (K : PySem.W.Frag) (a : Addr) (cls : Value) (d : Option Addr) (D : Addr) : List V → Hp → VK → Prop := fun xs H Q => ∃ (c : V) (cv : Value) (b : Bool) (dd : Addr) (fs : List (Str × V)), cls = .ref D ∧ d = some dd ∧ H dd = some (.xd fs) ∧ xs = [.ref a, c] ∧ (∀ u, RelV c u → u = cv) ∧ PySem.W.kitOne K (.ref D) cv = some b ∧ Q (.bl b) H
theorem call_isX {X : Cx} {a D : Addr} {cls : Value} {d : Option Addr} {nm f : Str} {fI : Addr} {mg : Str → Option Value} {oe : Obj} {pn : List (Addr × Obj)} (T : Ecl X.K mg nm f D fI) (hz : Zc cls d oe) (hf : ∃ vs, oe.data = .fields vs) :
    CallR (X.suite a ((a, oe) :: pn)) (.builtin "isinstance") (rIsX X.K a cls d D) := by
  rintro pins s σ H xs us Q I r ⟨c, cv, b, dd, fs, rfl, rfl, ea, rfl, hcv, e, q⟩
  obtain ⟨u1, u2, rfl, r1, r2⟩ : ∃ u1 u2, us = [u1, u2] ∧ RelV (.ref a) u1 ∧ RelV c u2 := by
    cases r with
    | cons p1 t1 => cases t1 with
      | cons p2 t2 => cases t2; exact ⟨_, _, rfl, p1, p2⟩
  obtain rfl : u1 = Value.ref a := r1
  rw [hcv u2 r2]
  have own := (I.pin (a, oe) (List.mem_append_left _ List.mem_cons_self)).1
  obtain ⟨vs, isF⟩ := hf
  obtain ⟨mA, named, _⟩ := show ObjOk X.prog X.w H s.heap dd (.xd fs) from I.hok dd _ ea
  obtain ⟨od, at_, _⟩ := lookIn_ns named
  have J : PySem.W.InstAt s.heap a oe D (some od) := by
    refine ⟨own, hz.1, ?_, by rw [hz.2]; exact at_⟩
    unfold PySem.W.notCls
    rw [isF] <;> rfl
  have kit := PySem.W.kitx_exc (x := a) (ox := oe) (od := some od) T.cl T.xf.ga T.xf.gg T.xf.exC T.ha T.hn T.ht T.hm
  exact PySem.W.kia_one kit I.kIn J e (fun z => nomatch z) fun tk => ⟨.bl b, H, I.kept (t' := tk) fun _ _ z => z, rfl, q⟩
/-- x == x, for data and for empty dicts -/
def Slf (K : PySem.W.Frag) (H : Hp) (v : V) : Prop := (∃ d, Dp K H v d ∧ SeqAt.shaped d = true ∧ PyData.eqv d d = true) ∨ ∃ a, v = .ref a ∧ H a = some (.dK [])
def rSlf (K : PySem.W.Frag) : R2 := fun x y H Q => x = y ∧ Slf K H x ∧ Q (.bl true) H
theorem op_slf {X : Cx} (hu : X.A.units + 64 < cLine) : OpR X (compareOp .Eq) (rSlf X.K) := by
  intro pins s σ H x y v u Q I rx ry h
  obtain ⟨rfl, h, q⟩ := h
  rcases h with ⟨d, h1, h2, h3⟩ | ⟨a, rfl, h⟩
  · exact op_eqD hu pins s σ H x x v u Q I rx ry ⟨d, d, h1, h1, h2, h2, by rw [h3]; exact q⟩
  · exact op_eqV hu pins s σ H _ _ v u Q I rx ry ⟨1, by decide, .inr ⟨a, a, [], [], rfl, rfl, h, h, rfl, fun p hp => nomatch hp⟩, q⟩
end L2
namespace Tk
open PySem L2
/-- what is no place of the script S -/
def NoPl (H : Hp) (S : List Stm) (v : V) : Prop := (∃ T, Kd H v T ∧ kitB T "tuple" = some false) ∨ ∃ u xs, v = .ref u ∧ H u = some (.tup xs) ∧ xs.length ≤ 100 ∧ (∀ y ∈ xs, ∃ T, Kd H y T) ∧ ∀ p, xs = p.map V.int → look S p = none
theorem NoPl.keep {H H' : Hp} {S : List Stm} {v : V} (s : Same H H') (h : NoPl H S v) : NoPl H' S v := by
  rcases h with ⟨T, k, e⟩ | ⟨u, xs, rfl, h1, h2, h3, h4⟩
  · exact .inl ⟨T, k.keep s, e⟩
  · exact .inr ⟨u, xs, rfl, s _ _ h1, h2, fun y hy => (h3 y hy).imp fun _ k => k.keep s, h4⟩
/-- script[place], there or not -/
def spGetX (CS CN : Addr) : Sp := fun vs H Q E => ∃ (x t : Addr) (v : V) (S : List Stm), vs = [.ref x, v] ∧ Sc CS H x t S ∧
  ((∃ (u : Addr) (p : Pl) (s : Stm), v = .ref u ∧ H u = some (.tup (p.map V.int)) ∧ p.length ≤ 100 ∧ look S p = some s ∧ ∀ (w : V) (H' : Hp), Same H H' → s.at H' w → Q w H') ∨
   (NoPl H S v ∧ ∀ (d : Addr) (H' : Hp), Same H H' → H d = none → H' d = some (.xd [("place", v)]) → E (.ref CN) (some d) H'))
abbrev sNPInit : Stmt := inClass (top 3) 0
section
variable {P : Program} {w : World} {K : PySem.W.Frag} {mg : Str → Option Value} {base : Heap} {CS CK it CN : Addr}
theorem scNP : FnScope ["self", "place"] ["self", "place"] (defScope sNPInit) := ⟨rfl, rfl, rfl, by decide +kernel, rfl, by decide +kernel, by decide +kernel⟩
theorem ok_npi {f : Addr} {fd : FuncData} (F : Fun K "__init__" "NoPlace.__init__" sNPInit f fd) (T : Ecl K mg "NoPlace" "place" CN f) : FnOk P w K mg base CX0 1 f fd ["self", "place"] (spEI CN "place") := by
  refine F.ok scNP (fun vs H Q E h => ?_) (fun cdv A outer s H vs Q E hr h => ?_)
  · obtain ⟨a, v, rfl, _⟩ := h
    rfl
  obtain ⟨a, v, rfl, ha, q⟩ := h
  refine ⟨_, pss_one (ps_ost (pv 0) (pv 1) rfl), ?_⟩
  exact ⟨_, rfl, _, rfl, a, CN, rfl, T.ox, T.noF, .inl ⟨ha, fun dx h1 h2 => q dx h1 h2⟩⟩
theorem map_int_inj : ∀ {a b : Pl}, a.map V.int = b.map V.int → a = b
  | [], [], _ => rfl
  | [], _ :: _, e => by cases e
  | _ :: _, [], e => by cases e
  | i :: r, j :: r', e => by
    rw [List.map_cons, List.map_cons] at e
    injection e with e1 e2
    injection e1 with e1
    rw [e1, map_int_inj e2]
theorem ok_sgetX {f fH fI : Addr} {fd fdH fdI : FuncData} (F : Fun K "__getitem__" "Script.__getitem__" sSGet f fd) (T : Txt K w mg CS CK it) (TN : Ecl K mg "NoPlace" "place" CN fI)
    (GI : FnOk P w K mg base CX0 1 fI fdI ["self", "place"] (spEI CN "place")) (bI : Binds K fdI ["self", "place"] [])
    (GH : FnOk P w K mg base CX0 2 fH fdH ["self", "place"] (spHas CS)) (bH : Binds K fdH ["self", "place"] []) (mH : OwnM K CS "__contains__" fH) : FnOk P w K mg base (L2.CX P w) 3 f fd ["self", "place"] (spGetX CS CN) := by
  refine F.okX scSG (fun vs H Q E h => ?_) (fun cdv A outer s H vs Q E hr h => ?_)
  · obtain ⟨x, t, v, S, rfl, _⟩ := h
    rfl
  obtain ⟨x, t, v, S, rfl, C, hv⟩ := h
  have hu' := hu_of hr
  refine ⟨_, pss_cons (ps_if (pt_cmpR (op_notInOwn mH GH hr bH pass0) (pv 1) (pv 0) (by rfl)) (pss_one (ps_raise1 rfl (takes_of rfl rfl rfl rfl) TN GI hr bI rfl (pa_cons (pv 1) pa_nil))) pss_nil)
    (pss_one (ps_ret (pe_dget hu' (pe_fld (pv 0) rfl) (pv 1) (fun _ _ => rfl)))), ?_⟩
  have has : ∀ H', Same H H' → Sc CS H' x t S := fun H' s => C.keep s
  obtain ⟨⟨dx, dd, pl, bs, kvs, ys, g1, g2, g3, g4, g5, g6, g7⟩, _⟩ := id C
  refine ⟨_, rfl, _, rfl, x, dx, _, rfl, g1, x, t, v, S, rfl, C, ?_⟩
  rcases hv with ⟨u, p, st, rfl, hu, h100, hl, q⟩ | ⟨np, q⟩
  · refine .inr ⟨u, _, rfl, hu, by rw [List.length_map]; exact h100, ?_, ?_, ?_⟩
    · intro y hy
      obtain ⟨i, _, rfl⟩ := List.mem_map.mp hy
      exact ⟨_, .int i⟩
    · intro e
      have : (p.map V.int).all intB = true := by rw [List.all_map]; exact List.all_eq_true.mpr fun _ _ => rfl
      rw [this] at e; cases e
    · intro p' e H' s1
      have ep : p = p' := map_int_inj e
      subst ep
      rw [hl]
      refine ⟨true, rfl, _, rfl, iteF ?_⟩
      obtain ⟨⟨dx, dd, pl, bs, kvs, ys, g1, g2, g3, g4, g5, g6, g7⟩, _⟩ := C.keep s1
      obtain ⟨v, ev, hv⟩ := (Sc.val (x := x) (t := t) (p := p) g5).2 st hl
      have hg : DGet H' dd (.ref u) (valV kvs (key p)) := DGet.t g4 (by rw [key_kV]; exact s1 _ _ hu)
      rw [ev] at hg
      exact ⟨_, rfl, x, CS, dx, _, _, rfl, g1, T.clS, T.nF, flds_fo _ _ _, _, rfl, dd, v, rfl, hg, q v H' s1 hv⟩
  · rcases np with ⟨T', kd, e⟩ | ⟨u, xs, rfl, hu, h100, kds, no⟩
    · exact .inl ⟨T', kd, e, ⟨false, rfl, _, rfl, iteT ⟨_, rfl, made1 fun d hd => q d _ ((show Same H H from fun _ _ e => e).trans (same_new hd _)) ((show Same H H from fun _ _ e => e).free hd) upd_same⟩⟩⟩
    · refine .inr ⟨u, xs, rfl, hu, h100, kds, fun e H' s1 => ⟨false, rfl, _, rfl, iteT ⟨_, rfl, made1 fun d hd => q d _ (s1.trans (same_new hd _)) (s1.free hd) upd_same⟩⟩, fun p e H' s1 => ?_⟩
      rw [no p e]
      exact ⟨false, rfl, _, rfl, iteT ⟨_, rfl, made1 fun d hd => q d _ (s1.trans (same_new hd _)) (s1.free hd) upd_same⟩⟩
end
end Tk
set_option maxRecDepth 100000
namespace Tk
open PySem L2
theorem cut1 (q : Pl) (j : Int) : cutV ((q ++ [j]).map V.int) none (some (-1)) = q.map V.int ∧ ¬ (HT.sIx ((q ++ [j]).map V.int).length 0 none = 0 ∧ HT.sIx ((q ++ [j]).map V.int).length ((q ++ [j]).map V.int).length (some (-1)) = ((q ++ [j]).map V.int).length) := by
  have l : ((q ++ [j]).map V.int).length = q.length + 1 := by simp
  have e : HT.sIx ((q ++ [j]).map V.int).length ((q ++ [j]).map V.int).length (some (-1)) = q.length := by
    rw [l]
    show (if (-1 : Int) < 0 then ((-1 : Int) + ((q.length + 1 : Nat) : Int)).toNat else min (-1 : Int).toNat (q.length + 1)) = q.length
    rw [if_pos (by decide)]; omega
  refine ⟨?_, fun z => by rw [e, l] at z; omega⟩
  unfold cutV
  rw [e, HT.sIx_none, List.drop_zero, Nat.sub_zero, List.map_append, List.take_append_of_le_length (by simp), List.take_of_length_le (by simp)]
theorem cut2 (q : Pl) (a j : Int) : cutV ((q ++ [a] ++ [j]).map V.int) none (some (-2)) = q.map V.int ∧ ¬ (HT.sIx ((q ++ [a] ++ [j]).map V.int).length 0 none = 0 ∧ HT.sIx ((q ++ [a] ++ [j]).map V.int).length ((q ++ [a] ++ [j]).map V.int).length (some (-2)) = ((q ++ [a] ++ [j]).map V.int).length) := by
  have l : ((q ++ [a] ++ [j]).map V.int).length = q.length + 2 := by simp
  have e : HT.sIx ((q ++ [a] ++ [j]).map V.int).length ((q ++ [a] ++ [j]).map V.int).length (some (-2)) = q.length := by
    rw [l]
    show (if (-2 : Int) < 0 then ((-2 : Int) + ((q.length + 2 : Nat) : Int)).toNat else min (-2 : Int).toNat (q.length + 2)) = q.length
    rw [if_pos (by decide)]; omega
  refine ⟨?_, fun z => by rw [e, l] at z; omega⟩
  unfold cutV
  rw [e, HT.sIx_none, List.drop_zero, Nat.sub_zero, List.append_assoc, List.map_append, List.take_append_of_le_length (by simp), List.take_of_length_le (by simp)]
theorem last_at (q : Pl) (j : Int) : atI ((q ++ [j]).map V.int) (-1) = some (.int j) := by
  unfold atI ixN
  rw [if_neg (by decide), if_pos (by simp; omega)]
  have e : ((-1 : Int) + ((((q ++ [j]).map V.int).length : Nat) : Int)).toNat = (q.map V.int).length := by simp; omega
  show ((q ++ [j]).map V.int)[((-1 : Int) + ((((q ++ [j]).map V.int).length : Nat) : Int)).toNat]? = _
  rw [e, List.map_append, List.getElem?_append_right (Nat.le_refl _), Nat.sub_self]
  rfl
def muB (σ : St) (H : Hp) : Nat := match σ with
  | [_, some (.ref u), _] => match H u with
    | some (.tup xs) => xs.length
    | _ => 0
  | _ => 0
def Next (S : List Stm) (H : Hp) (p : Pl) (R : List Stm) (r : V) : Prop := (R = [] → r = .non) ∧ ∀ s R', R = s :: R' → ∃ u' p', r = .ref u' ∧ H u' = some (.tup (p'.map V.int)) ∧ look S p' = some s ∧ After S p' R' ∧ Gt p' p
def spBehind (CS : Addr) : Sp := fun vs H Q _ => ∃ (x t u : Addr) (S : List Stm) (p : Pl) (R : List Stm), vs = [.ref x, .ref u] ∧ Sc CS H x t S ∧ H u = some (.tup (p.map V.int)) ∧ After S p R ∧
  ∀ (r : V) (H' : Hp), Same H H' → Next S H' p R r → Q r H'
section
variable {P : Program} {w : World} {K : PySem.W.Frag} {mg : Str → Option Value} {base : Heap} {CS CK it : Addr}
theorem scBe : FnScope ["self", "place", "follower"] ["self", "place"] (defScope sBehind) := ⟨rfl, rfl, rfl, by decide +kernel, rfl, by decide +kernel, by decide +kernel⟩
theorem ok_behind {f : Addr} {fd : FuncData} (F : Fun K "behind" "Script.behind" sBehind f fd) (T : Txt K w mg CS CK it) : FnOk P w K mg base CX0 1 f fd ["self", "place"] (spBehind CS) := by
  refine F.ok scBe (fun vs H Q E h => ?_) (fun cdv A outer s H vs Q E hr h => ?_)
  · obtain ⟨x, t, u, S, p, R, rfl, _⟩ := h
    rfl
  obtain ⟨x, t, u, S, p, R, rfl, C, hu, af, q⟩ := h
  have hu' := hu_of hr
  refine ⟨_, pss_cons (ps_while PassesOwn.never (pt_truth (pv 1) (by intro _; rfl))
      (pss_cons (ps_set (i := 2) scBe.nd rfl (Or.inl rfl) (pe_op op_catA (pe_slice sl_tupA (pv 1) po_none (po_some (pe_un un_neg pe_int))) (pe_tup (pa_cons (pe_op op_add (pe_ix ix_tup (pv 1) (pe_un un_neg pe_int) (fun _ _ => rfl)) pe_int) pa_nil))))
      (pss_cons (ps_if (pt_cmp (pc_din hu' (pv 2) (pe_fld (pv 0) rfl))) (pss_one (ps_ret (pv 2))) pss_nil)
      (pss_one (ps_set (i := 1) scBe.nd rfl (Or.inl rfl) (pe_slice sl_tupA (pv 1) po_none (po_some (pe_un un_neg pe_int))))))))
    (pss_one (ps_ret pe_non)), ?_⟩
  refine while_by (fun σ H2 => ∃ (u' : Addr) (p' r : Pl) (v2 : Option V), σ = [some (.ref x), some (.ref u'), v2] ∧ Same H H2 ∧ H2 u' = some (.tup (p'.map V.int)) ∧ p = p' ++ r ∧ p'.length ≤ 5 ∧ ((p' = [] ∧ R = []) ∨ After S p' R)) muB ?_ ?_ (fun σ H Q Q' g ⟨v, e, k, t, z⟩ => ⟨v, e, k, t, g _ _ z⟩)
  · have len := af.len 0 0 C.ok (by decide)
    exact ⟨u, p, [], none, rfl, Same.refl H, hu, by simp, by omega, .inr af⟩
  · rintro σ H2 ⟨u', p', r, v2, rfl, s2, hu2, hp, h5, alt⟩
    refine ⟨_, rfl, _, .inr (.inl ⟨_, SqT.of hu2, rfl⟩), ?_⟩
    rcases alt with ⟨rfl, hR⟩ | af'
    · exact iteF (q .non H2 s2 ⟨fun _ => rfl, fun s R' e => (by rw [hR] at e; cases e)⟩)
    · obtain ⟨q0, j, rfl, st⟩ := af'.step
      have nE : (!((q0 ++ [j]).map V.int).isEmpty) = true := by cases q0 <;> rfl
      refine iteTb nE ?_
      have c1 := cut1 q0 j
      refine ⟨_, rfl, _, rfl, _, rfl, u', _, rfl, SqT.of hu2, (fun z => absurd z c1.2), fun _ z hz => ?_⟩
      have s3 := same_new hz (.tup (cutV ((q0 ++ [j]).map V.int) none (some (-1))))
      have hz3 : (L2.upd H2 z (.tup (cutV ((q0 ++ [j]).map V.int) none (some (-1))))) z = some (.tup (q0.map V.int)) := by rw [upd_same, c1.1]
      refine ⟨_, rfl, _, rfl, u', _, _, _, rfl, rfl, SqT.of (s3 _ _ hu2), last_at q0 j, _, _, rfl, rfl, (by show 1 ≤ sizeLine; decide), ?_⟩
      refine cat_one (p := q0) (j := j + 1) hz3 (by simp at h5; omega) (fun y H4 hy s4 => ?_)
      have s24 := s3.trans s4
      obtain ⟨⟨dx, dd, pl, bs, kvs, ys, g1, g2, g3, g4, g5, g6, g7⟩, _⟩ := C.keep (s2.trans s24)
      have vl := Sc.val (x := x) (t := t) (p := q0 ++ [j + 1]) g5
      have hg : DGet H4 dd (.ref y) (valV kvs (key (q0 ++ [j + 1]))) := DGet.t g4 (by rw [key_kV]; exact hy)
      refine ⟨_, rfl, _, rfl, x, CS, dx, _, _, rfl, g1, T.clS, T.nF, flds_fo _ _ _, dd, _, rfl, hg, _, rfl, ?_⟩
      rcases st with ⟨s', R', l, eR, af2⟩ | ⟨l, alt2⟩
      · obtain ⟨v, ev, _⟩ := vl.2 s' l
        rw [ev]
        refine iteT ⟨_, rfl, q _ H4 (s2.trans s24) ⟨(fun e => by rw [eR] at e; cases e), fun s1 R1 e => ?_⟩⟩
        rw [eR] at e
        injection e with e1 e2
        exact ⟨y, q0 ++ [j + 1], rfl, hy, by rw [← e1]; exact l, by rw [← e2]; exact af2, .inl ⟨q0, j + 1, j, [], r, rfl, by rw [hp]; simp, by omega⟩⟩
      · rw [vl.1 l]
        refine iteF ?_
        have hu4 := s24 _ _ hu2
        have fin : ∀ (q' : Pl) (b : Addr) (H5 : Hp), q'.length < q0.length + 1 → (∃ r', p = q' ++ r') → Same H4 H5 → H5 b = some (.tup (q'.map V.int)) → ((q' = [] ∧ R = []) ∨ After S q' R) →
            (∃ (u' : Addr) (p' r : Pl) (v2 : Option V), [some (V.ref x), some (V.ref b), some (V.ref y)] = [some (.ref x), some (.ref u'), v2] ∧ Same H H5 ∧ H5 u' = some (.tup (p'.map V.int)) ∧ p = p' ++ r ∧ p'.length ≤ 5 ∧ ((p' = [] ∧ R = []) ∨ After S p' R)) ∧
            muB [some (V.ref x), some (V.ref b), some (V.ref y)] H5 < muB [some (V.ref x), some (V.ref u'), v2] H2 := by
          intro q' b H5 lt ⟨r', er⟩ s5 hb al
          have h5' : (q0 ++ [j]).length = q0.length + 1 := by simp
          refine ⟨⟨b, q', r', _, rfl, (s2.trans s24).trans s5, hb, er, by omega, al⟩, ?_⟩
          unfold muB
          dsimp only
          rw [hb, hu2]
          dsimp only
          rw [List.length_map, List.length_map, h5']
          exact lt
        rcases alt2 with ⟨rfl, hR⟩ | ⟨q', a, rfl, nq, af3⟩
        · refine ⟨_, rfl, _, rfl, _, rfl, u', _, rfl, SqT.of hu4, (fun z => ?_), fun _ b hb => ?_⟩
          · have z2 : HT.sIx 1 1 (some (-2)) = 1 := z.2
            exact absurd z2 (by decide)
          · exact fin [] b _ (by simp) ⟨p, rfl⟩ (same_new hb _) (by rw [upd_same]; rfl) (.inl ⟨rfl, hR⟩)
        · have c2 := cut2 q' a j
          refine ⟨_, rfl, _, rfl, _, rfl, u', _, rfl, SqT.of hu4, (fun z => absurd z c2.2), fun _ b hb => ?_⟩
          refine fin q' b _ (by simp; omega) ⟨a :: j :: r, by rw [hp]; simp⟩ (same_new hb _) (by rw [upd_same, c2.1]) (.inr af3)
theorem nox_of {X : Cx} {body : List Stmt} {D : Ends} {σ : St} {H : Hp} (h : ∃ t, PSs X.nox body t ∧ t D σ H) : ∃ t, PSs X body t ∧ t D σ H := let ⟨t, a, b⟩ := h; ⟨t, a.nox, b⟩
def restOf (s : Stm) (a : Int) (R : List Stm) : List Stm := match s with
  | .ch y n => br a y n ++ R
  | _ => R
def spAfter (CS : Addr) : Sp := fun vs H Q _ => ∃ (x t u : Addr) (a : Int) (S : List Stm) (p : Pl) (s : Stm) (R : List Stm), vs = [.ref x, .ref u, .int a] ∧ Sc CS H x t S ∧ H u = some (.tup (p.map V.int)) ∧ look S p = some s ∧ After S p R ∧ (a = 0 ∨ (a = 1 ∧ ∃ y n, s = .ch y n)) ∧
  ∀ (r : V) (H' : Hp), Same H H' → (s = .one .leave → r = .non) → (s ≠ .one .leave → Next S H' p (restOf s a R) r) → Q r H'
theorem wd_le (w : Wd) : decide (V.str w.s = V.str "leave") = decide (w = .leave) := by cases w <;> decide +kernel
theorem lk_le (b : Bool) : decide (V.str (lockS b) = V.str "leave") = false := by cases b <;> decide +kernel
theorem atAll_nil {H : Hp} {xs : List V} {B : List Stm} (h : atAll H xs B) : (!xs.isEmpty) = !B.isEmpty := by
  have := atAll_len h
  cases xs <;> cases B <;> simp at this ⊢
theorem scAf : FnScope ["self", "place", "answer", "statement", "word"] ["self", "place", "answer"] (defScope sAfter) := ⟨rfl, rfl, rfl, by decide +kernel, rfl, by decide +kernel, by decide +kernel⟩
theorem ok_after {f fG fW fB : Addr} {fd fdG fdW fdB : FuncData} (F : FunD K "after" "Script.after" (defArgs sAfter) (defBody sAfter) (defScope sAfter) [.int 0] [] f fd) (T : Txt K w mg CS CK it)
    (GG : FnOk P w K mg base CX0 3 fG fdG ["self", "place"] (spGet CS)) (bG : Binds K fdG ["self", "place"] []) (mG : OwnM K CS "__getitem__" fG) (nG : PySem.W.fnIn K fG = true)
    (GW : FnOk P w K mg base CX0 2 fW fdW ["statement", "answer"] (spIsAns K)) (bW : Binds K fdW ["statement", "answer"] []) (kW : PySem.W.keepIn K (.ref fW) = true) (mW : mg "is_answer" = some (.ref fW))
    (GB : FnOk P w K mg base CX0 1 fB fdB ["self", "place"] (spBehind CS)) (bB : Binds K fdB ["self", "place"] []) (mB : Meth K CS "behind" fB) : FnOk P w K mg base CX0 5 f fd ["self", "place", "answer"] (spAfter CS) := by
  refine F.ok (CX := CX0) scAf (fun vs H Q E h => ?_) (fun cdv A outer s H vs Q E hr h => nox_of ?_)
  · obtain ⟨x, t, u, a, S, p, s, R, rfl, _⟩ := h
    rfl
  obtain ⟨x, t, u, a, S, p, st, R, rfl, C, hu, hl, af, ha, q⟩ := h
  have hr1 : Room 1 _ := hr.mono (by decide)
  have hr2 : Room 2 _ := hr.mono (by decide)
  refine ⟨_, pss_cons (ps_set (i := 3) scAf.nd rfl (Or.inl rfl) (ix_own (value := .Name "self" ⟨0, 0, 0, 0⟩) (slice := .Name "self" ⟨0, 0, 0, 0⟩) mG nG GG hr bG pass0 (pv 0) (pv 1) (fun _ _ => rfl)))
    (pss_cons (ps_set (i := 4) scAf.nd rfl (Or.inl rfl) (pe_ix ix_tup (pv 3) pe_int (fun _ _ => rfl)))
    (pss_cons (ps_if (pt_not (pt_val (pe_call GW hr2 rfl mW kW bW .nil pass0 (pa_cons (pv 3) (pa_cons (pv 2) pa_nil))))) (pss_one ps_never) pss_nil)
    (pss_cons (ps_if (pt_cmpR op_eq (pv 4) pe_str (nomark _)) (pss_one (ps_ret pe_non)) pss_nil)
    (pss_cons (ps_if (PW.pt (pw_and (pt_cmpR op_eq (pv 4) pe_str (nomark _)) (pw_and1 (pt_truth (pe_ix ix_tup (pv 3) (pe_op op_add pe_int (pv 2)) (fun _ _ => rfl)) (by intro _; rfl))))) (pss_one (ps_ret (pe_op op_catA (pv 1) (pe_tup (pa_cons (pv 2) (pa_cons pe_int pa_nil)))))) pss_nil)
    (pss_one (ps_ret (pe_meth (pv 0) T.clS mB GB hr1 bB .nil pass0 (pa_cons (pv 1) pa_nil)))))))), ?_⟩
  obtain ⟨⟨dx, dd, pl, bs, kvs, ys, g1, _⟩, _⟩ := id C
  have len := af.len 0 0 C.ok (by decide)
  refine ⟨_, rfl, _, rfl, x, dx, _, rfl, g1, x, t, u, S, p, st, rfl, C, hu, by omega, hl, fun v H1 s1 hv => ?_⟩
  have C1 := C.keep s1
  have hu1 := s1 _ _ hu
  obtain ⟨⟨dx1, _, _, _, _, _, g11, _⟩, _⟩ := id C1
  cases st with
  | one wd =>
    have a0 : a = 0 := by
      rcases ha with h | ⟨_, y, n, e⟩
      · exact h
      · cases e
    subst a0
    rw [Stm.at] at hv
    obtain ⟨b, rfl, hb⟩ := hv
    refine ⟨_, rfl, b, _, _, _, rfl, rfl, SqT.of hb, rfl, ?_⟩
    refine ⟨_, rfl, _, rfl, .ref b, .int 0, .one wd, "int", true, false, rfl, (by rw [Stm.at]; exact ⟨b, rfl, hb⟩), (Kd.int (H := H1) 0).ty, by decide +kernel, by decide +kernel, rfl, fun H3 s3 => ?_⟩
    have C3 := C1.keep s3
    have hu3 := s3 _ _ hu1
    have g13 := s3 _ _ g11
    refine ⟨_, rfl, iteF ?_⟩
    refine ⟨_, rfl, rfl, _, rfl, ?_⟩
    rw [wd_le]
    by_cases c : wd = .leave
    · subst c
      exact iteTb (decide_eq_true rfl) (q .non H3 (s1.trans s3) (fun _ => rfl) (fun n => absurd rfl n))
    · refine iteFb (decide_eq_false c) ?_
      refine ⟨_, rfl, rfl, _, rfl, iteFb (wd_ne wd) ?_⟩
      refine ⟨_, rfl, x, dx1, _, rfl, g13, flds_no _ _ _ (by decide +kernel) (by decide +kernel) (by decide +kernel), _, rfl, x, t, u, S, p, R, rfl, C3, hu3, af, fun r H2 s2 nx => ?_⟩
      exact q r H2 (s1.trans (s3.trans s2)) (fun e => by injection e with e; exact absurd e c) (fun _ => nx)
  | nam bb z =>
    have a0 : a = 0 := by
      rcases ha with h | ⟨_, y, n, e⟩
      · exact h
      · cases e
    subst a0
    rw [Stm.at] at hv
    obtain ⟨b, rfl, hb⟩ := hv
    refine ⟨_, rfl, b, _, _, _, rfl, rfl, SqT.of hb, rfl, ?_⟩
    refine ⟨_, rfl, _, rfl, .ref b, .int 0, .nam bb z, "int", true, false, rfl, (by rw [Stm.at]; exact ⟨b, rfl, hb⟩), (Kd.int (H := H1) 0).ty, by decide +kernel, by decide +kernel, rfl, fun H3 s3 => ?_⟩
    have C3 := C1.keep s3
    have hu3 := s3 _ _ hu1
    have g13 := s3 _ _ g11
    refine ⟨_, rfl, iteF ?_⟩
    refine ⟨_, rfl, rfl, _, rfl, iteFb (lk_le bb) ?_⟩
    refine ⟨_, rfl, rfl, _, rfl, iteFb (lk_ne bb) ?_⟩
    refine ⟨_, rfl, x, dx1, _, rfl, g13, flds_no _ _ _ (by decide +kernel) (by decide +kernel) (by decide +kernel), _, rfl, x, t, u, S, p, R, rfl, C3, hu3, af, fun r H2 s2 nx => ?_⟩
    exact q r H2 (s1.trans (s3.trans s2)) (fun e => by cases e) (fun _ => nx)
  | ch y n =>
    have a01 : a = 0 ∨ a = 1 := by
      rcases ha with h | ⟨h, _⟩
      · exact .inl h
      · exact .inr h
    rw [Stm.at] at hv
    obtain ⟨b, b1, b2, xs1, xs2, rfl, hb, hb1, aty, hb2, atn⟩ := hv
    refine ⟨_, rfl, b, _, _, _, rfl, rfl, SqT.of hb, rfl, ?_⟩
    have w01 : canB (.ch y n) (.int a) = true := by rcases a01 with rfl | rfl <;> rfl
    refine ⟨_, rfl, _, rfl, .ref b, .int a, .ch y n, "int", true, false, rfl, (by rw [Stm.at]; exact ⟨b, b1, b2, xs1, xs2, rfl, hb, hb1, aty, hb2, atn⟩), (Kd.int (H := H1) a).ty, by decide +kernel, by decide +kernel, rfl, fun H3 s3 => ?_⟩
    have C3 := C1.keep s3
    have hu3 := s3 _ _ hu1
    have g13 := s3 _ _ g11
    have tk3 := TK.of_same s3
    refine ⟨_, rfl, ?_⟩
    rw [w01]
    refine iteF ?_
    refine ⟨_, rfl, rfl, _, rfl, iteFb (by decide +kernel) ?_⟩
    refine ⟨_, rfl, rfl, _, rfl, iteTb (by decide +kernel) ?_⟩
    -- the branch that is taken
    obtain ⟨bb, xb, hbb, atb, eat⟩ : ∃ bb xb, H3 bb = some (.tup xb) ∧ atAll H3 xb (br a y n) ∧ atI [V.str "choose", V.ref b1, V.ref b2] (1 + a) = some (.ref bb) := by
      rcases a01 with rfl | rfl
      · exact ⟨b1, xs1, s3 _ _ hb1, atAll_keep tk3 _ _ aty, rfl⟩
      · exact ⟨b2, xs2, s3 _ _ hb2, atAll_keep tk3 _ _ atn, rfl⟩
    refine ⟨_, rfl, _, rfl, _, _, rfl, rfl, b, _, _, _, rfl, rfl, SqT.of (s3 _ _ hb), eat, _, .inr (.inl ⟨xb, SqT.of hbb, rfl⟩), ?_⟩
    rw [atAll_nil atb]
    cases eb : br a y n with
    | nil =>
      refine iteF ?_
      refine ⟨_, rfl, x, dx1, _, rfl, g13, flds_no _ _ _ (by decide +kernel) (by decide +kernel) (by decide +kernel), _, rfl, x, t, u, S, p, R, rfl, C3, hu3, af, fun r H2 s2 nx => ?_⟩
      refine q r H2 (s1.trans (s3.trans s2)) (fun e => by cases e) (fun _ => ?_)
      have er : restOf (.ch y n) a R = br a y n ++ R := rfl
      rw [er, eb]
      exact nx
    | cons s0 sr =>
      refine iteT ?_
      have nb : br a y n ≠ [] := by rw [eb]; exact List.cons_ne_nil _ _
      obtain ⟨l0, af0⟩ := af.down (y := y) (n := n) a01 nb hl
      have pne : p.map V.int ≠ [] := fun e => af.ne (List.map_eq_nil_iff.mp e)
      refine ⟨_, rfl, _, rfl, (by show 2 ≤ sizeLine; decide), fun z hz => ?_⟩
      have s2 := same_new hz (.tup [.int a, .int 0])
      refine ⟨u, z, _, _, rfl, rfl, SqT.of (s2 _ _ hu3), SqT.of upd_same, small (by simp; omega), (fun e => absurd e pne), (fun _ e => nomatch e), fun _ _ z2 hz2 => ?_⟩
      refine q (.ref z2) _ (s1.trans (s3.trans (s2.trans (same_new hz2 _)))) (fun e => by cases e) (fun _ => ⟨?_, fun s' R' e => ?_⟩)
      · intro e
        have er : restOf (.ch y n) a R = br a y n ++ R := rfl
        rw [er, eb] at e; cases e
      · have er : restOf (.ch y n) a R = br a y n ++ R := rfl
        rw [er, eb] at e
        injection e with e1 e2
        refine ⟨z2, p ++ [a, 0], rfl, ?_, ?_, ?_, .inr ⟨[a, 0], rfl, by simp⟩⟩
        · rw [upd_same, List.map_append]; rfl
        · rw [l0, eb, ← e1]; rfl
        · rw [eb] at af0
          rw [← e2]
          exact af0
end
end Tk
set_option maxRecDepth 100000
namespace Tk
open PySem L2
/-! ## exactly what follows -/
/-- p turned round: the place behind the whole statement at p -/
def nxtR (S : List Stm) : List Int → Option Pl
  | [] => none
  | [j] => if (look S [j + 1]).isSome then some [j + 1] else none
  | j :: a :: q => if (look S ((a :: q).reverse ++ [j + 1])).isSome then some ((a :: q).reverse ++ [j + 1]) else nxtR S q
def nxt (S : List Stm) (p : Pl) : Option Pl := nxtR S p.reverse
theorem nxt_nil (S : List Stm) : nxt S [] = none := rfl
theorem nxt_one (S : List Stm) (j : Int) : nxt S [j] = if (look S [j + 1]).isSome then some [j + 1] else none := rfl
theorem nxt_two (S : List Stm) (q : Pl) (a j : Int) : nxt S (q ++ [a] ++ [j]) = if (look S (q ++ [a] ++ [j + 1])).isSome then some (q ++ [a] ++ [j + 1]) else nxt S q := by
  unfold nxt
  have e : (q ++ [a] ++ [j]).reverse = j :: a :: q.reverse := by simp
  rw [e, nxtR]
  have e2 : (a :: q.reverse).reverse ++ [j + 1] = q ++ [a] ++ [j + 1] := by simp
  rw [e2]
/-- the answer as a place -/
def PlV (H : Hp) (o : Option Pl) (r : V) : Prop := match o with
  | none => r = .non
  | some p => ∃ u, r = .ref u ∧ H u = some (.tup (p.map V.int))
theorem PlV.keep {H H' : Hp} {o : Option Pl} {r : V} (s : TK H H') (h : PlV H o r) : PlV H' o r := by
  cases o with
  | none => exact h
  | some p => obtain ⟨u, e, h⟩ := h; exact ⟨u, e, s _ _ h⟩
def spBeX (CS : Addr) : Sp := fun vs H Q _ => ∃ (x t u : Addr) (S : List Stm) (p : Pl), vs = [.ref x, .ref u] ∧ Sc CS H x t S ∧ H u = some (.tup (p.map V.int)) ∧ p.length ≤ 5 ∧
  ∀ (r : V) (H' : Hp), Same H H' → PlV H' (nxt S p) r → Q r H'
section
variable {P : Program} {w : World} {K : PySem.W.Frag} {mg : Str → Option Value} {base : Heap} {CS CK it : Addr}
theorem ok_behindX {f : Addr} {fd : FuncData} (F : Fun K "behind" "Script.behind" sBehind f fd) (T : Txt K w mg CS CK it) : FnOk P w K mg base CX0 1 f fd ["self", "place"] (spBeX CS) := by
  refine F.ok scBe (fun vs H Q E h => ?_) (fun cdv A outer s H vs Q E hr h => ?_)
  · obtain ⟨x, t, u, S, p, rfl, _⟩ := h
    rfl
  obtain ⟨x, t, u, S, p, rfl, C, hu, l5, q⟩ := h
  have hu' := hu_of hr
  refine ⟨_, pss_cons (ps_while PassesOwn.never (pt_truth (pv 1) (by intro _; rfl))
      (pss_cons (ps_set (i := 2) scBe.nd rfl (Or.inl rfl) (pe_op op_catA (pe_slice sl_tupA (pv 1) po_none (po_some (pe_un un_neg pe_int))) (pe_tup (pa_cons (pe_op op_add (pe_ix ix_tup (pv 1) (pe_un un_neg pe_int) (fun _ _ => rfl)) pe_int) pa_nil))))
      (pss_cons (ps_if (pt_cmp (pc_din hu' (pv 2) (pe_fld (pv 0) rfl))) (pss_one (ps_ret (pv 2))) pss_nil)
      (pss_one (ps_set (i := 1) scBe.nd rfl (Or.inl rfl) (pe_slice sl_tupA (pv 1) po_none (po_some (pe_un un_neg pe_int))))))))
    (pss_one (ps_ret pe_non)), ?_⟩
  refine while_by (fun σ H2 => ∃ (u' : Addr) (p' : Pl) (v2 : Option V), σ = [some (.ref x), some (.ref u'), v2] ∧ Same H H2 ∧ H2 u' = some (.tup (p'.map V.int)) ∧ nxt S p = nxt S p' ∧ p'.length ≤ 5) muB ?_ ?_ (fun σ H Q Q' g ⟨v, e, k, t, z⟩ => ⟨v, e, k, t, g _ _ z⟩)
  · exact ⟨u, p, none, rfl, Same.refl H, hu, rfl, l5⟩
  · rintro σ H2 ⟨u', p', v2, rfl, s2, hu2, hp, h5⟩
    refine ⟨_, rfl, _, .inr (.inl ⟨_, SqT.of hu2, rfl⟩), ?_⟩
    rcases List.eq_nil_or_concat p' with rfl | ⟨q0, j, ep⟩
    · exact iteF (q .non H2 s2 (by rw [hp, nxt_nil]; rfl))
    · have ep' : p' = q0 ++ [j] := by rw [ep]; simp
      subst ep'
      have nE : (!((q0 ++ [j]).map V.int).isEmpty) = true := by cases q0 <;> rfl
      refine iteTb nE ?_
      have c1 := cut1 q0 j
      refine ⟨_, rfl, _, rfl, _, rfl, u', _, rfl, SqT.of hu2, (fun z => absurd z c1.2), fun _ z hz => ?_⟩
      have s3 := same_new hz (.tup (cutV ((q0 ++ [j]).map V.int) none (some (-1))))
      have hz3 : (L2.upd H2 z (.tup (cutV ((q0 ++ [j]).map V.int) none (some (-1))))) z = some (.tup (q0.map V.int)) := by rw [upd_same, c1.1]
      refine ⟨_, rfl, _, rfl, u', _, _, _, rfl, rfl, SqT.of (s3 _ _ hu2), last_at q0 j, _, _, rfl, rfl, (by show 1 ≤ sizeLine; decide), ?_⟩
      refine cat_one (p := q0) (j := j + 1) hz3 (by simp at h5; omega) (fun y H4 hy s4 => ?_)
      have s24 := s3.trans s4
      obtain ⟨⟨dx, dd, pl, bs, kvs, ys, g1, g2, g3, g4, g5, g6, g7⟩, _⟩ := C.keep (s2.trans s24)
      have vl := Sc.val (x := x) (t := t) (p := q0 ++ [j + 1]) g5
      have hg : DGet H4 dd (.ref y) (valV kvs (key (q0 ++ [j + 1]))) := DGet.t g4 (by rw [key_kV]; exact hy)
      refine ⟨_, rfl, _, rfl, x, CS, dx, _, _, rfl, g1, T.clS, T.nF, flds_fo _ _ _, dd, _, rfl, hg, _, rfl, ?_⟩
      have eS : (valV kvs (key (q0 ++ [j + 1]))).isSome = (look S (q0 ++ [j + 1])).isSome := by
        cases el : look S (q0 ++ [j + 1]) with
        | none => rw [vl.1 el]; rfl
        | some s =>
          obtain ⟨v, ev, _⟩ := vl.2 s el
          rw [ev]; rfl
      rw [eS]
      have fin : ∀ (q' : Pl) (b : Addr) (H5 : Hp), q'.length < q0.length + 1 → nxt S p = nxt S q' → Same H4 H5 → H5 b = some (.tup (q'.map V.int)) →
          (∃ (u' : Addr) (p' : Pl) (v2 : Option V), [some (V.ref x), some (V.ref b), some (V.ref y)] = [some (.ref x), some (.ref u'), v2] ∧ Same H H5 ∧ H5 u' = some (.tup (p'.map V.int)) ∧ nxt S p = nxt S p' ∧ p'.length ≤ 5) ∧
          muB [some (V.ref x), some (V.ref b), some (V.ref y)] H5 < muB [some (V.ref x), some (V.ref u'), v2] H2 := by
        intro q' b H5 lt en s5 hb
        have h5' : (q0 ++ [j]).length = q0.length + 1 := by simp
        refine ⟨⟨b, q', _, rfl, (s2.trans s24).trans s5, hb, en, by omega⟩, ?_⟩
        unfold muB
        dsimp only
        rw [hb, hu2]
        dsimp only
        rw [List.length_map, List.length_map, h5']
        exact lt
      rcases List.eq_nil_or_concat q0 with rfl | ⟨q1, a, eq⟩
      · have hp2 : nxt S p = if (look S ([] ++ [j + 1])).isSome then some ([] ++ [j + 1]) else none := hp.trans (nxt_one S j)
        by_cases c : (look S ([] ++ [j + 1])).isSome = true
        · refine iteTb c ⟨_, rfl, q _ H4 (s2.trans s24) ?_⟩
          rw [hp2, if_pos c]
          exact ⟨y, rfl, hy⟩
        · refine iteFb (by simpa using c) ?_
          rw [if_neg c] at hp2
          have hu4 := s24 _ _ hu2
          refine ⟨_, rfl, _, rfl, _, rfl, u', _, rfl, SqT.of hu4, (fun z => ?_), fun _ b hb => ?_⟩
          · have z2 : HT.sIx 1 1 (some (-2)) = 1 := z.2
            exact absurd z2 (by decide)
          · exact fin [] b _ (by simp) (by rw [hp2, nxt_nil]) (same_new hb _) (by rw [upd_same]; rfl)
      · have eq' : q0 = q1 ++ [a] := by rw [eq]; simp
        subst eq'
        have hp2 := hp.trans (nxt_two S q1 a j)
        by_cases c : (look S (q1 ++ [a] ++ [j + 1])).isSome = true
        · refine iteTb c ⟨_, rfl, q _ H4 (s2.trans s24) ?_⟩
          rw [hp2, if_pos c]
          exact ⟨y, rfl, hy⟩
        · refine iteFb (by simpa using c) ?_
          rw [if_neg c] at hp2
          have hu4 := s24 _ _ hu2
          have c2 := cut2 q1 a j
          refine ⟨_, rfl, _, rfl, _, rfl, u', _, rfl, SqT.of hu4, (fun z => absurd z c2.2), fun _ b hb => ?_⟩
          exact fin q1 b _ (by simp; omega) hp2 (same_new hb _) (by rw [upd_same, c2.1])
end
end Tk
set_option maxRecDepth 100000
namespace Tk
open PySem L2
abbrev isCh := isChB
/-- what is executed behind the statement s at p, when a is the answer -/
def aft (S : List Stm) (p : Pl) (s : Stm) (a : Int) : Option Pl := match s with
  | .one .leave => none
  | .ch y n => if (br a y n).isEmpty = true then nxt S p else some (p ++ [a, 0])
  | _ => nxt S p
def Can (s : Stm) (w : V) : Prop := ∃ a : Int, w = .int a ∧ (a = 0 ∨ (a = 1 ∧ isCh s = true))
theorem canB_iff (s : Stm) (x : V) : canB s x = true ↔ Can s x := by
  cases x with
  | int a =>
    have c : Can s (.int a) ↔ (a = 0 ∨ (a = 1 ∧ isCh s = true)) := ⟨fun ⟨b, e, h⟩ => by injection e with e; rw [e]; exact h, fun h => ⟨a, rfl, h⟩⟩
    rw [c]
    have z : ((0 : Int) == a || false) = true ↔ a = 0 := by rw [Bool.or_false, beq_iff_eq]; exact ⟨Eq.symm, Eq.symm⟩
    cases s with
    | one wd => exact z.trans ⟨.inl, fun h => h.elim id fun h => nomatch h.2⟩
    | nam bb nm => exact z.trans ⟨.inl, fun h => h.elim id fun h => nomatch h.2⟩
    | ch y n =>
      have z1 : ((0 : Int) == a || ((1 : Int) == a || false)) = true ↔ a = 0 ∨ a = 1 := by
        rw [Bool.or_false, Bool.or_eq_true, beq_iff_eq, beq_iff_eq]
        exact ⟨fun h => h.imp Eq.symm Eq.symm, fun h => h.imp Eq.symm Eq.symm⟩
      exact z1.trans ⟨fun h => h.imp id fun h => ⟨h, rfl⟩, fun h => h.imp id fun h => h.1⟩
  | _ => exact ⟨fun e => (nomatch e), fun ⟨_, e, _⟩ => (nomatch e)⟩
theorem canT {s : Stm} {x : V} (h : Can s x) : canB s x = true := (canB_iff s x).mpr h
theorem canF {s : Stm} {x : V} (h : ¬ Can s x) : canB s x = false := Bool.eq_false_iff.mpr fun e => h ((canB_iff s x).mp e)
def spAfX (CS CN CA : Addr) : Sp := fun vs H Q E => ∃ (x t : Addr) (v w : V) (S : List Stm), vs = [.ref x, v, w] ∧ Sc CS H x t S ∧
  ((NoPl H S v ∧ ∀ (d : Addr) (H' : Hp), Same H H' → H d = none → H' d = some (.xd [("place", v)]) → E (.ref CN) (some d) H') ∨
   ∃ (u : Addr) (p : Pl) (s : Stm), v = .ref u ∧ H u = some (.tup (p.map V.int)) ∧ p ≠ [] ∧ p.length ≤ 5 ∧ look S p = some s ∧ (∃ T, Kd H w T) ∧
     (∀ a : Int, w = .int a → Can s w → ∀ (r : V) (H' : Hp), Same H H' → PlV H' (aft S p s a) r → Q r H') ∧
     (¬ Can s w → ∀ (d : Addr) (H' : Hp), Same H H' → H d = none → H' d = some (.xd [("answer", w)]) → E (.ref CA) (some d) H'))
abbrev sNAInit : Stmt := inClass (top 4) 0
section
variable {P : Program} {w : World} {K : PySem.W.Frag} {mg : Str → Option Value} {base : Heap} {CS CK it CN CA : Addr}
theorem scNA : FnScope ["self", "answer"] ["self", "answer"] (defScope sNAInit) := ⟨rfl, rfl, rfl, by decide +kernel, rfl, by decide +kernel, by decide +kernel⟩
theorem ok_nai {f : Addr} {fd : FuncData} (F : Fun K "__init__" "NoAnswer.__init__" sNAInit f fd) (T : Ecl K mg "NoAnswer" "answer" CA f) : FnOk P w K mg base CX0 1 f fd ["self", "answer"] (spEI CA "answer") := by
  refine F.ok scNA (fun vs H Q E h => ?_) (fun cdv A outer s H vs Q E hr h => ?_)
  · obtain ⟨a, v, rfl, _⟩ := h
    rfl
  obtain ⟨a, v, rfl, ha, q⟩ := h
  refine ⟨_, pss_one (ps_ost (pv 0) (pv 1) rfl), ?_⟩
  exact ⟨_, rfl, _, rfl, a, CA, rfl, T.ox, T.noF, .inl ⟨ha, fun dx h1 h2 => q dx h1 h2⟩⟩
theorem ok_afterX {f fG fW fB fA : Addr} {fd fdG fdW fdB fdA : FuncData} (F : FunD K "after" "Script.after" (defArgs sAfter) (defBody sAfter) (defScope sAfter) [.int 0] [] f fd) (T : Txt K w mg CS CK it) (TA : Ecl K mg "NoAnswer" "answer" CA fA)
    (GI : FnOk P w K mg base CX0 1 fA fdA ["self", "answer"] (spEI CA "answer")) (bI : Binds K fdA ["self", "answer"] [])
    (GG : FnOk P w K mg base (L2.CX P w) 3 fG fdG ["self", "place"] (spGetX CS CN)) (bG : Binds K fdG ["self", "place"] []) (mG : OwnM K CS "__getitem__" fG) (nG : PySem.W.fnIn K fG = true)
    (GW : FnOk P w K mg base CX0 2 fW fdW ["statement", "answer"] (spIsAns K)) (bW : Binds K fdW ["statement", "answer"] []) (kW : PySem.W.keepIn K (.ref fW) = true) (mW : mg "is_answer" = some (.ref fW))
    (GB : FnOk P w K mg base CX0 1 fB fdB ["self", "place"] (spBeX CS)) (bB : Binds K fdB ["self", "place"] []) (mB : Meth K CS "behind" fB) : FnOk P w K mg base (L2.CX P w) 5 f fd ["self", "place", "answer"] (spAfX CS CN CA) := by
  refine F.ok (CX := L2.CX P w) scAf (fun vs H Q E h => ?_) (fun cdv A outer s H vs Q E hr h => ?_)
  · obtain ⟨x, t, v, wv, S, rfl, _⟩ := h
    rfl
  obtain ⟨x, t, v, wv, S, rfl, C, alt⟩ := h
  have hr1 : Room 1 _ := hr.mono (by decide)
  have hr2 : Room 2 _ := hr.mono (by decide)
  refine ⟨_, pss_cons (ps_set (i := 3) scAf.nd rfl (Or.inl rfl) (ix_ownS (value := .Name "self" ⟨0, 0, 0, 0⟩) (slice := .Name "self" ⟨0, 0, 0, 0⟩) mG nG GG hr bG (fun σ => passAt (takes_of rfl rfl rfl rfl) σ) (pv 0) (pv 1) (fun _ _ => rfl)))
    (pss_cons (ps_set (i := 4) scAf.nd rfl (Or.inl rfl) (pe_ix ix_tup (pv 3) pe_int (fun _ _ => rfl)))
    (pss_cons (ps_if (pt_not (pt_val (pe_call GW hr2 rfl mW kW bW .nil pass0 (pa_cons (pv 3) (pa_cons (pv 2) pa_nil))))) (pss_one (ps_raise1 rfl (takes_of rfl rfl rfl rfl) TA GI hr2 bI rfl (pa_cons (pv 2) pa_nil))) pss_nil)
    (pss_cons (ps_if (pt_cmpR op_eq (pv 4) pe_str (nomark _)) (pss_one (ps_ret pe_non)) pss_nil)
    (pss_cons (ps_if (PW.pt (pw_and (pt_cmpR op_eq (pv 4) pe_str (nomark _)) (pw_and1 (pt_truth (pe_ix ix_tup (pv 3) (pe_op op_add pe_int (pv 2)) (fun _ _ => rfl)) (by intro _; rfl))))) (pss_one (ps_ret (pe_op op_catA (pv 1) (pe_tup (pa_cons (pv 2) (pa_cons pe_int pa_nil)))))) pss_nil)
    (pss_one (ps_ret (pe_meth (pv 0) T.clS mB GB hr1 bB .nil pass0 (pa_cons (pv 1) pa_nil)))))))), ?_⟩
  obtain ⟨⟨dx, dd, pl, bs, kvs, ys, g1, _⟩, _⟩ := id C
  refine ⟨_, rfl, _, rfl, x, dx, _, rfl, g1, x, t, v, S, rfl, C, ?_⟩
  rcases alt with ⟨np, bad⟩ | ⟨u, p, st, rfl, hu, pn, l5, hl, ⟨Tw, kd⟩, good, bad⟩
  · exact .inr ⟨np, bad⟩
  refine .inl ⟨u, p, st, rfl, hu, by omega, hl, fun v H1 s1 hv => ?_⟩
  have C1 := C.keep s1
  have hu1 := s1 _ _ hu
  have kd1 := kd.keep s1
  obtain ⟨⟨dx1, _, _, _, _, _, g11, _⟩, _⟩ := id C1
  obtain ⟨b1, b2, e1, e2, e3⟩ := kd1.intB
  have raise_ : ∀ {H3 : Hp}, Same H1 H3 → ¬ Can st wv → ∀ d, H3 d = none → E (.ref CA) (some d) (L2.upd H3 d (.xd [("answer", wv)])) := fun s3 n d hd => bad n d _ ((s1.trans s3).trans (same_new hd _)) ((s1.trans s3).free hd) upd_same
  cases st with
  | one wd =>
    have hv0 := hv
    rw [Stm.at] at hv
    obtain ⟨b, rfl, hb⟩ := hv
    refine ⟨_, rfl, b, _, _, _, rfl, rfl, SqT.of hb, rfl, ?_⟩
    refine ⟨_, rfl, _, rfl, .ref b, wv, .one wd, Tw, b1, b2, rfl, hv0, kd1.ty, e1, e2, e3, fun H3 s3 => ?_⟩
    by_cases ca : Can (.one wd) wv
    · rw [canT ca]
      obtain ⟨a, rfl, h0 | ⟨_, hc⟩⟩ := id ca
      · subst h0
        have C3 := C1.keep s3
        have hu3 := s3 _ _ hu1
        have g13 := s3 _ _ g11
        refine ⟨_, rfl, iteF ?_⟩
        refine ⟨_, rfl, rfl, _, rfl, ?_⟩
        rw [wd_le]
        by_cases c : wd = .leave
        · subst c
          exact iteTb (decide_eq_true rfl) (good 0 rfl ca .non H3 (s1.trans s3) rfl)
        · refine iteFb (decide_eq_false c) ?_
          refine ⟨_, rfl, rfl, _, rfl, iteFb (wd_ne wd) ?_⟩
          refine ⟨_, rfl, x, dx1, _, rfl, g13, flds_no _ _ _ (by decide +kernel) (by decide +kernel) (by decide +kernel), _, rfl, x, t, u, S, p, rfl, C3, hu3, l5, fun r H2 s2 nx => ?_⟩
          refine good 0 rfl ca r H2 (s1.trans (s3.trans s2)) ?_
          have ea : aft S p (.one wd) 0 = nxt S p := by cases wd <;> first | rfl | exact absurd rfl c
          rw [ea]; exact nx
      · cases hc
    · rw [canF ca]
      exact ⟨_, rfl, iteT ⟨_, rfl, made1 (raise_ s3 ca)⟩⟩
  | nam bb z =>
    have hv0 := hv
    rw [Stm.at] at hv
    obtain ⟨b, rfl, hb⟩ := hv
    refine ⟨_, rfl, b, _, _, _, rfl, rfl, SqT.of hb, rfl, ?_⟩
    refine ⟨_, rfl, _, rfl, .ref b, wv, .nam bb z, Tw, b1, b2, rfl, hv0, kd1.ty, e1, e2, e3, fun H3 s3 => ?_⟩
    by_cases ca : Can (.nam bb z) wv
    · rw [canT ca]
      obtain ⟨a, rfl, h0 | ⟨_, hc⟩⟩ := id ca
      · subst h0
        have C3 := C1.keep s3
        have hu3 := s3 _ _ hu1
        have g13 := s3 _ _ g11
        refine ⟨_, rfl, iteF ?_⟩
        refine ⟨_, rfl, rfl, _, rfl, iteFb (lk_le bb) ?_⟩
        refine ⟨_, rfl, rfl, _, rfl, iteFb (lk_ne bb) ?_⟩
        refine ⟨_, rfl, x, dx1, _, rfl, g13, flds_no _ _ _ (by decide +kernel) (by decide +kernel) (by decide +kernel), _, rfl, x, t, u, S, p, rfl, C3, hu3, l5, fun r H2 s2 nx => ?_⟩
        exact good 0 rfl ca r H2 (s1.trans (s3.trans s2)) nx
      · cases hc
    · rw [canF ca]
      exact ⟨_, rfl, iteT ⟨_, rfl, made1 (raise_ s3 ca)⟩⟩
  | ch y n =>
    have hv0 := hv
    rw [Stm.at] at hv
    obtain ⟨b, c1, c2, xs1, xs2, rfl, hb, hb1, aty, hb2, atn⟩ := hv
    refine ⟨_, rfl, b, _, _, _, rfl, rfl, SqT.of hb, rfl, ?_⟩
    refine ⟨_, rfl, _, rfl, .ref b, wv, .ch y n, Tw, b1, b2, rfl, hv0, kd1.ty, e1, e2, e3, fun H3 s3 => ?_⟩
    by_cases ca : Can (.ch y n) wv
    · rw [canT ca]
      have tk3 := TK.of_same s3
      have C3 := C1.keep s3
      have hu3 := s3 _ _ hu1
      have g13 := s3 _ _ g11
      have a01 : ∃ a : Int, wv = .int a ∧ (a = 0 ∨ a = 1) := by
        obtain ⟨a', ea, h0 | ⟨h1, _⟩⟩ := ca
        · exact ⟨a', ea, .inl h0⟩
        · exact ⟨a', ea, .inr h1⟩
      obtain ⟨a, rfl, a01⟩ := a01
      refine ⟨_, rfl, iteF ?_⟩
      refine ⟨_, rfl, rfl, _, rfl, iteFb (by decide +kernel) ?_⟩
      refine ⟨_, rfl, rfl, _, rfl, iteTb (by decide +kernel) ?_⟩
      obtain ⟨bb, xb, hbb, atb, eat⟩ : ∃ bb xb, H3 bb = some (.tup xb) ∧ atAll H3 xb (br a y n) ∧ atI [V.str "choose", V.ref c1, V.ref c2] (1 + a) = some (.ref bb) := by
        rcases a01 with rfl | rfl
        · exact ⟨c1, xs1, s3 _ _ hb1, atAll_keep tk3 _ _ aty, rfl⟩
        · exact ⟨c2, xs2, s3 _ _ hb2, atAll_keep tk3 _ _ atn, rfl⟩
      refine ⟨_, rfl, _, rfl, _, _, rfl, rfl, b, _, _, _, rfl, rfl, SqT.of (s3 _ _ hb), eat, _, .inr (.inl ⟨xb, SqT.of hbb, rfl⟩), ?_⟩
      rw [atAll_nil atb]
      cases eb : (br a y n).isEmpty with
      | true =>
        refine iteF ?_
        refine ⟨_, rfl, x, dx1, _, rfl, g13, flds_no _ _ _ (by decide +kernel) (by decide +kernel) (by decide +kernel), _, rfl, x, t, u, S, p, rfl, C3, hu3, l5, fun r H2 s2 nx => ?_⟩
        refine good a rfl ca r H2 (s1.trans (s3.trans s2)) ?_
        show PlV H2 (if (br a y n).isEmpty = true then nxt S p else some (p ++ [a, 0])) r
        rw [if_pos eb]; exact nx
      | false =>
        refine iteT ?_
        have pne : p.map V.int ≠ [] := fun e => pn (List.map_eq_nil_iff.mp e)
        refine ⟨_, rfl, _, rfl, (by show 2 ≤ sizeLine; decide), fun z hz => ?_⟩
        have s2 := same_new hz (.tup [.int a, .int 0])
        refine ⟨u, z, _, _, rfl, rfl, SqT.of (s2 _ _ hu3), SqT.of upd_same, small (by simp; omega), (fun e => absurd e pne), (fun _ e => nomatch e), fun _ _ z2 hz2 => ?_⟩
        refine good a rfl ca (.ref z2) _ (s1.trans (s3.trans (s2.trans (same_new hz2 _)))) ?_
        show PlV _ (if (br a y n).isEmpty = true then nxt S p else some (p ++ [a, 0])) _
        rw [if_neg (by rw [eb]; decide)]
        refine ⟨z2, rfl, ?_⟩
        rw [upd_same, List.map_append]; rfl
    · rw [canF ca]
      exact ⟨_, rfl, iteT ⟨_, rfl, made1 (raise_ s3 ca)⟩⟩
end
end Tk
set_option maxRecDepth 100000
namespace Tk
open PySem L2
/-! ## statements as data, for == -/
theorem low_ok {z : Str} (h : Low z) : PySem.PyData.strOk z = true := by
  unfold PySem.PyData.strOk
  rw [Array.all_eq_true']
  intro c hc
  have := h c (Array.mem_toList_iff.mpr hc)
  exact decide_eq_true (by omega)
mutual
theorem lay_ok : ∀ (s : Stm) (d : Nat) (h : Int), s.ok d h → s.d.canLay0 = true ∧ (d ≤ 2 → s.d.depth ≤ 7 - 2 * d)
  | .one w, d, h, _ => by
    rw [Stm.d]
    refine ⟨?_, fun _ => ?_⟩
    · cases w <;> decide +kernel
    · rw [PyData.depth, PyData.depthAll, PyData.depthAll, PyData.depth]; omega
  | .nam b z, d, h, ok => by
    rw [Stm.ok] at ok
    rw [Stm.d]
    refine ⟨?_, fun _ => ?_⟩
    · rw [PyData.canLay0, PyData.canLayAll0, PyData.canLayAll0, PyData.canLayAll0, PyData.canLay0, PyData.canLay0, low_ok ok.2.2]
      cases b <;> decide +kernel
    · simp only [PyData.depth, PyData.depthAll]; omega
  | .ch y n, d, h, ok => by
    rw [Stm.ok] at ok
    rw [Stm.d]
    have l1 := layAll_ok y (d + 1) h ok.2.1
    have l2 := layAll_ok n (d + 1) h ok.2.2
    refine ⟨?_, fun hd => ?_⟩
    · have cc : (PyData.str "choose").canLay0 = true := by decide +kernel
      simp only [PyData.canLay0, PyData.canLayAll0] at cc ⊢
      rw [cc, l1.1, l2.1]; rfl
    · have e1 := l1.2 (by omega)
      have e2 := l2.2 (by omega)
      simp only [PyData.depth, PyData.depthAll]
      omega
theorem layAll_ok : ∀ (B : List Stm) (d : Nat) (h : Int), okAll d B h → PyData.canLayAll0 (dAll B) = true ∧ (d ≤ 2 → PyData.depthAll (dAll B) ≤ 7 - 2 * d)
  | [], d, h, _ => by
    rw [dAll]
    exact ⟨by rw [PyData.canLayAll0], fun _ => by rw [PyData.depthAll]; omega⟩
  | s :: r, d, h, ok => by
    rw [okAll] at ok
    rw [dAll]
    have l1 := lay_ok s d h ok.1
    have l2 := layAll_ok r d _ ok.2
    refine ⟨?_, fun hd => ?_⟩
    · rw [PyData.canLayAll0, l1.1, l2.1]; rfl
    · have e1 := l1.2 hd
      have e2 := l2.2 hd
      rw [PyData.depthAll]; omega
end
theorem shaped_ok {s : Stm} {d : Nat} {h : Int} (ok : s.ok d h) (hd : d ≤ 2) : SeqAt.shaped s.d = true ∧ PyData.eqv s.d s.d = true := by
  obtain ⟨a, b⟩ := lay_ok s d h ok
  have := b hd
  refine ⟨?_, SeqAt.eqv_refl _ a⟩
  unfold SeqAt.shaped
  rw [a, decide_eq_true (by omega)]; rfl
mutual
theorem dp_of {K : PySem.W.Frag} {H : Hp} : ∀ (s : Stm) (v : V), s.at H v → Dp K H v s.d
  | .one w, v, h => by
    rw [Stm.at] at h
    obtain ⟨a, rfl, h⟩ := h
    rw [Stm.d]
    exact .tup (SqT.of h) (.cons (.str _) .nil)
  | .nam b z, v, h => by
    rw [Stm.at] at h
    obtain ⟨a, rfl, h⟩ := h
    rw [Stm.d]
    exact .tup (SqT.of h) (.cons (.str _) (.cons (.str _) .nil))
  | .ch y n, v, h => by
    rw [Stm.at] at h
    obtain ⟨a, b, c, xs, ys, rfl, h1, h2, h3, h4, h5⟩ := h
    rw [Stm.d]
    exact .tup (SqT.of h1) (.cons (.str _) (.cons (.tup (SqT.of h2) (dpAll_of y xs h3)) (.cons (.tup (SqT.of h4) (dpAll_of n ys h5)) .nil)))
theorem dpAll_of {K : PySem.W.Frag} {H : Hp} : ∀ (B : List Stm) (xs : List V), atAll H xs B → DpAll K H xs (dAll B)
  | [], xs, h => by
    rw [atAll] at h
    rw [h, dAll]
    exact .nil
  | s :: r, xs, h => by
    rw [atAll] at h
    obtain ⟨v, vs, rfl, h1, h2⟩ := h
    rw [dAll]
    exact .cons (dp_of s v h1) (dpAll_of r vs h2)
end
/-- the statements of a script are good ones, wherever they stand -/
theorem After.good {S : List Stm} {p : Pl} {R : List Stm} (h : After S p R) : ∀ (d : Nat) (k : Int) (s : Stm), okAll d S k → d ≤ 2 → look S p = some s → ∃ d' h', s.ok d' h' ∧ d' ≤ 2 := by
  induction h with
  | here B i hi =>
    intro d k s g hd l
    rw [look_one] at l
    obtain ⟨h', o⟩ := okAll_get g l
    exact ⟨d, h', o, hd⟩
  | inn B i a y n q R hb ha hq ih =>
    intro d k s g hd l
    rw [look_in hb ha hq.ne] at l
    obtain ⟨h', o⟩ := okAll_get g hb
    rw [Stm.ok] at o
    rcases ha with rfl | rfl
    · exact ih (d + 1) h' s o.2.1 (by omega) l
    · exact ih (d + 1) h' s o.2.2 (by omega) l
/-- the first place -/
theorem first_key {H : Hp} {S : List Stm} {kvs : List (List Key × V)} {bs : List Addr} (ne : S ≠ []) (fr : FRel H kvs (walkAll S [] 0)) (ik : IsKeys H kvs bs) : ∃ b0, atI (bs.map V.ref) 0 = some (.ref b0) ∧ H b0 = some (.tup (([0] : Pl).map V.int)) := by
  have hd : ∃ s1 r1, walkAll S [] 0 = ([0], s1) :: r1 := by
    cases S with
    | nil => exact absurd rfl ne
    | cons s0 r =>
      rw [walkAll]
      cases s0 <;> (rw [Stm.walk]; exact ⟨_, _, rfl⟩)
  obtain ⟨s1, r1, e⟩ := hd
  rw [e] at fr
  cases kvs with
  | nil => exact fr.elim
  | cons kv r =>
    obtain ⟨k, v⟩ := kv
    obtain ⟨rfl, _, _⟩ := fr
    unfold IsKeys at ik
    cases ik with
    | cons h1 h2 =>
      rename_i b0 bs'
      refine ⟨b0, (show atI (List.map V.ref (b0 :: bs')) ((0 : Nat) : Int) = some (.ref b0) from atI_nat rfl), ?_⟩
      have h1' : H b0 = some (.tup ((key [0]).map kV)) := h1
      rw [key_kV] at h1'
      exact h1'
end Tk
set_option maxRecDepth 100000
namespace Tk
open PySem L2
/-! ## the numbered statements of the law, with what is due after each -/
abbrev Row := Pl × Int × Option Pl
mutual
def Stm.due : Stm → Pl → Option Pl → List Row
  | .one w, p, o => [(p, 0, if w = .leave then none else o)]
  | .nam _ _, p, o => [(p, 0, o)]
  | .ch y n, p, o => (p, 0, if y.isEmpty = true then o else some (p ++ [0, 0])) :: (dueAll y (p ++ [0]) 0 o ++ ((p, 1, if n.isEmpty = true then o else some (p ++ [1, 0])) :: dueAll n (p ++ [1]) 0 o))
def dueAll : List Stm → Pl → Nat → Option Pl → List Row
  | [], _, _, _ => []
  | s :: r, p, i, o => s.due (p ++ [(i : Int)]) (if r.isEmpty = true then o else some (p ++ [((i + 1 : Nat) : Int)])) ++ dueAll r p (i + 1) o
end
/-- a good row, and its other answer among L -/
def RowOk (S : List Stm) (L : List Row) (r : Row) : Prop := ∃ s, look S r.1 = some s ∧ (r.2.1 = 0 ∨ (r.2.1 = 1 ∧ isCh s = true)) ∧ r.2.2 = aft S r.1 s r.2.1 ∧ r.1 ≠ [] ∧ r.1.length ≤ 5 ∧ (isCh s = true → ∃ o0 o1, (r.1, (0 : Int), o0) ∈ L ∧ (r.1, (1 : Int), o1) ∈ L)
theorem RowOk.more {S : List Stm} {L L' : List Row} {r : Row} (h : RowOk S L r) (m : ∀ x ∈ L, x ∈ L') : RowOk S L' r := by
  obtain ⟨s, h1, h2, h3, h4, h5, h6⟩ := h
  exact ⟨s, h1, h2, h3, h4, h5, fun c => let ⟨o0, o1, a, b⟩ := h6 c; ⟨o0, o1, m _ a, m _ b⟩⟩
theorem nxt_yes (S : List Stm) (q : Pl) (j : Int) (h : (look S (q ++ [j + 1])).isSome = true) : nxt S (q ++ [j]) = some (q ++ [j + 1]) := by
  rcases List.eq_nil_or_concat q with rfl | ⟨q1, a, e⟩
  · have z := nxt_one S j
    show nxt S [j] = _
    exact z.trans (if_pos h)
  · have e' : q = q1 ++ [a] := by rw [e]; simp
    subst e'
    rw [nxt_two, if_pos h]
mutual
theorem due_ok (S : List Stm) : ∀ (s : Stm) (p : Pl) (o : Option Pl) (d : Nat) (h : Int), s.ok d h → p ≠ [] → p.length ≤ 2 * d + 1 → d ≤ 2 → (∀ q, look S (p ++ q) = sub s q) → nxt S p = o → ∀ r ∈ s.due p o, RowOk S (s.due p o) r
  | .one w, p, o, d, h, ok, pn, pl, hd, lo, nx, r, hr => by
    rw [Stm.due] at hr
    have e := List.mem_singleton.mp hr
    subst e
    have l : look S p = some (.one w) := by have := lo []; rw [List.append_nil] at this; exact this
    refine ⟨.one w, l, .inl rfl, ?_, pn, by show p.length ≤ 5; omega, fun c => by cases c⟩
    show (if w = .leave then none else o) = aft S p (.one w) 0
    by_cases c : w = .leave
    · subst c; rfl
    · rw [if_neg c, ← nx]
      cases w <;> first | rfl | exact absurd rfl c
  | .nam b n, p, o, d, h, ok, pn, pl, hd, lo, nx, r, hr => by
    rw [Stm.due] at hr
    have e := List.mem_singleton.mp hr
    subst e
    have l : look S p = some (.nam b n) := by have := lo []; rw [List.append_nil] at this; exact this
    exact ⟨.nam b n, l, .inl rfl, nx.symm, pn, by show p.length ≤ 5; omega, fun c => by cases c⟩
  | .ch y n, p, o, d, h, ok, pn, pl, hd, lo, nx, r, hr => by
    rw [Stm.ok] at ok
    have l : look S p = some (.ch y n) := by have := lo []; rw [List.append_nil] at this; exact this
    have two : ∀ c : Int, ∀ j : Int, look S ((p ++ [c]) ++ [j + 1]) = none → nxt S ((p ++ [c]) ++ [j]) = o := fun c j e => by
      rw [nxt_two, e, if_neg (by decide)]; exact nx
    have hy : ∀ (k : Nat) (q : Pl), look S ((p ++ [0]) ++ ((0 + k : Nat) : Int) :: q) = (y[k]?).bind fun t => sub t q := fun k q => by
      have e : (p ++ [0]) ++ ((0 + k : Nat) : Int) :: q = p ++ (0 :: (k : Int) :: q) := by simp
      rw [e, lo, sub, if_pos rfl, nth_nat]
    have hn : ∀ (k : Nat) (q : Pl), look S ((p ++ [1]) ++ ((0 + k : Nat) : Int) :: q) = (n[k]?).bind fun t => sub t q := fun k q => by
      have e : (p ++ [1]) ++ ((0 + k : Nat) : Int) :: q = p ++ (1 :: (k : Int) :: q) := by simp
      rw [e, lo, sub, if_neg (by decide), if_pos rfl, nth_nat]
    have m0 : ((p, 0, if y.isEmpty = true then o else some (p ++ [0, 0])) : Row) ∈ (Stm.ch y n).due p o := by rw [Stm.due]; exact List.mem_cons_self
    have m1 : ((p, 1, if n.isEmpty = true then o else some (p ++ [1, 0])) : Row) ∈ (Stm.ch y n).due p o := by
      rw [Stm.due]; exact List.mem_cons_of_mem _ (List.mem_append_right _ List.mem_cons_self)
    have both : isCh (.ch y n) = true → ∃ o0 o1, ((p, 0, o0) : Row) ∈ (Stm.ch y n).due p o ∧ ((p, 1, o1) : Row) ∈ (Stm.ch y n).due p o := fun _ => ⟨_, _, m0, m1⟩
    have iny : ∀ x ∈ dueAll y (p ++ [0]) 0 o, x ∈ (Stm.ch y n).due p o := fun x hx => by
      rw [Stm.due]; exact List.mem_cons_of_mem _ (List.mem_append_left _ hx)
    have inn : ∀ x ∈ dueAll n (p ++ [1]) 0 o, x ∈ (Stm.ch y n).due p o := fun x hx => by
      rw [Stm.due]; exact List.mem_cons_of_mem _ (List.mem_append_right _ (List.mem_cons_of_mem _ hx))
    have hr' := hr
    rw [Stm.due] at hr'
    rcases List.mem_cons.mp hr' with rfl | hr'
    · refine ⟨.ch y n, l, .inl rfl, ?_, pn, by show p.length ≤ 5; omega, both⟩
      show (if y.isEmpty = true then o else some (p ++ [0, 0])) = (if y.isEmpty = true then nxt S p else some (p ++ [0, 0]))
      rw [nx]
    · rcases List.mem_append.mp hr' with hr' | hr'
      · exact (dueAll_ok S y (p ++ [0]) 0 o (d + 1) _ ok.2.1 (by simp; omega) (by omega) hy (two 0) r hr').more iny
      · rcases List.mem_cons.mp hr' with rfl | hr'
        · refine ⟨.ch y n, l, .inr ⟨rfl, rfl⟩, ?_, pn, by show p.length ≤ 5; omega, both⟩
          show (if n.isEmpty = true then o else some (p ++ [1, 0])) = (if n.isEmpty = true then nxt S p else some (p ++ [1, 0]))
          rw [nx]
        · exact (dueAll_ok S n (p ++ [1]) 0 o (d + 1) _ ok.2.2 (by simp; omega) (by omega) hn (two 1) r hr').more inn
theorem dueAll_ok (S : List Stm) : ∀ (B : List Stm) (p : Pl) (i : Nat) (o : Option Pl) (d : Nat) (h : Int), okAll d B h → p.length ≤ 2 * d → d ≤ 2 → (∀ (k : Nat) (q : Pl), look S (p ++ ((i + k : Nat) : Int) :: q) = (B[k]?).bind fun t => sub t q) →
    (∀ j : Int, look S (p ++ [j + 1]) = none → nxt S (p ++ [j]) = o) → ∀ r ∈ dueAll B p i o, RowOk S (dueAll B p i o) r
  | [], p, i, o, d, h, ok, pl, hd, lo, up, r, hr => by rw [dueAll] at hr; cases hr
  | s :: r, p, i, o, d, h, ok, pl, hd, lo, up, x, hx => by
    rw [okAll] at ok
    rw [dueAll] at hx ⊢
    have l1 : look S (p ++ [((i : Nat) : Int) + 1]) = r[0]? := by
      have z := lo 1 []
      have e : ((i + 1 : Nat) : Int) = (i : Int) + 1 := by omega
      rw [e] at z
      rw [z]
      show (r[0]?).bind (fun t => sub t []) = r[0]?
      cases r[0]? with
      | none => rfl
      | some t => show sub t [] = some t; cases t <;> rfl
    have nx : nxt S (p ++ [(i : Int)]) = if r.isEmpty = true then o else some (p ++ [((i + 1 : Nat) : Int)]) := by
      cases r with
      | nil => exact up _ l1
      | cons t r' =>
        have e : ((i + 1 : Nat) : Int) = (i : Int) + 1 := by omega
        rw [e]
        exact nxt_yes S p _ (by rw [l1]; rfl)
    rcases List.mem_append.mp hx with hx | hx
    · refine (due_ok S s (p ++ [(i : Int)]) _ d h ok.1 (by simp) (by simp; omega) hd (fun q => ?_) nx x hx).more fun _ m => List.mem_append_left _ m
      have z := lo 0 q
      have e : (p ++ [(i : Int)]) ++ q = p ++ ((i + 0 : Nat) : Int) :: q := by simp
      rw [e, z]; rfl
    · refine (dueAll_ok S r p (i + 1) o d _ ok.2 pl hd (fun k q => ?_) up x hx).more fun _ m => List.mem_append_right _ m
      have z := lo (k + 1) q
      have e : i + 1 + k = i + (k + 1) := by omega
      rw [e, z]; rfl
end
/-- the rows of a script are good -/
theorem due_script {S : List Stm} (ok : okAll 0 S 0) : ∀ r ∈ dueAll S [] 0 none, RowOk S (dueAll S [] 0 none) r := by
  refine dueAll_ok S S [] 0 none 0 0 ok (by decide) (by decide) (fun k q => ?_) (fun j e => ?_)
  · show look S (((0 + k : Nat) : Int) :: q) = _
    rw [Nat.zero_add, look, nth_nat]
  · show nxt S [j] = none
    rw [nxt_one, if_neg]
    intro c
    have e' : look S [j + 1] = none := e
    rw [e'] at c; cases c
mutual
theorem due_len : ∀ (s : Stm) (p : Pl) (o : Option Pl), 1 ≤ (s.due p o).length ∧ (s.due p o).length ≤ 2 * s.cnt
  | .one w, p, o => by rw [Stm.due, Stm.cnt]; exact ⟨Nat.le_refl _, (by show 1 ≤ 2; decide)⟩
  | .nam b n, p, o => by rw [Stm.due, Stm.cnt]; exact ⟨Nat.le_refl _, (by show 1 ≤ 2; decide)⟩
  | .ch y n, p, o => by
    have a := dueAll_len y (p ++ [0]) 0 o
    have b := dueAll_len n (p ++ [1]) 0 o
    rw [Stm.due, Stm.cnt]
    simp only [List.length_cons, List.length_append]
    omega
theorem dueAll_len : ∀ (B : List Stm) (p : Pl) (i : Nat) (o : Option Pl), B.length ≤ (dueAll B p i o).length ∧ (dueAll B p i o).length ≤ 2 * cntAll B
  | [], p, i, o => by rw [dueAll, cntAll]; exact ⟨Nat.le_refl _, by decide⟩
  | s :: r, p, i, o => by
    have a := due_len s (p ++ [(i : Int)]) (if r.isEmpty = true then o else some (p ++ [((i + 1 : Nat) : Int)]))
    have b := dueAll_len r p (i + 1) o
    rw [dueAll, cntAll, List.length_append, List.length_cons]
    omega
end
end Tk
set_option maxRecDepth 100000
namespace Tk
open PySem L2
def RowAt (H : Hp) (v : V) (r : Row) : Prop := ∃ (T u : Addr) (wv : V), v = .ref T ∧ H T = some (.tup [.ref u, .int r.2.1, wv]) ∧ H u = some (.tup (r.1.map V.int)) ∧ PlV H r.2.2 wv
def RowsAt (H : Hp) : List V → List Row → Prop
  | [], [] => True
  | v :: vs, r :: rs => RowAt H v r ∧ RowsAt H vs rs
  | _, _ => False
theorem RowAt.keep {H H' : Hp} {v : V} {r : Row} (k : TK H H') (h : RowAt H v r) : RowAt H' v r := by
  obtain ⟨T, u, wv, rfl, h1, h2, h3⟩ := h
  exact ⟨T, u, wv, rfl, k _ _ h1, k _ _ h2, h3.keep k⟩
theorem RowsAt.keep {H H' : Hp} (k : TK H H') : ∀ {vs : List V} {rs : List Row}, RowsAt H vs rs → RowsAt H' vs rs
  | [], [], _ => trivial
  | _ :: _, _ :: _, h => ⟨h.1.keep k, RowsAt.keep k h.2⟩
  | [], _ :: _, h => h.elim
  | _ :: _, [], h => h.elim
theorem RowsAt.len {H : Hp} : ∀ {vs : List V} {rs : List Row}, RowsAt H vs rs → vs.length = rs.length
  | [], [], _ => rfl
  | _ :: _, _ :: _, h => by rw [List.length_cons, List.length_cons, RowsAt.len h.2]
  | [], _ :: _, h => h.elim
  | _ :: _, [], h => h.elim
theorem RowsAt.snoc {H : Hp} {v : V} {r : Row} (h1 : RowAt H v r) : ∀ {vs : List V} {rs : List Row}, RowsAt H vs rs → RowsAt H (vs ++ [v]) (rs ++ [r])
  | [], [], _ => ⟨h1, trivial⟩
  | _ :: _, _ :: _, h => ⟨h.1, RowsAt.snoc h1 h.2⟩
  | [], _ :: _, h => h.elim
  | _ :: _, [], h => h.elim
/-- a list with the place that follows, or without -/
def BehAt (H : Hp) (a : Addr) (o : Option Pl) : Prop := (o = none ∧ H a = some (.lst [])) ∨ ∃ p u, o = some p ∧ H a = some (.lst [.ref u]) ∧ H u = some (.tup (p.map V.int))
theorem BehAt.lst {H : Hp} {a : Addr} {o : Option Pl} (h : BehAt H a o) : ∃ xs, H a = some (.lst xs) := by
  rcases h with ⟨_, h⟩ | ⟨_, _, _, h, _⟩
  · exact ⟨_, h⟩
  · exact ⟨_, h⟩
theorem BehAt.kp {H H' : Hp} {a f : Addr} {o : Option Pl} {ys : List V} (h : BehAt H a o) (k : Kp f H H') (hf : H f = some (.lst ys)) (n : a ≠ f) : BehAt H' a o := by
  rcases h with ⟨e, h⟩ | ⟨p, u, e, h1, h2⟩
  · exact .inl ⟨e, k _ _ h n⟩
  · exact .inr ⟨p, u, e, k _ _ h1 n, k.tk hf _ _ h2⟩
theorem BehAt.same {H H' : Hp} {a : Addr} {o : Option Pl} (h : BehAt H a o) (k : Same H H') : BehAt H' a o := by
  rcases h with ⟨e, h⟩ | ⟨p, u, e, h1, h2⟩
  · exact .inl ⟨e, k _ _ h⟩
  · exact .inr ⟨p, u, e, k _ _ h1, k _ _ h2⟩
def spPlc : Sp := fun vs H Q _ => ∃ (a : Addr) (o : Option Pl), vs = [.ref a] ∧ BehAt H a o ∧ ∀ r, PlV H o r → Q r H
abbrev sPlace : Stmt := top 27
abbrev sDue : Stmt := top 28
abbrev psU : List Str := ["_law_branch_here", "_law_prefix", "_law_behind", "_law_found"]
abbrev nsU : List Str := ["_law_branch_here", "_law_prefix", "_law_behind", "_law_found", "_law_index", "_law_place_here", "_law_after", "_law_word", "_law_answer", "_law_inner"]
def spDue (m : Nat) : Sp := fun vs H Q _ => ∃ (b pr be fa : Addr) (xs vs0 : List V) (B : List Stm) (rows : List Row) (p : Pl) (o : Option Pl) (d : Nat) (h : Int), vs = [.ref b, .ref pr, .ref be, .ref fa] ∧ H b = some (.tup xs) ∧ atAll H xs B ∧ okAll d B h ∧ d + m = 3 ∧ d ≤ 2 ∧
  H pr = some (.tup (p.map V.int)) ∧ p.length ≤ 2 * d ∧ BehAt H be o ∧ be ≠ fa ∧ H fa = some (.lst vs0) ∧ RowsAt H vs0 rows ∧ rows.length + 2 * cntAll B ≤ 100 ∧
  ∀ (H' : Hp) (vs' : List V), Kp fa H H' → H' fa = some (.lst vs') → RowsAt H' vs' (rows ++ dueAll B p 0 o) → Q (.ref fa) H'
section
variable {P : Program} {w : World} {K : PySem.W.Frag} {mg : Str → Option Value} {base : Heap} {CS CK it CN CA : Addr}
theorem scPl : FnScope ["_law_following"] ["_law_following"] (defScope sPlace) := ⟨rfl, rfl, rfl, by decide +kernel, rfl, by decide +kernel, by decide +kernel⟩
theorem ok_place {f : Addr} {fd : FuncData} (F : Fun K "_law_place" "_law_place" sPlace f fd) (B : Bl mg) : FnOk P w K mg base CX0 1 f fd ["_law_following"] spPlc := by
  refine F.ok scPl (fun vs H Q E h => ?_) (fun cdv A outer s H vs Q E hr h => ?_)
  · obtain ⟨a, o, rfl, _⟩ := h
    rfl
  obtain ⟨a, o, rfl, hb, q⟩ := h
  refine ⟨_, pss_cons (ps_if (pt_cmpR op_eq (pe_callB call_len_seq (by rfl) B.len PySem.boot_len (pa_cons (pv 0) pa_nil)) pe_int (nomark _)) (pss_one (ps_ret pe_non)) pss_nil)
    (pss_one (ps_ret (pe_ix ix_list (pv 0) pe_int (fun _ _ => rfl)))), ?_⟩
  rcases hb with ⟨rfl, h⟩ | ⟨p, u, rfl, h1, h2⟩
  · refine ⟨_, rfl, a, _, rfl, .inl (SqL.of h), rfl, _, rfl, iteTb (by decide +kernel) (q .non rfl)⟩
  · refine ⟨_, rfl, a, _, rfl, .inl (SqL.of h1), rfl, _, rfl, iteFb (by show decide (V.int ((1 : Nat) : Int) = V.int 0) = false; decide +kernel) ?_⟩
    exact ⟨_, rfl, a, _, _, _, rfl, rfl, SqL.of h1, rfl, q _ ⟨u, rfl, h2⟩⟩
theorem scU : FnScope nsU psU (defScope sDue) := ⟨rfl, rfl, rfl, by decide +kernel, rfl, by decide +kernel, by decide +kernel⟩
theorem BehAt.copy {H : Hp} {a : Addr} {o : Option Pl} (h : BehAt H a o) : ∃ xs, H a = some (.lst xs) ∧ ∀ l, H l = none → BehAt (L2.upd H l (.lst xs)) l o := by
  rcases h with ⟨e, h⟩ | ⟨p, u, e, h1, h2⟩
  · exact ⟨_, h, fun l hl => .inl ⟨e, upd_same⟩⟩
  · exact ⟨_, h1, fun l hl => .inr ⟨p, u, e, upd_same, (same_new hl _) _ _ h2⟩⟩
/-- a row more -/
theorem add_row {H H5 : Hp} {fa y t : Addr} {vs : List V} {made : List Row} {pl : Pl} {a : Int} {o : Option Pl} {wv : V} (hfa : H5 fa = some (.lst vs)) (hr : RowsAt H5 vs made) (k : Kp fa H H5) (hy : H5 y = some (.tup (pl.map V.int))) (hw : PlV H5 o wv) (ht : H5 t = none) :
    (L2.upd (L2.upd H5 t (.tup [.ref y, .int a, wv])) fa (.lst (vs ++ [.ref t]))) fa = some (.lst (vs ++ [.ref t])) ∧ RowsAt (L2.upd (L2.upd H5 t (.tup [.ref y, .int a, wv])) fa (.lst (vs ++ [.ref t]))) (vs ++ [.ref t]) (made ++ [(pl, a, o)]) ∧
    Kp fa H (L2.upd (L2.upd H5 t (.tup [.ref y, .int a, wv])) fa (.lst (vs ++ [.ref t]))) ∧ Kp fa H5 (L2.upd (L2.upd H5 t (.tup [.ref y, .int a, wv])) fa (.lst (vs ++ [.ref t]))) := by
  have n : fa ≠ t := ne_of_none hfa ht
  have k5 : Kp fa H5 (L2.upd (L2.upd H5 t (.tup [.ref y, .int a, wv])) fa (.lst (vs ++ [.ref t]))) := fun b ob e nb => by
    rw [upd_ne nb, upd_ne (ne_of_none e ht)]; exact e
  have tk := k5.tk hfa
  refine ⟨upd_same, RowsAt.snoc ⟨t, y, wv, rfl, by rw [upd_ne n.symm, upd_same], tk _ _ hy, hw.keep tk⟩ (hr.keep tk), k.trans k5, k5⟩
theorem okAll_ch {d : Nat} {B : List Stm} {h : Int} {i : Nat} {y n : List Stm} (ok : okAll d B h) (e : B[i]? = some (.ch y n)) : ∃ h', d < 2 ∧ okAll (d + 1) y h' ∧ okAll (d + 1) n h' := by
  obtain ⟨h', o⟩ := okAll_get ok e
  rw [Stm.ok] at o
  exact ⟨h', o⟩
def chRow (j : Int) (Z : List Stm) (p : Pl) (o : Option Pl) : List Row := (p, j, if Z.isEmpty = true then o else some (p ++ [j, 0])) :: dueAll Z (p ++ [j]) 0 o
/-- the rows of the first j answers -/
def chTo (j : Nat) (y n : List Stm) (p : Pl) (o : Option Pl) : List Row := match j with
  | 0 => []
  | 1 => chRow 0 y p o
  | _ => chRow 0 y p o ++ chRow 1 n p o
theorem chTo_two (y n : List Stm) (p : Pl) (o : Option Pl) : chTo 2 y n p o = (Stm.ch y n).due p o := by
  rw [Stm.due]; rfl
theorem chTo_succ {j : Nat} (hj : j < 2) (y n : List Stm) (p : Pl) (o : Option Pl) : chTo (j + 1) y n p o = chTo j y n p o ++ chRow (j : Int) (br (j : Int) y n) p o := by
  match j, hj with
  | 0, _ => rfl
  | 1, _ => rfl
theorem chRow_len (j : Int) (Z : List Stm) (p : Pl) (o : Option Pl) : (chRow j Z p o).length ≤ 1 + 2 * cntAll Z := by
  have a := dueAll_len Z (p ++ [j]) 0 o
  show (dueAll Z (p ++ [j]) 0 o).length + 1 ≤ _
  omega
theorem chTo_len {j : Nat} (hj : j < 2) (y n : List Stm) (p : Pl) (o : Option Pl) : (chTo j y n p o).length + 1 + 2 * cntAll (br (j : Int) y n) ≤ 2 * (1 + cntAll y + cntAll n) := by
  match j, hj with
  | 0, _ =>
    show 0 + 1 + 2 * cntAll y ≤ _
    omega
  | 1, _ =>
    have a := chRow_len 0 y p o
    show (chRow 0 y p o).length + 1 + 2 * cntAll n ≤ _
    omega
theorem ok_due {m : Nat} {f fP : Addr} {fd fdP : FuncData} (F : Fun K "_law_due" "_law_due" sDue f fd) (B : Bl mg) (T : Txt K w mg CS CK it)
    (GP : FnOk P w K mg base CX0 1 fP fdP ["_law_following"] spPlc) (bP : Binds K fdP ["_law_following"] []) (kP : PySem.W.keepIn K (.ref fP) = true) (mP : mg "_law_place" = some (.ref fP))
    (GU : FnOk P w K mg base CX0 (1 + m) f fd psU (spDue m)) (bU : Binds K fd psU []) (mU : mg "_law_due" = some (.ref f)) : FnOk P w K mg base CX0 (1 + m + 1) f fd psU (spDue (m + 1)) := by
  have kU := F.kp
  refine F.ok scU (fun vs H Q E h => ?_) (fun cdv A outer s H vs Q E hr h => ?_)
  · obtain ⟨b, pr, be, fa, xs, vs0, B, rows, p, o, d, h, rfl, _⟩ := h
    rfl
  obtain ⟨b, pr, be, fa, xs, vs0, S, rows, p, o, d, h, rfl, hb, hS, ok, hd3, hd2, hpr, pl, hbe, nbf, hfa, hrows, few, q⟩ := h
  have hr1 : Room 1 _ := hr.mono (by omega)
  refine ⟨_, (pss_cons (ps_for PassesOwn.never rfl (pi_range1 rfl B.range (pa_cons (pe_callB call_len_seq (by rfl) B.len PySem.boot_len (pa_cons (pv 0) pa_nil)) pa_nil)) (pg_name (i := 4) scU.nd rfl (Or.inl rfl)) (pss_cons (ps_set (i := 5) scU.nd rfl (Or.inl rfl) (pe_op op_catA (pv 1) (pe_tup (pa_cons (pv 4) pa_nil))))
 (pss_cons (ps_set (i := 6) scU.nd rfl (Or.inl rfl) (pe_callTy call_list_of (by rfl) T.list (by decide +kernel) (pa_cons (pv 2) pa_nil)))
 (C8.pss_cut (ps_if (pt_cmpR op_lt (pe_op op_add (pv 4) (pe_int)) (pe_callB call_len_seq (by rfl) B.len PySem.boot_len (pa_cons (pv 0) pa_nil)) (nomark _)) (pss_one (ps_set (i := 6) scU.nd rfl (Or.inl rfl) (pe_lst (pa_cons (pe_op op_catA (pv 1) (pe_tup (pa_cons (pe_op op_add (pv 4) (pe_int)) pa_nil))) pa_nil)))) pss_nil)
 (pss_cons (ps_set (i := 7) scU.nd rfl (Or.inl rfl) (pe_ix ix_tup (pe_ix ix_tup (pv 0) (pv 4) (fun _ _ => rfl)) (pe_int) (fun _ _ => rfl)))
 (pss_one (ps_if (pt_cmpR op_eq (pv 7) (pe_str) (nomark _)) (pss_one (ps_for PassesOwn.never rfl (pi_range1 rfl B.range (pa_cons (pe_int) pa_nil)) (pg_name (i := 8) scU.nd rfl (Or.inl rfl)) (pss_cons (ps_set (i := 9) scU.nd rfl (Or.inl rfl) (pe_ix ix_tup (pe_ix ix_tup (pv 0) (pv 4) (fun _ _ => rfl)) (pe_op op_add (pe_int) (pv 8)) (fun _ _ => rfl)))
 (C8.pss_cut (ps_if (pt_cmpR op_gt (pe_callB call_len_seq (by rfl) B.len PySem.boot_len (pa_cons (pv 9) pa_nil)) (pe_int) (nomark _)) (pss_one (ps_expr (pe_bm PySem.F.plainAttrs_list PySem.F.slot_list_append PySem.F.type_list_append mt_append (pv 3) (pa_cons (pe_tup (pa_cons (pv 5) (pa_cons (pv 8) (pa_cons (pe_op op_catA (pv 5) (pe_tup (pa_cons (pv 8) (pa_cons (pe_int) pa_nil)))) pa_nil)))) pa_nil)))) (pss_one (ps_expr (pe_bm PySem.F.plainAttrs_list PySem.F.slot_list_append PySem.F.type_list_append mt_append (pv 3) (pa_cons (pe_tup (pa_cons (pv 5) (pa_cons (pv 8) (pa_cons (pe_call GP hr1 rfl mP kP bP .nil pass0 (pa_cons (pv 6) pa_nil)) pa_nil)))) pa_nil)))))
 (pss_one (ps_expr (pe_call GU hr rfl mU kU bU .nil pass0 (pa_cons (pv 9) (pa_cons (pe_op op_catA (pv 5) (pe_tup (pa_cons (pv 8) pa_nil))) (pa_cons (pv 6) (pa_cons (pv 3) pa_nil))))))))))) (pss_one (ps_if (pt_cmpR op_eq (pv 7) (pe_str) (nomark _)) (pss_one (ps_expr (pe_bm PySem.F.plainAttrs_list PySem.F.slot_list_append PySem.F.type_list_append mt_append (pv 3) (pa_cons (pe_tup (pa_cons (pv 5) (pa_cons (pe_int) (pa_cons (pe_non) pa_nil)))) pa_nil)))) (pss_one (ps_expr (pe_bm PySem.F.plainAttrs_list PySem.F.slot_list_append PySem.F.type_list_append mt_append (pv 3) (pa_cons (pe_tup (pa_cons (pv 5) (pa_cons (pe_int) (pa_cons (pe_call GP hr1 rfl mP kP bP .nil pass0 (pa_cons (pv 6) pa_nil)) pa_nil)))) pa_nil)))))))))))))
 (pss_one (ps_ret (pv 3)))), ?_⟩
  have lenS := atAll_len hS
  have lenC := len_le_cnt S
  refine ⟨_, rfl, b, xs, rfl, .inr (SqT.of hb), _, rfl, by omega, by omega, ?_⟩
  refine for_range (lo := 0) (n := xs.length) (fun i σ H2 => ∃ (v4 v5 v6 v7 v8 v9 : Option V) (vs' : List V) (made : List Row), σ = [some (.ref b), some (.ref pr), some (.ref be), some (.ref fa), v4, v5, v6, v7, v8, v9] ∧
    H2 fa = some (.lst vs') ∧ RowsAt H2 vs' made ∧ made ++ dueAll (S.drop i) p i o = rows ++ dueAll S p 0 o ∧ made.length + 2 * cntAll (S.drop i) ≤ 100 ∧ Kp fa H H2) ?_ ?_ ?_
  · exact ⟨none, none, none, none, none, none, vs0, rows, rfl, hfa, hrows, by rw [List.drop_zero], by rw [List.drop_zero]; exact few, Kp.refl _ _⟩
  · rintro i σ H2 hi ⟨v4, v5, v6, v7, v8, v9, vs', made, rfl, hf2, hm2, eq2, few2, k2⟩
    have tk2 := k2.tk hfa
    have lt : i < S.length := by omega
    have hs : S[i]? = some S[i] := List.getElem?_eq_getElem lt
    have hb2 := tk2 _ _ hb
    have hpr2 := tk2 _ _ hpr
    have hbe2 := hbe.kp k2 hfa nbf
    have edrop : S.drop i = S[i] :: S.drop (i + 1) := List.drop_eq_getElem_cons lt
    rw [edrop, dueAll] at eq2
    rw [edrop, cntAll] at few2
    have el : (S.drop (i + 1)).isEmpty = decide (S.length ≤ i + 1) := by
      by_cases c : S.length ≤ i + 1
      · rw [List.drop_eq_nil_of_le c, decide_eq_true c]; rfl
      · rw [decide_eq_false c, List.drop_eq_getElem_cons (by omega)]; rfl
    -- the place
    refine ⟨_, rfl, _, rfl, (by show 1 ≤ sizeLine; decide), ?_⟩
    rw [Int.zero_add]
    refine cat_one (p := p) (j := (i : Int)) hpr2 (by omega) (fun y H3 hy s3 => ?_)
    obtain ⟨ys, hbl, cpy⟩ := (hbe2.same s3).copy
    refine ⟨_, rfl, be, ys, rfl, .inl (SqL.of hbl), fun l hl => ?_⟩
    have sl := same_new hl (.lst ys)
    have bl := cpy l hl
    have s3l := s3.trans sl
    have hf3 := s3l _ _ hf2
    have nlf : l ≠ fa := fun z => by rw [z, s3 _ _ hf2] at hl; cases hl
    -- what follows
    refine ⟨fun σ' H' => ∃ (af : Addr), σ' = [some (.ref b), some (.ref pr), some (.ref be), some (.ref fa), some (.int (i : Int)), some (.ref y), some (.ref af), v7, v8, v9] ∧ Same H2 H' ∧ af ≠ fa ∧ H' y = some (.tup ((p ++ [(i : Int)]).map V.int)) ∧
      BehAt H' af (if (S.drop (i + 1)).isEmpty = true then o else some (p ++ [((i + 1 : Nat) : Int)])), ?_, ?_⟩
    · refine ⟨_, rfl, _, _, rfl, rfl, _, rfl, b, xs, rfl, .inr (SqT.of (s3l _ _ hb2)), _, _, rfl, rfl, _, rfl, ?_⟩
      refine ite2 (fun c => ?_) (fun c => ?_)
      · have c' : (i : Int) + 1 < (xs.length : Int) := of_decide_eq_true c
        refine ⟨_, rfl, _, rfl, _, _, rfl, rfl, (by show 1 ≤ sizeLine; decide), ?_⟩
        refine cat_one (p := p) (j := (i : Int) + 1) (s3l _ _ hpr2) (by omega) (fun y2 H4 hy2 s4 => ⟨(by show 1 ≤ sizeLine; decide), fun l2 hl2 => ?_⟩)
        have s5 := same_new hl2 (.lst [.ref y2])
        have s25 := (s3l.trans s4).trans s5
        refine ⟨l2, rfl, s25, (fun z => by rw [z, (s3l.trans s4) _ _ hf2] at hl2; cases hl2), ((sl.trans s4).trans s5) _ _ hy, .inr ⟨p ++ [(i : Int) + 1], y2, ?_, upd_same, s5 _ _ hy2⟩⟩
        rw [el, decide_eq_false (by omega), if_neg (by decide)]
        rfl
      · have c' : ¬ (i : Int) + 1 < (xs.length : Int) := fun z => c (decide_eq_true z)
        refine ⟨l, rfl, s3l, nlf, sl _ _ hy, ?_⟩
        rw [el, decide_eq_true (by omega), if_pos rfl]
        exact bl
    rintro σ' H4 ⟨af, rfl, s4, naf, hy4, baf⟩
    generalize (if (S.drop (i + 1)).isEmpty = true then o else some (p ++ [((i + 1 : Nat) : Int)])) = o' at baf eq2
    obtain ⟨v, hv, av⟩ := atAll_get hS hs
    have tk4 := tk2.trans (TK.of_same s4)
    have av4 := Stm.at_keep tk4 _ _ av
    have hb4 := tk4 _ _ hb
    have hf4 := s4 _ _ hf2
    have hm4 := hm2.keep (TK.of_same s4)
    have k4 : Kp fa H H4 := k2.trans (Kp.of_same s4)
    have ixv : atI xs (i : Int) = some v := atI_nat hv
    -- the end of a turn
    have fin : ∀ (H5 : Hp) (vs5 : List V) (w7 w8 w9 : Option V) (new : List Row), H5 fa = some (.lst vs5) → RowsAt H5 vs5 (made ++ new) → new = (S[i]).due (p ++ [(i : Int)]) o' → Kp fa H H5 →
        ∃ (v4 v5 v6 v7 v8 v9 : Option V) (vs' : List V) (made : List Row), [some (V.ref b), some (.ref pr), some (.ref be), some (.ref fa), some (.int (i : Int)), some (.ref y), some (.ref af), w7, w8, w9] = [some (.ref b), some (.ref pr), some (.ref be), some (.ref fa), v4, v5, v6, v7, v8, v9] ∧
          H5 fa = some (.lst vs') ∧ RowsAt H5 vs' made ∧ made ++ dueAll (S.drop (i + 1)) p (i + 1) o = rows ++ dueAll S p 0 o ∧ made.length + 2 * cntAll (S.drop (i + 1)) ≤ 100 ∧ Kp fa H H5 := by
      intro H5 vs5 w7 w8 w9 new e1 e2 e3 e4
      have dl := due_len S[i] (p ++ [(i : Int)]) o'
      refine ⟨_, _, _, _, _, _, vs5, made ++ new, rfl, e1, e2, by rw [e3, List.append_assoc]; exact eq2, ?_, e4⟩
      rw [List.length_append, e3]
      omega
    have lenm := hm4.len
    have small4 : vs'.length < sizeLine := small1000 (by rw [lenm]; omega)
    cases es : S[i] with
    | one wd =>
      rw [es] at av4
      rw [Stm.at] at av4
      obtain ⟨a, rfl, ha⟩ := av4
      refine ⟨_, rfl, _, rfl, b, xs, _, _, rfl, rfl, SqT.of hb4, ixv, a, _, _, _, rfl, rfl, SqT.of ha, rfl, ?_⟩
      refine ⟨_, rfl, rfl, _, rfl, iteFb (wd_ne wd) ?_⟩
      refine ⟨_, rfl, rfl, _, rfl, ?_⟩
      rw [wd_le]
      by_cases c : wd = .leave
      · subst c
        refine iteTb (decide_eq_true rfl) ?_
        refine ⟨_, rfl, .inl ⟨rfl, _, .inl (.inl hf4)⟩, _, rfl, (by show 3 ≤ sizeLine; decide), fun t ht => ⟨fa, vs', .ref t, rfl, rfl, same_new ht _ _ _ hf4, small4, ?_⟩⟩
        have z := add_row (a := 0) (o := none) (wv := .non) hf4 hm4 k4 hy4 rfl ht
        exact fin _ _ _ _ _ _ z.1 z.2.1 (by rw [es, Stm.due, if_pos rfl]) z.2.2.1
      · refine iteFb (decide_eq_false c) ?_
        refine ⟨_, rfl, .inl ⟨rfl, _, .inl (.inl hf4)⟩, _, rfl, _, rfl, af, o', rfl, baf, fun r hr => ⟨(by show 3 ≤ sizeLine; decide), fun t ht => ⟨fa, vs', .ref t, rfl, rfl, same_new ht _ _ _ hf4, small4, ?_⟩⟩⟩
        have z := add_row (a := 0) hf4 hm4 k4 hy4 hr ht
        exact fin _ _ _ _ _ _ z.1 z.2.1 (by rw [es, Stm.due, if_neg c]) z.2.2.1
    | nam bb z =>
      rw [es] at av4
      rw [Stm.at] at av4
      obtain ⟨a, rfl, ha⟩ := av4
      refine ⟨_, rfl, _, rfl, b, xs, _, _, rfl, rfl, SqT.of hb4, ixv, a, _, _, _, rfl, rfl, SqT.of ha, rfl, ?_⟩
      refine ⟨_, rfl, rfl, _, rfl, iteFb (lk_ne bb) ?_⟩
      refine ⟨_, rfl, rfl, _, rfl, iteFb (lk_le bb) ?_⟩
      refine ⟨_, rfl, .inl ⟨rfl, _, .inl (.inl hf4)⟩, _, rfl, _, rfl, af, o', rfl, baf, fun r hr => ⟨(by show 3 ≤ sizeLine; decide), fun t ht => ⟨fa, vs', .ref t, rfl, rfl, same_new ht _ _ _ hf4, small4, ?_⟩⟩⟩
      have z := add_row (a := 0) hf4 hm4 k4 hy4 hr ht
      exact fin _ _ _ _ _ _ z.1 z.2.1 (by rw [es, Stm.due]) z.2.2.1
    | ch yy nn =>
      rw [es] at av4
      rw [Stm.at] at av4
      obtain ⟨a, b1, b2, xs1, xs2, rfl, ha, hb1, at1, hb2, at2⟩ := av4
      obtain ⟨h', d2, oky, okn⟩ := okAll_ch ok (by rw [hs, es])
      have cn : made.length + 2 * (1 + cntAll yy + cntAll nn) ≤ 100 := by rw [es, Stm.cnt] at few2; omega
      refine ⟨_, rfl, _, rfl, b, xs, _, _, rfl, rfl, SqT.of hb4, ixv, a, _, _, _, rfl, rfl, SqT.of ha, rfl, ?_⟩
      refine ⟨_, rfl, rfl, _, rfl, iteTb (by decide +kernel) ?_⟩
      refine ⟨2, rfl, by decide, by decide, ?_⟩
      refine for_range (lo := 0) (n := 2) (fun j σ H5 => ∃ (w8 w9 : Option V) (vs5 : List V), σ = [some (.ref b), some (.ref pr), some (.ref be), some (.ref fa), some (.int (i : Int)), some (.ref y), some (.ref af), some (.str "choose"), w8, w9] ∧
        H5 fa = some (.lst vs5) ∧ RowsAt H5 vs5 (made ++ chTo j yy nn (p ++ [(i : Int)]) o') ∧ Kp fa H4 H5) ?_ ?_ ?_
      · exact ⟨_, _, vs', rfl, hf4, by show RowsAt H4 vs' (made ++ []); rw [List.append_nil]; exact hm4, Kp.refl _ _⟩
      · rintro j σ H5 hj ⟨w8, w9, vs5, rfl, hf5, hm5, k5⟩
        rw [Int.zero_add]
        have tk5 := k5.tk hf4
        have hb5 := tk5 _ _ hb4
        have ha5 := tk5 _ _ ha
        have hy5 := tk5 _ _ hy4
        have baf5 := baf.kp k5 hf4 naf
        have len5 := hm5.len
        have cl := chTo_len hj yy nn (p ++ [(i : Int)]) o'
        rw [List.length_append] at len5
        have small5 : vs5.length < sizeLine := small1000 (by omega)
        obtain ⟨bb, xb, hbb, atb, eat, okb⟩ : ∃ bb xb, H5 bb = some (.tup xb) ∧ atAll H5 xb (br (j : Int) yy nn) ∧ atI [V.str "choose", V.ref b1, V.ref b2] (1 + (j : Int)) = some (.ref bb) ∧ okAll (d + 1) (br (j : Int) yy nn) h' := by
          match j, hj with
          | 0, _ => exact ⟨b1, xs1, tk5 _ _ hb1, atAll_keep tk5 _ _ at1, rfl, oky⟩
          | 1, _ => exact ⟨b2, xs2, tk5 _ _ hb2, atAll_keep tk5 _ _ at2, rfl, okn⟩
        have lenb := atAll_len atb
        refine ⟨_, rfl, _, rfl, b, xs, _, _, rfl, rfl, SqT.of hb5, ixv, _, rfl, _, _, rfl, rfl, a, _, _, _, rfl, rfl, SqT.of ha5, eat, ?_⟩
        refine ⟨fun σ' H' => ∃ (vs6 : List V), σ' = [some (.ref b), some (.ref pr), some (.ref be), some (.ref fa), some (.int (i : Int)), some (.ref y), some (.ref af), some (.str "choose"), some (.int (j : Int)), some (.ref bb)] ∧
          H' fa = some (.lst vs6) ∧ RowsAt H' vs6 ((made ++ chTo j yy nn (p ++ [(i : Int)]) o') ++ [(p ++ [(i : Int)], (j : Int), if (br (j : Int) yy nn).isEmpty = true then o' else some ((p ++ [(i : Int)]) ++ [(j : Int), 0]))]) ∧ Kp fa H4 H', ?_, ?_⟩
        · refine ⟨_, rfl, bb, xb, rfl, .inr (SqT.of hbb), _, _, rfl, rfl, _, rfl, ?_⟩
          refine ite2 (fun c => ?_) (fun c => ?_)
          · have c' : (xb.length : Int) > 0 := of_decide_eq_true c
            have ne : (br (j : Int) yy nn).isEmpty = false := by
              cases e : br (j : Int) yy nn with
              | nil => rw [e] at lenb; rw [lenb] at c'; exact absurd c' (by decide)
              | cons _ _ => rfl
            refine ⟨_, rfl, .inl ⟨rfl, _, .inl (.inl hf5)⟩, _, rfl, _, rfl, _, rfl, _, rfl, (by show 2 ≤ sizeLine; decide), fun z hz => ?_⟩
            have s6 := same_new hz (.tup [.int (j : Int), .int 0])
            have pne : (p ++ [(i : Int)]).map V.int ≠ [] := by simp
            refine ⟨y, z, _, _, rfl, rfl, SqT.of (s6 _ _ hy5), SqT.of upd_same, small (by simp; omega), (fun e => absurd e pne), (fun _ e => nomatch e), fun _ _ z2 hz2 => ⟨(by show 3 ≤ sizeLine; decide), fun t ht => ?_⟩⟩
            have s7 := s6.trans (same_new hz2 (.tup ((p ++ [(i : Int)]).map V.int ++ [.int (j : Int), .int 0])))
            refine ⟨fa, vs5, .ref t, rfl, rfl, same_new ht _ _ _ (s7 _ _ hf5), small5, ?_⟩
            have zr := add_row (a := (j : Int)) (o := some ((p ++ [(i : Int)]) ++ [(j : Int), 0])) (wv := .ref z2) (s7 _ _ hf5) (hm5.keep (TK.of_same s7)) (k5.trans (Kp.of_same s7)) (s7 _ _ hy5) ⟨z2, rfl, by rw [upd_same, List.map_append (f := V.int) (l₁ := p ++ [(i : Int)])]; rfl⟩ ht
            refine ⟨_, rfl, zr.1, ?_, zr.2.2.1⟩
            rw [if_neg (by rw [ne]; decide)]
            exact zr.2.1
          · have c' : ¬ (xb.length : Int) > 0 := fun z => c (decide_eq_true z)
            have ne : (br (j : Int) yy nn).isEmpty = true := by
              cases e : br (j : Int) yy nn with
              | nil => rfl
              | cons _ _ => rw [e, List.length_cons] at lenb; exact absurd (by omega) c'
            refine ⟨_, rfl, .inl ⟨rfl, _, .inl (.inl hf5)⟩, _, rfl, _, rfl, _, rfl, af, o', rfl, baf5, fun r hr => ⟨(by show 3 ≤ sizeLine; decide), fun t ht => ?_⟩⟩
            refine ⟨fa, vs5, .ref t, rfl, rfl, same_new ht _ _ _ hf5, small5, ?_⟩
            have zr := add_row (a := (j : Int)) hf5 hm5 k5 hy5 hr ht
            refine ⟨_, rfl, zr.1, ?_, zr.2.2.1⟩
            rw [if_pos ne]
            exact zr.2.1
        · rintro σ' H6 ⟨vs6, rfl, hf6, hm6, k6⟩
          have tk6 := k6.tk hf4
          refine ⟨_, rfl, _, rfl, _, rfl, (by show 1 ≤ sizeLine; decide), ?_⟩
          refine cat_one (p := p ++ [(i : Int)]) (j := (j : Int)) (tk6 _ _ hy4) (by simp; omega) (fun y3 H7 hy3 s7 => ?_)
          have k7 := k6.trans (Kp.of_same (p := fa) s7)
          have tk7 := k7.tk hf4
          obtain ⟨bb', xb', hbb', atb', eat'⟩ : ∃ bb xb, H4 bb = some (.tup xb) ∧ atAll H4 xb (br (j : Int) yy nn) ∧ atI [V.str "choose", V.ref b1, V.ref b2] (1 + (j : Int)) = some (.ref bb) := by
            match j, hj with
            | 0, _ => exact ⟨b1, xs1, hb1, at1, rfl⟩
            | 1, _ => exact ⟨b2, xs2, hb2, at2, rfl⟩
          have ebb : bb = bb' := by
            rw [eat] at eat'
            injection eat' with e; injection e
          subst ebb
          refine ⟨_, rfl, _, rfl, bb, y3, af, fa, xb', vs6, br (j : Int) yy nn, _, (p ++ [(i : Int)]) ++ [(j : Int)], o', d + 1, h', rfl, tk7 _ _ hbb', atAll_keep tk7 _ _ atb', okb, by omega, by omega, hy3, by simp; omega, baf.kp k7 hf4 naf, naf, s7 _ _ hf6, hm6.keep (TK.of_same s7), ?_, fun H8 vs8 k8 hf8 hm8 => ?_⟩
          · simp only [List.length_append, List.length_cons, List.length_nil]
            omega
          · refine ⟨_, _, vs8, rfl, hf8, ?_, k7.trans k8⟩
            rw [chTo_succ hj]
            have e : made ++ (chTo j yy nn (p ++ [(i : Int)]) o' ++ chRow (j : Int) (br (j : Int) yy nn) (p ++ [(i : Int)]) o') = ((made ++ chTo j yy nn (p ++ [(i : Int)]) o') ++ [(p ++ [(i : Int)], (j : Int), if (br (j : Int) yy nn).isEmpty = true then o' else some ((p ++ [(i : Int)]) ++ [(j : Int), 0]))]) ++ dueAll (br (j : Int) yy nn) ((p ++ [(i : Int)]) ++ [(j : Int)]) 0 o' := by
              rw [chRow]; simp
            rw [e]
            exact hm8
      · rintro σ H5 ⟨w8, w9, vs5, rfl, hf5, hm5, k5⟩
        rw [chTo_two] at hm5
        exact fin H5 vs5 _ _ _ _ hf5 hm5 (by rw [es]) (k4.trans k5)
  · rintro σ H2 ⟨v4, v5, v6, v7, v8, v9, vs', made, rfl, hf2, hm2, eq2, few2, k2⟩
    rw [lenS, List.drop_length, dueAll, List.append_nil] at eq2
    rw [eq2] at hm2
    exact ⟨_, rfl, q H2 vs' k2 hf2 hm2⟩
end
end Tk
set_option maxRecDepth 100000
namespace L2
open PySem PySem.Spec PyProof.Rows
/-! ### try with several clauses that name their error; one of them takes it -/
abbrev Cl := Value × Nat × (Addr → Value → Option Addr → TS)
/-- behind a clause its name is gone -/
def Ends.gone (D : Ends) (i : Nat) : Ends := { nx := fun σ H => D.nx (σ.set i none) H, rt := D.rt, bk := fun σ H => D.bk (σ.set i none) H, ct := fun σ H => D.ct (σ.set i none) H }
def wCl (K : PySem.W.Frag) (D : Ends) : List Cl → WX
  | [] => fun _ _ _ _ => False
  | k :: r => fun cls d σ H => (PySem.W.exmOne K cls k.1 = some true ∧ ∀ a, H a = none → k.2.2 a cls d (D.gone k.2.1) (σ.set k.2.1 (some (.ref a))) H) ∨ (PySem.W.exmOne K cls k.1 = some false ∧ wCl K D r cls d σ H)
inductive ClOk (X : Cx) : List ExceptHandler → List Cl → Prop
  | nil : ClOk X [] []
  | cons {x n : Str} {c : Value} {i : Nat} {ts : Addr → Value → Option Addr → TS} {b : Stmt} {bs : List Stmt} {p p' : Pos} {hs : List ExceptHandler} {l : List Cl} (hc : Names X x c) (hi : X.N[i]? = some n) (hl : X.env.kindOf n = some .local)
      (su : ∀ (a : Addr) (oe : Obj) (cls : Value) (d : Option Addr) (pn : List (Addr × Obj)), Zc cls d oe → (∃ vs, oe.data = .fields vs) → PSs (X.suite a ((a, oe) :: pn)) (b :: bs) (ts a cls d)) (r : ClOk X hs l) :
      ClOk X (.ExceptHandler (some (.Name x p)) (some n) (b :: bs) p' :: hs) ((c, i, ts) :: l)
section
variable {X : Cx}
/-- a caught error, while the clauses are asked -/
structure Caught (X : Cx) (pins : List (Addr × Obj)) (a : Addr) (G : Heap) (s0 s3 : Shared) (σ : St) (H : Hp) (cls : Value) (d : Option Addr) : Prop where
  inv : Inv X pins σ H s0
  nb : ∀ b o, s0.heap.get? b = some o → b ∉ frs X.stack → G.get? b = some o
  up : s0.heap.UpToSlots s3.heap
  fl : HandSPX.FlyingZ G (X.env :: X.outer) a (Zc cls d) s3.heap
  na : H a = none
  os : s3.os = s0.os
  ag : AllBare s3.gens
variable {pins : List (Addr × Obj)} {a : Addr} {G : Heap} {s0 s3 : Shared} {σ : St} {H : Hp} {cls : Value} {d : Option Addr}
theorem Caught.stand (C : Caught X pins a G s0 s3 σ H cls d) (hf : X.env.frame = some X.env.locals) : ∃ oe, Zc cls d oe ∧ (∃ vs, oe.data = .fields vs) ∧ s3.heap.get? a = some oe ∧ Inv X pins σ H s3 ∧ Inv (X.suite a ((a, oe) :: (X.pn ++ pins))) [] σ H s3 := by
  obtain ⟨oe, vs, e1, e2, e3⟩ := C.fl.there
  have nf : a ∉ frs (X.env :: X.outer) := fun m => by
    obtain ⟨_, o2, e4, q⟩ := C.fl.2.2.1.mem m
    have e5 := e1.symm.trans e4
    injection e5 with e5
    exact q _ (e5 ▸ e3)
  have J := C.inv.landed C.nb C.fl.1 C.up C.os C.ag
  refine ⟨oe, e2, ⟨vs, e3⟩, e1, J, J.suite e1 e3 C.na (fun z => nf ?_) (fun m => nf ?_)⟩
  · exact List.mem_filterMap.mpr ⟨X.env, List.mem_cons_self, by rw [hf, z]⟩
  · obtain ⟨v, hv, q⟩ := List.mem_filterMap.mp m
    exact List.mem_filterMap.mpr ⟨v, List.mem_cons_of_mem _ hv, q⟩
theorem Caught.on (C : Caught X pins a G s0 s3 σ H cls d) {h4 : Heap} (f : HandSPX.FlyingZ G (X.env :: X.outer) a (Zc cls d) h4) (u : s3.heap.UpToSlots h4) : Caught X pins a G s0 { s3 with heap := h4 } σ H cls d :=
  ⟨C.inv, C.nb, C.up.trans u, f, C.na, C.os, C.ag⟩
theorem handle_cl {D : Ends} (hf : X.env.frame = some X.env.locals) (nd : X.N.Nodup) : ∀ {hs : List ExceptHandler} {l : List Cl}, ClOk X hs l → ∀ {s3 : Shared}, Caught X pins a G s0 s3 σ H cls d → wCl X.K D l cls d σ H →
    wpAny (model X.prog X.w) X.A (handleBy (.ref a) X.env hs) (SP X pins D) X.xe s3 := by
  intro hs l ok
  induction ok with
  | nil => intro s3 _ w; exact w.elim
  | @cons x n c i ts b bs p p' hs l hc hi hl su r ih =>
    intro s3 C w
    obtain ⟨oe, z, hv, e1, J, S⟩ := C.stand hf
    refine wpAny_handleBy_cons (codeAny_handlers_test ?_) (fun q => nomatch q)
    have ty : PySem.W.Looks (model X.prog X.w) s3.heap (typeOf (.ref a)) cls := fun A Q E s k q => wpAny_typeOf_ref (k _ _ e1) (by rw [z.1]; exact q)
    have ask : ∀ {Q : Value → Shared → Prop} {E : Value → Shared → Prop}, Q c s3 → wpAny (model X.prog X.w) (X.A.mark (some (.ref a))) (eval (.Name x p) X.env) Q E s3 := fun {Q E} q => by
      obtain ⟨g1, g2, g3 | ⟨g3, g4, g5⟩⟩ := hc
      · exact ld_glob (X := X.suite a ((a, oe) :: (X.pn ++ pins))) S g1 g3 q g2
      · exact ld_blt (X := X.suite a ((a, oe) :: (X.pn ++ pins))) S g1 g3 g4 q g5 g2
    rcases w with ⟨yes, go⟩ | ⟨no, w⟩
    · refine ask ((PySem.W.exm_one (M := model X.prog X.w) J.kIn ty yes).here (codeAny_handlers_suite_as (HandSPX.lands_againZ C.fl fun h4 f u => ?_)))
      obtain ⟨oe4, z4, hv4, e4, J4, S4⟩ := (C.on f u).stand hf
      refine store_ok (X := X.suite a ((a, oe4) :: (X.pn ++ pins))) (v := .ref a) S4 nd hi (.inl hl) rfl (fun s5 S5 => ?_) (.inr hl)
      have last : ∀ {σ6 : St} {H6 : Hp} {s6 : Shared} {Q : Shared → Prop}, Inv (X.suite a ((a, oe4) :: (X.pn ++ pins))) [] σ6 H6 s6 → (∀ s7, Inv X pins (σ6.set i none) H6 s7 → Q s7) →
          wpAny (model X.prog X.w) X.A (do bindName X.env n .none; unbindBehindTheSuite X.env n p') (fun _ s7 => Q s7) X.xe s6 := fun {σ6 H6 s6 Q} T q => gone_ok (T.unsuite J.ok) nd hi hl q
      refine wpAny_mono ((su a oe4 cls d (X.pn ++ pins) z4 hv4).run [] s5 _ H (D.gone i) S5 (go a C.na)) (fun f6 s6 q6 => ?_) (fun _ _ y => False.elim y)
      match f6, q6 with
      | .next, ⟨_, _, T, y⟩ => exact last T fun _ I7 => ⟨_, _, I7, y⟩
      | .brk, ⟨_, _, T, y⟩ => exact last T fun _ I7 => ⟨_, _, I7, y⟩
      | .cont, ⟨_, _, T, y⟩ => exact last T fun _ I7 => ⟨_, _, I7, y⟩
      | .ret _, ⟨_, _, _, T, rv, y⟩ => exact last T fun _ I7 => ⟨_, _, _, I7, rv, y⟩
    · exact ask ((PySem.W.exm_one (M := model X.prog X.w) J.kIn ty no).here (ih C w))
theorem ps_try_cl {body : List Stmt} {h : ExceptHandler} {hs : List ExceptHandler} {l : List Cl} {pos : Pos} {tb : WX → TS} (st : X.stack = X.env :: X.outer) (hf : X.env.frame = some X.env.locals) (nd : X.N.Nodup)
    (hb : ∀ (W : WX) (pn : List (Addr × Obj)) (xe : Value → Shared → Prop), Takes (X.tr pn xe) W → PassesOwn (model X.prog X.w) X.A X.env xe → PSs (X.tr pn xe) body (tb W)) (ok : ClOk X (h :: hs) l) :
    PS X (.Try body (h :: hs) [] [] pos) (fun D σ H => tb (wCl X.K D l) D σ H) := by
  refine ⟨fun pins s σ H D I r => wpAny_Try_except ?_⟩
  refine wpAny_mono ((hb (wCl X.K D l) (X.pn ++ pins) _ (fun u s1 xx => ?_) PassesOwn.looking).run [] s σ H D (I.toTry _) r) (fun f s1 q => ?_) (fun _ _ y => y)
  · obtain ⟨a, G, s0, pins1, σ1, H1, cls, d, rfl, I1, nb, up, sky, na, os, ag, w⟩ := xx
    have fr : X.A.frames = some (X.env :: X.outer) := by rw [I.ok.frames, st]
    have sky1 : Sky G (X.env :: X.outer) a (Zc cls d) X.env.locals s1.heap := by rw [← st]; exact sky
    exact Sky.land Zc.steady fr hf sky1 fun h3 f3 u3 => handle_cl hf nd ok ⟨I1.ofTry I.ok, nb, up.trans u3, f3, na, os, ag⟩ w
  · match f, q with
    | .next, ⟨_, _, I1, y⟩ => exact wpAny_execs_nil ⟨_, _, I1.ofTry I.ok, y⟩
    | .brk, ⟨_, _, I1, y⟩ => exact ⟨_, _, I1.ofTry I.ok, y⟩
    | .cont, ⟨_, _, I1, y⟩ => exact ⟨_, _, I1.ofTry I.ok, y⟩
    | .ret _, ⟨_, _, _, I1, rv, y⟩ => exact ⟨_, _, _, I1.ofTry I.ok, rv, y⟩
end
end L2
set_option maxRecDepth 100000
namespace L2
open PySem PySem.Spec PyProof.Rows
section
variable {X : Cx} {CX : CXT} {k : Nat} {f C : Addr} {fd : FuncData} {ps : List Str} {sp : Sp} {E : St → XK} {m : Str} {pos apos : Pos} {e o : Expr} {es : List Expr} {ta : TE} {t : TA}
/-- o.m(e, ..), where an error may come out, as the wish at these slots says -/
def tMethXS (C : Addr) (m : Str) (sp : Sp) (E : St → XK) (ta : TE) (t : TA) : TE := fun σ H Q => ta σ H fun x H1 => ∃ a dx fs, x = .ref a ∧ H1 a = some (.ins C dx fs) ∧ fs.lookup m = none ∧ t σ H1 fun vs H2 => sp (x :: vs) H2 Q (E σ)
abbrev mcall (X : Cx) (o : Expr) (m : Str) (apos pos : Pos) (es : List Expr) (pl : Sem Bool) : Sem Value := (do let ov ← eval o X.env; standAt apos.atName; let (g, one) ← holding [ov] (getMethod ov m pl); callWith pos g one (backTo pos (starEach es X.env)) (backToKw pos (keywordEach [] X.env)))
theorem pe_methXS {pl : Sem Bool} (he : PE X o ta) (c : Cls X.K C) (hm : Meth X.K C m f) (F : FnOk X.prog X.w X.K X.mg X.base CX k f fd ps sp) (hr : Room k X.A) (hb : Binds X.K fd ps []) (hx : ∀ σ, PassesAt CX X σ (E σ)) (ha : PA X (e :: es) t)
    (ht : eval (.Call (.Attribute o m apos) (e :: es) [] pos) X.env = mcall X o m apos pos (e :: es) pl := by rfl) (h1 : starEach (e :: es) X.env = (false, eval e X.env) :: starEach es X.env := by rfl) (h2 : (backTo pos (starEach es X.env)).any (·.1) = false := by rfl) :
    PE X (.Call (.Attribute o m apos) (e :: es) [] pos) (tMethXS C m sp E ta t) := by
  constructor
  intro pins s σ H Q I h
  refine PySem.W.methodCall_KW (pl := pl) (thn (he.run pins s σ H _ I h) fun u s1 q => ?_) ht
  obtain ⟨_, H1, I1, ru, a, dx, fs, rfl, ea, l, q⟩ := q
  have eu : u = Value.ref a := ru
  subst eu
  refine getmeth_ok I1 ea c hm l (PySem.W.callWith_K (first := [.ref a]) (h₀ := X.base) I.ok.mod.kin hm.kp (thn (ha.run pos pins s1 σ H1 _ I1 q) fun us s2 q2 => ?_) h1 h2)
  obtain ⟨vs, H2, I2, r, q2⟩ := q2
  exact ⟨I2.kIn, run_fnS (us := .ref a :: us) (vs := .ref a :: vs) F hr hb (hx σ) I2 (.cons rfl r) q2⟩
end
end L2
namespace Tk
open PySem L2
abbrev sTold : Stmt := top 29
def spTold (CS CN CA : Addr) : Sp := fun vs H Q _ => ∃ (x t : Addr) (v w : V) (S : List Stm), vs = [.ref x, v, w] ∧ Sc CS H x t S ∧
  ((NoPl H S v ∧ ∀ (z : Addr) (H' : Hp), Same H H' → H' z = some (.tup [.str "place", v]) → Q (.ref z) H') ∨
   ∃ (u : Addr) (p : Pl) (s : Stm), v = .ref u ∧ H u = some (.tup (p.map V.int)) ∧ p ≠ [] ∧ p.length ≤ 5 ∧ look S p = some s ∧ (∃ T, Kd H w T) ∧
     (∀ a : Int, w = .int a → Can s w → ∀ (z : Addr) (r : V) (H' : Hp), Same H H' → PlV H' (aft S p s a) r → H' z = some (.tup [.str "after", r]) → Q (.ref z) H') ∧
     (¬ Can s w → ∀ (z : Addr) (H' : Hp), Same H H' → H' z = some (.tup [.str "answer", w]) → Q (.ref z) H'))
/-- how the two error classes of a script stand to one another -/
structure ExRel (K : PySem.W.Frag) (mg : Str → Option Value) (CN CA CT : Addr) : Prop where
  mT : mg "TakeError" = some (.ref CT)
  aN : PySem.W.exmOne K (.ref CN) (.ref CA) = some false
  kAN : PySem.W.kitOne K (.ref CA) (.ref CN) = some false
  kAT : PySem.W.kitOne K (.ref CA) (.ref CT) = some true
  kNT : PySem.W.kitOne K (.ref CN) (.ref CT) = some true
section
variable {P : Program} {w : World} {K : PySem.W.Frag} {mg : Str → Option Value} {base : Heap} {CS CK it CN CA CT : Addr}
theorem scTo : FnScope ["_law_made", "_law_place_here", "_law_answer", "_law_after", "e"] ["_law_made", "_law_place_here", "_law_answer"] (defScope sTold) := ⟨rfl, rfl, rfl, by decide +kernel, rfl, by decide +kernel, by decide +kernel⟩
theorem ok_told {f fG fI fJ : Addr} {fd fdG : FuncData} (F : Fun K "_law_told" "_law_told" sTold f fd) (T : Txt K w mg CS CK it) (TN : Ecl K mg "NoPlace" "place" CN fI) (TA : Ecl K mg "NoAnswer" "answer" CA fJ) (R : ExRel K mg CN CA CT)
    (GX : FnOk P w K mg base (L2.CX P w) 5 fG fdG ["self", "place", "answer"] (spAfX CS CN CA)) (bG : Binds K fdG ["self", "place", "answer"] []) (mG : Meth K CS "after" fG) : FnOk P w K mg base CX0 6 f fd ["_law_made", "_law_place_here", "_law_answer"] (spTold CS CN CA) := by
  refine F.ok scTo (fun vs H Q E h => ?_) (fun cdv A outer s H vs Q E hr h => ?_)
  · obtain ⟨x, t, v, wv, S, rfl, _⟩ := h
    rfl
  obtain ⟨x, t, v, wv, S, rfl, C, alt⟩ := h
  refine ⟨_, pss_cons (ps_try_cl rfl rfl scTo.nd
      (fun W pn xe tk _ => pss_one (ps_set (i := 3) scTo.nd rfl (Or.inl rfl) (pe_methXS (pv 0) T.clS mG GX hr bG (fun σ => passAt tk σ) (pa_cons (pv 1) (pa_cons (pv 2) pa_nil)))))
      (.cons (i := 4) ⟨rfl, by decide, .inl TA.gC⟩ rfl rfl (fun a oe cls d pn hz hf =>
          pss_cons (ps_if (PW.pt (pw_or (pt_val (pe_callB (call_isX TA hz hf) (by rfl) T.isi (by decide +kernel) (pa_cons (pv 4) (pa_cons (pe_glob (v := .ref CN) (by rfl) TN.gC rfl) pa_nil))))
            (pw_or1 (pt_not (pt_val (pe_callB (call_isX TA hz hf) (by rfl) T.isi (by decide +kernel) (pa_cons (pv 4) (pa_cons (pe_glob (v := .ref CT) (by rfl) R.mT rfl) pa_nil)))))))) (pss_one ps_never) pss_nil)
          (pss_one (ps_ret (pe_tup (pa_cons pe_str (pa_cons (pe_xf TA.xf TA.noF hz hf (pv 4)) pa_nil))))))
      (.cons (i := 4) ⟨rfl, by decide, .inl TN.gC⟩ rfl rfl (fun a oe cls d pn hz hf =>
          pss_cons (ps_if (pt_not (pt_val (pe_callB (call_isX TN hz hf) (by rfl) T.isi (by decide +kernel) (pa_cons (pv 4) (pa_cons (pe_glob (v := .ref CT) (by rfl) R.mT rfl) pa_nil))))) (pss_one ps_never) pss_nil)
          (pss_one (ps_ret (pe_tup (pa_cons pe_str (pa_cons (pe_xf TN.xf TN.noF hz hf (pv 4)) pa_nil)))))) .nil)))
    (pss_one (ps_ret (pe_tup (pa_cons pe_str (pa_cons (pv 3) pa_nil))))), ?_⟩
  obtain ⟨⟨dx, dd, pl, bs, kvs, ys, g1, _⟩, _⟩ := id C
  refine ⟨_, rfl, x, dx, _, rfl, g1, flds_no _ _ _ (by decide +kernel) (by decide +kernel) (by decide +kernel), _, rfl, _, rfl, x, t, v, wv, S, rfl, C, ?_⟩
  rcases alt with ⟨np, q⟩ | ⟨u, p, st, rfl, hu, pn, l5, hl, kd, good, bad⟩
  · refine .inl ⟨np, fun d H' s1 hd hx => .inr ⟨R.aN, .inl ⟨TN.te, fun a ha => ?_⟩⟩⟩
    refine ⟨_, rfl, .ref CT, _, true, d, _, rfl, rfl, hx, rfl, (fun u z => z), R.kNT, true, rfl, iteF ?_⟩
    refine ⟨_, rfl, rfl, rfl, d, _, v, rfl, hx, rfl, (by show 2 ≤ sizeLine; decide), fun z hz => ?_⟩
    exact q z _ (s1.trans (same_new hz _)) upd_same
  · refine .inr ⟨u, p, st, rfl, hu, pn, l5, hl, kd, fun a e c r H' s1 hr' => ?_, fun n d H' s1 hd hx => .inl ⟨TA.te, fun a ha => ?_⟩⟩
    · refine ⟨_, rfl, (by show 2 ≤ sizeLine; decide), fun z hz => ?_⟩
      have s2 := same_new hz (.tup [.str "after", r])
      exact good a e c z r _ (s1.trans s2) (hr'.keep (TK.of_same s2)) upd_same
    · refine ⟨_, rfl, .ref CN, _, false, d, _, rfl, rfl, hx, rfl, (fun u z => z), R.kAN, false, rfl, iteF ?_⟩
      refine ⟨_, rfl, .ref CT, _, true, d, _, rfl, rfl, hx, rfl, (fun u z => z), R.kAT, true, rfl, iteF ?_⟩
      refine ⟨_, rfl, rfl, rfl, d, _, wv, rfl, hx, rfl, (by show 2 ≤ sizeLine; decide), fun z hz => ?_⟩
      exact bad n z _ (s1.trans (same_new hz _)) upd_same
end
end Tk
set_option maxRecDepth 100000
namespace L2
open PySem PySem.Spec PyProof.Rows
/-- a != b, two tuples of the very same items -/
def rNeS (K : PySem.W.Frag) : R2 := fun x y H Q => ∃ (a b : Addr) (xs : List V), x = .ref a ∧ y = .ref b ∧ SqT K H a xs ∧ SqT K H b xs ∧ (∀ v ∈ xs, flatB v = true ∨ ∃ c, v = .ref c) ∧ Q (.bl false) H
theorem same_items {A : Around} {s : Shared} {xs : List V} : ∀ {us ws : List Value}, Vals xs us → Vals xs ws → (∀ v ∈ xs, flatB v = true ∨ ∃ c, v = .ref c) → ∀ j (h1 : j < us.length) (h2 : j < ws.length), SeqAt.EqAt A s us[j] ws[j] true := by
  induction xs with
  | nil => intro us ws r1 r2 hf j h1 h2; cases r1; exact absurd h1 (Nat.not_lt_zero j)
  | cons x r ih =>
    intro us ws r1 r2 hf j h1 h2
    cases r1 with
    | cons a1 b1 =>
      cases r2 with
      | cons a2 b2 =>
        cases j with
        | zero =>
          rcases hf x List.mem_cons_self with f | ⟨c, rfl⟩
          · exact eqAt_same a1 a2 f
          · cases (show _ = Value.ref c from a1)
            cases (show _ = Value.ref c from a2)
            exact SeqAt.EqAt.same _
        | succ j => exact ih b1 b2 (fun v m => hf v (List.mem_cons_of_mem _ m)) j (Nat.lt_of_succ_lt_succ h1) (Nat.lt_of_succ_lt_succ h2)
theorem op_neS {X : Cx} (hu : X.A.units < cLine) : OpR X (compareOp .NotEq) (rNeS X.K) := by
  intro pins s σ H x y v u Q I rx ry h
  obtain ⟨a, b, xs, rfl, rfl, ha, hb, hf, q⟩ := h
  obtain rfl : v = Value.ref a := rx
  obtain rfl : u = Value.ref b := ry
  obtain ⟨us, r1, p1, _⟩ := I.tuple ha
  obtain ⟨ws, r2, p2, _⟩ := I.tuple hb
  have hl : us.length = ws.length := by rw [← r1.length, ← r2.length]
  have z := SeqAt.RcNeAt.tuples (A := X.A) (s := s) (e := fun _ => true) (l := a) (b := b) (items := us.toArray) (items2 := ws.toArray) p1 p2 hu (fun j h1 h2 => by
    have k := same_items (A := X.A.in1) (s := s) r1 r2 hf j (by simpa using h1) (by simpa using h2)
    simpa using k)
  have e : (!((List.range (min us.toArray.size ws.toArray.size)).all (fun _ => true) && us.toArray.size == ws.toArray.size)) = false := by
    rw [show ((List.range (min us.toArray.size ws.toArray.size)).all fun _ => true) = true from List.all_eq_true.mpr fun _ _ => rfl]
    simp [hl]
  rw [e] at z
  exact z X.prog X.w _ _ ⟨.bl false, H, I, rfl, q⟩
end L2
set_option maxRecDepth 100000
namespace Tk
open PySem L2
/-! ## what is no place -/
theorem nth_lt {B : List Stm} {j : Int} {s : Stm} (h : nth B j = some s) : 0 ≤ j ∧ j < (cntAll B : Nat) := by
  unfold nth at h
  by_cases c : 0 ≤ j
  · rw [if_pos c] at h
    have l := (List.getElem?_eq_some_iff.mp h).1
    have l2 := len_le_cnt B
    omega
  · rw [if_neg c] at h; cases h
theorem cnt_mem {B : List Stm} {j : Int} {s : Stm} (h : nth B j = some s) : s.cnt ≤ cntAll B := by
  unfold nth at h
  by_cases c : 0 ≤ j
  · rw [if_pos c] at h
    generalize j.toNat = k at h
    induction B generalizing k with
    | nil => cases h
    | cons t r ih =>
      rw [cntAll]
      cases k with
      | zero => have e : t = s := Option.some.inj h; rw [e]; omega
      | succ k => have z := ih k h; omega
  · rw [if_neg c] at h; cases h
/-- the numbers of a place are small, and it has an odd number of them -/
theorem sub_ok : ∀ (n : Nat) (s t : Stm) (q : Pl), q.length ≤ n → sub s q = some t → (∃ m : Nat, q.length = 2 * m) ∧ ∀ (r : Pl) (j : Int), q = r ++ [j] → 0 ≤ j ∧ j < (s.cnt : Nat)
  | _, s, t, [], _, _ => ⟨⟨0, rfl⟩, fun r j e => by cases r <;> cases e⟩
  | 0, s, t, a :: q, hn, _ => absurd hn (by simp)
  | n + 1, .one w, t, [a], _, h => by cases h
  | n + 1, .one w, t, a :: b :: q, _, h => by cases h
  | n + 1, .nam _ _, t, [a], _, h => by cases h
  | n + 1, .nam _ _, t, a :: b :: q, _, h => by cases h
  | n + 1, .ch y z, t, [a], _, h => by cases h
  | n + 1, .ch y z, t, a :: j :: q, hn, h => by
    rw [sub] at h
    have go : ∀ B : List Stm, cntAll B ≤ (Stm.ch y z).cnt → (nth B j).bind (fun t => sub t q) = some t → (∃ m : Nat, (a :: j :: q).length = 2 * m) ∧ ∀ (r : Pl) (i : Int), a :: j :: q = r ++ [i] → 0 ≤ i ∧ i < ((Stm.ch y z).cnt : Nat) := by
      intro B hB hb
      cases e : nth B j with
      | none => rw [e] at hb; cases hb
      | some s2 =>
        rw [e] at hb
        obtain ⟨⟨m, hm⟩, k⟩ := sub_ok n s2 t q (by simp at hn; omega) hb
        have c1 := nth_lt e
        have c2 := cnt_mem e
        refine ⟨⟨m + 1, by simp [hm]; omega⟩, fun r i er => ?_⟩
        rcases List.eq_nil_or_concat q with rfl | ⟨q2, i2, eq⟩
        · have e2 : [a, j] = r ++ [i] := er
          have : i = j := by
            have := congrArg List.getLast? e2
            simpa using this.symm
          subst this
          omega
        · have eq' : q = q2 ++ [i2] := by rw [eq]; simp
          have z2 := k q2 i2 eq'
          have : i = i2 := by
            have e3 : (a :: j :: q2) ++ [i2] = r ++ [i] := by rw [← er, eq']; rfl
            have e4 := (List.append_inj' e3 rfl).2
            injection e4 with e4
            exact e4.symm
          subst this
          omega
    by_cases h0 : a = 0
    · rw [if_pos h0] at h
      exact go y (by rw [Stm.cnt]; omega) h
    · rw [if_neg h0] at h
      by_cases h1 : a = 1
      · rw [if_pos h1] at h
        exact go z (by rw [Stm.cnt]; omega) h
      · rw [if_neg h1] at h; cases h
theorem look_ok {S : List Stm} {p : Pl} {s : Stm} (h : look S p = some s) : (∃ m : Nat, p.length = 2 * m + 1) ∧ ∀ (r : Pl) (j : Int), p = r ++ [j] → 0 ≤ j ∧ j < (cntAll S : Nat) := by
  cases p with
  | nil => cases h
  | cons i q =>
    rw [look] at h
    cases e : nth S i with
    | none => rw [e] at h; cases h
    | some t =>
      rw [e] at h
      obtain ⟨⟨m, hm⟩, k⟩ := sub_ok q.length t s q (Nat.le_refl _) h
      have c1 := nth_lt e
      have c2 := cnt_mem e
      refine ⟨⟨m, by simp [hm]⟩, fun r j er => ?_⟩
      rcases List.eq_nil_or_concat q with rfl | ⟨q2, i2, eq⟩
      · have : j = i := by
          have := congrArg List.getLast? er
          simpa using this.symm
        subst this
        omega
      · have eq' : q = q2 ++ [i2] := by rw [eq]; simp
        have z2 := k q2 i2 eq'
        have : j = i2 := by
          have e3 : (i :: q2) ++ [i2] = r ++ [j] := by rw [← er, eq']; rfl
          have e4 := (List.append_inj' e3 rfl).2
          injection e4 with e4
          exact e4.symm
        subst this
        omega
theorem look_far {S : List Stm} {r : Pl} {j : Int} (few : cntAll S ≤ 8) (h0 : 0 ≤ j) : look S (r ++ [j + 9]) = none := by
  cases e : look S (r ++ [j + 9]) with
  | none => rfl
  | some s =>
    have z := (look_ok e).2 r (j + 9) rfl
    omega
theorem look_even {S : List Stm} {p : Pl} {s : Stm} (h : look S p = some s) : look S (p ++ [0]) = none := by
  cases e : look S (p ++ [0]) with
  | none => rfl
  | some t =>
    obtain ⟨⟨m, hm⟩, _⟩ := look_ok h
    obtain ⟨⟨k, hk⟩, _⟩ := look_ok e
    rw [List.length_append] at hk
    simp at hk
    omega
end Tk
set_option maxRecDepth 100000
namespace Tk
open PySem L2
/-- the places of the rows -/
def PsAt (H : Hp) : List V → List Row → Prop
  | [], [] => True
  | v :: vs, r :: rs => (∃ u, v = .ref u ∧ H u = some (.tup (r.1.map V.int))) ∧ PsAt H vs rs
  | _, _ => False
theorem PsAt.keep {H H' : Hp} (k : TK H H') : ∀ {vs : List V} {rs : List Row}, PsAt H vs rs → PsAt H' vs rs
  | [], [], _ => trivial
  | _ :: _, _ :: _, ⟨⟨u, e, h⟩, t⟩ => ⟨⟨u, e, k _ _ h⟩, PsAt.keep k t⟩
  | [], _ :: _, h => h.elim
  | _ :: _, [], h => h.elim
theorem PsAt.len {H : Hp} : ∀ {vs : List V} {rs : List Row}, PsAt H vs rs → vs.length = rs.length
  | [], [], _ => rfl
  | _ :: _, _ :: _, h => by rw [List.length_cons, List.length_cons, PsAt.len h.2]
  | [], _ :: _, h => h.elim
  | _ :: _, [], h => h.elim
theorem PsAt.snoc {H : Hp} {v : V} {r : Row} (h1 : ∃ u, v = .ref u ∧ H u = some (.tup (r.1.map V.int))) : ∀ {vs : List V} {rs : List Row}, PsAt H vs rs → PsAt H (vs ++ [v]) (rs ++ [r])
  | [], [], _ => ⟨h1, trivial⟩
  | _ :: _, _ :: _, h => ⟨h.1, PsAt.snoc h1 h.2⟩
  | [], _ :: _, h => h.elim
  | _ :: _, [], h => h.elim
theorem PsAt.get {H : Hp} : ∀ {vs : List V} {rs : List Row}, PsAt H vs rs → ∀ {k : Nat}, k < rs.length → ∃ u r, vs[k]? = some (.ref u) ∧ rs[k]? = some r ∧ H u = some (.tup (r.1.map V.int))
  | [], [], _, k, h => absurd h (Nat.not_lt_zero k)
  | _ :: _, r :: _, ⟨⟨u, e, h⟩, t⟩, 0, _ => ⟨u, r, by rw [e]; rfl, rfl, h⟩
  | _ :: _, _ :: _, ⟨_, t⟩, k + 1, h => PsAt.get t (k := k) (Nat.lt_of_succ_lt_succ h)
  | [], _ :: _, h, _, _ => h.elim
  | _ :: _, [], h, _, _ => h.elim
theorem RowsAt.get {H : Hp} : ∀ {vs : List V} {rs : List Row}, RowsAt H vs rs → ∀ {k : Nat} {v : V}, vs[k]? = some v → ∃ r, rs[k]? = some r ∧ RowAt H v r
  | [], [], _, k, v, h => by cases h
  | _ :: _, r :: _, ⟨h1, t⟩, 0, v, e => by
    have e' := Option.some.inj e
    exact ⟨r, rfl, e' ▸ h1⟩
  | _ :: _, _ :: _, ⟨_, t⟩, k + 1, v, h => RowsAt.get t (k := k) h
  | [], _ :: _, h, _, _, _ => h.elim
  | _ :: _, [], h, _, _, _ => h.elim
/-- what holds behind the rows and the places -/
structure L3 (CS : Addr) (H : Hp) (x t p fa D : Addr) (S : List Stm) (vs ws : List V) (rows : List Row) (H2 : Hp) : Prop where
  base : Same H H2
  sc : Sc CS H2 x t S
  pool : PoolAt H2 p
  hf : H2 fa = some (.lst vs)
  rw : RowsAt H2 vs rows
  hd : H2 D = some (.lst ws)
  pw : PsAt H2 ws rows
theorem L3.keep {CS : Addr} {H H2 H3 : Hp} {x t p fa D : Addr} {S : List Stm} {vs ws : List V} {rows : List Row} (L : L3 CS H x t p fa D S vs ws rows H2) (s : Same H2 H3) : L3 CS H x t p fa D S vs ws rows H3 := by
  obtain ⟨_, _, _, hp⟩ := L.pool
  exact ⟨L.base.trans s, L.sc.keep s, ⟨_, _, _, s _ _ hp⟩, s _ _ L.hf, L.rw.keep (TK.of_same s), s _ _ L.hd, L.pw.keep (TK.of_same s)⟩
theorem L3.draw {CS : Addr} {H H2 H3 : Hp} {x t p fa D : Addr} {S : List Stm} {vs ws : List V} {rows : List Row} (L : L3 CS H x t p fa D S vs ws rows H2) (hp0 : H p = none) (n1 : fa ≠ p) (n2 : D ≠ p) (k : Kp p H2 H3) (hp3 : PoolAt H3 p) : L3 CS H x t p fa D S vs ws rows H3 := by
  obtain ⟨_, _, _, hp⟩ := L.pool
  have tk := k.tk hp
  exact ⟨fun b o e => k _ _ (L.base _ _ e) (ne_of_none e hp0), L.sc.kp k hp, hp3, k _ _ L.hf n1, L.rw.keep tk, k _ _ L.hd n2, L.pw.keep tk⟩
/-- places as data -/
def plD : Option Pl → PyData
  | none => .none
  | some p => .tuple (p.map PyData.int)
theorem ints_lay : ∀ p : Pl, PyData.canLayAll0 (p.map PyData.int) = true
  | [] => by simp [PyData.canLayAll0]
  | i :: p => by simp [PyData.canLayAll0, PyData.canLay0, ints_lay p]
theorem ints_depth : ∀ p : Pl, PyData.depthAll (p.map PyData.int) ≤ 1
  | [] => by simp [PyData.depthAll]
  | i :: p => by
    have h := ints_depth p
    simp only [List.map_cons, PyData.depthAll, PyData.depth]
    omega
theorem plD_lay (o : Option Pl) : (plD o).canLay0 = true := by
  cases o with
  | none => simp [plD, PyData.canLay0]
  | some p => simp [plD, PyData.canLay0, ints_lay p]
theorem plD_depth (o : Option Pl) : (plD o).depth ≤ 2 := by
  cases o with
  | none => simp [plD, PyData.depth]
  | some p =>
    have h := ints_depth p
    simp only [plD, PyData.depth]
    omega
theorem plD_sh (o : Option Pl) : SeqAt.shaped (plD o) = true := by
  unfold SeqAt.shaped
  have h := plD_depth o
  rw [plD_lay, decide_eq_true (by omega)]; rfl
def afD (o : Option Pl) : PyData := .tuple [.str "after", plD o]
theorem afD_lay (o : Option Pl) : (afD o).canLay0 = true := by
  have cc : (PyData.str "after").canLay0 = true := by decide +kernel
  simp only [afD, PyData.canLay0, PyData.canLayAll0] at cc ⊢
  rw [cc, plD_lay]; rfl
theorem afD_sh (o : Option Pl) : SeqAt.shaped (afD o) = true := by
  unfold SeqAt.shaped
  have h := plD_depth o
  have e : (afD o).depth ≤ 64 := by
    simp only [afD, PyData.depth, PyData.depthAll]
    omega
  rw [afD_lay, decide_eq_true e]; rfl
theorem ints_dp {K : PySem.W.Frag} {H : Hp} : ∀ p : Pl, DpAll K H (p.map V.int) (p.map PyData.int)
  | [] => .nil
  | i :: p => .cons (.int i) (ints_dp p)
theorem plD_dp {K : PySem.W.Frag} {H : Hp} {o : Option Pl} {r : V} (h : PlV H o r) : Dp K H r (plD o) := by
  cases o with
  | none => rw [show r = V.non from h]; exact .non
  | some p =>
    obtain ⟨u, rfl, h⟩ := h
    exact .tup (SqT.of h) (ints_dp p)
def cntP (rows : List Row) (pl : Pl) : Nat := (rows.filter fun r => decide (r.1 = pl)).length
theorem cntP_snoc (rows : List Row) (r : Row) (pl : Pl) : cntP (rows ++ [r]) pl = cntP rows pl + if r.1 = pl then 1 else 0 := by
  unfold cntP
  rw [List.filter_append, List.length_append]
  by_cases c : r.1 = pl
  · simp [c]
  · simp [c]
theorem cntP_one {rows : List Row} {r : Row} (h : r ∈ rows) : 1 ≤ cntP rows r.1 := by
  have m : r ∈ rows.filter fun x => decide (x.1 = r.1) := List.mem_filter.mpr ⟨h, by simp⟩
  exact List.length_pos_of_mem m
theorem two_le {l : List Row} {a b : Row} (ha : a ∈ l) (hb : b ∈ l) (n : a ≠ b) : 2 ≤ l.length := by
  match l, ha, hb with
  | [x], ha, hb => exact absurd ((List.mem_singleton.mp ha).trans (List.mem_singleton.mp hb).symm) n
  | _ :: _ :: _, _, _ => simp
theorem cntP_two {rows : List Row} {pl : Pl} {o0 o1 : Option Pl} (h0 : (pl, (0 : Int), o0) ∈ rows) (h1 : (pl, (1 : Int), o1) ∈ rows) : 2 ≤ cntP rows pl :=
  two_le (List.mem_filter.mpr ⟨h0, by simp⟩) (List.mem_filter.mpr ⟨h1, by simp⟩) (fun e => by cases e)
theorem eqv_ints (p : Pl) : PyData.eqv (.tuple (p.map PyData.int)) (.tuple (p.map PyData.int)) = true := SeqAt.eqv_refl _ (plD_lay (some p))
/-- an answer that is refused -/
def Bad (H : Hp) (st : Stm) (v : V) : Prop := (∃ T, Kd H v T) ∧ ¬ Can st v ∧ (flatB v = true ∨ ∃ c, v = .ref c)
theorem Bad.keep {H H' : Hp} {st : Stm} {v : V} (s : Same H H') (h : Bad H st v) : Bad H' st v := ⟨h.1.imp fun _ k => k.keep s, h.2⟩
/-- a tuple of numbers and one value more -/
theorem cat_val {K : PySem.W.Frag} {H : Hp} {u : Addr} {p : Pl} {v : V} {X : V → Hp → Prop} (hu : H u = some (.tup (p.map V.int))) (hp : p.length ≤ 10) (k : ∀ y H', H' y = some (.tup (p.map V.int ++ [v])) → Same H H' → X (.ref y) H') :
    ∀ t, H t = none → rCatA K (.ref u) (.ref t) (L2.upd H t (.tup [v])) X := by
  intro t ht
  have s1 := same_new ht (.tup [v])
  refine ⟨u, t, _, _, rfl, rfl, SqT.of (s1 _ _ hu), SqT.of upd_same, small (by simp; omega), (fun e => ?_), (fun _ e => nomatch e), fun _ _ z hz => ?_⟩
  · refine k t _ ?_ s1
    rw [upd_same, e]; rfl
  · exact k z _ upd_same (s1.trans (same_new hz _))
/-- what is no place, and may be looked at -/
def Wr (H : Hp) (S : List Stm) (v : V) : Prop := NoPl H S v ∧ (flatB v = true ∨ ∃ c, v = .ref c)
theorem Wr.keep {H H' : Hp} {S : List Stm} {v : V} (s : Same H H') (h : Wr H S v) : Wr H' S v := ⟨h.1.keep s, h.2⟩
theorem flats {a v : V} (h : flatB a = true) (f : flatB v = true ∨ ∃ c, v = .ref c) : ∀ y ∈ [a, v], flatB y = true ∨ ∃ c, y = .ref c := by
  intro y hy
  rcases List.mem_cons.mp hy with rfl | hy
  · exact .inl h
  · rw [List.mem_singleton.mp hy]; exact f
theorem bad_str {H : Hp} {st : Stm} {z : Str} : Bad H st (.str z) := ⟨⟨_, .str z⟩, fun ⟨_, e, _⟩ => (by cases e), .inl rfl⟩
theorem bad_bl {H : Hp} {st : Stm} {b : Bool} : Bad H st (.bl b) := ⟨⟨_, .bl b⟩, fun ⟨_, e, _⟩ => (by cases e), .inl rfl⟩
theorem bad_non {H : Hp} {st : Stm} : Bad H st .non := ⟨⟨_, .non⟩, fun ⟨_, e, _⟩ => (by cases e), .inl rfl⟩
theorem bad_ref {H : Hp} {st : Stm} {g : Addr} {xs : List V} (h : H g = some (.tup xs)) : Bad H st (.ref g) := ⟨⟨_, .tup h⟩, fun ⟨_, e, _⟩ => (by cases e), .inr ⟨_, rfl⟩⟩
def spLaw3 (K : PySem.W.Frag) : Sp := fun vs H Q _ => ∃ (a : Addr) (ns : List Int), vs = [.ref a] ∧ SqL K H a (ns.map V.int) ∧ ns.length ≤ 63 ∧ ∀ H', Q (.bl true) H'
abbrev nsW : List Str := ["_law_script", "_law_k", "_law_pool_here", "_law_names_here", "_law_statements", "_law_made", "_law_rows", "_law_places", "_law_place_here", "_law_answer", "_law_after", "_law_most", "_law_told_here", "_law_other", "_law_flag", "_law_wrong", "_law_row"]
section
variable {P : Program} {w : World} {K : PySem.W.Frag} {mg : Str → Option Value} {base : Heap} {CS CK it CN CA : Addr}
theorem scW : FnScope nsW ["_law_script"] (defScope sLaw) := ⟨rfl, rfl, rfl, by decide +kernel, rfl, by decide +kernel, by decide +kernel⟩
theorem ok_law3 {f fP fD fN fB fI fA fU fT : Addr} {fd fdP fdD fdN fdB fdI fdA fdU fdT : FuncData} {dsA : List Value} (F : Fun K "law" "law" sLaw f fd) (B : Bl mg) (T : Txt K w mg CS CK it)
    (GP : FnOk P w K mg base CX0 1 fP fdP ["_law_script", "_law_k"] (spPool K)) (bP : Binds K fdP ["_law_script", "_law_k"] []) (kP : PySem.W.keepIn K (.ref fP) = true) (mP : mg "_law_pool" = some (.ref fP))
    (GD : FnOk P w K mg base CX0 1 fD fdD ["_law_pool_here", "_law_amount"] spDraw) (bD : Binds K fdD ["_law_pool_here", "_law_amount"] []) (kD : PySem.W.keepIn K (.ref fD) = true) (mD : mg "_law_draw" = some (.ref fD))
    (GN : FnOk P w K mg base CX0 2 fN fdN ["_law_pool_here"] spNames) (bN : Binds K fdN ["_law_pool_here"] []) (kN : PySem.W.keepIn K (.ref fN) = true) (mN : mg "_law_names" = some (.ref fN))
    (GB : FnOk P w K mg base CX0 5 fB fdB psB (spBranch 3)) (bB : Binds K fdB psB []) (kB : PySem.W.keepIn K (.ref fB) = true) (mB : mg "_law_branch" = some (.ref fB))
    (M : Mk K CS fI) (GI : FnOk P w K mg base CX0 9 fI fdI ["self", "statements"] (spSInit CS)) (bI : Binds K fdI ["self", "statements"] [])
    (GA : FnOk P w K mg base (L2.CX P w) 5 fA fdA ["self", "place", "answer"] (spAfX CS CN CA)) (bA : Binds K fdA ["self", "place", "answer"] dsA) (vA : Vals [V.int 0] dsA) (mA : Meth K CS "after" fA)
    (GU : FnOk P w K mg base CX0 4 fU fdU psU (spDue 3)) (bU : Binds K fdU psU []) (kU : PySem.W.keepIn K (.ref fU) = true) (mU : mg "_law_due" = some (.ref fU))
    (GT : FnOk P w K mg base CX0 6 fT fdT ["_law_made", "_law_place_here", "_law_answer"] (spTold CS CN CA)) (bT : Binds K fdT ["_law_made", "_law_place_here", "_law_answer"] []) (kT : PySem.W.keepIn K (.ref fT) = true) (mT : mg "_law_told" = some (.ref fT)) :
    FnOk P w K mg base CX0 11 f fd ["_law_script"] (spLaw3 K) := by
  refine F.ok scW (fun vs H Q E h => ?_) (fun cdv A outer s H vs Q E hr h => ?_)
  · obtain ⟨a, ns, rfl, _⟩ := h
    rfl
  obtain ⟨a, ns, rfl, hS, h63, q⟩ := h
  have hu' := hu_of hr
  have hu64 : _ + 64 < cLine := Nat.lt_of_le_of_lt (Nat.add_le_add_left (by decide : 64 ≤ 16 * 10 + 200) _) (by have := hr.un; rwa [Nat.add_assoc] at this)
  have hu0 := Nat.lt_of_succ_lt hu'
  have hr1 : Room 1 _ := hr.mono (by decide)
  have hr2 : Room 2 _ := hr.mono (by decide)
  have hr4 : Room 4 _ := hr.mono (by decide)
  have hr5 : Room 5 _ := hr.mono (by decide)
  have hr6 : Room 6 _ := hr.mono (by decide)
  have hr9 := hr
  have nd := scW.nd
  refine ⟨_, (pss_cons (ps_for PassesOwn.never rfl (pi_range1 rfl B.range (pa_cons (pe_callB (call_max2 rfl) (by rfl) B.max (by decide +kernel) (pa_cons (pe_int) (pa_cons (pe_callB call_len_seq (by rfl) B.len PySem.boot_len (pa_cons (pv 0) pa_nil)) pa_nil))) pa_nil)) (pg_name (i := 1) nd rfl (Or.inl rfl)) (pss_cons (ps_set (i := 2) nd rfl (Or.inl rfl) (pe_call GP hr1 rfl mP kP bP .nil pass0 (pa_cons (pv 0) (pa_cons (pv 1) pa_nil))))
 (pss_cons (ps_set (i := 3) nd rfl (Or.inl rfl) (pe_call GN hr2 rfl mN kN bN .nil pass0 (pa_cons (pv 2) pa_nil)))
 (pss_cons (ps_set (i := 4) nd rfl (Or.inl rfl) (pe_call GB hr5 rfl mB kB bB .nil pass0 (pa_cons (pv 2) (pa_cons (pe_lst (pa_cons (pe_int) (pa_cons (pe_int) (pa_cons (pe_int) pa_nil)))) (pa_cons (pv 3) (pa_cons (pe_op op_add (pe_int) (pe_call GD hr1 rfl mD kD bD .nil pass0 (pa_cons (pv 2) (pa_cons (pe_int) pa_nil)))) (pa_cons (pe_int) pa_nil)))))))
 (pss_cons (ps_set (i := 5) nd rfl (Or.inl rfl) (pe_make M GI hr9 rfl T.mgS bI .nil pass0 (pa_cons (pv 4) pa_nil)))
 (pss_cons (ps_set (i := 6) nd rfl (Or.inl rfl) (pe_call GU hr4 rfl mU kU bU .nil pass0 (pa_cons (pv 4) (pa_cons (pe_tup pa_nil) (pa_cons (pe_lst pa_nil) (pa_cons (pe_lst pa_nil) pa_nil))))))
 (pss_cons (ps_setLc (i := 7) (own := [("_law_row", 16)]) (g := gName 16) (tt := tYes) rfl nd rfl rfl (sw_true rfl rfl rfl (by decide +kernel)) (pi_list (pv 6)) (blkOk_by (own := [("_law_row", 16)]) (N := nsW) (sc := defScope sLaw) (by decide +kernel)) (fun _ _ _ _ _ => pg_name (i := 16) nd rfl (Or.inl rfl)) (fun _ _ _ _ _ => pts_nil) (fun _ _ _ _ _ => pe_ix (r := rIxT K) ix_tup (pv 16) pe_int (fun _ _ => rfl)))
 (pss_cons (ps_for PassesOwn.never rfl (pi_list (pv 6)) (pg_tup rfl (pgs_cons (pg_name (i := 8) nd rfl (Or.inr rfl)) (pgs_cons (pg_name (i := 9) nd rfl (Or.inl rfl)) (pgs_cons (pg_name (i := 10) nd rfl (Or.inl rfl)) pgs_nil)))) (pss_cons (ps_if (pt_cmpR (op_neD hu64) (pe_call GT hr6 rfl mT kT bT .nil pass0 (pa_cons (pv 5) (pa_cons (pv 8) (pa_cons (pv 9) pa_nil)))) (pe_tup (pa_cons (pe_str) (pa_cons (pv 10) pa_nil))) (nomark _)) (pss_one (ps_ret pe_bl)) pss_nil)
 (pss_one (ps_if (PW.pt (pw_and (pt_cmpR op_eq (pv 9) (pe_int) (nomark _)) (pw_and1 (pt_cmpR (op_neD hu64) (pe_meth (pv 5) T.clS mA GA hr5 bA vA passL (pa_cons (pv 8) pa_nil)) (pv 10) (nomark _))))) (pss_one (ps_ret pe_bl)) pss_nil))))
 (pss_cons (ps_set (i := 8) nd rfl (Or.inr rfl) (pe_ix ix_list (pv 7) (pe_call GD hr1 rfl mD kD bD .nil pass0 (pa_cons (pv 2) (pa_cons (pe_callB call_len_seq (by rfl) B.len PySem.boot_len (pa_cons (pv 7) pa_nil)) pa_nil))) (fun _ _ => rfl)))
 (pss_cons (ps_set (i := 11) nd rfl (Or.inl rfl) (pe_callB call_len_seq (by rfl) B.len PySem.boot_len (pa_cons (pe_lc (own := [("_law_row", 16)]) (g := gName 16) (tt := _) rfl nd (pi_list (pv 6)) (blkOk_by (own := [("_law_row", 16)]) (N := nsW) (sc := defScope sLaw) (by decide +kernel)) (fun _ _ _ _ _ => pg_name (i := 16) nd rfl (Or.inl rfl)) (fun _ _ _ _ _ => pts_one (pt_cmpR (r := rEqD K) (op_eqD hu64) (pe_ix (r := rIxT K) ix_tup (pv 16) pe_int (fun _ _ => rfl)) (pv 8) (nomark _))) (fun _ _ _ _ _ => pv 16)) pa_nil)))
 (pss_cons (ps_for PassesOwn.never rfl (pi_list (pe_lst (pa_cons (pv 11) (pa_cons (pe_op op_add (pv 11) (pe_call GD hr1 rfl mD kD bD .nil pass0 (pa_cons (pv 2) (pa_cons (pe_op op_pow pe_int pe_int) pa_nil)))) (pa_cons (pe_op op_sub (pe_op op_sub (pe_int) (pe_int)) (pe_call GD hr1 rfl mD kD bD .nil pass0 (pa_cons (pv 2) (pa_cons (pe_int) pa_nil)))) pa_nil))))) (pg_name (i := 9) nd rfl (Or.inl rfl)) (pss_one (ps_if (pt_cmpR (op_neS hu0) (pe_call GT hr6 rfl mT kT bT .nil pass0 (pa_cons (pv 5) (pa_cons (pv 8) (pa_cons (pv 9) pa_nil)))) (pe_tup (pa_cons (pe_str) (pa_cons (pv 9) pa_nil))) (nomark _)) (pss_one (ps_ret pe_bl)) pss_nil)))
 (pss_cons (ps_for PassesOwn.never rfl (pi_list (pe_lst (pa_cons (pe_non) (pa_cons (pe_str) (pa_cons (pe_tup (pa_cons (pe_int) pa_nil)) pa_nil))))) (pg_name (i := 9) nd rfl (Or.inl rfl)) (pss_one (ps_if (pt_cmpR (op_neS hu0) (pe_call GT hr6 rfl mT kT bT .nil pass0 (pa_cons (pv 5) (pa_cons (pv 8) (pa_cons (pv 9) pa_nil)))) (pe_tup (pa_cons (pe_str) (pa_cons (pv 9) pa_nil))) (nomark _)) (pss_one (ps_ret pe_bl)) pss_nil)))
 (pss_cons (ps_for PassesOwn.never rfl (pi_list (pe_lst (pa_cons (pe_bl) (pa_cons (pe_bl) pa_nil)))) (pg_name (i := 9) nd rfl (Or.inl rfl)) (pss_cons (ps_set (i := 12) nd rfl (Or.inl rfl) (pe_call GT hr6 rfl mT kT bT .nil pass0 (pa_cons (pv 5) (pa_cons (pv 8) (pa_cons (pv 9) pa_nil)))))
 (pss_one (ps_if (PW.pt (pw_or (pt_cmpR (op_neS hu0) (pv 12) (pe_tup (pa_cons (pe_str) (pa_cons (pv 9) pa_nil))) (nomark _)) (pw_or1 (pt_not (pt_val (pe_callB call_isi (by rfl) T.isi (by decide +kernel) (pa_cons (pe_ix ix_tup (pv 12) (pe_int) (fun _ _ => rfl)) (pa_cons (pe_bltn (v := .ty "bool") (by rfl) T.bool (by decide +kernel) rfl) pa_nil)))))))) (pss_one (ps_ret pe_bl)) pss_nil))))
 (pss_cons (ps_set (i := 13) nd rfl (Or.inl rfl) (pe_op op_catA (pe_slice sl_tupA (pv 8) po_none (po_some (pe_un un_neg pe_int))) (pe_tup (pa_cons (pe_op op_add (pe_ix ix_tup (pv 8) (pe_un un_neg pe_int) (fun _ _ => rfl)) (pe_int)) pa_nil))))
 (pss_cons (ps_set (i := 14) nd rfl (Or.inl rfl) (pe_op op_catA (pe_slice sl_tupA (pv 8) po_none (po_some (pe_un un_neg pe_int))) (pe_tup (pa_cons (pe_cmpR op_eq (pe_ix ix_tup (pv 8) (pe_un un_neg pe_int) (fun _ _ => rfl)) pe_int (nomark _)) pa_nil))))
 (pss_one (ps_for PassesOwn.never rfl (pi_list (pe_lst (pa_cons (pv 13) (pa_cons (pv 14) (pa_cons (pe_op op_catA (pv 8) (pe_tup (pa_cons (pe_int) pa_nil))) (pa_cons (pe_tup (pa_cons (pe_lst (pa_cons (pe_int) pa_nil)) pa_nil)) (pa_cons (pe_tup pa_nil) (pa_cons (pe_non) (pa_cons (pe_int) (pa_cons (pe_str) (pa_cons (pe_lst (pa_cons (pe_int) pa_nil)) (pa_cons (pe_dnewK) pa_nil)))))))))))) (pg_name (i := 15) nd rfl (Or.inl rfl)) (pss_one (ps_if (PW.pt (pw_or (pt_cmpR (op_neS hu0) (pe_call GT hr6 rfl mT kT bT .nil pass0 (pa_cons (pv 5) (pa_cons (pv 15) (pa_cons (pe_int) pa_nil)))) (pe_tup (pa_cons (pe_str) (pa_cons (pv 15) pa_nil))) (nomark _)) (pw_or1 (pt_cmpR (op_neS hu0) (pe_call GT hr6 rfl mT kT bT .nil pass0 (pa_cons (pv 5) (pa_cons (pv 15) (pa_cons (pe_non) pa_nil)))) (pe_tup (pa_cons (pe_str) (pa_cons (pv 15) pa_nil))) (nomark _))))) (pss_one (ps_ret pe_bl)) pss_nil)))))))))))))))))))
 (pss_one (ps_ret pe_bl))), ?_⟩
  have hl0 : (ns.map V.int).length = ns.length := List.length_map _
  have bnd : (if ((ns.map V.int).length : Int) > 1 then ((ns.map V.int).length : Int) else 1) ≤ 63 ∧ 1 ≤ (if ((ns.map V.int).length : Int) > 1 then ((ns.map V.int).length : Int) else 1) := by
    rw [hl0]
    split <;> omega
  refine ⟨_, rfl, a, _, rfl, .inl hS, _, _, rfl, _, rfl, by omega, by omega, ?_⟩
  refine for_range (lo := 0) (fun i σ H2 => ∃ v1 v2 v3 v4 v5 v6 v7 v8 v9 v10 v11 v12 v13 v14 v15 v16 : Option V, σ = [some (.ref a), v1, v2, v3, v4, v5, v6, v7, v8, v9, v10, v11, v12, v13, v14, v15, v16] ∧ Same H H2) ⟨none, none, none, none, none, none, none, none, none, none, none, none, none, none, none, none, rfl, Same.refl H⟩ ?_ ?_
  rotate_left
  · rintro σ H2 ⟨_, _, _, _, _, _, _, _, _, _, _, _, _, _, _, _, rfl, _⟩
    exact q H2
  rintro i σ H2 hi ⟨v1, v2, v3, v4, v5, v6, v7, v8, v9, v10, v11, v12, v13, v14, v15, v16, rfl, s2⟩
  refine ⟨_, rfl, _, rfl, a, ns, _, rfl, s2.seq hS, by omega, fun p H3 hp s3 P3 => ?_⟩
  refine ⟨_, rfl, p, rfl, P3, fun nq H4 hq k4 P4 N4 => ?_⟩
  refine ⟨_, rfl, (by show 3 ≤ sizeLine; decide), fun b hb => ?_⟩
  have npb : p ≠ b := by obtain ⟨_, _, _, z⟩ := P4; exact ne_of_none z hb
  have nqb : nq ≠ b := by obtain ⟨_, _, _, z, _⟩ := N4; exact ne_of_none z hb
  have npq : p ≠ nq := by obtain ⟨_, _, _, z⟩ := P3; exact ne_of_none z hq
  have D5 : Dr (L2.upd H4 b (.lst [.int 8, .int 0, .int 3])) p b nq 8 0 := by
    obtain ⟨x, y, z, e⟩ := P4
    obtain ⟨a1, a2, a3, e', m⟩ := N4
    exact ⟨⟨x, y, z, by rw [upd_ne npb]; exact e⟩, upd_same, ⟨a1, a2, a3, by rw [upd_ne nqb]; exact e', m⟩, npb, npq, nqb.symm⟩
  refine ⟨_, rfl, _, rfl, p, 8, rfl, D5.pool, by decide, by decide, fun r H6 r0 r8 k6 P6 => ?_⟩
  have D6 := D5.draw k6 P6
  refine ⟨_, _, rfl, rfl, p, b, nq, _, 8, 0, 0, rfl, rfl, by decide, D6, by omega, by omega, by decide, by decide, by decide, by decide, fun t H7 xs S ht hS7 ok few _ _ ne D7 k7 => ?_⟩
  have nS : S ≠ [] := ne (by omega) (by decide)
  have few8 : cntAll S ≤ 8 := by omega
  have hp0 : H p = none := s2.free hp
  have base7 : ∀ c o, H c = some o → H7 c = some o := fun c o e => by
    have e2 := s2 _ _ e
    have e3 := s3 _ _ e2
    have ncp : c ≠ p := ne_of_none e2 hp
    have e4 := k4 _ _ e3 ncp
    have ncb : c ≠ b := ne_of_none e4 hb
    have e5 : (L2.upd H4 b (.lst [.int 8, .int 0, .int 3])) c = some o := by rw [upd_ne ncb]; exact e4
    exact k7 _ _ (k6 _ _ e5 ncp) ncp ncb
  refine ⟨_, rfl, fun x dx nx ndx nex => ?_⟩
  have sx : Same H7 (L2.upd (L2.upd H7 dx (.own x)) x (.ins CS dx [])) := fun c o e => by
    rw [upd_ne (ne_of_none e nx), upd_ne (ne_of_none e ndx)]; exact e
  refine ⟨x, t, dx, xs, S, rfl, upd_same, sx _ _ ht, atAll_keep (TK.of_same sx) _ _ hS7, nS, ok, few8, fun H8 C8 k8 => ⟨rfl, ?_⟩⟩
  have s78 : Same H7 H8 := fun c o e => k8 _ _ (sx _ _ e) (ne_of_none e nx)
  have base8 : Same H H8 := fun c o e => s78 _ _ (base7 _ _ e)
  have P8 : PoolAt H8 p := by obtain ⟨_, _, _, z⟩ := D7.pool; exact ⟨_, _, _, s78 _ _ z⟩
  obtain ⟨⟨dx8, dd8, pl8, bs, kvs, ys, g1, g2, g3, g4, g5, g6, g7⟩, _⟩ := id C8
  clear D5 D6 D7 k4 k6 k7 k8 P3 P4 P6 N4
  -- the rows
  refine ⟨_, rfl, (by show 0 ≤ sizeLine; decide), fun pr hpr => ⟨(by show 0 ≤ sizeLine; decide), fun be hbe => ⟨(by show 0 ≤ sizeLine; decide), fun fa hfa => ?_⟩⟩⟩
  have sa := same_new hpr (.tup [])
  have sb := same_new hbe (.lst [])
  have sc := same_new hfa (.lst [])
  have s9 := (sa.trans sb).trans sc
  refine ⟨t, pr, be, fa, ys, [], S, [], [], none, 0, 0, rfl, s9 _ _ g2, atAll_keep (TK.of_same s9) _ _ g3, ok, rfl, by decide, (sb.trans sc) _ _ upd_same, by decide, .inl ⟨rfl, sc _ _ upd_same⟩, (fun z => by rw [← z, upd_same] at hfa; cases hfa), upd_same, trivial, by show 0 + 2 * cntAll S ≤ 100; omega, fun H10 vs k10 hf10 hm10 => ?_⟩
  have rok := due_script ok
  have rlen := dueAll_len S [] 0 none
  have lv := hm10.len
  rw [List.nil_append] at hm10 lv
  generalize dueAll S [] 0 none = rows at rok rlen hm10 lv
  have hfa8 : H8 fa = none := (sa.trans sb).free hfa
  have s10 : Same H8 H10 := fun c o e => k10 _ _ (s9 _ _ e) (ne_of_none e hfa8)
  have base10 := base8.trans s10
  have C10 := C8.keep s10
  have P10 : PoolAt H10 p := by obtain ⟨_, _, _, z⟩ := P8; exact ⟨_, _, _, s10 _ _ z⟩
  have few16 : rows.length ≤ 16 := by omega
  -- the places
  refine ⟨_, rfl, fa, rfl, ⟨_, SqL.of hf10⟩, fun D hD => ?_⟩
  refine lc_list (K := K) (a := fa) (xs := vs) (fun j H7 => ∃ ws, H7 D = some (.lst ws) ∧ PsAt H7 ws (rows.take j) ∧ Same H10 H7) ⟨[], upd_same, trivial, same_new hD _⟩ (fun j H7 _ ⟨_, _, _, y⟩ => SqL.of (y _ _ hf10)) ?_ ?_
  · rintro j v H7 hv ⟨ws, e1, e2, e3⟩
    obtain ⟨r, er, T', u, wv, rfl, h1, h2, h3⟩ := hm10.get hv
    refine ⟨rfl, ?_⟩
    unfold tYes
    dsimp only
    rw [if_pos rfl]
    have lt : j < vs.length := (List.getElem?_eq_some_iff.mp hv).1
    have lw := e2.len
    rw [List.length_take] at lw
    refine ⟨_, rfl, T', _, _, _, rfl, rfl, SqT.of (e3 _ _ h1), rfl, ws, e1, small1000 (by omega), ws ++ [.ref u], upd_same, ?_, fun b o e => ?_⟩
    · rw [List.take_add_one, er]
      have tk : TK H7 (L2.upd H7 D (.lst (ws ++ [.ref u]))) := fun a ys e => by rw [upd_ne (ne_of e e1 (by intro z; cases z))]; exact e
      exact PsAt.snoc ⟨u, rfl, tk _ _ (e3 _ _ h2)⟩ (e2.keep tk)
    · rw [upd_ne (ne_of_none e hD)]
      exact e3 _ _ e
  rintro H11 ⟨ws, hD11, hw11, s11⟩
  rw [lv, List.take_length] at hw11
  have L11 : L3 CS H x t p fa D S vs ws rows H11 := by
    obtain ⟨_, _, _, hp10⟩ := P10
    exact ⟨base10.trans s11, C10.keep s11, ⟨_, _, _, s11 _ _ hp10⟩, s11 _ _ hf10, hm10.keep (TK.of_same s11), hD11, hw11⟩
  have nfp : fa ≠ p := by
    obtain ⟨_, _, _, hp8⟩ := P8
    exact fun z => by rw [z] at hfa8; rw [hp8] at hfa8; cases hfa8
  have nDp : D ≠ p := by
    obtain ⟨_, _, _, hp10⟩ := P10
    exact fun z => by rw [z, hp10] at hD; cases hD
  clear base8 base10 C8 C10 P8 P10 s78 base7 s9 s10 s11 hf10 hm10 hD11 hw11 hfa8 k10 g1 g2 g3 g4 g5 g6 g7 hS7 ht sx sa sb sc
  -- every row
  refine ⟨_, rfl, fa, rfl, ⟨_, SqL.of L11.hf⟩, for_list (K := K) (a := fa) (xs := vs) (fun j σ H2 => ∃ w8 w9 w10 : Option V, σ = [some (.ref a), some (.int (0 + (i : Nat))), some (.ref p), some (.ref nq), some (.ref t), some (.ref x), some (.ref fa), some (.ref D), w8, w9, w10, v11, v12, v13, v14, v15, v16] ∧ L3 CS H x t p fa D S vs ws rows H2) ?_ ?_ ?_ ?_⟩
  · exact ⟨_, _, _, rfl, L11⟩
  · rintro j σ H2 _ ⟨w8, w9, w10, rfl, L⟩
    exact SqL.of L.hf
  · rintro j v σ H2 hv ⟨w8, w9, w10, rfl, L⟩
    obtain ⟨r, er, T', u, wv, rfl, h1, h2, h3⟩ := L.rw.get hv
    obtain ⟨st, hl, han, hnx, pn, l5, both⟩ := rok r (List.mem_of_getElem? er)
    obtain ⟨pl, an, nx⟩ := r
    dsimp only at h1 h2 h3 hl han hnx pn l5
    have can : Can st (.int an) := ⟨an, rfl, han⟩
    refine ⟨T', _, rfl, SqT.of h1, rfl, _, _, rfl, _, _, rfl, _, _, rfl, rfl, ?_⟩
    refine ⟨_, rfl, _, rfl, _, rfl, x, t, .ref u, .int an, S, rfl, L.sc, .inr ⟨u, pl, st, rfl, h2, pn, l5, hl, ⟨_, .int an⟩, fun a' ea _ z r' H3 s3 hr3 hz3 => ?_, fun n => absurd can n⟩⟩
    injection ea with ea
    subst ea
    rw [← hnx] at hr3
    refine ⟨_, rfl, (by show 2 ≤ sizeLine; decide), fun z2 hz2 => ?_⟩
    have s4 := same_new hz2 (.tup [.str "after", wv])
    have s34 := s3.trans s4
    refine ⟨afD nx, afD nx, .tup (SqT.of (s4 _ _ hz3)) (.cons (.str _) (.cons (plD_dp (hr3.keep (TK.of_same s4))) .nil)), .tup (SqT.of upd_same) (.cons (.str _) (.cons (plD_dp (h3.keep (TK.of_same s34))) .nil)), afD_sh nx, afD_sh nx, _, rfl, ?_⟩
    rw [SeqAt.eqv_refl _ (afD_lay nx)]
    refine iteF ?_
    refine ⟨_, rfl, rfl, _, rfl, ?_⟩
    have L4 := L.keep s34
    refine ite2 (fun c => ?_) (fun c => ?_)
    · have c0 : an = 0 := by
        have := of_decide_eq_true c
        injection this
      subst c0
      obtain ⟨⟨dx4, _, _, _, _, _, gx, _⟩, _⟩ := id L4.sc
      refine ⟨_, rfl, x, dx4, _, rfl, gx, flds_no _ _ _ (by decide +kernel) (by decide +kernel) (by decide +kernel), _, rfl, x, t, .ref u, .int 0, S, rfl, L4.sc, .inr ⟨u, pl, st, rfl, s34 _ _ h2, pn, l5, hl, ⟨_, .int 0⟩, fun a' ea _ r5 H5 s5 hr5 => ?_, fun n => absurd can n⟩⟩
      injection ea with ea
      subst ea
      rw [← hnx] at hr5
      refine ⟨_, rfl, plD nx, plD nx, plD_dp hr5, plD_dp (h3.keep (TK.of_same (s34.trans s5))), plD_sh nx, plD_sh nx, _, rfl, ?_⟩
      rw [SeqAt.eqv_refl _ (plD_lay nx)]
      exact iteF ⟨_, _, _, rfl, L4.keep s5⟩
    · exact ⟨_, _, _, rfl, L4⟩
  rintro σ H12 ⟨w8, w9, w10, rfl, L12⟩
  have nvs : 1 ≤ rows.length := by
    have z : 1 ≤ S.length := List.length_pos_iff.mpr nS
    omega
  have lw := L12.pw.len
  -- a place
  refine ⟨_, rfl, _, rfl, _, rfl, D, ws, rfl, .inl (SqL.of L12.hd), p, _, rfl, L12.pool, by omega, by omega, fun r1 H13 r10 r11 k13 P13 => ?_⟩
  have L13 := L12.draw hp0 nfp nDp k13 P13
  obtain ⟨u, row, hwu, hru, huu⟩ := L13.pw.get (k := r1.toNat) (by omega)
  have er1 : r1 = ((r1.toNat : Nat) : Int) := by omega
  refine ⟨D, ws, r1, .ref u, rfl, rfl, SqL.of L13.hd, by rw [er1]; exact atI_nat hwu, ?_⟩
  obtain ⟨st, hl, _, _, pn, l5, both⟩ := rok row (List.mem_of_getElem? hru)
  have hcnt : (if isCh st = true then 2 else 1) ≤ cntP rows row.1 := by
    by_cases c : isCh st = true
    · rw [if_pos c]
      obtain ⟨o0, o1, m0, m1⟩ := both c
      exact cntP_two m0 m1
    · rw [if_neg c]
      exact cntP_one (List.mem_of_getElem? hru)
  clear both hru
  generalize row.1 = pl at hl pn l5 hcnt huu
  -- how many rows
  refine ⟨_, rfl, fa, rfl, ⟨_, SqL.of L13.hf⟩, fun D2 hD2 => ?_⟩
  refine lc_list (K := K) (a := fa) (xs := vs) (fun j H7 => ∃ acc, H7 D2 = some (.lst acc) ∧ cntP (rows.take j) pl ≤ acc.length ∧ acc.length ≤ j ∧ Same H13 H7) ⟨[], upd_same, Nat.le_refl _, Nat.le_refl _, same_new hD2 _⟩ (fun j H7 _ ⟨_, _, _, _, y⟩ => SqL.of (y _ _ L13.hf)) ?_ ?_
  · rintro j v H7 hv ⟨acc, e1, e2, e2', e3⟩
    obtain ⟨r, er, T', u2, wv, rfl, h1, h2, h3⟩ := L13.rw.get hv
    refine ⟨rfl, ?_⟩
    have lt : j < vs.length := (List.getElem?_eq_some_iff.mp hv).1
    have hstep : cntP (rows.take (j + 1)) pl = cntP (rows.take j) pl + if r.1 = pl then 1 else 0 := by
      rw [List.take_add_one, er]
      exact cntP_snoc _ _ _
    refine ⟨_, rfl, T', _, _, _, rfl, rfl, SqT.of (e3 _ _ h1), rfl, _, rfl, _, _, .tup (SqT.of (e3 _ _ h2)) (ints_dp r.1), .tup (SqT.of (e3 _ _ huu)) (ints_dp pl), plD_sh (some r.1), plD_sh (some pl), _, rfl, ?_⟩
    have tk : ∀ y, Same H13 (L2.upd H7 D2 (.lst (acc ++ [y]))) := fun y b o e => by rw [upd_ne (ne_of_none e hD2)]; exact e3 _ _ e
    refine ite2 (fun c => ?_) (fun c => ?_)
    · refine ⟨_, rfl, acc, e1, small1000 (by omega), acc ++ [_], upd_same, ?_, by rw [List.length_append]; show acc.length + 1 ≤ j + 1; omega, tk _⟩
      rw [hstep, List.length_append]
      show _ ≤ acc.length + 1
      split <;> omega
    · refine ⟨acc, e1, ?_, by omega, e3⟩
      have ne : ¬ r.1 = pl := fun z => by
        rw [z] at c
        exact c (eqv_ints pl)
      rw [hstep, if_neg ne]
      omega
  rintro H14 ⟨acc, hD14, ec, ec2, s14⟩
  rw [lv, List.take_length] at ec
  have L14 := L13.keep s14
  have hu14 := s14 _ _ huu
  refine ⟨D2, acc, rfl, .inl (SqL.of hD14), ?_⟩
  have hm : (if isCh st = true then 2 else 1) ≤ acc.length := by omega
  have hm9 : acc.length ≤ 16 := by omega
  generalize acc.length = m at hm hm9
  clear hD14 ec ec2 s14 hD2 hcnt huu
  have notCan : ∀ z : Int, (z < 0 ∨ (m : Int) ≤ z) → ¬ Can st (.int z) := by
    rintro z hz ⟨a', e, h0 | ⟨h1, hc⟩⟩
    · injection e with e
      split at hm <;> omega
    · injection e with e
      rw [if_pos hc] at hm
      omega
  -- refused numbers
  refine ⟨_, rfl, _, rfl, _, rfl, _, _, rfl, rfl, ⟨by decide, by decide, by decide⟩, p, _, rfl, L14.pool, by decide, by decide, fun d1 H15 d10 d11 k15 P15 => ?_⟩
  have L15 := L14.draw hp0 nfp nDp k15 P15
  have hu15 : H15 u = some (.tup (pl.map V.int)) := by
    obtain ⟨_, _, _, hp14⟩ := L14.pool
    exact k15.tk hp14 _ _ hu14
  refine ⟨_, _, rfl, rfl, _, _, rfl, rfl, _, rfl, p, 3, rfl, L15.pool, by decide, by decide, fun d2 H16 d20 d21 k16 P16 => ?_⟩
  have L16 := L15.draw hp0 nfp nDp k16 P16
  have hu16 : H16 u = some (.tup (pl.map V.int)) := by
    obtain ⟨_, _, _, hp15⟩ := L15.pool
    exact k16.tk hp15 _ _ hu15
  refine ⟨_, _, rfl, rfl, (by show 3 ≤ sizeLine; decide), fun A1 hA1 => ?_⟩
  have sA := same_new hA1 (.lst [.int (m : Nat), .int ((m : Nat) + d1), .int (0 - 1 - d2)])
  have bad3 : ∀ (H2 : Hp), ∀ v ∈ [V.int (m : Nat), .int ((m : Nat) + d1), .int (0 - 1 - d2)], Bad H2 st v := by
    intro H2 v hv
    have nb : ∀ z : Int, (z < 0 ∨ (m : Int) ≤ z) → Bad H2 st (.int z) := fun z hz => ⟨⟨_, .int z⟩, notCan z hz, .inl rfl⟩
    rcases List.mem_cons.mp hv with rfl | hv
    · exact nb _ (.inr (Int.le_refl _))
    · rcases List.mem_cons.mp hv with rfl | hv
      · exact nb _ (.inr (by omega))
      · rw [List.mem_singleton.mp hv]
        exact nb _ (.inl (by omega))
  refine ⟨A1, rfl, ⟨_, SqL.of upd_same⟩, for_list (K := K) (a := A1) (xs := [.int (m : Nat), .int ((m : Nat) + d1), .int (0 - 1 - d2)]) (fun j σ H2 => ∃ w9 : Option V, σ = [some (.ref a), some (.int (0 + (i : Nat))), some (.ref p), some (.ref nq), some (.ref t), some (.ref x), some (.ref fa), some (.ref D), some (.ref u), w9, w10, some (.int (m : Nat)), v12, v13, v14, v15, v16] ∧ L3 CS H x t p fa D S vs ws rows H2 ∧ H2 u = some (.tup (pl.map V.int)) ∧ (∀ v ∈ [.int (m : Nat), .int ((m : Nat) + d1), .int (0 - 1 - d2)], Bad H2 st v) ∧ H2 A1 = some (.lst [.int (m : Nat), .int ((m : Nat) + d1), .int (0 - 1 - d2)])) ?_ ?_ ?_ ?_⟩
  · exact ⟨_, rfl, L16.keep sA, sA _ _ hu16, bad3 _, upd_same⟩
  · rintro j σ H2 _ ⟨w9, rfl, L, hu2, hb2, hA2⟩
    exact SqL.of hA2
  · rintro j v σ H2 hv ⟨w9, rfl, L, hu2, hb2, hA2⟩
    obtain ⟨⟨T', kd⟩, nc, fl⟩ := hb2 v (List.mem_of_getElem? hv)
    refine ⟨_, rfl, _, rfl, _, rfl, x, t, .ref u, v, S, rfl, L.sc, .inr ⟨u, pl, st, rfl, hu2, pn, l5, hl, ⟨T', kd⟩, fun a' e c => absurd c nc, fun _ z H3 s3 hz => ?_⟩⟩
    refine ⟨_, rfl, (by show 2 ≤ sizeLine; decide), fun z2 hz2 => ?_⟩
    have s4 := same_new hz2 (.tup [.str "answer", v])
    have s34 := s3.trans s4
    refine ⟨z, z2, _, rfl, rfl, SqT.of (s4 _ _ hz), SqT.of upd_same, flats rfl fl, _, rfl, iteF ?_⟩
    exact ⟨_, rfl, L.keep s34, s34 _ _ hu2, fun y m => (hb2 y m).keep s34, s34 _ _ hA2⟩
  rintro σ H17 ⟨w9, rfl, L17, hu17, _, _⟩
  -- refused values of other kinds
  refine ⟨(by show 1 ≤ sizeLine; decide), fun g hg => ⟨(by show 3 ≤ sizeLine; decide), fun A2 hA2 => ?_⟩⟩
  have sg := same_new hg (.tup [.int 0])
  have sA2 := same_new hA2 (.lst [.non, .str "0", .ref g])
  have s18 := sg.trans sA2
  have badg : ∀ v ∈ [V.non, .str "0", .ref g], Bad (L2.upd (L2.upd H17 g (.tup [.int 0])) A2 (.lst [.non, .str "0", .ref g])) st v := by
    intro v hv
    rcases List.mem_cons.mp hv with rfl | hv
    · exact bad_non
    · rcases List.mem_cons.mp hv with rfl | hv
      · exact bad_str
      · rw [List.mem_singleton.mp hv]
        exact bad_ref (sA2 _ _ upd_same)
  refine ⟨A2, rfl, ⟨_, SqL.of upd_same⟩, for_list (K := K) (a := A2) (xs := [.non, .str "0", .ref g]) (fun j σ H2 => ∃ w9 : Option V, σ = [some (.ref a), some (.int (0 + (i : Nat))), some (.ref p), some (.ref nq), some (.ref t), some (.ref x), some (.ref fa), some (.ref D), some (.ref u), w9, w10, some (.int (m : Nat)), v12, v13, v14, v15, v16] ∧ L3 CS H x t p fa D S vs ws rows H2 ∧ H2 u = some (.tup (pl.map V.int)) ∧ (∀ v ∈ [.non, .str "0", .ref g], Bad H2 st v) ∧ H2 A2 = some (.lst [.non, .str "0", .ref g])) ?_ ?_ ?_ ?_⟩
  · exact ⟨_, rfl, L17.keep s18, s18 _ _ hu17, badg, upd_same⟩
  · rintro j σ H2 _ ⟨w9, rfl, L, hu2, hb2, hA2⟩
    exact SqL.of hA2
  · rintro j v σ H2 hv ⟨w9, rfl, L, hu2, hb2, hA2⟩
    obtain ⟨⟨T', kd⟩, nc, fl⟩ := hb2 v (List.mem_of_getElem? hv)
    refine ⟨_, rfl, _, rfl, _, rfl, x, t, .ref u, v, S, rfl, L.sc, .inr ⟨u, pl, st, rfl, hu2, pn, l5, hl, ⟨T', kd⟩, fun a' e c => absurd c nc, fun _ z H3 s3 hz => ?_⟩⟩
    refine ⟨_, rfl, (by show 2 ≤ sizeLine; decide), fun z2 hz2 => ?_⟩
    have s4 := same_new hz2 (.tup [.str "answer", v])
    have s34 := s3.trans s4
    refine ⟨z, z2, _, rfl, rfl, SqT.of (s4 _ _ hz), SqT.of upd_same, flats rfl fl, _, rfl, iteF ?_⟩
    exact ⟨_, rfl, L.keep s34, s34 _ _ hu2, fun y m => (hb2 y m).keep s34, s34 _ _ hA2⟩
  rintro σ H19 ⟨w9', rfl, L19, hu19, _, _⟩
  -- truth values
  refine ⟨(by show 2 ≤ sizeLine; decide), fun A3 hA3 => ?_⟩
  have sA3 := same_new hA3 (.lst [.bl true, .bl false])
  refine ⟨A3, rfl, ⟨_, SqL.of upd_same⟩, for_list (K := K) (a := A3) (xs := [.bl true, .bl false]) (fun j σ H2 => ∃ w9 w12 : Option V, σ = [some (.ref a), some (.int (0 + (i : Nat))), some (.ref p), some (.ref nq), some (.ref t), some (.ref x), some (.ref fa), some (.ref D), some (.ref u), w9, w10, some (.int (m : Nat)), w12, v13, v14, v15, v16] ∧ L3 CS H x t p fa D S vs ws rows H2 ∧ H2 u = some (.tup (pl.map V.int)) ∧ H2 A3 = some (.lst [.bl true, .bl false])) ?_ ?_ ?_ ?_⟩
  · exact ⟨_, _, rfl, L19.keep sA3, sA3 _ _ hu19, upd_same⟩
  · rintro j σ H2 _ ⟨w9, w12, rfl, L, hu2, hA2⟩
    exact SqL.of hA2
  · rintro j v σ H2 hv ⟨w9, w12, rfl, L, hu2, hA2⟩
    obtain ⟨c, rfl⟩ : ∃ c, v = V.bl c := by
      have m1 := List.mem_of_getElem? hv
      rcases List.mem_cons.mp m1 with rfl | m1
      · exact ⟨_, rfl⟩
      · exact ⟨_, List.mem_singleton.mp m1⟩
    obtain ⟨⟨T', kd⟩, nc, fl⟩ := bad_bl (H := H2) (st := st) (b := c)
    refine ⟨_, rfl, _, rfl, _, rfl, x, t, .ref u, .bl c, S, rfl, L.sc, .inr ⟨u, pl, st, rfl, hu2, pn, l5, hl, ⟨T', kd⟩, fun a' e c => absurd c nc, fun _ z H3 s3 hz => ?_⟩⟩
    refine ⟨_, rfl, _, rfl, (by show 2 ≤ sizeLine; decide), fun z2 hz2 => ?_⟩
    have s4 := same_new hz2 (.tup [.str "answer", .bl c])
    have s34 := s3.trans s4
    refine ⟨z, z2, _, rfl, rfl, SqT.of (s4 _ _ hz), SqT.of upd_same, flats rfl fl, _, rfl, iteF ?_⟩
    refine ⟨_, rfl, z, _, _, _, rfl, rfl, SqT.of (s4 _ _ hz), rfl, _, _, _, _, true, rfl, .ty "bool", (Kd.bl c).ty, kit_ty (show kitB "bool" "bool" = some true from by decide +kernel), true, rfl, iteF ?_⟩
    exact ⟨_, _, rfl, L.keep s34, s34 _ _ hu2, s34 _ _ hA2⟩
  rintro σ H20 ⟨w9'', w12, rfl, L20, hu20, _⟩
  -- what is no place
  obtain ⟨q0, j0, epl⟩ : ∃ q0 j0, pl = q0 ++ [j0] := by
    rcases List.eq_nil_or_concat pl with z | ⟨q0, j0, e⟩
    · exact absurd z pn
    · exact ⟨q0, j0, by rw [e]; simp⟩
  subst epl
  have c1 := cut1 q0 j0
  have lok := (look_ok hl).2 q0 j0 rfl
  have len0 : q0.length ≤ 4 := by simp at l5; omega
  refine ⟨_, rfl, _, rfl, _, rfl, u, _, rfl, SqT.of hu20, (fun z => absurd z c1.2), fun _ z1 hz1 => ?_⟩
  have s21 := same_new hz1 (.tup (cutV ((q0 ++ [j0]).map V.int) none (some (-1))))
  have hz1' : (L2.upd H20 z1 (.tup (cutV ((q0 ++ [j0]).map V.int) none (some (-1))))) z1 = some (.tup (q0.map V.int)) := by rw [upd_same, c1.1]
  refine ⟨_, rfl, _, rfl, u, _, _, _, rfl, rfl, SqT.of (s21 _ _ hu20), last_at q0 j0, _, _, rfl, rfl, (by show 1 ≤ sizeLine; decide), ?_⟩
  refine cat_one (p := q0) (j := j0 + 9) hz1' (by omega) (fun y1 H22 hy1 s22 => ?_)
  have s2022 := s21.trans s22
  refine ⟨_, rfl, _, rfl, _, rfl, u, _, rfl, SqT.of (s2022 _ _ hu20), (fun z => absurd z c1.2), fun _ z2 hz2 => ?_⟩
  have s23 := same_new hz2 (.tup (cutV ((q0 ++ [j0]).map V.int) none (some (-1))))
  have hz2' : (L2.upd H22 z2 (.tup (cutV ((q0 ++ [j0]).map V.int) none (some (-1))))) z2 = some (.tup (q0.map V.int)) := by rw [upd_same, c1.1]
  refine ⟨_, rfl, _, rfl, u, _, _, _, rfl, rfl, SqT.of (s23 _ _ (s2022 _ _ hu20)), last_at q0 j0, rfl, (by show 1 ≤ sizeLine; decide), ?_⟩
  refine cat_val (p := q0) hz2' (by omega) (fun y2 H24 hy2 s24 => ?_)
  have s2024 := (s2022.trans s23).trans s24
  have hy1' := (s23.trans s24) _ _ hy1
  refine ⟨_, rfl, _, rfl, _, rfl, (by show 1 ≤ sizeLine; decide), ?_⟩
  refine cat_one (p := q0 ++ [j0]) (j := 0) (s2024 _ _ hu20) (by simp; omega) (fun y3 H25 hy3 s25 => ?_)
  refine ⟨(by show 1 ≤ sizeLine; decide), fun l1 hl1 => ⟨(by show 1 ≤ sizeLine; decide), fun g1 hg1 => ⟨(by show 0 ≤ sizeLine; decide), fun g2 hg2 => ⟨(by show 1 ≤ sizeLine; decide), fun l2 hl2 => fun dd hdd => ⟨(by show 10 ≤ sizeLine; decide), fun A4 hA4 => ?_⟩⟩⟩⟩⟩
  have t1 := same_new hl1 (.lst [.int 0])
  have t2 := same_new hg1 (.tup [.ref l1])
  have t3 := same_new hg2 (.tup [])
  have t4 := same_new hl2 (.lst [.int 0])
  have t5 := same_new hdd (.dK [])
  have t6 := same_new hA4 (.lst [.ref y1, .ref y2, .ref y3, .ref g1, .ref g2, .non, .int 3, .str "a", .ref l2, .ref dd])
  have t46 := (t4.trans t5).trans t6
  have t26 := (t2.trans t3).trans t46
  have t16 := t1.trans t26
  have s2526 := s25.trans t16
  have sAll := s2024.trans s2526
  have wrong : ∀ v ∈ [V.ref y1, .ref y2, .ref y3, .ref g1, .ref g2, .non, .int 3, .str "a", .ref l2, .ref dd], Wr (L2.upd (L2.upd (L2.upd (L2.upd (L2.upd (L2.upd H25 l1 (.lst [.int 0])) g1 (.tup [.ref l1])) g2 (.tup [])) l2 (.lst [.int 0])) dd (.dK [])) A4 (.lst [.ref y1, .ref y2, .ref y3, .ref g1, .ref g2, .non, .int 3, .str "a", .ref l2, .ref dd])) S v := by
    intro v hv
    simp only [List.mem_cons, List.not_mem_nil, or_false] at hv
    have ofInts : ∀ (H9 : Hp) (b : Addr) (r : Pl), H9 b = some (.tup (r.map V.int)) → r.length ≤ 100 → look S r = none → Wr H9 S (.ref b) := by
      intro H9 b r e1 e2 e3
      refine ⟨.inr ⟨b, _, rfl, e1, by rw [List.length_map]; exact e2, fun y hy => ?_, fun r' e => by rw [← map_int_inj e]; exact e3⟩, .inr ⟨_, rfl⟩⟩
      obtain ⟨i, _, rfl⟩ := List.mem_map.mp hy
      exact ⟨_, .int i⟩
    rcases hv with rfl | rfl | rfl | rfl | rfl | rfl | rfl | rfl | rfl | rfl
    · exact ofInts _ y1 (q0 ++ [j0 + 9]) (s2526 _ _ hy1') (by simp; omega) (look_far few8 lok.1)
    · refine ⟨.inr ⟨y2, _, rfl, s2526 _ _ hy2, by simp; omega, fun y hy => ?_, fun r e => ?_⟩, .inr ⟨_, rfl⟩⟩
      · rcases List.mem_append.mp hy with hy | hy
        · obtain ⟨i, _, rfl⟩ := List.mem_map.mp hy
          exact ⟨_, .int i⟩
        · rw [List.mem_singleton.mp hy]; exact ⟨_, .bl _⟩
      · exfalso
        have m1 : V.bl (decide (V.int j0 = V.int 1)) ∈ r.map V.int := by rw [← e]; simp
        obtain ⟨i, _, e2⟩ := List.mem_map.mp m1
        cases e2
    · exact ofInts _ y3 (q0 ++ [j0] ++ [0]) (t16 _ _ hy3) (by simp; omega) (look_even hl)
    · refine ⟨.inr ⟨g1, _, rfl, ((t3.trans t46)) _ _ upd_same, by simp, fun y hy => ?_, fun r e => ?_⟩, .inr ⟨_, rfl⟩⟩
      · rw [List.mem_singleton.mp hy]
        exact ⟨_, .lst (t26 _ _ upd_same)⟩
      · cases r with
        | nil => cases e
        | cons i r => injection e with e; cases e
    · exact ofInts _ g2 [] (t46 _ _ upd_same) (by simp) rfl
    · exact ⟨.inl ⟨_, .non, by decide +kernel⟩, .inl rfl⟩
    · exact ⟨.inl ⟨_, .int 3, by decide +kernel⟩, .inl rfl⟩
    · exact ⟨.inl ⟨_, .str "a", by decide +kernel⟩, .inl rfl⟩
    · exact ⟨.inl ⟨_, .lst ((t5.trans t6) _ _ upd_same), by decide +kernel⟩, .inr ⟨_, rfl⟩⟩
    · exact ⟨.inl ⟨_, .dK (t6 _ _ upd_same), by decide +kernel⟩, .inr ⟨_, rfl⟩⟩
  refine ⟨A4, rfl, ⟨_, SqL.of upd_same⟩, for_list (K := K) (a := A4) (xs := [.ref y1, .ref y2, .ref y3, .ref g1, .ref g2, .non, .int 3, .str "a", .ref l2, .ref dd]) (fun j σ H2 => ∃ w15 : Option V, σ = [some (.ref a), some (.int (0 + (i : Nat))), some (.ref p), some (.ref nq), some (.ref t), some (.ref x), some (.ref fa), some (.ref D), some (.ref u), w9'', w10, some (.int (m : Nat)), w12, some (.ref y1), some (.ref y2), w15, v16] ∧ L3 CS H x t p fa D S vs ws rows H2 ∧
    (∀ v ∈ [V.ref y1, .ref y2, .ref y3, .ref g1, .ref g2, .non, .int 3, .str "a", .ref l2, .ref dd], Wr H2 S v) ∧ H2 A4 = some (.lst [.ref y1, .ref y2, .ref y3, .ref g1, .ref g2, .non, .int 3, .str "a", .ref l2, .ref dd])) ?_ ?_ ?_ ?_⟩
  · exact ⟨_, rfl, L20.keep sAll, wrong, upd_same⟩
  · rintro j σ H2 _ ⟨w15, rfl, L, hw, hA⟩
    exact SqL.of hA
  · rintro j v σ H2 hv ⟨w15, rfl, L, hw, hA⟩
    obtain ⟨np, fl⟩ := hw v (List.mem_of_getElem? hv)
    refine ⟨_, rfl, _, rfl, x, t, v, .int 0, S, rfl, L.sc, .inl ⟨np, fun z H3 s3 hz => ?_⟩⟩
    refine ⟨_, rfl, (by show 2 ≤ sizeLine; decide), fun z2 hz2 => ?_⟩
    have s4 := same_new hz2 (.tup [.str "place", v])
    have s34 := s3.trans s4
    refine ⟨z, z2, _, rfl, rfl, SqT.of (s4 _ _ hz), SqT.of upd_same, flats rfl fl, _, rfl, iteF ?_⟩
    refine ⟨_, rfl, _, rfl, x, t, v, .non, S, rfl, L.sc.keep s34, .inl ⟨np.keep s34, fun z5 H5 s5 hz5 => ?_⟩⟩
    refine ⟨_, rfl, (by show 2 ≤ sizeLine; decide), fun z6 hz6 => ?_⟩
    have s6 := same_new hz6 (.tup [.str "place", v])
    have s56 := s34.trans (s5.trans s6)
    refine ⟨z5, z6, _, rfl, rfl, SqT.of (s6 _ _ hz5), SqT.of upd_same, flats rfl fl, _, rfl, iteF ?_⟩
    exact ⟨_, rfl, L.keep s56, fun y m => (hw y m).keep s56, s56 _ _ hA⟩
  rintro σ H30 ⟨w15, rfl, L30, _, _⟩
  exact ⟨_, _, _, _, _, _, _, _, _, _, _, _, _, _, _, _, rfl, L30.base⟩
end
end Tk
set_option maxRecDepth 100000
namespace Tk
open PySem L2 PyProof.Rows
theorem branches {P : Program} {w : World} {K : PySem.W.Frag} {mg : Str → Option Value} {base : Heap} {f fD fS : Addr} {fd fdD fdS : FuncData} (F : Fun K "_law_branch" "_law_branch" sBranch f fd) (B : Bl mg) (GD : FnOk P w K mg base CX0 1 fD fdD ["_law_pool_here", "_law_amount"] spDraw) (bD : Binds K fdD ["_law_pool_here", "_law_amount"] []) (kD : PySem.W.keepIn K (.ref fD) = true) (mD : mg "_law_draw" = some (.ref fD))
    (GS : FnOk P w K mg base CX0 2 fS fdS ["_law_pool_here", "_law_box", "_law_names_here"] spSimple) (bS : Binds K fdS ["_law_pool_here", "_law_box", "_law_names_here"] []) (kS : PySem.W.keepIn K (.ref fS) = true) (mS : mg "_law_simple" = some (.ref fS))
    (bB : Binds K fd psB []) (mB : mg "_law_branch" = some (.ref f)) : ∀ m : Nat, FnOk P w K mg base CX0 (2 + m) f fd psB (spBranch m)
  | 0 => by
    have no : ∀ vs H Q E, ¬ spBranch 0 vs H Q E := fun vs H Q E h => by
      obtain ⟨p, b, q, n, k, h, d, _, e, d2, _⟩ := h
      omega
    exact ⟨fun vs H Q E h => absurd h (no vs H Q E), fun A outer s H args us vs Q E _ _ _ _ h => absurd h (no vs H Q E)⟩
  | m + 1 => ok_branch F B GD bD kD mD GS bS kS mS (branches F B GD bD kD mD GS bS kS mS bB mB m) bB mB
theorem checks {P : Program} {w : World} {K : PySem.W.Frag} {mg : Str → Option Value} {base : Heap} {CS CK it : Addr} {fB fS fF fH : Addr} {fdB fdS fdF fdH : FuncData} (FB : Fun K "check_branch" "Check.check_branch" sKBr fB fdB) (FS : Fun K "check_statement" "Check.check_statement" sKSt fS fdS) (B : Bl mg) (T : Txt K w mg CS CK it)
    (bB : Binds K fdB psKB []) (mB : Meth K CK "check_branch" fB) (bS : Binds K fdS psKS []) (mS : Meth K CK "check_statement" fS)
    (GF : FnOk P w K mg base CX0 2 fF fdF ["statement", "place", "earlier", "held"] spFault) (bF : Binds K fdF ["statement", "place", "earlier", "held"] []) (kF : PySem.W.keepIn K (.ref fF) = true) (mF : mg "fault_of" = some (.ref fF)) (GH : FnOk P w K mg base CX0 1 fH fdH ["word", "held"] spHeld) (bH : Binds K fdH ["word", "held"] []) (kH : PySem.W.keepIn K (.ref fH) = true) (mH : mg "held_after" = some (.ref fH)) : ∀ m : Nat, FnOk P w K mg base CX0 (2 + 2 * m) fB fdB psKB (spKB CK m)
  | 0 => by
    have no : ∀ vs H Q E, ¬ spKB CK 0 vs H Q E := fun vs H Q E h => by
      obtain ⟨c, dd, t, u, xs, h, B, d, p, W, _, e, d2, _⟩ := h
      omega
    exact ⟨fun vs H Q E h => absurd h (no vs H Q E), fun A outer s H args us vs Q E _ _ _ _ h => absurd h (no vs H Q E)⟩
  | m + 1 => ok_kbr FB T (ok_kst (Nat.le_add_right 2 _) FS B T (checks FB FS B T bB mB bS mS GF bF kF mF GH bH kH mH m) bB mB GF bF kF mF GH bH kH mH) bS mS
theorem dues {P : Program} {w : World} {K : PySem.W.Frag} {mg : Str → Option Value} {base : Heap} {CS CK it : Addr} {f fP : Addr} {fd fdP : FuncData} (F : Fun K "_law_due" "_law_due" sDue f fd) (B : Bl mg) (T : Txt K w mg CS CK it)
    (GP : FnOk P w K mg base CX0 1 fP fdP ["_law_following"] spPlc) (bP : Binds K fdP ["_law_following"] []) (kP : PySem.W.keepIn K (.ref fP) = true) (mP : mg "_law_place" = some (.ref fP)) (bU : Binds K fd psU []) (mU : mg "_law_due" = some (.ref f)) : ∀ m : Nat, FnOk P w K mg base CX0 (1 + m) f fd psU (spDue m)
  | 0 => by
    have no : ∀ vs H Q E, ¬ spDue 0 vs H Q E := fun vs H Q E h => by
      obtain ⟨_, _, _, _, _, _, _, _, _, _, d, _, _, _, _, _, e, d2, _⟩ := h
      omega
    exact ⟨fun vs H Q E h => absurd h (no vs H Q E), fun A outer s H args us vs Q E _ _ _ _ h => absurd h (no vs H Q E)⟩
  | m + 1 => ok_due F B T GP bP kP mP (dues F B T GP bP kP mP bU mU m) bU mU
theorem kit_ref {K : PySem.W.Frag} {D C : Addr} {b : Bool} (hne : (Value.ref D == Value.ref C) = false) (ic : PySem.W.isClsIn K C = true) (tC : PySem.W.typeIn K (.ref C) = some (.type "type")) (s : PySem.W.subIn K (.ref D) (.ref C) = some b) : PySem.W.kitOne K (.ref D) (.ref C) = some b := by
  have e1 : (PySem.W.clsIn K C).isSome = true := ic
  unfold PySem.W.kitOne
  rw [hne, if_neg (by decide)]
  show (if ((PySem.W.clsIn K C).isSome && PySem.W.typeIn K (.ref C) == some (.type "type")) = true then PySem.W.subIn K (.ref D) (.ref C) else none) = some b
  rw [e1, tC, if_pos (show (true && some (Value.type "type") == some (Value.type "type")) = true from by rw [beq_self_eq_true]; rfl)]
  exact s
theorem ve_ok {CT : Addr} : PySem.HandSPX.refsVE [.ref CT, .type "ValueError", .type "Exception", .type "BaseException", .type "object"] = true := by
  show PySem.HandSPX.refsVE [.type "ValueError", .type "Exception", .type "BaseException", .type "object"] = true
  decide +kernel

theorem all_mk {l : PySem.W.OpenLaw} {w : World} {K : PySem.W.Frag} {h : Heap} {mg : Str → Option Value} {fa CS CK CN CA CT it TD f_isInt f_answers f_isAns f_isName f_fault f_form f_held f_pool f_draw f_names f_simple f_branch f_place f_due f_told f_law f_sinit f_shas f_sget f_behind f_kinit f_kbr f_kst f_npi f_nai f_after : Addr} (X : K.In h) (G : h.Ns mainGlobals mg) (hfa : mg "law" = some (.ref fa))
    {nmCN qCN : Str} {NCN : Addr} {bsCN sbCN : List Value} {snCN : List Str} {abCN : Bool} {coCN : Option Bool} {ddCN : Option Addr} {m0CN m1CN m2CN m3CN m5CN : Option Value}
    {nmCA qCA : Str} {NCA : Addr} {bsCA sbCA : List Value} {snCA : List Str} {abCA : Bool} {coCA : Option Bool} {ddCA : Option Addr} {m0CA m1CA m2CA m3CA m5CA : Option Value}
    {od_isInt an_isInt : Option Addr} {sl_isInt : Array (Option Value)} {oc_isInt kV_isInt dc_isInt pm_isInt cd_isInt ct_isInt : Value}
    {od_answers an_answers : Option Addr} {sl_answers : Array (Option Value)} {oc_answers kV_answers dc_answers pm_answers cd_answers ct_answers : Value}
    {od_isAns an_isAns : Option Addr} {sl_isAns : Array (Option Value)} {oc_isAns kV_isAns dc_isAns pm_isAns cd_isAns ct_isAns : Value}
    {od_isName an_isName : Option Addr} {sl_isName : Array (Option Value)} {oc_isName kV_isName dc_isName pm_isName cd_isName ct_isName : Value}
    {od_fault an_fault : Option Addr} {sl_fault : Array (Option Value)} {oc_fault kV_fault dc_fault pm_fault cd_fault ct_fault : Value}
    {od_form an_form : Option Addr} {sl_form : Array (Option Value)} {oc_form kV_form dc_form pm_form cd_form ct_form : Value}
    {od_held an_held : Option Addr} {sl_held : Array (Option Value)} {oc_held kV_held dc_held pm_held cd_held ct_held : Value}
    {od_pool an_pool : Option Addr} {sl_pool : Array (Option Value)} {oc_pool kV_pool dc_pool pm_pool cd_pool ct_pool : Value}
    {od_draw an_draw : Option Addr} {sl_draw : Array (Option Value)} {oc_draw kV_draw dc_draw pm_draw cd_draw ct_draw : Value}
    {od_names an_names : Option Addr} {sl_names : Array (Option Value)} {oc_names kV_names dc_names pm_names cd_names ct_names : Value}
    {od_simple an_simple : Option Addr} {sl_simple : Array (Option Value)} {oc_simple kV_simple dc_simple pm_simple cd_simple ct_simple : Value}
    {od_branch an_branch : Option Addr} {sl_branch : Array (Option Value)} {oc_branch kV_branch dc_branch pm_branch cd_branch ct_branch : Value}
    {od_place an_place : Option Addr} {sl_place : Array (Option Value)} {oc_place kV_place dc_place pm_place cd_place ct_place : Value}
    {od_due an_due : Option Addr} {sl_due : Array (Option Value)} {oc_due kV_due dc_due pm_due cd_due ct_due : Value}
    {od_told an_told : Option Addr} {sl_told : Array (Option Value)} {oc_told kV_told dc_told pm_told cd_told ct_told : Value}
    {od_law an_law : Option Addr} {sl_law : Array (Option Value)} {oc_law kV_law dc_law pm_law cd_law ct_law : Value}
    {od_sinit an_sinit : Option Addr} {sl_sinit : Array (Option Value)} {oc_sinit kV_sinit dc_sinit pm_sinit cd_sinit ct_sinit : Value}
    {od_shas an_shas : Option Addr} {sl_shas : Array (Option Value)} {oc_shas kV_shas dc_shas pm_shas cd_shas ct_shas : Value}
    {od_sget an_sget : Option Addr} {sl_sget : Array (Option Value)} {oc_sget kV_sget dc_sget pm_sget cd_sget ct_sget : Value}
    {od_behind an_behind : Option Addr} {sl_behind : Array (Option Value)} {oc_behind kV_behind dc_behind pm_behind cd_behind ct_behind : Value}
    {od_kinit an_kinit : Option Addr} {sl_kinit : Array (Option Value)} {oc_kinit kV_kinit dc_kinit pm_kinit cd_kinit ct_kinit : Value}
    {od_kbr an_kbr : Option Addr} {sl_kbr : Array (Option Value)} {oc_kbr kV_kbr dc_kbr pm_kbr cd_kbr ct_kbr : Value}
    {od_kst an_kst : Option Addr} {sl_kst : Array (Option Value)} {oc_kst kV_kst dc_kst pm_kst cd_kst ct_kst : Value}
    {od_npi an_npi : Option Addr} {sl_npi : Array (Option Value)} {oc_npi kV_npi dc_npi pm_npi cd_npi ct_npi : Value}
    {od_nai an_nai : Option Addr} {sl_nai : Array (Option Value)} {oc_nai kV_nai dc_nai pm_nai cd_nai ct_nai : Value}
    {od_after an_after : Option Addr} {sl_after : Array (Option Value)} {oc_after kV_after dc_after pm_after cd_after ct_after : Value}
    {cT : Value} {dT : Option Addr} {nT : Nat} {slT : Array (Option Value)} {tT : Tok}
    {esI : Array DictEntry} {nI : Nat} {t_LONGEST_NAME t_MOST_STATEMENTS t_MOST_HELD t_MOST_NESTED t_take t_commit t_rollback t_drop t_leave t_lock t_unlock t_choose : Tok}
    (aCS : PySem.W.nsIn K mainGlobals "Script" = some (some (.ref CS)))
    (aCK : PySem.W.nsIn K mainGlobals "Check" = some (some (.ref CK)))
    (aCN : PySem.W.nsIn K mainGlobals "NoPlace" = some (some (.ref CN)))
    (aCA : PySem.W.nsIn K mainGlobals "NoAnswer" = some (some (.ref CA)))
    (aCT : PySem.W.nsIn K mainGlobals "TakeError" = some (some (.ref CT)))
    (pgCS : PySem.W.plainGet K CS Str.empty = true)
    (hdCS : PySem.W.hasDictIn K CS = true)
    (poCS : PySem.W.plainOver K CS = true)
    (saCS : PySem.W.findIn K (.ref CS) "__setattr__" = some (some (.builtin "object.__setattr__")))
    (mkCS : PySem.W.makesIn K CS = true)
    (kcCS : PySem.W.keepIn K (.ref CS) = true)
    (pgCK : PySem.W.plainGet K CK Str.empty = true)
    (hdCK : PySem.W.hasDictIn K CK = true)
    (poCK : PySem.W.plainOver K CK = true)
    (saCK : PySem.W.findIn K (.ref CK) "__setattr__" = some (some (.builtin "object.__setattr__")))
    (mkCK : PySem.W.makesIn K CK = true)
    (kcCK : PySem.W.keepIn K (.ref CK) = true)
    (nCSstatements : PySem.W.findIn K (.ref CS) "statements" = some none)
    (nCSfound : PySem.W.findIn K (.ref CS) "found" = some none)
    (nCSplaces : PySem.W.findIn K (.ref CS) "places" = some none)
    (nCKfound : PySem.W.findIn K (.ref CK) "found" = some none)
    (cn : PySem.W.specialIn K (.builtin "object.__class__") "__get__" = some (some (.builtin "getset_descriptor.__get__")))
    (ct : PySem.W.takesIn K (.builtin "object.__class__") = some true)
    (xCN : K.lookup CN = some (excClassObj nmCN qCN CN NCN bsCN [.ref CT, .type "ValueError", .type "Exception", .type "BaseException", .type "object"] true snCN sbCN abCN coCN ddCN m0CN m1CN m2CN m3CN m5CN "ValueError.__new__"))
    (saCN : PySem.W.findIn K (.ref CN) "__setattr__" = some (some (.builtin "object.__setattr__")))
    (gaCN : PySem.W.findIn K (.ref CN) "__getattribute__" = some (some (.builtin "BaseException.__getattribute__")))
    (ggCN : PySem.W.findIn K (.ref CN) "__getattr__" = some none)
    (nfCN : PySem.W.findIn K (.ref CN) "place" = some none)
    (eCN : PySem.W.subIn K (.ref CN) (.type "BaseException") = some true)
    (tCN : PySem.W.typeIn K (.ref CN) = some (.type "type"))
    (hCN : PySem.W.hasDictIn K CN = true)
    (kcCN : PySem.W.keepIn K (.ref CN) = true)
    (caCN : PySem.W.findIn K (.ref CN) "__class__" = some (some (.builtin "object.__class__")))
    (obCN : PySem.W.mroIn K CN (.type "object") = some true)
    (iCN : PySem.W.isClsIn K CN = true)
    (xCA : K.lookup CA = some (excClassObj nmCA qCA CA NCA bsCA [.ref CT, .type "ValueError", .type "Exception", .type "BaseException", .type "object"] true snCA sbCA abCA coCA ddCA m0CA m1CA m2CA m3CA m5CA "ValueError.__new__"))
    (saCA : PySem.W.findIn K (.ref CA) "__setattr__" = some (some (.builtin "object.__setattr__")))
    (gaCA : PySem.W.findIn K (.ref CA) "__getattribute__" = some (some (.builtin "BaseException.__getattribute__")))
    (ggCA : PySem.W.findIn K (.ref CA) "__getattr__" = some none)
    (nfCA : PySem.W.findIn K (.ref CA) "answer" = some none)
    (eCA : PySem.W.subIn K (.ref CA) (.type "BaseException") = some true)
    (tCA : PySem.W.typeIn K (.ref CA) = some (.type "type"))
    (hCA : PySem.W.hasDictIn K CA = true)
    (kcCA : PySem.W.keepIn K (.ref CA) = true)
    (caCA : PySem.W.findIn K (.ref CA) "__class__" = some (some (.builtin "object.__class__")))
    (obCA : PySem.W.mroIn K CA (.type "object") = some true)
    (iCA : PySem.W.isClsIn K CA = true)
    (iCT : PySem.W.isClsIn K CT = true)
    (tCT : PySem.W.typeIn K (.ref CT) = some (.type "type"))
    (sCNCN : PySem.W.subIn K (.ref CN) (.ref CN) = some true)
    (sCACA : PySem.W.subIn K (.ref CA) (.ref CA) = some true)
    (sCNCA : PySem.W.subIn K (.ref CN) (.ref CA) = some false)
    (sCACN : PySem.W.subIn K (.ref CA) (.ref CN) = some false)
    (sCACT : PySem.W.subIn K (.ref CA) (.ref CT) = some true)
    (sCNCT : PySem.W.subIn K (.ref CN) (.ref CT) = some true)
    (dCACN : (Value.ref CA == Value.ref CN) = false)
    (dCACT : (Value.ref CA == Value.ref CT) = false)
    (dCNCT : (Value.ref CN == Value.ref CT) = false)
    (a_isInt : PySem.W.nsIn K mainGlobals "is_integer" = some (some (.ref f_isInt)))
    (l_isInt : K.lookup f_isInt = some ⟨oc_isInt, od_isInt, .func (PySem.W.fnOf "is_integer" "is_integer" (defArgs sIsInt) (defBody sIsInt) (defScope sIsInt) .none kV_isInt dc_isInt pm_isInt an_isInt cd_isInt ct_isInt), sl_isInt⟩)
    (c_isInt : PySem.W.codeIn K cd_isInt "is_integer" = true)
    (k_isInt : PySem.W.keepIn K (.ref f_isInt) = true)
    (a_answers : PySem.W.nsIn K mainGlobals "answers_of" = some (some (.ref f_answers)))
    (l_answers : K.lookup f_answers = some ⟨oc_answers, od_answers, .func (PySem.W.fnOf "answers_of" "answers_of" (defArgs sAnswers) (defBody sAnswers) (defScope sAnswers) .none kV_answers dc_answers pm_answers an_answers cd_answers ct_answers), sl_answers⟩)
    (c_answers : PySem.W.codeIn K cd_answers "answers_of" = true)
    (k_answers : PySem.W.keepIn K (.ref f_answers) = true)
    (a_isAns : PySem.W.nsIn K mainGlobals "is_answer" = some (some (.ref f_isAns)))
    (l_isAns : K.lookup f_isAns = some ⟨oc_isAns, od_isAns, .func (PySem.W.fnOf "is_answer" "is_answer" (defArgs sIsAns) (defBody sIsAns) (defScope sIsAns) .none kV_isAns dc_isAns pm_isAns an_isAns cd_isAns ct_isAns), sl_isAns⟩)
    (c_isAns : PySem.W.codeIn K cd_isAns "is_answer" = true)
    (k_isAns : PySem.W.keepIn K (.ref f_isAns) = true)
    (a_isName : PySem.W.nsIn K mainGlobals "is_name" = some (some (.ref f_isName)))
    (l_isName : K.lookup f_isName = some ⟨oc_isName, od_isName, .func (PySem.W.fnOf "is_name" "is_name" (defArgs sIsName) (defBody sIsName) (defScope sIsName) .none kV_isName dc_isName pm_isName an_isName cd_isName ct_isName), sl_isName⟩)
    (c_isName : PySem.W.codeIn K cd_isName "is_name" = true)
    (k_isName : PySem.W.keepIn K (.ref f_isName) = true)
    (a_fault : PySem.W.nsIn K mainGlobals "fault_of" = some (some (.ref f_fault)))
    (l_fault : K.lookup f_fault = some ⟨oc_fault, od_fault, .func (PySem.W.fnOf "fault_of" "fault_of" (defArgs sFault) (defBody sFault) (defScope sFault) .none kV_fault dc_fault pm_fault an_fault cd_fault ct_fault), sl_fault⟩)
    (c_fault : PySem.W.codeIn K cd_fault "fault_of" = true)
    (k_fault : PySem.W.keepIn K (.ref f_fault) = true)
    (a_form : PySem.W.nsIn K mainGlobals "has_form" = some (some (.ref f_form)))
    (l_form : K.lookup f_form = some ⟨oc_form, od_form, .func (PySem.W.fnOf "has_form" "has_form" (defArgs sForm) (defBody sForm) (defScope sForm) .none kV_form dc_form pm_form an_form cd_form ct_form), sl_form⟩)
    (c_form : PySem.W.codeIn K cd_form "has_form" = true)
    (k_form : PySem.W.keepIn K (.ref f_form) = true)
    (a_held : PySem.W.nsIn K mainGlobals "held_after" = some (some (.ref f_held)))
    (l_held : K.lookup f_held = some ⟨oc_held, od_held, .func (PySem.W.fnOf "held_after" "held_after" (defArgs sHeld) (defBody sHeld) (defScope sHeld) .none kV_held dc_held pm_held an_held cd_held ct_held), sl_held⟩)
    (c_held : PySem.W.codeIn K cd_held "held_after" = true)
    (k_held : PySem.W.keepIn K (.ref f_held) = true)
    (a_pool : PySem.W.nsIn K mainGlobals "_law_pool" = some (some (.ref f_pool)))
    (l_pool : K.lookup f_pool = some ⟨oc_pool, od_pool, .func (PySem.W.fnOf "_law_pool" "_law_pool" (defArgs sPool) (defBody sPool) (defScope sPool) .none kV_pool dc_pool pm_pool an_pool cd_pool ct_pool), sl_pool⟩)
    (c_pool : PySem.W.codeIn K cd_pool "_law_pool" = true)
    (k_pool : PySem.W.keepIn K (.ref f_pool) = true)
    (a_draw : PySem.W.nsIn K mainGlobals "_law_draw" = some (some (.ref f_draw)))
    (l_draw : K.lookup f_draw = some ⟨oc_draw, od_draw, .func (PySem.W.fnOf "_law_draw" "_law_draw" (defArgs sDraw) (defBody sDraw) (defScope sDraw) .none kV_draw dc_draw pm_draw an_draw cd_draw ct_draw), sl_draw⟩)
    (c_draw : PySem.W.codeIn K cd_draw "_law_draw" = true)
    (k_draw : PySem.W.keepIn K (.ref f_draw) = true)
    (a_names : PySem.W.nsIn K mainGlobals "_law_names" = some (some (.ref f_names)))
    (l_names : K.lookup f_names = some ⟨oc_names, od_names, .func (PySem.W.fnOf "_law_names" "_law_names" (defArgs sNames) (defBody sNames) (defScope sNames) .none kV_names dc_names pm_names an_names cd_names ct_names), sl_names⟩)
    (c_names : PySem.W.codeIn K cd_names "_law_names" = true)
    (k_names : PySem.W.keepIn K (.ref f_names) = true)
    (a_simple : PySem.W.nsIn K mainGlobals "_law_simple" = some (some (.ref f_simple)))
    (l_simple : K.lookup f_simple = some ⟨oc_simple, od_simple, .func (PySem.W.fnOf "_law_simple" "_law_simple" (defArgs sSimple) (defBody sSimple) (defScope sSimple) .none kV_simple dc_simple pm_simple an_simple cd_simple ct_simple), sl_simple⟩)
    (c_simple : PySem.W.codeIn K cd_simple "_law_simple" = true)
    (k_simple : PySem.W.keepIn K (.ref f_simple) = true)
    (a_branch : PySem.W.nsIn K mainGlobals "_law_branch" = some (some (.ref f_branch)))
    (l_branch : K.lookup f_branch = some ⟨oc_branch, od_branch, .func (PySem.W.fnOf "_law_branch" "_law_branch" (defArgs sBranch) (defBody sBranch) (defScope sBranch) .none kV_branch dc_branch pm_branch an_branch cd_branch ct_branch), sl_branch⟩)
    (c_branch : PySem.W.codeIn K cd_branch "_law_branch" = true)
    (k_branch : PySem.W.keepIn K (.ref f_branch) = true)
    (a_place : PySem.W.nsIn K mainGlobals "_law_place" = some (some (.ref f_place)))
    (l_place : K.lookup f_place = some ⟨oc_place, od_place, .func (PySem.W.fnOf "_law_place" "_law_place" (defArgs sPlace) (defBody sPlace) (defScope sPlace) .none kV_place dc_place pm_place an_place cd_place ct_place), sl_place⟩)
    (c_place : PySem.W.codeIn K cd_place "_law_place" = true)
    (k_place : PySem.W.keepIn K (.ref f_place) = true)
    (a_due : PySem.W.nsIn K mainGlobals "_law_due" = some (some (.ref f_due)))
    (l_due : K.lookup f_due = some ⟨oc_due, od_due, .func (PySem.W.fnOf "_law_due" "_law_due" (defArgs sDue) (defBody sDue) (defScope sDue) .none kV_due dc_due pm_due an_due cd_due ct_due), sl_due⟩)
    (c_due : PySem.W.codeIn K cd_due "_law_due" = true)
    (k_due : PySem.W.keepIn K (.ref f_due) = true)
    (a_told : PySem.W.nsIn K mainGlobals "_law_told" = some (some (.ref f_told)))
    (l_told : K.lookup f_told = some ⟨oc_told, od_told, .func (PySem.W.fnOf "_law_told" "_law_told" (defArgs sTold) (defBody sTold) (defScope sTold) .none kV_told dc_told pm_told an_told cd_told ct_told), sl_told⟩)
    (c_told : PySem.W.codeIn K cd_told "_law_told" = true)
    (k_told : PySem.W.keepIn K (.ref f_told) = true)
    (a_law : PySem.W.nsIn K mainGlobals "law" = some (some (.ref f_law)))
    (l_law : K.lookup f_law = some ⟨oc_law, od_law, .func (PySem.W.fnOf "law" "law" (defArgs sLaw) (defBody sLaw) (defScope sLaw) .none kV_law dc_law pm_law an_law cd_law ct_law), sl_law⟩)
    (c_law : PySem.W.codeIn K cd_law "law" = true)
    (k_law : PySem.W.keepIn K (.ref f_law) = true)
    (a_sinit : PySem.W.findIn K (.ref CS) "__init__" = some (some (.ref f_sinit)))
    (i_sinit : PySem.W.isFn K (.ref f_sinit) = true)
    (l_sinit : K.lookup f_sinit = some ⟨oc_sinit, od_sinit, .func (PySem.W.fnOf "__init__" "Script.__init__" (defArgs sSInit) (defBody sSInit) (defScope sSInit) .none kV_sinit dc_sinit pm_sinit an_sinit cd_sinit ct_sinit), sl_sinit⟩)
    (c_sinit : PySem.W.codeIn K cd_sinit "Script.__init__" = true)
    (k_sinit : PySem.W.keepIn K (.ref f_sinit) = true)
    (a_shas : PySem.W.findIn K (.ref CS) "__contains__" = some (some (.ref f_shas)))
    (i_shas : PySem.W.isFn K (.ref f_shas) = true)
    (l_shas : K.lookup f_shas = some ⟨oc_shas, od_shas, .func (PySem.W.fnOf "__contains__" "Script.__contains__" (defArgs sSHas) (defBody sSHas) (defScope sSHas) .none kV_shas dc_shas pm_shas an_shas cd_shas ct_shas), sl_shas⟩)
    (c_shas : PySem.W.codeIn K cd_shas "Script.__contains__" = true)
    (k_shas : PySem.W.keepIn K (.ref f_shas) = true)
    (a_sget : PySem.W.findIn K (.ref CS) "__getitem__" = some (some (.ref f_sget)))
    (i_sget : PySem.W.isFn K (.ref f_sget) = true)
    (l_sget : K.lookup f_sget = some ⟨oc_sget, od_sget, .func (PySem.W.fnOf "__getitem__" "Script.__getitem__" (defArgs sSGet) (defBody sSGet) (defScope sSGet) .none kV_sget dc_sget pm_sget an_sget cd_sget ct_sget), sl_sget⟩)
    (c_sget : PySem.W.codeIn K cd_sget "Script.__getitem__" = true)
    (k_sget : PySem.W.keepIn K (.ref f_sget) = true)
    (a_behind : PySem.W.findIn K (.ref CS) "behind" = some (some (.ref f_behind)))
    (i_behind : PySem.W.isFn K (.ref f_behind) = true)
    (l_behind : K.lookup f_behind = some ⟨oc_behind, od_behind, .func (PySem.W.fnOf "behind" "Script.behind" (defArgs sBehind) (defBody sBehind) (defScope sBehind) .none kV_behind dc_behind pm_behind an_behind cd_behind ct_behind), sl_behind⟩)
    (c_behind : PySem.W.codeIn K cd_behind "Script.behind" = true)
    (k_behind : PySem.W.keepIn K (.ref f_behind) = true)
    (a_kinit : PySem.W.findIn K (.ref CK) "__init__" = some (some (.ref f_kinit)))
    (i_kinit : PySem.W.isFn K (.ref f_kinit) = true)
    (l_kinit : K.lookup f_kinit = some ⟨oc_kinit, od_kinit, .func (PySem.W.fnOf "__init__" "Check.__init__" (defArgs sKInit) (defBody sKInit) (defScope sKInit) .none kV_kinit dc_kinit pm_kinit an_kinit cd_kinit ct_kinit), sl_kinit⟩)
    (c_kinit : PySem.W.codeIn K cd_kinit "Check.__init__" = true)
    (k_kinit : PySem.W.keepIn K (.ref f_kinit) = true)
    (a_kbr : PySem.W.findIn K (.ref CK) "check_branch" = some (some (.ref f_kbr)))
    (i_kbr : PySem.W.isFn K (.ref f_kbr) = true)
    (l_kbr : K.lookup f_kbr = some ⟨oc_kbr, od_kbr, .func (PySem.W.fnOf "check_branch" "Check.check_branch" (defArgs sKBr) (defBody sKBr) (defScope sKBr) .none kV_kbr dc_kbr pm_kbr an_kbr cd_kbr ct_kbr), sl_kbr⟩)
    (c_kbr : PySem.W.codeIn K cd_kbr "Check.check_branch" = true)
    (k_kbr : PySem.W.keepIn K (.ref f_kbr) = true)
    (a_kst : PySem.W.findIn K (.ref CK) "check_statement" = some (some (.ref f_kst)))
    (i_kst : PySem.W.isFn K (.ref f_kst) = true)
    (l_kst : K.lookup f_kst = some ⟨oc_kst, od_kst, .func (PySem.W.fnOf "check_statement" "Check.check_statement" (defArgs sKSt) (defBody sKSt) (defScope sKSt) .none kV_kst dc_kst pm_kst an_kst cd_kst ct_kst), sl_kst⟩)
    (c_kst : PySem.W.codeIn K cd_kst "Check.check_statement" = true)
    (k_kst : PySem.W.keepIn K (.ref f_kst) = true)
    (a_npi : PySem.W.findIn K (.ref CN) "__init__" = some (some (.ref f_npi)))
    (i_npi : PySem.W.typeIn K (.ref f_npi) = some (.type "function"))
    (l_npi : K.lookup f_npi = some ⟨oc_npi, od_npi, .func (PySem.W.fnOf "__init__" "NoPlace.__init__" (defArgs sNPInit) (defBody sNPInit) (defScope sNPInit) .none kV_npi dc_npi pm_npi an_npi cd_npi ct_npi), sl_npi⟩)
    (c_npi : PySem.W.codeIn K cd_npi "NoPlace.__init__" = true)
    (k_npi : PySem.W.keepIn K (.ref f_npi) = true)
    (a_nai : PySem.W.findIn K (.ref CA) "__init__" = some (some (.ref f_nai)))
    (i_nai : PySem.W.typeIn K (.ref f_nai) = some (.type "function"))
    (l_nai : K.lookup f_nai = some ⟨oc_nai, od_nai, .func (PySem.W.fnOf "__init__" "NoAnswer.__init__" (defArgs sNAInit) (defBody sNAInit) (defScope sNAInit) .none kV_nai dc_nai pm_nai an_nai cd_nai ct_nai), sl_nai⟩)
    (c_nai : PySem.W.codeIn K cd_nai "NoAnswer.__init__" = true)
    (k_nai : PySem.W.keepIn K (.ref f_nai) = true)
    (a_after : PySem.W.findIn K (.ref CS) "after" = some (some (.ref f_after)))
    (i_after : PySem.W.isFn K (.ref f_after) = true)
    (l_after : K.lookup f_after = some ⟨oc_after, od_after, .func (PySem.W.fnOf "after" "Script.after" (defArgs sAfter) (defBody sAfter) (defScope sAfter) (.ref TD) kV_after dc_after pm_after an_after cd_after ct_after), sl_after⟩)
    (c_after : PySem.W.codeIn K cd_after "Script.after" = true)
    (k_after : PySem.W.keepIn K (.ref f_after) = true)
    (lT : K.lookup TD = some ⟨cT, dT, .seq [.int 0 tT].toArray nT, slT⟩)
    (fg : PySem.W.fnIn K f_sget = true)
    (z_len : PySem.W.nsIn K mainGlobals "len" = some none)
    (z_int : PySem.W.nsIn K mainGlobals "int" = some none)
    (z_max : PySem.W.nsIn K mainGlobals "max" = some none)
    (z_range : PySem.W.nsIn K mainGlobals "range" = some none)
    (z_tuple : PySem.W.nsIn K mainGlobals "tuple" = some none)
    (z_isinstance : PySem.W.nsIn K mainGlobals "isinstance" = some none)
    (z_all : PySem.W.nsIn K mainGlobals "all" = some none)
    (z_list : PySem.W.nsIn K mainGlobals "list" = some none)
    (z_enumerate : PySem.W.nsIn K mainGlobals "enumerate" = some none)
    (z_str : PySem.W.nsIn K mainGlobals "str" = some none)
    (z_bool : PySem.W.nsIn K mainGlobals "bool" = some none)
    (v_LONGEST_NAME : PySem.W.nsIn K mainGlobals "LONGEST_NAME" = some (some (.int 8 t_LONGEST_NAME)))
    (v_MOST_STATEMENTS : PySem.W.nsIn K mainGlobals "MOST_STATEMENTS" = some (some (.int 8 t_MOST_STATEMENTS)))
    (v_MOST_HELD : PySem.W.nsIn K mainGlobals "MOST_HELD" = some (some (.int 3 t_MOST_HELD)))
    (v_MOST_NESTED : PySem.W.nsIn K mainGlobals "MOST_NESTED" = some (some (.int 2 t_MOST_NESTED)))
    (aI : PySem.W.nsIn K mainGlobals "ITEMS" = some (some (.ref it)))
    (lI : K.lookup it = some ⟨.type "dict", none, .dict esI nI, #[]⟩)
    (kI : PySem.W.KeysLit w.params esI.toList)
    (sI : (it == sysModules) = false)
    (e_take : PySem.W.nsIn K it "take" = some (some (.int 1 t_take)))
    (e_commit : PySem.W.nsIn K it "commit" = some (some (.int 1 t_commit)))
    (e_rollback : PySem.W.nsIn K it "rollback" = some (some (.int 1 t_rollback)))
    (e_drop : PySem.W.nsIn K it "drop" = some (some (.int 1 t_drop)))
    (e_leave : PySem.W.nsIn K it "leave" = some (some (.int 1 t_leave)))
    (e_lock : PySem.W.nsIn K it "lock" = some (some (.int 2 t_lock)))
    (e_unlock : PySem.W.nsIn K it "unlock" = some (some (.int 2 t_unlock)))
    (e_choose : PySem.W.nsIn K it "choose" = some (some (.int 3 t_choose)))
    : ∃ fd : FuncData, (∀ (s : Shared) (v : Value), BindsTo s fd ⟨[v], []⟩ [("_law_script", v)]) ∧ ∀ base : Heap, K.In base → base.Ns mainGlobals mg → FnOk l.prog w K mg base CX0 11 fa fd ["_law_script"] (spLaw3 K) := by
  have e := hfa.symm.trans (PySem.W.mg_of X G a_law)
  cases e
  have B : Bl mg := ⟨PySem.W.mg_none_of X G z_len, PySem.W.mg_none_of X G z_int, PySem.W.mg_none_of X G z_max, PySem.W.mg_none_of X G z_range, PySem.W.mg_none_of X G z_tuple⟩
  have kg : ∀ z n, (z, n) ∈ items8 → KG K w it z (.int n) := by
    intro z n hm
    simp only [items8, List.mem_cons, List.not_mem_nil, or_false, Prod.mk.injEq] at hm
    rcases hm with ⟨rfl, rfl⟩ | ⟨rfl, rfl⟩ | ⟨rfl, rfl⟩ | ⟨rfl, rfl⟩ | ⟨rfl, rfl⟩ | ⟨rfl, rfl⟩ | ⟨rfl, rfl⟩ | ⟨rfl, rfl⟩
    · exact ⟨⟨_, _, _, lI, kI, e_take, ⟨_, rfl⟩⟩, sI⟩
    · exact ⟨⟨_, _, _, lI, kI, e_commit, ⟨_, rfl⟩⟩, sI⟩
    · exact ⟨⟨_, _, _, lI, kI, e_rollback, ⟨_, rfl⟩⟩, sI⟩
    · exact ⟨⟨_, _, _, lI, kI, e_drop, ⟨_, rfl⟩⟩, sI⟩
    · exact ⟨⟨_, _, _, lI, kI, e_leave, ⟨_, rfl⟩⟩, sI⟩
    · exact ⟨⟨_, _, _, lI, kI, e_lock, ⟨_, rfl⟩⟩, sI⟩
    · exact ⟨⟨_, _, _, lI, kI, e_unlock, ⟨_, rfl⟩⟩, sI⟩
    · exact ⟨⟨_, _, _, lI, kI, e_choose, ⟨_, rfl⟩⟩, sI⟩
  have T : Txt K w mg CS CK it := ⟨PySem.W.mg_none_of X G z_isinstance, PySem.W.mg_none_of X G z_all, PySem.W.mg_none_of X G z_list, PySem.W.mg_none_of X G z_enumerate, PySem.W.mg_none_of X G z_str, PySem.W.mg_none_of X G z_bool,
    ⟨_, PySem.W.mg_of X G v_LONGEST_NAME⟩, ⟨_, PySem.W.mg_of X G v_MOST_STATEMENTS⟩, ⟨_, PySem.W.mg_of X G v_MOST_HELD⟩, ⟨_, PySem.W.mg_of X G v_MOST_NESTED⟩, PySem.W.mg_of X G aI, ⟨_, _, lI⟩, kg,
    ⟨pgCS, hdCS, poCS, saCS⟩, ⟨pgCK, hdCK, poCK, saCK⟩, PySem.W.mg_of X G aCS, PySem.W.mg_of X G aCK, nCSstatements, nCSfound, nCSplaces, nCKfound⟩
  have E_CN : Ecl K mg "NoPlace" "place" CN f_npi := ⟨PySem.W.mg_of X G aCN, ⟨⟨_, _, _, _, _, _, _, _, _, _, _, _, _, _, _, xCN, ve_ok⟩, saCN, eCN, tCN, kcCN⟩, a_npi, i_npi, nfCN, ⟨gaCN, ggCN, eCN, hCN⟩, iCN, caCN, cn, ct, obCN, PySem.W.exm_ref eCN hCN tCN sCNCN⟩
  have E_CA : Ecl K mg "NoAnswer" "answer" CA f_nai := ⟨PySem.W.mg_of X G aCA, ⟨⟨_, _, _, _, _, _, _, _, _, _, _, _, _, _, _, xCA, ve_ok⟩, saCA, eCA, tCA, kcCA⟩, a_nai, i_nai, nfCA, ⟨gaCA, ggCA, eCA, hCA⟩, iCA, caCA, cn, ct, obCA, PySem.W.exm_ref eCA hCA tCA sCACA⟩
  have R : ExRel K mg CN CA CT := ⟨PySem.W.mg_of X G aCT, PySem.W.exm_ref eCA hCA tCA sCNCA, kit_ref dCACN iCN tCN sCACN, kit_ref dCACT iCT tCT sCACT, kit_ref dCNCT iCT tCT sCNCT⟩
  have F_isInt := fun_mk (st := sIsInt) l_isInt c_isInt k_isInt
  have b_isInt := F_isInt.binds (ps := ["value"]) fun _ _ _ _ _ _ us hl => match us, hl with | [_], _ => rfl
  have m_isInt := PySem.W.mg_of X G a_isInt
  have F_answers := fun_mk (st := sAnswers) l_answers c_answers k_answers
  have b_answers := F_answers.binds (ps := ["statement"]) fun _ _ _ _ _ _ us hl => match us, hl with | [_], _ => rfl
  have m_answers := PySem.W.mg_of X G a_answers
  have F_isAns := fun_mk (st := sIsAns) l_isAns c_isAns k_isAns
  have b_isAns := F_isAns.binds (ps := ["statement", "answer"]) fun _ _ _ _ _ _ us hl => match us, hl with | [_, _], _ => rfl
  have m_isAns := PySem.W.mg_of X G a_isAns
  have F_isName := fun_mk (st := sIsName) l_isName c_isName k_isName
  have b_isName := F_isName.binds (ps := ["value"]) fun _ _ _ _ _ _ us hl => match us, hl with | [_], _ => rfl
  have m_isName := PySem.W.mg_of X G a_isName
  have F_fault := fun_mk (st := sFault) l_fault c_fault k_fault
  have b_fault := F_fault.binds (ps := ["statement", "place", "earlier", "held"]) fun _ _ _ _ _ _ us hl => match us, hl with | [_, _, _, _], _ => rfl
  have m_fault := PySem.W.mg_of X G a_fault
  have F_form := fun_mk (st := sForm) l_form c_form k_form
  have b_form := F_form.binds (ps := ["statement"]) fun _ _ _ _ _ _ us hl => match us, hl with | [_], _ => rfl
  have m_form := PySem.W.mg_of X G a_form
  have F_held := fun_mk (st := sHeld) l_held c_held k_held
  have b_held := F_held.binds (ps := ["word", "held"]) fun _ _ _ _ _ _ us hl => match us, hl with | [_, _], _ => rfl
  have m_held := PySem.W.mg_of X G a_held
  have F_pool := fun_mk (st := sPool) l_pool c_pool k_pool
  have b_pool := F_pool.binds (ps := ["_law_script", "_law_k"]) fun _ _ _ _ _ _ us hl => match us, hl with | [_, _], _ => rfl
  have m_pool := PySem.W.mg_of X G a_pool
  have F_draw := fun_mk (st := sDraw) l_draw c_draw k_draw
  have b_draw := F_draw.binds (ps := ["_law_pool_here", "_law_amount"]) fun _ _ _ _ _ _ us hl => match us, hl with | [_, _], _ => rfl
  have m_draw := PySem.W.mg_of X G a_draw
  have F_names := fun_mk (st := sNames) l_names c_names k_names
  have b_names := F_names.binds (ps := ["_law_pool_here"]) fun _ _ _ _ _ _ us hl => match us, hl with | [_], _ => rfl
  have m_names := PySem.W.mg_of X G a_names
  have F_simple := fun_mk (st := sSimple) l_simple c_simple k_simple
  have b_simple := F_simple.binds (ps := ["_law_pool_here", "_law_box", "_law_names_here"]) fun _ _ _ _ _ _ us hl => match us, hl with | [_, _, _], _ => rfl
  have m_simple := PySem.W.mg_of X G a_simple
  have F_branch := fun_mk (st := sBranch) l_branch c_branch k_branch
  have b_branch := F_branch.binds (ps := ["_law_pool_here", "_law_box", "_law_names_here", "_law_length", "_law_depth"]) fun _ _ _ _ _ _ us hl => match us, hl with | [_, _, _, _, _], _ => rfl
  have m_branch := PySem.W.mg_of X G a_branch
  have F_place := fun_mk (st := sPlace) l_place c_place k_place
  have b_place := F_place.binds (ps := ["_law_following"]) fun _ _ _ _ _ _ us hl => match us, hl with | [_], _ => rfl
  have m_place := PySem.W.mg_of X G a_place
  have F_due := fun_mk (st := sDue) l_due c_due k_due
  have b_due := F_due.binds (ps := ["_law_branch_here", "_law_prefix", "_law_behind", "_law_found"]) fun _ _ _ _ _ _ us hl => match us, hl with | [_, _, _, _], _ => rfl
  have m_due := PySem.W.mg_of X G a_due
  have F_told := fun_mk (st := sTold) l_told c_told k_told
  have b_told := F_told.binds (ps := ["_law_made", "_law_place_here", "_law_answer"]) fun _ _ _ _ _ _ us hl => match us, hl with | [_, _, _], _ => rfl
  have m_told := PySem.W.mg_of X G a_told
  have F_law := fun_mk (st := sLaw) l_law c_law k_law
  have m_law := PySem.W.mg_of X G a_law
  have F_sinit := fun_mk (st := sSInit) l_sinit c_sinit k_sinit
  have b_sinit := F_sinit.binds (ps := ["self", "statements"]) fun _ _ _ _ _ _ us hl => match us, hl with | [_, _], _ => rfl
  have F_shas := fun_mk (st := sSHas) l_shas c_shas k_shas
  have b_shas := F_shas.binds (ps := ["self", "place"]) fun _ _ _ _ _ _ us hl => match us, hl with | [_, _], _ => rfl
  have F_sget := fun_mk (st := sSGet) l_sget c_sget k_sget
  have b_sget := F_sget.binds (ps := ["self", "place"]) fun _ _ _ _ _ _ us hl => match us, hl with | [_, _], _ => rfl
  have F_behind := fun_mk (st := sBehind) l_behind c_behind k_behind
  have b_behind := F_behind.binds (ps := ["self", "place"]) fun _ _ _ _ _ _ us hl => match us, hl with | [_, _], _ => rfl
  have F_kinit := fun_mk (st := sKInit) l_kinit c_kinit k_kinit
  have b_kinit := F_kinit.binds (ps := ["self"]) fun _ _ _ _ _ _ us hl => match us, hl with | [_], _ => rfl
  have F_kbr := fun_mk (st := sKBr) l_kbr c_kbr k_kbr
  have b_kbr := F_kbr.binds (ps := ["self", "branch", "above", "held"]) fun _ _ _ _ _ _ us hl => match us, hl with | [_, _, _, _], _ => rfl
  have F_kst := fun_mk (st := sKSt) l_kst c_kst k_kst
  have b_kst := F_kst.binds (ps := ["self", "statement", "place", "held"]) fun _ _ _ _ _ _ us hl => match us, hl with | [_, _, _, _], _ => rfl
  have F_npi := fun_mk (st := sNPInit) l_npi c_npi k_npi
  have b_npi := F_npi.binds (ps := ["self", "place"]) fun _ _ _ _ _ _ us hl => match us, hl with | [_, _], _ => rfl
  have F_nai := fun_mk (st := sNAInit) l_nai c_nai k_nai
  have b_nai := F_nai.binds (ps := ["self", "answer"]) fun _ _ _ _ _ _ us hl => match us, hl with | [_, _], _ => rfl
  have F_after : FunD K "after" "Script.after" (defArgs sAfter) (defBody sAfter) (defScope sAfter) [.int 0] [] f_after _ := ⟨⟨_, _, _, _, _, _, _, _, _, _, rfl, l_after, c_after, .inr ⟨by simp, TD, _, [.int 0 tT], nT, rfl, lT, rfl, .cons ⟨_, rfl⟩ .nil⟩, .inl rfl⟩, k_after⟩
  obtain ⟨ds, rds, b_after⟩ := F_after.binds1 (ps := ["self", "place", "answer"]) 3 1 (by simp) rfl (fun _ _ _ _ _ _ _ us its h1 h2 => match us, its, h1, h2 with | [_, _, _], [_], _, _ => ⟨_, rfl, rfl⟩)
  have eds : ds = [] := by cases rds; rfl
  subst eds
  obtain ⟨ds2, rds2, b_after2⟩ := F_after.binds1 (ps := ["self", "place", "answer"]) 2 0 (by simp) rfl (fun _ _ _ _ _ _ _ us its h1 h2 => match us, its, h1, h2 with | [_, _], [_], _, _ => ⟨_, rfl, rfl⟩)
  refine ⟨PySem.W.fnOf "law" "law" (defArgs sLaw) (defBody sLaw) (defScope sLaw) .none kV_law dc_law pm_law an_law cd_law ct_law, fun s v => .of_eq rfl, fun base _ _ => ?_⟩
  have Gii := ok_isint (P := l.prog) (w := w) (base := base) F_isInt B T
  have Gas := ok_answers (P := l.prog) (w := w) (mg := mg) (base := base) F_answers
  have Gia := ok_isans F_isAns Gii b_isInt k_isInt m_isInt Gas b_answers k_answers m_answers
  have Gnm := ok_isname (P := l.prog) (w := w) (base := base) F_isName B T
  have Gfo := ok_form (P := l.prog) (w := w) (base := base) F_form B T
  have Gfa := ok_fault F_fault B T Gfo b_form k_form m_form Gnm b_isName k_isName m_isName
  have Gpo := ok_pool (P := l.prog) (w := w) (base := base) F_pool B
  have Gdr := ok_draw (P := l.prog) (w := w) (base := base) F_draw B
  have Gna := ok_names F_names B Gdr b_draw k_draw m_draw
  have Gsi := ok_simple F_simple B Gdr b_draw k_draw m_draw
  have Gbr := branches F_branch B Gdr b_draw k_draw m_draw Gsi b_simple k_simple m_simple b_branch m_branch 3
  have Gki := ok_kinit (P := l.prog) (w := w) (base := base) F_kinit T
  have Ghd := ok_held (P := l.prog) (w := w) (mg := mg) (base := base) F_held
  have Gkb := checks F_kbr F_kst B T b_kbr ⟨a_kbr, i_kbr, k_kbr⟩ b_kst ⟨a_kst, i_kst, k_kst⟩ Gfa b_fault k_fault m_fault Ghd b_held k_held m_held 3
  have Gin := ok_sinit F_sinit B T ⟨mkCK, a_kinit, i_kinit, kcCK⟩ Gki b_kinit Gkb b_kbr ⟨a_kbr, i_kbr, k_kbr⟩
  have Gsh := ok_shas F_shas B T Gii b_isInt k_isInt m_isInt
  have Gnp := ok_npi (P := l.prog) (w := w) (mg := mg) (base := base) F_npi E_CN
  have Gan := ok_nai (P := l.prog) (w := w) (mg := mg) (base := base) F_nai E_CA
  have Gsg := ok_sgetX F_sget T E_CN Gnp b_npi Gsh b_shas ⟨a_shas, i_shas⟩
  have Gbe := ok_behindX (P := l.prog) (w := w) (base := base) F_behind T
  have Gaf := ok_afterX F_after T E_CA Gan b_nai Gsg b_sget ⟨a_sget, i_sget⟩ fg Gia b_isAns k_isAns m_isAns Gbe b_behind ⟨a_behind, i_behind, k_behind⟩
  have Gpl := ok_place (P := l.prog) (w := w) (base := base) F_place B
  have Gdu := dues F_due B T Gpl b_place k_place m_place b_due m_due 3
  have Gto := ok_told F_told T E_CN E_CA R Gaf b_after ⟨a_after, i_after, k_after⟩
  exact ok_law3 F_law B T Gpo b_pool k_pool m_pool Gdr b_draw k_draw m_draw Gna b_names k_names m_names Gbr b_branch k_branch m_branch ⟨mkCS, a_sinit, i_sinit, kcCS⟩ Gin b_sinit Gaf b_after2 rds2 ⟨a_after, i_after, k_after⟩ Gdu b_due k_due m_due Gto b_told k_told m_told
theorem walk {l : PySem.W.OpenLaw} {q : Program} {loose : List Str} {XP : (Str → Option Value) → Heap → Prop} {YP : World → Heap → Prop} {d : DefRec} {K : Params → PySem.W.Frag} (hn : l.most = some 63) (hdf : d.params.defaults = [])
    (hY : ∀ (w : World) (h : Heap), YP w h → (K w.params).In h)
    (F : ∀ (w : World) (mg : Str → Option Value) (fa : Addr) (h : Heap), (K w.params).In h → h.Ns mainGlobals mg → mg d.name = some (.ref fa) →
      ∃ fd : FuncData, (∀ (s : Shared) (u : Value), BindsTo s fd ⟨[u], []⟩ [("_law_script", u)]) ∧ ∀ base : Heap, (K w.params).In base → base.Ns mainGlobals mg → FnOk l.prog w (K w.params) mg base CX0 11 fa fd ["_law_script"] (spLaw3 (K w.params))) :
    PySem.W.WalkO q loose XP YP l.row.toRowW d [] (fun f vs => PySem.call f vs) :=
  L2.walk_of (n := 63) (k := 11) (x := "_law_script") (CX := fun _ => CX0) (sp := fun w => spLaw3 (K w.params)) hn (by decide) hdf ⟨rfl, by decide, by decide⟩ hY F (fun _ _ a ns hl _ hS => ⟨a, ns, rfl, hS, hl, fun _ => rfl⟩) fun _ _ _ _ _ z => z
end Tk
open PySem PySem.W PyProof.Rows
set_option maxRecDepth 100000 in
set_option maxHeartbeats 0 in
theorem PySem.Challenge.cw_takenahead_k03_after_holds : PySem.Challenge.rw_takenahead_k03_after.Holds := by
  w_on; o_law; k_head; (case hw => w_witness2)
  k_fill
  refine Tk.walk (l := PySem.Challenge.rw_takenahead_k03_after) rfl rfl (fun w h Y => PySem.W.kIn_of Y) ?F
  case F =>
    intro w mg fa h KX G hmg
    refine' Tk.all_mk KX G hmg ?aCS ?aCK ?aCN ?aCA ?aCT ?pgCS ?hdCS ?poCS ?saCS ?mkCS ?kcCS ?pgCK ?hdCK ?poCK ?saCK ?mkCK ?kcCK ?nCSstatements ?nCSfound ?nCSplaces ?nCKfound ?cn ?ct ?xCN ?saCN ?gaCN ?ggCN ?nfCN ?eCN ?tCN ?hCN ?kcCN ?caCN ?obCN ?iCN ?xCA ?saCA ?gaCA ?ggCA ?nfCA ?eCA ?tCA ?hCA ?kcCA ?caCA ?obCA ?iCA ?iCT ?tCT ?sCNCN ?sCACA ?sCNCA ?sCACN ?sCACT ?sCNCT ?dCACN ?dCACT ?dCNCT ?a_isInt ?l_isInt ?c_isInt ?k_isInt ?a_answers ?l_answers ?c_answers ?k_answers ?a_isAns ?l_isAns ?c_isAns ?k_isAns ?a_isName ?l_isName ?c_isName ?k_isName ?a_fault ?l_fault ?c_fault ?k_fault ?a_form ?l_form ?c_form ?k_form ?a_held ?l_held ?c_held ?k_held ?a_pool ?l_pool ?c_pool ?k_pool ?a_draw ?l_draw ?c_draw ?k_draw ?a_names ?l_names ?c_names ?k_names ?a_simple ?l_simple ?c_simple ?k_simple ?a_branch ?l_branch ?c_branch ?k_branch ?a_place ?l_place ?c_place ?k_place ?a_due ?l_due ?c_due ?k_due ?a_told ?l_told ?c_told ?k_told ?a_law ?l_law ?c_law ?k_law ?a_sinit ?i_sinit ?l_sinit ?c_sinit ?k_sinit ?a_shas ?i_shas ?l_shas ?c_shas ?k_shas ?a_sget ?i_sget ?l_sget ?c_sget ?k_sget ?a_behind ?i_behind ?l_behind ?c_behind ?k_behind ?a_kinit ?i_kinit ?l_kinit ?c_kinit ?k_kinit ?a_kbr ?i_kbr ?l_kbr ?c_kbr ?k_kbr ?a_kst ?i_kst ?l_kst ?c_kst ?k_kst ?a_npi ?i_npi ?l_npi ?c_npi ?k_npi ?a_nai ?i_nai ?l_nai ?c_nai ?k_nai ?a_after ?i_after ?l_after ?c_after ?k_after ?lT ?fg ?z_len ?z_int ?z_max ?z_range ?z_tuple ?z_isinstance ?z_all ?z_list ?z_enumerate ?z_str ?z_bool ?v_LONGEST_NAME ?v_MOST_STATEMENTS ?v_MOST_HELD ?v_MOST_NESTED ?aI ?lI ?kI ?sI ?e_take ?e_commit ?e_rollback ?e_drop ?e_leave ?e_lock ?e_unlock ?e_choose
    (case aCS => k_is)
    (case aCK => k_is)
    (case aCN => k_is)
    (case aCA => k_is)
    (case aCT => k_is)
    (case pgCS => k_is)
    (case hdCS => k_is)
    (case poCS => k_is)
    (case saCS => k_is)
    (case mkCS => k_is)
    (case kcCS => k_is)
    (case pgCK => k_is)
    (case hdCK => k_is)
    (case poCK => k_is)
    (case saCK => k_is)
    (case mkCK => k_is)
    (case kcCK => k_is)
    (case nCSstatements => k_is)
    (case nCSfound => k_is)
    (case nCSplaces => k_is)
    (case nCKfound => k_is)
    (case cn => k_is)
    (case ct => k_is)
    (case xCN => k_is)
    (case saCN => k_is)
    (case gaCN => k_is)
    (case ggCN => k_is)
    (case nfCN => k_is)
    (case eCN => k_is)
    (case tCN => k_is)
    (case hCN => k_is)
    (case kcCN => k_is)
    (case caCN => k_is)
    (case obCN => k_is)
    (case iCN => k_is)
    (case xCA => k_is)
    (case saCA => k_is)
    (case gaCA => k_is)
    (case ggCA => k_is)
    (case nfCA => k_is)
    (case eCA => k_is)
    (case tCA => k_is)
    (case hCA => k_is)
    (case kcCA => k_is)
    (case caCA => k_is)
    (case obCA => k_is)
    (case iCA => k_is)
    (case iCT => k_is)
    (case tCT => k_is)
    (case sCNCN => k_is)
    (case sCACA => k_is)
    (case sCNCA => k_is)
    (case sCACN => k_is)
    (case sCACT => k_is)
    (case sCNCT => k_is)
    (case dCACN => first | rfl | decide)
    (case dCACT => first | rfl | decide)
    (case dCNCT => first | rfl | decide)
    (case a_isInt => k_is)
    (case l_isInt => k_is)
    (case c_isInt => k_is)
    (case k_isInt => k_is)
    (case a_answers => k_is)
    (case l_answers => k_is)
    (case c_answers => k_is)
    (case k_answers => k_is)
    (case a_isAns => k_is)
    (case l_isAns => k_is)
    (case c_isAns => k_is)
    (case k_isAns => k_is)
    (case a_isName => k_is)
    (case l_isName => k_is)
    (case c_isName => k_is)
    (case k_isName => k_is)
    (case a_fault => k_is)
    (case l_fault => k_is)
    (case c_fault => k_is)
    (case k_fault => k_is)
    (case a_form => k_is)
    (case l_form => k_is)
    (case c_form => k_is)
    (case k_form => k_is)
    (case a_held => k_is)
    (case l_held => k_is)
    (case c_held => k_is)
    (case k_held => k_is)
    (case a_pool => k_is)
    (case l_pool => k_is)
    (case c_pool => k_is)
    (case k_pool => k_is)
    (case a_draw => k_is)
    (case l_draw => k_is)
    (case c_draw => k_is)
    (case k_draw => k_is)
    (case a_names => k_is)
    (case l_names => k_is)
    (case c_names => k_is)
    (case k_names => k_is)
    (case a_simple => k_is)
    (case l_simple => k_is)
    (case c_simple => k_is)
    (case k_simple => k_is)
    (case a_branch => k_is)
    (case l_branch => k_is)
    (case c_branch => k_is)
    (case k_branch => k_is)
    (case a_place => k_is)
    (case l_place => k_is)
    (case c_place => k_is)
    (case k_place => k_is)
    (case a_due => k_is)
    (case l_due => k_is)
    (case c_due => k_is)
    (case k_due => k_is)
    (case a_told => k_is)
    (case l_told => k_is)
    (case c_told => k_is)
    (case k_told => k_is)
    (case a_law => k_is)
    (case l_law => k_is)
    (case c_law => k_is)
    (case k_law => k_is)
    (case a_sinit => k_is)
    (case i_sinit => k_is)
    (case l_sinit => k_is)
    (case c_sinit => k_is)
    (case k_sinit => k_is)
    (case a_shas => k_is)
    (case i_shas => k_is)
    (case l_shas => k_is)
    (case c_shas => k_is)
    (case k_shas => k_is)
    (case a_sget => k_is)
    (case i_sget => k_is)
    (case l_sget => k_is)
    (case c_sget => k_is)
    (case k_sget => k_is)
    (case a_behind => k_is)
    (case i_behind => k_is)
    (case l_behind => k_is)
    (case c_behind => k_is)
    (case k_behind => k_is)
    (case a_kinit => k_is)
    (case i_kinit => k_is)
    (case l_kinit => k_is)
    (case c_kinit => k_is)
    (case k_kinit => k_is)
    (case a_kbr => k_is)
    (case i_kbr => k_is)
    (case l_kbr => k_is)
    (case c_kbr => k_is)
    (case k_kbr => k_is)
    (case a_kst => k_is)
    (case i_kst => k_is)
    (case l_kst => k_is)
    (case c_kst => k_is)
    (case k_kst => k_is)
    (case a_npi => k_is)
    (case i_npi => k_is)
    (case l_npi => k_is)
    (case c_npi => k_is)
    (case k_npi => k_is)
    (case a_nai => k_is)
    (case i_nai => k_is)
    (case l_nai => k_is)
    (case c_nai => k_is)
    (case k_nai => k_is)
    (case a_after => k_is)
    (case i_after => k_is)
    (case l_after => k_is)
    (case c_after => k_is)
    (case k_after => k_is)
    (case lT => k_is)
    (case fg => k_is)
    (case z_len => k_is)
    (case z_int => k_is)
    (case z_max => k_is)
    (case z_range => k_is)
    (case z_tuple => k_is)
    (case z_isinstance => k_is)
    (case z_all => k_is)
    (case z_list => k_is)
    (case z_enumerate => k_is)
    (case z_str => k_is)
    (case z_bool => k_is)
    (case v_LONGEST_NAME => k_is)
    (case v_MOST_STATEMENTS => k_is)
    (case v_MOST_HELD => k_is)
    (case v_MOST_NESTED => k_is)
    (case aI => k_is)
    (case lI => k_is)
    (case kI => (repeat (first | exact trivial | refine ⟨⟨_, _, rfl, rfl⟩, ?_⟩)))
    (case sI => first | rfl | decide)
    (case e_take => k_is)
    (case e_commit => k_is)
    (case e_rollback => k_is)
    (case e_drop => k_is)
    (case e_leave => k_is)
    (case e_lock => k_is)
    (case e_unlock => k_is)
    (case e_choose => k_is)
