import PyProof.Rows.All
import Wide.All
import OpenK.AllK
import Wide.FinOn
import HandS.ForMost
import HandS.TupAny
import HandS.TupLen
import HandS.TupLe
import HandS.Conv
import HandS.IsInst
import HandS.More
import HandS.OwnEq
import KE.GoesMore
import HandS.ExcInit
import HandS.ExcOwn
import HandS.ExcField
import HandS.ExcIs
import HandS.WordsExc
import HandS.DeepEq
import KE.KExcIs
import HandS.Wide
import HandS.Codes
import HandS.Comp
import HandS.Text
import HandS.Walk
import PySem.Challenge.RW_takenahead_k78_words_that_are_no_steps
set_option Elab.async false
set_option linter.all false
set_option maxRecDepth 100000
namespace Tk
open PySem L2
/-! ## heaps -/
/-- all but what stands at p is as it was -/
def Kp (p : Addr) (H H' : Hp) : Prop := ∀ b o, H b = some o → b ≠ p → H' b = some o
theorem Kp.refl (p : Addr) (H : Hp) : Kp p H H := fun _ _ e _ => e
theorem Kp.trans {p : Addr} {H H1 H2 : Hp} (a : Kp p H H1) (b : Kp p H1 H2) : Kp p H H2 := fun c o e n => b c o (a c o e n) n
theorem Kp.upd {p : Addr} {H : Hp} {o : HO} : Kp p H (L2.upd H p o) := fun c u e n => by rw [upd_ne n]; exact e
theorem Kp.new {p q : Addr} {H H' : Hp} {o : HO} (a : Kp p H H') (n : H' q = none) : Kp p H (L2.upd H' q o) := fun c u e m => by
  rw [upd_ne (ne_of_none (a c u e m) n)]; exact a c u e m
theorem Kp.of_same {p : Addr} {H H' : Hp} (a : Same H H') : Kp p H H' := fun c o e _ => a c o e
theorem same_new {H : Hp} {p : Addr} (h : H p = none) (o : HO) : Same H (L2.upd H p o) := fun b u q => by rw [upd_ne (ne_of_none q h)]; exact q
/-- the pool: three whole numbers -/
def PoolAt (H : Hp) (p : Addr) : Prop := ∃ a b c : Int, H p = some (.lst [.int a, .int b, .int c])
theorem Kp.tup {p q : Addr} {H H' : Hp} {xs : List V} {ys : List V} (k : Kp p H H') (hp : H p = some (.lst ys)) (h : H q = some (.tup xs)) : H' q = some (.tup xs) :=
  k q _ h (ne_of h hp (by intro z; cases z))
/-! ## numbers -/
theorem fmod_ok {a n : Int} (h : 0 < n) : 0 ≤ a.fmod n ∧ a.fmod n < n := ⟨Int.fmod_nonneg_of_pos a h, Int.fmod_lt_of_pos a h⟩
/-! ## texts -/
def Low (z : Str) : Prop := ∀ c ∈ z.cps.toList, 97 ≤ c ∧ c ≤ 122
def IsName (z : Str) : Prop := 1 ≤ z.length ∧ z.length ≤ 8 ∧ Low z
abbrev alpha : Str := "abcdefghijklmnopqrstuvwxyz"
theorem alpha_all : ∀ n : Fin 26, atI alpha.cps.toList ((n.val : Nat) : Int) = some (97 + n.val) := by decide +kernel
theorem alpha_at {i : Int} (h0 : 0 ≤ i) (h1 : i < 26) : ∃ c, atI alpha.cps.toList i = some c ∧ 97 ≤ c ∧ c ≤ 122 := by
  have e : i = ((i.toNat : Nat) : Int) := by omega
  have q := alpha_all ⟨i.toNat, by omega⟩
  rw [e]
  exact ⟨_, q, by simp, by simp; omega⟩
theorem low_nil : Low ("" : Str) := fun c h => by cases h
theorem low_app {x y : Str} (a : Low x) (b : Low y) : Low (x ++ y) := fun c h => by
  have h' : c ∈ (x.cps ++ y.cps).toList := h
  rw [Array.toList_append] at h'
  rcases List.mem_append.mp h' with q | q
  · exact a c q
  · exact b c q
theorem low_one {c : Nat} (h : 97 ≤ c ∧ c ≤ 122) : Low ⟨#[c]⟩ := fun d q => by
  have e : d = c := by simpa using q
  rw [e]; exact h
theorem low_cut {x : Str} (a : Low x) (lo hi : Option Int) : Low (cutS x lo hi) := fun c h => by
  have h' : c ∈ ((x.cps.toList.drop (HT.sIx x.length 0 lo)).take (HT.sIx x.length x.length hi - HT.sIx x.length 0 lo)) := by simpa [cutS] using h
  exact a c (List.mem_of_mem_drop (List.mem_of_mem_take h'))
theorem len_app (x y : Str) : (x ++ y).length = x.length + y.length := by
  show (x.cps ++ y.cps).size = _
  rw [Array.size_append]; rfl
theorem len_one (c : Nat) : (⟨#[c]⟩ : Str).length = 1 := rfl
theorem len_cut_lo (x : Str) (k : Nat) (h : k ≤ x.length) : (cutS x none (some (k : Int))).length = k := by
  have e : x.cps.toList.length = x.length := by simp [Str.length]
  show (((x.cps.toList.drop (HT.sIx x.length 0 none)).take (HT.sIx x.length x.length (some (k : Int)) - HT.sIx x.length 0 none)).toArray).size = k
  rw [HT.sIx_nat, HT.sIx_none, List.size_toArray, List.length_take, List.length_drop, e]
  omega
theorem len_cut_hi (x : Str) (k : Nat) (h : k ≤ x.length) : (cutS x (some (k : Int)) none).length = x.length - k := by
  have e : x.cps.toList.length = x.length := by simp [Str.length]
  show (((x.cps.toList.drop (HT.sIx x.length 0 (some (k : Int)))).take (HT.sIx x.length x.length none - HT.sIx x.length 0 (some (k : Int)))).toArray).size = _
  rw [HT.sIx_nat, HT.sIx_none, List.size_toArray, List.length_take, List.length_drop, e]
  omega
theorem isName_mk {b : Str} {c : Nat} {k : Int} (hb : Low b) (hl : b.length ≤ 7) (hc : 97 ≤ c ∧ c ≤ 122) (h0 : 0 ≤ k) (h1 : k ≤ b.length) :
    IsName (cutS b none (some k) ++ ⟨#[c]⟩ ++ cutS b (some k) none) := by
  obtain ⟨n, rfl⟩ : ∃ n : Nat, k = (n : Int) := ⟨k.toNat, by omega⟩
  have hn : n ≤ b.length := by omega
  refine ⟨?_, ?_, low_app (low_app (low_cut hb _ _) (low_one hc)) (low_cut hb _ _)⟩
  · rw [len_app, len_app, len_one]; omega
  · rw [len_app, len_app, len_one, len_cut_lo b n hn, len_cut_hi b n hn]; omega
/-- the list of the three names -/
def NamesAt (H : Hp) (q : Addr) : Prop := ∃ x y z : Str, H q = some (.lst [.str x, .str y, .str z]) ∧ IsName x ∧ IsName y ∧ IsName z
/-! ## statements -/
inductive Wd | take | commit | rollback | drop | leave
  deriving DecidableEq
def Wd.s : Wd → Str
  | .take => "take" | .commit => "commit" | .rollback => "rollback" | .drop => "drop" | .leave => "leave"
def Wd.held : Wd → Int → Int
  | .take, h => h + 1 | .commit, _ => 0 | .rollback, _ => 0 | .leave, _ => 0 | .drop, h => h
/-- lock (true), unlock -/
def lockS (b : Bool) : Str := if b then "lock" else "unlock"
inductive Stm
  | one (w : Wd)
  | nam (b : Bool) (n : Str)
  | ch (y n : List Stm)
mutual
def Stm.d : Stm → PyData
  | .one w => .tuple [.str w.s]
  | .nam b n => .tuple [.str (lockS b), .str n]
  | .ch y n => .tuple [.str "choose", .tuple (dAll y), .tuple (dAll n)]
def dAll : List Stm → List PyData
  | [] => []
  | s :: r => s.d :: dAll r
end
mutual
def Stm.cnt : Stm → Nat
  | .one _ => 1
  | .nam _ _ => 1
  | .ch y n => 1 + cntAll y + cntAll n
def cntAll : List Stm → Nat
  | [] => 0
  | s :: r => s.cnt + cntAll r
end
mutual
def Stm.held : Stm → Int → Int
  | .one w, h => w.held h
  | .nam _ _, h => h
  | .ch y n, h => max (heldAll y h) (heldAll n h)
def heldAll : List Stm → Int → Int
  | [], h => h
  | s :: r, h => heldAll r (s.held h)
end
mutual
/-- s is a good statement inside of d chooses, when h numbers are held -/
def Stm.ok : Nat → Stm → Int → Prop
  | _, .one w, h => w = .take → h ≠ 3
  | _, .nam _ n, _ => IsName n
  | d, .ch y n, h => d < 2 ∧ okAll (d + 1) y h ∧ okAll (d + 1) n h
def okAll : Nat → List Stm → Int → Prop
  | _, [], _ => True
  | d, s :: r, h => s.ok d h ∧ okAll d r (s.held h)
end
mutual
/-- the value v is the statement s -/
def Stm.at : Hp → V → Stm → Prop
  | H, v, .one w => ∃ a, v = .ref a ∧ H a = some (.tup [.str w.s])
  | H, v, .nam b n => ∃ a, v = .ref a ∧ H a = some (.tup [.str (lockS b), .str n])
  | H, v, .ch y n => ∃ a b c xs ys, v = .ref a ∧ H a = some (.tup [.str "choose", .ref b, .ref c]) ∧ H b = some (.tup xs) ∧ atAll H xs y ∧ H c = some (.tup ys) ∧ atAll H ys n
def atAll : Hp → List V → List Stm → Prop
  | _, xs, [] => xs = []
  | H, xs, s :: r => ∃ v vs, xs = v :: vs ∧ s.at H v ∧ atAll H vs r
end
/-- tuples stay -/
def TK (H H' : Hp) : Prop := ∀ a xs, H a = some (.tup xs) → H' a = some (.tup xs)
theorem TK.refl (H : Hp) : TK H H := fun _ _ h => h
theorem TK.trans {H H1 H2 : Hp} (a : TK H H1) (b : TK H1 H2) : TK H H2 := fun c o h => b c o (a c o h)
theorem TK.of_same {H H' : Hp} (s : Same H H') : TK H H' := fun a xs h => s a _ h
theorem Kp.tk {p : Addr} {H H' : Hp} {ys : List V} (k : Kp p H H') (hp : H p = some (.lst ys)) : TK H H' := fun a xs h => k.tup hp h
mutual
theorem Stm.at_keep {H H' : Hp} (k : TK H H') : ∀ (s : Stm) (v : V), s.at H v → s.at H' v
  | .one w, v, h => by
    unfold Stm.at at h ⊢
    obtain ⟨a, e, h⟩ := h
    exact ⟨a, e, k _ _ h⟩
  | .nam b n, v, h => by
    unfold Stm.at at h ⊢
    obtain ⟨a, e, h⟩ := h
    exact ⟨a, e, k _ _ h⟩
  | .ch y n, v, h => by
    unfold Stm.at at h ⊢
    obtain ⟨a, b, c, xs, ys, e, h1, h2, h3, h4, h5⟩ := h
    exact ⟨a, b, c, xs, ys, e, k _ _ h1, k _ _ h2, atAll_keep k y xs h3, k _ _ h4, atAll_keep k n ys h5⟩
theorem atAll_keep {H H' : Hp} (k : TK H H') : ∀ (B : List Stm) (xs : List V), atAll H xs B → atAll H' xs B
  | [], xs, h => h
  | s :: r, xs, h => by
    unfold atAll at h ⊢
    obtain ⟨v, vs, e, h1, h2⟩ := h
    exact ⟨v, vs, e, Stm.at_keep k s v h1, atAll_keep k r vs h2⟩
end
theorem atAll_len {H : Hp} : ∀ {B : List Stm} {xs : List V}, atAll H xs B → xs.length = B.length
  | [], xs, h => by unfold atAll at h; rw [h]; rfl
  | s :: r, xs, h => by
    unfold atAll at h
    obtain ⟨v, vs, e, h1, h2⟩ := h
    rw [e, List.length_cons, List.length_cons, atAll_len h2]
theorem atAll_get {H : Hp} : ∀ {B : List Stm} {xs : List V} {i : Nat} {s : Stm}, atAll H xs B → B[i]? = some s → ∃ v, xs[i]? = some v ∧ s.at H v
  | [], xs, i, s, h, e => by simp at e
  | t :: r, xs, 0, s, h, e => by
    unfold atAll at h
    obtain ⟨v, vs, e1, h1, h2⟩ := h
    have e2 : t = s := Option.some.inj e
    exact ⟨v, by rw [e1]; rfl, e2 ▸ h1⟩
  | t :: r, xs, i + 1, s, h, e => by
    unfold atAll at h
    obtain ⟨v, vs, e1, h1, h2⟩ := h
    obtain ⟨u, h3, h4⟩ := atAll_get (i := i) (s := s) h2 e
    exact ⟨u, by rw [e1]; exact h3, h4⟩
theorem atAll_app {H : Hp} : ∀ {B C : List Stm} {xs ys : List V}, atAll H xs B → atAll H ys C → atAll H (xs ++ ys) (B ++ C)
  | [], C, xs, ys, h, g => by unfold atAll at h; rw [h]; exact g
  | s :: r, C, xs, ys, h, g => by
    unfold atAll at h
    obtain ⟨v, vs, e, h1, h2⟩ := h
    rw [e]
    show atAll H (v :: (vs ++ ys)) (s :: (r ++ C))
    unfold atAll
    exact ⟨v, vs ++ ys, rfl, h1, atAll_app h2 g⟩
theorem atAll_one {H : Hp} {s : Stm} {v : V} (h : s.at H v) : atAll H [v] [s] := by
  unfold atAll
  exact ⟨v, [], rfl, h, by unfold atAll; rfl⟩
theorem atAll_drop {H : Hp} : ∀ {B : List Stm} {xs : List V} (n : Nat), atAll H xs B → atAll H (xs.drop n) (B.drop n)
  | B, xs, 0, h => h
  | [], xs, n + 1, h => by unfold atAll at h; rw [h]; rfl
  | s :: r, xs, n + 1, h => by
    unfold atAll at h
    obtain ⟨v, vs, e, h1, h2⟩ := h
    rw [e]
    exact atAll_drop n h2
theorem heldAll_app : ∀ (B C : List Stm) (h : Int), heldAll (B ++ C) h = heldAll C (heldAll B h)
  | [], C, h => rfl
  | s :: r, C, h => by
    show heldAll (s :: (r ++ C)) h = heldAll C (heldAll (s :: r) h)
    rw [heldAll, heldAll]
    exact heldAll_app r C _
theorem okAll_app : ∀ (d : Nat) (B C : List Stm) (h : Int), okAll d B h → okAll d C (heldAll B h) → okAll d (B ++ C) h
  | d, [], C, h, _, g => by rw [heldAll] at g; exact g
  | d, s :: r, C, h, f, g => by
    rw [okAll] at f
    rw [heldAll] at g
    show okAll d (s :: (r ++ C)) h
    rw [okAll]
    exact ⟨f.1, okAll_app d r C _ f.2 g⟩
theorem cntAll_app : ∀ (B C : List Stm), cntAll (B ++ C) = cntAll B + cntAll C
  | [], C => by rw [cntAll]; simp
  | s :: r, C => by
    show cntAll (s :: (r ++ C)) = _
    rw [cntAll, cntAll, cntAll_app r C]; omega
theorem cnt_pos (s : Stm) : 1 ≤ s.cnt := by
  cases s <;> rw [Stm.cnt] <;> omega
theorem len_le_cnt : ∀ (B : List Stm), B.length ≤ cntAll B
  | [] => Nat.zero_le _
  | s :: r => by
    have := cnt_pos s
    have := len_le_cnt r
    rw [cntAll, List.length_cons]; omega
/-! ## what the draws stand on: the pool p, the box b (what is left, what is held), the names q -/
def BoxAt (H : Hp) (b : Addr) (k h : Int) : Prop := H b = some (.lst [.int k, .int h, .int 3])
structure Dr (H : Hp) (p b q : Addr) (k h : Int) : Prop where
  pool : PoolAt H p
  box : BoxAt H b k h
  names : NamesAt H q
  npb : p ≠ b
  npq : p ≠ q
  nbq : b ≠ q
def K2 (p b : Addr) (H H' : Hp) : Prop := ∀ a o, H a = some o → a ≠ p → a ≠ b → H' a = some o
theorem K2.refl (p b : Addr) (H : Hp) : K2 p b H H := fun _ _ e _ _ => e
theorem K2.trans {p b : Addr} {H H1 H2 : Hp} (x : K2 p b H H1) (y : K2 p b H1 H2) : K2 p b H H2 := fun c o e n m => y c o (x c o e n m) n m
theorem Kp.k2 {p b : Addr} {H H' : Hp} (k : Kp p H H') : K2 p b H H' := fun a o e n _ => k a o e n
theorem K2.upd {p b : Addr} {H : Hp} {o : HO} : K2 p b H (L2.upd H b o) := fun a u e _ n => by rw [upd_ne n]; exact e
theorem K2.new {p b q : Addr} {H H' : Hp} {o : HO} (k : K2 p b H H') (n : H' q = none) : K2 p b H (L2.upd H' q o) := fun c u e m m' => by
  rw [upd_ne (ne_of_none (k c u e m m') n)]; exact k c u e m m'
theorem Dr.tk {H H' : Hp} {p b q : Addr} {k h : Int} (D : Dr H p b q k h) (x : K2 p b H H') : TK H H' := fun a xs e => by
  obtain ⟨_, _, _, hp⟩ := D.pool
  exact x a _ e (ne_of e hp (by intro z; cases z)) (ne_of e D.box (by intro z; cases z))
theorem Dr.draw {H H' : Hp} {p b q : Addr} {k h : Int} (D : Dr H p b q k h) (x : Kp p H H') (y : PoolAt H' p) : Dr H' p b q k h := by
  obtain ⟨a1, a2, a3, hq, n1, n2, n3⟩ := D.names
  exact ⟨y, x b _ D.box D.npb.symm, ⟨a1, a2, a3, x q _ hq D.npq.symm, n1, n2, n3⟩, D.npb, D.npq, D.nbq⟩
theorem Dr.put {H : Hp} {p b q : Addr} {k h k' h' : Int} (D : Dr H p b q k h) : Dr (L2.upd H b (.lst [.int k', .int h', .int 3])) p b q k' h' := by
  obtain ⟨a1, a2, a3, hq, n1, n2, n3⟩ := D.names
  obtain ⟨x, y, z, hp⟩ := D.pool
  exact ⟨⟨x, y, z, by rw [upd_ne D.npb]; exact hp⟩, upd_same, ⟨a1, a2, a3, by rw [upd_ne D.nbq.symm]; exact hq, n1, n2, n3⟩, D.npb, D.npq, D.nbq⟩
theorem Dr.new {H : Hp} {p b q a : Addr} {o : HO} {k h : Int} (D : Dr H p b q k h) (n : H a = none) : Dr (L2.upd H a o) p b q k h := by
  obtain ⟨a1, a2, a3, hq, n1, n2, n3⟩ := D.names
  obtain ⟨x, y, z, hp⟩ := D.pool
  exact ⟨⟨x, y, z, by rw [upd_ne (ne_of_none hp n)]; exact hp⟩, by unfold BoxAt; rw [upd_ne (ne_of_none D.box n)]; exact D.box, ⟨a1, a2, a3, by rw [upd_ne (ne_of_none hq n)]; exact hq, n1, n2, n3⟩, D.npb, D.npq, D.nbq⟩
theorem names_at {H : Hp} {q : Addr} (h : NamesAt H q) {r : Int} (r0 : 0 ≤ r) (r1 : r < 3) : ∃ xs n, H q = some (.lst xs) ∧ atI xs r = some (.str n) ∧ IsName n := by
  obtain ⟨a1, a2, a3, hq, n1, n2, n3⟩ := h
  have e : r = 0 ∨ r = 1 ∨ r = 2 := by omega
  rcases e with rfl | rfl | rfl
  · exact ⟨_, a1, hq, rfl, n1⟩
  · exact ⟨_, a2, hq, rfl, n2⟩
  · exact ⟨_, a3, hq, rfl, n3⟩
end Tk
set_option maxRecDepth 100000
/-! Own rules: enumerate over a tuple; .get of a written dict; o[i], x in o, len(o) by the text's own methods. -/
namespace PySem
section
variable {prog : Program} {w : World} {A : Around} {E : Value → Shared → Prop} {s : Shared}
abbrev tkE (j : Addr) : Obj := { cls := .type "enumerate", data := .fields #[.none, .bool false, .ref j, rawInt 0, .none, .none] }
theorem tk_new {v : Value} {o : Obj} {T : Heap → Prop} (B : Begins v o T) :
    Meets (Builtin.«enumerate.__new__» ⟨[.type "enumerate", v], []⟩) (fun _ R s => T s.heap ∧ R (.ok (.ret (.ref (s.heap.push o).objs.size))) { s with heap := (s.heap.push o).push (tkE s.heap.objs.size) }) :=
  .of_wp fun prog w A R s h => by
    obtain ⟨hp, g, d, tk, os⟩ := s
    obtain ⟨h1, h⟩ := h
    have hz := sub_enumerate
    have it1 : ∀ {A' : Around} {E' : Value → Shared → Prop} {Q' : Value → Shared → Prop}, Q' (.ref hp.objs.size) ⟨hp.push o, g, d, tk, os⟩ → wpAny (model prog w) A' (pyIter v) Q' E' ⟨hp, g, d, tk, os⟩ := fun z => B.iter prog w _ _ ⟨hp, g, d, tk, os⟩ _ h1 z
    wp_walk using it1
    refine wpAny_stack_any fun _ => wpAny_pure ?_
    split
    · rename_i c _ _ _ _ _
      cases (c == Value.type "enumerate") <;> (wp_walk using it1; exact ⟨_, rfl, h⟩)
    · wp_walk using it1
      exact ⟨_, rfl, h⟩
theorem tk_enum {v : Value} {o : Obj} {T : Heap → Prop} {Q : Value → Shared → Prop} (B : Begins v o T) (h1 : T s.heap)
    (h : ∀ h', IsEnum h' (s.heap.objs.size + 1) s.heap.objs.size 0 .none → h'.get? s.heap.objs.size = some o → (∀ b u, s.heap.get? b = some u → h'.get? b = some u) → Q (.ref (s.heap.objs.size + 1)) { s with heap := h' }) :
    wpAny (model prog w) A (call (.type "enumerate") [v]) Q E s := by
  have z1 : (s.heap.push o).objs.size = s.heap.objs.size + 1 := Heap.size_push ..
  refine callType_new F.called_enumerate (by decide) (F.typeCall_enumerate_1 _) (F.newCall_enumerate_1 _) (fun obj => F.args_object_init_2 obj _) F.entry_enumerate_new (tk_new B) (And.intro h1 ?_)
  show _ ∧ _
  rw [z1]
  have q : ((s.heap.push o).push (tkE s.heap.objs.size)).get? (s.heap.push o).objs.size = some (tkE s.heap.objs.size) := Heap.get?_push_size _ rfl
  rw [z1] at q
  exact And.intro ⟨_, q, rfl⟩ (h _ q (Heap.get?_push_of_some _ (Heap.get?_push_size _ B.free)) fun b u y => Heap.get?_push_of_some _ (Heap.get?_push_of_some _ y))
end
end PySem
namespace L2
open PySem PySem.Spec PyProof.Rows
/-- the tuple at a, each item in a new pair with its number -/
def IteT (K : PySem.W.Frag) (a : Addr) : It where
  go := fun i H => ∃ (xs : List V) (x : V), SqT K H a xs ∧ xs[i]? = some x
  yld := fun i H v H' => ∃ T x, v = .ref T ∧ H T = none ∧ H' = upd H T (.tup [.int (i : Nat), x]) ∧ ∀ xs, SqT K H a xs → xs[i]? = some x
  stop := fun i H => ∃ xs : List V, SqT K H a xs ∧ xs.length = i
theorem tk_turn {P : Program} {w : World} {K : PySem.W.Frag} {elts : List Expr} {kk : Nat} {tp : Pos} (a e j : Addr) (n1 : a ≠ j) (n2 : e ≠ a) (n3 : e ≠ j) :
    Turn P w K (.Tuple elts kk tp) (IteT K a) [e, j] e (fun i h => (∃ old, IsEnum h e j ((i : Nat) : Int) old) ∧ h.IsTupleIter j a i) := by
  have two : ∀ b, b ∈ [e, j] → b = e ∨ b = j := fun b hb => by simpa using hb
  refine { mem := by simp, obj := ?_, keep := ?_, item := ?_, done := ?_, self := fun A i s Q E st h => wpAny_pyIter_enum st.1.choose_spec h }
  · intro i h st b hb
    obtain ⟨⟨old, he⟩, ⟨o, ho, _, hd⟩⟩ := st
    rcases two b hb with rfl | rfl
    · exact ⟨_, he, fun v q => nomatch q⟩
    · exact ⟨o, ho, fun v q => by rw [hd] at q; cases q⟩
  · intro i h h' st k
    obtain ⟨⟨old, he⟩, hi⟩ := st
    exact ⟨⟨old, k e (by simp) _ he⟩, hi.at fun o q => k j (by simp) o q⟩
  · intro X hP hw hK hc i pins s σ H E I hf st hg
    subst hP hw hK
    obtain ⟨⟨old, he⟩, hj⟩ := st
    obtain ⟨xs, x, hq, hx⟩ := hg
    obtain ⟨its, rv, p, hz⟩ := I.tuple hq
    obtain ⟨u, hu, ru⟩ := rv.get hx
    have szE : e < s.heap.objs.size := Heap.lt_size he
    have szJ : j < s.heap.objs.size := by obtain ⟨_, q, _⟩ := hj; exact Heap.lt_size q
    have hu2 : its.toArray[i]? = some u := by simpa using hu
    have hlt : i < its.toArray.size := by
      rcases Nat.lt_or_ge i its.toArray.size with z | z
      · exact z
      · rw [Array.getElem?_eq_none z] at hu2; cases hu2
    refine wpAny_pyNext_enum_itemD (Draws.tuple (show X.A.in1.handled = none from I.ok.hd hc) j a n1 its.toArray) he ⟨hj, p⟩ hlt n3 (fun z => by
      rcases List.mem_cons.mp z with z | z
      · exact n3 z
      · exact n2 (by simpa using z)) (fun y h' tk py ho st' hT hsz hk => ?_)
    have ey : y = u := Option.some.inj (py.symm.trans hu2)
    subst ey
    refine ⟨_, rfl, wpAny_letOwnedTupleGo_enum (s := { s with heap := h', toks := tk + 1 }) ho fun h'' he' sb => ?_⟩
    have gT : h''.get? s.heap.objs.size = some { cls := .type "tuple", data := .seq #[.int i tk, y] } := (sb.2 _ (Nat.ne_of_gt szE)).trans hT
    have nw : ObjOk X.prog X.w (upd H s.heap.objs.size (.tup [.int (i : Nat), x])) h'' s.heap.objs.size (.tup [.int (i : Nat), x]) :=
      ⟨by show 2 ≤ sizeLine; decide, [.int i tk, y], .cons ⟨_, rfl⟩ (.cons ru .nil), _, gT, rfl, _, rfl⟩
    have I1 : Inv X pins σ (upd H s.heap.objs.size (.tup [.int (i : Nat), x])) { s with heap := h'', toks := tk + 1 } :=
      I.turnedNew (ch := [e, j]) (fun b ob hb q => (sb.2 b fun z => hb (by simp [z])).trans (hk b ob (fun z => hb (by simp [z])) (fun z => hb (by simp [z])) q)) hf (Nat.le_refl _) nw
    refine ⟨.ref s.heap.objs.size, _, I1, rfl, ⟨_, x, rfl, I.hok.fresh (Nat.le_refl _), rfl, fun ys hy => by rw [I.tuple_inj hy hq]; exact hx⟩, ⟨⟨y, ?_⟩, st'.1.at fun o q => (sb.2 j n3.symm).trans q⟩, fun b hb => ?_⟩
    · have e1 : (i : Int) + 1 = ((i + 1 : Nat) : Int) := by omega
      rw [← e1]
      exact he'
    · have lb : b < s.heap.objs.size := by
        rcases two b hb with rfl | rfl
        · exact szE
        · exact szJ
      rw [upd_ne (Nat.ne_of_lt lb)]
      exact (hf b hb).1
  · intro X hP hw hK hc i pins s σ H E I hf st hg
    subst hP hw hK
    obtain ⟨⟨old, he⟩, hj⟩ := st
    obtain ⟨xs, hq, hx⟩ := hg
    obtain ⟨its, rv, p, hz⟩ := I.tuple hq
    obtain ⟨f0, f1, f2, f3, f4, f5⟩ := hf j (by simp)
    have hl : i = its.toArray.size := by rw [List.size_toArray, ← rv.length]; exact hx.symm
    subst hl
    exact wpAny_pyNext_enum_endD (Draws.tuple (show X.A.in1.handled = none from I.ok.hd hc) j a n1 its.toArray) he ⟨hj, p⟩ fun h' eb => ⟨rfl, I.turned (t' := s.toks) (fun b o hb q => eb b o hb q) f0 f1 f3 f4 f5⟩
/-- for i, x in enumerate(t), t a tuple -/
def iEnumT (K : PySem.W.Frag) (ta : TA) : TI := fun σ H R => ta σ H fun vs H1 => ∃ a xs, vs = [.ref a] ∧ SqT K H1 a xs ∧ R (IteT K a) H1
theorem pi_enumT {X : Cx} {e : Expr} {ta : TA} {p pos tp : Pos} {elts : List Expr} {kk : Nat} (hg : Gl X "enumerate") (hm : X.mg "enumerate" = none) (ha : PA X [e] ta) (hs : starEach [e] X.env = [(false, eval e X.env)] := by rfl) :
    PI X (.Tuple elts kk tp) (.Call (.Name "enumerate" p) [e] [] pos) (iEnumT X.K ta) := by
  refine ⟨fun pins s σ H R I h => ?_⟩
  refine Call_ (ld_blt I hg hm boot_enumerate (PyProof.Rows.callWith_type1 (thn (ha.run pos pins s σ H _ I h) fun us s1 q0 => ?_) hs rfl))
  obtain ⟨vs, H1, I1, r1, a, xs, ex, hq, q⟩ := q0
  subst ex
  cases r1 with
  | cons r rr =>
    cases rr
    cases r
    obtain ⟨its, rv, p', hz⟩ := I1.tuple hq
    have la : a < s1.heap.objs.size := by obtain ⟨_, z, _⟩ := p'; exact Heap.lt_size z
    refine tk_enum (begins_tuple a its.toArray) p' fun h' he hit hk => wpAny_pyIter_enum he ?_
    have I2 : Inv X pins σ H1 { s1 with heap := h' } := I1.kept (t' := s1.toks) hk
    refine ⟨s1.heap.objs.size + 1, [s1.heap.objs.size + 1, s1.heap.objs.size], _, _, H1, rfl, I2, tk_turn a (s1.heap.objs.size + 1) s1.heap.objs.size (Nat.ne_of_lt la) (Nat.ne_of_gt (Nat.lt_succ_of_lt la)) (Nat.succ_ne_self _), ⟨⟨.none, he⟩, ⟨_, hit, rfl, rfl⟩⟩, fun b hb => ?_, q⟩
    have two : b = s1.heap.objs.size + 1 ∨ b = s1.heap.objs.size := by simpa using hb
    have le : s1.heap.objs.size ≤ b := two.elim (fun z => z ▸ Nat.le_succ _) (fun z => z ▸ Nat.le_refl _)
    exact I1.fpOk le (I1.hok.fresh le)
/-- the reading of such a loop -/
theorem for_enumT {K : PySem.W.Frag} {a : Addr} {xs : List V} {g : TG} {tb : TS} {D : Ends} {σ : St} {H : Hp} (Pv : Nat → St → Hp → Prop) (h0 : Pv 0 σ H) (hl : ∀ i σ H, i ≤ xs.length → Pv i σ H → SqT K H a xs)
    (hs : ∀ i x T σ H, xs[i]? = some x → Pv i σ H → H T = none → g (.ref T) σ (upd H T (.tup [.int (i : Nat), x])) fun σ2 H2 => tb { D with nx := Pv (i + 1), ct := Pv (i + 1), bk := D.nx } σ2 H2) (hd : ∀ σ H, Pv xs.length σ H → D.nx σ H) :
    ∃ W : Nat → Nat → St → Hp → Prop, (∃ m, W 0 m σ H) ∧ ∀ i m σ H, W i m σ H → ((IteT K a).stop i H ∧ D.nx σ H) ∨ ((IteT K a).go i H ∧ ∃ N : St → Hp → Prop, (∀ σ' H', N σ' H' → ∃ m', m' < m ∧ W (i + 1) m' σ' H') ∧
      ∀ x H', (IteT K a).yld i H x H' → g x σ H' fun σ2 H2 => tb { D with nx := N, ct := N, bk := D.nx } σ2 H2) := by
  refine ⟨fun i m σ H => m = xs.length - i ∧ i ≤ xs.length ∧ Pv i σ H, ⟨xs.length, by simp, Nat.zero_le _, h0⟩, ?_⟩
  rintro i m σ H ⟨rfl, hi, p⟩
  have q := hl i σ H hi p
  by_cases lt : i < xs.length
  · refine .inr ⟨⟨xs, xs[i], q, by simp [lt]⟩, Pv (i + 1), fun σ' H' p' => ⟨xs.length - (i + 1), by omega, rfl, lt, p'⟩, ?_⟩
    rintro x H' ⟨T, y, rfl, hT, rfl, hy⟩
    exact hs i y T σ H (hy xs q) p hT
  · have e : i = xs.length := by omega
    exact .inl ⟨⟨xs, q, e.symm⟩, hd σ H (e ▸ p)⟩
/-! ### the text's own methods by signs -/
section
variable {X : Cx} {CX : CXT} {k n : Nat} {C f : Addr} {fd : FuncData} {ps : List Str} {sp : Sp} {E : XK}
/-- a def called somewhere below the running body -/
theorem tk_run {A : Around} {pins : List (Addr × Obj)} {σ : St} {H : Hp} {s : Shared} {Q : VK} {us : List Value} {vs : List V} (sb : Sub X k A) (F : FnOk X.prog X.w X.K X.mg X.base CX k f fd ps sp) (hb : Binds X.K fd ps []) (hx : Passes CX X E)
    (I : Inv X pins σ H s) (r : Vals vs us) (h : sp vs H Q E) : wpAny (model X.prog X.w) A (call (.ref f) us) (EP X pins σ Q) X.xe s := by
  have e := I.env0
  have e0 : Env0 X.prog X.w X.K X.mg X.base A X.stack s H := ⟨by rw [sb.fr]; exact e.frames, e.mod, e.bs, e.bsz, e.funs, e.frf, e.hok, e.bare⟩
  have hl : us.length = ps.length := r.length.symm.trans (F.len _ _ _ _ h)
  have bd := hb s us I.kIn (by simpa using hl)
  refine wpAny_call (codeAny_mono (F.run A X.stack s H ⟨us, []⟩ us vs Q E sb.room e0 (by simpa using bd) r h) fun res s' hq => ?_)
  match res, hq with
  | .error e, hq => exact hx pins σ H s e s' I hq
  | .ok (.ret u), hq => exact I.after hq
/-- what stands in the class C as the method m -/
structure OwnM (K : PySem.W.Frag) (C : Addr) (m : Str) (f : Addr) : Prop where
  at_ : PySem.W.findIn K (.ref C) m = some (some (.ref f))
  fn : PySem.W.isFn K (.ref f) = true
theorem ownInst {pins : List (Addr × Obj)} {σ : St} {H : Hp} {s : Shared} {a dx : Addr} {fs : List (Str × V)} (I : Inv X pins σ H s) (ha : H a = some (.ins C dx fs)) : ∃ ox od, PySem.W.InstAt s.heap a ox C od := by
  obtain ⟨mA, J, _⟩ := ins_get I.hok ha
  obtain ⟨od, J, _⟩ := J.look
  exact ⟨_, _, J⟩
def rOwn2 (C : Addr) (sp : Sp) (E : XK) : R2 := fun x y H Q => ∃ a dx fs, x = .ref a ∧ H a = some (.ins C dx fs) ∧ sp [.ref a, y] H Q E
/-- o[i] by the class's own __getitem__ -/
theorem ix_own {value slice : Expr} (M : OwnM X.K C "__getitem__" f) (hf : PySem.W.fnIn X.K f = true) (F : FnOk X.prog X.w X.K X.mg X.base CX k f fd ps sp) (hr : Room (k + 1) X.A) (hb : Binds X.K fd ps []) (hx : Passes CX X E)
    {a b : Expr} {ta tb : TE} {pos : Pos} (ha : PE X a ta) (hb2 : PE X b tb) (hs : ∀ o i, subscripted b true o i = runValue (.builtin "lifetime.subscript" ⟨[o, i], []⟩)) : PE X (.Subscript a b pos) (tOp (rOwn2 C sp E) ta tb) := by
  refine ⟨fun pins s σ H Q I h => ?_⟩
  refine Subscript_ (binT ha hb2 I h fun v u s2 x y H2 I2 rx ry q => ?_)
  obtain ⟨p, dx, fs, rfl, hp, q⟩ := q
  obtain rfl : v = Value.ref p := rx
  obtain ⟨ox, od, J⟩ := ownInst I2 hp
  obtain ⟨m, hF⟩ := I2.fr
  refine PySem.W.sub_K hF I2.ok.mod.kin J M.at_ hf M.fn ?_ (hs _ _)
  exact tk_run ⟨hr.in1, rfl⟩ F hb hx I2 (.cons (show RelV (.ref p) (.ref p) from rfl) (.cons ry .nil)) q
def rOwnIn (C : Addr) (sp : Sp) (E : XK) (neg : Bool) : R2 := fun y x H Q => ∃ a dx fs, x = .ref a ∧ H a = some (.ins C dx fs) ∧ sp [.ref a, y] H (fun v H' => ∃ c, v = .bl c ∧ Q (.bl (if neg then !c else c)) H') E
/-- y in o by the class's own __contains__ -/
theorem op_inOwn (M : OwnM X.K C "__contains__" f) (F : FnOk X.prog X.w X.K X.mg X.base CX k f fd ps sp) (hr : Room k X.A) (hb : Binds X.K fd ps []) (hx : Passes CX X E) : OpR X (compareOp .In) (rOwnIn C sp E false) := by
  intro pins s σ H y x u v Q I ry rx h
  obtain ⟨p, dx, fs, rfl, hp, q⟩ := h
  obtain rfl : v = Value.ref p := rx
  obtain ⟨ox, od, J⟩ := ownInst I hp
  obtain ⟨m, hF⟩ := I.fr
  refine PySem.W.in_K hF I.ok.mod.kin J M.at_ M.fn (thn (tk_run ⟨hr, rfl⟩ F hb hx I (.cons (show RelV (.ref p) (.ref p) from rfl) (.cons ry .nil)) q) fun r s' hq => ?_)
  obtain ⟨z, H', I', rz, c, rfl, q'⟩ := hq
  cases rz
  exact wpAny_truthy_bool ⟨.bl c, H', I', rfl, q'⟩
theorem op_notInOwn (M : OwnM X.K C "__contains__" f) (F : FnOk X.prog X.w X.K X.mg X.base CX k f fd ps sp) (hr : Room k X.A) (hb : Binds X.K fd ps []) (hx : Passes CX X E) : OpR X (compareOp .NotIn) (rOwnIn C sp E true) := by
  intro pins s σ H y x u v Q I ry rx h
  obtain ⟨p, dx, fs, rfl, hp, q⟩ := h
  obtain rfl : v = Value.ref p := rx
  obtain ⟨ox, od, J⟩ := ownInst I hp
  obtain ⟨m, hF⟩ := I.fr
  refine PySem.W.notIn_K hF I.ok.mod.kin J M.at_ M.fn (thn (tk_run ⟨hr, rfl⟩ F hb hx I (.cons (show RelV (.ref p) (.ref p) from rfl) (.cons ry .nil)) q) fun r s' hq => ?_)
  obtain ⟨z, H', I', rz, c, rfl, q'⟩ := hq
  cases rz
  exact wpAny_truthy_bool ⟨.bl (!c), H', I', rfl, q'⟩
/-- len(o) by the class's own __len__ -/
theorem call_lenOwn (M : OwnM X.K C "__len__" f) (F : FnOk X.prog X.w X.K X.mg X.base CX k f fd ps sp) (hr : Room (k + 1) X.A) (hb : Binds X.K fd ps []) (hx : Passes CX X E) :
    CallR X (.builtin "len") (fun xs H Q => ∃ a dx fs, xs = [.ref a] ∧ H a = some (.ins C dx fs) ∧ sp [.ref a] H (fun v H' => ∃ i : Int, v = .int i ∧ 0 ≤ i ∧ i < 2 ^ 63 ∧ Q v H') E) := by
  intro pins s σ H xs us Q I r h
  obtain ⟨p, dx, fs, rfl, hp, q⟩ := h
  obtain ⟨u, rfl, rx⟩ := vals1 r
  obtain rfl : u = Value.ref p := rx
  obtain ⟨ox, od, J⟩ := ownInst I hp
  obtain ⟨m, hF⟩ := I.fr
  refine PySem.W.len_K hF I.ok.mod.kin J M.at_ M.fn (thn (tk_run ⟨hr.in1, rfl⟩ F hb hx I (.cons (show RelV (.ref p) (.ref p) from rfl) .nil) q) fun r s' hq => ?_)
  obtain ⟨z, H', I', rz, i, rfl, i0, i1, q'⟩ := hq
  obtain ⟨t, rfl⟩ := rz
  refine ⟨⟨i0, i1⟩, ⟨.int i, H', I'.tok _, ⟨_, rfl⟩, q'⟩⟩
end
/-! ### .get of a written dict -/
def KG (K : PySem.W.Frag) (w : World) (a : Addr) (x : Str) (v : V) : Prop := KDct K w a x v ∧ (a == sysModules) = false
def tKGet (K : PySem.W.Frag) (w : World) (td ty : TE) : TE := fun σ H Q => td σ H fun x H1 => ty σ H1 fun y H2 => ∃ a z v, x = .ref a ∧ y = .str z ∧ KG K w a z v ∧ Q v H2
theorem pe_kget {X : Cx} {o e : Expr} {td ty : TE} {apos cpos : Pos} (ho : PE X o td) (he : PE X e ty) (hd : ∀ σ H Q, td σ H Q → td σ H fun x H1 => (∃ a oc es n, x = V.ref a ∧ X.K.lookup a = some oc ∧ oc = ⟨.type "dict", none, .dict es n, #[]⟩) ∧ Q x H1) (m : M1 X o "get" apos e cpos) :
    PE X (.Call (.Attribute o "get" apos) [e] [] cpos) (tKGet X.K X.w td ty) := by
  refine ⟨fun pins s σ H Q I h => ?_⟩
  refine wpAny_Call_method m.base m.few m.line PySem.F.plainAttrs_dict PySem.F.slot_dict_get PySem.F.type_dict_get (thn (ho.run pins s σ H _ I (hd _ _ _ h)) fun u s1 q0 => ?_)
  obtain ⟨x, H1, I1, rx, ⟨a, oc, es, n, rfl, lk, rfl⟩, q1⟩ := q0
  obtain rfl : u = Value.ref a := rx
  have ga := I1.kIn _ _ lk
  refine ⟨⟨_, ga, rfl⟩, fun b q => by cases q; exact ⟨_, ga, rfl⟩, ?_⟩
  rw [m.trees]
  refine Calls.callWith_builtin rfl (Calls.evalArgs_plain (Calls.spliced_cons (thn (he.run pins s1 σ H1 _ I1 q1) fun iv s2 q2 => Calls.spliced_nil ?_)))
  obtain ⟨y, H2, I2, ry, a', z, v, ea, rfl, ⟨⟨es', n', u0, hl, hk, e1, ru⟩, hs⟩, q2⟩ := q2
  cases ea
  obtain ⟨t, rfl⟩ := ry
  have mo := PySem.W.mapOf_K (prog := X.prog) (w := X.w) I2.kIn hl hk
  refine call_meetsIn PySem.F.slot_dict_get mo.typeIs PySem.F.entry_dict_get (PySem.F.args_dict_get_2 _ _) (meets_dict_get (strKind X.prog X.w) a (strKind_is X.prog X.w z t) hs) ⟨_, mo, ?_⟩
  rw [PySem.W.find_K hl e1]
  exact ⟨v, H2, I2.tok _, ru, q2⟩
end L2
set_option maxRecDepth 100000
namespace L2
open PySem PySem.Spec PyProof.Rows
/-! ### a class's own methods, where an error may come out -/
section
variable {X : Cx} {CX : CXT} {k n : Nat} {C f : Addr} {fd : FuncData} {ps : List Str} {sp : Sp} {E : St → XK}
theorem tk_runS {A : Around} {pins : List (Addr × Obj)} {σ : St} {H : Hp} {s : Shared} {Q : VK} {us : List Value} {vs : List V} (sb : Sub X k A) (F : FnOk X.prog X.w X.K X.mg X.base CX k f fd ps sp) (hb : Binds X.K fd ps []) (hx : PassesAt CX X σ (E σ))
    (I : Inv X pins σ H s) (r : Vals vs us) (h : sp vs H Q (E σ)) : wpAny (model X.prog X.w) A (call (.ref f) us) (EP X pins σ Q) X.xe s := by
  have e := I.env0
  have e0 : Env0 X.prog X.w X.K X.mg X.base A X.stack s H := ⟨by rw [sb.fr]; exact e.frames, e.mod, e.bs, e.bsz, e.funs, e.frf, e.hok, e.bare⟩
  have hl : us.length = ps.length := r.length.symm.trans (F.len _ _ _ _ h)
  have bd := hb s us I.kIn (by simpa using hl)
  refine wpAny_call (codeAny_mono (F.run A X.stack s H ⟨us, []⟩ us vs Q (E σ) sb.room e0 (by simpa using bd) r h) fun res s' hq => ?_)
  match res, hq with
  | .error e, hq => exact hx pins H s e s' I hq
  | .ok (.ret u), hq => exact I.after hq
/-- o[i] by the class's own __getitem__, which may raise -/
def tIxS (C : Addr) (sp : Sp) (E : St → XK) (ta tb : TE) : TE := fun σ H Q => ta σ H fun x H1 => tb σ H1 fun y H2 => rOwn2 C sp (E σ) x y H2 Q
theorem ix_ownS {value slice : Expr} (M : OwnM X.K C "__getitem__" f) (hf : PySem.W.fnIn X.K f = true) (F : FnOk X.prog X.w X.K X.mg X.base CX k f fd ps sp) (hr : Room (k + 1) X.A) (hb : Binds X.K fd ps []) (hx : ∀ σ, PassesAt CX X σ (E σ))
    {a b : Expr} {ta tb : TE} {pos : Pos} (ha : PE X a ta) (hb2 : PE X b tb) (hs : ∀ o i, subscripted b true o i = runValue (.builtin "lifetime.subscript" ⟨[o, i], []⟩)) : PE X (.Subscript a b pos) (tIxS C sp E ta tb) := by
  refine ⟨fun pins s σ H Q I h => ?_⟩
  refine Subscript_ (binT ha hb2 I h fun v u s2 x y H2 I2 rx ry q => ?_)
  obtain ⟨p, dx, fs, rfl, hp, q⟩ := q
  obtain rfl : v = Value.ref p := rx
  obtain ⟨ox, od, J⟩ := ownInst I2 hp
  obtain ⟨m, hF⟩ := I2.fr
  refine PySem.W.sub_K hF I2.ok.mod.kin J M.at_ hf M.fn ?_ (hs _ _)
  exact tk_runS ⟨hr.in1, rfl⟩ F hb (hx σ) I2 (.cons (show RelV (.ref p) (.ref p) from rfl) (.cons ry .nil)) q
end
/-! ### an error class with one field -/
structure Ecl (K : PySem.W.Frag) (mg : Str → Option Value) (nm f : Str) (C fI : Addr) : Prop where
  gC : mg nm = some (.ref C)
  ox : OexC K C
  iC : PySem.W.findIn K (.ref C) "__init__" = some (some (.ref fI))
  tI : PySem.W.typeIn K (.ref fI) = some (.type "function")
  noF : PySem.W.findIn K (.ref C) f = some none
  xf : XfC K C
  cl : (PySem.W.clsIn K C).isSome = true
  ha : PySem.W.findIn K (.ref C) "__class__" = some (some (.builtin "object.__class__"))
  hn : PySem.W.specialIn K (.builtin "object.__class__") "__get__" = some (some (.builtin "getset_descriptor.__get__"))
  ht : PySem.W.takesIn K (.builtin "object.__class__") = some true
  hm : PySem.W.mroIn K C (.type "object") = some true
  te : PySem.W.exmOne K (.ref C) (.ref C) = some true
/-- what such an __init__ promises -/
def spEI (C : Addr) (f : Str) : Sp := fun vs H Q _ => ∃ (a : Addr) (v : V), vs = [.ref a, v] ∧ H a = some (exo a C none) ∧ ∀ dx, H dx = none → dx ≠ a → Q .non (upd (upd H dx (exd dx [(f, v)])) a (exo a C (some dx)))
/-- raise C(e) -/
theorem ps_raise1 {X : Cx} {W : WX} {nm f : Str} {C fI : Addr} {fd : FuncData} {ps : List Str} {e : Expr} {es : List Expr} {ta : TA} {p pos ppos : Pos} (hc : X.calm = true) (tk : Takes X W) (T : Ecl X.K X.mg nm f C fI) (F1 : FnOk X.prog X.w X.K X.mg X.base CX0 1 fI fd ps (spEI C f)) (hr : Room 2 X.A) (hb : Binds X.K fd ps [])
    (hg : Gl X nm) (ha : PA X (e :: es) ta) (hdb : (nm == ("__debug__" : Str)) = false := by decide) (he : starEach (e :: es) X.env = (false, eval e X.env) :: starEach es X.env := by rfl) (hpl : (backTo pos (starEach es X.env)).any (·.1) = false := by rfl) :
    PS X (.Raise (some (.Call (.Name nm p) (e :: es) [] pos)) none ppos) (fun _ σ H => tMkO C (spEI C f) [] ta σ H fun cls d H' => W cls d σ H') :=
  ps_raise (pos := ppos) hc tk (pmk_oex T.ox T.iC T.tI F1 hr hb .nil pass0 hg T.gC ha hdb he hpl)
theorem made1 {C : Addr} {f : Str} {v : V} {H1 : Hp} {Q : XK} (q : ∀ d, H1 d = none → Q (.ref C) (some d) (upd H1 d (.xd [(f, v)]))) : [v].length ≤ 1000 ∧ ∀ a, H1 a = none → spEI C f (.ref a :: ([v] ++ [])) (upd H1 a (exo a C none))
    (fun v H2 => v = .non ∧ ∃ (d : Addr) (fs : List (Str × V)), H2 a = some (exo a C (some d)) ∧ H2 d = some (exd d fs) ∧ H1 d = none ∧ Q (.ref C) (some d) (upd (del H2 a) d (.xd fs))) (fun _ _ _ => False) := by
  refine ⟨(by show 1 ≤ 1000; decide), fun a ha => ⟨a, v, rfl, upd_same, fun dx hd ne => ⟨rfl, dx, _, upd_same, by rw [upd_ne ne, upd_same], by rw [upd_ne ne] at hd; exact hd, ?_⟩⟩⟩
  have hd' : H1 dx = none := by rw [upd_ne ne] at hd; exact hd
  have e : upd (del (upd (upd (upd H1 a (exo a C none)) dx (exd dx [(f, v)])) a (exo a C (some dx))) a) dx (.xd [(f, v)]) = upd H1 dx (.xd [(f, v)]) := by
    funext b
    by_cases h1 : b = dx
    · rw [h1, upd_same, upd_same]
    · rw [upd_ne h1, upd_ne h1]
      by_cases h2 : b = a
      · rw [h2, del_same, ha]
      · rw [del_ne h2, upd_ne h2, upd_ne h1, upd_ne h2]
  rw [e]
  exact q dx hd'
/-- isinstance(e, c), e the caught error with its dict -/
def rIsX (K : PySem.W.Frag) (a : Addr) (cls : Value) (d : Option Addr) (D : Addr) : List V → Hp → VK → Prop := fun xs H Q => ∃ (c : V) (cv : Value) (b : Bool) (dd : Addr) (fs : List (Str × V)), cls = .ref D ∧ d = some dd ∧ H dd = some (.xd fs) ∧ xs = [.ref a, c] ∧ (∀ u, RelV c u → u = cv) ∧ PySem.W.kitOne K (.ref D) cv = some b ∧ Q (.bl b) H
theorem call_isX {X : Cx} {a D : Addr} {cls : Value} {d : Option Addr} {nm f : Str} {fI : Addr} {mg : Str → Option Value} {oe : Obj} {pn : List (Addr × Obj)} (T : Ecl X.K mg nm f D fI) (hz : Zc cls d oe) (hf : ∃ vs, oe.data = .fields vs) :
    CallR (X.suite a ((a, oe) :: pn)) (.builtin "isinstance") (rIsX X.K a cls d D) := by
  rintro pins s σ H xs us Q I r ⟨c, cv, b, dd, fs, rfl, rfl, ea, rfl, hcv, e, q⟩
  obtain ⟨u1, u2, rfl, r1, r2⟩ : ∃ u1 u2, us = [u1, u2] ∧ RelV (.ref a) u1 ∧ RelV c u2 := by
    cases r with
    | cons p1 t1 => cases t1 with
      | cons p2 t2 => cases t2; exact ⟨_, _, rfl, p1, p2⟩
  obtain rfl : u1 = Value.ref a := r1
  rw [hcv u2 r2]
  have own := (I.pin (a, oe) (List.mem_append_left _ List.mem_cons_self)).1
  obtain ⟨vs, isF⟩ := hf
  obtain ⟨mA, named, _⟩ := show ObjOk X.prog X.w H s.heap dd (.xd fs) from I.hok dd _ ea
  obtain ⟨od, at_, _⟩ := lookIn_ns named
  have J : PySem.W.InstAt s.heap a oe D (some od) := by
    refine ⟨own, hz.1, ?_, by rw [hz.2]; exact at_⟩
    unfold PySem.W.notCls
    rw [isF] <;> rfl
  have kit := PySem.W.kitx_exc (x := a) (ox := oe) (od := some od) T.cl T.xf.ga T.xf.gg T.xf.exC T.ha T.hn T.ht T.hm
  exact PySem.W.kia_one kit I.kIn J e (fun z => nomatch z) fun tk => ⟨.bl b, H, I.kept (t' := tk) fun _ _ z => z, rfl, q⟩
/-- x == x, for data and for empty dicts -/
def Slf (K : PySem.W.Frag) (H : Hp) (v : V) : Prop := (∃ d, Dp K H v d ∧ SeqAt.shaped d = true ∧ PyData.eqv d d = true) ∨ ∃ a, v = .ref a ∧ H a = some (.dK [])
def rSlf (K : PySem.W.Frag) : R2 := fun x y H Q => x = y ∧ Slf K H x ∧ Q (.bl true) H
theorem op_slf {X : Cx} (hu : X.A.units + 64 < cLine) : OpR X (compareOp .Eq) (rSlf X.K) := by
  intro pins s σ H x y v u Q I rx ry h
  obtain ⟨rfl, h, q⟩ := h
  rcases h with ⟨d, h1, h2, h3⟩ | ⟨a, rfl, h⟩
  · exact op_eqD hu pins s σ H x x v u Q I rx ry ⟨d, d, h1, h1, h2, h2, by rw [h3]; exact q⟩
  · exact op_eqV hu pins s σ H _ _ v u Q I rx ry ⟨1, by decide, .inr ⟨a, a, [], [], rfl, rfl, h, h, rfl, fun p hp => nomatch hp⟩, q⟩
end L2
set_option maxRecDepth 100000
namespace Tk
open PySem L2
def top (i : Nat) : Stmt := PySem.Challenge.pw_takenahead_k78_words_that_are_no_steps.main.body.getD i (.Pass ⟨0, 0, 0, 0⟩)
abbrev sBox : Stmt := top 10
abbrev sPick : Stmt := top 11
/-- the built-in names that the program reads -/
structure Bl (mg : Str → Option Value) : Prop where
  len : mg "len" = none
  int : mg "int" = none
theorem iteFb {c : Bool} {A B : Prop} (e : c = false) (h : B) : if c = true then A else B := by rw [e]; exact iteF h
theorem iteTb {c : Bool} {A B : Prop} (e : c = true) (h : A) : if c = true then A else B := by rw [e]; exact iteT h
def spBox (K : PySem.W.Frag) : Sp := fun vs H Q _ => ∃ (a : Addr) (ns : List Int) (k : Int), vs = [.ref a, .int k] ∧ SqL K H a (ns.map V.int) ∧ 0 ≤ k ∧
  ∀ (p : Addr) (H' : Hp), H p = none → Same H H' → PoolAt H' p → Q (.ref p) H'
def spPick : Sp := fun vs H Q _ => ∃ (p : Addr) (n : Int), vs = [.ref p, .int n] ∧ PoolAt H p ∧ 0 < n ∧ n.natAbs.log2 < 9000 ∧
  ∀ (r : Int) (H' : Hp), 0 ≤ r → r < n → Kp p H H' → PoolAt H' p → Q (.int r) H'
section
variable {P : Program} {w : World} {K : PySem.W.Frag} {mg : Str → Option Value} {base : Heap}
theorem scBox : FnScope ["_law_script", "_law_k", "_law_cell"] ["_law_script", "_law_k"] (defScope sBox) := ⟨rfl, rfl, rfl, by decide +kernel, rfl, by decide +kernel, by decide +kernel⟩
theorem ok_box {f : Addr} {fd : FuncData} (F : Fun K "_law_box" "_law_box" sBox f fd) (B : Bl mg) : FnOk P w K mg base CX0 1 f fd ["_law_script", "_law_k"] (spBox K) := by
  refine F.ok scBox (fun vs H Q E h => ?_) (fun cdv A outer s H vs Q E hr h => ?_)
  · obtain ⟨a, ns, k, rfl, _⟩ := h
    rfl
  obtain ⟨a, ns, k, rfl, hS, h0, q⟩ := h
  refine ⟨_, pss_cons (ps_set (i := 2) scBox.nd rfl (Or.inl rfl) pe_int)
    (pss_cons (ps_if (pt_cmpR op_lt (pv 1) (pe_callB call_len_seq (by rfl) B.len PySem.boot_len (pa_cons (pv 0) pa_nil)) (nomark _))
      (pss_one (ps_set (i := 2) scBox.nd rfl (Or.inl rfl) (pe_callTy call_int1 (by rfl) B.int (by decide +kernel) (pa_cons (pe_ix ix_list (pv 0) (pv 1) (fun _ _ => rfl)) pa_nil)))) pss_nil)
    (pss_cons (ps_if (pt_cmpR op_ge (pv 2) (pe_op op_pow pe_int pe_int) (nomark _))
      (pss_one (ps_ret (pe_lst (pa_cons (pe_op op_sub (pv 2) (pe_op op_pow pe_int pe_int)) (pa_cons (pe_op op_add (pe_op op_modN (pe_callTy call_int1 (by rfl) B.int (by decide +kernel) (pa_cons (pv 2) pa_nil)) pe_int) (pv 1)) (pa_cons pe_int pa_nil)))))) pss_nil)
    (pss_one (ps_ret (pe_lst (pa_cons pe_int (pa_cons (pe_op op_add (pe_op op_modN (pe_callTy call_int1 (by rfl) B.int (by decide +kernel) (pa_cons (pv 2) pa_nil)) pe_int) (pe_op op_mul pe_int (pv 1))) (pa_cons pe_int pa_nil)))))))), ?_⟩
  refine ⟨_, rfl, _, rfl, a, _, rfl, .inl hS, _, _, rfl, rfl, _, rfl, ?_⟩
  have fin : ∀ xs : List V, (∃ x y z : Int, xs = [.int x, .int y, .int z]) → ∀ (l : Addr), H l = none → Q (.ref l) (L2.upd H l (.lst xs)) := by
    rintro xs ⟨x, y, z, rfl⟩ l hl
    exact q l _ hl (same_new hl _) ⟨_, _, _, upd_same⟩
  refine ite2 (fun c => ?_) (fun c => ?_)
  · have c' : k < (((ns.map V.int).length : Nat) : Int) := of_decide_eq_true c
    rw [List.length_map] at c'
    have hk : k.toNat < ns.length := by omega
    have ek : k = ((k.toNat : Nat) : Int) := by omega
    have q1 : atI (ns.map V.int) ((k.toNat : Nat) : Int) = some (.int ns[k.toNat]) := atI_nat (by rw [List.getElem?_map, List.getElem?_eq_getElem hk] <;> rfl)
    rw [← ek] at q1
    refine ⟨_, rfl, _, rfl, a, _, _, _, rfl, rfl, hS, q1, .inl ⟨_, rfl, ?_⟩⟩
    refine ⟨_, rfl, _, _, rfl, rfl, ⟨by decide, by decide, by decide⟩, _, _, rfl, rfl, _, rfl, ite2 (fun c => ?_) (fun c => ?_)⟩
    · refine ⟨_, rfl, _, _, rfl, rfl, ⟨by decide, by decide, by decide⟩, _, _, rfl, rfl, _, rfl, .inl ⟨_, rfl, _, _, rfl, rfl, (by show (2147483629:Int) ≠ 0; decide), _, rfl, _, _, rfl, rfl, (by show 3 ≤ sizeLine; decide), fun l hl => fin _ ⟨_, _, _, rfl⟩ l hl⟩⟩
    · refine ⟨_, rfl, .inl ⟨_, rfl, _, _, rfl, rfl, (by show (2147483629:Int) ≠ 0; decide), _, rfl, _, _, rfl, rfl, .inl ⟨by decide, by decide⟩, _, _, rfl, rfl, (by show 3 ≤ sizeLine; decide), fun l hl => fin _ ⟨_, _, _, rfl⟩ l hl⟩⟩
  · refine ⟨_, rfl, _, _, rfl, rfl, ⟨by decide, by decide, by decide⟩, _, _, rfl, rfl, _, rfl, ite2 (fun c => ?_) (fun c => ?_)⟩
    · refine ⟨_, rfl, _, _, rfl, rfl, ⟨by decide, by decide, by decide⟩, _, _, rfl, rfl, _, rfl, .inl ⟨_, rfl, _, _, rfl, rfl, (by show (2147483629:Int) ≠ 0; decide), _, rfl, _, _, rfl, rfl, (by show 3 ≤ sizeLine; decide), fun l hl => fin _ ⟨_, _, _, rfl⟩ l hl⟩⟩
    · refine ⟨_, rfl, .inl ⟨_, rfl, _, _, rfl, rfl, (by show (2147483629:Int) ≠ 0; decide), _, rfl, _, _, rfl, rfl, .inl ⟨by decide, by decide⟩, _, _, rfl, rfl, (by show 3 ≤ sizeLine; decide), fun l hl => fin _ ⟨_, _, _, rfl⟩ l hl⟩⟩
theorem scPick : FnScope ["_law_box_here", "_law_size", "_law_digit", "_law_number"] ["_law_box_here", "_law_size"] (defScope sPick) := ⟨rfl, rfl, rfl, by decide +kernel, rfl, by decide +kernel, by decide +kernel⟩
theorem ok_pick {f : Addr} {fd : FuncData} (F : Fun K "_law_pick" "_law_pick" sPick f fd) (B : Bl mg) : FnOk P w K mg base CX0 1 f fd ["_law_box_here", "_law_size"] spPick := by
  refine F.ok scPick (fun vs H Q E h => ?_) (fun cdv A outer s H vs Q E hr h => ?_)
  · obtain ⟨p, n, rfl, _⟩ := h
    rfl
  obtain ⟨p, n, rfl, ⟨a, b, c0, hp⟩, n0, n1, q⟩ := h
  refine ⟨_, pss_cons (ps_if (pt_cmpR op_gt (pe_ix ix_list (pv 0) pe_int (fun _ _ => rfl)) pe_int (nomark _))
      (pss_cons (ps_set (i := 2) scPick.nd rfl (Or.inl rfl) (pe_op op_modN (pe_callTy call_int1 (by rfl) B.int (by decide +kernel) (pa_cons (pe_ix ix_list (pv 0) pe_int (fun _ _ => rfl)) pa_nil)) (pv 1)))
      (pss_cons (ps_asg (pe_op op_fdivW (pe_ix ix_list (pv 0) pe_int (fun _ _ => rfl)) (pv 1)) (pg_sub (pv 0) pe_int set_list))
      (pss_one (ps_ret (pv 2))))) pss_nil)
    (pss_cons (ps_asg (pe_op op_add (pe_ix ix_list (pv 0) pe_int (fun _ _ => rfl)) pe_int) (pg_sub (pv 0) pe_int set_list))
    (pss_cons (ps_set (i := 3) scPick.nd rfl (Or.inl rfl) (pe_op op_modN (pe_callTy call_int1 (by rfl) B.int (by decide +kernel) (pa_cons
        (pe_op op_mul (pe_op op_add (pe_op op_add (pe_ix ix_list (pv 0) pe_int (fun _ _ => rfl)) (pe_op op_mul pe_int (pe_ix ix_list (pv 0) pe_int (fun _ _ => rfl)))) pe_int) pe_int) pa_nil)) pe_int))
    (pss_cons (ps_set (i := 3) scPick.nd rfl (Or.inl rfl) (pe_op op_modN (pe_callTy call_int1 (by rfl) B.int (by decide +kernel) (pa_cons
        (pe_op op_mul (pv 3) (pe_op op_add (pe_op op_fdivN (pv 3) pe_int) pe_int)) pa_nil)) pe_int))
    (pss_cons (ps_set (i := 3) scPick.nd rfl (Or.inl rfl) (pe_op op_modN (pe_callTy call_int1 (by rfl) B.int (by decide +kernel) (pa_cons
        (pe_op op_mul (pv 3) (pe_op op_add (pe_op op_fdivN (pv 3) pe_int) pe_int)) pa_nil)) pe_int))
    (pss_one (ps_ret (pe_op op_modN (pe_callTy call_int1 (by rfl) B.int (by decide +kernel) (pa_cons (pe_op op_fdivN (pv 3) pe_int) pa_nil)) (pv 1)))))))), ?_⟩
  refine ⟨_, rfl, p, _, _, _, rfl, rfl, SqL.of hp, rfl, _, _, rfl, rfl, _, rfl, ?_⟩
  refine ite2 (fun c => ?_) (fun c => ?_)
  · refine ⟨_, rfl, p, _, _, _, rfl, rfl, SqL.of hp, rfl, .inl ⟨_, rfl, _, rfl, _, _, rfl, rfl, by omega, ?_⟩⟩
    refine ⟨_, rfl, p, _, _, _, rfl, rfl, SqL.of hp, rfl, _, rfl, _, _, rfl, rfl, ⟨n0, n1⟩, _, rfl, p, _, _, _, rfl, rfl, hp, rfl, ?_⟩
    exact ⟨_, rfl, q _ _ (fmod_ok n0).1 (fmod_ok n0).2 Kp.upd ⟨_, _, _, upd_same⟩⟩
  · refine ⟨_, rfl, p, _, _, _, rfl, rfl, SqL.of hp, rfl, _, _, rfl, rfl, _, rfl, p, _, _, _, rfl, rfl, hp, rfl, ?_⟩
    refine ⟨_, rfl, p, _, _, _, rfl, rfl, SqL.of upd_same, rfl, _, rfl, p, _, _, _, rfl, rfl, SqL.of upd_same, rfl, _, _, rfl, rfl, .inl ⟨by decide, by decide⟩, _, _, rfl, rfl, _, _, rfl, rfl,
      _, _, rfl, rfl, .inr ⟨by decide, by decide⟩, .inl ⟨_, rfl, _, _, rfl, rfl, (by show (2147483647:Int) ≠ 0; decide), ?_⟩⟩
    have r1 := fmod_ok (a := (b + 7919 * (c0 + 1) + 1) * 48271) (n := 2147483647) (by decide)
    refine ⟨_, rfl, _, rfl, _, _, rfl, rfl, ⟨by decide, by decide⟩, _, _, rfl, rfl, _, _, rfl, rfl, .inl ⟨by omega, by omega⟩, .inl ⟨_, rfl, _, _, rfl, rfl, (by show (2147483647:Int) ≠ 0; decide), ?_⟩⟩
    have r2 := fmod_ok (a := (((b + 7919 * (c0 + 1) + 1) * 48271).fmod 2147483647) * ((((b + 7919 * (c0 + 1) + 1) * 48271).fmod 2147483647).fdiv 1009 + 69621)) (n := 2147483647) (by decide)
    refine ⟨_, rfl, _, rfl, _, _, rfl, rfl, ⟨by decide, by decide⟩, _, _, rfl, rfl, _, _, rfl, rfl, .inl ⟨by omega, by omega⟩, .inl ⟨_, rfl, _, _, rfl, rfl, (by show (2147483399:Int) ≠ 0; decide), ?_⟩⟩
    refine ⟨_, rfl, _, _, rfl, rfl, ⟨by decide, by decide⟩, .inl ⟨_, rfl, _, rfl, _, _, rfl, rfl, by omega, ?_⟩⟩
    exact q _ _ (fmod_ok n0).1 (fmod_ok n0).2 Kp.upd ⟨_, _, _, upd_same⟩
end
end Tk
set_option maxRecDepth 100000
namespace Tk
open PySem L2
/-- values by their kinds -/
inductive Kd (H : Hp) : V → String → Prop
  | non : Kd H .non "NoneType"
  | bl (b : Bool) : Kd H (.bl b) "bool"
  | int (i : Int) : Kd H (.int i) "int"
  | str (z : Str) : Kd H (.str z) "str"
  | lst {a : Addr} {xs : List V} (e : H a = some (.lst xs)) : Kd H (.ref a) "list"
  | tup {a : Addr} {xs : List V} (e : H a = some (.tup xs)) : Kd H (.ref a) "tuple"
  | dK {a : Addr} {kvs : List (Key × V)} (e : H a = some (.dK kvs)) : Kd H (.ref a) "dict"
theorem Kd.ty {K : PySem.W.Frag} {H : Hp} {v : V} {T : String} (k : Kd H v T) : TyX K H v (.type T) := by
  cases k with
  | non => exact .base .non
  | bl b => exact .base (.bl b)
  | int i => exact .base (.int i)
  | str z => exact .base (.str z)
  | lst e => exact .base (.lst e)
  | tup e => exact .base (.tup e)
  | dK e => exact .base (.dK e)
theorem Kd.keep {H H' : Hp} {v : V} {T : String} (s : Same H H') (k : Kd H v T) : Kd H' v T := by
  cases k with
  | non => exact .non
  | bl b => exact .bl b
  | int i => exact .int i
  | str z => exact .str z
  | lst e => exact .lst (s _ _ e)
  | tup e => exact .tup (s _ _ e)
  | dK e => exact .dK (s _ _ e)
def intB : V → Bool
  | .int _ => true
  | _ => false
theorem Kd.intB {H : Hp} {v : V} {T : String} (k : Kd H v T) : ∃ b1 b2, kitB T "int" = some b1 ∧ kitB T "bool" = some b2 ∧ (b1 && !b2) = Tk.intB v := by
  cases k with
  | non => exact ⟨false, false, by decide +kernel, by decide +kernel, rfl⟩
  | bl b => exact ⟨true, true, by decide +kernel, by decide +kernel, rfl⟩
  | int i => exact ⟨true, false, by decide +kernel, by decide +kernel, rfl⟩
  | str z => exact ⟨false, false, by decide +kernel, by decide +kernel, rfl⟩
  | lst e => exact ⟨false, false, by decide +kernel, by decide +kernel, rfl⟩
  | tup e => exact ⟨false, false, by decide +kernel, by decide +kernel, rfl⟩
  | dK e => exact ⟨false, false, by decide +kernel, by decide +kernel, rfl⟩
structure Bi (mg : Str → Option Value) : Prop where
  isi : mg "isinstance" = none
  int : mg "int" = none
  str : mg "str" = none
  enum : mg "enumerate" = none
  list : mg "list" = none
end Tk
set_option maxRecDepth 100000
namespace L2
open PySem PySem.Spec PyProof.Rows
/-- the reading of for i, x in enumerate(xs), xs a list -/
theorem for_enumL {K : PySem.W.Frag} {a : Addr} {xs : List V} {g : TG} {tb : TS} {D : Ends} {σ : St} {H : Hp} (Pv : Nat → St → Hp → Prop) (h0 : Pv 0 σ H) (hl : ∀ i σ H, i ≤ xs.length → Pv i σ H → SqL K H a xs)
    (hs : ∀ i x T σ H, xs[i]? = some x → Pv i σ H → H T = none → g (.ref T) σ (upd H T (.tup [.int (i : Nat), x])) fun σ2 H2 => tb { D with nx := Pv (i + 1), ct := Pv (i + 1), bk := D.nx } σ2 H2) (hd : ∀ σ H, Pv xs.length σ H → D.nx σ H) :
    ∃ W : Nat → Nat → St → Hp → Prop, (∃ m, W 0 m σ H) ∧ ∀ i m σ H, W i m σ H → ((Ite K a).stop i H ∧ D.nx σ H) ∨ ((Ite K a).go i H ∧ ∃ N : St → Hp → Prop, (∀ σ' H', N σ' H' → ∃ m', m' < m ∧ W (i + 1) m' σ' H') ∧
      ∀ x H', (Ite K a).yld i H x H' → g x σ H' fun σ2 H2 => tb { D with nx := N, ct := N, bk := D.nx } σ2 H2) := by
  refine ⟨fun i m σ H => m = xs.length - i ∧ i ≤ xs.length ∧ Pv i σ H, ⟨xs.length, by simp, Nat.zero_le _, h0⟩, ?_⟩
  rintro i m σ H ⟨rfl, hi, p⟩
  have q := hl i σ H hi p
  by_cases lt : i < xs.length
  · refine .inr ⟨⟨xs, xs[i], q, by simp [lt]⟩, Pv (i + 1), fun σ' H' p' => ⟨xs.length - (i + 1), by omega, rfl, lt, p'⟩, ?_⟩
    rintro x H' ⟨T, y, rfl, hT, rfl, hy⟩
    exact hs i y T σ H (hy xs q) p hT
  · have e : i = xs.length := by omega
    exact .inl ⟨⟨xs, q, by omega⟩, hd σ H (e ▸ p)⟩
end L2
namespace Tk
open PySem L2 TL
abbrev sRead : Stmt := top 8
abbrev sBXInit : Stmt := inClass (top 4) 0
abbrev sLaw : Stmt := top 13
abbrev keys7 : List Str := ["0", "1", "2", "0n", "1n", "2n", "crash"]
def sp1 : Str := " "
/-- what a text is split into -/
def parts (z : Str) : List Str := if z.length = 0 then [] else Txt.split z " "
theorem tl_sp : tl (" " : Str) = [32] := by decide +kernel
theorem str_len (z : Str) : z.length = (tl z).length := by simp [tl, Str.length]
theorem str_ext {x y : Str} (h : tl x = tl y) : x = y := by
  rw [← mk_tl x, ← mk_tl y, h]
theorem join_tl (ps : List Str) : tl (Txt.join " " ps) = joinL [32] (ps.map tl) := by rw [join_eq, tl_join, tl_sp]
theorem join_len {n : Nat} : ∀ (ps : List (List Nat)), (∀ p ∈ ps, p.length ≤ n) → (joinL [32] ps).length ≤ ps.length * (n + 1)
  | [], _ => Nat.zero_le _
  | [p], h => by
    have := h p (by simp)
    show p.length ≤ _
    rw [List.length_singleton]; omega
  | p :: q :: r, h => by
    have h1 := h p (by simp)
    have h2 := join_len (q :: r) fun x hx => h x (List.mem_cons_of_mem _ hx)
    show (p ++ ([32] ++ joinL [32] (q :: r))).length ≤ _
    rw [List.length_append, List.length_append, List.length_singleton, List.length_cons, Nat.succ_mul]
    omega
theorem joinL_ne : ∀ (ps : List (List Nat)), (2 ≤ ps.length ∨ ∃ p ∈ ps, p ≠ []) → joinL [32] ps ≠ []
  | [], h => by rcases h with h | ⟨p, h, _⟩ <;> simp at h
  | [p], h => by
    rcases h with h | ⟨x, h, n⟩
    · simp at h
    · rw [List.mem_singleton.mp h] at n; exact n
  | p :: q :: r, _ => by
    show p ++ ([32] ++ joinL [32] (q :: r)) ≠ []
    simp
/-- a text read from the words that it is joined of -/
theorem parts_join {z : Str} {ps : List Str} (e : tl z = joinL [32] (ps.map tl)) (h1 : ∀ p ∈ ps, 32 ∉ tl p) (h2 : 2 ≤ ps.length ∨ ∃ p ∈ ps, tl p ≠ []) : parts z = ps := by
  have ez : z = Txt.join " " ps := str_ext (by rw [e, join_tl])
  have ne : joinL [32] (ps.map tl) ≠ [] := joinL_ne _ (by
    rcases h2 with h | ⟨p, h, n⟩
    · exact .inl (by rw [List.length_map]; exact h)
    · exact .inr ⟨tl p, List.mem_map.mpr ⟨p, h, rfl⟩, n⟩)
  have l0 : ¬ z.length = 0 := by
    rw [str_len, e]
    intro h
    exact ne (List.eq_nil_of_length_eq_zero h)
  unfold parts
  rw [if_neg l0, ez]
  refine split_join (S := []) tl_sp (by decide +kernel) ?_ h1
  rintro rfl
  rcases h2 with h | ⟨p, h, _⟩ <;> simp at h
theorem parts_nil {z : Str} (e : tl z = []) : parts z = [] := by
  unfold parts
  rw [if_pos (by rw [str_len, e]; rfl)]
/-- the dict of the words: what the top has made -/
structure Wd7 (K : PySem.W.Frag) (w : World) (mg : Str → Option Value) (it : Addr) (es : Array DictEntry) (n : Nat) : Prop where
  mI : mg "STEP_OF" = some (.ref it)
  kd : KDict K w it es n
  none_ : ∀ z, z ∉ keys7 → PySem.W.nsIn K it z = some none
  some_ : ∀ z, z ∈ keys7 → ∃ a, PySem.W.nsIn K it z = some (some (.ref a))
def kstr (e : DictEntry) : Option Str := match e.key with | .str s _ => some s | _ => none
theorem ns_none {K : PySem.W.Frag} {it : Addr} {es : Array DictEntry} {n : Nat} (h : K.lookup it = some ⟨.type "dict", none, .dict es n, #[]⟩) (hk : es.toList.map kstr = keys7.map some) {z : Str} (hz : z ∉ keys7) : PySem.W.nsIn K it z = some none := by
  have key : ∀ e ∈ es.toList, ∃ s t, e.key = .str s t ∧ s ∈ keys7 := fun e he => by
    have this : kstr e ∈ es.toList.map kstr := List.mem_map.mpr ⟨e, he, rfl⟩
    rw [hk] at this
    obtain ⟨s, hs, e2⟩ := List.mem_map.mp this
    unfold kstr at e2
    split at e2
    · rename_i s' t' ek
      exact ⟨s', t', ek, by rw [← Option.some.inj e2]; exact hs⟩
    · cases e2
  unfold PySem.W.nsIn
  rw [h]
  dsimp only
  have f : es.toList.find? (·.key.isStr z) = none := List.find?_eq_none.mpr fun e he => by
    obtain ⟨s, t, ek, hs⟩ := key e he
    rw [ek]
    show ¬ (s == z) = true
    intro q
    exact hz (beq_iff_eq.mp q ▸ hs)
  rw [f]
  dsimp only
  have a : es.toList.any (·.refKey) = false := List.any_eq_false.mpr fun e he => by
    obtain ⟨s, t, ek, hs⟩ := key e he
    unfold DictEntry.refKey
    rw [ek]; simp
  rw [a]; rfl
theorem plen (z : Str) (hz : z.length ≤ 10000) : (parts z).length ≤ 10002 := by
  unfold parts
  split
  · exact Nat.zero_le _
  · have := PyProof.Rows.split_le z " "
    omega
/-- read_schedule of a text, or of what is none -/
def spRead (CB : Addr) : Sp := fun vs H Q E => ∃ v : V, vs = [v] ∧
  ((∃ z : Str, v = .str z ∧ z.length ≤ 10000 ∧
     (((∀ p ∈ parts z, p ∈ keys7) ∧ ∀ (a : Addr) (H' : Hp) (xs : List V), H a = none → Same H H' → H' a = some (.lst xs) → xs.length = (parts z).length → Q (.ref a) H') ∨
      (∃ i p, (parts z)[i]? = some p ∧ p ∉ keys7 ∧ (∀ j q, j < i → (parts z)[j]? = some q → q ∈ keys7) ∧ ∀ (d : Addr) (H' : Hp), Same H H' → H d = none → H' d = some (.xd [("line", .int (i : Nat))]) → E (.ref CB) (some d) H'))) ∨
   ((∃ T, Kd H v T ∧ kitB T "str" = some false) ∧ ∀ (d : Addr) (H' : Hp), Same H H' → H d = none → H' d = some (.xd [("line", .int (-1))]) → E (.ref CB) (some d) H'))
section
variable {P : Program} {w : World} {K : PySem.W.Frag} {mg : Str → Option Value} {base : Heap} {CB it : Addr} {es : Array DictEntry} {n : Nat}
theorem scBX : FnScope ["self", "line"] ["self", "line"] (defScope sBXInit) := ⟨rfl, rfl, rfl, by decide +kernel, rfl, by decide +kernel, by decide +kernel⟩
theorem ok_bxi {f : Addr} {fd : FuncData} (F : Fun K "__init__" "BadText.__init__" sBXInit f fd) (T : Ecl K mg "BadText" "line" CB f) : FnOk P w K mg base CX0 1 f fd ["self", "line"] (spEI CB "line") := by
  refine F.ok scBX (fun vs H Q E h => ?_) (fun cdv A outer s H vs Q E hr h => ?_)
  · obtain ⟨a, v, rfl, _⟩ := h
    rfl
  obtain ⟨a, v, rfl, ha, q⟩ := h
  refine ⟨_, pss_one (ps_ost (pv 0) (pv 1) rfl), ?_⟩
  exact ⟨_, rfl, _, rfl, a, CB, rfl, T.ox, T.noF, .inl ⟨ha, fun dx h1 h2 => q dx h1 h2⟩⟩
theorem scRe : FnScope ["text", "schedule", "index", "word"] ["text"] (defScope sRead) := ⟨rfl, rfl, rfl, by decide +kernel, rfl, by decide +kernel, by decide +kernel⟩
theorem ok_read {f fI : Addr} {fd fdI : FuncData} (F : Fun K "read_schedule" "read_schedule" sRead f fd) (B : Bi mg) (TB : Ecl K mg "BadText" "line" CB fI) (D : Wd7 K w mg it es n)
    (GI : FnOk P w K mg base CX0 1 fI fdI ["self", "line"] (spEI CB "line")) (bI : Binds K fdI ["self", "line"] []) :
    FnOk P w K mg base (L2.CX P w) 3 f fd ["text"] (spRead CB) := by
  refine F.okX scRe (fun vs H Q E h => ?_) (fun cdv A outer s H vs Q E hr h => ?_)
  · obtain ⟨v, rfl, _⟩ := h
    rfl
  obtain ⟨v, rfl, alt⟩ := h
  refine ⟨_, pss_cons (ps_if (pt_not (pt_val (pe_callB call_isi (by rfl) B.isi (by decide +kernel) (pa_cons (pv 0) (pa_cons (pe_bltn (v := .ty "str") (by rfl) B.str (by decide +kernel) rfl) pa_nil)))))
      (pss_one (ps_raise1 rfl (takes_of rfl rfl rfl rfl) TB GI hr bI rfl (pa_cons (pe_un un_neg pe_int) pa_nil))) pss_nil)
    (pss_cons (ps_set (i := 1) scRe.nd rfl (Or.inl rfl) (pe_lst pa_nil))
    (pss_cons (ps_for (passes_of rfl) rfl (pi_enum rfl B.enum (pa_cons (pe_ifExp (pt_truth (pv 0) (by intro _; rfl)) (pe_split (pv 0) pe_str) (pe_lst pa_nil)) pa_nil))
        (pg_tup rfl (pgs_cons (pg_name (i := 2) scRe.nd rfl (.inl rfl)) (pgs_cons (pg_name (i := 3) scRe.nd rfl (.inl rfl)) pgs_nil)))
        (pss_cons (ps_if (pt_cmpR (op_notIn_kd D.kd) (pv 3) (pe_glob (v := .ref it) (by rfl) D.mI rfl) (by rfl)) (pss_one (ps_raise1 rfl (takes_of rfl rfl rfl rfl) TB GI hr bI rfl (pa_cons (pv 2) pa_nil))) pss_nil)
        (pss_one (ps_expr (pe_bm PySem.F.plainAttrs_list PySem.F.slot_list_append PySem.F.type_list_append mt_append (pv 1) (pa_cons (pe_ix ix_kdict (pe_glob (v := .ref it) (by rfl) D.mI rfl) (pv 3) (fun _ _ => rfl)) pa_nil))))))
    (pss_one (ps_ret (pv 1))))), ?_⟩
  rcases alt with ⟨z, rfl, hz, alt⟩ | ⟨⟨T, kd, kb⟩, q⟩
  · refine ⟨_, rfl, .str z, _, _, _, true, rfl, .ty "str", .base (.str z), kit_ty (by decide +kernel), true, rfl, iteF ?_⟩
    refine ⟨Nat.zero_le _, fun S hS => ?_⟩
    have hsz : z.length ≤ sizeLine := by have : (10000 : Nat) ≤ sizeLine := (by decide); omega
    have hS1 : (L2.upd H S (.lst [])) S = some (.lst []) := upd_same
    refine ⟨_, rfl, _, ⟨hsz, rfl⟩, ?_⟩
    by_cases c : z.length = 0
    · refine iteFb (by rw [c]; rfl) ⟨Nat.zero_le _, fun L hL => ?_⟩
      have eP : ([] : List V) = (parts z).map V.str := by unfold parts; rw [if_pos c]; rfl
      have nSL : S ≠ L := ne_of_none hS1 hL
      have sL : Same H (L2.upd (L2.upd H S (.lst [])) L (.lst ([]))) := (same_new hS _).trans (same_new hL _)
      have hL2 : (L2.upd (L2.upd H S (.lst [])) L (.lst ([]))) L = some (.lst ((parts z).map V.str)) := by rw [← eP]; exact upd_same
      have hS2 : (L2.upd (L2.upd H S (.lst [])) L (.lst ([]))) S = some (.lst []) := by rw [upd_ne nSL]; exact hS1
      have pl : (parts z).length ≤ 10002 := plen z hz
      generalize L2.upd (L2.upd H S (.lst [])) L (.lst ([])) = H2 at sL hL2 hS2 ⊢
      refine ⟨L, _, rfl, SqL.of hL2, for_enumL (xs := (parts z).map V.str) (fun i σ H3 => ∃ (xs : List V) (v2 v3 : Option V), σ = [some (.str z), some (.ref S), v2, v3] ∧ H3 S = some (.lst xs) ∧ xs.length = i ∧ H3 L = some (.lst ((parts z).map V.str)) ∧ Same H H3 ∧ i ≤ (parts z).length ∧ ∀ j q, j < i → (parts z)[j]? = some q → q ∈ keys7) ?_ ?_ ?_ ?_⟩
      · exact ⟨[], _, _, rfl, hS2, rfl, hL2, sL, Nat.zero_le _, fun j q hj => absurd hj (by omega)⟩
      · rintro i σ H3 hi ⟨xs, v2, v3, rfl, h1, h2, h3, h4⟩
        exact SqL.of h3
      · rintro i x Tu σ H3 hx ⟨xs, v2, v3, rfl, h1, h2, h3, h4, h5, h6⟩ hT
        have hi : i < (parts z).length := by have := (List.getElem?_eq_some_iff.mp hx).1; rwa [List.length_map] at this
        have ex : x = .str (parts z)[i] := by
          rw [List.getElem?_map, List.getElem?_eq_getElem hi] at hx
          exact (Option.some.inj hx).symm
        subst ex
        have sT : Same H (L2.upd H3 Tu (.tup [.int (i : Nat), .str (parts z)[i]])) := h4.trans (same_new hT _)
        have h1T : (L2.upd H3 Tu (.tup [.int (i : Nat), .str (parts z)[i]])) S = some (.lst xs) := (same_new hT _) _ _ h1
        have h3T : (L2.upd H3 Tu (.tup [.int (i : Nat), .str (parts z)[i]])) L = some (.lst ((parts z).map V.str)) := (same_new hT _) _ _ h3
        refine ⟨Tu, _, rfl, SqT.of upd_same, rfl, _, _, rfl, _, _, rfl, rfl, ?_⟩
        by_cases ck : (parts z)[i] ∈ keys7
        · obtain ⟨u, hu⟩ := D.some_ _ ck
          refine ⟨_, rfl, _, _, rfl, rfl, hu, _, rfl, iteF ?_⟩
          refine ⟨_, rfl, .inl ⟨rfl, _, SqL.of h1T⟩, _, rfl, it, _, .ref u, rfl, rfl, ⟨_, _, _, D.kd.at_, D.kd.lit, hu, rfl⟩, S, _, _, rfl, rfl, h1T, ?_, ?_⟩
          · have : (20000 : Nat) < sizeLine := (by decide); omega
          · refine ⟨xs ++ [.ref u], _, _, rfl, upd_same, by rw [List.length_append, h2]; rfl, by rw [upd_ne nSL.symm]; exact h3T, fun b o e => ?_, hi, fun j q hj hq => ?_⟩
            · rw [upd_ne (ne_of_none e hS)]; exact sT _ _ e
            · rcases Nat.lt_succ_iff_lt_or_eq.mp hj with h | rfl
              · exact h6 j q h hq
              · rw [List.getElem?_eq_getElem hi] at hq
                rw [← Option.some.inj hq]; exact ck
        · refine ⟨_, rfl, _, _, rfl, rfl, D.none_ _ ck, _, rfl, iteT ⟨_, rfl, made1 fun d hd => ?_⟩⟩
          rcases alt with ⟨g, _⟩ | ⟨i', p', e', b', f', q⟩
          · exact absurd (g _ (List.getElem_mem hi)) ck
          · have ei : i = i' := by
              rcases Nat.lt_trichotomy i i' with h | h | h
              · exact absurd (f' i _ h (List.getElem?_eq_getElem hi)) ck
              · exact h
              · exact absurd (h6 i' p' h e') b'
            subst ei
            exact q d _ (sT.trans (same_new hd _)) (sT.free hd) upd_same
      · rintro σ H3 ⟨xs, v2, v3, rfl, h1, h2, h3, h4, h5, h6⟩
        rw [List.length_map] at h2 h6
        refine ⟨_, rfl, ?_⟩
        rcases alt with ⟨g, q⟩ | ⟨i', p', e', b', f', q⟩
        · exact q S H3 xs hS h4 h1 h2
        · exact absurd (h6 i' p' (List.getElem?_eq_some_iff.mp e').1 e') b'
    · refine iteTb (by simpa using c) ⟨_, rfl, ⟨_, rfl⟩, _, _, rfl, rfl, by decide +kernel, (by have : (20000 : Nat) ≤ sizeLine := (by decide); omega), fun L hL => ?_⟩
      have eP : (Txt.split z " ").map V.str = (parts z).map V.str := by unfold parts; rw [if_neg c]
      have nSL : S ≠ L := ne_of_none hS1 hL
      have sL : Same H (L2.upd (L2.upd H S (.lst [])) L (.lst ((Txt.split z " ").map V.str))) := (same_new hS _).trans (same_new hL _)
      have hL2 : (L2.upd (L2.upd H S (.lst [])) L (.lst ((Txt.split z " ").map V.str))) L = some (.lst ((parts z).map V.str)) := by rw [← eP]; exact upd_same
      have hS2 : (L2.upd (L2.upd H S (.lst [])) L (.lst ((Txt.split z " ").map V.str))) S = some (.lst []) := by rw [upd_ne nSL]; exact hS1
      have pl : (parts z).length ≤ 10002 := plen z hz
      generalize L2.upd (L2.upd H S (.lst [])) L (.lst ((Txt.split z " ").map V.str)) = H2 at sL hL2 hS2 ⊢
      refine ⟨L, _, rfl, SqL.of hL2, for_enumL (xs := (parts z).map V.str) (fun i σ H3 => ∃ (xs : List V) (v2 v3 : Option V), σ = [some (.str z), some (.ref S), v2, v3] ∧ H3 S = some (.lst xs) ∧ xs.length = i ∧ H3 L = some (.lst ((parts z).map V.str)) ∧ Same H H3 ∧ i ≤ (parts z).length ∧ ∀ j q, j < i → (parts z)[j]? = some q → q ∈ keys7) ?_ ?_ ?_ ?_⟩
      · exact ⟨[], _, _, rfl, hS2, rfl, hL2, sL, Nat.zero_le _, fun j q hj => absurd hj (by omega)⟩
      · rintro i σ H3 hi ⟨xs, v2, v3, rfl, h1, h2, h3, h4⟩
        exact SqL.of h3
      · rintro i x Tu σ H3 hx ⟨xs, v2, v3, rfl, h1, h2, h3, h4, h5, h6⟩ hT
        have hi : i < (parts z).length := by have := (List.getElem?_eq_some_iff.mp hx).1; rwa [List.length_map] at this
        have ex : x = .str (parts z)[i] := by
          rw [List.getElem?_map, List.getElem?_eq_getElem hi] at hx
          exact (Option.some.inj hx).symm
        subst ex
        have sT : Same H (L2.upd H3 Tu (.tup [.int (i : Nat), .str (parts z)[i]])) := h4.trans (same_new hT _)
        have h1T : (L2.upd H3 Tu (.tup [.int (i : Nat), .str (parts z)[i]])) S = some (.lst xs) := (same_new hT _) _ _ h1
        have h3T : (L2.upd H3 Tu (.tup [.int (i : Nat), .str (parts z)[i]])) L = some (.lst ((parts z).map V.str)) := (same_new hT _) _ _ h3
        refine ⟨Tu, _, rfl, SqT.of upd_same, rfl, _, _, rfl, _, _, rfl, rfl, ?_⟩
        by_cases ck : (parts z)[i] ∈ keys7
        · obtain ⟨u, hu⟩ := D.some_ _ ck
          refine ⟨_, rfl, _, _, rfl, rfl, hu, _, rfl, iteF ?_⟩
          refine ⟨_, rfl, .inl ⟨rfl, _, SqL.of h1T⟩, _, rfl, it, _, .ref u, rfl, rfl, ⟨_, _, _, D.kd.at_, D.kd.lit, hu, rfl⟩, S, _, _, rfl, rfl, h1T, ?_, ?_⟩
          · have : (20000 : Nat) < sizeLine := (by decide); omega
          · refine ⟨xs ++ [.ref u], _, _, rfl, upd_same, by rw [List.length_append, h2]; rfl, by rw [upd_ne nSL.symm]; exact h3T, fun b o e => ?_, hi, fun j q hj hq => ?_⟩
            · rw [upd_ne (ne_of_none e hS)]; exact sT _ _ e
            · rcases Nat.lt_succ_iff_lt_or_eq.mp hj with h | rfl
              · exact h6 j q h hq
              · rw [List.getElem?_eq_getElem hi] at hq
                rw [← Option.some.inj hq]; exact ck
        · refine ⟨_, rfl, _, _, rfl, rfl, D.none_ _ ck, _, rfl, iteT ⟨_, rfl, made1 fun d hd => ?_⟩⟩
          rcases alt with ⟨g, _⟩ | ⟨i', p', e', b', f', q⟩
          · exact absurd (g _ (List.getElem_mem hi)) ck
          · have ei : i = i' := by
              rcases Nat.lt_trichotomy i i' with h | h | h
              · exact absurd (f' i _ h (List.getElem?_eq_getElem hi)) ck
              · exact h
              · exact absurd (h6 i' p' h e') b'
            subst ei
            exact q d _ (sT.trans (same_new hd _)) (sT.free hd) upd_same
      · rintro σ H3 ⟨xs, v2, v3, rfl, h1, h2, h3, h4, h5, h6⟩
        rw [List.length_map] at h2 h6
        refine ⟨_, rfl, ?_⟩
        rcases alt with ⟨g, q⟩ | ⟨i', p', e', b', f', q⟩
        · exact q S H3 xs hS h4 h1 h2
        · exact absurd (h6 i' p' (List.getElem?_eq_some_iff.mp e').1 e') b'
  · exact ⟨_, rfl, v, _, _, _, false, rfl, .ty "str", kd.ty, kit_ty kb, false, rfl, iteT ⟨_, rfl, made1 fun d hd => q d _ (same_new hd _) hd upd_same⟩⟩
end
end Tk
set_option maxRecDepth 100000
namespace Tk
open PySem L2 TL
abbrev sFound : Stmt := top 12
/-- what is found in a text -/
def Due (z : Str) (k : Str) (n : Int) : Prop := (k = "told" ∧ n = ((parts z).length : Nat) ∧ ∀ p ∈ parts z, p ∈ keys7) ∨
  (k = "line" ∧ ∃ (i : Nat) (p : Str), n = i ∧ (parts z)[i]? = some p ∧ p ∉ keys7 ∧ ∀ j q, j < i → (parts z)[j]? = some q → q ∈ keys7)
def DueV (H : Hp) (v : V) (k : Str) (n : Int) : Prop := (∃ z : Str, v = .str z ∧ z.length ≤ 10000 ∧ Due z k n) ∨ (k = "line" ∧ n = -1 ∧ ∃ T, Kd H v T ∧ kitB T "str" = some false)
def spFound : Sp := fun vs H Q _ => ∃ (v : V) (k : Str) (n : Int), vs = [v] ∧ DueV H v k n ∧ ∀ (u : Addr) (H' : Hp), Same H H' → H' u = some (.tup [.str k, .int n]) → Q (.ref u) H'
section
variable {P : Program} {w : World} {K : PySem.W.Frag} {mg : Str → Option Value} {base : Heap} {CB TE' CS CP : Addr}
theorem scFo : FnScope ["_law_text", "_law_found_here", "_law_told", "e"] ["_law_text"] (defScope sFound) := ⟨rfl, rfl, rfl, by decide +kernel, rfl, by decide +kernel, by decide +kernel⟩
theorem ok_found {f fG fI : Addr} {fd fdG : FuncData} (F : Fun K "_law_found" "_law_found" sFound f fd) (B : Bl mg) (T : Bi mg) (TB : Ecl K mg "BadText" "line" CB fI)
    (mgT : mg "TakeError" = some (.ref TE')) (mgS : mg "BadStep" = some (.ref CS)) (mgP : mg "BadScript" = some (.ref CP)) (k1 : PySem.W.kitOne K (.ref CB) (.ref TE') = some true) (k2 : PySem.W.kitOne K (.ref CB) (.ref CS) = some false) (k3 : PySem.W.kitOne K (.ref CB) (.ref CP) = some false)
    (GT : FnOk P w K mg base (L2.CX P w) 3 fG fdG ["text"] (spRead CB)) (bT : Binds K fdG ["text"] []) (kT : PySem.W.keepIn K (.ref fG) = true) (mT : mg "read_schedule" = some (.ref fG)) : FnOk P w K mg base CX0 4 f fd ["_law_text"] spFound := by
  refine F.ok scFo (fun vs H Q E h => ?_) (fun cdv A outer s H vs Q E hr h => ?_)
  · obtain ⟨v, k, n, rfl, _⟩ := h
    rfl
  obtain ⟨v, k, n, rfl, due, q⟩ := h
  refine ⟨_, pss_cons (ps_set (i := 1) scFo.nd rfl (Or.inl rfl) (pe_tup (pa_cons pe_str (pa_cons pe_int pa_nil))))
    (pss_cons (ps_try_as (i := 3) rfl rfl scFo.nd rfl rfl ⟨rfl, by decide, .inl TB.gC⟩ takes0
      (fun W pn xe tk _ => pss_cons (ps_set (i := 2) scFo.nd rfl (Or.inl rfl) (pe_callS GT hr rfl mT kT bT (fun σ => passAt tk σ) (pa_cons (pv 0) pa_nil)))
        (pss_one (ps_set (i := 1) scFo.nd rfl (Or.inl rfl) (pe_tup (pa_cons pe_str (pa_cons (pe_callB (r := fun xs H Q => ∃ p ys, xs = [V.ref p] ∧ (SqL K H p ys ∨ SqT K H p ys) ∧ Q (.int ys.length) H) call_len_seq (by rfl) B.len PySem.boot_len (pa_cons (pv 2) pa_nil)) pa_nil))))))
      (fun a oe cls d pn hz hf => pss_one (ps_if (PW.pt (pw_and (pt_val (pe_callB (call_isX TB hz hf) (by rfl) T.isi (by decide +kernel) (pa_cons (pv 3) (pa_cons (pe_glob (v := .ref TE') (by rfl) mgT rfl) pa_nil))))
          (pw_and (pt_not (pt_val (pe_callB (call_isX TB hz hf) (by rfl) T.isi (by decide +kernel) (pa_cons (pv 3) (pa_cons (pe_glob (v := .ref CS) (by rfl) mgS rfl) pa_nil)))))
          (pw_and1 (pt_not (pt_val (pe_callB (call_isX TB hz hf) (by rfl) T.isi (by decide +kernel) (pa_cons (pv 3) (pa_cons (pe_glob (v := .ref CP) (by rfl) mgP rfl) pa_nil)))))))))
        (pss_one (ps_set (i := 1) scFo.nd rfl (Or.inl rfl) (pe_tup (pa_cons pe_str (pa_cons (pe_xf TB.xf TB.noF hz hf (pv 3)) pa_nil))))) pss_nil)))
    (pss_one (ps_ret (pv 1)))), ?_⟩
  refine ⟨(by show 2 ≤ sizeLine; decide), fun t0 h0 => ?_⟩
  have s0 := same_new h0 (.tup [.str "wrong", .int 0])
  refine ⟨_, rfl, v, rfl, ?_⟩
  rcases due with ⟨z, rfl, hz, due⟩ | ⟨rfl, rfl, T', kd, kb⟩
  · refine .inl ⟨z, rfl, hz, ?_⟩
    rcases due with ⟨rfl, rfl, g⟩ | ⟨rfl, i, p, rfl, e, b, f⟩
    · refine .inl ⟨g, fun a H' xs ha s1 hx hl => ?_⟩
      refine ⟨_, rfl, a, xs, rfl, .inl (SqL.of hx), (by show 2 ≤ sizeLine; decide), fun u hu => ?_⟩
      rw [hl]
      exact ⟨_, rfl, q u _ ((s0.trans s1).trans (same_new hu _)) upd_same⟩
    · refine .inr ⟨i, p, e, b, f, fun d H' s1 hd hx => ?_⟩
      refine ⟨true, TB.te, fun _ a ha => ?_, fun z => nomatch z⟩
      refine ⟨_, rfl, .ref TE', _, true, d, _, rfl, rfl, hx, rfl, (fun u z => z), k1, true, rfl, iteT ?_⟩
      refine ⟨_, rfl, .ref CS, _, false, d, _, rfl, rfl, hx, rfl, (fun u z => z), k2, false, rfl, iteT ?_⟩
      refine ⟨_, rfl, .ref CP, _, false, d, _, rfl, rfl, hx, rfl, (fun u z => z), k3, false, rfl, iteT ?_⟩
      refine ⟨_, rfl, rfl, rfl, d, _, _, rfl, hx, rfl, (by show 2 ≤ sizeLine; decide), fun u hu => ?_⟩
      exact ⟨_, rfl, q u _ ((s0.trans s1).trans (same_new hu _)) upd_same⟩
  · refine .inr ⟨⟨T', kd.keep s0, kb⟩, fun d H' s1 hd hx => ?_⟩
    refine ⟨true, TB.te, fun _ a ha => ?_, fun z => nomatch z⟩
    refine ⟨_, rfl, .ref TE', _, true, d, _, rfl, rfl, hx, rfl, (fun u z => z), k1, true, rfl, iteT ?_⟩
    refine ⟨_, rfl, .ref CS, _, false, d, _, rfl, rfl, hx, rfl, (fun u z => z), k2, false, rfl, iteT ?_⟩
    refine ⟨_, rfl, .ref CP, _, false, d, _, rfl, rfl, hx, rfl, (fun u z => z), k3, false, rfl, iteT ?_⟩
    refine ⟨_, rfl, rfl, rfl, d, _, _, rfl, hx, rfl, (by show 2 ≤ sizeLine; decide), fun u hu => ?_⟩
    exact ⟨_, rfl, q u _ ((s0.trans s1).trans (same_new hu _)) upd_same⟩
end
end Tk
set_option maxRecDepth 100000
namespace Tk
open PySem L2 TL
theorem key_free : ∀ k ∈ keys7, (32 ∉ tl k) ∧ (10 ∉ tl k) ∧ tl k ≠ [] ∧ (tl k).length ≤ 5 := by decide +kernel
theorem due_told {z : Str} {ps : List Str} (e : tl z = joinL [32] (ps.map tl)) (h : ∀ p ∈ ps, p ∈ keys7) : Due z "told" (ps.length : Nat) := by
  cases ps with
  | nil =>
    have ep : parts z = [] := parts_nil e
    exact .inl ⟨rfl, by rw [ep], by rw [ep]; exact fun p hp => nomatch hp⟩
  | cons p r =>
    have ep : parts z = p :: r := parts_join e (fun q hq => (key_free q (h q hq)).1) (.inr ⟨p, List.mem_cons_self, (key_free p (h p List.mem_cons_self)).2.2.1⟩)
    exact .inl ⟨rfl, by rw [ep], by rw [ep]; exact h⟩
theorem due_line {z : Str} {a b : List Str} {wd : Str} (e : tl z = joinL [32] ((a ++ wd :: b).map tl)) (ha : ∀ p ∈ a, p ∈ keys7) (hw : wd ∉ keys7) (h32 : 32 ∉ tl wd) (hb : ∀ p ∈ b, 32 ∉ tl p) (h2 : 2 ≤ (a ++ wd :: b).length ∨ tl wd ≠ []) : Due z "line" (a.length : Nat) := by
  have ep : parts z = a ++ wd :: b := parts_join e (fun p hp => by
    rcases List.mem_append.mp hp with h | h
    · exact (key_free p (ha p h)).1
    · rcases List.mem_cons.mp h with rfl | h
      · exact h32
      · exact hb p h) (by
    rcases h2 with h | h
    · exact .inl h
    · exact .inr ⟨wd, by simp, h⟩)
  refine .inr ⟨rfl, a.length, wd, rfl, by rw [ep, List.getElem?_append_right (Nat.le_refl _), Nat.sub_self]; rfl, hw, fun j q hj hq => ?_⟩
  rw [ep, List.getElem?_append_left hj] at hq
  exact ha q (List.mem_of_getElem? hq)
theorem joinL_cons (p : List Nat) : ∀ {r : List (List Nat)}, r ≠ [] → joinL [32] (p :: r) = p ++ ([32] ++ joinL [32] r)
  | [], h => absurd rfl h
  | _ :: _, _ => rfl
theorem joinL_snoc (x : List Nat) : ∀ {r : List (List Nat)}, r ≠ [] → joinL [32] (r ++ [x]) = joinL [32] r ++ ([32] ++ x)
  | [], h => absurd rfl h
  | [p], _ => rfl
  | p :: q :: r, _ => by
    show p ++ ([32] ++ joinL [32] ((q :: r) ++ [x])) = (p ++ ([32] ++ joinL [32] (q :: r))) ++ ([32] ++ x)
    rw [joinL_snoc x (r := q :: r) (by simp)]
    simp
theorem joinL_last (x t : List Nat) : ∀ (r : List (List Nat)), joinL [32] (r ++ [x ++ t]) = joinL [32] (r ++ [x]) ++ t
  | [] => rfl
  | [p] => by
    show p ++ ([32] ++ (x ++ t)) = (p ++ ([32] ++ x)) ++ t
    simp
  | p :: q :: r => by
    show p ++ ([32] ++ joinL [32] ((q :: r) ++ [x ++ t])) = (p ++ ([32] ++ joinL [32] ((q :: r) ++ [x]))) ++ t
    rw [joinL_last x t (q :: r)]
    simp
/-- a word that is none -/
def Bad (x : Str) : Prop := x ∉ keys7 ∧ 32 ∉ tl x ∧ (tl x).length ≤ 30
theorem num_tl (r : Int) (h : 0 ≤ r) : tl (toString (3 + r) : Str) = numL (3 + r).toNat := by
  have e : (3 + r : Int) = (((3 + r).toNat : Nat) : Int) := by omega
  have q := tl_num (3 + r).toNat
  rw [← e] at q
  exact q
theorem num_ne {n : Nat} (h : 3 ≤ n) : numL n ≠ [48] ∧ numL n ≠ [49] ∧ numL n ≠ [50] := by
  have e0 : numL 0 = [48] := numL_lt (by decide)
  have e1 : numL 1 = [49] := numL_lt (by decide)
  have e2 : numL 2 = [50] := numL_lt (by decide)
  refine ⟨fun z => ?_, fun z => ?_, fun z => ?_⟩
  · rw [← e0] at z; have := numL_inj z; omega
  · rw [← e1] at z; have := numL_inj z; omega
  · rw [← e2] at z; have := numL_inj z; omega
theorem keys_tl {x : Str} (h : x ∈ keys7) : tl x ∈ [[48], [49], [50], [48, 110], [49, 110], [50, 110], [99, 114, 97, 115, 104]] := by
  have : ∀ k ∈ keys7, tl k ∈ [[48], [49], [50], [48, 110], [49, 110], [50, 110], [99, 114, 97, 115, 104]] := by decide +kernel
  exact this x h
theorem bad_num {x : Str} {n : Nat} (e : tl x = numL n) (h3 : 3 ≤ n) (hn : n < 10 ^ 21) : Bad x := by
  obtain ⟨a, b, c⟩ := num_ne h3
  refine ⟨fun hk => ?_, by rw [e]; exact numL_free (.inl (by decide)), by rw [e]; exact Nat.le_trans (numL_len (by decide) hn) (by decide)⟩
  have := keys_tl hk
  rw [e] at this
  have f110 : (110 : Nat) ∉ numL n := numL_free (.inr (by decide))
  have f99 : (99 : Nat) ∉ numL n := numL_free (.inr (by decide))
  simp only [List.mem_cons, List.not_mem_nil, or_false] at this
  rcases this with h | h | h | h | h | h | h
  · exact a h
  · exact b h
  · exact c h
  · rw [h] at f110; exact f110 (by decide)
  · rw [h] at f110; exact f110 (by decide)
  · rw [h] at f110; exact f110 (by decide)
  · rw [h] at f99; exact f99 (by decide)
theorem bad_numn {x : Str} {n : Nat} (e : tl x = numL n ++ [110]) (h3 : 3 ≤ n) (hn : n < 10 ^ 21) : Bad x := by
  obtain ⟨a, b, c⟩ := num_ne h3
  refine ⟨fun hk => ?_, ?_, by rw [e, List.length_append]; exact Nat.le_trans (Nat.add_le_add_right (numL_len (k := 21) (by decide) hn) 1) (by decide)⟩
  · have := keys_tl hk
    rw [e] at this
    simp only [List.mem_cons, List.not_mem_nil, or_false] at this
    have cut : ∀ {d : Nat}, numL n ++ [110] = [d, 110] → numL n = [d] := fun {d} h => List.append_cancel_right (cs := [d]) (bs := [110]) (by rw [h]; rfl)
    have last : ∀ {l : List Nat}, numL n ++ [110] = l → l.getLast? = some 110 := fun {l} h => by rw [← h]; simp
    rcases this with h | h | h | h | h | h | h
    · have := last h; simp at this
    · have := last h; simp at this
    · have := last h; simp at this
    · exact a (cut h)
    · exact b (cut h)
    · exact c (cut h)
    · have := last h; simp at this
  · rw [e]
    intro h
    rcases List.mem_append.mp h with h | h
    · exact numL_free (.inl (by decide)) h
    · simp at h
def litBad (x : Str) : Bool := !(keys7.contains x) && !((tl x).contains 32) && decide ((tl x).length ≤ 30)
theorem bad_lit {x : Str} (h : litBad x = true) : Bad x := by
  unfold litBad at h
  simp only [Bool.and_eq_true, Bool.not_eq_true', decide_eq_true_eq] at h
  obtain ⟨⟨h1, h2⟩, h3⟩ := h
  refine ⟨fun z => ?_, fun z => ?_, h3⟩
  · rw [List.contains_iff_mem.mpr z] at h1; exact nomatch h1
  · rw [List.contains_iff_mem.mpr z] at h2; exact nomatch h2
theorem cut_take (ws : List Str) (k : Nat) : cutV (ws.map V.str) none (some (k : Int)) = (ws.take k).map V.str := by
  unfold cutV
  rw [HT.sIx_none, HT.sIx_nat, List.drop_zero, Nat.sub_zero, List.map_take, List.length_map]
  rcases Nat.le_total k ws.length with h | h
  · rw [Nat.min_eq_left h]
  · rw [Nat.min_eq_right h, List.take_of_length_le (by rw [List.length_map]; exact Nat.le_refl _), List.take_of_length_le (by rw [List.length_map]; exact h)]
theorem cut_drop (ws : List Str) (k : Nat) (h : k ≤ ws.length) : cutV (ws.map V.str) (some (k : Int)) none = (ws.drop k).map V.str := by
  unfold cutV
  rw [HT.sIx_none, HT.sIx_nat, List.map_drop, List.length_map, Nat.min_eq_left h, List.take_of_length_le (by rw [List.length_drop, List.length_map]; exact Nat.le_refl _)]
theorem sum_le {n : Nat} : ∀ (l : List Str), (∀ x ∈ l, x.length ≤ n) → (l.map (·.length)).sum ≤ l.length * n
  | [], _ => Nat.zero_le _
  | x :: r, h => by
    have h1 := h x List.mem_cons_self
    have h2 := sum_le r fun y hy => h y (List.mem_cons_of_mem _ hy)
    rw [List.map_cons, List.sum_cons, List.length_cons, Nat.succ_mul]
    omega
theorem join_ok {l : List Str} (hl : l.length ≤ 32) (h : ∀ x ∈ l, (tl x).length ≤ 30) : (l.map (·.length)).sum + l.length * (" " : Str).length ≤ 16777216 ∧ (Txt.join " " l).length ≤ 992 := by
  constructor
  · have := sum_le (n := 30) l fun x hx => by rw [str_len]; exact h x hx
    have e : (" " : Str).length = 1 := by decide +kernel
    rw [e]
    have : l.length * 30 ≤ 32 * 30 := Nat.mul_le_mul_right _ hl
    omega
  · rw [str_len, join_tl]
    have := join_len (n := 30) (l.map tl) fun p hp => by
      obtain ⟨x, hx, rfl⟩ := List.mem_map.mp hp
      exact h x hx
    rw [List.length_map] at this
    have : l.length * 31 ≤ 32 * 31 := Nat.mul_le_mul_right _ hl
    omega
/-- two small tuples that are equal -/
theorem tup_same {K : PySem.W.Frag} {H : Hp} {u t : Addr} {k : Str} {n : Int} (hk : PyData.strOk k = true) (hu : H u = some (.tup [.str k, .int n])) (ht : H t = some (.tup [.str k, .int n])) :
    ∃ d, Dp K H (.ref u) d ∧ Dp K H (.ref t) d ∧ SeqAt.shaped d = true ∧ PyData.eqv d d = true := by
  have cl : PyData.canLay0 (.tuple [.str k, .int n]) = true := by
    show PyData.canLayAll0 [.str k, .int n] = true
    rw [PyData.canLayAll0, PyData.canLayAll0, PyData.canLayAll0]
    show (PyData.strOk k && (true && true)) = true
    rw [hk]; rfl
  refine ⟨.tuple [.str k, .int n], .tup (SqT.of hu) (.cons (.str k) (.cons (.int n) .nil)), .tup (SqT.of ht) (.cons (.str k) (.cons (.int n) .nil)), ?_, SeqAt.eqv_refl _ cl⟩
  unfold SeqAt.shaped
  rw [cl]
  exact decide_eq_true (by show PyData.depthAll [.str k, .int n] + 1 ≤ 64; rw [PyData.depthAll, PyData.depthAll, PyData.depthAll]; show max 0 (max 0 0) + 1 ≤ 64; decide)
theorem due_ok {z k : Str} {n : Int} (h : Due z k n) : PyData.strOk k = true := by
  rcases h with ⟨rfl, _⟩ | ⟨rfl, _⟩ <;> decide +kernel
/-- the pool p and the words ws at W -/
structure Sx (H : Hp) (p W : Addr) (ws : List Str) : Prop where
  pool : PoolAt H p
  at_ : H W = some (.lst (ws.map V.str))
  ne : p ≠ W
theorem Sx.same {H H' : Hp} {p W : Addr} {ws : List Str} (s : Same H H') (h : Sx H p W ws) : Sx H' p W ws := by
  obtain ⟨⟨x, y, z, e⟩, a, n⟩ := h
  exact ⟨⟨x, y, z, s _ _ e⟩, s _ _ a, n⟩
theorem Sx.kp {H H' : Hp} {p W : Addr} {ws : List Str} (k : Kp p H H') (P : PoolAt H' p) (h : Sx H p W ws) : Sx H' p W ws := ⟨P, k _ _ h.at_ h.ne.symm, h.ne⟩
end Tk
set_option maxRecDepth 100000
namespace Tk
open PySem L2 TL
def spLaw (K : PySem.W.Frag) : Sp := fun vs H Q _ => ∃ (a : Addr) (ns : List Int), vs = [.ref a] ∧ SqL K H a (ns.map V.int) ∧ ns.length ≤ 63 ∧ ∀ H', Q (.bl true) H'
abbrev nsL : List Str := ["_law_script", "_law_box_here", "_law_words", "_law_k", "_law_text", "_law_at", "_law_far", "_law_wrong", "_law_word", "_law_spoiled", "_law_other"]
theorem same_kp {H0 H1 H2 : Hp} {p : Addr} (s : Same H0 H1) (n : H0 p = none) (k : Kp p H1 H2) : Same H0 H2 := fun b o e => k b o (s b o e) (ne_of_none e n)
theorem pool_ne {H : Hp} {p a : Addr} (h : PoolAt H p) (n : H a = none) : p ≠ a := by
  obtain ⟨_, _, _, e⟩ := h
  intro z; rw [z, n] at e; cases e
theorem PoolAt.new {H : Hp} {p a : Addr} {o : HO} (h : PoolAt H p) (n : H a = none) : PoolAt (L2.upd H a o) p := by
  have ne := pool_ne h n
  obtain ⟨x, y, z, e⟩ := h
  exact ⟨x, y, z, by rw [upd_ne ne]; exact e⟩
section
variable {P : Program} {w : World} {K : PySem.W.Frag} {mg : Str → Option Value} {base : Heap}
theorem scL : FnScope nsL ["_law_script"] (defScope sLaw) := ⟨rfl, rfl, rfl, by decide +kernel, rfl, by decide +kernel, by decide +kernel⟩
theorem ok_law {f fB fP fF : Addr} {fd fdB fdP fdF : FuncData} (F : Fun K "law" "law" sLaw f fd) (B : Bl mg) (T : Bi mg) (hR : mg "range" = none) (hM : mg "max" = none)
    (GB : FnOk P w K mg base CX0 1 fB fdB ["_law_script", "_law_k"] (spBox K)) (bB : Binds K fdB ["_law_script", "_law_k"] []) (kB : PySem.W.keepIn K (.ref fB) = true) (mB : mg "_law_box" = some (.ref fB))
    (GP : FnOk P w K mg base CX0 1 fP fdP ["_law_box_here", "_law_size"] spPick) (bP : Binds K fdP ["_law_box_here", "_law_size"] []) (kP : PySem.W.keepIn K (.ref fP) = true) (mP : mg "_law_pick" = some (.ref fP))
    (GF : FnOk P w K mg base CX0 4 fF fdF ["_law_text"] spFound) (bF : Binds K fdF ["_law_text"] []) (kF : PySem.W.keepIn K (.ref fF) = true) (mF : mg "_law_found" = some (.ref fF)) :
    FnOk P w K mg base CX0 6 f fd ["_law_script"] (spLaw K) := by
  refine F.ok scL (fun vs H Q E h => ?_) (fun cdv A outer s H vs Q E hr h => ?_)
  · obtain ⟨a, ns, rfl, _⟩ := h
    rfl
  obtain ⟨a, ns, rfl, hS, hn, q⟩ := h
  refine ⟨_, (pss_cons (ps_set (i := 1) scL.nd rfl (Or.inl rfl) (pe_call GB (hr.mono (by decide)) rfl mB kB bB .nil pass0 (pa_cons (pv 0) (pa_cons (pe_int) pa_nil))))
 (pss_cons (ps_set (i := 2) scL.nd rfl (Or.inl rfl) (pe_lst pa_nil))
 (pss_cons (ps_for PassesOwn.never rfl (pi_range1 rfl hR (pa_cons (pe_call GP (hr.mono (by decide)) rfl mP kP bP .nil pass0 (pa_cons (pv 1) (pa_cons (pe_int) pa_nil))) pa_nil)) (pg_name (i := 3) scL.nd rfl (Or.inl rfl)) (pss_one (ps_expr (pe_bm PySem.F.plainAttrs_list PySem.F.slot_list_append PySem.F.type_list_append mt_append (pv 2) (pa_cons (pe_ix ix_list (pe_lst (pa_cons (pe_str) (pa_cons (pe_str) (pa_cons (pe_str) (pa_cons (pe_str) (pa_cons (pe_str) (pa_cons (pe_str) (pa_cons (pe_str) pa_nil)))))))) (pe_call GP (hr.mono (by decide)) rfl mP kP bP .nil pass0 (pa_cons (pv 1) (pa_cons (pe_int) pa_nil))) (fun _ _ => rfl)) pa_nil)))))
 (pss_cons (ps_set (i := 4) scL.nd rfl (Or.inl rfl) (pe_join (pe_str) (pv 2)))
 (pss_cons (ps_if (pt_cmpR (op_neD hr.units) (pe_call GF (hr.mono (by decide)) rfl mF kF bF .nil pass0 (pa_cons (pv 4) pa_nil)) (pe_tup (pa_cons (pe_str) (pa_cons (pe_callB call_len_seq (by rfl) B.len PySem.boot_len (pa_cons (pv 2) pa_nil)) pa_nil))) (nomark _)) (pss_one (ps_never)) pss_nil)
 (pss_cons (ps_set (i := 5) scL.nd rfl (Or.inl rfl) (pe_call GP (hr.mono (by decide)) rfl mP kP bP .nil pass0 (pa_cons (pv 1) (pa_cons (pe_op op_add (pe_callB call_len_seq (by rfl) B.len PySem.boot_len (pa_cons (pv 2) pa_nil)) (pe_int)) pa_nil))))
 (pss_cons (ps_set (i := 6) scL.nd rfl (Or.inl rfl) (pe_callTy call_str_int (by rfl) T.str (by decide +kernel) (pa_cons (pe_op op_add (pe_int) (pe_call GP (hr.mono (by decide)) rfl mP kP bP .nil pass0 (pa_cons (pv 1) (pa_cons (pe_op op_pow pe_int pe_int) pa_nil)))) pa_nil)))
 (pss_cons (ps_set (i := 7) scL.nd rfl (Or.inl rfl) (pe_lst (pa_cons (pe_str) (pa_cons (pv 6) (pa_cons (pe_op op_add_str (pv 6) (pe_str)) (pa_cons (pe_str) (pa_cons (pe_str) (pa_cons (pe_str) (pa_cons (pe_str) (pa_cons (pe_str) (pa_cons (pe_str) (pa_cons (pe_str) (pa_cons (pe_str) (pa_cons (pe_str) pa_nil))))))))))))))
 (pss_cons (ps_set (i := 7) scL.nd rfl (Or.inl rfl) (pe_op op_cat (pv 7) (pe_lst (pa_cons (pe_str) (pa_cons (pe_str) (pa_cons (pe_str) (pa_cons (pe_str) (pa_cons (pe_str) pa_nil))))))))
 (pss_cons (ps_set (i := 8) scL.nd rfl (Or.inl rfl) (pe_ix ix_list (pv 7) (pe_call GP (hr.mono (by decide)) rfl mP kP bP .nil pass0 (pa_cons (pv 1) (pa_cons (pe_int) pa_nil))) (fun _ _ => rfl)))
 (pss_cons (ps_set (i := 9) scL.nd rfl (Or.inl rfl) (pe_op op_cat (pe_op op_cat (pe_slice sl_list (pv 2) po_none (po_some (pv 5))) (pe_lst (pa_cons (pv 8) pa_nil))) (pe_slice sl_list (pv 2) (po_some (pv 5)) po_none)))
 (C8.pss_cut (ps_if (PW.pt (pw_or (pt_cmpR op_gt (pe_callB call_len_seq (by rfl) B.len PySem.boot_len (pa_cons (pv 9) pa_nil)) (pe_int) (nomark _)) (pw_or1 (pt_cmpR op_ne (pv 8) (pe_str) (nomark _))))) (pss_one (ps_if (pt_cmpR (op_neD hr.units) (pe_call GF (hr.mono (by decide)) rfl mF kF bF .nil pass0 (pa_cons (pe_join (pe_str) (pv 9)) pa_nil)) (pe_tup (pa_cons (pe_str) (pa_cons (pv 5) pa_nil))) (nomark _)) (pss_one (ps_never)) pss_nil)) pss_nil)
 (C8.pss_cut (ps_if (pt_cmpR op_gt (pe_callB call_len_seq (by rfl) B.len PySem.boot_len (pa_cons (pv 2) pa_nil)) (pe_int) (nomark _)) (pss_one (ps_if (PW.pt (pw_or (pt_cmpR (op_neD hr.units) (pe_call GF (hr.mono (by decide)) rfl mF kF bF .nil pass0 (pa_cons (pe_op op_add_str (pe_str) (pv 4)) pa_nil)) (pe_tup (pa_cons (pe_str) (pa_cons (pe_int) pa_nil))) (nomark _)) (pw_or1 (pt_cmpR (op_neD hr.units) (pe_call GF (hr.mono (by decide)) rfl mF kF bF .nil pass0 (pa_cons (pe_op op_add_str (pv 4) (pe_str)) pa_nil)) (pe_tup (pa_cons (pe_str) (pa_cons (pe_callB call_len_seq (by rfl) B.len PySem.boot_len (pa_cons (pv 2) pa_nil)) pa_nil))) (nomark _))))) (pss_one (ps_never)) pss_nil)) pss_nil)
 (pss_cons (ps_if (pt_cmpR (op_neD hr.units) (pe_call GF (hr.mono (by decide)) rfl mF kF bF .nil pass0 (pa_cons (pe_op op_add_str (pv 4) (pe_str)) pa_nil)) (pe_tup (pa_cons (pe_str) (pa_cons (pe_callB (call_max2 rfl) (by rfl) hM (by decide +kernel) (pa_cons (pe_int) (pa_cons (pe_op op_sub (pe_callB call_len_seq (by rfl) B.len PySem.boot_len (pa_cons (pv 2) pa_nil)) (pe_int)) pa_nil))) pa_nil))) (nomark _)) (pss_one (ps_never)) pss_nil)
 (pss_cons (ps_set (i := 10) scL.nd rfl (Or.inl rfl) (pe_ix ix_list (pe_lst (pa_cons (pe_non) (pa_cons (pe_int) (pa_cons (pe_lst (pa_cons (pe_str) pa_nil)) (pa_cons (pe_tup pa_nil) (pa_cons (pe_bl) (pa_cons (pe_dnewK) pa_nil))))))) (pe_call GP (hr.mono (by decide)) rfl mP kP bP .nil pass0 (pa_cons (pv 1) (pa_cons (pe_int) pa_nil))) (fun _ _ => rfl)))
 (pss_one (ps_ret (pe_and (pe_cmpR (op_eqD hr.units) (pe_call GF (hr.mono (by decide)) rfl mF kF bF .nil pass0 (pa_cons (pv 10) pa_nil)) (pe_tup (pa_cons (pe_str) (pa_cons (pe_un un_neg (pe_int)) pa_nil))) (nomark _)) (pe_one (pe_cmpR (op_eqD hr.units) (pe_call GF (hr.mono (by decide)) rfl mF kF bF .nil pass0 (pa_cons (pe_str) pa_nil)) (pe_tup (pa_cons (pe_str) (pa_cons (pe_int) pa_nil))) (nomark _))))))))))))))))))))), ?_⟩
  refine ⟨_, rfl, a, ns, 0, rfl, hS, Int.le_refl _, fun p H1 hp s1 P1 => ?_⟩
  refine ⟨Nat.zero_le _, fun W hW => ?_⟩
  have nW := pool_ne P1 hW
  refine ⟨_, rfl, p, 31, rfl, P1.new hW, by decide, by decide +kernel, fun r H2 r0 r1 k2 P2 => ⟨r, rfl, by omega, by omega, ?_⟩⟩
  refine for_range (lo := 0) (n := r.toNat) (fun i σ H3 => ∃ (ws : List Str) (v3 : Option V), σ = [some (.ref a), some (.ref p), some (.ref W), v3, none, none, none, none, none, none, none] ∧ ws.length = i ∧ i ≤ r.toNat ∧ (∀ x ∈ ws, x ∈ keys7) ∧ Sx H3 p W ws)
    ⟨[], _, rfl, rfl, Nat.zero_le _, fun x hx => (nomatch hx), P2, k2 _ _ upd_same nW.symm, nW⟩ ?_ ?_
  · rintro i σ H3 hi ⟨ws, v3, rfl, hl, _, hk, S3⟩
    refine ⟨_, rfl, .inl ⟨rfl, _, SqL.of S3.at_⟩, ?_⟩
    refine ⟨(by show 7 ≤ sizeLine; decide), fun l hl0 => ?_⟩
    have S4 := S3.same (same_new hl0 (.lst (keys7.map V.str)))
    refine ⟨_, rfl, p, 7, rfl, S4.pool, by decide, by decide +kernel, fun d H5 d0 d1 k5 P5 => ?_⟩
    have S5 := S4.kp k5 P5
    have hl5 := k5 _ _ upd_same (pool_ne S3.pool hl0).symm
    obtain ⟨x, ex, kx⟩ : ∃ x, atI (keys7.map V.str) d = some (.str x) ∧ x ∈ keys7 := by
      have : d = 0 ∨ d = 1 ∨ d = 2 ∨ d = 3 ∨ d = 4 ∨ d = 5 ∨ d = 6 := by omega
      rcases this with rfl | rfl | rfl | rfl | rfl | rfl | rfl
      · exact ⟨"0", rfl, by decide +kernel⟩
      · exact ⟨"1", rfl, by decide +kernel⟩
      · exact ⟨"2", rfl, by decide +kernel⟩
      · exact ⟨"0n", rfl, by decide +kernel⟩
      · exact ⟨"1n", rfl, by decide +kernel⟩
      · exact ⟨"2n", rfl, by decide +kernel⟩
      · exact ⟨"crash", rfl, by decide +kernel⟩
    refine ⟨l, _, _, _, rfl, rfl, SqL.of hl5, ex, W, _, _, rfl, rfl, S5.at_, small1000 (by rw [List.length_map]; omega), ws ++ [x], _, rfl, by rw [List.length_append, hl]; rfl, hi, fun y hy => ?_, ?_, by rw [upd_same, List.map_append]; rfl, S5.ne⟩
    · rcases List.mem_append.mp hy with h | h
      · exact hk y h
      · rw [List.mem_singleton.mp h]; exact kx
    · obtain ⟨x', y', z', e⟩ := S5.pool
      exact ⟨x', y', z', by rw [upd_ne S5.ne]; exact e⟩
  rintro σ H3 ⟨ws, v3, rfl, hl, hle, hk, S3⟩
  have lw : ws.length ≤ 30 := by omega
  have kl : ∀ x ∈ ws, (tl x).length ≤ 30 := fun x hx => Nat.le_trans (key_free x (hk x hx)).2.2.2 (by decide)
  obtain ⟨jo1, jo2⟩ := join_ok (l := ws) (by omega) kl
  refine ⟨⟨_, rfl⟩, _, rfl, _, W, ws, rfl, rfl, .inl (SqL.of S3.at_), jo1, ?_⟩
  have etx : tl (Txt.join " " ws) = joinL [32] (ws.map tl) := join_tl ws
  generalize Txt.join " " ws = tx at jo2 etx ⊢
--BEGIN
  refine ⟨_, rfl, .str tx, "told", ((ws.length : Nat) : Int), rfl, (.inl ⟨tx, rfl, by omega, due_told etx hk⟩), fun u4 H4 s4 hu4 => ?_⟩
  have S4 := S3.same s4
  refine ⟨_, rfl, W, _, rfl, .inl (SqL.of S4.at_), (by show 2 ≤ sizeLine; decide), fun t4 ht4 => ?_⟩
  rw [List.length_map]
  obtain ⟨d4, e14, e24, sh4, eq4⟩ := tup_same (K := K) (k := "told") (n := ((ws.length : Nat) : Int)) (by decide +kernel) ((same_new ht4 _) _ _ hu4) upd_same
  refine ⟨d4, d4, e14, e24, sh4, sh4, _, rfl, iteFb (by rw [eq4]; rfl) ?_⟩
  have S5 := S4.same (same_new ht4 (.tup [.str "told", .int ((ws.length : Nat) : Int)]))
  clear d4 e14 e24 sh4 eq4

  have lg : ∀ m : Int, 0 < m → m ≤ 1000 → m.natAbs.log2 < 9000 := fun m h0 h1 => Nat.lt_of_le_of_lt (Nat.log2_le_self _) (by omega)
  refine ⟨_, rfl, _, rfl, W, _, rfl, .inl (SqL.of S5.at_), _, _, rfl, rfl, p, _, rfl, S5.pool, by rw [List.length_map]; omega, lg _ (by rw [List.length_map]; omega) (by rw [List.length_map]; omega), fun at_ H6 a0 a1 k6 P6 => ?_⟩
  have S6 := S5.kp k6 P6
  rw [List.length_map] at a1
  obtain ⟨m, rfl⟩ : ∃ m : Nat, at_ = (m : Int) := ⟨at_.toNat, by omega⟩
  have hm : m ≤ ws.length := by omega
  clear a0 a1
  refine ⟨_, rfl, _, _, rfl, rfl, ⟨by decide, by decide, by decide⟩, p, _, rfl, S6.pool, by decide +kernel, by decide +kernel, fun rf H7 f0 f1 k7 P7 => ⟨_, _, rfl, rfl, _, rfl, ?_, ?_⟩⟩
  · have e : (10 : Int) ^ (Int.toNat 20) = 100000000000000000000 := by decide +kernel
    rw [e] at f1
    exact PySem.Flt.log2_lt_of (by decide) (Nat.lt_of_lt_of_le (show (3 + rf).natAbs < 2 ^ 70 by omega) (Nat.pow_le_pow_right (by decide) (by decide)))
  have S7 := S6.kp k7 P7
  have etf := num_tl rf f0
  have nf3 : 3 ≤ (3 + rf).toNat := by omega
  have nf21 : (3 + rf).toNat < 10 ^ 21 := by
    have e : (10 : Int) ^ (Int.toNat 20) = 100000000000000000000 := by decide +kernel
    rw [e] at f1
    have e2 : 10 ^ 21 = 1000000000000000000000 := by decide +kernel
    rw [e2]
    omega
  generalize (toString (3 + rf) : Str) = far at etf ⊢
  generalize (3 + rf).toNat = nf at etf nf3 nf21
  have lfar : far.length ≤ 21 := by rw [str_len, etf]; exact numL_len (by decide) nf21
  have etn : tl (far ++ "n" : Str) = numL nf ++ [110] := by rw [tl_append, etf]; rfl
  refine ⟨_, rfl, _, rfl, _, _, rfl, rfl, ?_, (by show 12 ≤ sizeLine; decide), fun l1 hl1 => ?_⟩
  · show far.length + 1 ≤ sizeLine
    exact Nat.le_of_lt (small1000 (by omega))
  refine ⟨_, rfl, (by show 5 ≤ sizeLine; decide), fun l2 hl2 => ?_⟩
  have n12 : l1 ≠ l2 := ne_of_none upd_same hl2
  refine ⟨l1, l2, _, _, rfl, rfl, by rw [upd_ne n12]; exact upd_same, upd_same, (by show 17 ≤ sizeLine; decide), fun l3 hl3 => ?_⟩
  have S8 := ((S7.same (same_new hl1 _)).same (same_new hl2 _)).same (same_new hl3 (.lst ([.str "", .str far, .str (far ++ "n"), .str "0y", .str "nn", .str "n", .str "-1", .str "+1", .str "00", .str "01", .str "0N", .str "1nn"] ++ [.str "Crash", .str "crashn", .str "cras", .str "\t", .str "0,"])))
  have n3 := pool_ne ((S7.same (same_new hl1 _)).same (same_new hl2 _)).pool hl3
  refine ⟨_, rfl, _, rfl, p, 17, rfl, S8.pool, by decide, by decide +kernel, fun d H9 d0 d1 k9 P9 => ?_⟩
  have S9 := S8.kp k9 P9
  have hl9 := k9 _ _ upd_same n3.symm
  obtain ⟨x, ex, bx⟩ : ∃ x, atI ([V.str "", .str far, .str (far ++ "n"), .str "0y", .str "nn", .str "n", .str "-1", .str "+1", .str "00", .str "01", .str "0N", .str "1nn"] ++ [.str "Crash", .str "crashn", .str "cras", .str "\t", .str "0,"]) d = some (.str x) ∧ Bad x := by
    have : d = 0 ∨ d = 1 ∨ d = 2 ∨ d = 3 ∨ d = 4 ∨ d = 5 ∨ d = 6 ∨ d = 7 ∨ d = 8 ∨ d = 9 ∨ d = 10 ∨ d = 11 ∨ d = 12 ∨ d = 13 ∨ d = 14 ∨ d = 15 ∨ d = 16 := by omega
    rcases this with rfl | rfl | rfl | rfl | rfl | rfl | rfl | rfl | rfl | rfl | rfl | rfl | rfl | rfl | rfl | rfl | rfl
    · exact ⟨"", rfl, bad_lit (by decide +kernel)⟩
    · exact ⟨far, rfl, bad_num etf nf3 nf21⟩
    · exact ⟨_, rfl, bad_numn etn nf3 nf21⟩
    · exact ⟨"0y", rfl, bad_lit (by decide +kernel)⟩
    · exact ⟨"nn", rfl, bad_lit (by decide +kernel)⟩
    · exact ⟨"n", rfl, bad_lit (by decide +kernel)⟩
    · exact ⟨"-1", rfl, bad_lit (by decide +kernel)⟩
    · exact ⟨"+1", rfl, bad_lit (by decide +kernel)⟩
    · exact ⟨"00", rfl, bad_lit (by decide +kernel)⟩
    · exact ⟨"01", rfl, bad_lit (by decide +kernel)⟩
    · exact ⟨"0N", rfl, bad_lit (by decide +kernel)⟩
    · exact ⟨"1nn", rfl, bad_lit (by decide +kernel)⟩
    · exact ⟨"Crash", rfl, bad_lit (by decide +kernel)⟩
    · exact ⟨"crashn", rfl, bad_lit (by decide +kernel)⟩
    · exact ⟨"cras", rfl, bad_lit (by decide +kernel)⟩
    · exact ⟨"\t", rfl, bad_lit (by decide +kernel)⟩
    · exact ⟨"0,", rfl, bad_lit (by decide +kernel)⟩
  refine ⟨l3, _, _, _, rfl, rfl, SqL.of hl9, ex, ?_⟩
  clear ex hl9 S8 S7 S6 S5 S4 S3 P9 P7 P6 P2 P1 k9 k7 k6 k2
  refine ⟨_, rfl, _, rfl, m, rfl, W, _, rfl, SqL.of S9.at_, fun c1 hc1 => ?_⟩
  rw [cut_take]
  have Sa := S9.same (same_new hc1 (.lst ((ws.take m).map V.str)))
  refine ⟨_, rfl, (by show 1 ≤ sizeLine; decide), fun c2 hc2 => ?_⟩
  have nc12 : c1 ≠ c2 := ne_of_none upd_same hc2
  have lt : (ws.take m).length = m := by rw [List.length_take]; omega
  refine ⟨c1, c2, _, _, rfl, rfl, by rw [upd_ne nc12]; exact upd_same, upd_same, Nat.le_of_lt (small1000 (by simp; omega)), fun c3 hc3 => ?_⟩
  have Sb := (Sa.same (same_new hc2 (.lst [.str x]))).same (same_new hc3 (.lst ((ws.take m).map V.str ++ [.str x])))
  refine ⟨_, rfl, _, rfl, m, rfl, W, _, rfl, SqL.of Sb.at_, fun c4 hc4 => ?_⟩
  rw [cut_drop _ _ hm]
  have nc34 : c3 ≠ c4 := ne_of_none upd_same hc4
  refine ⟨c3, c4, _, _, rfl, rfl, by rw [upd_ne nc34]; exact upd_same, upd_same, Nat.le_of_lt (small1000 (by simp; omega)), fun c5 hc5 => ?_⟩
  have Sc := (Sb.same (same_new hc4 (.lst ((ws.drop m).map V.str)))).same (same_new hc5 (.lst ((ws.take m).map V.str ++ [.str x] ++ (ws.drop m).map V.str)))
  have eSp : (ws.take m).map V.str ++ [.str x] ++ (ws.drop m).map V.str = (ws.take m ++ x :: ws.drop m).map V.str := by simp
  rw [eSp] at Sc ⊢
  have hSp : (L2.upd (L2.upd (L2.upd (L2.upd (L2.upd H9 c1 (.lst ((ws.take m).map V.str))) c2 (.lst [.str x])) c3 (.lst ((ws.take m).map V.str ++ [.str x]))) c4 (.lst ((ws.drop m).map V.str))) c5 (.lst ((ws.take m ++ x :: ws.drop m).map V.str))) c5 = some (.lst ((ws.take m ++ x :: ws.drop m).map V.str)) := upd_same
  generalize (L2.upd (L2.upd (L2.upd (L2.upd (L2.upd H9 c1 (.lst ((ws.take m).map V.str))) c2 (.lst [.str x])) c3 (.lst ((ws.take m).map V.str ++ [.str x]))) c4 (.lst ((ws.drop m).map V.str))) c5 (.lst ((ws.take m ++ x :: ws.drop m).map V.str))) = Hd at Sc hSp ⊢
  have lsp : (ws.take m ++ x :: ws.drop m).length = ws.length + 1 := by rw [List.length_append, List.length_cons, lt, List.length_drop]; omega
  have ksp : ∀ y ∈ ws.take m ++ x :: ws.drop m, (tl y).length ≤ 30 := fun y hy => by
    rcases List.mem_append.mp hy with h | h
    · exact kl y (List.mem_of_mem_take h)
    · rcases List.mem_cons.mp h with rfl | h
      · exact bx.2.2
      · exact kl y (List.mem_of_mem_drop h)
  obtain ⟨js1, js2⟩ := join_ok (l := ws.take m ++ x :: ws.drop m) (by omega) ksp
  have esp : tl (Txt.join " " (ws.take m ++ x :: ws.drop m)) = joinL [32] ((ws.take m ++ x :: ws.drop m).map tl) := join_tl _
  have done1 : (2 ≤ (ws.take m ++ x :: ws.drop m).length ∨ tl x ≠ []) → Due (Txt.join " " (ws.take m ++ x :: ws.drop m)) "line" ((m : Nat) : Int) := fun h => by
    have := due_line esp (fun y hy => hk y (List.mem_of_mem_take hy)) bx.1 bx.2.1 (fun y hy => (key_free y (hk y (List.mem_of_mem_drop hy))).1) h
    rwa [lt] at this
  refine ⟨fun σ' H' => σ' = [some (.ref a), some (.ref p), some (.ref W), v3, some (.str tx), some (.int m), some (.str far), some (.ref l3), some (.str x), some (.ref c5), none] ∧ Sx H' p W ws, ?_, ?_⟩
  · refine ⟨_, rfl, c5, _, rfl, .inl (SqL.of hSp), _, _, rfl, rfl, _, rfl, ite2 (fun c => ?_) (fun c => ?_)⟩
    · have c2 : 2 ≤ (ws.take m ++ x :: ws.drop m).length := by
        have := of_decide_eq_true c
        rw [List.length_map] at this
        omega
      refine ⟨⟨_, rfl⟩, _, rfl, _, c5, _, rfl, rfl, .inl (SqL.of hSp), js1, .str (Txt.join " " (ws.take m ++ x :: ws.drop m)), "line", ((m : Nat) : Int), rfl, (.inl ⟨_, rfl, by omega, done1 (.inl c2)⟩), fun ua Ha sa hua => ?_⟩
      have Sa := Sc.same sa
      refine ⟨_, rfl, (by show 2 ≤ sizeLine; decide), fun ta hta => ?_⟩
      obtain ⟨da, e1a, e2a, sha, eqa⟩ := tup_same (K := K) (k := "line") (n := ((m : Nat) : Int)) (by decide +kernel) ((same_new hta _) _ _ hua) upd_same
      refine ⟨da, da, e1a, e2a, sha, sha, _, rfl, iteFb (by rw [eqa]; rfl) ?_⟩
      have Sf := Sa.same (same_new hta (.tup [.str "line", .int ((m : Nat) : Int)]))
      clear da e1a e2a sha eqa
      exact ⟨rfl, Sf⟩
    · refine ⟨_, rfl, rfl, _, rfl, ite2 (fun c' => ?_) (fun c' => ?_)⟩
      · have nx : tl x ≠ [] := fun z => by
          have ex : x = "" := str_ext (by rw [z]; rfl)
          rw [ex] at c'
          exact absurd c' (by decide +kernel)
        refine ⟨⟨_, rfl⟩, _, rfl, _, c5, _, rfl, rfl, .inl (SqL.of hSp), js1, .str (Txt.join " " (ws.take m ++ x :: ws.drop m)), "line", ((m : Nat) : Int), rfl, (.inl ⟨_, rfl, by omega, done1 (.inr nx)⟩), fun ub Hb sb hub => ?_⟩
        have Sb := Sc.same sb
        refine ⟨_, rfl, (by show 2 ≤ sizeLine; decide), fun tb htb => ?_⟩
        obtain ⟨db, e1b, e2b, shb, eqb⟩ := tup_same (K := K) (k := "line") (n := ((m : Nat) : Int)) (by decide +kernel) ((same_new htb _) _ _ hub) upd_same
        refine ⟨db, db, e1b, e2b, shb, shb, _, rfl, iteFb (by rw [eqb]; rfl) ?_⟩
        have Sf := Sb.same (same_new htb (.tup [.str "line", .int ((m : Nat) : Int)]))
        clear db e1b e2b shb eqb
        exact ⟨rfl, Sf⟩
      · exact ⟨rfl, Sc⟩
  rintro σ' He ⟨rfl, Se⟩
  clear hSp Sc js1 js2 esp done1 ksp lsp eSp
  have dsp : 32 ∉ tl ("" : Str) := by decide +kernel
  have ebad : Bad "" := bad_lit (by decide +kernel)
  have esp : (" " : Str).length = 1 := by decide +kernel
  have tsp : tl (" " : Str) = [32] := tl_sp
  have big : (2000 : Nat) ≤ sizeLine := by decide
  refine ⟨fun σ' H' => σ' = [some (.ref a), some (.ref p), some (.ref W), v3, some (.str tx), some (.int m), some (.str far), some (.ref l3), some (.str x), some (.ref c5), none] ∧ Sx H' p W ws, ?_, ?_⟩
  · refine ⟨_, rfl, W, _, rfl, .inl (SqL.of Se.at_), _, _, rfl, rfl, _, rfl, ite2 (fun c => ?_) (fun c => ⟨rfl, Se⟩)⟩
    have c0 : ws ≠ [] := fun z => by
      rw [z] at c
      exact absurd c (by decide)
    have cm : ws.map tl ≠ [] := fun z => c0 (List.map_eq_nil_iff.mp z)
    have c1 : 1 ≤ ws.length := by
      cases ws with
      | nil => exact absurd rfl c0
      | cons _ _ => rw [List.length_cons]; omega
    have due1 : Due (" " ++ tx) "line" ((0 : Nat) : Int) := by
      refine due_line (a := []) (wd := "") (b := ws) ?_ (fun y hy => nomatch hy) ebad.1 dsp (fun y hy => (key_free y (hk y hy)).1) (.inl (by rw [List.nil_append, List.length_cons]; omega))
      rw [tl_append, etx, tsp, List.nil_append, List.map_cons, joinL_cons _ cm]
      rfl
    have due2 : Due (tx ++ " ") "line" ((ws.length : Nat) : Int) := by
      refine due_line (a := ws) (wd := "") (b := []) ?_ hk ebad.1 dsp (fun y hy => nomatch hy) (.inl (by rw [List.length_append, List.length_singleton]; omega))
      rw [tl_append, etx, tsp, List.map_append]
      show _ = joinL [32] (ws.map tl ++ [[]])
      rw [joinL_snoc [] cm]
      simp
    have l1' : (" " ++ tx : Str).length ≤ 2000 := by rw [len_app, esp]; omega
    have l2' : (tx ++ " " : Str).length ≤ 2000 := by rw [len_app, esp]; omega
    refine ⟨_, rfl, _, _, rfl, rfl, (by rw [esp]; omega), .str (" " ++ tx), "line", ((0 : Nat) : Int), rfl, (.inl ⟨_, rfl, by omega, due1⟩), fun uc Hc sc huc => ?_⟩
    have Sc := Se.same sc
    refine ⟨(by show 2 ≤ sizeLine; decide), fun tc htc => ?_⟩
    obtain ⟨dc, e1c, e2c, shc, eqc⟩ := tup_same (K := K) (k := "line") (n := ((0 : Nat) : Int)) (by decide +kernel) ((same_new htc _) _ _ huc) upd_same
    refine ⟨dc, dc, e1c, e2c, shc, shc, _, rfl, iteFb (by rw [eqc]; rfl) ?_⟩
    have Sg := Sc.same (same_new htc (.tup [.str "line", .int ((0 : Nat) : Int)]))
    clear dc e1c e2c shc eqc
    refine ⟨_, rfl, _, _, rfl, rfl, (by rw [esp]; omega), .str (tx ++ " "), "line", ((ws.length : Nat) : Int), rfl, (.inl ⟨_, rfl, by omega, due2⟩), fun ue1 He1 se1 hue1 => ?_⟩
    have Se1 := Sg.same se1
    refine ⟨_, rfl, W, _, rfl, .inl (SqL.of Se1.at_), (by show 2 ≤ sizeLine; decide), fun te1 hte1 => ?_⟩
    rw [List.length_map]
    obtain ⟨de1, e1e1, e2e1, she1, eqe1⟩ := tup_same (K := K) (k := "line") (n := ((ws.length : Nat) : Int)) (by decide +kernel) ((same_new hte1 _) _ _ hue1) upd_same
    refine ⟨de1, de1, e1e1, e2e1, she1, she1, _, rfl, iteFb (by rw [eqe1]; rfl) ?_⟩
    have Sh := Se1.same (same_new hte1 (.tup [.str "line", .int ((ws.length : Nat) : Int)]))
    clear de1 e1e1 e2e1 she1 eqe1
    exact ⟨rfl, Sh⟩
  rintro σ' Hf ⟨rfl, Sf⟩
  have enl : ("\n" : Str).length = 1 := by decide +kernel
  have tnl : tl ("\n" : Str) = [10] := by decide +kernel
  have due3 : Due (tx ++ "\n") "line" (((ws.length - 1 : Nat) : Nat) : Int) := by
    rcases List.eq_nil_or_concat ws with rfl | ⟨init, last, rfl⟩
    · refine (show Due (tx ++ "\n") "line" ((([] : List Str).length : Nat) : Int) from due_line (a := []) (wd := "\n") (b := []) ?_ (fun y hy => nomatch hy) (by decide +kernel) (by decide +kernel) (fun y hy => nomatch hy) (.inr (by decide +kernel)))
      rw [tl_append, etx]
      rfl
    · rw [List.concat_eq_append] at hk etx ⊢
      have kla := key_free last (hk last (by simp))
      have tlast : tl (last ++ "\n" : Str) = tl last ++ [10] := by rw [tl_append, tnl]
      have := due_line (z := tx ++ "\n") (a := init) (wd := last ++ "\n") (b := []) (by
          rw [tl_append, etx, tnl, List.map_append, List.map_append]
          show joinL [32] (init.map tl ++ [tl last]) ++ [10] = joinL [32] (init.map tl ++ [tl (last ++ "\n")])
          rw [tlast, joinL_last]) (fun y hy => hk y (by simp [hy])) (fun h => (key_free _ h).2.1 (by rw [tlast]; simp)) (by rw [tlast]; intro h; rcases List.mem_append.mp h with h | h; exact kla.1 h; simp at h) (fun y hy => nomatch hy) (.inr (by rw [tlast]; simp))
      rw [List.length_append, List.length_singleton, Nat.add_sub_cancel]
      exact this
  have l3' : (tx ++ "\n" : Str).length ≤ 2000 := by rw [len_app, enl]; omega
  refine ⟨_, rfl, _, _, rfl, rfl, (by rw [enl]; omega), ?_⟩
  refine ⟨.str (tx ++ "\n"), "line", _, rfl, .inl ⟨_, rfl, by omega, due3⟩, fun u7 H7 s7 hu7 => ?_⟩
  have S7 := Sf.same s7
  refine ⟨_, rfl, W, _, rfl, .inl (SqL.of S7.at_), _, _, rfl, rfl, _, _, rfl, ?_⟩
  refine ⟨(by show 2 ≤ sizeLine; decide), fun t7 ht7 => ?_⟩
  have em : ∀ n : Nat, (if ((n : Int) - 1 > 0) then ((n : Int) - 1) else 0) = ((n - 1 : Nat) : Int) := by intro n; split <;> omega
  rw [List.length_map, em]
  obtain ⟨d7, e17, e27, sh7, eq7⟩ := tup_same (K := K) (k := "line") (n := ((ws.length - 1 : Nat) : Int)) (by decide +kernel) ((same_new ht7 _) _ _ hu7) upd_same
  refine ⟨d7, d7, e17, e27, sh7, sh7, _, rfl, iteFb (by rw [eq7]; rfl) ?_⟩
  have S8 := S7.same (same_new ht7 (.tup [.str "line", .int ((ws.length - 1 : Nat) : Int)]))
  generalize (L2.upd H7 t7 (.tup [.str "line", .int ((ws.length - 1 : Nat) : Int)])) = H8 at S8 ⊢
  clear e17 e27
  refine ⟨(by show 1 ≤ sizeLine; decide), fun o1 ho1 => ⟨(by show 0 ≤ sizeLine; decide), fun o2 ho2 => fun o3 ho3 => ⟨(by show 6 ≤ sizeLine; decide), fun l8 hl8 => ?_⟩⟩⟩
  have q1 := (((same_new ho2 (.tup [])).trans (same_new ho3 (.dK []))).trans (same_new hl8 (.lst [.non, .int 0, .ref o1, .ref o2, .bl true, .ref o3]))) _ _ (show (L2.upd H8 o1 (.lst [.str "0"])) o1 = _ from upd_same)
  have q2 := ((same_new ho3 (.dK [])).trans (same_new hl8 (.lst [.non, .int 0, .ref o1, .ref o2, .bl true, .ref o3]))) _ _ (show (L2.upd (L2.upd H8 o1 (.lst [.str "0"])) o2 (.tup [])) o2 = _ from upd_same)
  have q3 := (same_new hl8 (.lst [.non, .int 0, .ref o1, .ref o2, .bl true, .ref o3])) _ _ (show (L2.upd (L2.upd (L2.upd H8 o1 (.lst [.str "0"])) o2 (.tup [])) o3 (.dK [])) o3 = _ from upd_same)
  have S9 := (((S8.same (same_new ho1 (.lst [.str "0"]))).same (same_new ho2 (.tup []))).same (same_new ho3 (.dK [])))
  have n8 := pool_ne S9.pool hl8
  have Sa := S9.same (same_new hl8 (.lst [.non, .int 0, .ref o1, .ref o2, .bl true, .ref o3]))
  have r1 := pool_ne S8.pool ho1
  have r3 := pool_ne ((S8.same (same_new ho1 (.lst [.str "0"]))).same (same_new ho2 (.tup []))).pool ho3
  have hl8' : (L2.upd (L2.upd (L2.upd (L2.upd H8 o1 (.lst [.str "0"])) o2 (.tup [])) o3 (.dK [])) l8 (.lst [.non, .int 0, .ref o1, .ref o2, .bl true, .ref o3])) l8 = _ := upd_same
  generalize (L2.upd (L2.upd (L2.upd (L2.upd H8 o1 (.lst [.str "0"])) o2 (.tup [])) o3 (.dK [])) l8 (.lst [.non, .int 0, .ref o1, .ref o2, .bl true, .ref o3])) = Ha at q1 q2 q3 Sa hl8' ⊢
  refine ⟨_, rfl, p, 6, rfl, Sa.pool, by decide, by decide +kernel, fun d Hb d0 d1 kb Pb => ?_⟩
  obtain ⟨v, ev, T', kd, kbv⟩ : ∃ v, atI [V.non, .int 0, .ref o1, .ref o2, .bl true, .ref o3] d = some v ∧ ∃ T, Kd Hb v T ∧ kitB T "str" = some false := by
    have : d = 0 ∨ d = 1 ∨ d = 2 ∨ d = 3 ∨ d = 4 ∨ d = 5 := by omega
    rcases this with rfl | rfl | rfl | rfl | rfl | rfl
    · exact ⟨_, rfl, _, .non, by decide +kernel⟩
    · exact ⟨_, rfl, _, .int 0, by decide +kernel⟩
    · exact ⟨_, rfl, _, .lst (kb _ _ q1 r1.symm), by decide +kernel⟩
    · obtain ⟨_, _, _, e⟩ := Sa.pool
      exact ⟨_, rfl, _, .tup (kb.tup e q2), by decide +kernel⟩
    · exact ⟨_, rfl, _, .bl true, by decide +kernel⟩
    · exact ⟨_, rfl, _, .dK (kb _ _ q3 r3.symm), by decide +kernel⟩
  refine ⟨l8, _, _, _, rfl, rfl, SqL.of (kb _ _ hl8' n8.symm), ev, ?_⟩
  refine ⟨_, rfl, v, "line", -1, rfl, .inr ⟨rfl, rfl, T', kd, kbv⟩, fun u9 H9' s9' hu9 => ?_⟩
  refine ⟨_, rfl, (by show 2 ≤ sizeLine; decide), fun t9 ht9 => ?_⟩
  obtain ⟨d9, e19, e29, sh9, eq9⟩ := tup_same (K := K) (k := "line") (n := -1) (by decide +kernel) ((same_new ht9 _) _ _ hu9) upd_same
  refine ⟨d9, d9, e19, e29, sh9, sh9, _, rfl, ?_⟩
  rw [eq9]
  have due4 : Due " " "line" ((0 : Nat) : Int) := due_line (a := []) (wd := "") (b := [""]) (by rw [tsp]; rfl) (fun y hy => nomatch hy) ebad.1 dsp (fun y hy => by rw [List.mem_singleton.mp hy]; exact dsp) (.inl (by decide))
  refine iteT ⟨.str " ", "line", ((0 : Nat) : Int), rfl, .inl ⟨_, rfl, by rw [esp]; omega, due4⟩, fun ua Hc sc hua => ?_⟩
  refine ⟨(by show 2 ≤ sizeLine; decide), fun ta hta => ?_⟩
  obtain ⟨da, e1a, e2a, sha, eqa⟩ := tup_same (K := K) (k := "line") (n := ((0 : Nat) : Int)) (by decide +kernel) ((same_new hta _) _ _ hua) upd_same
  refine ⟨da, da, e1a, e2a, sha, sha, ?_⟩
  rw [eqa]
  exact q _
end
end Tk
set_option maxRecDepth 100000
namespace Tk
open PySem L2 PyProof.Rows
theorem kit_ty1 {K : PySem.W.Frag} {D : Addr} {t : String} {b : Bool} (s : PySem.W.subIn K (.ref D) (.type t) = some b) (ht : PySem.W.kitOne K (.ref D) (.type t) = PySem.W.subIn K (.ref D) (.type t)) : PySem.W.kitOne K (.ref D) (.type t) = some b := ht.trans s
theorem kit_ref {K : PySem.W.Frag} {D C : Addr} {b : Bool} (hne : (Value.ref D == Value.ref C) = false) (ic : PySem.W.isClsIn K C = true) (tC : PySem.W.typeIn K (.ref C) = some (.type "type")) (s : PySem.W.subIn K (.ref D) (.ref C) = some b) : PySem.W.kitOne K (.ref D) (.ref C) = some b := by
  have e1 : (PySem.W.clsIn K C).isSome = true := ic
  unfold PySem.W.kitOne
  rw [hne, if_neg (by decide)]
  show (if ((PySem.W.clsIn K C).isSome && PySem.W.typeIn K (.ref C) == some (.type "type")) = true then PySem.W.subIn K (.ref D) (.ref C) else none) = some b
  rw [e1, tC, if_pos (show (true && some (Value.type "type") == some (Value.type "type")) = true from by rw [beq_self_eq_true]; rfl)]
  exact s
theorem ve_ok {CT : Addr} : PySem.HandSPX.refsVE [.ref CT, .type "ValueError", .type "Exception", .type "BaseException", .type "object"] = true := by
  show PySem.HandSPX.refsVE [.type "ValueError", .type "Exception", .type "BaseException", .type "object"] = true
  decide +kernel

theorem all_mk {l : PySem.W.OpenLaw} {w : World} {K : PySem.W.Frag} {h : Heap} {mg : Str → Option Value} {fa CB CP CS CT f_read f_box f_pick f_found f_law f_bxi it u_0 u_1 u_2 u_0n u_1n u_2n u_crash : Addr} (X : K.In h) (G : h.Ns mainGlobals mg) (hfa : mg "law" = some (.ref fa))
    {nmCB qCB : Str} {NCB : Addr} {bsCB sbCB : List Value} {snCB : List Str} {abCB : Bool} {coCB : Option Bool} {ddCB : Option Addr} {m0CB m1CB m2CB m3CB m5CB : Option Value}
    {od_read an_read : Option Addr} {sl_read : Array (Option Value)} {oc_read kV_read dc_read pm_read cd_read ct_read : Value}
    {od_box an_box : Option Addr} {sl_box : Array (Option Value)} {oc_box kV_box dc_box pm_box cd_box ct_box : Value}
    {od_pick an_pick : Option Addr} {sl_pick : Array (Option Value)} {oc_pick kV_pick dc_pick pm_pick cd_pick ct_pick : Value}
    {od_found an_found : Option Addr} {sl_found : Array (Option Value)} {oc_found kV_found dc_found pm_found cd_found ct_found : Value}
    {od_law an_law : Option Addr} {sl_law : Array (Option Value)} {oc_law kV_law dc_law pm_law cd_law ct_law : Value}
    {od_bxi an_bxi : Option Addr} {sl_bxi : Array (Option Value)} {oc_bxi kV_bxi dc_bxi pm_bxi cd_bxi ct_bxi : Value}
    {esI : Array DictEntry} {nI : Nat}
    (aCB : PySem.W.nsIn K mainGlobals "BadText" = some (some (.ref CB)))
    (aCS : PySem.W.nsIn K mainGlobals "BadStep" = some (some (.ref CS)))
    (aCP : PySem.W.nsIn K mainGlobals "BadScript" = some (some (.ref CP)))
    (aCT : PySem.W.nsIn K mainGlobals "TakeError" = some (some (.ref CT)))
    (cn : PySem.W.specialIn K (.builtin "object.__class__") "__get__" = some (some (.builtin "getset_descriptor.__get__")))
    (ct : PySem.W.takesIn K (.builtin "object.__class__") = some true)
    (xCB : K.lookup CB = some (excClassObj nmCB qCB CB NCB bsCB [.ref CT, .type "ValueError", .type "Exception", .type "BaseException", .type "object"] true snCB sbCB abCB coCB ddCB m0CB m1CB m2CB m3CB m5CB "ValueError.__new__"))
    (saCB : PySem.W.findIn K (.ref CB) "__setattr__" = some (some (.builtin "object.__setattr__")))
    (gaCB : PySem.W.findIn K (.ref CB) "__getattribute__" = some (some (.builtin "BaseException.__getattribute__")))
    (ggCB : PySem.W.findIn K (.ref CB) "__getattr__" = some none)
    (nfCB : PySem.W.findIn K (.ref CB) "line" = some none)
    (eCB : PySem.W.subIn K (.ref CB) (.type "BaseException") = some true)
    (tCB : PySem.W.typeIn K (.ref CB) = some (.type "type"))
    (hCB : PySem.W.hasDictIn K CB = true)
    (kcCB : PySem.W.keepIn K (.ref CB) = true)
    (caCB : PySem.W.findIn K (.ref CB) "__class__" = some (some (.builtin "object.__class__")))
    (obCB : PySem.W.mroIn K CB (.type "object") = some true)
    (iCB : PySem.W.isClsIn K CB = true)
    (sCBCB : PySem.W.subIn K (.ref CB) (.ref CB) = some true)
    (iCS : PySem.W.isClsIn K CS = true)
    (tCS : PySem.W.typeIn K (.ref CS) = some (.type "type"))
    (iCP : PySem.W.isClsIn K CP = true)
    (tCP : PySem.W.typeIn K (.ref CP) = some (.type "type"))
    (iCT : PySem.W.isClsIn K CT = true)
    (tCT : PySem.W.typeIn K (.ref CT) = some (.type "type"))
    (sCBCT : PySem.W.subIn K (.ref CB) (.ref CT) = some true)
    (dCBCT : (Value.ref CB == Value.ref CT) = false)
    (sCBCS : PySem.W.subIn K (.ref CB) (.ref CS) = some false)
    (dCBCS : (Value.ref CB == Value.ref CS) = false)
    (sCBCP : PySem.W.subIn K (.ref CB) (.ref CP) = some false)
    (dCBCP : (Value.ref CB == Value.ref CP) = false)
    (a_read : PySem.W.nsIn K mainGlobals "read_schedule" = some (some (.ref f_read)))
    (l_read : K.lookup f_read = some ⟨oc_read, od_read, .func (PySem.W.fnOf "read_schedule" "read_schedule" (defArgs sRead) (defBody sRead) (defScope sRead) .none kV_read dc_read pm_read an_read cd_read ct_read), sl_read⟩)
    (c_read : PySem.W.codeIn K cd_read "read_schedule" = true)
    (k_read : PySem.W.keepIn K (.ref f_read) = true)
    (a_box : PySem.W.nsIn K mainGlobals "_law_box" = some (some (.ref f_box)))
    (l_box : K.lookup f_box = some ⟨oc_box, od_box, .func (PySem.W.fnOf "_law_box" "_law_box" (defArgs sBox) (defBody sBox) (defScope sBox) .none kV_box dc_box pm_box an_box cd_box ct_box), sl_box⟩)
    (c_box : PySem.W.codeIn K cd_box "_law_box" = true)
    (k_box : PySem.W.keepIn K (.ref f_box) = true)
    (a_pick : PySem.W.nsIn K mainGlobals "_law_pick" = some (some (.ref f_pick)))
    (l_pick : K.lookup f_pick = some ⟨oc_pick, od_pick, .func (PySem.W.fnOf "_law_pick" "_law_pick" (defArgs sPick) (defBody sPick) (defScope sPick) .none kV_pick dc_pick pm_pick an_pick cd_pick ct_pick), sl_pick⟩)
    (c_pick : PySem.W.codeIn K cd_pick "_law_pick" = true)
    (k_pick : PySem.W.keepIn K (.ref f_pick) = true)
    (a_found : PySem.W.nsIn K mainGlobals "_law_found" = some (some (.ref f_found)))
    (l_found : K.lookup f_found = some ⟨oc_found, od_found, .func (PySem.W.fnOf "_law_found" "_law_found" (defArgs sFound) (defBody sFound) (defScope sFound) .none kV_found dc_found pm_found an_found cd_found ct_found), sl_found⟩)
    (c_found : PySem.W.codeIn K cd_found "_law_found" = true)
    (k_found : PySem.W.keepIn K (.ref f_found) = true)
    (a_law : PySem.W.nsIn K mainGlobals "law" = some (some (.ref f_law)))
    (l_law : K.lookup f_law = some ⟨oc_law, od_law, .func (PySem.W.fnOf "law" "law" (defArgs sLaw) (defBody sLaw) (defScope sLaw) .none kV_law dc_law pm_law an_law cd_law ct_law), sl_law⟩)
    (c_law : PySem.W.codeIn K cd_law "law" = true)
    (k_law : PySem.W.keepIn K (.ref f_law) = true)
    (a_bxi : PySem.W.findIn K (.ref CB) "__init__" = some (some (.ref f_bxi)))
    (i_bxi : PySem.W.typeIn K (.ref f_bxi) = some (.type "function"))
    (l_bxi : K.lookup f_bxi = some ⟨oc_bxi, od_bxi, .func (PySem.W.fnOf "__init__" "BadText.__init__" (defArgs sBXInit) (defBody sBXInit) (defScope sBXInit) .none kV_bxi dc_bxi pm_bxi an_bxi cd_bxi ct_bxi), sl_bxi⟩)
    (c_bxi : PySem.W.codeIn K cd_bxi "BadText.__init__" = true)
    (k_bxi : PySem.W.keepIn K (.ref f_bxi) = true)
    (z_len : PySem.W.nsIn K mainGlobals "len" = some none)
    (z_int : PySem.W.nsIn K mainGlobals "int" = some none)
    (z_range : PySem.W.nsIn K mainGlobals "range" = some none)
    (z_list : PySem.W.nsIn K mainGlobals "list" = some none)
    (z_isinstance : PySem.W.nsIn K mainGlobals "isinstance" = some none)
    (z_str : PySem.W.nsIn K mainGlobals "str" = some none)
    (z_enumerate : PySem.W.nsIn K mainGlobals "enumerate" = some none)
    (z_max : PySem.W.nsIn K mainGlobals "max" = some none)
    (aI : PySem.W.nsIn K mainGlobals "STEP_OF" = some (some (.ref it)))
    (lI : K.lookup it = some ⟨.type "dict", none, .dict esI nI, #[]⟩)
    (kI : PySem.W.KeysLit w.params esI.toList)
    (sI : (it == sysModules) = false)
    (e_k0 : PySem.W.nsIn K it "0" = some (some (.ref u_0)))
    (e_k1 : PySem.W.nsIn K it "1" = some (some (.ref u_1)))
    (e_k2 : PySem.W.nsIn K it "2" = some (some (.ref u_2)))
    (e_k0n : PySem.W.nsIn K it "0n" = some (some (.ref u_0n)))
    (e_k1n : PySem.W.nsIn K it "1n" = some (some (.ref u_1n)))
    (e_k2n : PySem.W.nsIn K it "2n" = some (some (.ref u_2n)))
    (e_kcrash : PySem.W.nsIn K it "crash" = some (some (.ref u_crash)))
    (hkI : esI.toList.map kstr = keys7.map some)
    : ∃ fd : FuncData, (∀ (s : Shared) (v : Value), BindsTo s fd ⟨[v], []⟩ [("_law_script", v)]) ∧ ∀ base : Heap, K.In base → base.Ns mainGlobals mg → FnOk l.prog w K mg base CX0 6 fa fd ["_law_script"] (spLaw K) := by
  have e := hfa.symm.trans (PySem.W.mg_of X G a_law)
  cases e
  have B_len := PySem.W.mg_none_of X G z_len
  have B_int := PySem.W.mg_none_of X G z_int
  have B_range := PySem.W.mg_none_of X G z_range
  have B_list := PySem.W.mg_none_of X G z_list
  have B_isinstance := PySem.W.mg_none_of X G z_isinstance
  have B_str := PySem.W.mg_none_of X G z_str
  have B_enumerate := PySem.W.mg_none_of X G z_enumerate
  have B_max := PySem.W.mg_none_of X G z_max
  have M_CS := PySem.W.mg_of X G aCS
  have M_CP := PySem.W.mg_of X G aCP
  have M_CT := PySem.W.mg_of X G aCT
  have E_CB : Ecl K mg "BadText" "line" CB f_bxi := ⟨PySem.W.mg_of X G aCB, ⟨⟨_, _, _, _, _, _, _, _, _, _, _, _, _, _, _, xCB, ve_ok⟩, saCB, eCB, tCB, kcCB⟩, a_bxi, i_bxi, nfCB, ⟨gaCB, ggCB, eCB, hCB⟩, iCB, caCB, cn, ct, obCB, PySem.W.exm_ref eCB hCB tCB sCBCB⟩
  have R_CB_CT : PySem.W.kitOne K (.ref CB) (.ref CT) = some true := kit_ref dCBCT iCT tCT sCBCT
  have R_CB_CS : PySem.W.kitOne K (.ref CB) (.ref CS) = some false := kit_ref dCBCS iCS tCS sCBCS
  have R_CB_CP : PySem.W.kitOne K (.ref CB) (.ref CP) = some false := kit_ref dCBCP iCP tCP sCBCP
  have F_read := fun_mk (st := sRead) l_read c_read k_read
  have b_read := F_read.binds (ps := ["text"]) fun _ _ _ _ _ _ us hl => match us, hl with | [_], _ => rfl
  have m_read := PySem.W.mg_of X G a_read
  have F_box := fun_mk (st := sBox) l_box c_box k_box
  have b_box := F_box.binds (ps := ["_law_script", "_law_k"]) fun _ _ _ _ _ _ us hl => match us, hl with | [_, _], _ => rfl
  have m_box := PySem.W.mg_of X G a_box
  have F_pick := fun_mk (st := sPick) l_pick c_pick k_pick
  have b_pick := F_pick.binds (ps := ["_law_box_here", "_law_size"]) fun _ _ _ _ _ _ us hl => match us, hl with | [_, _], _ => rfl
  have m_pick := PySem.W.mg_of X G a_pick
  have F_found := fun_mk (st := sFound) l_found c_found k_found
  have b_found := F_found.binds (ps := ["_law_text"]) fun _ _ _ _ _ _ us hl => match us, hl with | [_], _ => rfl
  have m_found := PySem.W.mg_of X G a_found
  have F_law := fun_mk (st := sLaw) l_law c_law k_law
  have m_law := PySem.W.mg_of X G a_law
  have F_bxi := fun_mk (st := sBXInit) l_bxi c_bxi k_bxi
  have b_bxi := F_bxi.binds (ps := ["self", "line"]) fun _ _ _ _ _ _ us hl => match us, hl with | [_, _], _ => rfl
  refine ⟨PySem.W.fnOf "law" "law" (defArgs sLaw) (defBody sLaw) (defScope sLaw) .none kV_law dc_law pm_law an_law cd_law ct_law, fun s v => .of_eq rfl, fun base _ _ => ?_⟩
  have B : Bl mg := ⟨B_len, B_int⟩
  have T : Bi mg := ⟨B_isinstance, B_int, B_str, B_enumerate, B_list⟩
  have D : Wd7 K w mg it esI nI := ⟨PySem.W.mg_of X G aI, ⟨lI, kI, sI⟩, fun z hz => ns_none lI hkI hz, fun z hz => by
    simp only [keys7, List.mem_cons, List.not_mem_nil, or_false] at hz
    rcases hz with rfl | rfl | rfl | rfl | rfl | rfl | rfl
    · exact ⟨_, e_k0⟩
    · exact ⟨_, e_k1⟩
    · exact ⟨_, e_k2⟩
    · exact ⟨_, e_k0n⟩
    · exact ⟨_, e_k1n⟩
    · exact ⟨_, e_k2n⟩
    · exact ⟨_, e_kcrash⟩⟩
  have Gbx := ok_bxi (P := l.prog) (w := w) (mg := mg) (base := base) F_bxi E_CB
  have Gre := ok_read F_read T E_CB D Gbx b_bxi
  have Gbo := ok_box (P := l.prog) (w := w) (base := base) F_box B
  have Gpi := ok_pick (P := l.prog) (w := w) (base := base) F_pick B
  have Gfo := ok_found F_found B T E_CB M_CT M_CS M_CP R_CB_CT R_CB_CS R_CB_CP Gre b_read k_read m_read
  exact ok_law F_law B T B_range B_max Gbo b_box k_box m_box Gpi b_pick k_pick m_pick Gfo b_found k_found m_found
theorem walk {l : PySem.W.OpenLaw} {q : Program} {loose : List Str} {XP : (Str → Option Value) → Heap → Prop} {YP : World → Heap → Prop} {d : DefRec} {K : Params → PySem.W.Frag} (hn : l.most = some 63) (hdf : d.params.defaults = [])
    (hY : ∀ (w : World) (h : Heap), YP w h → (K w.params).In h)
    (F : ∀ (w : World) (mg : Str → Option Value) (fa : Addr) (h : Heap), (K w.params).In h → h.Ns mainGlobals mg → mg d.name = some (.ref fa) →
      ∃ fd : FuncData, (∀ (s : Shared) (u : Value), BindsTo s fd ⟨[u], []⟩ [("_law_script", u)]) ∧ ∀ base : Heap, (K w.params).In base → base.Ns mainGlobals mg → FnOk l.prog w (K w.params) mg base CX0 6 fa fd ["_law_script"] (spLaw (K w.params))) :
    PySem.W.WalkO q loose XP YP l.row.toRowW d [] (fun f vs => PySem.call f vs) :=
  L2.walk_of (n := 63) (k := 6) (x := "_law_script") (CX := fun _ => CX0) (sp := fun w => spLaw (K w.params)) hn (by decide) hdf ⟨rfl, by decide, by decide⟩ hY F (fun _ _ a ns hl _ hS => ⟨a, ns, rfl, hS, hl, fun _ => rfl⟩) fun _ _ _ _ _ z => z
end Tk
open PySem PySem.W PyProof.Rows
set_option maxRecDepth 100000 in
set_option maxHeartbeats 0 in
theorem PySem.Challenge.cw_takenahead_k78_words_that_are_no_steps_holds : PySem.Challenge.rw_takenahead_k78_words_that_are_no_steps.Holds := by
  w_on; o_law; k_head; (case hw => w_witness2)
  k_fill
  refine Tk.walk (l := PySem.Challenge.rw_takenahead_k78_words_that_are_no_steps) rfl rfl (fun w h Y => PySem.W.kIn_of Y) ?F
  case F =>
    intro w mg fa h KX G hmg
    refine' Tk.all_mk KX G hmg ?aCB ?aCS ?aCP ?aCT ?cn ?ct ?xCB ?saCB ?gaCB ?ggCB ?nfCB ?eCB ?tCB ?hCB ?kcCB ?caCB ?obCB ?iCB ?sCBCB ?iCS ?tCS ?iCP ?tCP ?iCT ?tCT ?sCBCT ?dCBCT ?sCBCS ?dCBCS ?sCBCP ?dCBCP ?a_read ?l_read ?c_read ?k_read ?a_box ?l_box ?c_box ?k_box ?a_pick ?l_pick ?c_pick ?k_pick ?a_found ?l_found ?c_found ?k_found ?a_law ?l_law ?c_law ?k_law ?a_bxi ?i_bxi ?l_bxi ?c_bxi ?k_bxi ?z_len ?z_int ?z_range ?z_list ?z_isinstance ?z_str ?z_enumerate ?z_max ?aI ?lI ?kI ?sI ?e_k0 ?e_k1 ?e_k2 ?e_k0n ?e_k1n ?e_k2n ?e_kcrash ?hkI
    (case aCB => k_is)
    (case aCS => k_is)
    (case aCP => k_is)
    (case aCT => k_is)
    (case cn => k_is)
    (case ct => k_is)
    (case xCB => k_is)
    (case saCB => k_is)
    (case gaCB => k_is)
    (case ggCB => k_is)
    (case nfCB => k_is)
    (case eCB => k_is)
    (case tCB => k_is)
    (case hCB => k_is)
    (case kcCB => k_is)
    (case caCB => k_is)
    (case obCB => k_is)
    (case iCB => k_is)
    (case sCBCB => k_is)
    (case iCS => k_is)
    (case tCS => k_is)
    (case iCP => k_is)
    (case tCP => k_is)
    (case iCT => k_is)
    (case tCT => k_is)
    (case sCBCT => k_is)
    (case dCBCT => first | rfl | decide)
    (case sCBCS => k_is)
    (case dCBCS => first | rfl | decide)
    (case sCBCP => k_is)
    (case dCBCP => first | rfl | decide)
    (case a_read => k_is)
    (case l_read => k_is)
    (case c_read => k_is)
    (case k_read => k_is)
    (case a_box => k_is)
    (case l_box => k_is)
    (case c_box => k_is)
    (case k_box => k_is)
    (case a_pick => k_is)
    (case l_pick => k_is)
    (case c_pick => k_is)
    (case k_pick => k_is)
    (case a_found => k_is)
    (case l_found => k_is)
    (case c_found => k_is)
    (case k_found => k_is)
    (case a_law => k_is)
    (case l_law => k_is)
    (case c_law => k_is)
    (case k_law => k_is)
    (case a_bxi => k_is)
    (case i_bxi => k_is)
    (case l_bxi => k_is)
    (case c_bxi => k_is)
    (case k_bxi => k_is)
    (case z_len => k_is)
    (case z_int => k_is)
    (case z_range => k_is)
    (case z_list => k_is)
    (case z_isinstance => k_is)
    (case z_str => k_is)
    (case z_enumerate => k_is)
    (case z_max => k_is)
    (case aI => k_is)
    (case lI => k_is)
    (case kI => (repeat (first | exact trivial | refine ⟨⟨_, _, rfl, rfl⟩, ?_⟩)))
    (case sI => first | rfl | decide)
    (case e_k0 => k_is)
    (case e_k1 => k_is)
    (case e_k2 => k_is)
    (case e_k0n => k_is)
    (case e_k1n => k_is)
    (case e_k2n => k_is)
    (case e_kcrash => k_is)
    (case hkI => first | rfl | decide +kernel)
