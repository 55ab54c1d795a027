import PyProof.Rows.All
import Wide.All
import OpenK.AllK
import Wide.FinOn
import HandS.ForMost
import HandS.TupAny
import HandS.TupLen
import HandS.TupLe
import HandS.Conv
import HandS.IsInst
import HandS.More
import HandS.OwnEq
import KE.GoesMore
import HandS.ExcInit
import HandS.ExcOwn
import HandS.ExcField
import HandS.ExcIs
import HandS.WordsExc
import HandS.DeepEq
import KE.KExcIs
import HandS.Wide
import HandS.Codes
import HandS.Comp
import HandS.Walk
import PySem.Challenge.RW_takenahead_k58_turned_lists
set_option Elab.async false
set_option linter.all false
set_option maxRecDepth 100000
namespace Tk
open PySem L2
/-! ## heaps -/
/-- all but what stands at p is as it was -/
def Kp (p : Addr) (H H' : Hp) : Prop := ∀ b o, H b = some o → b ≠ p → H' b = some o
theorem Kp.refl (p : Addr) (H : Hp) : Kp p H H := fun _ _ e _ => e
theorem Kp.trans {p : Addr} {H H1 H2 : Hp} (a : Kp p H H1) (b : Kp p H1 H2) : Kp p H H2 := fun c o e n => b c o (a c o e n) n
theorem Kp.upd {p : Addr} {H : Hp} {o : HO} : Kp p H (L2.upd H p o) := fun c u e n => by rw [upd_ne n]; exact e
theorem Kp.new {p q : Addr} {H H' : Hp} {o : HO} (a : Kp p H H') (n : H' q = none) : Kp p H (L2.upd H' q o) := fun c u e m => by
  rw [upd_ne (ne_of_none (a c u e m) n)]; exact a c u e m
theorem Kp.of_same {p : Addr} {H H' : Hp} (a : Same H H') : Kp p H H' := fun c o e _ => a c o e
theorem same_new {H : Hp} {p : Addr} (h : H p = none) (o : HO) : Same H (L2.upd H p o) := fun b u q => by rw [upd_ne (ne_of_none q h)]; exact q
/-- the pool: three whole numbers -/
def PoolAt (H : Hp) (p : Addr) : Prop := ∃ a b c : Int, H p = some (.lst [.int a, .int b, .int c])
theorem Kp.tup {p q : Addr} {H H' : Hp} {xs : List V} {ys : List V} (k : Kp p H H') (hp : H p = some (.lst ys)) (h : H q = some (.tup xs)) : H' q = some (.tup xs) :=
  k q _ h (ne_of h hp (by intro z; cases z))
/-! ## numbers -/
theorem fmod_ok {a n : Int} (h : 0 < n) : 0 ≤ a.fmod n ∧ a.fmod n < n := ⟨Int.fmod_nonneg_of_pos a h, Int.fmod_lt_of_pos a h⟩
/-! ## texts -/
def Low (z : Str) : Prop := ∀ c ∈ z.cps.toList, 97 ≤ c ∧ c ≤ 122
def IsName (z : Str) : Prop := 1 ≤ z.length ∧ z.length ≤ 8 ∧ Low z
abbrev alpha : Str := "abcdefghijklmnopqrstuvwxyz"
theorem alpha_all : ∀ n : Fin 26, atI alpha.cps.toList ((n.val : Nat) : Int) = some (97 + n.val) := by decide +kernel
theorem alpha_at {i : Int} (h0 : 0 ≤ i) (h1 : i < 26) : ∃ c, atI alpha.cps.toList i = some c ∧ 97 ≤ c ∧ c ≤ 122 := by
  have e : i = ((i.toNat : Nat) : Int) := by omega
  have q := alpha_all ⟨i.toNat, by omega⟩
  rw [e]
  exact ⟨_, q, by simp, by simp; omega⟩
theorem low_nil : Low ("" : Str) := fun c h => by cases h
theorem low_app {x y : Str} (a : Low x) (b : Low y) : Low (x ++ y) := fun c h => by
  have h' : c ∈ (x.cps ++ y.cps).toList := h
  rw [Array.toList_append] at h'
  rcases List.mem_append.mp h' with q | q
  · exact a c q
  · exact b c q
theorem low_one {c : Nat} (h : 97 ≤ c ∧ c ≤ 122) : Low ⟨#[c]⟩ := fun d q => by
  have e : d = c := by simpa using q
  rw [e]; exact h
theorem low_cut {x : Str} (a : Low x) (lo hi : Option Int) : Low (cutS x lo hi) := fun c h => by
  have h' : c ∈ ((x.cps.toList.drop (HT.sIx x.length 0 lo)).take (HT.sIx x.length x.length hi - HT.sIx x.length 0 lo)) := by simpa [cutS] using h
  exact a c (List.mem_of_mem_drop (List.mem_of_mem_take h'))
theorem len_app (x y : Str) : (x ++ y).length = x.length + y.length := by
  show (x.cps ++ y.cps).size = _
  rw [Array.size_append]; rfl
theorem len_one (c : Nat) : (⟨#[c]⟩ : Str).length = 1 := rfl
theorem len_cut_lo (x : Str) (k : Nat) (h : k ≤ x.length) : (cutS x none (some (k : Int))).length = k := by
  have e : x.cps.toList.length = x.length := by simp [Str.length]
  show (((x.cps.toList.drop (HT.sIx x.length 0 none)).take (HT.sIx x.length x.length (some (k : Int)) - HT.sIx x.length 0 none)).toArray).size = k
  rw [HT.sIx_nat, HT.sIx_none, List.size_toArray, List.length_take, List.length_drop, e]
  omega
theorem len_cut_hi (x : Str) (k : Nat) (h : k ≤ x.length) : (cutS x (some (k : Int)) none).length = x.length - k := by
  have e : x.cps.toList.length = x.length := by simp [Str.length]
  show (((x.cps.toList.drop (HT.sIx x.length 0 (some (k : Int)))).take (HT.sIx x.length x.length none - HT.sIx x.length 0 (some (k : Int)))).toArray).size = _
  rw [HT.sIx_nat, HT.sIx_none, List.size_toArray, List.length_take, List.length_drop, e]
  omega
theorem isName_mk {b : Str} {c : Nat} {k : Int} (hb : Low b) (hl : b.length ≤ 7) (hc : 97 ≤ c ∧ c ≤ 122) (h0 : 0 ≤ k) (h1 : k ≤ b.length) :
    IsName (cutS b none (some k) ++ ⟨#[c]⟩ ++ cutS b (some k) none) := by
  obtain ⟨n, rfl⟩ : ∃ n : Nat, k = (n : Int) := ⟨k.toNat, by omega⟩
  have hn : n ≤ b.length := by omega
  refine ⟨?_, ?_, low_app (low_app (low_cut hb _ _) (low_one hc)) (low_cut hb _ _)⟩
  · rw [len_app, len_app, len_one]; omega
  · rw [len_app, len_app, len_one, len_cut_lo b n hn, len_cut_hi b n hn]; omega
/-- the list of the three names -/
def NamesAt (H : Hp) (q : Addr) : Prop := ∃ x y z : Str, H q = some (.lst [.str x, .str y, .str z]) ∧ IsName x ∧ IsName y ∧ IsName z
/-! ## statements -/
inductive Wd | take | commit | rollback | drop | leave
  deriving DecidableEq
def Wd.s : Wd → Str
  | .take => "take" | .commit => "commit" | .rollback => "rollback" | .drop => "drop" | .leave => "leave"
def Wd.held : Wd → Int → Int
  | .take, h => h + 1 | .commit, _ => 0 | .rollback, _ => 0 | .leave, _ => 0 | .drop, h => h
/-- lock (true), unlock -/
def lockS (b : Bool) : Str := if b then "lock" else "unlock"
inductive Stm
  | one (w : Wd)
  | nam (b : Bool) (n : Str)
  | ch (y n : List Stm)
mutual
def Stm.d : Stm → PyData
  | .one w => .tuple [.str w.s]
  | .nam b n => .tuple [.str (lockS b), .str n]
  | .ch y n => .tuple [.str "choose", .tuple (dAll y), .tuple (dAll n)]
def dAll : List Stm → List PyData
  | [] => []
  | s :: r => s.d :: dAll r
end
mutual
def Stm.cnt : Stm → Nat
  | .one _ => 1
  | .nam _ _ => 1
  | .ch y n => 1 + cntAll y + cntAll n
def cntAll : List Stm → Nat
  | [] => 0
  | s :: r => s.cnt + cntAll r
end
mutual
def Stm.held : Stm → Int → Int
  | .one w, h => w.held h
  | .nam _ _, h => h
  | .ch y n, h => max (heldAll y h) (heldAll n h)
def heldAll : List Stm → Int → Int
  | [], h => h
  | s :: r, h => heldAll r (s.held h)
end
mutual
/-- s is a good statement inside of d chooses, when h numbers are held -/
def Stm.ok : Nat → Stm → Int → Prop
  | _, .one w, h => w = .take → h ≠ 3
  | _, .nam _ n, _ => IsName n
  | d, .ch y n, h => d < 2 ∧ okAll (d + 1) y h ∧ okAll (d + 1) n h
def okAll : Nat → List Stm → Int → Prop
  | _, [], _ => True
  | d, s :: r, h => s.ok d h ∧ okAll d r (s.held h)
end
mutual
/-- the value v is the statement s -/
def Stm.at : Hp → V → Stm → Prop
  | H, v, .one w => ∃ a, v = .ref a ∧ H a = some (.tup [.str w.s])
  | H, v, .nam b n => ∃ a, v = .ref a ∧ H a = some (.tup [.str (lockS b), .str n])
  | H, v, .ch y n => ∃ a b c xs ys, v = .ref a ∧ H a = some (.tup [.str "choose", .ref b, .ref c]) ∧ H b = some (.tup xs) ∧ atAll H xs y ∧ H c = some (.tup ys) ∧ atAll H ys n
def atAll : Hp → List V → List Stm → Prop
  | _, xs, [] => xs = []
  | H, xs, s :: r => ∃ v vs, xs = v :: vs ∧ s.at H v ∧ atAll H vs r
end
/-- tuples stay -/
def TK (H H' : Hp) : Prop := ∀ a xs, H a = some (.tup xs) → H' a = some (.tup xs)
theorem TK.refl (H : Hp) : TK H H := fun _ _ h => h
theorem TK.trans {H H1 H2 : Hp} (a : TK H H1) (b : TK H1 H2) : TK H H2 := fun c o h => b c o (a c o h)
theorem TK.of_same {H H' : Hp} (s : Same H H') : TK H H' := fun a xs h => s a _ h
theorem Kp.tk {p : Addr} {H H' : Hp} {ys : List V} (k : Kp p H H') (hp : H p = some (.lst ys)) : TK H H' := fun a xs h => k.tup hp h
mutual
theorem Stm.at_keep {H H' : Hp} (k : TK H H') : ∀ (s : Stm) (v : V), s.at H v → s.at H' v
  | .one w, v, h => by
    unfold Stm.at at h ⊢
    obtain ⟨a, e, h⟩ := h
    exact ⟨a, e, k _ _ h⟩
  | .nam b n, v, h => by
    unfold Stm.at at h ⊢
    obtain ⟨a, e, h⟩ := h
    exact ⟨a, e, k _ _ h⟩
  | .ch y n, v, h => by
    unfold Stm.at at h ⊢
    obtain ⟨a, b, c, xs, ys, e, h1, h2, h3, h4, h5⟩ := h
    exact ⟨a, b, c, xs, ys, e, k _ _ h1, k _ _ h2, atAll_keep k y xs h3, k _ _ h4, atAll_keep k n ys h5⟩
theorem atAll_keep {H H' : Hp} (k : TK H H') : ∀ (B : List Stm) (xs : List V), atAll H xs B → atAll H' xs B
  | [], xs, h => h
  | s :: r, xs, h => by
    unfold atAll at h ⊢
    obtain ⟨v, vs, e, h1, h2⟩ := h
    exact ⟨v, vs, e, Stm.at_keep k s v h1, atAll_keep k r vs h2⟩
end
theorem atAll_len {H : Hp} : ∀ {B : List Stm} {xs : List V}, atAll H xs B → xs.length = B.length
  | [], xs, h => by unfold atAll at h; rw [h]; rfl
  | s :: r, xs, h => by
    unfold atAll at h
    obtain ⟨v, vs, e, h1, h2⟩ := h
    rw [e, List.length_cons, List.length_cons, atAll_len h2]
theorem atAll_get {H : Hp} : ∀ {B : List Stm} {xs : List V} {i : Nat} {s : Stm}, atAll H xs B → B[i]? = some s → ∃ v, xs[i]? = some v ∧ s.at H v
  | [], xs, i, s, h, e => by simp at e
  | t :: r, xs, 0, s, h, e => by
    unfold atAll at h
    obtain ⟨v, vs, e1, h1, h2⟩ := h
    have e2 : t = s := Option.some.inj e
    exact ⟨v, by rw [e1]; rfl, e2 ▸ h1⟩
  | t :: r, xs, i + 1, s, h, e => by
    unfold atAll at h
    obtain ⟨v, vs, e1, h1, h2⟩ := h
    obtain ⟨u, h3, h4⟩ := atAll_get (i := i) (s := s) h2 e
    exact ⟨u, by rw [e1]; exact h3, h4⟩
theorem atAll_app {H : Hp} : ∀ {B C : List Stm} {xs ys : List V}, atAll H xs B → atAll H ys C → atAll H (xs ++ ys) (B ++ C)
  | [], C, xs, ys, h, g => by unfold atAll at h; rw [h]; exact g
  | s :: r, C, xs, ys, h, g => by
    unfold atAll at h
    obtain ⟨v, vs, e, h1, h2⟩ := h
    rw [e]
    show atAll H (v :: (vs ++ ys)) (s :: (r ++ C))
    unfold atAll
    exact ⟨v, vs ++ ys, rfl, h1, atAll_app h2 g⟩
theorem atAll_one {H : Hp} {s : Stm} {v : V} (h : s.at H v) : atAll H [v] [s] := by
  unfold atAll
  exact ⟨v, [], rfl, h, by unfold atAll; rfl⟩
theorem atAll_drop {H : Hp} : ∀ {B : List Stm} {xs : List V} (n : Nat), atAll H xs B → atAll H (xs.drop n) (B.drop n)
  | B, xs, 0, h => h
  | [], xs, n + 1, h => by unfold atAll at h; rw [h]; rfl
  | s :: r, xs, n + 1, h => by
    unfold atAll at h
    obtain ⟨v, vs, e, h1, h2⟩ := h
    rw [e]
    exact atAll_drop n h2
theorem heldAll_app : ∀ (B C : List Stm) (h : Int), heldAll (B ++ C) h = heldAll C (heldAll B h)
  | [], C, h => rfl
  | s :: r, C, h => by
    show heldAll (s :: (r ++ C)) h = heldAll C (heldAll (s :: r) h)
    rw [heldAll, heldAll]
    exact heldAll_app r C _
theorem okAll_app : ∀ (d : Nat) (B C : List Stm) (h : Int), okAll d B h → okAll d C (heldAll B h) → okAll d (B ++ C) h
  | d, [], C, h, _, g => by rw [heldAll] at g; exact g
  | d, s :: r, C, h, f, g => by
    rw [okAll] at f
    rw [heldAll] at g
    show okAll d (s :: (r ++ C)) h
    rw [okAll]
    exact ⟨f.1, okAll_app d r C _ f.2 g⟩
theorem cntAll_app : ∀ (B C : List Stm), cntAll (B ++ C) = cntAll B + cntAll C
  | [], C => by rw [cntAll]; simp
  | s :: r, C => by
    show cntAll (s :: (r ++ C)) = _
    rw [cntAll, cntAll, cntAll_app r C]; omega
theorem cnt_pos (s : Stm) : 1 ≤ s.cnt := by
  cases s <;> rw [Stm.cnt] <;> omega
theorem len_le_cnt : ∀ (B : List Stm), B.length ≤ cntAll B
  | [] => Nat.zero_le _
  | s :: r => by
    have := cnt_pos s
    have := len_le_cnt r
    rw [cntAll, List.length_cons]; omega
/-! ## what the draws stand on: the pool p, the box b (what is left, what is held), the names q -/
def BoxAt (H : Hp) (b : Addr) (k h : Int) : Prop := H b = some (.lst [.int k, .int h, .int 3])
structure Dr (H : Hp) (p b q : Addr) (k h : Int) : Prop where
  pool : PoolAt H p
  box : BoxAt H b k h
  names : NamesAt H q
  npb : p ≠ b
  npq : p ≠ q
  nbq : b ≠ q
def K2 (p b : Addr) (H H' : Hp) : Prop := ∀ a o, H a = some o → a ≠ p → a ≠ b → H' a = some o
theorem K2.refl (p b : Addr) (H : Hp) : K2 p b H H := fun _ _ e _ _ => e
theorem K2.trans {p b : Addr} {H H1 H2 : Hp} (x : K2 p b H H1) (y : K2 p b H1 H2) : K2 p b H H2 := fun c o e n m => y c o (x c o e n m) n m
theorem Kp.k2 {p b : Addr} {H H' : Hp} (k : Kp p H H') : K2 p b H H' := fun a o e n _ => k a o e n
theorem K2.upd {p b : Addr} {H : Hp} {o : HO} : K2 p b H (L2.upd H b o) := fun a u e _ n => by rw [upd_ne n]; exact e
theorem K2.new {p b q : Addr} {H H' : Hp} {o : HO} (k : K2 p b H H') (n : H' q = none) : K2 p b H (L2.upd H' q o) := fun c u e m m' => by
  rw [upd_ne (ne_of_none (k c u e m m') n)]; exact k c u e m m'
theorem Dr.tk {H H' : Hp} {p b q : Addr} {k h : Int} (D : Dr H p b q k h) (x : K2 p b H H') : TK H H' := fun a xs e => by
  obtain ⟨_, _, _, hp⟩ := D.pool
  exact x a _ e (ne_of e hp (by intro z; cases z)) (ne_of e D.box (by intro z; cases z))
theorem Dr.draw {H H' : Hp} {p b q : Addr} {k h : Int} (D : Dr H p b q k h) (x : Kp p H H') (y : PoolAt H' p) : Dr H' p b q k h := by
  obtain ⟨a1, a2, a3, hq, n1, n2, n3⟩ := D.names
  exact ⟨y, x b _ D.box D.npb.symm, ⟨a1, a2, a3, x q _ hq D.npq.symm, n1, n2, n3⟩, D.npb, D.npq, D.nbq⟩
theorem Dr.put {H : Hp} {p b q : Addr} {k h k' h' : Int} (D : Dr H p b q k h) : Dr (L2.upd H b (.lst [.int k', .int h', .int 3])) p b q k' h' := by
  obtain ⟨a1, a2, a3, hq, n1, n2, n3⟩ := D.names
  obtain ⟨x, y, z, hp⟩ := D.pool
  exact ⟨⟨x, y, z, by rw [upd_ne D.npb]; exact hp⟩, upd_same, ⟨a1, a2, a3, by rw [upd_ne D.nbq.symm]; exact hq, n1, n2, n3⟩, D.npb, D.npq, D.nbq⟩
theorem Dr.new {H : Hp} {p b q a : Addr} {o : HO} {k h : Int} (D : Dr H p b q k h) (n : H a = none) : Dr (L2.upd H a o) p b q k h := by
  obtain ⟨a1, a2, a3, hq, n1, n2, n3⟩ := D.names
  obtain ⟨x, y, z, hp⟩ := D.pool
  exact ⟨⟨x, y, z, by rw [upd_ne (ne_of_none hp n)]; exact hp⟩, by unfold BoxAt; rw [upd_ne (ne_of_none D.box n)]; exact D.box, ⟨a1, a2, a3, by rw [upd_ne (ne_of_none hq n)]; exact hq, n1, n2, n3⟩, D.npb, D.npq, D.nbq⟩
theorem names_at {H : Hp} {q : Addr} (h : NamesAt H q) {r : Int} (r0 : 0 ≤ r) (r1 : r < 3) : ∃ xs n, H q = some (.lst xs) ∧ atI xs r = some (.str n) ∧ IsName n := by
  obtain ⟨a1, a2, a3, hq, n1, n2, n3⟩ := h
  have e : r = 0 ∨ r = 1 ∨ r = 2 := by omega
  rcases e with rfl | rfl | rfl
  · exact ⟨_, a1, hq, rfl, n1⟩
  · exact ⟨_, a2, hq, rfl, n2⟩
  · exact ⟨_, a3, hq, rfl, n3⟩
end Tk
set_option maxRecDepth 100000
/-! Own rules: enumerate over a tuple; .get of a written dict; o[i], x in o, len(o) by the text's own methods. -/
namespace PySem
section
variable {prog : Program} {w : World} {A : Around} {E : Value → Shared → Prop} {s : Shared}
abbrev tkE (j : Addr) : Obj := { cls := .type "enumerate", data := .fields #[.none, .bool false, .ref j, rawInt 0, .none, .none] }
theorem tk_new {v : Value} {o : Obj} {T : Heap → Prop} (B : Begins v o T) :
    Meets (Builtin.«enumerate.__new__» ⟨[.type "enumerate", v], []⟩) (fun _ R s => T s.heap ∧ R (.ok (.ret (.ref (s.heap.push o).objs.size))) { s with heap := (s.heap.push o).push (tkE s.heap.objs.size) }) :=
  .of_wp fun prog w A R s h => by
    obtain ⟨hp, g, d, tk, os⟩ := s
    obtain ⟨h1, h⟩ := h
    have hz := sub_enumerate
    have it1 : ∀ {A' : Around} {E' : Value → Shared → Prop} {Q' : Value → Shared → Prop}, Q' (.ref hp.objs.size) ⟨hp.push o, g, d, tk, os⟩ → wpAny (model prog w) A' (pyIter v) Q' E' ⟨hp, g, d, tk, os⟩ := fun z => B.iter prog w _ _ ⟨hp, g, d, tk, os⟩ _ h1 z
    wp_walk using it1
    refine wpAny_stack_any fun _ => wpAny_pure ?_
    split
    · rename_i c _ _ _ _ _
      cases (c == Value.type "enumerate") <;> (wp_walk using it1; exact ⟨_, rfl, h⟩)
    · wp_walk using it1
      exact ⟨_, rfl, h⟩
theorem tk_enum {v : Value} {o : Obj} {T : Heap → Prop} {Q : Value → Shared → Prop} (B : Begins v o T) (h1 : T s.heap)
    (h : ∀ h', IsEnum h' (s.heap.objs.size + 1) s.heap.objs.size 0 .none → h'.get? s.heap.objs.size = some o → (∀ b u, s.heap.get? b = some u → h'.get? b = some u) → Q (.ref (s.heap.objs.size + 1)) { s with heap := h' }) :
    wpAny (model prog w) A (call (.type "enumerate") [v]) Q E s := by
  have z1 : (s.heap.push o).objs.size = s.heap.objs.size + 1 := Heap.size_push ..
  refine callType_new F.called_enumerate (by decide) (F.typeCall_enumerate_1 _) (F.newCall_enumerate_1 _) (fun obj => F.args_object_init_2 obj _) F.entry_enumerate_new (tk_new B) (And.intro h1 ?_)
  show _ ∧ _
  rw [z1]
  have q : ((s.heap.push o).push (tkE s.heap.objs.size)).get? (s.heap.push o).objs.size = some (tkE s.heap.objs.size) := Heap.get?_push_size _ rfl
  rw [z1] at q
  exact And.intro ⟨_, q, rfl⟩ (h _ q (Heap.get?_push_of_some _ (Heap.get?_push_size _ B.free)) fun b u y => Heap.get?_push_of_some _ (Heap.get?_push_of_some _ y))
end
end PySem
namespace L2
open PySem PySem.Spec PyProof.Rows
/-- the tuple at a, each item in a new pair with its number -/
def IteT (K : PySem.W.Frag) (a : Addr) : It where
  go := fun i H => ∃ (xs : List V) (x : V), SqT K H a xs ∧ xs[i]? = some x
  yld := fun i H v H' => ∃ T x, v = .ref T ∧ H T = none ∧ H' = upd H T (.tup [.int (i : Nat), x]) ∧ ∀ xs, SqT K H a xs → xs[i]? = some x
  stop := fun i H => ∃ xs : List V, SqT K H a xs ∧ xs.length = i
theorem tk_turn {P : Program} {w : World} {K : PySem.W.Frag} {elts : List Expr} {kk : Nat} {tp : Pos} (a e j : Addr) (n1 : a ≠ j) (n2 : e ≠ a) (n3 : e ≠ j) :
    Turn P w K (.Tuple elts kk tp) (IteT K a) [e, j] e (fun i h => (∃ old, IsEnum h e j ((i : Nat) : Int) old) ∧ h.IsTupleIter j a i) := by
  have two : ∀ b, b ∈ [e, j] → b = e ∨ b = j := fun b hb => by simpa using hb
  refine { mem := by simp, obj := ?_, keep := ?_, item := ?_, done := ?_, self := fun A i s Q E st h => wpAny_pyIter_enum st.1.choose_spec h }
  · intro i h st b hb
    obtain ⟨⟨old, he⟩, ⟨o, ho, _, hd⟩⟩ := st
    rcases two b hb with rfl | rfl
    · exact ⟨_, he, fun v q => nomatch q⟩
    · exact ⟨o, ho, fun v q => by rw [hd] at q; cases q⟩
  · intro i h h' st k
    obtain ⟨⟨old, he⟩, hi⟩ := st
    exact ⟨⟨old, k e (by simp) _ he⟩, hi.at fun o q => k j (by simp) o q⟩
  · intro X hP hw hK hc i pins s σ H E I hf st hg
    subst hP hw hK
    obtain ⟨⟨old, he⟩, hj⟩ := st
    obtain ⟨xs, x, hq, hx⟩ := hg
    obtain ⟨its, rv, p, hz⟩ := I.tuple hq
    obtain ⟨u, hu, ru⟩ := rv.get hx
    have szE : e < s.heap.objs.size := Heap.lt_size he
    have szJ : j < s.heap.objs.size := by obtain ⟨_, q, _⟩ := hj; exact Heap.lt_size q
    have hu2 : its.toArray[i]? = some u := by simpa using hu
    have hlt : i < its.toArray.size := by
      rcases Nat.lt_or_ge i its.toArray.size with z | z
      · exact z
      · rw [Array.getElem?_eq_none z] at hu2; cases hu2
    refine wpAny_pyNext_enum_itemD (Draws.tuple (show X.A.in1.handled = none from I.ok.hd hc) j a n1 its.toArray) he ⟨hj, p⟩ hlt n3 (fun z => by
      rcases List.mem_cons.mp z with z | z
      · exact n3 z
      · exact n2 (by simpa using z)) (fun y h' tk py ho st' hT hsz hk => ?_)
    have ey : y = u := Option.some.inj (py.symm.trans hu2)
    subst ey
    refine ⟨_, rfl, wpAny_letOwnedTupleGo_enum (s := { s with heap := h', toks := tk + 1 }) ho fun h'' he' sb => ?_⟩
    have gT : h''.get? s.heap.objs.size = some { cls := .type "tuple", data := .seq #[.int i tk, y] } := (sb.2 _ (Nat.ne_of_gt szE)).trans hT
    have nw : ObjOk X.prog X.w (upd H s.heap.objs.size (.tup [.int (i : Nat), x])) h'' s.heap.objs.size (.tup [.int (i : Nat), x]) :=
      ⟨by show 2 ≤ sizeLine; decide, [.int i tk, y], .cons ⟨_, rfl⟩ (.cons ru .nil), _, gT, rfl, _, rfl⟩
    have I1 : Inv X pins σ (upd H s.heap.objs.size (.tup [.int (i : Nat), x])) { s with heap := h'', toks := tk + 1 } :=
      I.turnedNew (ch := [e, j]) (fun b ob hb q => (sb.2 b fun z => hb (by simp [z])).trans (hk b ob (fun z => hb (by simp [z])) (fun z => hb (by simp [z])) q)) hf (Nat.le_refl _) nw
    refine ⟨.ref s.heap.objs.size, _, I1, rfl, ⟨_, x, rfl, I.hok.fresh (Nat.le_refl _), rfl, fun ys hy => by rw [I.tuple_inj hy hq]; exact hx⟩, ⟨⟨y, ?_⟩, st'.1.at fun o q => (sb.2 j n3.symm).trans q⟩, fun b hb => ?_⟩
    · have e1 : (i : Int) + 1 = ((i + 1 : Nat) : Int) := by omega
      rw [← e1]
      exact he'
    · have lb : b < s.heap.objs.size := by
        rcases two b hb with rfl | rfl
        · exact szE
        · exact szJ
      rw [upd_ne (Nat.ne_of_lt lb)]
      exact (hf b hb).1
  · intro X hP hw hK hc i pins s σ H E I hf st hg
    subst hP hw hK
    obtain ⟨⟨old, he⟩, hj⟩ := st
    obtain ⟨xs, hq, hx⟩ := hg
    obtain ⟨its, rv, p, hz⟩ := I.tuple hq
    obtain ⟨f0, f1, f2, f3, f4, f5⟩ := hf j (by simp)
    have hl : i = its.toArray.size := by rw [List.size_toArray, ← rv.length]; exact hx.symm
    subst hl
    exact wpAny_pyNext_enum_endD (Draws.tuple (show X.A.in1.handled = none from I.ok.hd hc) j a n1 its.toArray) he ⟨hj, p⟩ fun h' eb => ⟨rfl, I.turned (t' := s.toks) (fun b o hb q => eb b o hb q) f0 f1 f3 f4 f5⟩
/-- for i, x in enumerate(t), t a tuple -/
def iEnumT (K : PySem.W.Frag) (ta : TA) : TI := fun σ H R => ta σ H fun vs H1 => ∃ a xs, vs = [.ref a] ∧ SqT K H1 a xs ∧ R (IteT K a) H1
theorem pi_enumT {X : Cx} {e : Expr} {ta : TA} {p pos tp : Pos} {elts : List Expr} {kk : Nat} (hg : Gl X "enumerate") (hm : X.mg "enumerate" = none) (ha : PA X [e] ta) (hs : starEach [e] X.env = [(false, eval e X.env)] := by rfl) :
    PI X (.Tuple elts kk tp) (.Call (.Name "enumerate" p) [e] [] pos) (iEnumT X.K ta) := by
  refine ⟨fun pins s σ H R I h => ?_⟩
  refine Call_ (ld_blt I hg hm boot_enumerate (PyProof.Rows.callWith_type1 (thn (ha.run pos pins s σ H _ I h) fun us s1 q0 => ?_) hs rfl))
  obtain ⟨vs, H1, I1, r1, a, xs, ex, hq, q⟩ := q0
  subst ex
  cases r1 with
  | cons r rr =>
    cases rr
    cases r
    obtain ⟨its, rv, p', hz⟩ := I1.tuple hq
    have la : a < s1.heap.objs.size := by obtain ⟨_, z, _⟩ := p'; exact Heap.lt_size z
    refine tk_enum (begins_tuple a its.toArray) p' fun h' he hit hk => wpAny_pyIter_enum he ?_
    have I2 : Inv X pins σ H1 { s1 with heap := h' } := I1.kept (t' := s1.toks) hk
    refine ⟨s1.heap.objs.size + 1, [s1.heap.objs.size + 1, s1.heap.objs.size], _, _, H1, rfl, I2, tk_turn a (s1.heap.objs.size + 1) s1.heap.objs.size (Nat.ne_of_lt la) (Nat.ne_of_gt (Nat.lt_succ_of_lt la)) (Nat.succ_ne_self _), ⟨⟨.none, he⟩, ⟨_, hit, rfl, rfl⟩⟩, fun b hb => ?_, q⟩
    have two : b = s1.heap.objs.size + 1 ∨ b = s1.heap.objs.size := by simpa using hb
    have le : s1.heap.objs.size ≤ b := two.elim (fun z => z ▸ Nat.le_succ _) (fun z => z ▸ Nat.le_refl _)
    exact I1.fpOk le (I1.hok.fresh le)
/-- the reading of such a loop -/
theorem for_enumT {K : PySem.W.Frag} {a : Addr} {xs : List V} {g : TG} {tb : TS} {D : Ends} {σ : St} {H : Hp} (Pv : Nat → St → Hp → Prop) (h0 : Pv 0 σ H) (hl : ∀ i σ H, i ≤ xs.length → Pv i σ H → SqT K H a xs)
    (hs : ∀ i x T σ H, xs[i]? = some x → Pv i σ H → H T = none → g (.ref T) σ (upd H T (.tup [.int (i : Nat), x])) fun σ2 H2 => tb { D with nx := Pv (i + 1), ct := Pv (i + 1), bk := D.nx } σ2 H2) (hd : ∀ σ H, Pv xs.length σ H → D.nx σ H) :
    ∃ W : Nat → Nat → St → Hp → Prop, (∃ m, W 0 m σ H) ∧ ∀ i m σ H, W i m σ H → ((IteT K a).stop i H ∧ D.nx σ H) ∨ ((IteT K a).go i H ∧ ∃ N : St → Hp → Prop, (∀ σ' H', N σ' H' → ∃ m', m' < m ∧ W (i + 1) m' σ' H') ∧
      ∀ x H', (IteT K a).yld i H x H' → g x σ H' fun σ2 H2 => tb { D with nx := N, ct := N, bk := D.nx } σ2 H2) := by
  refine ⟨fun i m σ H => m = xs.length - i ∧ i ≤ xs.length ∧ Pv i σ H, ⟨xs.length, by simp, Nat.zero_le _, h0⟩, ?_⟩
  rintro i m σ H ⟨rfl, hi, p⟩
  have q := hl i σ H hi p
  by_cases lt : i < xs.length
  · refine .inr ⟨⟨xs, xs[i], q, by simp [lt]⟩, Pv (i + 1), fun σ' H' p' => ⟨xs.length - (i + 1), by omega, rfl, lt, p'⟩, ?_⟩
    rintro x H' ⟨T, y, rfl, hT, rfl, hy⟩
    exact hs i y T σ H (hy xs q) p hT
  · have e : i = xs.length := by omega
    exact .inl ⟨⟨xs, q, e.symm⟩, hd σ H (e ▸ p)⟩
/-! ### the text's own methods by signs -/
section
variable {X : Cx} {CX : CXT} {k n : Nat} {C f : Addr} {fd : FuncData} {ps : List Str} {sp : Sp} {E : XK}
/-- a def called somewhere below the running body -/
theorem tk_run {A : Around} {pins : List (Addr × Obj)} {σ : St} {H : Hp} {s : Shared} {Q : VK} {us : List Value} {vs : List V} (sb : Sub X k A) (F : FnOk X.prog X.w X.K X.mg X.base CX k f fd ps sp) (hb : Binds X.K fd ps []) (hx : Passes CX X E)
    (I : Inv X pins σ H s) (r : Vals vs us) (h : sp vs H Q E) : wpAny (model X.prog X.w) A (call (.ref f) us) (EP X pins σ Q) X.xe s := by
  have e := I.env0
  have e0 : Env0 X.prog X.w X.K X.mg X.base A X.stack s H := ⟨by rw [sb.fr]; exact e.frames, e.mod, e.bs, e.bsz, e.funs, e.frf, e.hok, e.bare⟩
  have hl : us.length = ps.length := r.length.symm.trans (F.len _ _ _ _ h)
  have bd := hb s us I.kIn (by simpa using hl)
  refine wpAny_call (codeAny_mono (F.run A X.stack s H ⟨us, []⟩ us vs Q E sb.room e0 (by simpa using bd) r h) fun res s' hq => ?_)
  match res, hq with
  | .error e, hq => exact hx pins σ H s e s' I hq
  | .ok (.ret u), hq => exact I.after hq
/-- what stands in the class C as the method m -/
structure OwnM (K : PySem.W.Frag) (C : Addr) (m : Str) (f : Addr) : Prop where
  at_ : PySem.W.findIn K (.ref C) m = some (some (.ref f))
  fn : PySem.W.isFn K (.ref f) = true
theorem ownInst {pins : List (Addr × Obj)} {σ : St} {H : Hp} {s : Shared} {a dx : Addr} {fs : List (Str × V)} (I : Inv X pins σ H s) (ha : H a = some (.ins C dx fs)) : ∃ ox od, PySem.W.InstAt s.heap a ox C od := by
  obtain ⟨mA, J, _⟩ := ins_get I.hok ha
  obtain ⟨od, J, _⟩ := J.look
  exact ⟨_, _, J⟩
def rOwn2 (C : Addr) (sp : Sp) (E : XK) : R2 := fun x y H Q => ∃ a dx fs, x = .ref a ∧ H a = some (.ins C dx fs) ∧ sp [.ref a, y] H Q E
/-- o[i] by the class's own __getitem__ -/
theorem ix_own {value slice : Expr} (M : OwnM X.K C "__getitem__" f) (hf : PySem.W.fnIn X.K f = true) (F : FnOk X.prog X.w X.K X.mg X.base CX k f fd ps sp) (hr : Room (k + 1) X.A) (hb : Binds X.K fd ps []) (hx : Passes CX X E)
    {a b : Expr} {ta tb : TE} {pos : Pos} (ha : PE X a ta) (hb2 : PE X b tb) (hs : ∀ o i, subscripted b true o i = runValue (.builtin "lifetime.subscript" ⟨[o, i], []⟩)) : PE X (.Subscript a b pos) (tOp (rOwn2 C sp E) ta tb) := by
  refine ⟨fun pins s σ H Q I h => ?_⟩
  refine Subscript_ (binT ha hb2 I h fun v u s2 x y H2 I2 rx ry q => ?_)
  obtain ⟨p, dx, fs, rfl, hp, q⟩ := q
  obtain rfl : v = Value.ref p := rx
  obtain ⟨ox, od, J⟩ := ownInst I2 hp
  obtain ⟨m, hF⟩ := I2.fr
  refine PySem.W.sub_K hF I2.ok.mod.kin J M.at_ hf M.fn ?_ (hs _ _)
  exact tk_run ⟨hr.in1, rfl⟩ F hb hx I2 (.cons (show RelV (.ref p) (.ref p) from rfl) (.cons ry .nil)) q
def rOwnIn (C : Addr) (sp : Sp) (E : XK) (neg : Bool) : R2 := fun y x H Q => ∃ a dx fs, x = .ref a ∧ H a = some (.ins C dx fs) ∧ sp [.ref a, y] H (fun v H' => ∃ c, v = .bl c ∧ Q (.bl (if neg then !c else c)) H') E
/-- y in o by the class's own __contains__ -/
theorem op_inOwn (M : OwnM X.K C "__contains__" f) (F : FnOk X.prog X.w X.K X.mg X.base CX k f fd ps sp) (hr : Room k X.A) (hb : Binds X.K fd ps []) (hx : Passes CX X E) : OpR X (compareOp .In) (rOwnIn C sp E false) := by
  intro pins s σ H y x u v Q I ry rx h
  obtain ⟨p, dx, fs, rfl, hp, q⟩ := h
  obtain rfl : v = Value.ref p := rx
  obtain ⟨ox, od, J⟩ := ownInst I hp
  obtain ⟨m, hF⟩ := I.fr
  refine PySem.W.in_K hF I.ok.mod.kin J M.at_ M.fn (thn (tk_run ⟨hr, rfl⟩ F hb hx I (.cons (show RelV (.ref p) (.ref p) from rfl) (.cons ry .nil)) q) fun r s' hq => ?_)
  obtain ⟨z, H', I', rz, c, rfl, q'⟩ := hq
  cases rz
  exact wpAny_truthy_bool ⟨.bl c, H', I', rfl, q'⟩
theorem op_notInOwn (M : OwnM X.K C "__contains__" f) (F : FnOk X.prog X.w X.K X.mg X.base CX k f fd ps sp) (hr : Room k X.A) (hb : Binds X.K fd ps []) (hx : Passes CX X E) : OpR X (compareOp .NotIn) (rOwnIn C sp E true) := by
  intro pins s σ H y x u v Q I ry rx h
  obtain ⟨p, dx, fs, rfl, hp, q⟩ := h
  obtain rfl : v = Value.ref p := rx
  obtain ⟨ox, od, J⟩ := ownInst I hp
  obtain ⟨m, hF⟩ := I.fr
  refine PySem.W.notIn_K hF I.ok.mod.kin J M.at_ M.fn (thn (tk_run ⟨hr, rfl⟩ F hb hx I (.cons (show RelV (.ref p) (.ref p) from rfl) (.cons ry .nil)) q) fun r s' hq => ?_)
  obtain ⟨z, H', I', rz, c, rfl, q'⟩ := hq
  cases rz
  exact wpAny_truthy_bool ⟨.bl (!c), H', I', rfl, q'⟩
/-- len(o) by the class's own __len__ -/
theorem call_lenOwn (M : OwnM X.K C "__len__" f) (F : FnOk X.prog X.w X.K X.mg X.base CX k f fd ps sp) (hr : Room (k + 1) X.A) (hb : Binds X.K fd ps []) (hx : Passes CX X E) :
    CallR X (.builtin "len") (fun xs H Q => ∃ a dx fs, xs = [.ref a] ∧ H a = some (.ins C dx fs) ∧ sp [.ref a] H (fun v H' => ∃ i : Int, v = .int i ∧ 0 ≤ i ∧ i < 2 ^ 63 ∧ Q v H') E) := by
  intro pins s σ H xs us Q I r h
  obtain ⟨p, dx, fs, rfl, hp, q⟩ := h
  obtain ⟨u, rfl, rx⟩ := vals1 r
  obtain rfl : u = Value.ref p := rx
  obtain ⟨ox, od, J⟩ := ownInst I hp
  obtain ⟨m, hF⟩ := I.fr
  refine PySem.W.len_K hF I.ok.mod.kin J M.at_ M.fn (thn (tk_run ⟨hr.in1, rfl⟩ F hb hx I (.cons (show RelV (.ref p) (.ref p) from rfl) .nil) q) fun r s' hq => ?_)
  obtain ⟨z, H', I', rz, i, rfl, i0, i1, q'⟩ := hq
  obtain ⟨t, rfl⟩ := rz
  refine ⟨⟨i0, i1⟩, ⟨.int i, H', I'.tok _, ⟨_, rfl⟩, q'⟩⟩
end
/-! ### .get of a written dict -/
def KG (K : PySem.W.Frag) (w : World) (a : Addr) (x : Str) (v : V) : Prop := KDct K w a x v ∧ (a == sysModules) = false
def tKGet (K : PySem.W.Frag) (w : World) (td ty : TE) : TE := fun σ H Q => td σ H fun x H1 => ty σ H1 fun y H2 => ∃ a z v, x = .ref a ∧ y = .str z ∧ KG K w a z v ∧ Q v H2
theorem pe_kget {X : Cx} {o e : Expr} {td ty : TE} {apos cpos : Pos} (ho : PE X o td) (he : PE X e ty) (hd : ∀ σ H Q, td σ H Q → td σ H fun x H1 => (∃ a oc es n, x = V.ref a ∧ X.K.lookup a = some oc ∧ oc = ⟨.type "dict", none, .dict es n, #[]⟩) ∧ Q x H1) (m : M1 X o "get" apos e cpos) :
    PE X (.Call (.Attribute o "get" apos) [e] [] cpos) (tKGet X.K X.w td ty) := by
  refine ⟨fun pins s σ H Q I h => ?_⟩
  refine wpAny_Call_method m.base m.few m.line PySem.F.plainAttrs_dict PySem.F.slot_dict_get PySem.F.type_dict_get (thn (ho.run pins s σ H _ I (hd _ _ _ h)) fun u s1 q0 => ?_)
  obtain ⟨x, H1, I1, rx, ⟨a, oc, es, n, rfl, lk, rfl⟩, q1⟩ := q0
  obtain rfl : u = Value.ref a := rx
  have ga := I1.kIn _ _ lk
  refine ⟨⟨_, ga, rfl⟩, fun b q => by cases q; exact ⟨_, ga, rfl⟩, ?_⟩
  rw [m.trees]
  refine Calls.callWith_builtin rfl (Calls.evalArgs_plain (Calls.spliced_cons (thn (he.run pins s1 σ H1 _ I1 q1) fun iv s2 q2 => Calls.spliced_nil ?_)))
  obtain ⟨y, H2, I2, ry, a', z, v, ea, rfl, ⟨⟨es', n', u0, hl, hk, e1, ru⟩, hs⟩, q2⟩ := q2
  cases ea
  obtain ⟨t, rfl⟩ := ry
  have mo := PySem.W.mapOf_K (prog := X.prog) (w := X.w) I2.kIn hl hk
  refine call_meetsIn PySem.F.slot_dict_get mo.typeIs PySem.F.entry_dict_get (PySem.F.args_dict_get_2 _ _) (meets_dict_get (strKind X.prog X.w) a (strKind_is X.prog X.w z t) hs) ⟨_, mo, ?_⟩
  rw [PySem.W.find_K hl e1]
  exact ⟨v, H2, I2.tok _, ru, q2⟩
end L2
set_option maxRecDepth 100000
namespace L2
open PySem PySem.Spec PyProof.Rows
/-! ### a class's own methods, where an error may come out -/
section
variable {X : Cx} {CX : CXT} {k n : Nat} {C f : Addr} {fd : FuncData} {ps : List Str} {sp : Sp} {E : St → XK}
theorem tk_runS {A : Around} {pins : List (Addr × Obj)} {σ : St} {H : Hp} {s : Shared} {Q : VK} {us : List Value} {vs : List V} (sb : Sub X k A) (F : FnOk X.prog X.w X.K X.mg X.base CX k f fd ps sp) (hb : Binds X.K fd ps []) (hx : PassesAt CX X σ (E σ))
    (I : Inv X pins σ H s) (r : Vals vs us) (h : sp vs H Q (E σ)) : wpAny (model X.prog X.w) A (call (.ref f) us) (EP X pins σ Q) X.xe s := by
  have e := I.env0
  have e0 : Env0 X.prog X.w X.K X.mg X.base A X.stack s H := ⟨by rw [sb.fr]; exact e.frames, e.mod, e.bs, e.bsz, e.funs, e.frf, e.hok, e.bare⟩
  have hl : us.length = ps.length := r.length.symm.trans (F.len _ _ _ _ h)
  have bd := hb s us I.kIn (by simpa using hl)
  refine wpAny_call (codeAny_mono (F.run A X.stack s H ⟨us, []⟩ us vs Q (E σ) sb.room e0 (by simpa using bd) r h) fun res s' hq => ?_)
  match res, hq with
  | .error e, hq => exact hx pins H s e s' I hq
  | .ok (.ret u), hq => exact I.after hq
/-- o[i] by the class's own __getitem__, which may raise -/
def tIxS (C : Addr) (sp : Sp) (E : St → XK) (ta tb : TE) : TE := fun σ H Q => ta σ H fun x H1 => tb σ H1 fun y H2 => rOwn2 C sp (E σ) x y H2 Q
theorem ix_ownS {value slice : Expr} (M : OwnM X.K C "__getitem__" f) (hf : PySem.W.fnIn X.K f = true) (F : FnOk X.prog X.w X.K X.mg X.base CX k f fd ps sp) (hr : Room (k + 1) X.A) (hb : Binds X.K fd ps []) (hx : ∀ σ, PassesAt CX X σ (E σ))
    {a b : Expr} {ta tb : TE} {pos : Pos} (ha : PE X a ta) (hb2 : PE X b tb) (hs : ∀ o i, subscripted b true o i = runValue (.builtin "lifetime.subscript" ⟨[o, i], []⟩)) : PE X (.Subscript a b pos) (tIxS C sp E ta tb) := by
  refine ⟨fun pins s σ H Q I h => ?_⟩
  refine Subscript_ (binT ha hb2 I h fun v u s2 x y H2 I2 rx ry q => ?_)
  obtain ⟨p, dx, fs, rfl, hp, q⟩ := q
  obtain rfl : v = Value.ref p := rx
  obtain ⟨ox, od, J⟩ := ownInst I2 hp
  obtain ⟨m, hF⟩ := I2.fr
  refine PySem.W.sub_K hF I2.ok.mod.kin J M.at_ hf M.fn ?_ (hs _ _)
  exact tk_runS ⟨hr.in1, rfl⟩ F hb (hx σ) I2 (.cons (show RelV (.ref p) (.ref p) from rfl) (.cons ry .nil)) q
end
/-! ### an error class with one field -/
structure Ecl (K : PySem.W.Frag) (mg : Str → Option Value) (nm f : Str) (C fI : Addr) : Prop where
  gC : mg nm = some (.ref C)
  ox : OexC K C
  iC : PySem.W.findIn K (.ref C) "__init__" = some (some (.ref fI))
  tI : PySem.W.typeIn K (.ref fI) = some (.type "function")
  noF : PySem.W.findIn K (.ref C) f = some none
  xf : XfC K C
  cl : (PySem.W.clsIn K C).isSome = true
  ha : PySem.W.findIn K (.ref C) "__class__" = some (some (.builtin "object.__class__"))
  hn : PySem.W.specialIn K (.builtin "object.__class__") "__get__" = some (some (.builtin "getset_descriptor.__get__"))
  ht : PySem.W.takesIn K (.builtin "object.__class__") = some true
  hm : PySem.W.mroIn K C (.type "object") = some true
  te : PySem.W.exmOne K (.ref C) (.ref C) = some true
/-- what such an __init__ promises -/
def spEI (C : Addr) (f : Str) : Sp := fun vs H Q _ => ∃ (a : Addr) (v : V), vs = [.ref a, v] ∧ H a = some (exo a C none) ∧ ∀ dx, H dx = none → dx ≠ a → Q .non (upd (upd H dx (exd dx [(f, v)])) a (exo a C (some dx)))
/-- raise C(e) -/
theorem ps_raise1 {X : Cx} {W : WX} {nm f : Str} {C fI : Addr} {fd : FuncData} {ps : List Str} {e : Expr} {es : List Expr} {ta : TA} {p pos ppos : Pos} (hc : X.calm = true) (tk : Takes X W) (T : Ecl X.K X.mg nm f C fI) (F1 : FnOk X.prog X.w X.K X.mg X.base CX0 1 fI fd ps (spEI C f)) (hr : Room 2 X.A) (hb : Binds X.K fd ps [])
    (hg : Gl X nm) (ha : PA X (e :: es) ta) (hdb : (nm == ("__debug__" : Str)) = false := by decide) (he : starEach (e :: es) X.env = (false, eval e X.env) :: starEach es X.env := by rfl) (hpl : (backTo pos (starEach es X.env)).any (·.1) = false := by rfl) :
    PS X (.Raise (some (.Call (.Name nm p) (e :: es) [] pos)) none ppos) (fun _ σ H => tMkO C (spEI C f) [] ta σ H fun cls d H' => W cls d σ H') :=
  ps_raise (pos := ppos) hc tk (pmk_oex T.ox T.iC T.tI F1 hr hb .nil pass0 hg T.gC ha hdb he hpl)
theorem made1 {C : Addr} {f : Str} {v : V} {H1 : Hp} {Q : XK} (q : ∀ d, H1 d = none → Q (.ref C) (some d) (upd H1 d (.xd [(f, v)]))) : [v].length ≤ 1000 ∧ ∀ a, H1 a = none → spEI C f (.ref a :: ([v] ++ [])) (upd H1 a (exo a C none))
    (fun v H2 => v = .non ∧ ∃ (d : Addr) (fs : List (Str × V)), H2 a = some (exo a C (some d)) ∧ H2 d = some (exd d fs) ∧ H1 d = none ∧ Q (.ref C) (some d) (upd (del H2 a) d (.xd fs))) (fun _ _ _ => False) := by
  refine ⟨(by show 1 ≤ 1000; decide), fun a ha => ⟨a, v, rfl, upd_same, fun dx hd ne => ⟨rfl, dx, _, upd_same, by rw [upd_ne ne, upd_same], by rw [upd_ne ne] at hd; exact hd, ?_⟩⟩⟩
  have hd' : H1 dx = none := by rw [upd_ne ne] at hd; exact hd
  have e : upd (del (upd (upd (upd H1 a (exo a C none)) dx (exd dx [(f, v)])) a (exo a C (some dx))) a) dx (.xd [(f, v)]) = upd H1 dx (.xd [(f, v)]) := by
    funext b
    by_cases h1 : b = dx
    · rw [h1, upd_same, upd_same]
    · rw [upd_ne h1, upd_ne h1]
      by_cases h2 : b = a
      · rw [h2, del_same, ha]
      · rw [del_ne h2, upd_ne h2, upd_ne h1, upd_ne h2]
  rw [e]
  exact q dx hd'
/-- isinstance(e, c), e the caught error with its dict -/
def rIsX (K : PySem.W.Frag) (a : Addr) (cls : Value) (d : Option Addr) (D : Addr) : List V → Hp → VK → Prop := fun xs H Q => ∃ (c : V) (cv : Value) (b : Bool) (dd : Addr) (fs : List (Str × V)), cls = .ref D ∧ d = some dd ∧ H dd = some (.xd fs) ∧ xs = [.ref a, c] ∧ (∀ u, RelV c u → u = cv) ∧ PySem.W.kitOne K (.ref D) cv = some b ∧ Q (.bl b) H
theorem call_isX {X : Cx} {a D : Addr} {cls : Value} {d : Option Addr} {nm f : Str} {fI : Addr} {mg : Str → Option Value} {oe : Obj} {pn : List (Addr × Obj)} (T : Ecl X.K mg nm f D fI) (hz : Zc cls d oe) (hf : ∃ vs, oe.data = .fields vs) :
    CallR (X.suite a ((a, oe) :: pn)) (.builtin "isinstance") (rIsX X.K a cls d D) := by
  rintro pins s σ H xs us Q I r ⟨c, cv, b, dd, fs, rfl, rfl, ea, rfl, hcv, e, q⟩
  obtain ⟨u1, u2, rfl, r1, r2⟩ : ∃ u1 u2, us = [u1, u2] ∧ RelV (.ref a) u1 ∧ RelV c u2 := by
    cases r with
    | cons p1 t1 => cases t1 with
      | cons p2 t2 => cases t2; exact ⟨_, _, rfl, p1, p2⟩
  obtain rfl : u1 = Value.ref a := r1
  rw [hcv u2 r2]
  have own := (I.pin (a, oe) (List.mem_append_left _ List.mem_cons_self)).1
  obtain ⟨vs, isF⟩ := hf
  obtain ⟨mA, named, _⟩ := show ObjOk X.prog X.w H s.heap dd (.xd fs) from I.hok dd _ ea
  obtain ⟨od, at_, _⟩ := lookIn_ns named
  have J : PySem.W.InstAt s.heap a oe D (some od) := by
    refine ⟨own, hz.1, ?_, by rw [hz.2]; exact at_⟩
    unfold PySem.W.notCls
    rw [isF] <;> rfl
  have kit := PySem.W.kitx_exc (x := a) (ox := oe) (od := some od) T.cl T.xf.ga T.xf.gg T.xf.exC T.ha T.hn T.ht T.hm
  exact PySem.W.kia_one kit I.kIn J e (fun z => nomatch z) fun tk => ⟨.bl b, H, I.kept (t' := tk) fun _ _ z => z, rfl, q⟩
/-- x == x, for data and for empty dicts -/
def Slf (K : PySem.W.Frag) (H : Hp) (v : V) : Prop := (∃ d, Dp K H v d ∧ SeqAt.shaped d = true ∧ PyData.eqv d d = true) ∨ ∃ a, v = .ref a ∧ H a = some (.dK [])
def rSlf (K : PySem.W.Frag) : R2 := fun x y H Q => x = y ∧ Slf K H x ∧ Q (.bl true) H
theorem op_slf {X : Cx} (hu : X.A.units + 64 < cLine) : OpR X (compareOp .Eq) (rSlf X.K) := by
  intro pins s σ H x y v u Q I rx ry h
  obtain ⟨rfl, h, q⟩ := h
  rcases h with ⟨d, h1, h2, h3⟩ | ⟨a, rfl, h⟩
  · exact op_eqD hu pins s σ H x x v u Q I rx ry ⟨d, d, h1, h1, h2, h2, by rw [h3]; exact q⟩
  · exact op_eqV hu pins s σ H _ _ v u Q I rx ry ⟨1, by decide, .inr ⟨a, a, [], [], rfl, rfl, h, h, rfl, fun p hp => nomatch hp⟩, q⟩
end L2
set_option maxRecDepth 100000
namespace Tk
open PySem L2
def top (i : Nat) : Stmt := PySem.Challenge.pw_takenahead_k58_turned_lists.main.body.getD i (.Pass ⟨0, 0, 0, 0⟩)
abbrev sBox : Stmt := top 11
abbrev sPick : Stmt := top 12
/-- the built-in names that the program reads -/
structure Bl (mg : Str → Option Value) : Prop where
  len : mg "len" = none
  int : mg "int" = none
theorem iteFb {c : Bool} {A B : Prop} (e : c = false) (h : B) : if c = true then A else B := by rw [e]; exact iteF h
theorem iteTb {c : Bool} {A B : Prop} (e : c = true) (h : A) : if c = true then A else B := by rw [e]; exact iteT h
def spBox (K : PySem.W.Frag) : Sp := fun vs H Q _ => ∃ (a : Addr) (ns : List Int) (k : Int), vs = [.ref a, .int k] ∧ SqL K H a (ns.map V.int) ∧ 0 ≤ k ∧
  ∀ (p : Addr) (H' : Hp), H p = none → Same H H' → PoolAt H' p → Q (.ref p) H'
def spPick : Sp := fun vs H Q _ => ∃ (p : Addr) (n : Int), vs = [.ref p, .int n] ∧ PoolAt H p ∧ 0 < n ∧ n.natAbs.log2 < 9000 ∧
  ∀ (r : Int) (H' : Hp), 0 ≤ r → r < n → Kp p H H' → PoolAt H' p → Q (.int r) H'
section
variable {P : Program} {w : World} {K : PySem.W.Frag} {mg : Str → Option Value} {base : Heap}
theorem scBox : FnScope ["_law_script", "_law_k", "_law_cell"] ["_law_script", "_law_k"] (defScope sBox) := ⟨rfl, rfl, rfl, by decide +kernel, rfl, by decide +kernel, by decide +kernel⟩
theorem ok_box {f : Addr} {fd : FuncData} (F : Fun K "_law_box" "_law_box" sBox f fd) (B : Bl mg) : FnOk P w K mg base CX0 1 f fd ["_law_script", "_law_k"] (spBox K) := by
  refine F.ok scBox (fun vs H Q E h => ?_) (fun cdv A outer s H vs Q E hr h => ?_)
  · obtain ⟨a, ns, k, rfl, _⟩ := h
    rfl
  obtain ⟨a, ns, k, rfl, hS, h0, q⟩ := h
  refine ⟨_, pss_cons (ps_set (i := 2) scBox.nd rfl (Or.inl rfl) pe_int)
    (pss_cons (ps_if (pt_cmpR op_lt (pv 1) (pe_callB call_len_seq (by rfl) B.len PySem.boot_len (pa_cons (pv 0) pa_nil)) (nomark _))
      (pss_one (ps_set (i := 2) scBox.nd rfl (Or.inl rfl) (pe_callTy call_int1 (by rfl) B.int (by decide +kernel) (pa_cons (pe_ix ix_list (pv 0) (pv 1) (fun _ _ => rfl)) pa_nil)))) pss_nil)
    (pss_cons (ps_if (pt_cmpR op_ge (pv 2) (pe_op op_pow pe_int pe_int) (nomark _))
      (pss_one (ps_ret (pe_lst (pa_cons (pe_op op_sub (pv 2) (pe_op op_pow pe_int pe_int)) (pa_cons (pe_op op_add (pe_op op_modN (pe_callTy call_int1 (by rfl) B.int (by decide +kernel) (pa_cons (pv 2) pa_nil)) pe_int) (pv 1)) (pa_cons pe_int pa_nil)))))) pss_nil)
    (pss_one (ps_ret (pe_lst (pa_cons pe_int (pa_cons (pe_op op_add (pe_op op_modN (pe_callTy call_int1 (by rfl) B.int (by decide +kernel) (pa_cons (pv 2) pa_nil)) pe_int) (pe_op op_mul pe_int (pv 1))) (pa_cons pe_int pa_nil)))))))), ?_⟩
  refine ⟨_, rfl, _, rfl, a, _, rfl, .inl hS, _, _, rfl, rfl, _, rfl, ?_⟩
  have fin : ∀ xs : List V, (∃ x y z : Int, xs = [.int x, .int y, .int z]) → ∀ (l : Addr), H l = none → Q (.ref l) (L2.upd H l (.lst xs)) := by
    rintro xs ⟨x, y, z, rfl⟩ l hl
    exact q l _ hl (same_new hl _) ⟨_, _, _, upd_same⟩
  refine ite2 (fun c => ?_) (fun c => ?_)
  · have c' : k < (((ns.map V.int).length : Nat) : Int) := of_decide_eq_true c
    rw [List.length_map] at c'
    have hk : k.toNat < ns.length := by omega
    have ek : k = ((k.toNat : Nat) : Int) := by omega
    have q1 : atI (ns.map V.int) ((k.toNat : Nat) : Int) = some (.int ns[k.toNat]) := atI_nat (by rw [List.getElem?_map, List.getElem?_eq_getElem hk] <;> rfl)
    rw [← ek] at q1
    refine ⟨_, rfl, _, rfl, a, _, _, _, rfl, rfl, hS, q1, .inl ⟨_, rfl, ?_⟩⟩
    refine ⟨_, rfl, _, _, rfl, rfl, ⟨by decide, by decide, by decide⟩, _, _, rfl, rfl, _, rfl, ite2 (fun c => ?_) (fun c => ?_)⟩
    · refine ⟨_, rfl, _, _, rfl, rfl, ⟨by decide, by decide, by decide⟩, _, _, rfl, rfl, _, rfl, .inl ⟨_, rfl, _, _, rfl, rfl, (by show (2147483629:Int) ≠ 0; decide), _, rfl, _, _, rfl, rfl, (by show 3 ≤ sizeLine; decide), fun l hl => fin _ ⟨_, _, _, rfl⟩ l hl⟩⟩
    · refine ⟨_, rfl, .inl ⟨_, rfl, _, _, rfl, rfl, (by show (2147483629:Int) ≠ 0; decide), _, rfl, _, _, rfl, rfl, .inl ⟨by decide, by decide⟩, _, _, rfl, rfl, (by show 3 ≤ sizeLine; decide), fun l hl => fin _ ⟨_, _, _, rfl⟩ l hl⟩⟩
  · refine ⟨_, rfl, _, _, rfl, rfl, ⟨by decide, by decide, by decide⟩, _, _, rfl, rfl, _, rfl, ite2 (fun c => ?_) (fun c => ?_)⟩
    · refine ⟨_, rfl, _, _, rfl, rfl, ⟨by decide, by decide, by decide⟩, _, _, rfl, rfl, _, rfl, .inl ⟨_, rfl, _, _, rfl, rfl, (by show (2147483629:Int) ≠ 0; decide), _, rfl, _, _, rfl, rfl, (by show 3 ≤ sizeLine; decide), fun l hl => fin _ ⟨_, _, _, rfl⟩ l hl⟩⟩
    · refine ⟨_, rfl, .inl ⟨_, rfl, _, _, rfl, rfl, (by show (2147483629:Int) ≠ 0; decide), _, rfl, _, _, rfl, rfl, .inl ⟨by decide, by decide⟩, _, _, rfl, rfl, (by show 3 ≤ sizeLine; decide), fun l hl => fin _ ⟨_, _, _, rfl⟩ l hl⟩⟩
theorem scPick : FnScope ["_law_box_here", "_law_size", "_law_digit", "_law_number"] ["_law_box_here", "_law_size"] (defScope sPick) := ⟨rfl, rfl, rfl, by decide +kernel, rfl, by decide +kernel, by decide +kernel⟩
theorem ok_pick {f : Addr} {fd : FuncData} (F : Fun K "_law_pick" "_law_pick" sPick f fd) (B : Bl mg) : FnOk P w K mg base CX0 1 f fd ["_law_box_here", "_law_size"] spPick := by
  refine F.ok scPick (fun vs H Q E h => ?_) (fun cdv A outer s H vs Q E hr h => ?_)
  · obtain ⟨p, n, rfl, _⟩ := h
    rfl
  obtain ⟨p, n, rfl, ⟨a, b, c0, hp⟩, n0, n1, q⟩ := h
  refine ⟨_, pss_cons (ps_if (pt_cmpR op_gt (pe_ix ix_list (pv 0) pe_int (fun _ _ => rfl)) pe_int (nomark _))
      (pss_cons (ps_set (i := 2) scPick.nd rfl (Or.inl rfl) (pe_op op_modN (pe_callTy call_int1 (by rfl) B.int (by decide +kernel) (pa_cons (pe_ix ix_list (pv 0) pe_int (fun _ _ => rfl)) pa_nil)) (pv 1)))
      (pss_cons (ps_asg (pe_op op_fdivW (pe_ix ix_list (pv 0) pe_int (fun _ _ => rfl)) (pv 1)) (pg_sub (pv 0) pe_int set_list))
      (pss_one (ps_ret (pv 2))))) pss_nil)
    (pss_cons (ps_asg (pe_op op_add (pe_ix ix_list (pv 0) pe_int (fun _ _ => rfl)) pe_int) (pg_sub (pv 0) pe_int set_list))
    (pss_cons (ps_set (i := 3) scPick.nd rfl (Or.inl rfl) (pe_op op_modN (pe_callTy call_int1 (by rfl) B.int (by decide +kernel) (pa_cons
        (pe_op op_mul (pe_op op_add (pe_op op_add (pe_ix ix_list (pv 0) pe_int (fun _ _ => rfl)) (pe_op op_mul pe_int (pe_ix ix_list (pv 0) pe_int (fun _ _ => rfl)))) pe_int) pe_int) pa_nil)) pe_int))
    (pss_cons (ps_set (i := 3) scPick.nd rfl (Or.inl rfl) (pe_op op_modN (pe_callTy call_int1 (by rfl) B.int (by decide +kernel) (pa_cons
        (pe_op op_mul (pv 3) (pe_op op_add (pe_op op_fdivN (pv 3) pe_int) pe_int)) pa_nil)) pe_int))
    (pss_cons (ps_set (i := 3) scPick.nd rfl (Or.inl rfl) (pe_op op_modN (pe_callTy call_int1 (by rfl) B.int (by decide +kernel) (pa_cons
        (pe_op op_mul (pv 3) (pe_op op_add (pe_op op_fdivN (pv 3) pe_int) pe_int)) pa_nil)) pe_int))
    (pss_one (ps_ret (pe_op op_modN (pe_callTy call_int1 (by rfl) B.int (by decide +kernel) (pa_cons (pe_op op_fdivN (pv 3) pe_int) pa_nil)) (pv 1)))))))), ?_⟩
  refine ⟨_, rfl, p, _, _, _, rfl, rfl, SqL.of hp, rfl, _, _, rfl, rfl, _, rfl, ?_⟩
  refine ite2 (fun c => ?_) (fun c => ?_)
  · refine ⟨_, rfl, p, _, _, _, rfl, rfl, SqL.of hp, rfl, .inl ⟨_, rfl, _, rfl, _, _, rfl, rfl, by omega, ?_⟩⟩
    refine ⟨_, rfl, p, _, _, _, rfl, rfl, SqL.of hp, rfl, _, rfl, _, _, rfl, rfl, ⟨n0, n1⟩, _, rfl, p, _, _, _, rfl, rfl, hp, rfl, ?_⟩
    exact ⟨_, rfl, q _ _ (fmod_ok n0).1 (fmod_ok n0).2 Kp.upd ⟨_, _, _, upd_same⟩⟩
  · refine ⟨_, rfl, p, _, _, _, rfl, rfl, SqL.of hp, rfl, _, _, rfl, rfl, _, rfl, p, _, _, _, rfl, rfl, hp, rfl, ?_⟩
    refine ⟨_, rfl, p, _, _, _, rfl, rfl, SqL.of upd_same, rfl, _, rfl, p, _, _, _, rfl, rfl, SqL.of upd_same, rfl, _, _, rfl, rfl, .inl ⟨by decide, by decide⟩, _, _, rfl, rfl, _, _, rfl, rfl,
      _, _, rfl, rfl, .inr ⟨by decide, by decide⟩, .inl ⟨_, rfl, _, _, rfl, rfl, (by show (2147483647:Int) ≠ 0; decide), ?_⟩⟩
    have r1 := fmod_ok (a := (b + 7919 * (c0 + 1) + 1) * 48271) (n := 2147483647) (by decide)
    refine ⟨_, rfl, _, rfl, _, _, rfl, rfl, ⟨by decide, by decide⟩, _, _, rfl, rfl, _, _, rfl, rfl, .inl ⟨by omega, by omega⟩, .inl ⟨_, rfl, _, _, rfl, rfl, (by show (2147483647:Int) ≠ 0; decide), ?_⟩⟩
    have r2 := fmod_ok (a := (((b + 7919 * (c0 + 1) + 1) * 48271).fmod 2147483647) * ((((b + 7919 * (c0 + 1) + 1) * 48271).fmod 2147483647).fdiv 1009 + 69621)) (n := 2147483647) (by decide)
    refine ⟨_, rfl, _, rfl, _, _, rfl, rfl, ⟨by decide, by decide⟩, _, _, rfl, rfl, _, _, rfl, rfl, .inl ⟨by omega, by omega⟩, .inl ⟨_, rfl, _, _, rfl, rfl, (by show (2147483399:Int) ≠ 0; decide), ?_⟩⟩
    refine ⟨_, rfl, _, _, rfl, rfl, ⟨by decide, by decide⟩, .inl ⟨_, rfl, _, rfl, _, _, rfl, rfl, by omega, ?_⟩⟩
    exact q _ _ (fmod_ok n0).1 (fmod_ok n0).2 Kp.upd ⟨_, _, _, upd_same⟩
end
end Tk
set_option maxRecDepth 100000
namespace Tk
open PySem L2
/-- values by their kinds -/
inductive Kd (H : Hp) : V → String → Prop
  | non : Kd H .non "NoneType"
  | bl (b : Bool) : Kd H (.bl b) "bool"
  | int (i : Int) : Kd H (.int i) "int"
  | str (z : Str) : Kd H (.str z) "str"
  | lst {a : Addr} {xs : List V} (e : H a = some (.lst xs)) : Kd H (.ref a) "list"
  | tup {a : Addr} {xs : List V} (e : H a = some (.tup xs)) : Kd H (.ref a) "tuple"
  | dK {a : Addr} {kvs : List (Key × V)} (e : H a = some (.dK kvs)) : Kd H (.ref a) "dict"
theorem Kd.ty {K : PySem.W.Frag} {H : Hp} {v : V} {T : String} (k : Kd H v T) : TyX K H v (.type T) := by
  cases k with
  | non => exact .base .non
  | bl b => exact .base (.bl b)
  | int i => exact .base (.int i)
  | str z => exact .base (.str z)
  | lst e => exact .base (.lst e)
  | tup e => exact .base (.tup e)
  | dK e => exact .base (.dK e)
theorem Kd.keep {H H' : Hp} {v : V} {T : String} (s : Same H H') (k : Kd H v T) : Kd H' v T := by
  cases k with
  | non => exact .non
  | bl b => exact .bl b
  | int i => exact .int i
  | str z => exact .str z
  | lst e => exact .lst (s _ _ e)
  | tup e => exact .tup (s _ _ e)
  | dK e => exact .dK (s _ _ e)
def intB : V → Bool
  | .int _ => true
  | _ => false
theorem Kd.intB {H : Hp} {v : V} {T : String} (k : Kd H v T) : ∃ b1 b2, kitB T "int" = some b1 ∧ kitB T "bool" = some b2 ∧ (b1 && !b2) = Tk.intB v := by
  cases k with
  | non => exact ⟨false, false, by decide +kernel, by decide +kernel, rfl⟩
  | bl b => exact ⟨true, true, by decide +kernel, by decide +kernel, rfl⟩
  | int i => exact ⟨true, false, by decide +kernel, by decide +kernel, rfl⟩
  | str z => exact ⟨false, false, by decide +kernel, by decide +kernel, rfl⟩
  | lst e => exact ⟨false, false, by decide +kernel, by decide +kernel, rfl⟩
  | tup e => exact ⟨false, false, by decide +kernel, by decide +kernel, rfl⟩
  | dK e => exact ⟨false, false, by decide +kernel, by decide +kernel, rfl⟩
abbrev sIsInt : Stmt := top 5
abbrev sWithin : Stmt := top 6
structure Bi (mg : Str → Option Value) : Prop where
  isi : mg "isinstance" = none
  int : mg "int" = none
  bool : mg "bool" = none
def spIsInt (K : PySem.W.Frag) : Sp := fun vs H Q _ => ∃ (x : V) (T : String) (b1 b2 : Bool), vs = [x] ∧ TyX K H x (.type T) ∧ kitB T "int" = some b1 ∧ kitB T "bool" = some b2 ∧ Q (.bl (b1 && !b2)) H
def spWithin (K : PySem.W.Frag) : Sp := fun vs H Q _ => ∃ (x : V) (T : String) (b1 b2 : Bool) (lo hi : Int), vs = [x, .int lo, .int hi] ∧ TyX K H x (.type T) ∧ kitB T "int" = some b1 ∧ kitB T "bool" = some b2 ∧
  ((b1 && !b2) = false → Q (.bl false) H) ∧ ((b1 && !b2) = true → ∃ i, x = .int i ∧ Q (.bl (decide (lo ≤ i) && decide (i ≤ hi))) H)
section
variable {P : Program} {w : World} {K : PySem.W.Frag} {mg : Str → Option Value} {base : Heap}
theorem scII : FnScope ["value"] ["value"] (defScope sIsInt) := ⟨rfl, rfl, rfl, by decide +kernel, rfl, by decide +kernel, by decide +kernel⟩
theorem ok_isint {f : Addr} {fd : FuncData} (F : Fun K "is_integer" "is_integer" sIsInt f fd) (T : Bi mg) : FnOk P w K mg base CX0 1 f fd ["value"] (spIsInt K) := by
  refine F.ok scII (fun vs H Q E h => ?_) (fun cdv A outer s H vs Q E hr h => ?_)
  · obtain ⟨x, t, b1, b2, rfl, _⟩ := h
    rfl
  obtain ⟨x, t, b1, b2, rfl, ty, k1, k2, q⟩ := h
  refine ⟨_, pss_one (ps_ret (pe_and (pe_callB call_isi (by rfl) T.isi (by decide +kernel) (pa_cons (pv 0) (pa_cons (pe_bltn (v := .ty "int") (by rfl) T.int (by decide +kernel) rfl) pa_nil)))
    (pe_one (pe_not (pe_callB call_isi (by rfl) T.isi (by decide +kernel) (pa_cons (pv 0) (pa_cons (pe_bltn (v := .ty "bool") (by rfl) T.bool (by decide +kernel) rfl) pa_nil))))))), ?_⟩
  refine ⟨_, rfl, x, _, _, _, b1, rfl, .ty "int", ty, kit_ty k1, b1, rfl, ?_⟩
  cases b1 with
  | false => exact iteF q
  | true => exact iteT ⟨_, rfl, x, _, _, _, b2, rfl, .ty "bool", ty, kit_ty k2, b2, rfl, q⟩
theorem scWi : FnScope ["value", "low", "high"] ["value", "low", "high"] (defScope sWithin) := ⟨rfl, rfl, rfl, by decide +kernel, rfl, by decide +kernel, by decide +kernel⟩
theorem ok_within {f fI : Addr} {fd fdI : FuncData} (F : Fun K "is_within" "is_within" sWithin f fd) (GI : FnOk P w K mg base CX0 1 fI fdI ["value"] (spIsInt K)) (bI : Binds K fdI ["value"] []) (kI : PySem.W.keepIn K (.ref fI) = true) (mI : mg "is_integer" = some (.ref fI)) :
    FnOk P w K mg base CX0 2 f fd ["value", "low", "high"] (spWithin K) := by
  refine F.ok scWi (fun vs H Q E h => ?_) (fun cdv A outer s H vs Q E hr h => ?_)
  · obtain ⟨x, t, b1, b2, lo, hi, rfl, _⟩ := h
    rfl
  obtain ⟨x, t, b1, b2, lo, hi, rfl, ty, k1, k2, q1, q2⟩ := h
  refine ⟨_, pss_one (ps_ret (pe_and (pe_call GI hr rfl mI kI bI .nil pass0 (pa_cons (pv 0) pa_nil)) (pe_one (pe_chain op_le op_le (pv 1) (pv 0) (pv 2))))), ?_⟩
  refine ⟨_, rfl, x, t, b1, b2, rfl, ty, k1, k2, _, rfl, ?_⟩
  cases e : (b1 && !b2) with
  | false => exact iteF (q1 e)
  | true =>
    obtain ⟨i, rfl, q⟩ := q2 e
    refine iteT ⟨_, rfl, _, rfl, _, _, rfl, rfl, _, rfl, ?_⟩
    by_cases c : lo ≤ i
    · rw [decide_eq_true c, Bool.true_and] at q
      exact iteTb (decide_eq_true c) ⟨_, rfl, _, _, rfl, rfl, q⟩
    · rw [decide_eq_false c, Bool.false_and] at q
      exact iteFb (decide_eq_false c) q
end
end Tk
set_option maxRecDepth 100000
namespace Tk
open PySem L2
abbrev sMarked : Stmt := top 13
abbrev sTurned : Stmt := top 9
abbrev sRef : Stmt := top 14
abbrev sLaw : Stmt := top 15
/-- flat things of the marked steps -/
def Fl (v : V) : Prop := v = .non ∨ (∃ i, v = .int i) ∨ v = .str "crash"
/-- data whose depth is at most n, read from v -/
def Dd (K : PySem.W.Frag) (H : Hp) (n : Nat) (v : V) (d : PyData) : Prop := Dp K H v d ∧ d.canLay0 = true ∧ d.depth ≤ n
theorem Fl.dd {K : PySem.W.Frag} {H : Hp} {v : V} (h : Fl v) : ∃ d, Dd K H 0 v d := by
  rcases h with rfl | ⟨i, rfl⟩ | rfl
  · exact ⟨_, .non, rfl, Nat.le_refl _⟩
  · exact ⟨_, .int i, rfl, Nat.le_refl _⟩
  · exact ⟨_, .str _, by decide +kernel, Nat.le_refl _⟩
theorem dd_all {K : PySem.W.Frag} {H : Hp} {n : Nat} : ∀ {xs : List V}, (∀ x ∈ xs, ∃ d, Dd K H n x d) → ∃ ds, DpAll K H xs ds ∧ PyData.canLayAll0 ds = true ∧ PyData.depthAll ds ≤ n
  | [], _ => ⟨[], .nil, rfl, Nat.zero_le _⟩
  | x :: xs, h => by
    obtain ⟨d, h1, h2, h3⟩ := h x List.mem_cons_self
    obtain ⟨ds, g1, g2, g3⟩ := dd_all (fun y hy => h y (List.mem_cons_of_mem _ hy))
    refine ⟨d :: ds, .cons h1 g1, ?_, ?_⟩
    · rw [PyData.canLayAll0, h2, g2]; rfl
    · rw [PyData.depthAll]; omega
theorem dd_tup {K : PySem.W.Frag} {H : Hp} {n : Nat} {a : Addr} {xs : List V} (e : H a = some (.tup xs)) (h : ∀ x ∈ xs, ∃ d, Dd K H n x d) : ∃ d, Dd K H (n + 1) (.ref a) d := by
  obtain ⟨ds, h1, h2, h3⟩ := dd_all h
  exact ⟨.tuple ds, .tup (SqT.of e) h1, by rw [PyData.canLay0]; exact h2, by rw [PyData.depth]; omega⟩
/-- two lists of the same things -/
theorem dd_lst2 {K : PySem.W.Frag} {H : Hp} {n : Nat} {a b : Addr} {xs : List V} (e : H a = some (.lst xs)) (e2 : H b = some (.lst xs)) (h : ∀ x ∈ xs, ∃ d, Dd K H n x d) : ∃ d, Dd K H (n + 1) (.ref a) d ∧ Dp K H (.ref b) d := by
  obtain ⟨ds, h1, h2, h3⟩ := dd_all h
  exact ⟨.list ds, ⟨.lst (SqL.of e) h1, by rw [PyData.canLay0]; exact h2, by rw [PyData.depth]; omega⟩, .lst (SqL.of e2) h1⟩
theorem dd_shaped {K : PySem.W.Frag} {H : Hp} {n : Nat} {v : V} {d : PyData} (h : Dd K H n v d) (hn : n ≤ 64) : SeqAt.shaped d = true ∧ PyData.eqv d d = true := by
  refine ⟨?_, SeqAt.eqv_refl d h.2.1⟩
  unfold SeqAt.shaped
  rw [h.2.1, decide_eq_true (Nat.le_trans h.2.2 hn)]; rfl
/-- a small tuple of flat things -/
def TD (H : Hp) (v : V) : Prop := ∃ a xs, v = .ref a ∧ H a = some (.tup xs) ∧ ∀ x ∈ xs, Fl x
/-- a marked step: the pair, the step, the offsets -/
abbrev Mt := Addr × V × V
structure It (H : Hp) (t : Mt) : Prop where
  pair : H t.1 = some (.tup [t.2.1, t.2.2])
  step : TD H t.2.1
  offs : TD H t.2.2
theorem TD.keep {H H' : Hp} (k : TK H H') {v : V} (h : TD H v) : TD H' v := by
  obtain ⟨a, xs, e, h1, h2⟩ := h
  exact ⟨a, xs, e, k _ _ h1, h2⟩
theorem It.keep {H H' : Hp} (k : TK H H') {t : Mt} (h : It H t) : It H' t := ⟨k _ _ h.pair, h.step.keep k, h.offs.keep k⟩
theorem TD.dd {K : PySem.W.Frag} {H : Hp} {v : V} (h : TD H v) : ∃ d, Dd K H 1 v d := by
  obtain ⟨a, xs, rfl, h1, h2⟩ := h
  exact dd_tup h1 fun x hx => (h2 x hx).dd
theorem It.dd {K : PySem.W.Frag} {H : Hp} {t : Mt} (h : It H t) : ∃ d, Dd K H 2 (.ref t.1) d := dd_tup h.pair fun x hx => by
  simp only [List.mem_cons, List.not_mem_nil, or_false] at hx
  rcases hx with rfl | rfl
  · exact h.step.dd
  · exact h.offs.dd
def refs (L : List Mt) : List V := L.map fun t => V.ref t.1
def stps (L : List Mt) : List V := L.map fun t => t.2.1
/-- the list a of the marked steps L -/
structure Rd (H : Hp) (a : Addr) (L : List Mt) : Prop where
  at_ : H a = some (.lst (refs L))
  all : ∀ t ∈ L, It H t
  few : L.length ≤ 9
theorem fl_int (i : Int) : Fl (.int i) := .inr (.inl ⟨i, rfl⟩)
theorem fl_non : Fl .non := .inl rfl
theorem fl_str : Fl (.str "crash") := .inr (.inr rfl)
def spMarked : Sp := fun vs H Q _ => ∃ p : Addr, vs = [.ref p] ∧ PoolAt H p ∧ ∀ (a : Addr) (H' : Hp) (L : List Mt), H a = none → Kp p H H' → PoolAt H' p → Rd H' a L → Q (.ref a) H'
section
variable {P : Program} {w : World} {K : PySem.W.Frag} {mg : Str → Option Value} {base : Heap}
theorem scMa : FnScope ["_law_box_here", "_law_rows", "_law_k", "_law_step"] ["_law_box_here"] (defScope sMarked) := ⟨rfl, rfl, rfl, by decide +kernel, rfl, by decide +kernel, by decide +kernel⟩
theorem pool_ne {H : Hp} {p a : Addr} (h : PoolAt H p) (n : H a = none) : p ≠ a := by
  obtain ⟨_, _, _, e⟩ := h
  intro z; rw [z, n] at e; cases e
theorem PoolAt.new {H : Hp} {p a : Addr} {o : HO} (h : PoolAt H p) (n : H a = none) : PoolAt (L2.upd H a o) p := by
  have ne := pool_ne h n
  obtain ⟨x, y, z, e⟩ := h
  exact ⟨x, y, z, by rw [upd_ne ne]; exact e⟩
theorem PoolAt.put {H : Hp} {p a : Addr} {o : HO} (h : PoolAt H p) (ne : p ≠ a) : PoolAt (L2.upd H a o) p := by
  obtain ⟨x, y, z, e⟩ := h
  exact ⟨x, y, z, by rw [upd_ne ne]; exact e⟩
theorem Kp.tkp {p : Addr} {H H' : Hp} (k : Kp p H H') (h : PoolAt H p) : TK H H' := by
  obtain ⟨x, y, z, e⟩ := h
  exact k.tk e
theorem tk_new {H : Hp} {a : Addr} (n : H a = none) (o : HO) : TK H (L2.upd H a o) := TK.of_same (same_new n o)
theorem tk_put {H : Hp} {a : Addr} {xs : List V} (n : H a = some (.lst xs)) (o : HO) : TK H (L2.upd H a o) := fun b ys e => by rw [upd_ne (ne_of e n (by intro z; cases z))]; exact e
theorem ok_marked {f fD : Addr} {fd fdD : FuncData} (F : Fun K "_law_marked" "_law_marked" sMarked f fd) (hR : mg "range" = none) (GD : FnOk P w K mg base CX0 1 fD fdD ["_law_box_here", "_law_size"] spPick) (bD : Binds K fdD ["_law_box_here", "_law_size"] []) (kD : PySem.W.keepIn K (.ref fD) = true) (mD : mg "_law_pick" = some (.ref fD)) :
    FnOk P w K mg base CX0 2 f fd ["_law_box_here"] spMarked := by
  refine F.ok scMa (fun vs H Q E h => ?_) (fun cdv A outer s H vs Q E hr h => ?_)
  · obtain ⟨p, rfl, _⟩ := h
    rfl
  obtain ⟨p, rfl, hp, q⟩ := h
  refine ⟨_, pss_cons (ps_set (i := 1) scMa.nd rfl (Or.inl rfl) (pe_lst pa_nil))
    (pss_cons (ps_for PassesOwn.never rfl (pi_range1 rfl hR (pa_cons (pe_call GD hr rfl mD kD bD .nil pass0 (pa_cons (pv 0) (pa_cons pe_int pa_nil))) pa_nil)) (pg_name (i := 2) scMa.nd rfl (Or.inl rfl))
      (pss_cons (ps_set (i := 3) scMa.nd rfl (Or.inl rfl) (pe_tup (pa_cons (pe_call GD hr rfl mD kD bD .nil pass0 (pa_cons (pv 0) (pa_cons pe_int pa_nil))) (pa_cons (pe_call GD hr rfl mD kD bD .nil pass0 (pa_cons (pv 0) (pa_cons pe_int pa_nil))) pa_nil))))
      (pss_cons (ps_if (pt_cmpR op_eq (pe_call GD hr rfl mD kD bD .nil pass0 (pa_cons (pv 0) (pa_cons pe_int pa_nil))) pe_int (nomark _))
        (pss_one (ps_set (i := 3) scMa.nd rfl (Or.inl rfl) (pe_tup (pa_cons pe_str pa_nil)))) pss_nil)
      (pss_one (ps_expr (pe_bm PySem.F.plainAttrs_list PySem.F.slot_list_append PySem.F.type_list_append mt_append (pv 1) (pa_cons (pe_tup (pa_cons (pv 3) (pa_cons
        (pe_ix ix_list (pe_lst (pa_cons (pe_tup (pa_cons pe_non (pa_cons pe_non pa_nil))) (pa_cons (pe_tup (pa_cons pe_non (pa_cons pe_non pa_nil))) (pa_cons (pe_tup (pa_cons pe_int (pa_cons pe_non pa_nil))) (pa_cons (pe_tup (pa_cons pe_non (pa_cons pe_int pa_nil))) (pa_cons (pe_tup (pa_cons pe_int (pa_cons pe_int pa_nil))) pa_nil))))))
          (pe_call GD hr rfl mD kD bD .nil pass0 (pa_cons (pv 0) (pa_cons pe_int pa_nil))) (fun _ _ => rfl)) pa_nil))) pa_nil)))))))
    (pss_one (ps_ret (pv 1)))), ?_⟩
  refine ⟨Nat.zero_le _, fun D hD => ?_⟩
  have nD : p ≠ D := pool_ne hp hD
  refine ⟨_, rfl, p, 10, rfl, hp.new hD, by decide, by decide, fun r H1 r0 r1 k1 hp1 => ⟨r, rfl, by omega, by omega, ?_⟩⟩
  have kp0 : Kp p H H1 := ((Kp.refl p H).new hD).trans k1
  have kput : ∀ {H2 : Hp} {o : HO}, Kp p H H2 → Kp p H (L2.upd H2 D o) := fun {H2 o} k b u e m => by rw [upd_ne (ne_of_none e hD)]; exact k b u e m
  have hD1 : H1 D = some (.lst (refs [])) := k1 D _ upd_same nD.symm
  refine for_range (lo := 0) (n := r.toNat) (fun i σ H2 => ∃ (L : List Mt) (v w : Option V), σ = [some (.ref p), some (.ref D), v, w] ∧ L.length = i ∧ i ≤ r.toNat ∧ H2 D = some (.lst (refs L)) ∧ (∀ t ∈ L, It H2 t) ∧ Kp p H H2 ∧ PoolAt H2 p)
    ⟨[], _, _, rfl, rfl, Nat.zero_le _, hD1, fun t ht => (nomatch ht), kp0, hp1⟩ ?_ ?_
  · rintro i σ H2 hi ⟨L, v, w', rfl, hl, _, h2, hL, k2, hp2⟩
    refine ⟨_, rfl, p, 3, rfl, hp2, by decide, by decide, fun s3 H3 _ _ k3 hp3 => ?_⟩
    refine ⟨_, rfl, p, 2, rfl, hp3, by decide, by decide, fun s4 H4 _ _ k4 hp4 => ⟨(by show 2 ≤ sizeLine; decide), fun t ht => ?_⟩⟩
    have hp5 := hp4.new ht (o := .tup [.int s3, .int s4])
    refine ⟨_, rfl, p, 6, rfl, hp5, by decide, by decide, fun s6 H6 _ _ k6 hp6 => ⟨rfl, _, rfl, ?_⟩⟩
    have tk := (((k3.tkp hp2).trans (k4.tkp hp3)).trans (tk_new ht _)).trans (k6.tkp hp5)
    have ht6 : H6 t = some (.tup [.int s3, .int s4]) := k6.tkp hp5 _ _ upd_same
    have h6 : H6 D = some (.lst (refs L)) := k6 _ _ (by rw [upd_ne (ne_of_none (k4 _ _ (k3 _ _ h2 nD.symm) nD.symm) ht)]; exact k4 _ _ (k3 _ _ h2 nD.symm) nD.symm) nD.symm
    have kk : Kp p H H6 := (((k2.trans k3).trans k4).new ht).trans k6
    have hL6 : ∀ t ∈ L, It H6 t := fun t ht => (hL t ht).keep tk
    have sv6 : TD H6 (.ref t) := ⟨t, _, rfl, ht6, by intro x hx; simp only [List.mem_cons, List.not_mem_nil, or_false] at hx; rcases hx with rfl | rfl <;> exact fl_int _⟩
    refine ite2 (fun c => ?_) (fun c => ?_)
    · refine ⟨(by show 1 ≤ sizeLine; decide), fun t' nt' => ?_⟩
      have hp7 := hp6.new nt' (o := .tup [.str "crash"])
      have h7 : (L2.upd H6 t' (.tup [.str "crash"])) D = some (.lst (refs L)) := by rw [upd_ne (ne_of_none h6 nt')]; exact h6
      have kk7 := kk.new nt' (o := .tup [.str "crash"])
      have hL7 : ∀ t ∈ L, It (L2.upd H6 t' (.tup [.str "crash"])) t := fun t ht => (hL6 t ht).keep (tk_new nt' _)
      have sv7 : TD (L2.upd H6 t' (.tup [.str "crash"])) (.ref t') := ⟨t', _, rfl, upd_same, by intro x hx; rw [List.mem_singleton.mp hx]; exact fl_str⟩
      refine ⟨_, rfl, .inl ⟨rfl, _, SqL.of h7⟩, _, rfl, ?_⟩
      refine ⟨(by show 2 ≤ sizeLine; decide), fun t1 n1 => ⟨(by show 2 ≤ sizeLine; decide), fun t2 n2 => ⟨(by show 2 ≤ sizeLine; decide), fun t3 n3 => ⟨(by show 2 ≤ sizeLine; decide), fun t4 n4 => ⟨(by show 2 ≤ sizeLine; decide), fun t5 n5 => ⟨(by show 5 ≤ sizeLine; decide), fun l nl => ?_⟩⟩⟩⟩⟩⟩
      have kA := (((((kk7.new n1 (o := .tup [.non, .non])).new n2 (o := .tup [.non, .non])).new n3 (o := .tup [.int 0, .non])).new n4 (o := .tup [.non, .int 1])).new n5 (o := .tup [.int 0, .int 2])).new nl (o := .lst [.ref t1, .ref t2, .ref t3, .ref t4, .ref t5])
      have sA := (((((same_new n1 (.tup [.non, .non])).trans (same_new n2 (.tup [.non, .non]))).trans (same_new n3 (.tup [.int 0, .non]))).trans (same_new n4 (.tup [.non, .int 1]))).trans (same_new n5 (.tup [.int 0, .int 2]))).trans (same_new nl (.lst [.ref t1, .ref t2, .ref t3, .ref t4, .ref t5]))
      have e1 := (((((same_new n2 (.tup [.non, .non]))).trans (same_new n3 (.tup [.int 0, .non]))).trans (same_new n4 (.tup [.non, .int 1]))).trans (same_new n5 (.tup [.int 0, .int 2]))).trans (same_new nl (.lst [.ref t1, .ref t2, .ref t3, .ref t4, .ref t5])) _ _ upd_same
      have e2 := ((((same_new n3 (.tup [.int 0, .non]))).trans (same_new n4 (.tup [.non, .int 1]))).trans (same_new n5 (.tup [.int 0, .int 2]))).trans (same_new nl (.lst [.ref t1, .ref t2, .ref t3, .ref t4, .ref t5])) _ _ upd_same
      have e3 := (((same_new n4 (.tup [.non, .int 1]))).trans (same_new n5 (.tup [.int 0, .int 2]))).trans (same_new nl (.lst [.ref t1, .ref t2, .ref t3, .ref t4, .ref t5])) _ _ upd_same
      have e4 := ((same_new n5 (.tup [.int 0, .int 2]))).trans (same_new nl (.lst [.ref t1, .ref t2, .ref t3, .ref t4, .ref t5])) _ _ upd_same
      have e5 := (same_new nl (.lst [.ref t1, .ref t2, .ref t3, .ref t4, .ref t5])) _ _ upd_same
      have pA := (((((hp7.new n1 (o := .tup [.non, .non])).new n2 (o := .tup [.non, .non])).new n3 (o := .tup [.int 0, .non])).new n4 (o := .tup [.non, .int 1])).new n5 (o := .tup [.int 0, .int 2])).new nl (o := .lst [.ref t1, .ref t2, .ref t3, .ref t4, .ref t5])
      refine ⟨_, rfl, p, 5, rfl, pA, by decide, by decide, fun d H9 d0 d1 k9 hp9 => ?_⟩
      have tk9 := k9.tkp pA
      have hl9 := k9 _ _ upd_same (pool_ne ((((((hp7.new n1).new n2).new n3).new n4).new n5)) nl).symm
      have fx : ∀ (u : Addr) (a b : V), H9 u = some (.tup [a, b]) → Fl a → Fl b → TD H9 (.ref u) := fun u a b e fa fb => ⟨u, _, rfl, e, fun x hx => by simp only [List.mem_cons, List.not_mem_nil, or_false] at hx; rcases hx with rfl | rfl <;> assumption⟩
      have ⟨ov, eo, to⟩ : ∃ ov, atI [V.ref t1, .ref t2, .ref t3, .ref t4, .ref t5] d = some ov ∧ TD H9 ov := by
        have : d = 0 ∨ d = 1 ∨ d = 2 ∨ d = 3 ∨ d = 4 := by omega
        rcases this with rfl | rfl | rfl | rfl | rfl
        · exact ⟨_, rfl, fx _ _ _ (tk9 _ _ e1) fl_non fl_non⟩
        · exact ⟨_, rfl, fx _ _ _ (tk9 _ _ e2) fl_non fl_non⟩
        · exact ⟨_, rfl, fx _ _ _ (tk9 _ _ e3) (fl_int _) fl_non⟩
        · exact ⟨_, rfl, fx _ _ _ (tk9 _ _ e4) fl_non (fl_int _)⟩
        · exact ⟨_, rfl, fx _ _ _ (tk9 _ _ e5) (fl_int _) (fl_int _)⟩
      refine ⟨l, _, _, _, rfl, rfl, SqL.of hl9, eo, (by show 2 ≤ sizeLine; decide), fun u hu => ?_⟩
      have h9 : H9 D = some (.lst (refs L)) := k9 _ _ (sA _ _ h7) nD.symm
      have h10 : (L2.upd H9 u (.tup [.ref t', ov])) D = some (.lst (refs L)) := by rw [upd_ne (ne_of_none h9 hu)]; exact h9
      have tk10 := (TK.of_same sA).trans (tk9.trans (tk_new hu (.tup [.ref t', ov])))
      have k10 := (kA.trans k9).new hu (o := .tup [.ref t', ov])
      have hp10 := hp9.new hu (o := .tup [.ref t', ov])
      have new10 : It (L2.upd H9 u (.tup [.ref t', ov])) (u, .ref t', ov) := ⟨upd_same, sv7.keep tk10, to.keep (tk_new hu _)⟩
      have L10 : ∀ y ∈ L, It (L2.upd H9 u (.tup [.ref t', ov])) y := fun y hy => (hL7 y hy).keep tk10
      have put := tk_put h10 (.lst (refs L ++ [.ref u]))
      refine ⟨D, _, _, rfl, rfl, h10, (by show (refs L).length < sizeLine; rw [refs, List.length_map]; exact small1000 (by omega)), ?_⟩
      refine ⟨L ++ [(u, .ref t', ov)], _, _, rfl, by rw [List.length_append, hl]; rfl, by omega, ?_, fun y hy => ?_, kput k10, hp10.put nD⟩
      · rw [upd_same, refs, refs, List.map_append]; rfl
      · rcases List.mem_append.mp hy with h | h
        · exact (L10 y h).keep put
        · rw [List.mem_singleton.mp h]; exact new10.keep put
    · have hp7 := hp6
      have h7 := h6
      have kk7 := kk
      have hL7 := hL6
      have sv7 := sv6
      refine ⟨_, rfl, .inl ⟨rfl, _, SqL.of h7⟩, _, rfl, ?_⟩
      refine ⟨(by show 2 ≤ sizeLine; decide), fun t1 n1 => ⟨(by show 2 ≤ sizeLine; decide), fun t2 n2 => ⟨(by show 2 ≤ sizeLine; decide), fun t3 n3 => ⟨(by show 2 ≤ sizeLine; decide), fun t4 n4 => ⟨(by show 2 ≤ sizeLine; decide), fun t5 n5 => ⟨(by show 5 ≤ sizeLine; decide), fun l nl => ?_⟩⟩⟩⟩⟩⟩
      have kA := (((((kk7.new n1 (o := .tup [.non, .non])).new n2 (o := .tup [.non, .non])).new n3 (o := .tup [.int 0, .non])).new n4 (o := .tup [.non, .int 1])).new n5 (o := .tup [.int 0, .int 2])).new nl (o := .lst [.ref t1, .ref t2, .ref t3, .ref t4, .ref t5])
      have sA := (((((same_new n1 (.tup [.non, .non])).trans (same_new n2 (.tup [.non, .non]))).trans (same_new n3 (.tup [.int 0, .non]))).trans (same_new n4 (.tup [.non, .int 1]))).trans (same_new n5 (.tup [.int 0, .int 2]))).trans (same_new nl (.lst [.ref t1, .ref t2, .ref t3, .ref t4, .ref t5]))
      have e1 := (((((same_new n2 (.tup [.non, .non]))).trans (same_new n3 (.tup [.int 0, .non]))).trans (same_new n4 (.tup [.non, .int 1]))).trans (same_new n5 (.tup [.int 0, .int 2]))).trans (same_new nl (.lst [.ref t1, .ref t2, .ref t3, .ref t4, .ref t5])) _ _ upd_same
      have e2 := ((((same_new n3 (.tup [.int 0, .non]))).trans (same_new n4 (.tup [.non, .int 1]))).trans (same_new n5 (.tup [.int 0, .int 2]))).trans (same_new nl (.lst [.ref t1, .ref t2, .ref t3, .ref t4, .ref t5])) _ _ upd_same
      have e3 := (((same_new n4 (.tup [.non, .int 1]))).trans (same_new n5 (.tup [.int 0, .int 2]))).trans (same_new nl (.lst [.ref t1, .ref t2, .ref t3, .ref t4, .ref t5])) _ _ upd_same
      have e4 := ((same_new n5 (.tup [.int 0, .int 2]))).trans (same_new nl (.lst [.ref t1, .ref t2, .ref t3, .ref t4, .ref t5])) _ _ upd_same
      have e5 := (same_new nl (.lst [.ref t1, .ref t2, .ref t3, .ref t4, .ref t5])) _ _ upd_same
      have pA := (((((hp7.new n1 (o := .tup [.non, .non])).new n2 (o := .tup [.non, .non])).new n3 (o := .tup [.int 0, .non])).new n4 (o := .tup [.non, .int 1])).new n5 (o := .tup [.int 0, .int 2])).new nl (o := .lst [.ref t1, .ref t2, .ref t3, .ref t4, .ref t5])
      refine ⟨_, rfl, p, 5, rfl, pA, by decide, by decide, fun d H9 d0 d1 k9 hp9 => ?_⟩
      have tk9 := k9.tkp pA
      have hl9 := k9 _ _ upd_same (pool_ne ((((((hp7.new n1).new n2).new n3).new n4).new n5)) nl).symm
      have fx : ∀ (u : Addr) (a b : V), H9 u = some (.tup [a, b]) → Fl a → Fl b → TD H9 (.ref u) := fun u a b e fa fb => ⟨u, _, rfl, e, fun x hx => by simp only [List.mem_cons, List.not_mem_nil, or_false] at hx; rcases hx with rfl | rfl <;> assumption⟩
      have ⟨ov, eo, to⟩ : ∃ ov, atI [V.ref t1, .ref t2, .ref t3, .ref t4, .ref t5] d = some ov ∧ TD H9 ov := by
        have : d = 0 ∨ d = 1 ∨ d = 2 ∨ d = 3 ∨ d = 4 := by omega
        rcases this with rfl | rfl | rfl | rfl | rfl
        · exact ⟨_, rfl, fx _ _ _ (tk9 _ _ e1) fl_non fl_non⟩
        · exact ⟨_, rfl, fx _ _ _ (tk9 _ _ e2) fl_non fl_non⟩
        · exact ⟨_, rfl, fx _ _ _ (tk9 _ _ e3) (fl_int _) fl_non⟩
        · exact ⟨_, rfl, fx _ _ _ (tk9 _ _ e4) fl_non (fl_int _)⟩
        · exact ⟨_, rfl, fx _ _ _ (tk9 _ _ e5) (fl_int _) (fl_int _)⟩
      refine ⟨l, _, _, _, rfl, rfl, SqL.of hl9, eo, (by show 2 ≤ sizeLine; decide), fun u hu => ?_⟩
      have h9 : H9 D = some (.lst (refs L)) := k9 _ _ (sA _ _ h7) nD.symm
      have h10 : (L2.upd H9 u (.tup [.ref t, ov])) D = some (.lst (refs L)) := by rw [upd_ne (ne_of_none h9 hu)]; exact h9
      have tk10 := (TK.of_same sA).trans (tk9.trans (tk_new hu (.tup [.ref t, ov])))
      have k10 := (kA.trans k9).new hu (o := .tup [.ref t, ov])
      have hp10 := hp9.new hu (o := .tup [.ref t, ov])
      have new10 : It (L2.upd H9 u (.tup [.ref t, ov])) (u, .ref t, ov) := ⟨upd_same, sv7.keep tk10, to.keep (tk_new hu _)⟩
      have L10 : ∀ y ∈ L, It (L2.upd H9 u (.tup [.ref t, ov])) y := fun y hy => (hL7 y hy).keep tk10
      have put := tk_put h10 (.lst (refs L ++ [.ref u]))
      refine ⟨D, _, _, rfl, rfl, h10, (by show (refs L).length < sizeLine; rw [refs, List.length_map]; exact small1000 (by omega)), ?_⟩
      refine ⟨L ++ [(u, .ref t, ov)], _, _, rfl, by rw [List.length_append, hl]; rfl, by omega, ?_, fun y hy => ?_, kput k10, hp10.put nD⟩
      · rw [upd_same, refs, refs, List.map_append]; rfl
      · rcases List.mem_append.mp hy with h | h
        · exact (L10 y h).keep put
        · rw [List.mem_singleton.mp h]; exact new10.keep put
  · rintro σ H2 ⟨L, v, w', rfl, hl, hle, h2, hL, k2, hp2⟩
    exact ⟨_, rfl, q D H2 L hD k2 hp2 ⟨h2, hL, by omega⟩⟩
end
end Tk
set_option maxRecDepth 100000
namespace Tk
open PySem L2
abbrev sBTInit : Stmt := inClass (top 3) 0
/-- a number of turns that is refused -/
def BadN (H : Hp) (t : V) : Prop := ∃ T b1 b2, Kd H t T ∧ kitB T "int" = some b1 ∧ kitB T "bool" = some b2 ∧ ((b1 && !b2) = true → ∃ i, t = .int i ∧ (decide ((0 : Int) ≤ i) && decide (i ≤ 100)) = false)
def spTurned (CB : Addr) : Sp := fun vs H Q E => ∃ (x y z : Addr) (t : V) (X Y Z : List Mt), vs = [.ref x, .ref y, .ref z, t] ∧ Rd H x X ∧ Rd H y Y ∧ Rd H z Z ∧
  ((∃ n : Int, t = .int n ∧ 0 ≤ n ∧ n ≤ 100 ∧ ∀ (a : Addr) (H' : Hp), H a = none → Same H H' → H' a = some (.lst (stps (X ++ (List.replicate n.toNat Y).flatten ++ Z))) → Q (.ref a) H') ∨
   (BadN H t ∧ ∀ (d : Addr) (H' : Hp), Same H H' → H d = none → H' d = some (.xd [("times", t)]) → E (.ref CB) (some d) H'))
theorem refs_app (X Y : List Mt) : refs (X ++ Y) = refs X ++ refs Y := by rw [refs, refs, refs, List.map_append]
theorem refs_rep (n : Nat) (Y : List Mt) : (List.replicate n (refs Y)).flatten = refs (List.replicate n Y).flatten := by
  induction n with
  | zero => rfl
  | succ n ih => rw [List.replicate_succ, List.replicate_succ, List.flatten_cons, List.flatten_cons, refs_app, ih]
theorem rep_mem {n : Nat} {Y : List Mt} {t : Mt} (h : t ∈ (List.replicate n Y).flatten) : t ∈ Y := by
  obtain ⟨l, h1, h2⟩ := List.mem_flatten.mp h
  rw [(List.mem_replicate.mp h1).2] at h2
  exact h2
theorem rep_len (n : Nat) (Y : List Mt) : (List.replicate n Y).flatten.length = n * Y.length := by
  induction n with
  | zero => simp
  | succ n ih => rw [List.replicate_succ, List.flatten_cons, List.length_append, ih, Nat.succ_mul]; omega
section
variable {P : Program} {w : World} {K : PySem.W.Frag} {mg : Str → Option Value} {base : Heap} {CB : Addr}
theorem scBT : FnScope ["self", "times"] ["self", "times"] (defScope sBTInit) := ⟨rfl, rfl, rfl, by decide +kernel, rfl, by decide +kernel, by decide +kernel⟩
theorem ok_bti {f : Addr} {fd : FuncData} (F : Fun K "__init__" "BadTimes.__init__" sBTInit f fd) (T : Ecl K mg "BadTimes" "times" CB f) : FnOk P w K mg base CX0 1 f fd ["self", "times"] (spEI CB "times") := by
  refine F.ok scBT (fun vs H Q E h => ?_) (fun cdv A outer s H vs Q E hr h => ?_)
  · obtain ⟨a, v, rfl, _⟩ := h
    rfl
  obtain ⟨a, v, rfl, ha, q⟩ := h
  refine ⟨_, pss_one (ps_ost (pv 0) (pv 1) rfl), ?_⟩
  exact ⟨_, rfl, _, rfl, a, CB, rfl, T.ox, T.noF, .inl ⟨ha, fun dx h1 h2 => q dx h1 h2⟩⟩
theorem scTu : FnScope ["before", "around", "after", "times", "step", "offsets"] ["before", "around", "after", "times"] (defScope sTurned) := ⟨rfl, rfl, rfl, by decide +kernel, rfl, by decide +kernel, by decide +kernel⟩
theorem ok_turned {f fW fI : Addr} {fd fdW fdI : FuncData} (F : Fun K "turned" "turned" sTurned f fd) (TB : Ecl K mg "BadTimes" "times" CB fI) (gM : ∃ t, mg "MOST_TIMES" = some (.int 100 t))
    (GI : FnOk P w K mg base CX0 1 fI fdI ["self", "times"] (spEI CB "times")) (bI : Binds K fdI ["self", "times"] [])
    (GW : FnOk P w K mg base CX0 2 fW fdW ["value", "low", "high"] (spWithin K)) (bW : Binds K fdW ["value", "low", "high"] []) (kW : PySem.W.keepIn K (.ref fW) = true) (mW : mg "is_within" = some (.ref fW)) :
    FnOk P w K mg base (L2.CX P w) 3 f fd ["before", "around", "after", "times"] (spTurned CB) := by
  refine F.okX scTu (fun vs H Q E h => ?_) (fun cdv A outer s H vs Q E hr h => ?_)
  · obtain ⟨x, y, z, t, X, Y, Z, rfl, _⟩ := h
    rfl
  obtain ⟨x, y, z, t, X, Y, Z, rfl, hx, hy, hz, alt⟩ := h
  obtain ⟨tM, gM⟩ := gM
  refine ⟨_, pss_cons (ps_if (pt_not (pt_val (pe_call GW hr rfl mW kW bW .nil pass0 (pa_cons (pv 3) (pa_cons pe_int (pa_cons (pe_glob (v := .int 100) (by rfl) gM ⟨_, rfl⟩) pa_nil))))))
      (pss_one (ps_raise1 rfl (takes_of rfl rfl rfl rfl) TB GI hr bI rfl (pa_cons (pv 3) pa_nil))) pss_nil)
    (pss_one (ps_ret (pe_lc (own := [("step", 4), ("offsets", 5)]) (g := gTup K 2 (gCons (gName 4) (gCons (gName 5) gNil))) (tt := tYes) rfl scTu.nd
      (pi_list (pe_op op_cat (pe_op op_cat (pv 0) (pe_op op_rep (pv 1) (pv 3))) (pv 2)))
      (blkOk_by (own := [("step", 4), ("offsets", 5)]) (N := ["before", "around", "after", "times", "step", "offsets"]) (sc := defScope sTurned) (by decide +kernel))
      (fun _ _ _ _ _ => pg_tup rfl (pgs_cons (pg_name (i := 4) scTu.nd rfl (Or.inl rfl)) (pgs_cons (pg_name (i := 5) scTu.nd rfl (Or.inl rfl)) pgs_nil)))
      (fun _ _ _ _ _ => pts_nil) (fun _ _ _ _ _ => pv 4)))), ?_⟩
  rcases alt with ⟨n, rfl, n0, n1, q⟩ | ⟨⟨T, b1, b2, kd, k1, k2, hb⟩, q⟩
  · refine ⟨_, rfl, .int n, _, true, false, 0, 100, rfl, (Kd.int (H := H) n).ty, by decide +kernel, by decide +kernel, fun e => (nomatch e), fun _ => ⟨n, rfl, true, ?_, ?_⟩⟩
    · rw [decide_eq_true n0, decide_eq_true n1]; rfl
    refine iteF ?_
    have le9 : ∀ {L : List Mt}, L.length ≤ 9 → (refs L).length ≤ 9 := fun h => by rw [refs, List.length_map]; exact h
    have nn : n.toNat ≤ 100 := by omega
    have m1 : (refs Y).length * n.toNat ≤ 900 := Nat.le_trans (Nat.mul_le_mul (le9 hy.few) nn) (by decide)
    have rl : ∀ L : List Mt, (refs L).length = L.length := fun L => by rw [refs, List.length_map]
    have m2 : (List.replicate n.toNat Y).flatten.length ≤ 900 := by rw [rep_len]; exact Nat.le_trans (Nat.mul_le_mul nn hy.few) (by decide)
    refine ⟨_, rfl, _, rfl, _, rfl, y, n, _, rfl, rfl, hy.at_, by omega, by omega, Nat.le_of_lt (small1000 (by omega)), fun p1 n1 => ?_⟩
    rw [refs_rep]
    have s1 := same_new n1 (.lst (refs (List.replicate n.toNat Y).flatten))
    refine ⟨x, p1, _, _, rfl, rfl, s1 _ _ hx.at_, upd_same, Nat.le_of_lt (small1000 (by rw [rl, rl]; have := hx.few; omega)), fun p2 n2 => ?_⟩
    rw [← refs_app]
    have s2 := s1.trans (same_new n2 (.lst (refs (X ++ (List.replicate n.toNat Y).flatten))))
    have hX := hx.few
    have hZ := hz.few
    have lA : (X ++ (List.replicate n.toNat Y).flatten ++ Z).length ≤ 918 := by rw [List.length_append, List.length_append]; omega
    refine ⟨_, rfl, p2, z, _, _, rfl, rfl, upd_same, s2 _ _ hz.at_, Nat.le_of_lt (small1000 (by rw [← List.length_append, ← refs_app, rl]; omega)), fun p3 n3 => ?_⟩
    rw [← refs_app]
    have s3 := s2.trans (same_new n3 (.lst (refs (X ++ (List.replicate n.toNat Y).flatten ++ Z))))
    refine ⟨p3, rfl, ⟨_, SqL.of upd_same⟩, fun D hD => ?_⟩
    have all : ∀ t ∈ X ++ (List.replicate n.toNat Y).flatten ++ Z, It H t := fun t ht => by
      rcases List.mem_append.mp ht with ht | ht
      · rcases List.mem_append.mp ht with ht | ht
        · exact hx.all t ht
        · exact hy.all t (rep_mem ht)
      · exact hz.all t ht
    have q' : ∀ (a : Addr) (H' : Hp), H a = none → Same H H' → H' a = some (.lst (stps (X ++ (List.replicate n.toNat Y).flatten ++ Z))) → Q (.ref a) H' := q
    generalize X ++ (List.replicate n.toNat Y).flatten ++ Z = L at s3 hD lA all q' ⊢
    have nD3 : p3 ≠ D := ne_of_none upd_same hD
    refine lc_list (K := K) (a := p3) (xs := refs L) (fun i H7 => i ≤ L.length ∧ H7 D = some (.lst (stps (L.take i))) ∧ Same H H7 ∧ H7 p3 = some (.lst (refs L))) ?_ ?_ ?_ ?_
    · exact ⟨Nat.zero_le _, upd_same, s3.trans (same_new hD _), by rw [upd_ne nD3]; exact upd_same⟩
    · rintro i H7 hi ⟨_, _, _, h4⟩
      exact SqL.of h4
    · rintro i v H7 hv ⟨_, h2, h3, h4⟩
      have hi : i < L.length := by have := (List.getElem?_eq_some_iff.mp hv).1; rwa [rl] at this
      have ev : v = .ref (L[i]).1 := by
        rw [refs, List.getElem?_map, List.getElem?_eq_getElem hi] at hv
        exact (Option.some.inj hv).symm
      subst ev
      have it := all _ (List.getElem_mem hi)
      refine ⟨(L[i]).1, _, rfl, SqT.of (h3 _ _ it.pair), rfl, _, _, rfl, _, _, rfl, rfl, rfl, ?_⟩
      unfold tYes
      dsimp only
      rw [if_pos rfl]
      have hDn : H D = none := s3.free hD
      refine ⟨_, rfl, _, h2, ?_, hi, ?_, ?_, ?_⟩
      · rw [stps, List.length_map, List.length_take]; exact small1000 (by omega)
      · rw [upd_same, List.take_add_one, List.getElem?_eq_getElem hi]
        show _ = some (HO.lst (stps (L.take i ++ [L[i]])))
        rw [stps, stps, List.map_append]; rfl
      · intro b o e
        rw [upd_ne (ne_of_none e hDn)]; exact h3 _ _ e
      · rw [upd_ne nD3]; exact h4
    · rintro H7 ⟨_, h2, h3, h4⟩
      rw [rl, List.take_length] at h2
      exact q' D H7 (s3.free hD) h3 h2
  · refine ⟨_, rfl, t, T, b1, b2, 0, 100, rfl, kd.ty, k1, k2, fun e => ⟨false, rfl, ?_⟩, fun e => ?_⟩
    · exact iteT ⟨_, rfl, made1 fun d hd => q d _ (same_new hd _) hd upd_same⟩
    · obtain ⟨i, rfl, hn⟩ := hb e
      refine ⟨i, rfl, _, rfl, ?_⟩
      rw [hn]
      exact iteT ⟨_, rfl, made1 fun d hd => q d _ (same_new hd _) hd upd_same⟩
end
end Tk
set_option maxRecDepth 100000
namespace Tk
open PySem L2
structure Roads (H : Hp) (r : Addr) (x y z : Addr) (X Y Z : List Mt) : Prop where
  at_ : H r = some (.lst [.ref x, .ref y, .ref z])
  x_ : Rd H x X
  y_ : Rd H y Y
  z_ : Rd H z Z
theorem Rd.keep {H H' : Hp} {a : Addr} {L : List Mt} (s : Same H H') (h : Rd H a L) : Rd H' a L := ⟨s _ _ h.at_, fun t ht => (h.all t ht).keep (TK.of_same s), h.few⟩
theorem Roads.keep {H H' : Hp} {r x y z : Addr} {X Y Z : List Mt} (s : Same H H') (h : Roads H r x y z X Y Z) : Roads H' r x y z X Y Z := ⟨s _ _ h.at_, h.x_.keep s, h.y_.keep s, h.z_.keep s⟩
def spRefu : Sp := fun vs H Q _ => ∃ (r x y z : Addr) (t : V) (X Y Z : List Mt), vs = [.ref r, t] ∧ Roads H r x y z X Y Z ∧ BadN H t ∧ ∀ (u : Addr) (H' : Hp), Same H H' → H' u = some (.tup [.str "times", t]) → Q (.ref u) H'
section
variable {P : Program} {w : World} {K : PySem.W.Frag} {mg : Str → Option Value} {base : Heap} {CB TE' CN : Addr}
theorem scRf : FnScope ["_law_roads", "_law_times", "_law_found", "e"] ["_law_roads", "_law_times"] (defScope sRef) := ⟨rfl, rfl, rfl, by decide +kernel, rfl, by decide +kernel, by decide +kernel⟩
theorem ok_refused {f fG fI : Addr} {fd fdG : FuncData} (F : Fun K "_law_refused" "_law_refused" sRef f fd) (T : Bi mg) (TB : Ecl K mg "BadTimes" "times" CB fI)
    (mgT : mg "TakeError" = some (.ref TE')) (mgN : mg "NoMeasure" = some (.ref CN)) (mgV : mg "ValueError" = none) (k1 : PySem.W.kitOne K (.ref CB) (.ref TE') = some true) (k2 : PySem.W.kitOne K (.ref CB) (.type "ValueError") = some true) (k3 : PySem.W.kitOne K (.ref CB) (.ref CN) = some false)
    (GT : FnOk P w K mg base (L2.CX P w) 3 fG fdG ["before", "around", "after", "times"] (spTurned CB)) (bT : Binds K fdG ["before", "around", "after", "times"] []) (kT : PySem.W.keepIn K (.ref fG) = true) (mT : mg "turned" = some (.ref fG)) : FnOk P w K mg base CX0 4 f fd ["_law_roads", "_law_times"] spRefu := by
  refine F.ok scRf (fun vs H Q E h => ?_) (fun cdv A outer s H vs Q E hr h => ?_)
  · obtain ⟨r, x, y, z, t, X, Y, Z, rfl, _⟩ := h
    rfl
  obtain ⟨r, x, y, z, t, X, Y, Z, rfl, R, bad, q⟩ := h
  refine ⟨_, pss_cons (ps_set (i := 2) scRf.nd rfl (Or.inl rfl) (pe_tup (pa_cons pe_str (pa_cons pe_int pa_nil))))
    (pss_cons (ps_try_as (i := 3) rfl rfl scRf.nd rfl rfl ⟨rfl, by decide, .inl TB.gC⟩ takes0
      (fun W pn xe tk _ => pss_one (ps_expr (pe_callS GT hr rfl mT kT bT (fun σ => passAt tk σ)
        (pa_cons (pe_ix (r := rIxL K) ix_list (pv 0) pe_int (fun _ _ => rfl)) (pa_cons (pe_ix (r := rIxL K) ix_list (pv 0) pe_int (fun _ _ => rfl)) (pa_cons (pe_ix (r := rIxL K) ix_list (pv 0) pe_int (fun _ _ => rfl)) (pa_cons (pv 1) pa_nil)))))))
      (fun a oe cls d pn hz hf => pss_one (ps_if (PW.pt (pw_and (pt_val (pe_callB (call_isX TB hz hf) (by rfl) T.isi (by decide +kernel) (pa_cons (pv 3) (pa_cons (pe_glob (v := .ref TE') (by rfl) mgT rfl) pa_nil))))
          (pw_and (pt_val (pe_callB (call_isX TB hz hf) (by rfl) T.isi (by decide +kernel) (pa_cons (pv 3) (pa_cons (pe_bltn (v := .ty "ValueError") (by rfl) mgV (by decide +kernel) rfl) pa_nil))))
          (pw_and1 (pt_not (pt_val (pe_callB (call_isX TB hz hf) (by rfl) T.isi (by decide +kernel) (pa_cons (pv 3) (pa_cons (pe_glob (v := .ref CN) (by rfl) mgN rfl) pa_nil)))))))))
        (pss_one (ps_set (i := 2) scRf.nd rfl (Or.inl rfl) (pe_tup (pa_cons pe_str (pa_cons (pe_xf TB.xf TB.noF hz hf (pv 3)) pa_nil))))) pss_nil)))
    (pss_one (ps_ret (pv 2)))), ?_⟩
  refine ⟨(by show 2 ≤ sizeLine; decide), fun t0 h0 => ?_⟩
  have s0 := same_new h0 (.tup [.str "told", .int 0])
  have R0 := R.keep s0
  refine ⟨_, rfl, r, _, _, _, rfl, rfl, SqL.of R0.at_, rfl, _, rfl, r, _, _, _, rfl, rfl, SqL.of R0.at_, rfl, _, rfl, r, _, _, _, rfl, rfl, SqL.of R0.at_, rfl, _, rfl, ?_⟩
  obtain ⟨T', b1, b2, kd, kk1, kk2, hb⟩ := bad
  refine ⟨x, y, z, t, X, Y, Z, rfl, R0.x_, R0.y_, R0.z_, .inr ⟨⟨T', b1, b2, kd.keep s0, kk1, kk2, hb⟩, fun d H' s1 hd hx => ?_⟩⟩
  refine ⟨true, TB.te, fun _ a ha => ?_, fun z => nomatch z⟩
  refine ⟨_, rfl, .ref TE', _, true, d, _, rfl, rfl, hx, rfl, (fun u z => z), k1, true, rfl, iteT ?_⟩
  refine ⟨_, rfl, .ty "ValueError", _, true, d, _, rfl, rfl, hx, rfl, (fun u z => z), k2, true, rfl, iteT ?_⟩
  refine ⟨_, rfl, .ref CN, _, false, d, _, rfl, rfl, hx, rfl, (fun u z => z), k3, false, rfl, iteT ?_⟩
  refine ⟨_, rfl, rfl, rfl, d, _, t, rfl, hx, rfl, (by show 2 ≤ sizeLine; decide), fun u hu => ?_⟩
  exact ⟨_, rfl, q u _ ((s0.trans s1).trans (same_new hu _)) upd_same⟩
end
end Tk
set_option maxRecDepth 100000
namespace Tk
open PySem L2
def spLaw (K : PySem.W.Frag) : Sp := fun vs H Q _ => ∃ (a : Addr) (ns : List Int), vs = [.ref a] ∧ SqL K H a (ns.map V.int) ∧ ns.length ≤ 63 ∧ ∀ H', Q (.bl true) H'
theorem passE {P : Program} {w : World} {X : Cx} : Passes (L2.CX P w) X E0 := fun _ _ _ _ _ _ _ h => by
  obtain ⟨_, _, _, _, _, _, _, _, _, _, _, _, z⟩ := h
  exact z.elim
/-- list(xs), within a comprehension too -/
def rLof (K : PySem.W.Frag) : List V → Hp → VK → Prop := fun xs H Q => ∃ p ys, xs = [.ref p] ∧ (SqL K H p ys ∨ SqT K H p ys) ∧ ∀ l, H l = none → Q (.ref l) (L2.upd H l (.lst ys))
theorem call_lof {X : Cx} {K : PySem.W.Frag} (e : X.K = K) : CallR X (.type "list") (rLof K) := by
  subst e
  exact call_list_of
theorem same_kp {H0 H1 H2 : Hp} {p : Addr} (s : Same H0 H1) (n : H0 p = none) (k : Kp p H1 H2) : Same H0 H2 := fun b o e => k b o (s b o e) (ne_of_none e n)
theorem Rd.put {H : Hp} {D a : Addr} {o : HO} {L : List Mt} {ys : List V} (hD : H D = some (.lst ys)) (ne : a ≠ D) (h : Rd H a L) : Rd (L2.upd H D o) a L := ⟨by rw [upd_ne ne]; exact h.at_, fun t ht => (h.all t ht).keep (tk_put hD o), h.few⟩
theorem stps_app (X Y : List Mt) : stps (X ++ Y) = stps X ++ stps Y := by rw [stps, stps, stps, List.map_append]
theorem stps_len (X : List Mt) : (stps X).length = X.length := by rw [stps, List.length_map]
theorem rep_snoc (i : Nat) (Y : List Mt) : (List.replicate (i + 1) Y).flatten = (List.replicate i Y).flatten ++ Y := by
  rw [List.replicate_succ', List.flatten_append]; simp
theorem stp_dd {K : PySem.W.Frag} {H : Hp} {L : List Mt} (h : ∀ t ∈ L, It H t) : ∀ v ∈ stps L, ∃ d, Dd K H 1 v d := fun v hv => by
  obtain ⟨t, ht, rfl⟩ := List.mem_map.mp hv
  exact (h t ht).step.dd
theorem ref_dd {K : PySem.W.Frag} {H : Hp} {L : List Mt} (h : ∀ t ∈ L, It H t) : ∀ v ∈ refs L, ∃ d, Dd K H 2 v d := fun v hv => by
  obtain ⟨t, ht, rfl⟩ := List.mem_map.mp hv
  exact (h t ht).dd
theorem roads_dd {K : PySem.W.Frag} {H : Hp} {r x y z r' x' y' z' : Addr} {X Y Z : List Mt} (h : Roads H r x y z X Y Z) (g : Roads H r' x' y' z' X Y Z) : ∃ d, Dd K H 4 (.ref r) d ∧ Dp K H (.ref r') d := by
  obtain ⟨dx, hx, gx⟩ := dd_lst2 (K := K) h.x_.at_ g.x_.at_ (ref_dd h.x_.all)
  obtain ⟨dy, hy, gy⟩ := dd_lst2 (K := K) h.y_.at_ g.y_.at_ (ref_dd h.y_.all)
  obtain ⟨dz, hz, gz⟩ := dd_lst2 (K := K) h.z_.at_ g.z_.at_ (ref_dd h.z_.all)
  refine ⟨.list [dx, dy, dz], ⟨.lst (SqL.of h.at_) (.cons hx.1 (.cons hy.1 (.cons hz.1 .nil))), ?_, ?_⟩, .lst (SqL.of g.at_) (.cons gx (.cons gy (.cons gz .nil)))⟩
  · show PyData.canLayAll0 [dx, dy, dz] = true
    rw [PyData.canLayAll0, PyData.canLayAll0, PyData.canLayAll0, PyData.canLayAll0, hx.2.1, hy.2.1, hz.2.1]; rfl
  · show PyData.depthAll [dx, dy, dz] + 1 ≤ 4
    rw [PyData.depthAll, PyData.depthAll, PyData.depthAll, PyData.depthAll]
    have := hx.2.2
    have := hy.2.2
    have := hz.2.2
    omega
def Wr (K : PySem.W.Frag) (H : Hp) (v : V) : Prop := BadN H v ∧ ∀ H', Same H H' → ∃ d, Dd K H' 1 v d
theorem wr_flat {K : PySem.W.Frag} {H : Hp} {v : V} {T : String} (k : Kd H v T) (b1 b2 : Bool) (h1 : kitB T "int" = some b1) (h2 : kitB T "bool" = some b2) (h : (b1 && !b2) = true → ∃ i, v = .int i ∧ (decide ((0 : Int) ≤ i) && decide (i ≤ 100)) = false) (d : ∀ H', ∃ d, Dd K H' 0 v d) : Wr K H v := by
  refine ⟨⟨T, b1, b2, k, h1, h2, h⟩, fun H' _ => ?_⟩
  obtain ⟨d, d1, d2, d3⟩ := d H'
  exact ⟨d, d1, d2, by omega⟩
abbrev nsL : List Str := ["_law_script", "_law_box_here", "_law_times", "_law_far", "_law_wrong", "_law_roads", "_law_kept", "_law_told", "_law_due", "_law_turn", "_law_k", "_law_road", "_law_pair"]
section
variable {P : Program} {w : World} {K : PySem.W.Frag} {mg : Str → Option Value} {base : Heap} {CB : Addr}
theorem scL : FnScope nsL ["_law_script"] (defScope sLaw) := ⟨rfl, rfl, rfl, by decide +kernel, rfl, by decide +kernel, by decide +kernel⟩
theorem ok_law {f fB fP fM fF fT : Addr} {fd fdB fdP fdM fdF fdT : FuncData} (F : Fun K "law" "law" sLaw f fd) (T : Bi mg) (hR : mg "range" = none) (hL : mg "list" = none)
    (GB : FnOk P w K mg base CX0 1 fB fdB ["_law_script", "_law_k"] (spBox K)) (bB : Binds K fdB ["_law_script", "_law_k"] []) (kB : PySem.W.keepIn K (.ref fB) = true) (mB : mg "_law_box" = some (.ref fB))
    (GP : FnOk P w K mg base CX0 1 fP fdP ["_law_box_here", "_law_size"] spPick) (bP : Binds K fdP ["_law_box_here", "_law_size"] []) (kP : PySem.W.keepIn K (.ref fP) = true) (mP : mg "_law_pick" = some (.ref fP))
    (GM : FnOk P w K mg base CX0 2 fM fdM ["_law_box_here"] spMarked) (bM : Binds K fdM ["_law_box_here"] []) (kM : PySem.W.keepIn K (.ref fM) = true) (mM : mg "_law_marked" = some (.ref fM))
    (GF : FnOk P w K mg base CX0 4 fF fdF ["_law_roads", "_law_times"] spRefu) (bF : Binds K fdF ["_law_roads", "_law_times"] []) (kF : PySem.W.keepIn K (.ref fF) = true) (mF : mg "_law_refused" = some (.ref fF))
    (GT : FnOk P w K mg base (L2.CX P w) 3 fT fdT ["before", "around", "after", "times"] (spTurned CB)) (bT : Binds K fdT ["before", "around", "after", "times"] []) (kT : PySem.W.keepIn K (.ref fT) = true) (mT : mg "turned" = some (.ref fT)) :
    FnOk P w K mg base CX0 6 f fd ["_law_script"] (spLaw K) := by
  refine F.ok scL (fun vs H Q E h => ?_) (fun cdv A outer s H vs Q E hr h => ?_)
  · obtain ⟨a, ns, rfl, _⟩ := h
    rfl
  obtain ⟨a, ns, rfl, hS, hn, q⟩ := h
  have hr3 : Room 3 _ := hr.mono (by decide)
  refine ⟨_, (pss_cons (ps_set (i := 1) scL.nd rfl (Or.inl rfl) (pe_call GB (hr.mono (by decide)) rfl mB kB bB .nil pass0 (pa_cons (pv 0) (pa_cons (pe_int) pa_nil))))
 (pss_cons (ps_set (i := 2) scL.nd rfl (Or.inl rfl) (pe_ix (r := rIxL K) ix_list (pe_lst (pa_cons (pe_call GP (hr.mono (by decide)) rfl mP kP bP .nil pass0 (pa_cons (pv 1) (pa_cons (pe_int) pa_nil))) (pa_cons (pe_call GP (hr.mono (by decide)) rfl mP kP bP .nil pass0 (pa_cons (pv 1) (pa_cons (pe_int) pa_nil))) (pa_cons (pe_int) (pa_cons (pe_int) pa_nil))))) (pe_call GP (hr.mono (by decide)) rfl mP kP bP .nil pass0 (pa_cons (pv 1) (pa_cons (pe_int) pa_nil))) (fun _ _ => rfl)))
 (pss_cons (ps_set (i := 3) scL.nd rfl (Or.inl rfl) (pe_call GP (hr.mono (by decide)) rfl mP kP bP .nil pass0 (pa_cons (pv 1) (pa_cons (pe_op op_pow pe_int pe_int) pa_nil))))
 (pss_cons (ps_set (i := 4) scL.nd rfl (Or.inl rfl) (pe_ix (r := rIxL K) ix_list (pe_lst (pa_cons (pe_bl) (pa_cons (pe_bl) (pa_cons (pe_un un_neg (pe_int)) (pa_cons (pe_int) (pa_cons (pe_op op_sub (pe_un un_neg (pe_int)) (pv 3)) (pa_cons (pe_op op_add (pe_int) (pv 3)) (pa_cons (pe_non) (pa_cons (pe_str) (pa_cons (pe_tup (pa_cons (pe_int) pa_nil)) pa_nil)))))))))) (pe_call GP (hr.mono (by decide)) rfl mP kP bP .nil pass0 (pa_cons (pv 1) (pa_cons (pe_int) pa_nil))) (fun _ _ => rfl)))
 (pss_cons (ps_setLc (i := 5) (own := [("_law_k", 10)]) (g := gName 10) (tt := tYes) rfl scL.nd rfl rfl (sw_true rfl rfl rfl (by decide +kernel)) (pi_range2 rfl hR (pa_cons (pe_int) (pa_cons (pe_int) pa_nil))) (blkOk_by (own := [("_law_k", 10)]) (N := nsL) (sc := defScope sLaw) (by decide +kernel)) (fun _ _ _ _ _ => pg_name (i := 10) scL.nd rfl (Or.inl rfl)) (fun _ _ _ _ _ => pts_nil) (fun _ _ _ _ _ => pe_call GM (hr.mono (by decide)) rfl mM kM bM .nil pass0 (pa_cons (pe_call GB (hr.mono (by decide)) rfl mB kB bB .nil pass0 (pa_cons (pv 0) (pa_cons (pv 10) pa_nil))) pa_nil)))
 (pss_cons (ps_setLc (i := 6) (own := [("_law_road", 11)]) (g := gName 11) (tt := tYes) rfl scL.nd rfl rfl (sw_true rfl rfl rfl (by decide +kernel)) (pi_list (pv 5)) (blkOk_by (own := [("_law_road", 11)]) (N := nsL) (sc := defScope sLaw) (by decide +kernel)) (fun _ _ _ _ _ => pg_name (i := 11) scL.nd rfl (Or.inl rfl)) (fun _ _ _ _ _ => pts_nil) (fun _ _ _ _ _ => pe_callTy (call_lof (K := K) rfl) (by rfl) hL (by decide +kernel) (pa_cons (pv 11) pa_nil)))
 (pss_cons (ps_set (i := 7) scL.nd rfl (Or.inl rfl) (pe_call GF (hr.mono (by decide)) rfl mF kF bF .nil pass0 (pa_cons (pv 5) (pa_cons (pv 4) pa_nil))))
 (pss_cons (ps_if (PW.pt (pw_or (pt_cmpR op_ne (pe_ix (r := rIxT K) ix_tup (pv 7) (pe_int) (fun _ _ => rfl)) (pe_str) (nomark _)) (pw_or (pt_cmpR (op_neD hr.units) (pe_ix (r := rIxT K) ix_tup (pv 7) (pe_int) (fun _ _ => rfl)) (pv 4) (nomark _)) (pw_or1 (pt_cmpR op_ne (pe_callB call_isi (by rfl) T.isi (by decide +kernel) (pa_cons (pe_ix (r := rIxT K) ix_tup (pv 7) (pe_int) (fun _ _ => rfl)) (pa_cons (pe_bltn (v := .ty "bool") (by rfl) T.bool (by decide +kernel) rfl) pa_nil))) (pe_callB call_isi (by rfl) T.isi (by decide +kernel) (pa_cons (pv 4) (pa_cons (pe_bltn (v := .ty "bool") (by rfl) T.bool (by decide +kernel) rfl) pa_nil))) (nomark _)))))) (pss_one (ps_never)) pss_nil)
 (pss_cons (ps_setLc (i := 8) (own := [("_law_pair", 12)]) (g := gName 12) (tt := tYes) rfl scL.nd rfl rfl (sw_true rfl rfl rfl (by decide +kernel)) (pi_list (pe_ix (r := rIxL K) ix_list (pv 6) (pe_int) (fun _ _ => rfl))) (blkOk_by (own := [("_law_pair", 12)]) (N := nsL) (sc := defScope sLaw) (by decide +kernel)) (fun _ _ _ _ _ => pg_name (i := 12) scL.nd rfl (Or.inl rfl)) (fun _ _ _ _ _ => pts_nil) (fun _ _ _ _ _ => pe_ix (r := rIxT K) ix_tup (pv 12) (pe_int) (fun _ _ => rfl)))
 (pss_cons (ps_for PassesOwn.never rfl (pi_range1 rfl hR (pa_cons (pv 2) pa_nil)) (pg_name (i := 9) scL.nd rfl (Or.inl rfl)) (pss_one (ps_set (i := 8) scL.nd rfl (Or.inl rfl) (pe_op op_cat (pv 8) (pe_lc (own := [("_law_pair", 12)]) (g := gName 12) (tt := tYes) rfl scL.nd (pi_list (pe_ix (r := rIxL K) ix_list (pv 6) (pe_int) (fun _ _ => rfl))) (blkOk_by (own := [("_law_pair", 12)]) (N := nsL) (sc := defScope sLaw) (by decide +kernel)) (fun _ _ _ _ _ => pg_name (i := 12) scL.nd rfl (Or.inl rfl)) (fun _ _ _ _ _ => pts_nil) (fun _ _ _ _ _ => pe_ix (r := rIxT K) ix_tup (pv 12) (pe_int) (fun _ _ => rfl)))))))
 (pss_cons (ps_set (i := 8) scL.nd rfl (Or.inl rfl) (pe_op op_cat (pv 8) (pe_lc (own := [("_law_pair", 12)]) (g := gName 12) (tt := tYes) rfl scL.nd (pi_list (pe_ix (r := rIxL K) ix_list (pv 6) (pe_int) (fun _ _ => rfl))) (blkOk_by (own := [("_law_pair", 12)]) (N := nsL) (sc := defScope sLaw) (by decide +kernel)) (fun _ _ _ _ _ => pg_name (i := 12) scL.nd rfl (Or.inl rfl)) (fun _ _ _ _ _ => pts_nil) (fun _ _ _ _ _ => pe_ix (r := rIxT K) ix_tup (pv 12) (pe_int) (fun _ _ => rfl)))))
 (pss_cons (ps_set (i := 7) scL.nd rfl (Or.inl rfl) (pe_call GT hr3 rfl mT kT bT .nil passE (pa_cons (pe_ix (r := rIxL K) ix_list (pv 5) (pe_int) (fun _ _ => rfl)) (pa_cons (pe_ix (r := rIxL K) ix_list (pv 5) (pe_int) (fun _ _ => rfl)) (pa_cons (pe_ix (r := rIxL K) ix_list (pv 5) (pe_int) (fun _ _ => rfl)) (pa_cons (pv 2) pa_nil))))))
 (pss_cons (ps_if (PW.pt (pw_or (pt_not (pt_val (pe_callB call_isi (by rfl) T.isi (by decide +kernel) (pa_cons (pv 7) (pa_cons (pe_bltn (v := .ty "list") (by rfl) hL (by decide +kernel) rfl) pa_nil))))) (pw_or1 (pt_cmpR (op_neD hr.units) (pv 7) (pv 8) (nomark _))))) (pss_one (ps_never)) pss_nil)
 (pss_cons (ps_expr (pe_bm PySem.F.plainAttrs_list PySem.F.slot_list_append PySem.F.type_list_append mt_append (pv 7) (pa_cons (pe_tup (pa_cons (pe_int) (pa_cons (pe_int) pa_nil))) pa_nil)))
 (pss_one (ps_ret (pe_and (pe_cmpR (op_eqD hr.units) (pe_call GT hr3 rfl mT kT bT .nil passE (pa_cons (pe_ix (r := rIxL K) ix_list (pv 5) (pe_int) (fun _ _ => rfl)) (pa_cons (pe_ix (r := rIxL K) ix_list (pv 5) (pe_int) (fun _ _ => rfl)) (pa_cons (pe_ix (r := rIxL K) ix_list (pv 5) (pe_int) (fun _ _ => rfl)) (pa_cons (pv 2) pa_nil))))) (pv 8) (nomark _)) (pe_one (pe_cmpR (op_eqD hr.units) (pv 5) (pv 6) (nomark _)))))))))))))))))))), ?_⟩
  refine ⟨_, rfl, a, ns, 0, rfl, hS, Int.le_refl _, fun p H1 hp s1 P1 => ?_⟩
  refine ⟨_, rfl, p, 101, rfl, P1, by decide, by decide +kernel, fun t1 H2 t10 t11 k2 P2 => ?_⟩
  have s2 := same_kp s1 hp k2
  refine ⟨_, rfl, p, 4, rfl, P2, by decide, by decide +kernel, fun t2 H3 t20 t21 k3 P3 => ?_⟩
  have s3 := same_kp s2 hp k3
  refine ⟨(by show 4 ≤ sizeLine; decide), fun l1 hl1 => ?_⟩
  refine ⟨_, rfl, p, 4, rfl, P3.new hl1, by decide, by decide +kernel, fun d1 H4 d10 d11 k4 P4 => ?_⟩
  have s4 := same_kp (s3.trans (same_new hl1 (.lst [.int t1, .int t2, .int 0, .int 100]))) hp k4
  have hl4 := k4 _ _ upd_same (pool_ne P3 hl1).symm
  obtain ⟨n, en, n0, n1⟩ : ∃ n : Int, atI [V.int t1, .int t2, .int 0, .int 100] d1 = some (.int n) ∧ 0 ≤ n ∧ n ≤ 100 := by
    have : d1 = 0 ∨ d1 = 1 ∨ d1 = 2 ∨ d1 = 3 := by omega
    rcases this with rfl | rfl | rfl | rfl
    · exact ⟨t1, rfl, by omega, by omega⟩
    · exact ⟨t2, rfl, by omega, by omega⟩
    · exact ⟨0, rfl, by omega, by omega⟩
    · exact ⟨100, rfl, by omega, by omega⟩
  refine ⟨l1, _, _, _, rfl, rfl, SqL.of hl4, en, ?_⟩
  refine ⟨_, rfl, _, _, rfl, rfl, ⟨by decide, by decide, by decide⟩, p, _, rfl, P4, by decide +kernel, by decide +kernel, fun far H5 f0 f1 k5 P5 => ?_⟩
  have s5 := same_kp s4 hp k5
  refine ⟨_, rfl, _, rfl, _, rfl, _, _, rfl, rfl, _, rfl, _, _, rfl, rfl, (by show 1 ≤ sizeLine; decide), fun w hw => ⟨(by show 9 ≤ sizeLine; decide), fun l2 hl2 => ?_⟩⟩
  have P6 := (P5.new hw (o := .tup [.int 1])).new hl2 (o := .lst [.bl true, .bl false, .int (-1), .int 101, .int (-2 - far), .int (102 + far), .non, .str "2", .ref w])
  refine ⟨_, rfl, p, 9, rfl, P6, by decide, by decide +kernel, fun d2 H7 d20 d21 k7 P7 => ?_⟩
  have s7 := same_kp ((s5.trans (same_new hw (.tup [.int 1]))).trans (same_new hl2 (.lst [.bl true, .bl false, .int (-1), .int 101, .int (-2 - far), .int (102 + far), .non, .str "2", .ref w]))) hp k7
  have hw7 : H7 w = some (.tup [.int 1]) := k7.tkp P6 _ _ (by rw [upd_ne (ne_of_none upd_same hl2)]; exact upd_same)
  have hl7 := k7 _ _ upd_same (pool_ne (P5.new hw) hl2).symm
  obtain ⟨v, ev, wv⟩ : ∃ v, atI [V.bl true, .bl false, .int (-1), .int 101, .int (-2 - far), .int (102 + far), .non, .str "2", .ref w] d2 = some v ∧ Wr K H7 v := by
    have : d2 = 0 ∨ d2 = 1 ∨ d2 = 2 ∨ d2 = 3 ∨ d2 = 4 ∨ d2 = 5 ∨ d2 = 6 ∨ d2 = 7 ∨ d2 = 8 := by omega
    have int_ : ∀ i : Int, (i < 0 ∨ 100 < i) → Wr K H7 (.int i) := fun i hi => wr_flat (.int i) true false (by decide +kernel) (by decide +kernel) (fun _ => ⟨i, rfl, by
      rcases hi with h | h
      · rw [decide_eq_false (by omega : ¬ (0 : Int) ≤ i)]; rfl
      · rw [decide_eq_false (by omega : ¬ i ≤ 100), Bool.and_false]⟩) fun _ => ⟨_, .int i, rfl, Nat.le_refl _⟩
    have bl_ : ∀ b : Bool, Wr K H7 (.bl b) := fun b => wr_flat (.bl b) true true (by decide +kernel) (by decide +kernel) (fun z => nomatch z) fun _ => ⟨_, .bl b, rfl, Nat.le_refl _⟩
    rcases this with rfl | rfl | rfl | rfl | rfl | rfl | rfl | rfl | rfl
    · exact ⟨_, rfl, bl_ _⟩
    · exact ⟨_, rfl, bl_ _⟩
    · exact ⟨_, rfl, int_ _ (by omega)⟩
    · exact ⟨_, rfl, int_ _ (by omega)⟩
    · exact ⟨_, rfl, int_ _ (by omega)⟩
    · exact ⟨_, rfl, int_ _ (by omega)⟩
    · exact ⟨_, rfl, wr_flat .non false false (by decide +kernel) (by decide +kernel) (fun z => nomatch z) fun _ => ⟨_, .non, rfl, Nat.le_refl _⟩⟩
    · exact ⟨_, rfl, wr_flat (.str _) false false (by decide +kernel) (by decide +kernel) (fun z => nomatch z) fun _ => ⟨_, .str _, by decide +kernel, Nat.le_refl _⟩⟩
    · exact ⟨_, rfl, ⟨_, false, false, .tup hw7, by decide +kernel, by decide +kernel, fun z => nomatch z⟩, fun H' s' => dd_tup (s' _ _ hw7) fun x hx => by rw [List.mem_singleton.mp hx]; exact ⟨_, .int 1, rfl, Nat.le_refl _⟩⟩
  refine ⟨l2, _, _, _, rfl, rfl, SqL.of hl7, ev, ?_⟩
  clear ev en hl7 hl4 hw7 k2 k3 k4 k5 k7 s1 s2 s3 s4 s5 P1 P2 P3 P4 P5 P6 P7
  refine ⟨_, _, rfl, ⟨by decide, by decide, by decide, by decide⟩, fun D hD => ?_⟩
  have hD0 : H D = none := s7.free hD
  refine lc_range (lo := 1) (n := 3) (fun i H8 => ∃ Ls : List (Addr × List Mt), Ls.length = i ∧ H8 D = some (.lst (Ls.map fun t => V.ref t.1)) ∧ (∀ t ∈ Ls, Rd H8 t.1 t.2 ∧ t.1 ≠ D) ∧ Same H7 H8) ?_ ?_ ?_
  · exact ⟨[], rfl, upd_same, fun t ht => (nomatch ht), same_new hD _⟩
  · rintro i H8 hi ⟨Ls, hl, h2, h3, h4⟩
    refine ⟨rfl, ?_⟩
    unfold tYes
    dsimp only
    rw [if_pos rfl]
    refine ⟨_, rfl, _, rfl, a, ns, _, rfl, (s7.trans h4).seq hS, by omega, fun pb H9 hpb s9 P9 => ⟨pb, rfl, P9, fun x H10 L hx k10 _ R10 => ?_⟩⟩
    have s10 := same_kp s9 hpb k10
    have hD10 := s10 _ _ h2
    have nx : x ≠ D := (ne_of_none (s9 _ _ h2) hx).symm
    refine ⟨_, hD10, small1000 (by rw [List.length_map]; omega), Ls ++ [(x, L)], by rw [List.length_append, hl]; rfl, by rw [upd_same, List.map_append]; rfl, fun t ht => ?_, fun b o e => ?_⟩
    · rcases List.mem_append.mp ht with h | h
      · exact ⟨((h3 t h).1.keep s10).put hD10 (h3 t h).2, (h3 t h).2⟩
      · rw [List.mem_singleton.mp h]; exact ⟨R10.put hD10 nx, nx⟩
    · rw [upd_ne (ne_of_none e hD)]; exact s10 _ _ (h4 _ _ e)
  rintro H8 ⟨Ls, hl, h2, h3, h4⟩
  obtain ⟨⟨x, X⟩, ⟨y, Y⟩, ⟨z, Z⟩, rfl⟩ : ∃ u1 u2 u3, Ls = [u1, u2, u3] := by
    match Ls, hl with
    | [u1, u2, u3], _ => exact ⟨u1, u2, u3, rfl⟩
  have R8 : Roads H8 D x y z X Y Z := ⟨h2, (h3 (x, X) (by simp)).1, (h3 (y, Y) (by simp)).1, (h3 (z, Z) (by simp)).1⟩
  have bad8 : BadN H8 v := by
    obtain ⟨⟨T', b1, b2, kd, r⟩, _⟩ := wv
    exact ⟨T', b1, b2, kd.keep h4, r⟩
  have s8 := s7.trans h4
  have wd8 : ∀ H', Same H8 H' → ∃ d, Dd K H' 1 v d := fun H' s => wv.2 H' (h4.trans s)
  clear h3 h2 hl
  refine ⟨_, rfl, D, rfl, ⟨_, SqL.of R8.at_⟩, fun KP hKP => ?_⟩
  refine lc_list (K := K) (a := D) (xs := [.ref x, .ref y, .ref z]) (fun i H9 => ∃ Ls : List (Addr × List Mt), Ls.map (·.2) = [X, Y, Z].take i ∧ i ≤ 3 ∧ H9 KP = some (.lst (Ls.map fun t => V.ref t.1)) ∧ (∀ t ∈ Ls, Rd H9 t.1 t.2 ∧ t.1 ≠ KP) ∧ Same H8 H9) ?_ ?_ ?_ ?_
  · exact ⟨[], rfl, by decide, upd_same, fun t ht => (nomatch ht), same_new hKP _⟩
  · rintro i H9 hi ⟨Ls, hl, _, h2, h3, h4⟩
    exact SqL.of (h4 _ _ R8.at_)
  · rintro i vv H9 hv ⟨Ls, hl, hi3, h2, h3, h4⟩
    have hi : i < 3 := (List.getElem?_eq_some_iff.mp hv).1
    have R9 := R8.keep h4
    obtain ⟨q, L, eq, hq, eL⟩ : ∃ q L, vv = V.ref q ∧ Rd H9 q L ∧ [X, Y, Z].take (i + 1) = [X, Y, Z].take i ++ [L] := by
      have : i = 0 ∨ i = 1 ∨ i = 2 := by omega
      rcases this with rfl | rfl | rfl
      · exact ⟨x, X, (Option.some.inj hv).symm, R9.x_, rfl⟩
      · exact ⟨y, Y, (Option.some.inj hv).symm, R9.y_, rfl⟩
      · exact ⟨z, Z, (Option.some.inj hv).symm, R9.z_, rfl⟩
    subst eq
    refine ⟨rfl, ?_⟩
    unfold tYes
    dsimp only
    rw [if_pos rfl]
    have hlen : Ls.length = i := by have := congrArg List.length hl; rw [List.length_map, List.length_take] at this; simp at this; omega
    refine ⟨_, rfl, q, _, rfl, .inl (SqL.of hq.at_), fun l hl0 => ⟨_, (same_new hl0 _) _ _ h2, small1000 (by rw [List.length_map]; omega), Ls ++ [(l, L)], by rw [List.map_append, hl, eL]; rfl, hi, by rw [upd_same, List.map_append]; rfl, fun t ht => ?_, fun b o e => ?_⟩⟩
    · have hK : (L2.upd H9 l (.lst (refs L))) KP = _ := (same_new hl0 _) _ _ h2
      have nl : l ≠ KP := (ne_of_none h2 hl0).symm
      rcases List.mem_append.mp ht with h | h
      · exact ⟨((h3 t h).1.keep (same_new hl0 _)).put hK (h3 t h).2, (h3 t h).2⟩
      · rw [List.mem_singleton.mp h]
        exact ⟨Rd.put hK nl ⟨upd_same, fun t ht => (hq.all t ht).keep (tk_new hl0 _), hq.few⟩, nl⟩
    · rw [upd_ne (ne_of_none e hKP), upd_ne (ne_of_none (h4 _ _ e) hl0)]
      exact h4 _ _ e
  rintro H9 ⟨Ls, hl, _, h2, h3, s89⟩
  obtain ⟨x', y', z', rfl⟩ : ∃ x' y' z', Ls = [(x', X), (y', Y), (z', Z)] := by
    match Ls, hl with
    | [(u1, U1), (u2, U2), (u3, U3)], hl =>
      injection hl with e1 hl
      injection hl with e2 hl
      injection hl with e3 hl
      exact ⟨u1, u2, u3, by rw [← e1, ← e2, ← e3]⟩
  have C9 : Roads H9 KP x' y' z' X Y Z := ⟨h2, (h3 (x', X) (by simp)).1, (h3 (y', Y) (by simp)).1, (h3 (z', Z) (by simp)).1⟩
  have R9 := R8.keep s89
  obtain ⟨T', b1, b2, kd, kb1, kb2, hb⟩ := bad8
  refine ⟨_, rfl, _, rfl, D, x, y, z, v, X, Y, Z, rfl, R9, ⟨T', b1, b2, kd.keep s89, kb1, kb2, hb⟩, fun u H10 s10 hu => ?_⟩
  have s810 := s89.trans s10
  obtain ⟨dv, hdv⟩ := wd8 _ s810
  obtain ⟨sh, eqv⟩ := dd_shaped hdv (by decide)
  have tyv : TyX K H10 v (.type T') := (kd.keep s810).ty
  refine ⟨_, rfl, u, _, _, _, rfl, rfl, SqT.of hu, rfl, rfl, _, rfl, iteFb (by decide +kernel) ?_⟩
  refine ⟨_, rfl, u, _, _, _, rfl, rfl, SqT.of hu, rfl, _, rfl, dv, dv, hdv.1, hdv.1, sh, sh, _, rfl, iteFb (by rw [eqv]; rfl) ?_⟩
  refine ⟨_, rfl, u, _, _, _, rfl, rfl, SqT.of hu, rfl, ?_⟩
  refine ⟨v, _, _, _, b2, rfl, .ty "bool", tyv, kit_ty kb2, _, rfl, v, _, _, _, b2, rfl, .ty "bool", tyv, kit_ty kb2, rfl, _, rfl, iteFb (by cases b2 <;> decide +kernel) ?_⟩
  have R10 := R8.keep s810
  have C10 := C9.keep s10
  clear sh eqv hdv tyv
  refine ⟨_, rfl, KP, _, _, _, rfl, rfl, SqL.of C10.at_, rfl, x', rfl, ⟨_, SqL.of C10.x_.at_⟩, fun E0 hE0 => ?_⟩
  refine lc_list (K := K) (a := x') (xs := refs X) (fun i H9 => i ≤ (X).length ∧ H9 E0 = some (.lst (stps ((X).take i))) ∧ Same H10 H9) ⟨Nat.zero_le _, upd_same, same_new hE0 _⟩ ?_ ?_ ?_
  · rintro i H9 hi ⟨_, _, h3⟩
    exact SqL.of (h3 _ _ C10.x_.at_)
  · rintro i vv H9 hv ⟨_, h2, h3⟩
    have hi : i < (X).length := by have := (List.getElem?_eq_some_iff.mp hv).1; rwa [refs, List.length_map] at this
    have ev : vv = .ref ((X)[i]).1 := by
      rw [refs, List.getElem?_map, List.getElem?_eq_getElem hi] at hv
      exact (Option.some.inj hv).symm
    subst ev
    have it := C10.x_.all _ (List.getElem_mem hi)
    refine ⟨rfl, ?_⟩
    unfold tYes
    dsimp only
    rw [if_pos rfl]
    refine ⟨_, rfl, ((X)[i]).1, _, _, _, rfl, rfl, SqT.of (h3 _ _ it.pair), rfl, _, h2, ?_, hi, ?_, ?_⟩
    · rw [stps_len, List.length_take]; have := C10.x_.few; exact small1000 (by omega)
    · rw [upd_same, List.take_add_one, List.getElem?_eq_getElem hi]
      show _ = some (HO.lst (stps ((X).take i ++ [(X)[i]])))
      rw [stps_app]; rfl
    · intro b o e
      rw [upd_ne (ne_of_none e hE0)]; exact h3 _ _ e
  · rintro H11 ⟨_, hF, sF⟩
    rw [show (refs (X)).length = (X).length from by rw [refs, List.length_map], List.take_length] at hF
    have R11 := R10.keep sF
    have C11 := C10.keep sF
    refine ⟨_, rfl, n, rfl, by omega, by omega, ?_⟩
    refine for_range (lo := 0) (n := n.toNat) (fun i σ H12 => ∃ (E : Addr) (v9 : Option V), σ = [some (.ref a), some (.ref p), some (.int n), some (.int far), some v, some (.ref D), some (.ref KP), some (.ref u), some (.ref E), v9, none, none, none] ∧
      i ≤ n.toNat ∧ H12 E = some (.lst (stps (X ++ (List.replicate i Y).flatten))) ∧ Same H11 H12) ⟨E0, _, rfl, Nat.zero_le _, by rw [List.replicate_zero, List.flatten_nil, List.append_nil]; exact hF, fun b o e => e⟩ ?_ ?_
    · rintro i σ H12 hi ⟨E, v9, rfl, _, hE, sE⟩
      have C12 := C11.keep sE
      refine ⟨_, rfl, _, rfl, KP, _, _, _, rfl, rfl, SqL.of C12.at_, rfl, y', rfl, ⟨_, SqL.of C12.y_.at_⟩, fun E1 hE1 => ?_⟩
      refine lc_list (K := K) (a := y') (xs := refs Y) (fun i H9 => i ≤ (Y).length ∧ H9 E1 = some (.lst (stps ((Y).take i))) ∧ Same H12 H9) ⟨Nat.zero_le _, upd_same, same_new hE1 _⟩ ?_ ?_ ?_
      · rintro i H9 hi ⟨_, _, h3⟩
        exact SqL.of (h3 _ _ C12.y_.at_)
      · rintro i vv H9 hv ⟨_, h2, h3⟩
        have hi : i < (Y).length := by have := (List.getElem?_eq_some_iff.mp hv).1; rwa [refs, List.length_map] at this
        have ev : vv = .ref ((Y)[i]).1 := by
          rw [refs, List.getElem?_map, List.getElem?_eq_getElem hi] at hv
          exact (Option.some.inj hv).symm
        subst ev
        have it := C12.y_.all _ (List.getElem_mem hi)
        refine ⟨rfl, ?_⟩
        unfold tYes
        dsimp only
        rw [if_pos rfl]
        refine ⟨_, rfl, ((Y)[i]).1, _, _, _, rfl, rfl, SqT.of (h3 _ _ it.pair), rfl, _, h2, ?_, hi, ?_, ?_⟩
        · rw [stps_len, List.length_take]; have := C12.y_.few; exact small1000 (by omega)
        · rw [upd_same, List.take_add_one, List.getElem?_eq_getElem hi]
          show _ = some (HO.lst (stps ((Y).take i ++ [(Y)[i]])))
          rw [stps_app]; rfl
        · intro b o e
          rw [upd_ne (ne_of_none e hE1)]; exact h3 _ _ e
      · rintro H9 ⟨_, hF, sF⟩
        rw [show (refs (Y)).length = (Y).length from by rw [refs, List.length_map], List.take_length] at hF
        have ly := C12.y_.few
        have lx := C12.x_.few
        have li : (List.replicate i Y).flatten.length ≤ 900 := by rw [rep_len]; exact Nat.le_trans (Nat.mul_le_mul (by omega : i ≤ 100) ly) (by decide)
        refine ⟨E, E1, _, _, rfl, rfl, sF _ _ hE, hF, Nat.le_of_lt (small1000 (by rw [stps_len, stps_len, List.length_append]; omega)), fun p2 n2 => ⟨p2, _, rfl, hi, ?_, sE.trans (sF.trans (same_new n2 _))⟩⟩
        rw [upd_same, rep_snoc, ← List.append_assoc, stps_app (X ++ _) Y]
    rintro σ H12 ⟨E, v9, rfl, _, hE, sE⟩
    have C12 := C11.keep sE
    have R12 := R11.keep sE
    refine ⟨_, rfl, _, rfl, KP, _, _, _, rfl, rfl, SqL.of C12.at_, rfl, z', rfl, ⟨_, SqL.of C12.z_.at_⟩, fun E1 hE1 => ?_⟩
    refine lc_list (K := K) (a := z') (xs := refs Z) (fun i H9 => i ≤ (Z).length ∧ H9 E1 = some (.lst (stps ((Z).take i))) ∧ Same H12 H9) ⟨Nat.zero_le _, upd_same, same_new hE1 _⟩ ?_ ?_ ?_
    · rintro i H9 hi ⟨_, _, h3⟩
      exact SqL.of (h3 _ _ C12.z_.at_)
    · rintro i vv H9 hv ⟨_, h2, h3⟩
      have hi : i < (Z).length := by have := (List.getElem?_eq_some_iff.mp hv).1; rwa [refs, List.length_map] at this
      have ev : vv = .ref ((Z)[i]).1 := by
        rw [refs, List.getElem?_map, List.getElem?_eq_getElem hi] at hv
        exact (Option.some.inj hv).symm
      subst ev
      have it := C12.z_.all _ (List.getElem_mem hi)
      refine ⟨rfl, ?_⟩
      unfold tYes
      dsimp only
      rw [if_pos rfl]
      refine ⟨_, rfl, ((Z)[i]).1, _, _, _, rfl, rfl, SqT.of (h3 _ _ it.pair), rfl, _, h2, ?_, hi, ?_, ?_⟩
      · rw [stps_len, List.length_take]; have := C12.z_.few; exact small1000 (by omega)
      · rw [upd_same, List.take_add_one, List.getElem?_eq_getElem hi]
        show _ = some (HO.lst (stps ((Z).take i ++ [(Z)[i]])))
        rw [stps_app]; rfl
      · intro b o e
        rw [upd_ne (ne_of_none e hE1)]; exact h3 _ _ e
    · rintro H13 ⟨_, hF, sF⟩
      rw [show (refs (Z)).length = (Z).length from by rw [refs, List.length_map], List.take_length] at hF
      have ly := C12.y_.few
      have lx := C12.x_.few
      have lz := C12.z_.few
      have li : (List.replicate n.toNat Y).flatten.length ≤ 900 := by rw [rep_len]; exact Nat.le_trans (Nat.mul_le_mul (by omega : n.toNat ≤ 100) ly) (by decide)
      refine ⟨E, E1, _, _, rfl, rfl, sF _ _ hE, hF, Nat.le_of_lt (small1000 (by rw [stps_len, stps_len, List.length_append]; omega)), fun p2 n2 => ?_⟩
      rw [← stps_app]
      have lA : (stps (X ++ (List.replicate n.toNat Y).flatten ++ Z)).length ≤ 918 := by rw [stps_len, List.length_append, List.length_append]; omega
      have hA : (L2.upd H13 p2 (.lst (stps (X ++ (List.replicate n.toNat Y).flatten ++ Z)))) p2 = some (.lst (stps (X ++ (List.replicate n.toNat Y).flatten ++ Z))) := upd_same
      have s14 := sF.trans (same_new n2 (.lst (stps (X ++ (List.replicate n.toNat Y).flatten ++ Z))))
      have R14 := R12.keep s14
      have C14 := C12.keep s14
      have allA : ∀ H', Same (L2.upd H13 p2 (.lst (stps (X ++ (List.replicate n.toNat Y).flatten ++ Z)))) H' → ∀ t ∈ X ++ (List.replicate n.toNat Y).flatten ++ Z, It H' t := fun H' s' t ht => by
        have R' := R14.keep s'
        rcases List.mem_append.mp ht with ht | ht
        · rcases List.mem_append.mp ht with ht | ht
          · exact R'.x_.all t ht
          · exact R'.y_.all t (rep_mem ht)
        · exact R'.z_.all t ht
      generalize L2.upd H13 p2 (.lst (stps (X ++ (List.replicate n.toNat Y).flatten ++ Z))) = H14 at hA s14 R14 C14 allA ⊢
      refine ⟨_, rfl, D, _, _, _, rfl, rfl, SqL.of R14.at_, rfl, _, rfl, D, _, _, _, rfl, rfl, SqL.of R14.at_, rfl, _, rfl, D, _, _, _, rfl, rfl, SqL.of R14.at_, rfl, _, rfl, ?_⟩
      refine ⟨x, y, z, .int n, X, Y, Z, rfl, R14.x_, R14.y_, R14.z_, .inl ⟨n, rfl, n0, n1, fun tl H15 ntl s15 htl => ?_⟩⟩
      refine ⟨_, rfl, .ref tl, _, _, _, true, rfl, .ty "list", .base (.lst htl), kit_ty (by decide +kernel), true, rfl, iteF ?_⟩
      have hA15 := s15 _ _ hA
      obtain ⟨dA, hdA, gdA⟩ := dd_lst2 (K := K) htl hA15 (stp_dd (allA H15 s15))
      obtain ⟨shA, eqA⟩ := dd_shaped hdA (by decide)
      refine ⟨_, rfl, _, rfl, dA, dA, hdA.1, gdA, shA, shA, _, rfl, iteFb (by rw [eqA]; rfl) ?_⟩
      refine ⟨_, rfl, .inl ⟨rfl, _, SqL.of htl⟩, (by show 2 ≤ sizeLine; decide), fun t2 ht2 => ?_⟩
      have htl2 : (L2.upd H15 t2 (.tup [.int 0, .int 0])) tl = _ := (same_new ht2 _) _ _ htl
      refine ⟨tl, _, _, rfl, rfl, htl2, small1000 (by omega), ?_⟩
      have s16 : Same H14 (L2.upd (L2.upd H15 t2 (.tup [.int 0, .int 0])) tl (.lst (stps (X ++ (List.replicate n.toNat Y).flatten ++ Z) ++ [.ref t2]))) := fun b o e => by
        rw [upd_ne (ne_of_none e ntl)]; exact (same_new ht2 _) _ _ (s15 _ _ e)
      generalize L2.upd (L2.upd H15 t2 (.tup [.int 0, .int 0])) tl (.lst (stps (X ++ (List.replicate n.toNat Y).flatten ++ Z) ++ [.ref t2])) = H16 at s16 ⊢
      have R16 := R14.keep s16
      refine ⟨_, rfl, D, _, _, _, rfl, rfl, SqL.of R16.at_, rfl, _, rfl, D, _, _, _, rfl, rfl, SqL.of R16.at_, rfl, _, rfl, D, _, _, _, rfl, rfl, SqL.of R16.at_, rfl, _, rfl, ?_⟩
      refine ⟨x, y, z, .int n, X, Y, Z, rfl, R16.x_, R16.y_, R16.z_, .inl ⟨n, rfl, n0, n1, fun tl' H17 ntl' s17 htl' => ?_⟩⟩
      have s1417 := s16.trans s17
      obtain ⟨dB, hdB, gdB⟩ := dd_lst2 (K := K) htl' (s1417 _ _ hA) (stp_dd (allA H17 s1417))
      obtain ⟨shB, eqB⟩ := dd_shaped hdB (by decide)
      refine ⟨_, rfl, dB, dB, hdB.1, gdB, shB, shB, _, rfl, ?_⟩
      rw [eqB]
      obtain ⟨dR, hdR, gdR⟩ := roads_dd (K := K) (R14.keep s1417) (C14.keep s1417)
      obtain ⟨shR, eqR⟩ := dd_shaped hdR (by decide)
      refine iteT ⟨_, rfl, _, rfl, dR, dR, hdR.1, gdR, shR, shR, ?_⟩
      rw [eqR]
      exact q _
end
end Tk
set_option maxRecDepth 100000
namespace Tk
open PySem L2 PyProof.Rows
theorem kit_ty1 {K : PySem.W.Frag} {D : Addr} {t : String} {b : Bool} (s : PySem.W.subIn K (.ref D) (.type t) = some b) (ht : PySem.W.kitOne K (.ref D) (.type t) = PySem.W.subIn K (.ref D) (.type t)) : PySem.W.kitOne K (.ref D) (.type t) = some b := ht.trans s
theorem kit_ref {K : PySem.W.Frag} {D C : Addr} {b : Bool} (hne : (Value.ref D == Value.ref C) = false) (ic : PySem.W.isClsIn K C = true) (tC : PySem.W.typeIn K (.ref C) = some (.type "type")) (s : PySem.W.subIn K (.ref D) (.ref C) = some b) : PySem.W.kitOne K (.ref D) (.ref C) = some b := by
  have e1 : (PySem.W.clsIn K C).isSome = true := ic
  unfold PySem.W.kitOne
  rw [hne, if_neg (by decide)]
  show (if ((PySem.W.clsIn K C).isSome && PySem.W.typeIn K (.ref C) == some (.type "type")) = true then PySem.W.subIn K (.ref D) (.ref C) else none) = some b
  rw [e1, tC, if_pos (show (true && some (Value.type "type") == some (Value.type "type")) = true from by rw [beq_self_eq_true]; rfl)]
  exact s
theorem ve_ok {CT : Addr} : PySem.HandSPX.refsVE [.ref CT, .type "ValueError", .type "Exception", .type "BaseException", .type "object"] = true := by
  show PySem.HandSPX.refsVE [.type "ValueError", .type "Exception", .type "BaseException", .type "object"] = true
  decide +kernel

theorem all_mk {l : PySem.W.OpenLaw} {w : World} {K : PySem.W.Frag} {h : Heap} {mg : Str → Option Value} {fa CB CN CT f_isInt f_within f_turned f_box f_pick f_marked f_refd f_law f_bti : Addr} (X : K.In h) (G : h.Ns mainGlobals mg) (hfa : mg "law" = some (.ref fa))
    {nmCB qCB : Str} {NCB : Addr} {bsCB sbCB : List Value} {snCB : List Str} {abCB : Bool} {coCB : Option Bool} {ddCB : Option Addr} {m0CB m1CB m2CB m3CB m5CB : Option Value}
    {od_isInt an_isInt : Option Addr} {sl_isInt : Array (Option Value)} {oc_isInt kV_isInt dc_isInt pm_isInt cd_isInt ct_isInt : Value}
    {od_within an_within : Option Addr} {sl_within : Array (Option Value)} {oc_within kV_within dc_within pm_within cd_within ct_within : Value}
    {od_turned an_turned : Option Addr} {sl_turned : Array (Option Value)} {oc_turned kV_turned dc_turned pm_turned cd_turned ct_turned : Value}
    {od_box an_box : Option Addr} {sl_box : Array (Option Value)} {oc_box kV_box dc_box pm_box cd_box ct_box : Value}
    {od_pick an_pick : Option Addr} {sl_pick : Array (Option Value)} {oc_pick kV_pick dc_pick pm_pick cd_pick ct_pick : Value}
    {od_marked an_marked : Option Addr} {sl_marked : Array (Option Value)} {oc_marked kV_marked dc_marked pm_marked cd_marked ct_marked : Value}
    {od_refd an_refd : Option Addr} {sl_refd : Array (Option Value)} {oc_refd kV_refd dc_refd pm_refd cd_refd ct_refd : Value}
    {od_law an_law : Option Addr} {sl_law : Array (Option Value)} {oc_law kV_law dc_law pm_law cd_law ct_law : Value}
    {od_bti an_bti : Option Addr} {sl_bti : Array (Option Value)} {oc_bti kV_bti dc_bti pm_bti cd_bti ct_bti : Value}
    {t_MOST_TIMES : Tok}
    (aCB : PySem.W.nsIn K mainGlobals "BadTimes" = some (some (.ref CB)))
    (aCN : PySem.W.nsIn K mainGlobals "NoMeasure" = some (some (.ref CN)))
    (aCT : PySem.W.nsIn K mainGlobals "TakeError" = some (some (.ref CT)))
    (cn : PySem.W.specialIn K (.builtin "object.__class__") "__get__" = some (some (.builtin "getset_descriptor.__get__")))
    (ct : PySem.W.takesIn K (.builtin "object.__class__") = some true)
    (xCB : K.lookup CB = some (excClassObj nmCB qCB CB NCB bsCB [.ref CT, .type "ValueError", .type "Exception", .type "BaseException", .type "object"] true snCB sbCB abCB coCB ddCB m0CB m1CB m2CB m3CB m5CB "ValueError.__new__"))
    (saCB : PySem.W.findIn K (.ref CB) "__setattr__" = some (some (.builtin "object.__setattr__")))
    (gaCB : PySem.W.findIn K (.ref CB) "__getattribute__" = some (some (.builtin "BaseException.__getattribute__")))
    (ggCB : PySem.W.findIn K (.ref CB) "__getattr__" = some none)
    (nfCB : PySem.W.findIn K (.ref CB) "times" = some none)
    (eCB : PySem.W.subIn K (.ref CB) (.type "BaseException") = some true)
    (tCB : PySem.W.typeIn K (.ref CB) = some (.type "type"))
    (hCB : PySem.W.hasDictIn K CB = true)
    (kcCB : PySem.W.keepIn K (.ref CB) = true)
    (caCB : PySem.W.findIn K (.ref CB) "__class__" = some (some (.builtin "object.__class__")))
    (obCB : PySem.W.mroIn K CB (.type "object") = some true)
    (iCB : PySem.W.isClsIn K CB = true)
    (sCBCB : PySem.W.subIn K (.ref CB) (.ref CB) = some true)
    (iCN : PySem.W.isClsIn K CN = true)
    (tCN : PySem.W.typeIn K (.ref CN) = some (.type "type"))
    (iCT : PySem.W.isClsIn K CT = true)
    (tCT : PySem.W.typeIn K (.ref CT) = some (.type "type"))
    (sCBCT : PySem.W.subIn K (.ref CB) (.ref CT) = some true)
    (dCBCT : (Value.ref CB == Value.ref CT) = false)
    (sCBCN : PySem.W.subIn K (.ref CB) (.ref CN) = some false)
    (dCBCN : (Value.ref CB == Value.ref CN) = false)
    (sCBValueError : PySem.W.subIn K (.ref CB) (.type "ValueError") = some true)
    (a_isInt : PySem.W.nsIn K mainGlobals "is_integer" = some (some (.ref f_isInt)))
    (l_isInt : K.lookup f_isInt = some ⟨oc_isInt, od_isInt, .func (PySem.W.fnOf "is_integer" "is_integer" (defArgs sIsInt) (defBody sIsInt) (defScope sIsInt) .none kV_isInt dc_isInt pm_isInt an_isInt cd_isInt ct_isInt), sl_isInt⟩)
    (c_isInt : PySem.W.codeIn K cd_isInt "is_integer" = true)
    (k_isInt : PySem.W.keepIn K (.ref f_isInt) = true)
    (a_within : PySem.W.nsIn K mainGlobals "is_within" = some (some (.ref f_within)))
    (l_within : K.lookup f_within = some ⟨oc_within, od_within, .func (PySem.W.fnOf "is_within" "is_within" (defArgs sWithin) (defBody sWithin) (defScope sWithin) .none kV_within dc_within pm_within an_within cd_within ct_within), sl_within⟩)
    (c_within : PySem.W.codeIn K cd_within "is_within" = true)
    (k_within : PySem.W.keepIn K (.ref f_within) = true)
    (a_turned : PySem.W.nsIn K mainGlobals "turned" = some (some (.ref f_turned)))
    (l_turned : K.lookup f_turned = some ⟨oc_turned, od_turned, .func (PySem.W.fnOf "turned" "turned" (defArgs sTurned) (defBody sTurned) (defScope sTurned) .none kV_turned dc_turned pm_turned an_turned cd_turned ct_turned), sl_turned⟩)
    (c_turned : PySem.W.codeIn K cd_turned "turned" = true)
    (k_turned : PySem.W.keepIn K (.ref f_turned) = true)
    (a_box : PySem.W.nsIn K mainGlobals "_law_box" = some (some (.ref f_box)))
    (l_box : K.lookup f_box = some ⟨oc_box, od_box, .func (PySem.W.fnOf "_law_box" "_law_box" (defArgs sBox) (defBody sBox) (defScope sBox) .none kV_box dc_box pm_box an_box cd_box ct_box), sl_box⟩)
    (c_box : PySem.W.codeIn K cd_box "_law_box" = true)
    (k_box : PySem.W.keepIn K (.ref f_box) = true)
    (a_pick : PySem.W.nsIn K mainGlobals "_law_pick" = some (some (.ref f_pick)))
    (l_pick : K.lookup f_pick = some ⟨oc_pick, od_pick, .func (PySem.W.fnOf "_law_pick" "_law_pick" (defArgs sPick) (defBody sPick) (defScope sPick) .none kV_pick dc_pick pm_pick an_pick cd_pick ct_pick), sl_pick⟩)
    (c_pick : PySem.W.codeIn K cd_pick "_law_pick" = true)
    (k_pick : PySem.W.keepIn K (.ref f_pick) = true)
    (a_marked : PySem.W.nsIn K mainGlobals "_law_marked" = some (some (.ref f_marked)))
    (l_marked : K.lookup f_marked = some ⟨oc_marked, od_marked, .func (PySem.W.fnOf "_law_marked" "_law_marked" (defArgs sMarked) (defBody sMarked) (defScope sMarked) .none kV_marked dc_marked pm_marked an_marked cd_marked ct_marked), sl_marked⟩)
    (c_marked : PySem.W.codeIn K cd_marked "_law_marked" = true)
    (k_marked : PySem.W.keepIn K (.ref f_marked) = true)
    (a_refd : PySem.W.nsIn K mainGlobals "_law_refused" = some (some (.ref f_refd)))
    (l_refd : K.lookup f_refd = some ⟨oc_refd, od_refd, .func (PySem.W.fnOf "_law_refused" "_law_refused" (defArgs sRef) (defBody sRef) (defScope sRef) .none kV_refd dc_refd pm_refd an_refd cd_refd ct_refd), sl_refd⟩)
    (c_refd : PySem.W.codeIn K cd_refd "_law_refused" = true)
    (k_refd : PySem.W.keepIn K (.ref f_refd) = true)
    (a_law : PySem.W.nsIn K mainGlobals "law" = some (some (.ref f_law)))
    (l_law : K.lookup f_law = some ⟨oc_law, od_law, .func (PySem.W.fnOf "law" "law" (defArgs sLaw) (defBody sLaw) (defScope sLaw) .none kV_law dc_law pm_law an_law cd_law ct_law), sl_law⟩)
    (c_law : PySem.W.codeIn K cd_law "law" = true)
    (k_law : PySem.W.keepIn K (.ref f_law) = true)
    (a_bti : PySem.W.findIn K (.ref CB) "__init__" = some (some (.ref f_bti)))
    (i_bti : PySem.W.typeIn K (.ref f_bti) = some (.type "function"))
    (l_bti : K.lookup f_bti = some ⟨oc_bti, od_bti, .func (PySem.W.fnOf "__init__" "BadTimes.__init__" (defArgs sBTInit) (defBody sBTInit) (defScope sBTInit) .none kV_bti dc_bti pm_bti an_bti cd_bti ct_bti), sl_bti⟩)
    (c_bti : PySem.W.codeIn K cd_bti "BadTimes.__init__" = true)
    (k_bti : PySem.W.keepIn K (.ref f_bti) = true)
    (z_len : PySem.W.nsIn K mainGlobals "len" = some none)
    (z_int : PySem.W.nsIn K mainGlobals "int" = some none)
    (z_range : PySem.W.nsIn K mainGlobals "range" = some none)
    (z_list : PySem.W.nsIn K mainGlobals "list" = some none)
    (z_isinstance : PySem.W.nsIn K mainGlobals "isinstance" = some none)
    (z_bool : PySem.W.nsIn K mainGlobals "bool" = some none)
    (z_ValueError : PySem.W.nsIn K mainGlobals "ValueError" = some none)
    (v_MOST_TIMES : PySem.W.nsIn K mainGlobals "MOST_TIMES" = some (some (.int 100 t_MOST_TIMES)))
    : ∃ fd : FuncData, (∀ (s : Shared) (v : Value), BindsTo s fd ⟨[v], []⟩ [("_law_script", v)]) ∧ ∀ base : Heap, K.In base → base.Ns mainGlobals mg → FnOk l.prog w K mg base CX0 6 fa fd ["_law_script"] (spLaw K) := by
  have e := hfa.symm.trans (PySem.W.mg_of X G a_law)
  cases e
  have B_len := PySem.W.mg_none_of X G z_len
  have B_int := PySem.W.mg_none_of X G z_int
  have B_range := PySem.W.mg_none_of X G z_range
  have B_list := PySem.W.mg_none_of X G z_list
  have B_isinstance := PySem.W.mg_none_of X G z_isinstance
  have B_bool := PySem.W.mg_none_of X G z_bool
  have B_ValueError := PySem.W.mg_none_of X G z_ValueError
  have V_MOST_TIMES := PySem.W.mg_of X G v_MOST_TIMES
  have M_CN := PySem.W.mg_of X G aCN
  have M_CT := PySem.W.mg_of X G aCT
  have E_CB : Ecl K mg "BadTimes" "times" CB f_bti := ⟨PySem.W.mg_of X G aCB, ⟨⟨_, _, _, _, _, _, _, _, _, _, _, _, _, _, _, xCB, ve_ok⟩, saCB, eCB, tCB, kcCB⟩, a_bti, i_bti, nfCB, ⟨gaCB, ggCB, eCB, hCB⟩, iCB, caCB, cn, ct, obCB, PySem.W.exm_ref eCB hCB tCB sCBCB⟩
  have R_CB_CT : PySem.W.kitOne K (.ref CB) (.ref CT) = some true := kit_ref dCBCT iCT tCT sCBCT
  have R_CB_CN : PySem.W.kitOne K (.ref CB) (.ref CN) = some false := kit_ref dCBCN iCN tCN sCBCN
  have R_CB_ValueError : PySem.W.kitOne K (.ref CB) (.type "ValueError") = some true := kit_ty1 sCBValueError rfl
  have F_isInt := fun_mk (st := sIsInt) l_isInt c_isInt k_isInt
  have b_isInt := F_isInt.binds (ps := ["value"]) fun _ _ _ _ _ _ us hl => match us, hl with | [_], _ => rfl
  have m_isInt := PySem.W.mg_of X G a_isInt
  have F_within := fun_mk (st := sWithin) l_within c_within k_within
  have b_within := F_within.binds (ps := ["value", "low", "high"]) fun _ _ _ _ _ _ us hl => match us, hl with | [_, _, _], _ => rfl
  have m_within := PySem.W.mg_of X G a_within
  have F_turned := fun_mk (st := sTurned) l_turned c_turned k_turned
  have b_turned := F_turned.binds (ps := ["before", "around", "after", "times"]) fun _ _ _ _ _ _ us hl => match us, hl with | [_, _, _, _], _ => rfl
  have m_turned := PySem.W.mg_of X G a_turned
  have F_box := fun_mk (st := sBox) l_box c_box k_box
  have b_box := F_box.binds (ps := ["_law_script", "_law_k"]) fun _ _ _ _ _ _ us hl => match us, hl with | [_, _], _ => rfl
  have m_box := PySem.W.mg_of X G a_box
  have F_pick := fun_mk (st := sPick) l_pick c_pick k_pick
  have b_pick := F_pick.binds (ps := ["_law_box_here", "_law_size"]) fun _ _ _ _ _ _ us hl => match us, hl with | [_, _], _ => rfl
  have m_pick := PySem.W.mg_of X G a_pick
  have F_marked := fun_mk (st := sMarked) l_marked c_marked k_marked
  have b_marked := F_marked.binds (ps := ["_law_box_here"]) fun _ _ _ _ _ _ us hl => match us, hl with | [_], _ => rfl
  have m_marked := PySem.W.mg_of X G a_marked
  have F_refd := fun_mk (st := sRef) l_refd c_refd k_refd
  have b_refd := F_refd.binds (ps := ["_law_roads", "_law_times"]) fun _ _ _ _ _ _ us hl => match us, hl with | [_, _], _ => rfl
  have m_refd := PySem.W.mg_of X G a_refd
  have F_law := fun_mk (st := sLaw) l_law c_law k_law
  have m_law := PySem.W.mg_of X G a_law
  have F_bti := fun_mk (st := sBTInit) l_bti c_bti k_bti
  have b_bti := F_bti.binds (ps := ["self", "times"]) fun _ _ _ _ _ _ us hl => match us, hl with | [_, _], _ => rfl
  refine ⟨PySem.W.fnOf "law" "law" (defArgs sLaw) (defBody sLaw) (defScope sLaw) .none kV_law dc_law pm_law an_law cd_law ct_law, fun s v => .of_eq rfl, fun base _ _ => ?_⟩
  have B : Bl mg := ⟨B_len, B_int⟩
  have T : Bi mg := ⟨B_isinstance, B_int, B_bool⟩
  have Gii := ok_isint (P := l.prog) (w := w) (K := K) (base := base) F_isInt T
  have Gwi := ok_within F_within Gii b_isInt k_isInt m_isInt
  have Gbt := ok_bti (P := l.prog) (w := w) (mg := mg) (base := base) F_bti E_CB
  have Gtu := ok_turned F_turned E_CB ⟨_, V_MOST_TIMES⟩ Gbt b_bti Gwi b_within k_within m_within
  have Gbo := ok_box (P := l.prog) (w := w) (base := base) F_box B
  have Gpi := ok_pick (P := l.prog) (w := w) (base := base) F_pick B
  have Gma := ok_marked F_marked B_range Gpi b_pick k_pick m_pick
  have Gre := ok_refused F_refd T E_CB M_CT M_CN B_ValueError R_CB_CT R_CB_ValueError R_CB_CN Gtu b_turned k_turned m_turned
  exact ok_law F_law T B_range B_list Gbo b_box k_box m_box Gpi b_pick k_pick m_pick Gma b_marked k_marked m_marked Gre b_refd k_refd m_refd Gtu b_turned k_turned m_turned
theorem walk {l : PySem.W.OpenLaw} {q : Program} {loose : List Str} {XP : (Str → Option Value) → Heap → Prop} {YP : World → Heap → Prop} {d : DefRec} {K : Params → PySem.W.Frag} (hn : l.most = some 63) (hdf : d.params.defaults = [])
    (hY : ∀ (w : World) (h : Heap), YP w h → (K w.params).In h)
    (F : ∀ (w : World) (mg : Str → Option Value) (fa : Addr) (h : Heap), (K w.params).In h → h.Ns mainGlobals mg → mg d.name = some (.ref fa) →
      ∃ fd : FuncData, (∀ (s : Shared) (u : Value), BindsTo s fd ⟨[u], []⟩ [("_law_script", u)]) ∧ ∀ base : Heap, (K w.params).In base → base.Ns mainGlobals mg → FnOk l.prog w (K w.params) mg base CX0 6 fa fd ["_law_script"] (spLaw (K w.params))) :
    PySem.W.WalkO q loose XP YP l.row.toRowW d [] (fun f vs => PySem.call f vs) :=
  L2.walk_of (n := 63) (k := 6) (x := "_law_script") (CX := fun _ => CX0) (sp := fun w => spLaw (K w.params)) hn (by decide) hdf ⟨rfl, by decide, by decide⟩ hY F (fun _ _ a ns hl _ hS => ⟨a, ns, rfl, hS, hl, fun _ => rfl⟩) fun _ _ _ _ _ z => z
end Tk
open PySem PySem.W PyProof.Rows
set_option maxRecDepth 100000 in
set_option maxHeartbeats 0 in
theorem PySem.Challenge.cw_takenahead_k58_turned_lists_holds : PySem.Challenge.rw_takenahead_k58_turned_lists.Holds := by
  w_on; o_law; k_head; (case hw => w_witness2)
  k_fill
  refine Tk.walk (l := PySem.Challenge.rw_takenahead_k58_turned_lists) rfl rfl (fun w h Y => PySem.W.kIn_of Y) ?F
  case F =>
    intro w mg fa h KX G hmg
    refine' Tk.all_mk KX G hmg ?aCB ?aCN ?aCT ?cn ?ct ?xCB ?saCB ?gaCB ?ggCB ?nfCB ?eCB ?tCB ?hCB ?kcCB ?caCB ?obCB ?iCB ?sCBCB ?iCN ?tCN ?iCT ?tCT ?sCBCT ?dCBCT ?sCBCN ?dCBCN ?sCBValueError ?a_isInt ?l_isInt ?c_isInt ?k_isInt ?a_within ?l_within ?c_within ?k_within ?a_turned ?l_turned ?c_turned ?k_turned ?a_box ?l_box ?c_box ?k_box ?a_pick ?l_pick ?c_pick ?k_pick ?a_marked ?l_marked ?c_marked ?k_marked ?a_refd ?l_refd ?c_refd ?k_refd ?a_law ?l_law ?c_law ?k_law ?a_bti ?i_bti ?l_bti ?c_bti ?k_bti ?z_len ?z_int ?z_range ?z_list ?z_isinstance ?z_bool ?z_ValueError ?v_MOST_TIMES
    (case aCB => k_is)
    (case aCN => k_is)
    (case aCT => k_is)
    (case cn => k_is)
    (case ct => k_is)
    (case xCB => k_is)
    (case saCB => k_is)
    (case gaCB => k_is)
    (case ggCB => k_is)
    (case nfCB => k_is)
    (case eCB => k_is)
    (case tCB => k_is)
    (case hCB => k_is)
    (case kcCB => k_is)
    (case caCB => k_is)
    (case obCB => k_is)
    (case iCB => k_is)
    (case sCBCB => k_is)
    (case iCN => k_is)
    (case tCN => k_is)
    (case iCT => k_is)
    (case tCT => k_is)
    (case sCBCT => k_is)
    (case dCBCT => first | rfl | decide)
    (case sCBCN => k_is)
    (case dCBCN => first | rfl | decide)
    (case sCBValueError => k_is)
    (case a_isInt => k_is)
    (case l_isInt => k_is)
    (case c_isInt => k_is)
    (case k_isInt => k_is)
    (case a_within => k_is)
    (case l_within => k_is)
    (case c_within => k_is)
    (case k_within => k_is)
    (case a_turned => k_is)
    (case l_turned => k_is)
    (case c_turned => k_is)
    (case k_turned => k_is)
    (case a_box => k_is)
    (case l_box => k_is)
    (case c_box => k_is)
    (case k_box => k_is)
    (case a_pick => k_is)
    (case l_pick => k_is)
    (case c_pick => k_is)
    (case k_pick => k_is)
    (case a_marked => k_is)
    (case l_marked => k_is)
    (case c_marked => k_is)
    (case k_marked => k_is)
    (case a_refd => k_is)
    (case l_refd => k_is)
    (case c_refd => k_is)
    (case k_refd => k_is)
    (case a_law => k_is)
    (case l_law => k_is)
    (case c_law => k_is)
    (case k_law => k_is)
    (case a_bti => k_is)
    (case i_bti => k_is)
    (case l_bti => k_is)
    (case c_bti => k_is)
    (case k_bti => k_is)
    (case z_len => k_is)
    (case z_int => k_is)
    (case z_range => k_is)
    (case z_list => k_is)
    (case z_isinstance => k_is)
    (case z_bool => k_is)
    (case z_ValueError => k_is)
    (case v_MOST_TIMES => k_is)
