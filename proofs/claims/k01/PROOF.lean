import PyProof.Rows.All
import Wide.All
import OpenK.AllK
import Wide.FinOn
import HandS.ForMost
import HandS.TupAny
import HandS.TupLen
import HandS.TupLe
import HandS.Conv
import HandS.IsInst
import HandS.More
import HandS.OwnEq
import KE.GoesMore
import HandS.Walk
import HandS.ExcInit
import HandS.ExcOwn
import HandS.ExcField
import HandS.ExcIs
import HandS.WordsExc
import HandS.DeepEq
import KE.KExcIs
import HandS.Codes
import HandS.GenYield
import PyProof.ForAny
import HandS.GenList
import HandS.Deep
import PySem.Challenge.RW_takenahead_k01_script_places
set_option Elab.async false
set_option linter.all false
set_option maxRecDepth 100000
namespace Tk
open PySem L2
/-! ## heaps -/
/-- all but what stands at p is as it was -/
def Kp (p : Addr) (H H' : Hp) : Prop := ∀ b o, H b = some o → b ≠ p → H' b = some o
theorem Kp.refl (p : Addr) (H : Hp) : Kp p H H := fun _ _ e _ => e
theorem Kp.trans {p : Addr} {H H1 H2 : Hp} (a : Kp p H H1) (b : Kp p H1 H2) : Kp p H H2 := fun c o e n => b c o (a c o e n) n
theorem Kp.upd {p : Addr} {H : Hp} {o : HO} : Kp p H (L2.upd H p o) := fun c u e n => by rw [upd_ne n]; exact e
theorem Kp.new {p q : Addr} {H H' : Hp} {o : HO} (a : Kp p H H') (n : H' q = none) : Kp p H (L2.upd H' q o) := fun c u e m => by
  rw [upd_ne (ne_of_none (a c u e m) n)]; exact a c u e m
theorem Kp.of_same {p : Addr} {H H' : Hp} (a : Same H H') : Kp p H H' := fun c o e _ => a c o e
theorem same_new {H : Hp} {p : Addr} (h : H p = none) (o : HO) : Same H (L2.upd H p o) := fun b u q => by rw [upd_ne (ne_of_none q h)]; exact q
/-- the pool: three whole numbers -/
def PoolAt (H : Hp) (p : Addr) : Prop := ∃ a b c : Int, H p = some (.lst [.int a, .int b, .int c])
theorem Kp.tup {p q : Addr} {H H' : Hp} {xs : List V} {ys : List V} (k : Kp p H H') (hp : H p = some (.lst ys)) (h : H q = some (.tup xs)) : H' q = some (.tup xs) :=
  k q _ h (ne_of h hp (by intro z; cases z))
/-! ## numbers -/
theorem fmod_ok {a n : Int} (h : 0 < n) : 0 ≤ a.fmod n ∧ a.fmod n < n := ⟨Int.fmod_nonneg_of_pos a h, Int.fmod_lt_of_pos a h⟩
/-! ## texts -/
def Low (z : Str) : Prop := ∀ c ∈ z.cps.toList, 97 ≤ c ∧ c ≤ 122
def IsName (z : Str) : Prop := 1 ≤ z.length ∧ z.length ≤ 8 ∧ Low z
abbrev alpha : Str := "abcdefghijklmnopqrstuvwxyz"
theorem alpha_all : ∀ n : Fin 26, atI alpha.cps.toList ((n.val : Nat) : Int) = some (97 + n.val) := by decide +kernel
theorem alpha_at {i : Int} (h0 : 0 ≤ i) (h1 : i < 26) : ∃ c, atI alpha.cps.toList i = some c ∧ 97 ≤ c ∧ c ≤ 122 := by
  have e : i = ((i.toNat : Nat) : Int) := by omega
  have q := alpha_all ⟨i.toNat, by omega⟩
  rw [e]
  exact ⟨_, q, by simp, by simp; omega⟩
theorem low_nil : Low ("" : Str) := fun c h => by cases h
theorem low_app {x y : Str} (a : Low x) (b : Low y) : Low (x ++ y) := fun c h => by
  have h' : c ∈ (x.cps ++ y.cps).toList := h
  rw [Array.toList_append] at h'
  rcases List.mem_append.mp h' with q | q
  · exact a c q
  · exact b c q
theorem low_one {c : Nat} (h : 97 ≤ c ∧ c ≤ 122) : Low ⟨#[c]⟩ := fun d q => by
  have e : d = c := by simpa using q
  rw [e]; exact h
theorem low_cut {x : Str} (a : Low x) (lo hi : Option Int) : Low (cutS x lo hi) := fun c h => by
  have h' : c ∈ ((x.cps.toList.drop (HT.sIx x.length 0 lo)).take (HT.sIx x.length x.length hi - HT.sIx x.length 0 lo)) := by simpa [cutS] using h
  exact a c (List.mem_of_mem_drop (List.mem_of_mem_take h'))
theorem len_app (x y : Str) : (x ++ y).length = x.length + y.length := by
  show (x.cps ++ y.cps).size = _
  rw [Array.size_append]; rfl
theorem len_one (c : Nat) : (⟨#[c]⟩ : Str).length = 1 := rfl
theorem len_cut_lo (x : Str) (k : Nat) (h : k ≤ x.length) : (cutS x none (some (k : Int))).length = k := by
  have e : x.cps.toList.length = x.length := by simp [Str.length]
  show (((x.cps.toList.drop (HT.sIx x.length 0 none)).take (HT.sIx x.length x.length (some (k : Int)) - HT.sIx x.length 0 none)).toArray).size = k
  rw [HT.sIx_nat, HT.sIx_none, List.size_toArray, List.length_take, List.length_drop, e]
  omega
theorem len_cut_hi (x : Str) (k : Nat) (h : k ≤ x.length) : (cutS x (some (k : Int)) none).length = x.length - k := by
  have e : x.cps.toList.length = x.length := by simp [Str.length]
  show (((x.cps.toList.drop (HT.sIx x.length 0 (some (k : Int)))).take (HT.sIx x.length x.length none - HT.sIx x.length 0 (some (k : Int)))).toArray).size = _
  rw [HT.sIx_nat, HT.sIx_none, List.size_toArray, List.length_take, List.length_drop, e]
  omega
theorem isName_mk {b : Str} {c : Nat} {k : Int} (hb : Low b) (hl : b.length ≤ 7) (hc : 97 ≤ c ∧ c ≤ 122) (h0 : 0 ≤ k) (h1 : k ≤ b.length) :
    IsName (cutS b none (some k) ++ ⟨#[c]⟩ ++ cutS b (some k) none) := by
  obtain ⟨n, rfl⟩ : ∃ n : Nat, k = (n : Int) := ⟨k.toNat, by omega⟩
  have hn : n ≤ b.length := by omega
  refine ⟨?_, ?_, low_app (low_app (low_cut hb _ _) (low_one hc)) (low_cut hb _ _)⟩
  · rw [len_app, len_app, len_one]; omega
  · rw [len_app, len_app, len_one, len_cut_lo b n hn, len_cut_hi b n hn]; omega
/-- the list of the three names -/
def NamesAt (H : Hp) (q : Addr) : Prop := ∃ x y z : Str, H q = some (.lst [.str x, .str y, .str z]) ∧ IsName x ∧ IsName y ∧ IsName z
/-! ## statements -/
inductive Wd | take | commit | rollback | drop | leave
  deriving DecidableEq
def Wd.s : Wd → Str
  | .take => "take" | .commit => "commit" | .rollback => "rollback" | .drop => "drop" | .leave => "leave"
def Wd.held : Wd → Int → Int
  | .take, h => h + 1 | .commit, _ => 0 | .rollback, _ => 0 | .leave, _ => 0 | .drop, h => h
/-- lock (true), unlock -/
def lockS (b : Bool) : Str := if b then "lock" else "unlock"
inductive Stm
  | one (w : Wd)
  | nam (b : Bool) (n : Str)
  | ch (y n : List Stm)
mutual
def Stm.d : Stm → PyData
  | .one w => .tuple [.str w.s]
  | .nam b n => .tuple [.str (lockS b), .str n]
  | .ch y n => .tuple [.str "choose", .tuple (dAll y), .tuple (dAll n)]
def dAll : List Stm → List PyData
  | [] => []
  | s :: r => s.d :: dAll r
end
mutual
def Stm.cnt : Stm → Nat
  | .one _ => 1
  | .nam _ _ => 1
  | .ch y n => 1 + cntAll y + cntAll n
def cntAll : List Stm → Nat
  | [] => 0
  | s :: r => s.cnt + cntAll r
end
mutual
def Stm.held : Stm → Int → Int
  | .one w, h => w.held h
  | .nam _ _, h => h
  | .ch y n, h => max (heldAll y h) (heldAll n h)
def heldAll : List Stm → Int → Int
  | [], h => h
  | s :: r, h => heldAll r (s.held h)
end
mutual
/-- s is a good statement inside of d chooses, when h numbers are held -/
def Stm.ok : Nat → Stm → Int → Prop
  | _, .one w, h => w = .take → h ≠ 3
  | _, .nam _ n, _ => IsName n
  | d, .ch y n, h => d < 2 ∧ okAll (d + 1) y h ∧ okAll (d + 1) n h
def okAll : Nat → List Stm → Int → Prop
  | _, [], _ => True
  | d, s :: r, h => s.ok d h ∧ okAll d r (s.held h)
end
mutual
/-- the value v is the statement s -/
def Stm.at : Hp → V → Stm → Prop
  | H, v, .one w => ∃ a, v = .ref a ∧ H a = some (.tup [.str w.s])
  | H, v, .nam b n => ∃ a, v = .ref a ∧ H a = some (.tup [.str (lockS b), .str n])
  | H, v, .ch y n => ∃ a b c xs ys, v = .ref a ∧ H a = some (.tup [.str "choose", .ref b, .ref c]) ∧ H b = some (.tup xs) ∧ atAll H xs y ∧ H c = some (.tup ys) ∧ atAll H ys n
def atAll : Hp → List V → List Stm → Prop
  | _, xs, [] => xs = []
  | H, xs, s :: r => ∃ v vs, xs = v :: vs ∧ s.at H v ∧ atAll H vs r
end
/-- tuples stay -/
def TK (H H' : Hp) : Prop := ∀ a xs, H a = some (.tup xs) → H' a = some (.tup xs)
theorem TK.refl (H : Hp) : TK H H := fun _ _ h => h
theorem TK.trans {H H1 H2 : Hp} (a : TK H H1) (b : TK H1 H2) : TK H H2 := fun c o h => b c o (a c o h)
theorem TK.of_same {H H' : Hp} (s : Same H H') : TK H H' := fun a xs h => s a _ h
theorem Kp.tk {p : Addr} {H H' : Hp} {ys : List V} (k : Kp p H H') (hp : H p = some (.lst ys)) : TK H H' := fun a xs h => k.tup hp h
mutual
theorem Stm.at_keep {H H' : Hp} (k : TK H H') : ∀ (s : Stm) (v : V), s.at H v → s.at H' v
  | .one w, v, h => by
    unfold Stm.at at h ⊢
    obtain ⟨a, e, h⟩ := h
    exact ⟨a, e, k _ _ h⟩
  | .nam b n, v, h => by
    unfold Stm.at at h ⊢
    obtain ⟨a, e, h⟩ := h
    exact ⟨a, e, k _ _ h⟩
  | .ch y n, v, h => by
    unfold Stm.at at h ⊢
    obtain ⟨a, b, c, xs, ys, e, h1, h2, h3, h4, h5⟩ := h
    exact ⟨a, b, c, xs, ys, e, k _ _ h1, k _ _ h2, atAll_keep k y xs h3, k _ _ h4, atAll_keep k n ys h5⟩
theorem atAll_keep {H H' : Hp} (k : TK H H') : ∀ (B : List Stm) (xs : List V), atAll H xs B → atAll H' xs B
  | [], xs, h => h
  | s :: r, xs, h => by
    unfold atAll at h ⊢
    obtain ⟨v, vs, e, h1, h2⟩ := h
    exact ⟨v, vs, e, Stm.at_keep k s v h1, atAll_keep k r vs h2⟩
end
theorem atAll_len {H : Hp} : ∀ {B : List Stm} {xs : List V}, atAll H xs B → xs.length = B.length
  | [], xs, h => by unfold atAll at h; rw [h]; rfl
  | s :: r, xs, h => by
    unfold atAll at h
    obtain ⟨v, vs, e, h1, h2⟩ := h
    rw [e, List.length_cons, List.length_cons, atAll_len h2]
theorem atAll_get {H : Hp} : ∀ {B : List Stm} {xs : List V} {i : Nat} {s : Stm}, atAll H xs B → B[i]? = some s → ∃ v, xs[i]? = some v ∧ s.at H v
  | [], xs, i, s, h, e => by simp at e
  | t :: r, xs, 0, s, h, e => by
    unfold atAll at h
    obtain ⟨v, vs, e1, h1, h2⟩ := h
    have e2 : t = s := Option.some.inj e
    exact ⟨v, by rw [e1]; rfl, e2 ▸ h1⟩
  | t :: r, xs, i + 1, s, h, e => by
    unfold atAll at h
    obtain ⟨v, vs, e1, h1, h2⟩ := h
    obtain ⟨u, h3, h4⟩ := atAll_get (i := i) (s := s) h2 e
    exact ⟨u, by rw [e1]; exact h3, h4⟩
theorem atAll_app {H : Hp} : ∀ {B C : List Stm} {xs ys : List V}, atAll H xs B → atAll H ys C → atAll H (xs ++ ys) (B ++ C)
  | [], C, xs, ys, h, g => by unfold atAll at h; rw [h]; exact g
  | s :: r, C, xs, ys, h, g => by
    unfold atAll at h
    obtain ⟨v, vs, e, h1, h2⟩ := h
    rw [e]
    show atAll H (v :: (vs ++ ys)) (s :: (r ++ C))
    unfold atAll
    exact ⟨v, vs ++ ys, rfl, h1, atAll_app h2 g⟩
theorem atAll_one {H : Hp} {s : Stm} {v : V} (h : s.at H v) : atAll H [v] [s] := by
  unfold atAll
  exact ⟨v, [], rfl, h, by unfold atAll; rfl⟩
theorem atAll_drop {H : Hp} : ∀ {B : List Stm} {xs : List V} (n : Nat), atAll H xs B → atAll H (xs.drop n) (B.drop n)
  | B, xs, 0, h => h
  | [], xs, n + 1, h => by unfold atAll at h; rw [h]; rfl
  | s :: r, xs, n + 1, h => by
    unfold atAll at h
    obtain ⟨v, vs, e, h1, h2⟩ := h
    rw [e]
    exact atAll_drop n h2
theorem heldAll_app : ∀ (B C : List Stm) (h : Int), heldAll (B ++ C) h = heldAll C (heldAll B h)
  | [], C, h => rfl
  | s :: r, C, h => by
    show heldAll (s :: (r ++ C)) h = heldAll C (heldAll (s :: r) h)
    rw [heldAll, heldAll]
    exact heldAll_app r C _
theorem okAll_app : ∀ (d : Nat) (B C : List Stm) (h : Int), okAll d B h → okAll d C (heldAll B h) → okAll d (B ++ C) h
  | d, [], C, h, _, g => by rw [heldAll] at g; exact g
  | d, s :: r, C, h, f, g => by
    rw [okAll] at f
    rw [heldAll] at g
    show okAll d (s :: (r ++ C)) h
    rw [okAll]
    exact ⟨f.1, okAll_app d r C _ f.2 g⟩
theorem cntAll_app : ∀ (B C : List Stm), cntAll (B ++ C) = cntAll B + cntAll C
  | [], C => by rw [cntAll]; simp
  | s :: r, C => by
    show cntAll (s :: (r ++ C)) = _
    rw [cntAll, cntAll, cntAll_app r C]; omega
theorem cnt_pos (s : Stm) : 1 ≤ s.cnt := by
  cases s <;> rw [Stm.cnt] <;> omega
theorem len_le_cnt : ∀ (B : List Stm), B.length ≤ cntAll B
  | [] => Nat.zero_le _
  | s :: r => by
    have := cnt_pos s
    have := len_le_cnt r
    rw [cntAll, List.length_cons]; omega
/-! ## what the draws stand on: the pool p, the box b (what is left, what is held), the names q -/
def BoxAt (H : Hp) (b : Addr) (k h : Int) : Prop := H b = some (.lst [.int k, .int h, .int 3])
structure Dr (H : Hp) (p b q : Addr) (k h : Int) : Prop where
  pool : PoolAt H p
  box : BoxAt H b k h
  names : NamesAt H q
  npb : p ≠ b
  npq : p ≠ q
  nbq : b ≠ q
def K2 (p b : Addr) (H H' : Hp) : Prop := ∀ a o, H a = some o → a ≠ p → a ≠ b → H' a = some o
theorem K2.refl (p b : Addr) (H : Hp) : K2 p b H H := fun _ _ e _ _ => e
theorem K2.trans {p b : Addr} {H H1 H2 : Hp} (x : K2 p b H H1) (y : K2 p b H1 H2) : K2 p b H H2 := fun c o e n m => y c o (x c o e n m) n m
theorem Kp.k2 {p b : Addr} {H H' : Hp} (k : Kp p H H') : K2 p b H H' := fun a o e n _ => k a o e n
theorem K2.upd {p b : Addr} {H : Hp} {o : HO} : K2 p b H (L2.upd H b o) := fun a u e _ n => by rw [upd_ne n]; exact e
theorem K2.new {p b q : Addr} {H H' : Hp} {o : HO} (k : K2 p b H H') (n : H' q = none) : K2 p b H (L2.upd H' q o) := fun c u e m m' => by
  rw [upd_ne (ne_of_none (k c u e m m') n)]; exact k c u e m m'
theorem Dr.tk {H H' : Hp} {p b q : Addr} {k h : Int} (D : Dr H p b q k h) (x : K2 p b H H') : TK H H' := fun a xs e => by
  obtain ⟨_, _, _, hp⟩ := D.pool
  exact x a _ e (ne_of e hp (by intro z; cases z)) (ne_of e D.box (by intro z; cases z))
theorem Dr.draw {H H' : Hp} {p b q : Addr} {k h : Int} (D : Dr H p b q k h) (x : Kp p H H') (y : PoolAt H' p) : Dr H' p b q k h := by
  obtain ⟨a1, a2, a3, hq, n1, n2, n3⟩ := D.names
  exact ⟨y, x b _ D.box D.npb.symm, ⟨a1, a2, a3, x q _ hq D.npq.symm, n1, n2, n3⟩, D.npb, D.npq, D.nbq⟩
theorem Dr.put {H : Hp} {p b q : Addr} {k h k' h' : Int} (D : Dr H p b q k h) : Dr (L2.upd H b (.lst [.int k', .int h', .int 3])) p b q k' h' := by
  obtain ⟨a1, a2, a3, hq, n1, n2, n3⟩ := D.names
  obtain ⟨x, y, z, hp⟩ := D.pool
  exact ⟨⟨x, y, z, by rw [upd_ne D.npb]; exact hp⟩, upd_same, ⟨a1, a2, a3, by rw [upd_ne D.nbq.symm]; exact hq, n1, n2, n3⟩, D.npb, D.npq, D.nbq⟩
theorem Dr.new {H : Hp} {p b q a : Addr} {o : HO} {k h : Int} (D : Dr H p b q k h) (n : H a = none) : Dr (L2.upd H a o) p b q k h := by
  obtain ⟨a1, a2, a3, hq, n1, n2, n3⟩ := D.names
  obtain ⟨x, y, z, hp⟩ := D.pool
  exact ⟨⟨x, y, z, by rw [upd_ne (ne_of_none hp n)]; exact hp⟩, by unfold BoxAt; rw [upd_ne (ne_of_none D.box n)]; exact D.box, ⟨a1, a2, a3, by rw [upd_ne (ne_of_none hq n)]; exact hq, n1, n2, n3⟩, D.npb, D.npq, D.nbq⟩
theorem names_at {H : Hp} {q : Addr} (h : NamesAt H q) {r : Int} (r0 : 0 ≤ r) (r1 : r < 3) : ∃ xs n, H q = some (.lst xs) ∧ atI xs r = some (.str n) ∧ IsName n := by
  obtain ⟨a1, a2, a3, hq, n1, n2, n3⟩ := h
  have e : r = 0 ∨ r = 1 ∨ r = 2 := by omega
  rcases e with rfl | rfl | rfl
  · exact ⟨_, a1, hq, rfl, n1⟩
  · exact ⟨_, a2, hq, rfl, n2⟩
  · exact ⟨_, a3, hq, rfl, n3⟩
end Tk
set_option maxRecDepth 100000
/-! Own rules: enumerate over a tuple; .get of a written dict; o[i], x in o, len(o) by the text's own methods. -/
namespace PySem
section
variable {prog : Program} {w : World} {A : Around} {E : Value → Shared → Prop} {s : Shared}
abbrev tkE (j : Addr) : Obj := { cls := .type "enumerate", data := .fields #[.none, .bool false, .ref j, rawInt 0, .none, .none] }
theorem tk_new {v : Value} {o : Obj} {T : Heap → Prop} (B : Begins v o T) :
    Meets (Builtin.«enumerate.__new__» ⟨[.type "enumerate", v], []⟩) (fun _ R s => T s.heap ∧ R (.ok (.ret (.ref (s.heap.push o).objs.size))) { s with heap := (s.heap.push o).push (tkE s.heap.objs.size) }) :=
  .of_wp fun prog w A R s h => by
    obtain ⟨hp, g, d, tk, os⟩ := s
    obtain ⟨h1, h⟩ := h
    have hz := sub_enumerate
    have it1 : ∀ {A' : Around} {E' : Value → Shared → Prop} {Q' : Value → Shared → Prop}, Q' (.ref hp.objs.size) ⟨hp.push o, g, d, tk, os⟩ → wpAny (model prog w) A' (pyIter v) Q' E' ⟨hp, g, d, tk, os⟩ := fun z => B.iter prog w _ _ ⟨hp, g, d, tk, os⟩ _ h1 z
    wp_walk using it1
    refine wpAny_stack_any fun _ => wpAny_pure ?_
    split
    · rename_i c _ _ _ _ _
      cases (c == Value.type "enumerate") <;> (wp_walk using it1; exact ⟨_, rfl, h⟩)
    · wp_walk using it1
      exact ⟨_, rfl, h⟩
theorem tk_enum {v : Value} {o : Obj} {T : Heap → Prop} {Q : Value → Shared → Prop} (B : Begins v o T) (h1 : T s.heap)
    (h : ∀ h', IsEnum h' (s.heap.objs.size + 1) s.heap.objs.size 0 .none → h'.get? s.heap.objs.size = some o → (∀ b u, s.heap.get? b = some u → h'.get? b = some u) → Q (.ref (s.heap.objs.size + 1)) { s with heap := h' }) :
    wpAny (model prog w) A (call (.type "enumerate") [v]) Q E s := by
  have z1 : (s.heap.push o).objs.size = s.heap.objs.size + 1 := Heap.size_push ..
  refine callType_new F.called_enumerate (by decide) (F.typeCall_enumerate_1 _) (F.newCall_enumerate_1 _) (fun obj => F.args_object_init_2 obj _) F.entry_enumerate_new (tk_new B) (And.intro h1 ?_)
  show _ ∧ _
  rw [z1]
  have q : ((s.heap.push o).push (tkE s.heap.objs.size)).get? (s.heap.push o).objs.size = some (tkE s.heap.objs.size) := Heap.get?_push_size _ rfl
  rw [z1] at q
  exact And.intro ⟨_, q, rfl⟩ (h _ q (Heap.get?_push_of_some _ (Heap.get?_push_size _ B.free)) fun b u y => Heap.get?_push_of_some _ (Heap.get?_push_of_some _ y))
end
end PySem
namespace L2
open PySem PySem.Spec PyProof.Rows
/-- the tuple at a, each item in a new pair with its number -/
def IteT (K : PySem.W.Frag) (a : Addr) : It where
  go := fun i H => ∃ (xs : List V) (x : V), SqT K H a xs ∧ xs[i]? = some x
  yld := fun i H v H' => ∃ T x, v = .ref T ∧ H T = none ∧ H' = upd H T (.tup [.int (i : Nat), x]) ∧ ∀ xs, SqT K H a xs → xs[i]? = some x
  stop := fun i H => ∃ xs : List V, SqT K H a xs ∧ xs.length = i
theorem tk_turn {P : Program} {w : World} {K : PySem.W.Frag} {elts : List Expr} {kk : Nat} {tp : Pos} (a e j : Addr) (n1 : a ≠ j) (n2 : e ≠ a) (n3 : e ≠ j) :
    Turn P w K (.Tuple elts kk tp) (IteT K a) [e, j] e (fun i h => (∃ old, IsEnum h e j ((i : Nat) : Int) old) ∧ h.IsTupleIter j a i) := by
  have two : ∀ b, b ∈ [e, j] → b = e ∨ b = j := fun b hb => by simpa using hb
  refine { mem := by simp, obj := ?_, keep := ?_, item := ?_, done := ?_, self := fun A i s Q E st h => wpAny_pyIter_enum st.1.choose_spec h }
  · intro i h st b hb
    obtain ⟨⟨old, he⟩, ⟨o, ho, _, hd⟩⟩ := st
    rcases two b hb with rfl | rfl
    · exact ⟨_, he, fun v q => nomatch q⟩
    · exact ⟨o, ho, fun v q => by rw [hd] at q; cases q⟩
  · intro i h h' st k
    obtain ⟨⟨old, he⟩, hi⟩ := st
    exact ⟨⟨old, k e (by simp) _ he⟩, hi.at fun o q => k j (by simp) o q⟩
  · intro X hP hw hK hc i pins s σ H E I hf st hg
    subst hP hw hK
    obtain ⟨⟨old, he⟩, hj⟩ := st
    obtain ⟨xs, x, hq, hx⟩ := hg
    obtain ⟨its, rv, p, hz⟩ := I.tuple hq
    obtain ⟨u, hu, ru⟩ := rv.get hx
    have szE : e < s.heap.objs.size := Heap.lt_size he
    have szJ : j < s.heap.objs.size := by obtain ⟨_, q, _⟩ := hj; exact Heap.lt_size q
    have hu2 : its.toArray[i]? = some u := by simpa using hu
    have hlt : i < its.toArray.size := by
      rcases Nat.lt_or_ge i its.toArray.size with z | z
      · exact z
      · rw [Array.getElem?_eq_none z] at hu2; cases hu2
    refine wpAny_pyNext_enum_itemD (Draws.tuple (show X.A.in1.handled = none from I.ok.hd hc) j a n1 its.toArray) he ⟨hj, p⟩ hlt n3 (fun z => by
      rcases List.mem_cons.mp z with z | z
      · exact n3 z
      · exact n2 (by simpa using z)) (fun y h' tk py ho st' hT hsz hk => ?_)
    have ey : y = u := Option.some.inj (py.symm.trans hu2)
    subst ey
    refine ⟨_, rfl, wpAny_letOwnedTupleGo_enum (s := { s with heap := h', toks := tk + 1 }) ho fun h'' he' sb => ?_⟩
    have gT : h''.get? s.heap.objs.size = some { cls := .type "tuple", data := .seq #[.int i tk, y] } := (sb.2 _ (Nat.ne_of_gt szE)).trans hT
    have nw : ObjOk X.prog X.w (upd H s.heap.objs.size (.tup [.int (i : Nat), x])) h'' s.heap.objs.size (.tup [.int (i : Nat), x]) :=
      ⟨by show 2 ≤ sizeLine; decide, [.int i tk, y], .cons ⟨_, rfl⟩ (.cons ru .nil), _, gT, rfl, _, rfl⟩
    have I1 : Inv X pins σ (upd H s.heap.objs.size (.tup [.int (i : Nat), x])) { s with heap := h'', toks := tk + 1 } :=
      I.turnedNew (ch := [e, j]) (fun b ob hb q => (sb.2 b fun z => hb (by simp [z])).trans (hk b ob (fun z => hb (by simp [z])) (fun z => hb (by simp [z])) q)) hf (Nat.le_refl _) nw
    refine ⟨.ref s.heap.objs.size, _, I1, rfl, ⟨_, x, rfl, I.hok.fresh (Nat.le_refl _), rfl, fun ys hy => by rw [I.tuple_inj hy hq]; exact hx⟩, ⟨⟨y, ?_⟩, st'.1.at fun o q => (sb.2 j n3.symm).trans q⟩, fun b hb => ?_⟩
    · have e1 : (i : Int) + 1 = ((i + 1 : Nat) : Int) := by omega
      rw [← e1]
      exact he'
    · have lb : b < s.heap.objs.size := by
        rcases two b hb with rfl | rfl
        · exact szE
        · exact szJ
      rw [upd_ne (Nat.ne_of_lt lb)]
      exact (hf b hb).1
  · intro X hP hw hK hc i pins s σ H E I hf st hg
    subst hP hw hK
    obtain ⟨⟨old, he⟩, hj⟩ := st
    obtain ⟨xs, hq, hx⟩ := hg
    obtain ⟨its, rv, p, hz⟩ := I.tuple hq
    obtain ⟨f0, f1, f2, f3, f4, f5⟩ := hf j (by simp)
    have hl : i = its.toArray.size := by rw [List.size_toArray, ← rv.length]; exact hx.symm
    subst hl
    exact wpAny_pyNext_enum_endD (Draws.tuple (show X.A.in1.handled = none from I.ok.hd hc) j a n1 its.toArray) he ⟨hj, p⟩ fun h' eb => ⟨rfl, I.turned (t' := s.toks) (fun b o hb q => eb b o hb q) f0 f1 f3 f4 f5⟩
/-- for i, x in enumerate(t), t a tuple -/
def iEnumT (K : PySem.W.Frag) (ta : TA) : TI := fun σ H R => ta σ H fun vs H1 => ∃ a xs, vs = [.ref a] ∧ SqT K H1 a xs ∧ R (IteT K a) H1
theorem pi_enumT {X : Cx} {e : Expr} {ta : TA} {p pos tp : Pos} {elts : List Expr} {kk : Nat} (hg : Gl X "enumerate") (hm : X.mg "enumerate" = none) (ha : PA X [e] ta) (hs : starEach [e] X.env = [(false, eval e X.env)] := by rfl) :
    PI X (.Tuple elts kk tp) (.Call (.Name "enumerate" p) [e] [] pos) (iEnumT X.K ta) := by
  refine ⟨fun pins s σ H R I h => ?_⟩
  refine Call_ (ld_blt I hg hm boot_enumerate (PyProof.Rows.callWith_type1 (thn (ha.run pos pins s σ H _ I h) fun us s1 q0 => ?_) hs rfl))
  obtain ⟨vs, H1, I1, r1, a, xs, ex, hq, q⟩ := q0
  subst ex
  cases r1 with
  | cons r rr =>
    cases rr
    cases r
    obtain ⟨its, rv, p', hz⟩ := I1.tuple hq
    have la : a < s1.heap.objs.size := by obtain ⟨_, z, _⟩ := p'; exact Heap.lt_size z
    refine tk_enum (begins_tuple a its.toArray) p' fun h' he hit hk => wpAny_pyIter_enum he ?_
    have I2 : Inv X pins σ H1 { s1 with heap := h' } := I1.kept (t' := s1.toks) hk
    refine ⟨s1.heap.objs.size + 1, [s1.heap.objs.size + 1, s1.heap.objs.size], _, _, H1, rfl, I2, tk_turn a (s1.heap.objs.size + 1) s1.heap.objs.size (Nat.ne_of_lt la) (Nat.ne_of_gt (Nat.lt_succ_of_lt la)) (Nat.succ_ne_self _), ⟨⟨.none, he⟩, ⟨_, hit, rfl, rfl⟩⟩, fun b hb => ?_, q⟩
    have two : b = s1.heap.objs.size + 1 ∨ b = s1.heap.objs.size := by simpa using hb
    have le : s1.heap.objs.size ≤ b := two.elim (fun z => z ▸ Nat.le_succ _) (fun z => z ▸ Nat.le_refl _)
    exact I1.fpOk le (I1.hok.fresh le)
/-- the reading of such a loop -/
theorem for_enumT {K : PySem.W.Frag} {a : Addr} {xs : List V} {g : TG} {tb : TS} {D : Ends} {σ : St} {H : Hp} (Pv : Nat → St → Hp → Prop) (h0 : Pv 0 σ H) (hl : ∀ i σ H, i ≤ xs.length → Pv i σ H → SqT K H a xs)
    (hs : ∀ i x T σ H, xs[i]? = some x → Pv i σ H → H T = none → g (.ref T) σ (upd H T (.tup [.int (i : Nat), x])) fun σ2 H2 => tb { D with nx := Pv (i + 1), ct := Pv (i + 1), bk := D.nx } σ2 H2) (hd : ∀ σ H, Pv xs.length σ H → D.nx σ H) :
    ∃ W : Nat → Nat → St → Hp → Prop, (∃ m, W 0 m σ H) ∧ ∀ i m σ H, W i m σ H → ((IteT K a).stop i H ∧ D.nx σ H) ∨ ((IteT K a).go i H ∧ ∃ N : St → Hp → Prop, (∀ σ' H', N σ' H' → ∃ m', m' < m ∧ W (i + 1) m' σ' H') ∧
      ∀ x H', (IteT K a).yld i H x H' → g x σ H' fun σ2 H2 => tb { D with nx := N, ct := N, bk := D.nx } σ2 H2) := by
  refine ⟨fun i m σ H => m = xs.length - i ∧ i ≤ xs.length ∧ Pv i σ H, ⟨xs.length, by simp, Nat.zero_le _, h0⟩, ?_⟩
  rintro i m σ H ⟨rfl, hi, p⟩
  have q := hl i σ H hi p
  by_cases lt : i < xs.length
  · refine .inr ⟨⟨xs, xs[i], q, by simp [lt]⟩, Pv (i + 1), fun σ' H' p' => ⟨xs.length - (i + 1), by omega, rfl, lt, p'⟩, ?_⟩
    rintro x H' ⟨T, y, rfl, hT, rfl, hy⟩
    exact hs i y T σ H (hy xs q) p hT
  · have e : i = xs.length := by omega
    exact .inl ⟨⟨xs, q, e.symm⟩, hd σ H (e ▸ p)⟩
/-! ### the text's own methods by signs -/
section
variable {X : Cx} {CX : CXT} {k n : Nat} {C f : Addr} {fd : FuncData} {ps : List Str} {sp : Sp} {E : XK}
/-- a def called somewhere below the running body -/
theorem tk_run {A : Around} {pins : List (Addr × Obj)} {σ : St} {H : Hp} {s : Shared} {Q : VK} {us : List Value} {vs : List V} (sb : Sub X k A) (F : FnOk X.prog X.w X.K X.mg X.base CX k f fd ps sp) (hb : Binds X.K fd ps []) (hx : Passes CX X E)
    (I : Inv X pins σ H s) (r : Vals vs us) (h : sp vs H Q E) : wpAny (model X.prog X.w) A (call (.ref f) us) (EP X pins σ Q) X.xe s := by
  have e := I.env0
  have e0 : Env0 X.prog X.w X.K X.mg X.base A X.stack s H := ⟨by rw [sb.fr]; exact e.frames, e.mod, e.bs, e.bsz, e.funs, e.frf, e.hok, e.bare⟩
  have hl : us.length = ps.length := r.length.symm.trans (F.len _ _ _ _ h)
  have bd := hb s us I.kIn (by simpa using hl)
  refine wpAny_call (codeAny_mono (F.run A X.stack s H ⟨us, []⟩ us vs Q E sb.room e0 (by simpa using bd) r h) fun res s' hq => ?_)
  match res, hq with
  | .error e, hq => exact hx pins σ H s e s' I hq
  | .ok (.ret u), hq => exact I.after hq
/-- what stands in the class C as the method m -/
structure OwnM (K : PySem.W.Frag) (C : Addr) (m : Str) (f : Addr) : Prop where
  at_ : PySem.W.findIn K (.ref C) m = some (some (.ref f))
  fn : PySem.W.isFn K (.ref f) = true
theorem ownInst {pins : List (Addr × Obj)} {σ : St} {H : Hp} {s : Shared} {a dx : Addr} {fs : List (Str × V)} (I : Inv X pins σ H s) (ha : H a = some (.ins C dx fs)) : ∃ ox od, PySem.W.InstAt s.heap a ox C od := by
  obtain ⟨mA, J, _⟩ := ins_get I.hok ha
  obtain ⟨od, J, _⟩ := J.look
  exact ⟨_, _, J⟩
def rOwn2 (C : Addr) (sp : Sp) (E : XK) : R2 := fun x y H Q => ∃ a dx fs, x = .ref a ∧ H a = some (.ins C dx fs) ∧ sp [.ref a, y] H Q E
/-- o[i] by the class's own __getitem__ -/
theorem ix_own {value slice : Expr} (M : OwnM X.K C "__getitem__" f) (hf : PySem.W.fnIn X.K f = true) (F : FnOk X.prog X.w X.K X.mg X.base CX k f fd ps sp) (hr : Room (k + 1) X.A) (hb : Binds X.K fd ps []) (hx : Passes CX X E)
    {a b : Expr} {ta tb : TE} {pos : Pos} (ha : PE X a ta) (hb2 : PE X b tb) (hs : ∀ o i, subscripted b true o i = runValue (.builtin "lifetime.subscript" ⟨[o, i], []⟩)) : PE X (.Subscript a b pos) (tOp (rOwn2 C sp E) ta tb) := by
  refine ⟨fun pins s σ H Q I h => ?_⟩
  refine Subscript_ (binT ha hb2 I h fun v u s2 x y H2 I2 rx ry q => ?_)
  obtain ⟨p, dx, fs, rfl, hp, q⟩ := q
  obtain rfl : v = Value.ref p := rx
  obtain ⟨ox, od, J⟩ := ownInst I2 hp
  obtain ⟨m, hF⟩ := I2.fr
  refine PySem.W.sub_K hF I2.ok.mod.kin J M.at_ hf M.fn ?_ (hs _ _)
  exact tk_run ⟨hr.in1, rfl⟩ F hb hx I2 (.cons (show RelV (.ref p) (.ref p) from rfl) (.cons ry .nil)) q
def rOwnIn (C : Addr) (sp : Sp) (E : XK) (neg : Bool) : R2 := fun y x H Q => ∃ a dx fs, x = .ref a ∧ H a = some (.ins C dx fs) ∧ sp [.ref a, y] H (fun v H' => ∃ c, v = .bl c ∧ Q (.bl (if neg then !c else c)) H') E
/-- y in o by the class's own __contains__ -/
theorem op_inOwn (M : OwnM X.K C "__contains__" f) (F : FnOk X.prog X.w X.K X.mg X.base CX k f fd ps sp) (hr : Room k X.A) (hb : Binds X.K fd ps []) (hx : Passes CX X E) : OpR X (compareOp .In) (rOwnIn C sp E false) := by
  intro pins s σ H y x u v Q I ry rx h
  obtain ⟨p, dx, fs, rfl, hp, q⟩ := h
  obtain rfl : v = Value.ref p := rx
  obtain ⟨ox, od, J⟩ := ownInst I hp
  obtain ⟨m, hF⟩ := I.fr
  refine PySem.W.in_K hF I.ok.mod.kin J M.at_ M.fn (thn (tk_run ⟨hr, rfl⟩ F hb hx I (.cons (show RelV (.ref p) (.ref p) from rfl) (.cons ry .nil)) q) fun r s' hq => ?_)
  obtain ⟨z, H', I', rz, c, rfl, q'⟩ := hq
  cases rz
  exact wpAny_truthy_bool ⟨.bl c, H', I', rfl, q'⟩
theorem op_notInOwn (M : OwnM X.K C "__contains__" f) (F : FnOk X.prog X.w X.K X.mg X.base CX k f fd ps sp) (hr : Room k X.A) (hb : Binds X.K fd ps []) (hx : Passes CX X E) : OpR X (compareOp .NotIn) (rOwnIn C sp E true) := by
  intro pins s σ H y x u v Q I ry rx h
  obtain ⟨p, dx, fs, rfl, hp, q⟩ := h
  obtain rfl : v = Value.ref p := rx
  obtain ⟨ox, od, J⟩ := ownInst I hp
  obtain ⟨m, hF⟩ := I.fr
  refine PySem.W.notIn_K hF I.ok.mod.kin J M.at_ M.fn (thn (tk_run ⟨hr, rfl⟩ F hb hx I (.cons (show RelV (.ref p) (.ref p) from rfl) (.cons ry .nil)) q) fun r s' hq => ?_)
  obtain ⟨z, H', I', rz, c, rfl, q'⟩ := hq
  cases rz
  exact wpAny_truthy_bool ⟨.bl (!c), H', I', rfl, q'⟩
/-- len(o) by the class's own __len__ -/
theorem call_lenOwn (M : OwnM X.K C "__len__" f) (F : FnOk X.prog X.w X.K X.mg X.base CX k f fd ps sp) (hr : Room (k + 1) X.A) (hb : Binds X.K fd ps []) (hx : Passes CX X E) :
    CallR X (.builtin "len") (fun xs H Q => ∃ a dx fs, xs = [.ref a] ∧ H a = some (.ins C dx fs) ∧ sp [.ref a] H (fun v H' => ∃ i : Int, v = .int i ∧ 0 ≤ i ∧ i < 2 ^ 63 ∧ Q v H') E) := by
  intro pins s σ H xs us Q I r h
  obtain ⟨p, dx, fs, rfl, hp, q⟩ := h
  obtain ⟨u, rfl, rx⟩ := vals1 r
  obtain rfl : u = Value.ref p := rx
  obtain ⟨ox, od, J⟩ := ownInst I hp
  obtain ⟨m, hF⟩ := I.fr
  refine PySem.W.len_K hF I.ok.mod.kin J M.at_ M.fn (thn (tk_run ⟨hr.in1, rfl⟩ F hb hx I (.cons (show RelV (.ref p) (.ref p) from rfl) .nil) q) fun r s' hq => ?_)
  obtain ⟨z, H', I', rz, i, rfl, i0, i1, q'⟩ := hq
  obtain ⟨t, rfl⟩ := rz
  refine ⟨⟨i0, i1⟩, ⟨.int i, H', I'.tok _, ⟨_, rfl⟩, q'⟩⟩
end
/-! ### .get of a written dict -/
def KG (K : PySem.W.Frag) (w : World) (a : Addr) (x : Str) (v : V) : Prop := KDct K w a x v ∧ (a == sysModules) = false
def tKGet (K : PySem.W.Frag) (w : World) (td ty : TE) : TE := fun σ H Q => td σ H fun x H1 => ty σ H1 fun y H2 => ∃ a z v, x = .ref a ∧ y = .str z ∧ KG K w a z v ∧ Q v H2
theorem pe_kget {X : Cx} {o e : Expr} {td ty : TE} {apos cpos : Pos} (ho : PE X o td) (he : PE X e ty) (hd : ∀ σ H Q, td σ H Q → td σ H fun x H1 => (∃ a oc es n, x = V.ref a ∧ X.K.lookup a = some oc ∧ oc = ⟨.type "dict", none, .dict es n, #[]⟩) ∧ Q x H1) (m : M1 X o "get" apos e cpos) :
    PE X (.Call (.Attribute o "get" apos) [e] [] cpos) (tKGet X.K X.w td ty) := by
  refine ⟨fun pins s σ H Q I h => ?_⟩
  refine wpAny_Call_method m.base m.few m.line PySem.F.plainAttrs_dict PySem.F.slot_dict_get PySem.F.type_dict_get (thn (ho.run pins s σ H _ I (hd _ _ _ h)) fun u s1 q0 => ?_)
  obtain ⟨x, H1, I1, rx, ⟨a, oc, es, n, rfl, lk, rfl⟩, q1⟩ := q0
  obtain rfl : u = Value.ref a := rx
  have ga := I1.kIn _ _ lk
  refine ⟨⟨_, ga, rfl⟩, fun b q => by cases q; exact ⟨_, ga, rfl⟩, ?_⟩
  rw [m.trees]
  refine Calls.callWith_builtin rfl (Calls.evalArgs_plain (Calls.spliced_cons (thn (he.run pins s1 σ H1 _ I1 q1) fun iv s2 q2 => Calls.spliced_nil ?_)))
  obtain ⟨y, H2, I2, ry, a', z, v, ea, rfl, ⟨⟨es', n', u0, hl, hk, e1, ru⟩, hs⟩, q2⟩ := q2
  cases ea
  obtain ⟨t, rfl⟩ := ry
  have mo := PySem.W.mapOf_K (prog := X.prog) (w := X.w) I2.kIn hl hk
  refine call_meetsIn PySem.F.slot_dict_get mo.typeIs PySem.F.entry_dict_get (PySem.F.args_dict_get_2 _ _) (meets_dict_get (strKind X.prog X.w) a (strKind_is X.prog X.w z t) hs) ⟨_, mo, ?_⟩
  rw [PySem.W.find_K hl e1]
  exact ⟨v, H2, I2.tok _, ru, q2⟩
end L2
namespace Tk
open PySem L2
abbrev Pl := List Int
mutual
/-- the statements at and below the place p, in reading order -/
def Stm.walk : Stm → Pl → List (Pl × Stm)
  | .one w, p => [(p, .one w)]
  | .nam b n, p => [(p, .nam b n)]
  | .ch y n, p => (p, .ch y n) :: (walkAll y (p ++ [0]) 0 ++ walkAll n (p ++ [1]) 0)
def walkAll : List Stm → Pl → Nat → List (Pl × Stm)
  | [], _, _ => []
  | s :: r, p, i => s.walk (p ++ [(i : Int)]) ++ walkAll r p (i + 1)
end
def lk : List (Pl × Stm) → Pl → Option Stm
  | [], _ => none
  | (p, s) :: r, k => if p = k then some s else lk r k
theorem lk_app (k : Pl) : ∀ a b : List (Pl × Stm), lk (a ++ b) k = (lk a k).or (lk b k)
  | [], b => rfl
  | (p, s) :: r, b => by
    show (if p = k then some s else lk (r ++ b) k) = (if p = k then some s else lk r k).or (lk b k)
    by_cases h : p = k
    · rw [if_pos h, if_pos h]; rfl
    · rw [if_neg h, if_neg h, lk_app k r b]
def nth (B : List Stm) (j : Int) : Option Stm := if 0 ≤ j then B[j.toNat]? else none
def sub : Stm → Pl → Option Stm
  | s, [] => some s
  | .ch y n, a :: j :: q => if a = 0 then (nth y j).bind fun t => sub t q else if a = 1 then (nth n j).bind fun t => sub t q else none
  | _, _ => none
def look : List Stm → Pl → Option Stm
  | B, [] => none
  | B, j :: q => (nth B j).bind fun s => sub s q
theorem pre_ne {p q : Pl} {a b : Int} (h : a ≠ b) : ∀ r : Pl, p ++ a :: q ≠ (p ++ [b]) ++ r := fun r e => by
  rw [List.append_assoc] at e
  have := List.append_cancel_left e
  simp at this
  exact h this.1
mutual
theorem walk_none : ∀ (s : Stm) (p k : Pl), (∀ q, k ≠ p ++ q) → lk (s.walk p) k = none
  | .one w, p, k, h => by
    rw [Stm.walk, lk, if_neg (fun e => h [] (by rw [← e]; simp)), lk]
  | .nam b n, p, k, h => by
    rw [Stm.walk, lk, if_neg (fun e => h [] (by rw [← e]; simp)), lk]
  | .ch y n, p, k, h => by
    rw [Stm.walk, lk, if_neg (fun e => h [] (by rw [← e]; simp)), lk_app, walkAll_none y (p ++ [0]) 0 k (fun j q e => h (0 :: j :: q) (by rw [e]; simp)), walkAll_none n (p ++ [1]) 0 k (fun j q e => h (1 :: j :: q) (by rw [e]; simp))]
    rfl
theorem walkAll_none : ∀ (B : List Stm) (p : Pl) (i : Nat) (k : Pl), (∀ j q, k ≠ p ++ j :: q) → lk (walkAll B p i) k = none
  | [], p, i, k, h => by rw [walkAll, lk]
  | s :: r, p, i, k, h => by
    rw [walkAll, lk_app, walk_none s (p ++ [(i : Int)]) k (fun q e => h i q (by rw [e]; simp)), walkAll_none r p (i + 1) k h]
    rfl
end
theorem nth_nil (j : Int) : nth [] j = none := by
  unfold nth
  by_cases h : 0 ≤ j
  · rw [if_pos h]; rfl
  · rw [if_neg h]
theorem nth_zero (s : Stm) (r : List Stm) : nth (s :: r) 0 = some s := rfl
theorem nth_succ (s : Stm) (r : List Stm) (j : Int) (h : j ≠ 0) : nth (s :: r) j = nth r (j - 1) := by
  unfold nth
  by_cases h0 : 0 ≤ j
  · rw [if_pos h0, if_pos (by omega)]
    have e : j.toNat = (j - 1).toNat + 1 := by omega
    rw [e, List.getElem?_cons_succ]
  · rw [if_neg h0, if_neg (by omega)]
mutual
theorem walk_lk : ∀ (s : Stm) (p q : Pl), lk (s.walk p) (p ++ q) = sub s q
  | .one w, p, [] => by rw [Stm.walk, lk, if_pos (by simp), sub]
  | .one w, p, a :: q => by
    rw [Stm.walk, lk, if_neg (fun e => by have := congrArg List.length e; simp at this), lk]
    cases q <;> rfl
  | .nam b n, p, [] => by rw [Stm.walk, lk, if_pos (by simp), sub]
  | .nam b n, p, a :: q => by
    rw [Stm.walk, lk, if_neg (fun e => by have := congrArg List.length e; simp at this), lk]
    cases q <;> rfl
  | .ch y n, p, [] => by rw [Stm.walk, lk, if_pos (by simp), sub]
  | .ch y n, p, [a] => by
    rw [Stm.walk, lk, if_neg (fun e => by have := congrArg List.length e; simp at this), lk_app, walkAll_none, walkAll_none]
    · rfl
    · intro j q e; have := congrArg List.length e; simp at this
    · intro j q e; have := congrArg List.length e; simp at this
  | .ch y n, p, a :: j :: q => by
    rw [Stm.walk, lk, if_neg (fun e => by have := congrArg List.length e; simp at this), lk_app, sub]
    by_cases h0 : a = 0
    · subst h0
      rw [if_pos rfl]
      have e : p ++ (0 : Int) :: j :: q = (p ++ [0]) ++ j :: q := by simp
      have z : lk (walkAll n (p ++ [1]) 0) (p ++ (0 : Int) :: j :: q) = none := walkAll_none n (p ++ [1]) 0 _ (fun j' q' => pre_ne (by decide) _)
      rw [z, e, walkAll_lk y (p ++ [0]) 0 j q]
      simp
    · rw [if_neg h0]
      have z : lk (walkAll y (p ++ [0]) 0) (p ++ a :: j :: q) = none := walkAll_none y (p ++ [0]) 0 _ (fun j' q' => pre_ne h0 _)
      rw [z]
      by_cases h1 : a = 1
      · subst h1
        rw [if_pos rfl]
        have e : p ++ (1 : Int) :: j :: q = (p ++ [1]) ++ j :: q := by simp
        rw [e, walkAll_lk n (p ++ [1]) 0 j q]
        simp
      · rw [if_neg h1]
        have z2 : lk (walkAll n (p ++ [1]) 0) (p ++ a :: j :: q) = none := walkAll_none n (p ++ [1]) 0 _ (fun j' q' => pre_ne h1 _)
        rw [z2]; rfl
theorem walkAll_lk : ∀ (B : List Stm) (p : Pl) (i : Nat) (j : Int) (q : Pl), lk (walkAll B p i) (p ++ j :: q) = (nth B (j - i)).bind fun s => sub s q
  | [], p, i, j, q => by rw [walkAll, lk, nth_nil]; rfl
  | s :: r, p, i, j, q => by
    rw [walkAll, lk_app]
    by_cases h : j = i
    · subst h
      have e : p ++ (i : Int) :: q = (p ++ [(i : Int)]) ++ q := by simp
      have z : lk (walkAll r p (i + 1)) (p ++ (i : Int) :: q) = none ∨ True := .inr trivial
      rw [e, walk_lk s (p ++ [(i : Int)]) q, ← e, walkAll_lk r p (i + 1) i q]
      have e1 : nth (s :: r) ((i : Int) - i) = some s := by rw [Int.sub_self]; rfl
      have e2 : nth r ((i : Int) - ((i + 1 : Nat) : Int)) = none := by unfold nth; rw [if_neg (by omega)]
      rw [e1, e2]
      simp
    · have z : lk (s.walk (p ++ [(i : Int)])) (p ++ j :: q) = none := walk_none s _ _ (fun q' => pre_ne h _)
      rw [z, walkAll_lk r p (i + 1) j q, nth_succ s r (j - i) (by omega)]
      have e : j - ((i + 1 : Nat) : Int) = j - i - 1 := by omega
      rw [e]; rfl
end
theorem look_lk (S : List Stm) : ∀ p : Pl, lk (walkAll S [] 0) p = look S p
  | [] => walkAll_none S [] 0 [] (fun j q e => by cases e)
  | j :: q => by
    have := walkAll_lk S [] 0 j q
    simpa [look] using this
mutual
theorem walk_len : ∀ (s : Stm) (p : Pl), (s.walk p).length = s.cnt
  | .one w, p => by rw [Stm.walk, Stm.cnt]; rfl
  | .nam b n, p => by rw [Stm.walk, Stm.cnt]; rfl
  | .ch y n, p => by
    rw [Stm.walk, Stm.cnt, List.length_cons, List.length_append, walkAll_len y, walkAll_len n]; omega
theorem walkAll_len : ∀ (B : List Stm) (p : Pl) (i : Nat), (walkAll B p i).length = cntAll B
  | [], p, i => by rw [walkAll, cntAll]; rfl
  | s :: r, p, i => by rw [walkAll, cntAll, List.length_append, walk_len s, walkAll_len r]
end
theorem walkAll_snoc : ∀ (B : List Stm) (s : Stm) (p : Pl) (i : Nat), walkAll (B ++ [s]) p i = walkAll B p i ++ s.walk (p ++ [((i + B.length : Nat) : Int)])
  | [], s, p, i => by
    show walkAll [s] p i = walkAll [] p i ++ _
    rw [walkAll, walkAll, walkAll]; simp
  | t :: r, s, p, i => by
    show walkAll (t :: (r ++ [s])) p i = _
    rw [walkAll, walkAll, walkAll_snoc r s p (i + 1), List.append_assoc]
    have e : i + 1 + r.length = i + (t :: r).length := by rw [List.length_cons]; omega
    rw [e]
/-! ## the found statements as a dict -/
def key (p : Pl) : List Key := p.map Sum.inl
theorem key_kV (p : Pl) : (key p).map kV = p.map V.int := by
  unfold key; rw [List.map_map]; rfl
theorem key_inj : ∀ {p q : Pl}, key p = key q → p = q
  | [], [], _ => rfl
  | [], _ :: _, h => by cases h
  | _ :: _, [], h => by cases h
  | a :: p, b :: q, h => by
    have h' : Sum.inl a :: key p = Sum.inl b :: key q := h
    injection h' with h1 h2
    injection h1 with h1
    rw [h1, key_inj h2]
def FRel (H : Hp) : List (List Key × V) → List (Pl × Stm) → Prop
  | [], [] => True
  | (k, v) :: r, (p, s) :: r' => k = key p ∧ s.at H v ∧ FRel H r r'
  | _, _ => False
theorem FRel.len {H : Hp} : ∀ {a : List (List Key × V)} {b : List (Pl × Stm)}, FRel H a b → a.length = b.length
  | [], [], _ => rfl
  | _ :: _, _ :: _, h => by rw [List.length_cons, List.length_cons, FRel.len h.2.2]
  | [], _ :: _, h => h.elim
  | _ :: _, [], h => h.elim
theorem FRel.keep {H H' : Hp} (k : TK H H') : ∀ {a : List (List Key × V)} {b : List (Pl × Stm)}, FRel H a b → FRel H' a b
  | [], [], _ => trivial
  | _ :: _, _ :: _, h => ⟨h.1, Stm.at_keep k _ _ h.2.1, FRel.keep k h.2.2⟩
  | [], _ :: _, h => h.elim
  | _ :: _, [], h => h.elim
theorem FRel.snoc {H : Hp} {p : Pl} {v : V} {s : Stm} (hs : s.at H v) : ∀ {a : List (List Key × V)} {b : List (Pl × Stm)}, FRel H a b → FRel H (a ++ [(key p, v)]) (b ++ [(p, s)])
  | [], [], _ => ⟨rfl, hs, trivial⟩
  | _ :: _, _ :: _, h => ⟨h.1, h.2.1, FRel.snoc hs h.2.2⟩
  | [], _ :: _, h => h.elim
  | _ :: _, [], h => h.elim
theorem FRel.val {H : Hp} (p : Pl) : ∀ {a : List (List Key × V)} {b : List (Pl × Stm)}, FRel H a b → (lk b p = none → valV a (key p) = none) ∧ (∀ s, lk b p = some s → ∃ v, valV a (key p) = some v ∧ s.at H v)
  | [], [], _ => ⟨fun _ => rfl, fun s e => by cases e⟩
  | (k, v) :: r, (q, s) :: r', h => by
    obtain ⟨rfl, h1, h2⟩ := h
    by_cases e : q = p
    · subst e
      rw [lk, if_pos rfl, valV_pos (p := (key q, v)) rfl]
      exact ⟨(fun z => nomatch z), fun t z => ⟨v, rfl, Option.some.inj z ▸ h1⟩⟩
    · rw [lk, if_neg e, valV_neg (p := (key q, v)) (fun z => e (key_inj z))]
      exact FRel.val p h2
  | [], _ :: _, h => h.elim
  | _ :: _, [], h => h.elim
end Tk
namespace Tk
open PySem L2
def br (a : Int) (y n : List Stm) : List Stm := if a = 0 then y else n
/-- R is what follows the statement at p, to the end of the script -/
inductive After : List Stm → Pl → List Stm → Prop
  | here (B : List Stm) (i : Nat) : i < B.length → After B [(i : Int)] (B.drop (i + 1))
  | inn (B : List Stm) (i : Nat) (a : Int) (y n : List Stm) (q : Pl) (R : List Stm) : B[i]? = some (.ch y n) → (a = 0 ∨ a = 1) → After (br a y n) q R → After B ((i : Int) :: a :: q) (R ++ B.drop (i + 1))
theorem nth_nat (B : List Stm) (i : Nat) : nth B (i : Int) = B[i]? := by
  unfold nth
  rw [if_pos (by omega), Int.toNat_natCast]
theorem After.ne {B : List Stm} {p : Pl} {R : List Stm} (h : After B p R) : p ≠ [] := by cases h <;> simp
theorem look_in {B : List Stm} {i : Nat} {a : Int} {y n : List Stm} {q : Pl} (h : B[i]? = some (.ch y n)) (ha : a = 0 ∨ a = 1) (hq : q ≠ []) : look B ((i : Int) :: a :: q) = look (br a y n) q := by
  cases q with
  | nil => exact absurd rfl hq
  | cons j r =>
    rw [look, nth_nat, h]
    show sub (.ch y n) (a :: j :: r) = _
    rw [sub, look]
    rcases ha with rfl | rfl
    · rw [if_pos rfl]; rfl
    · rw [if_neg (by decide), if_pos rfl]; rfl
theorem look_one (B : List Stm) (i : Nat) : look B [(i : Int)] = B[i]? := by
  rw [look, nth_nat]
  cases B[i]? <;> rfl
theorem After.step {S : List Stm} {p : Pl} {R : List Stm} (h : After S p R) : ∃ q j, p = q ++ [j] ∧
    ((∃ s R', look S (q ++ [j + 1]) = some s ∧ R = s :: R' ∧ After S (q ++ [j + 1]) R') ∨
     (look S (q ++ [j + 1]) = none ∧ ((q = [] ∧ R = []) ∨ ∃ q' a, q = q' ++ [a] ∧ q' ≠ [] ∧ After S q' R))) := by
  induction h with
  | here B i hi =>
    refine ⟨[], (i : Int), rfl, ?_⟩
    have e : ([] : Pl) ++ [(i : Int) + 1] = [((i + 1 : Nat) : Int)] := by simp
    rw [e, look_one]
    cases g : B[i + 1]? with
    | none =>
      refine .inr ⟨rfl, .inl ⟨rfl, ?_⟩⟩
      rw [List.drop_eq_nil_of_le]
      exact List.getElem?_eq_none_iff.mp g
    | some s =>
      obtain ⟨lt, e1⟩ := List.getElem?_eq_some_iff.mp g
      exact .inl ⟨s, B.drop (i + 1 + 1), rfl, by rw [List.drop_eq_getElem_cons lt, e1], .here B (i + 1) lt⟩
  | inn B i a y n q R hb ha hq ih =>
    obtain ⟨q0, j, e, ih⟩ := ih
    refine ⟨(i : Int) :: a :: q0, j, by rw [e]; rfl, ?_⟩
    have le : look B (((i : Int) :: a :: q0) ++ [j + 1]) = look (br a y n) (q0 ++ [j + 1]) := look_in hb ha (by simp)
    rw [le]
    rcases ih with ⟨s, R', l, eR, af⟩ | ⟨l, ⟨rfl, eR⟩ | ⟨q', a', eq, nq, af⟩⟩
    · exact .inl ⟨s, R' ++ B.drop (i + 1), l, by rw [eR]; rfl, .inn B i a y n _ R' hb ha af⟩
    · refine .inr ⟨l, .inr ⟨[(i : Int)], a, rfl, by simp, ?_⟩⟩
      rw [eR]
      exact .here B i (List.getElem?_eq_some_iff.mp hb).1
    · refine .inr ⟨l, .inr ⟨(i : Int) :: a :: q', a', by rw [eq]; rfl, by simp, ?_⟩⟩
      exact .inn B i a y n q' R hb ha af
theorem After.down {S : List Stm} {p : Pl} {R : List Stm} {y n : List Stm} {a : Int} (h : After S p R) (ha : a = 0 ∨ a = 1) (hn : br a y n ≠ []) :
    look S p = some (.ch y n) → look S (p ++ [a, 0]) = (br a y n)[0]? ∧ After S (p ++ [a, 0]) ((br a y n).drop 1 ++ R) := by
  have first : After (br a y n) [((0 : Nat) : Int)] ((br a y n).drop (0 + 1)) := .here _ 0 (List.length_pos_iff.mpr hn)
  induction h with
  | here B i hi =>
    intro l
    rw [look_one] at l
    refine ⟨?_, .inn B i a y n [0] _ l ha first⟩
    show look B ((i : Int) :: a :: [((0 : Nat) : Int)]) = _
    rw [look_in l ha (by simp), look_one]
  | inn B i a' y' n' q R hb ha' hq ih =>
    intro l
    rw [look_in hb ha' hq.ne] at l
    obtain ⟨l1, af⟩ := ih l
    refine ⟨?_, ?_⟩
    · show look B ((i : Int) :: a' :: (q ++ [a, 0])) = _
      rw [look_in hb ha' (by simp)]
      exact l1
    · rw [← List.append_assoc]
      exact .inn B i a' y' n' _ _ hb ha' af
theorem After.first {S : List Stm} (h : S ≠ []) : look S [0] = S[0]? ∧ After S [0] (S.drop 1) :=
  ⟨look_one S 0, .here S 0 (List.length_pos_iff.mpr h)⟩
theorem okAll_get : ∀ {d : Nat} {B : List Stm} {h : Int} {i : Nat} {s : Stm}, okAll d B h → B[i]? = some s → ∃ h', s.ok d h'
  | d, [], h, i, s, _, e => by simp at e
  | d, t :: r, h, 0, s, g, e => by
    rw [okAll] at g
    have e' : t = s := Option.some.inj e
    exact ⟨h, e' ▸ g.1⟩
  | d, t :: r, h, i + 1, s, g, e => by
    rw [okAll] at g
    exact okAll_get g.2 (i := i) (s := s) e
theorem After.len {S : List Stm} {p : Pl} {R : List Stm} (h : After S p R) : ∀ (d : Nat) (k : Int), okAll d S k → d ≤ 2 → p.length + 2 * d ≤ 5 := by
  induction h with
  | here B i hi => intro d k _ hd; show 1 + 2 * d ≤ 5; omega
  | inn B i a y n q R hb ha hq ih =>
    intro d k g hd
    obtain ⟨h', o⟩ := okAll_get g hb
    rw [Stm.ok] at o
    have z : q.length + 2 * (d + 1) ≤ 5 := by
      rcases ha with rfl | rfl
      · exact ih (d + 1) h' o.2.1 (by omega)
      · exact ih (d + 1) h' o.2.2 (by omega)
    show q.length + 1 + 1 + 2 * d ≤ 5
    omega
/-! ## greater places -/
def Gt (x y : Pl) : Prop := (∃ q i j r s, x = q ++ i :: r ∧ y = q ++ j :: s ∧ j < i) ∨ ∃ c, x = y ++ c ∧ c ≠ []
theorem lexAt_at (e r : Nat → Bool) (z : Bool) (m : Nat) : ∀ (k i : Nat), i ≤ m → m < i + k → (∀ j, i ≤ j → j < m → e j = true) → e m = false → Ob.lexAt e r z i k = r m
  | 0, i, h1, h2, _, _ => by omega
  | k + 1, i, h1, h2, g, b => by
    rw [Ob.lexAt_succ]
    by_cases c : i = m
    · subst c
      rw [b]; rfl
    · rw [g i (Nat.le_refl i) (by omega), if_pos rfl]
      exact lexAt_at e r z m k (i + 1) (by omega) (by omega) (fun j a b => g j (by omega) b) b
theorem lexAt_all (e r : Nat → Bool) (z : Bool) : ∀ (k i : Nat), (∀ j, i ≤ j → j < i + k → e j = true) → Ob.lexAt e r z i k = z
  | 0, i, _ => rfl
  | k + 1, i, g => by
    rw [Ob.lexAt_succ, g i (Nat.le_refl i) (by omega), if_pos rfl]
    exact lexAt_all e r z k (i + 1) (fun j a b => g j (by omega) (by omega))
theorem gt_not_le {x y : Pl} (h : Gt x y) : Ob.lexAt (fun j => decide (x.getD j 0 = y.getD j 0)) (fun j => decide (x.getD j 0 ≤ y.getD j 0)) (decide (x.length ≤ y.length)) 0 (min x.length y.length) = false := by
  rcases h with ⟨q, i, j, r, s, rfl, rfl, lt⟩ | ⟨c, rfl, hc⟩
  · have g1 : ∀ (t : Int) (u : Pl) (k : Nat), k < q.length → (q ++ t :: u).getD k 0 = q.getD k 0 := fun t u k hk => by
      rw [List.getD_eq_getElem?_getD, List.getD_eq_getElem?_getD, List.getElem?_append_left hk]
    have g2 : ∀ (t : Int) (u : Pl), (q ++ t :: u).getD q.length 0 = t := fun t u => by
      rw [List.getD_eq_getElem?_getD, List.getElem?_append_right (Nat.le_refl _), Nat.sub_self]; rfl
    rw [lexAt_at _ _ _ q.length]
    · show decide ((q ++ i :: r).getD q.length 0 ≤ (q ++ j :: s).getD q.length 0) = false
      rw [g2, g2]; exact decide_eq_false (by omega)
    · exact Nat.zero_le _
    · rw [List.length_append, List.length_append, List.length_cons, List.length_cons]; omega
    · intro k _ hk
      show decide ((q ++ i :: r).getD k 0 = (q ++ j :: s).getD k 0) = true
      rw [g1 _ _ k hk, g1 _ _ k hk]; exact decide_eq_true rfl
    · show decide ((q ++ i :: r).getD q.length 0 = (q ++ j :: s).getD q.length 0) = false
      rw [g2, g2]; exact decide_eq_false (by omega)
  · have hl : 0 < c.length := List.length_pos_iff.mpr hc
    rw [lexAt_all]
    · rw [List.length_append]; exact decide_eq_false (by omega)
    · intro k _ hk
      rw [List.length_append] at hk
      have hk' : k < y.length := by omega
      show decide ((y ++ c).getD k 0 = y.getD k 0) = true
      rw [List.getD_eq_getElem?_getD, List.getD_eq_getElem?_getD, List.getElem?_append_left hk']
      exact decide_eq_true rfl
end Tk
set_option maxRecDepth 100000
namespace Tk
open PySem L2
def top (i : Nat) : Stmt := PySem.Challenge.pw_takenahead_k01_script_places.main.body.getD i (.Pass ⟨0, 0, 0, 0⟩)
abbrev sPool : Stmt := top 21
abbrev sDraw : Stmt := top 22
abbrev sNames : Stmt := top 23
abbrev sSimple : Stmt := top 24
abbrev sBranch : Stmt := top 25
abbrev sLaw : Stmt := top 29
/-- the built-in names that the program reads -/
structure Bl (mg : Str → Option Value) : Prop where
  len : mg "len" = none
  int : mg "int" = none
  max : mg "max" = none
  range : mg "range" = none
  tuple : mg "tuple" = none
def spPool (K : PySem.W.Frag) : Sp := fun vs H Q _ => ∃ (a : Addr) (ns : List Int) (k : Int), vs = [.ref a, .int k] ∧ SqL K H a (ns.map V.int) ∧ 0 ≤ k ∧
  ∀ (p : Addr) (H' : Hp), H p = none → Same H H' → PoolAt H' p → Q (.ref p) H'
def spDraw : Sp := fun vs H Q _ => ∃ (p : Addr) (n : Int), vs = [.ref p, .int n] ∧ PoolAt H p ∧ 0 < n ∧ n < 1073741824 ∧
  ∀ (r : Int) (H' : Hp), 0 ≤ r → r < n → Kp p H H' → PoolAt H' p → Q (.int r) H'
section
variable {P : Program} {w : World} {K : PySem.W.Frag} {mg : Str → Option Value} {base : Heap}
theorem scPool : FnScope ["_law_script", "_law_k", "_law_cell"] ["_law_script", "_law_k"] (defScope sPool) := ⟨rfl, rfl, rfl, by decide +kernel, rfl, by decide +kernel, by decide +kernel⟩
theorem ok_pool {f : Addr} {fd : FuncData} (F : Fun K "_law_pool" "_law_pool" sPool f fd) (B : Bl mg) : FnOk P w K mg base CX0 1 f fd ["_law_script", "_law_k"] (spPool K) := by
  refine F.ok scPool (fun vs H Q E h => ?_) (fun cdv A outer s H vs Q E hr h => ?_)
  · obtain ⟨a, ns, k, rfl, _⟩ := h
    rfl
  obtain ⟨a, ns, k, rfl, hS, h0, q⟩ := h
  refine ⟨_, pss_cons (ps_set (i := 2) scPool.nd rfl (Or.inl rfl) (pe_op op_add (pv 1) pe_int))
    (pss_cons (ps_if (pt_cmpR op_lt (pv 1) (pe_callB call_len_seq (by rfl) B.len PySem.boot_len (pa_cons (pv 0) pa_nil)) (nomark _))
      (pss_one (ps_set (i := 2) scPool.nd rfl (Or.inl rfl) (pe_callTy call_int1 (by rfl) B.int (by decide +kernel) (pa_cons (pe_ix ix_list (pv 0) (pv 1) (fun _ _ => rfl)) pa_nil)))) pss_nil)
    (pss_one (ps_ret (pe_lst (pa_cons (pe_callB (call_max2 rfl) (by rfl) B.max (by decide +kernel) (pa_cons pe_int (pa_cons (pe_op op_sub (pv 2) (pe_op op_pow pe_int pe_int)) pa_nil)))
      (pa_cons (pe_op op_modN (pe_callTy call_int1 (by rfl) B.int (by decide +kernel) (pa_cons (pv 2) pa_nil)) pe_int) (pa_cons pe_int pa_nil))))))), ?_⟩
  have fin : ∀ c : Int, ((fun (c : Int) => ∀ (l : Addr), H l = none → Q (.ref l) (L2.upd H l (.lst [.int (if c - 10 ^ (18 : Int).toNat > 0 then c - 10 ^ (18 : Int).toNat else 0), .int (c.fmod 2147483647), .int 0]))) c) := by
    intro c l hl
    exact q l _ hl (same_new hl _) ⟨_, _, _, upd_same⟩
  refine ⟨_, rfl, _, _, rfl, rfl, ?_⟩
  refine ⟨_, rfl, _, rfl, a, _, rfl, .inl hS, _, _, rfl, rfl, _, rfl, ?_⟩
  have tail : ∀ c : Int, _ := fun c => fin c
  refine ite2 (fun c => ?_) (fun c => ?_)
  · have c' : k < (((ns.map V.int).length : Nat) : Int) := of_decide_eq_true c
    rw [List.length_map] at c'
    have hk : k.toNat < ns.length := by omega
    have ek : k = ((k.toNat : Nat) : Int) := by omega
    have q1 : atI (ns.map V.int) ((k.toNat : Nat) : Int) = some (.int ns[k.toNat]) := atI_nat (by rw [List.getElem?_map, List.getElem?_eq_getElem hk] <;> rfl)
    rw [← ek] at q1
    refine ⟨_, rfl, _, rfl, a, _, _, _, rfl, rfl, hS, q1, .inl ⟨_, rfl, ?_⟩⟩
    refine ⟨_, rfl, _, _, rfl, rfl, ⟨by decide, by decide, by decide⟩, _, _, rfl, rfl, _, _, rfl, _, rfl, .inl ⟨_, rfl, _, _, rfl, rfl, (by show (2147483647:Int) ≠ 0; decide), ?_⟩⟩
    exact ⟨by show 3 ≤ sizeLine; decide, fun l hl => fin _ l hl⟩
  · refine ⟨_, rfl, _, _, rfl, rfl, ⟨by decide, by decide, by decide⟩, _, _, rfl, rfl, _, _, rfl, _, rfl, .inl ⟨_, rfl, _, _, rfl, rfl, (by show (2147483647:Int) ≠ 0; decide), ?_⟩⟩
    exact ⟨by show 3 ≤ sizeLine; decide, fun l hl => fin _ l hl⟩
theorem scDraw : FnScope ["_law_pool_here", "_law_amount", "_law_digit", "_law_number"] ["_law_pool_here", "_law_amount"] (defScope sDraw) := ⟨rfl, rfl, rfl, by decide +kernel, rfl, by decide +kernel, by decide +kernel⟩
theorem ok_draw {f : Addr} {fd : FuncData} (F : Fun K "_law_draw" "_law_draw" sDraw f fd) (B : Bl mg) : FnOk P w K mg base CX0 1 f fd ["_law_pool_here", "_law_amount"] spDraw := by
  refine F.ok scDraw (fun vs H Q E h => ?_) (fun cdv A outer s H vs Q E hr h => ?_)
  · obtain ⟨p, n, rfl, _⟩ := h
    rfl
  obtain ⟨p, n, rfl, ⟨a, b, c0, hp⟩, n0, n1, q⟩ := h
  refine ⟨_, pss_cons (ps_if (pt_cmpR op_gt (pe_ix ix_list (pv 0) pe_int (fun _ _ => rfl)) pe_int (nomark _))
      (pss_cons (ps_set (i := 2) scDraw.nd rfl (Or.inl rfl) (pe_op op_modN (pe_callTy call_int1 (by rfl) B.int (by decide +kernel) (pa_cons (pe_ix ix_list (pv 0) pe_int (fun _ _ => rfl)) pa_nil)) (pv 1)))
      (pss_cons (ps_asg (pe_op op_fdivN (pe_ix ix_list (pv 0) pe_int (fun _ _ => rfl)) (pv 1)) (pg_sub (pv 0) pe_int set_list))
      (pss_one (ps_ret (pv 2))))) pss_nil)
    (pss_cons (ps_asg (pe_op op_add (pe_ix ix_list (pv 0) pe_int (fun _ _ => rfl)) pe_int) (pg_sub (pv 0) pe_int set_list))
    (pss_cons (ps_set (i := 3) scDraw.nd rfl (Or.inl rfl) (pe_op op_modN (pe_callTy call_int1 (by rfl) B.int (by decide +kernel) (pa_cons
        (pe_op op_mul (pe_op op_add (pe_op op_add (pe_ix ix_list (pv 0) pe_int (fun _ _ => rfl)) (pe_op op_mul pe_int (pe_ix ix_list (pv 0) pe_int (fun _ _ => rfl)))) pe_int) pe_int) pa_nil)) pe_int))
    (pss_cons (ps_set (i := 3) scDraw.nd rfl (Or.inl rfl) (pe_op op_modN (pe_callTy call_int1 (by rfl) B.int (by decide +kernel) (pa_cons
        (pe_op op_mul (pv 3) (pe_op op_add (pe_op op_fdivN (pv 3) pe_int) pe_int)) pa_nil)) pe_int))
    (pss_cons (ps_set (i := 3) scDraw.nd rfl (Or.inl rfl) (pe_op op_modN (pe_callTy call_int1 (by rfl) B.int (by decide +kernel) (pa_cons
        (pe_op op_mul (pv 3) (pe_op op_add (pe_op op_fdivN (pv 3) pe_int) pe_int)) pa_nil)) pe_int))
    (pss_one (ps_ret (pe_op op_modN (pe_callTy call_int1 (by rfl) B.int (by decide +kernel) (pa_cons (pv 3) pa_nil)) (pv 1)))))))), ?_⟩
  refine ⟨_, rfl, p, _, _, _, rfl, rfl, SqL.of hp, rfl, _, _, rfl, rfl, _, rfl, ?_⟩
  refine ite2 (fun c => ?_) (fun c => ?_)
  · refine ⟨_, rfl, p, _, _, _, rfl, rfl, SqL.of hp, rfl, .inl ⟨_, rfl, _, rfl, _, _, rfl, rfl, by omega, ?_⟩⟩
    refine ⟨_, rfl, p, _, _, _, rfl, rfl, SqL.of hp, rfl, _, rfl, _, _, rfl, rfl, ⟨by omega, by omega⟩, _, rfl, p, _, _, _, rfl, rfl, hp, rfl, ?_⟩
    exact ⟨_, rfl, q _ _ (fmod_ok n0).1 (fmod_ok n0).2 Kp.upd ⟨_, _, _, upd_same⟩⟩
  · refine ⟨_, rfl, p, _, _, _, rfl, rfl, SqL.of hp, rfl, _, _, rfl, rfl, _, rfl, p, _, _, _, rfl, rfl, hp, rfl, ?_⟩
    refine ⟨_, rfl, p, _, _, _, rfl, rfl, SqL.of upd_same, rfl, _, rfl, p, _, _, _, rfl, rfl, SqL.of upd_same, rfl, _, _, rfl, rfl, .inl ⟨by decide, by decide⟩, _, _, rfl, rfl, _, _, rfl, rfl,
      _, _, rfl, rfl, .inr ⟨by decide, by decide⟩, .inl ⟨_, rfl, _, _, rfl, rfl, (by show (2147483647:Int) ≠ 0; decide), ?_⟩⟩
    have r1 := fmod_ok (a := (b + 7919 * (c0 + 1) + 1) * 48271) (n := 2147483647) (by decide)
    refine ⟨_, rfl, _, rfl, _, _, rfl, rfl, ⟨by decide, by decide⟩, _, _, rfl, rfl, _, _, rfl, rfl, .inl ⟨by omega, by omega⟩, .inl ⟨_, rfl, _, _, rfl, rfl, (by show (2147483647:Int) ≠ 0; decide), ?_⟩⟩
    have r2 := fmod_ok (a := (((b + 7919 * (c0 + 1) + 1) * 48271).fmod 2147483647) * ((((b + 7919 * (c0 + 1) + 1) * 48271).fmod 2147483647).fdiv 1009 + 69621)) (n := 2147483647) (by decide)
    refine ⟨_, rfl, _, rfl, _, _, rfl, rfl, ⟨by decide, by decide⟩, _, _, rfl, rfl, _, _, rfl, rfl, .inl ⟨by omega, by omega⟩, .inl ⟨_, rfl, _, _, rfl, rfl, (by show (2147483399:Int) ≠ 0; decide), ?_⟩⟩
    refine ⟨_, rfl, .inl ⟨_, rfl, _, rfl, _, _, rfl, rfl, by omega, ?_⟩⟩
    exact q _ _ (fmod_ok n0).1 (fmod_ok n0).2 Kp.upd ⟨_, _, _, upd_same⟩
/-- a list of texts that are names -/
def spNames : Sp := fun vs H Q _ => ∃ p : Addr, vs = [.ref p] ∧ PoolAt H p ∧ ∀ (q : Addr) (H' : Hp), H q = none → Kp p H H' → PoolAt H' p → NamesAt H' q → Q (.ref q) H'
theorem scNames : FnScope ["_law_pool_here", "_law_letters", "_law_base", "_law_k", "_law_at", "_law_first", "_law_signs", "_law_sign"] ["_law_pool_here"] (defScope sNames) := ⟨rfl, rfl, rfl, by decide +kernel, rfl, by decide +kernel, by decide +kernel⟩
theorem ok_names {f fD : Addr} {fd fdD : FuncData} (F : Fun K "_law_names" "_law_names" sNames f fd) (B : Bl mg) (GD : FnOk P w K mg base CX0 1 fD fdD ["_law_pool_here", "_law_amount"] spDraw) (bD : Binds K fdD ["_law_pool_here", "_law_amount"] []) (kD : PySem.W.keepIn K (.ref fD) = true) (mD : mg "_law_draw" = some (.ref fD)) :
    FnOk P w K mg base CX0 2 f fd ["_law_pool_here"] spNames := by
  refine F.ok scNames (fun vs H Q E h => ?_) (fun cdv A outer s H vs Q E hr h => ?_)
  · obtain ⟨p, rfl, _⟩ := h
    rfl
  obtain ⟨p, rfl, hp, q⟩ := h
  refine ⟨_, pss_cons (ps_set (i := 1) scNames.nd rfl (Or.inr rfl) pe_str)
    (pss_cons (ps_set (i := 2) scNames.nd rfl (Or.inr rfl) pe_str)
    (pss_cons (ps_for PassesOwn.never rfl (pi_range1 rfl B.range (pa_cons (pe_call GD hr rfl mD kD bD .nil pass0 (pa_cons (pv 0) (pa_cons pe_int pa_nil))) pa_nil)) (pg_name (i := 3) scNames.nd rfl (Or.inl rfl))
      (pss_one (ps_set (i := 2) scNames.nd rfl (Or.inr rfl) (pe_op op_add_str (pv 2) (pe_ix ix_str (pv 1) (pe_call GD hr rfl mD kD bD .nil pass0 (pa_cons (pv 0) (pa_cons pe_int pa_nil))) (fun _ _ => rfl))))))
    (pss_cons (ps_set (i := 4) scNames.nd rfl (Or.inr rfl) (pe_call GD hr rfl mD kD bD .nil pass0 (pa_cons (pv 0) (pa_cons (pe_op op_add (pe_callB call_len_str (by rfl) B.len PySem.boot_len (pa_cons (pv 2) pa_nil)) pe_int) pa_nil))))
    (pss_cons (ps_set (i := 5) scNames.nd rfl (Or.inl rfl) (pe_call GD hr rfl mD kD bD .nil pass0 (pa_cons (pv 0) (pa_cons pe_int pa_nil))))
    (pss_cons (ps_set (i := 6) scNames.nd rfl (Or.inl rfl) (pe_lst (pa_cons (pv 5)
      (pa_cons (pe_op op_modN (pe_callTy call_int1 (by rfl) B.int (by decide +kernel) (pa_cons (pe_op op_add (pe_op op_add (pv 5) pe_int) (pe_call GD hr rfl mD kD bD .nil pass0 (pa_cons (pv 0) (pa_cons pe_int pa_nil)))) pa_nil)) pe_int)
      (pa_cons (pe_op op_modN (pe_callTy call_int1 (by rfl) B.int (by decide +kernel) (pa_cons (pe_op op_add (pe_op op_add (pv 5) pe_int) (pe_call GD hr rfl mD kD bD .nil pass0 (pa_cons (pv 0) (pa_cons pe_int pa_nil)))) pa_nil)) pe_int) pa_nil)))))
    (pss_one (ps_ret (pe_lc (own := [("_law_sign", 7)]) (g := gName 7) (tt := tYes) rfl scNames.nd (pi_list (pv 6)) (blkOk_by (own := [("_law_sign", 7)]) (N := ["_law_pool_here", "_law_letters", "_law_base", "_law_k", "_law_at", "_law_first", "_law_signs", "_law_sign"]) (sc := defScope sNames) (by decide +kernel))
      (fun _ _ _ _ _ => pg_name (i := 7) scNames.nd rfl (Or.inl rfl)) (fun _ _ _ _ _ => pts_nil)
      (fun _ _ _ _ _ => pe_op op_add_str (pe_op op_add_str (pe_slice sl_str (pv 2) po_none (po_some (pv 4))) (pe_ix ix_str (pv 1) (pv 7) (fun _ _ => rfl))) (pe_slice sl_str (pv 2) (po_some (pv 4)) po_none)))))))))), ?_⟩
  refine ⟨_, rfl, p, 8, rfl, hp, by decide, by decide, fun r H1 r0 r1 k1 hp1 => ⟨r, rfl, by omega, by omega, ?_⟩⟩
  refine for_range (lo := 0) (n := r.toNat) (fun i σ H2 => ∃ (b : Str) (v : Option V), σ = [some (.ref p), some (.str alpha), some (.str b), v, none, none, none, none] ∧ Low b ∧ b.length = i ∧ Kp p H H2 ∧ PoolAt H2 p) ⟨_, _, rfl, low_nil, rfl, k1, hp1⟩ ?_ ?_
  · rintro i σ H2 hi ⟨b, v, rfl, hb, hl, k2, hp2⟩
    refine ⟨_, rfl, _, rfl, _, rfl, p, 26, rfl, hp2, by decide, by decide, fun r2 H3 r20 r21 k3 hp3 => ?_⟩
    obtain ⟨c, hc, hc2⟩ := alpha_at r20 r21
    refine ⟨_, _, c, rfl, rfl, (by show 26 ≤ sizeLine; decide), hc, _, _, rfl, rfl, ?_, ?_⟩
    · show b.length + 1 ≤ sizeLine
      exact Nat.le_of_lt (small1000 (by omega))
    · refine ⟨_, _, rfl, low_app hb (low_one hc2), ?_, k2.trans k3, hp3⟩
      rw [len_app, len_one, hl]
  · rintro σ H2 ⟨b, v, rfl, hb, hl, k2, hp2⟩
    have hl7 : b.length ≤ 7 := by omega
    have hsz : b.length ≤ sizeLine := Nat.le_of_lt (small1000 (by omega))
    refine ⟨_, rfl, _, rfl, _, rfl, hsz, _, _, rfl, rfl, p, _, rfl, hp2, by omega, by omega, fun at_ H3 a0 a1 k3 hp3 => ?_⟩
    refine ⟨_, rfl, p, 26, rfl, hp3, by decide, by decide, fun f1 H4 f0 f1' k4 hp4 => ?_⟩
    refine ⟨_, rfl, _, rfl, _, _, rfl, rfl, _, rfl, p, 12, rfl, hp4, by decide, by decide, fun d1 H5 d0 d1' k5 hp5 => ?_⟩
    refine ⟨_, _, rfl, rfl, .inl ⟨_, rfl, _, _, rfl, rfl, (by show (26:Int) ≠ 0; decide), ?_⟩⟩
    refine ⟨_, rfl, _, _, rfl, rfl, _, rfl, p, 12, rfl, hp5, by decide, by decide, fun d2 H6 d20 d21 k6 hp6 => ?_⟩
    refine ⟨_, _, rfl, rfl, .inl ⟨_, rfl, _, _, rfl, rfl, (by show (26:Int) ≠ 0; decide), ?_⟩⟩
    refine ⟨(by show 3 ≤ sizeLine; decide), fun l hl0 => ?_⟩
    have s1 : ∀ n : Int, 0 ≤ n.fmod 26 ∧ n.fmod 26 < 26 := fun n => fmod_ok (by decide)
    have kAll : Kp p H H6 := ((((k2.trans k3).trans k4).trans k5).trans k6)
    have hpl : H6 p ≠ none := by obtain ⟨_, _, _, z⟩ := hp6; rw [z]; intro z'; cases z'
    have npl : p ≠ l := fun z => hpl (z ▸ hl0)
    refine ⟨_, rfl, l, rfl, ⟨_, SqL.of upd_same⟩, fun D hD => ?_⟩
    have nDl : l ≠ D := ne_of_none upd_same hD
    have hD6 : H6 D = none := by rw [upd_ne nDl.symm] at hD; exact hD
    have npD : p ≠ D := fun z => hpl (z ▸ hD6)
    have hD0 : H D = none := by
      cases e : H D with
      | none => rfl
      | some o =>
        have z := kAll D o e npD.symm
        rw [hD6] at z; cases z
    refine lc_list (K := K) (a := l) (xs := [.int f1, .int ((f1 + 1 + d1).fmod 26), .int ((f1 + 14 + d2).fmod 26)]) (fun i H7 => ∃ acc : List V, H7 D = some (.lst acc) ∧ acc.length = i ∧ (∀ v ∈ acc, ∃ z, v = V.str z ∧ IsName z) ∧
      H7 l = some (.lst [.int f1, .int ((f1 + 1 + d1).fmod 26), .int ((f1 + 14 + d2).fmod 26)]) ∧ Kp p H H7 ∧ PoolAt H7 p) ?_ ?_ ?_ ?_
    · refine ⟨[], upd_same, rfl, fun v hv => (nomatch hv), by rw [upd_ne nDl]; exact upd_same, (kAll.new hl0).new hD, ?_⟩
      obtain ⟨a, b', c, z⟩ := hp6
      exact ⟨a, b', c, by rw [upd_ne npD, upd_ne npl]; exact z⟩
    · rintro i H7 hi ⟨acc, h1, h2, h3, h4, h5, h6⟩
      exact SqL.of h4
    · rintro i x H7 hx ⟨acc, h1, h2, h3, h4, h5, h6⟩
      have hi3 : i < 3 := (List.getElem?_eq_some_iff.mp hx).1
      obtain ⟨n, rfl, n0, n1⟩ : ∃ n, x = V.int n ∧ 0 ≤ n ∧ n < 26 := by
        have hm := List.mem_of_getElem? hx
        simp only [List.mem_cons, List.not_mem_nil, or_false] at hm
        rcases hm with e | e | e
        · exact ⟨_, e, f0, f1'⟩
        · exact ⟨_, e, s1 _⟩
        · exact ⟨_, e, s1 _⟩
      obtain ⟨c, hc, hc2⟩ := alpha_at n0 n1
      have hnm := isName_mk (k := at_) hb hl7 hc2 a0 (by omega)
      refine ⟨rfl, ?_⟩
      unfold tYes
      dsimp only
      rw [if_pos rfl]
      refine ⟨_, rfl, _, rfl, _, rfl, _, rfl, hsz, _, rfl, _, rfl, _, _, c, rfl, rfl, (by show 26 ≤ sizeLine; decide), hc, _, _, rfl, rfl, ?_, ?_⟩
      · have z := hnm.2.1
        rw [len_app, len_app] at z
        exact Nat.le_of_lt (small1000 (by omega))
      refine ⟨_, rfl, _, rfl, _, rfl, _, rfl, hsz, _, _, rfl, rfl, ?_, acc, h1, ?_, ?_⟩
      · have z := hnm.2.1
        rw [len_app] at z
        exact Nat.le_of_lt (small1000 (by omega))
      · rw [h2]; exact small1000 (by omega)
      · refine ⟨_, upd_same, by rw [List.length_append, h2]; rfl, fun v hv => ?_, by rw [upd_ne nDl]; exact h4, ?_, ?_⟩
        · rcases List.mem_append.mp hv with z | z
          · exact h3 v z
          · have e : v = _ := List.mem_singleton.mp z
            exact ⟨_, e, hnm⟩
        · intro b' o e hne
          rw [upd_ne (ne_of_none e hD0)]
          exact h5 b' o e hne
        · obtain ⟨a, b', c', z⟩ := h6
          exact ⟨a, b', c', by rw [upd_ne npD]; exact z⟩
    · rintro H7 ⟨acc, h1, h2, h3, h4, h5, h6⟩
      refine q D H7 hD0 h5 h6 ?_
      match acc, h2, h3 with
      | [u, v, t], _, h3 =>
        obtain ⟨x, rfl, hx⟩ := h3 u (by simp)
        obtain ⟨y, rfl, hy⟩ := h3 v (by simp)
        obtain ⟨z, rfl, hz⟩ := h3 t (by simp)
        exact ⟨x, y, z, h1, hx, hy, hz⟩
def spSimple : Sp := fun vs H Q _ => ∃ (p b q : Addr) (k h : Int), vs = [.ref p, .ref b, .ref q] ∧ Dr H p b q k h ∧ 0 ≤ h ∧ h ≤ 3 ∧
  ∀ (v : V) (H' : Hp) (s : Stm), s.cnt = 1 → (∀ d, s.ok d h) → s.at H' v → 0 ≤ s.held h → s.held h ≤ 3 → Dr H' p b q k (s.held h) → K2 p b H H' → Q v H'
theorem scSimple : FnScope ["_law_pool_here", "_law_box", "_law_names_here", "_law_pick"] ["_law_pool_here", "_law_box", "_law_names_here"] (defScope sSimple) := ⟨rfl, rfl, rfl, by decide +kernel, rfl, by decide +kernel, by decide +kernel⟩
theorem ok_simple {f fD : Addr} {fd fdD : FuncData} (F : Fun K "_law_simple" "_law_simple" sSimple f fd) (B : Bl mg) (GD : FnOk P w K mg base CX0 1 fD fdD ["_law_pool_here", "_law_amount"] spDraw) (bD : Binds K fdD ["_law_pool_here", "_law_amount"] []) (kD : PySem.W.keepIn K (.ref fD) = true) (mD : mg "_law_draw" = some (.ref fD)) :
    FnOk P w K mg base CX0 2 f fd ["_law_pool_here", "_law_box", "_law_names_here"] spSimple := by
  refine F.ok scSimple (fun vs H Q E h => ?_) (fun cdv A outer s H vs Q E hr h => ?_)
  · obtain ⟨p, b, q, k, h, rfl, _⟩ := h
    rfl
  obtain ⟨p, b, q, k, h, rfl, D, h0, h3, z⟩ := h
  refine ⟨_, pss_cons (ps_set (i := 3) scSimple.nd rfl (Or.inl rfl) (pe_call GD hr rfl mD kD bD .nil pass0 (pa_cons (pv 0) (pa_cons pe_int pa_nil))))
    (pss_cons (ps_if (PW.pt (pw_and (pt_cmpR op_lt (pv 3) pe_int (nomark _)) (pw_and1 (pt_cmpR op_lt (pe_ix ix_list (pv 1) pe_int (fun _ _ => rfl)) (pe_ix ix_list (pv 1) pe_int (fun _ _ => rfl)) (nomark _)))))
      (pss_cons (ps_asg (pe_op op_add (pe_ix ix_list (pv 1) pe_int (fun _ _ => rfl)) pe_int) (pg_sub (pv 1) pe_int set_list)) (pss_one (ps_ret (pe_tup (pa_cons pe_str pa_nil))))) pss_nil)
    (pss_cons (ps_if (pt_cmpR op_eq (pv 3) pe_int (nomark _)) (pss_one (ps_ret (pe_tup (pa_cons pe_str (pa_cons (pe_ix ix_list (pv 2) (pe_call GD hr rfl mD kD bD .nil pass0 (pa_cons (pv 0) (pa_cons pe_int pa_nil))) (fun _ _ => rfl)) pa_nil))))) pss_nil)
    (pss_cons (ps_if (pt_cmpR op_eq (pv 3) pe_int (nomark _)) (pss_one (ps_ret (pe_tup (pa_cons pe_str (pa_cons (pe_ix ix_list (pv 2) (pe_call GD hr rfl mD kD bD .nil pass0 (pa_cons (pv 0) (pa_cons pe_int pa_nil))) (fun _ _ => rfl)) pa_nil))))) pss_nil)
    (pss_cons (ps_if (pt_cmpR op_eq (pv 3) pe_int (nomark _)) (pss_one (ps_ret (pe_tup (pa_cons pe_str pa_nil)))) pss_nil)
    (pss_cons (ps_asg pe_int (pg_sub (pv 1) pe_int set_list))
    (pss_cons (ps_if (pt_cmpR op_eq (pv 3) pe_int (nomark _)) (pss_one (ps_ret (pe_tup (pa_cons pe_str pa_nil)))) pss_nil)
    (pss_cons (ps_if (pt_cmpR op_eq (pv 3) pe_int (nomark _)) (pss_one (ps_ret (pe_tup (pa_cons pe_str pa_nil)))) pss_nil)
    (pss_one (ps_ret (pe_tup (pa_cons pe_str pa_nil))))))))))), ?_⟩
  refine ⟨_, rfl, p, 13, rfl, D.pool, by decide, by decide, fun r H1 r0 r1 k1 hp1 => ?_⟩
  have D1 := D.draw k1 hp1
  have one : ∀ (H2 : Hp) (w : Wd) (h' : Int), Dr H2 p b q k h' → K2 p b H H2 → w.held h = h' → 0 ≤ h' → h' ≤ 3 → (w = .take → h ≠ 3) → ∀ t, H2 t = none → Q (.ref t) (L2.upd H2 t (.tup [.str w.s])) := by
    intro H2 w h' D2 k2 e hh0 hh3 hw t ht
    have eh : (Stm.one w).held h = h' := by rw [Stm.held]; exact e
    refine z _ _ (.one w) (by rw [Stm.cnt]) (fun d => by rw [Stm.ok]; exact hw) (by rw [Stm.at]; exact ⟨t, rfl, upd_same⟩) (by rw [eh]; exact hh0) (by rw [eh]; exact hh3) (by rw [eh]; exact D2.new ht) (k2.new ht)
  have nam : ∀ (bb : Bool), (tRet (tTup (tCons (tC (.str (lockS bb))) (tCons (tOp (rIxL K) (tVar 2) (tCall spDraw [] E0 (tCons (tVar 0) (tCons (tC (.int 2)) tNil)))) tNil)))) { nx := fun _ H' => Q .non H', rt := Q } [some (.ref p), some (.ref b), some (.ref q), some (.int r)] H1 := by
    intro bb
    refine ⟨_, rfl, _, rfl, p, 2, rfl, hp1, by decide, by decide, fun r2 H2 r20 r21 k2 hp2 => ?_⟩
    have D2 := D1.draw k2 hp2
    obtain ⟨xs, n, hq, hat, hn⟩ := names_at D2.names r20 (by omega)
    refine ⟨q, xs, _, _, rfl, rfl, SqL.of hq, hat, (by show 2 ≤ sizeLine; decide), fun t ht => ?_⟩
    have eh : (Stm.nam bb n).held h = h := by rw [Stm.held]
    exact z _ _ (.nam bb n) (by rw [Stm.cnt]) (fun d => by rw [Stm.ok]; exact hn) (by rw [Stm.at]; exact ⟨t, rfl, upd_same⟩) (by rw [eh]; exact h0) (by rw [eh]; exact h3) (by rw [eh]; exact D2.new ht) (((Kp.k2 k1).trans (Kp.k2 k2)).new ht)
  have put := @Dr.put H1 p b q k h
  have u2 : ∀ h', K2 p b H (L2.upd H1 b (.lst [.int k, .int h', .int 3])) := fun h' => (Kp.k2 k1).trans K2.upd
  refine ⟨_, rfl, _, _, rfl, rfl, _, rfl, ?_⟩
  refine ite2 (fun c => ?_) (fun c => ?_)
  · refine ⟨_, rfl, b, _, _, _, rfl, rfl, SqL.of D1.box, rfl, _, rfl, b, _, _, _, rfl, rfl, SqL.of D1.box, rfl, _, _, rfl, rfl, _, rfl, ?_⟩
    refine ite2 (fun c' => ?_) (fun c' => ?_)
    · have c2 : h < 3 := of_decide_eq_true c'
      refine ⟨_, rfl, b, _, _, _, rfl, rfl, SqL.of D1.box, rfl, _, _, rfl, rfl, _, rfl, b, _, _, _, rfl, rfl, D1.box, rfl, ?_⟩
      exact ⟨by show 1 ≤ sizeLine; decide, fun t ht => one _ .take (h + 1) (put D1) (u2 _) rfl (by omega) (by omega) (fun _ => by omega) t ht⟩
    · refine ⟨_, rfl, rfl, _, rfl, ?_⟩
      refine ite2 (fun _ => nam true) (fun _ => ?_)
      refine ⟨_, rfl, rfl, _, rfl, ?_⟩
      refine ite2 (fun _ => nam false) (fun _ => ?_)
      refine ⟨_, rfl, rfl, _, rfl, ?_⟩
      refine ite2 (fun _ => ⟨by show 1 ≤ sizeLine; decide, fun t ht => one _ .drop h D1 (Kp.k2 k1) rfl h0 h3 (fun e => nomatch e) t ht⟩) (fun _ => ?_)
      refine ⟨_, rfl, b, _, _, _, rfl, rfl, D1.box, rfl, ?_⟩
      refine ⟨_, rfl, rfl, _, rfl, ?_⟩
      refine ite2 (fun _ => ⟨by show 1 ≤ sizeLine; decide, fun t ht => one _ .rollback 0 (put D1) (u2 _) rfl (by omega) (by omega) (fun e => nomatch e) t ht⟩) (fun _ => ?_)
      refine ⟨_, rfl, rfl, _, rfl, ?_⟩
      refine ite2 (fun _ => ⟨by show 1 ≤ sizeLine; decide, fun t ht => one _ .leave 0 (put D1) (u2 _) rfl (by omega) (by omega) (fun e => nomatch e) t ht⟩) (fun _ => ?_)
      exact ⟨by show 1 ≤ sizeLine; decide, fun t ht => one _ .commit 0 (put D1) (u2 _) rfl (by omega) (by omega) (fun e => nomatch e) t ht⟩
  · refine ⟨_, rfl, rfl, _, rfl, ?_⟩
    refine ite2 (fun _ => nam true) (fun _ => ?_)
    refine ⟨_, rfl, rfl, _, rfl, ?_⟩
    refine ite2 (fun _ => nam false) (fun _ => ?_)
    refine ⟨_, rfl, rfl, _, rfl, ?_⟩
    refine ite2 (fun _ => ⟨by show 1 ≤ sizeLine; decide, fun t ht => one _ .drop h D1 (Kp.k2 k1) rfl h0 h3 (fun e => nomatch e) t ht⟩) (fun _ => ?_)
    refine ⟨_, rfl, b, _, _, _, rfl, rfl, D1.box, rfl, ?_⟩
    refine ⟨_, rfl, rfl, _, rfl, ?_⟩
    refine ite2 (fun _ => ⟨by show 1 ≤ sizeLine; decide, fun t ht => one _ .rollback 0 (put D1) (u2 _) rfl (by omega) (by omega) (fun e => nomatch e) t ht⟩) (fun _ => ?_)
    refine ⟨_, rfl, rfl, _, rfl, ?_⟩
    refine ite2 (fun _ => ⟨by show 1 ≤ sizeLine; decide, fun t ht => one _ .leave 0 (put D1) (u2 _) rfl (by omega) (by omega) (fun e => nomatch e) t ht⟩) (fun _ => ?_)
    exact ⟨by show 1 ≤ sizeLine; decide, fun t ht => one _ .commit 0 (put D1) (u2 _) rfl (by omega) (by omega) (fun e => nomatch e) t ht⟩
abbrev psB : List Str := ["_law_pool_here", "_law_box", "_law_names_here", "_law_length", "_law_depth"]
def spBranch (m : Nat) : Sp := fun vs H Q _ => ∃ (p b q : Addr) (n k h : Int) (d : Nat), vs = [.ref p, .ref b, .ref q, .int n, .int (d : Nat)] ∧ d + m = 3 ∧ d ≤ 2 ∧ Dr H p b q k h ∧ 0 ≤ n ∧ n ≤ 9 ∧ 0 ≤ k ∧ k ≤ 8 ∧ 0 ≤ h ∧ h ≤ 3 ∧
  ∀ (t : Addr) (H' : Hp) (xs : List V) (S : List Stm), H' t = some (.tup xs) → atAll H' xs S → okAll d S h → (cntAll S : Int) ≤ k → 0 ≤ heldAll S h → heldAll S h ≤ 3 → (0 < n → 0 < k → S ≠ []) →
    Dr H' p b q (k - cntAll S) (heldAll S h) → K2 p b H H' → Q (.ref t) H'
theorem max_if (a b : Int) : (if b > a then b else a) = max a b := by
  by_cases h : b > a
  · rw [if_pos h]; omega
  · rw [if_neg h]; omega
/-- what holds behind i turns of the loop that makes a branch -/
def BrI (H : Hp) (p b q R : Addr) (n k h : Int) (d : Nat) (i : Nat) (σ : St) (H2 : Hp) : Prop :=
  ∃ (S : List Stm) (xs : List V) (v6 v7 v8 v9 v10 : Option V), σ = [some (.ref p), some (.ref b), some (.ref q), some (.int n), some (.int (d : Nat)), some (.ref R), v6, v7, v8, v9, v10] ∧
    H2 R = some (.lst xs) ∧ atAll H2 xs S ∧ okAll d S h ∧ (cntAll S : Int) ≤ k ∧ 0 ≤ heldAll S h ∧ heldAll S h ≤ 3 ∧ (0 < i → 0 < k → S ≠ []) ∧ Dr H2 p b q (k - cntAll S) (heldAll S h) ∧ R ≠ p ∧ R ≠ b ∧ K2 p b H H2
theorem heldAll_snoc (S : List Stm) (s : Stm) (h : Int) : heldAll (S ++ [s]) h = s.held (heldAll S h) := by
  rw [heldAll_app, heldAll, heldAll]
theorem cntAll_snoc (S : List Stm) (s : Stm) : cntAll (S ++ [s]) = cntAll S + s.cnt := by
  rw [cntAll_app, cntAll, cntAll]; rfl
theorem okAll_snoc {d : Nat} {S : List Stm} {s : Stm} {h : Int} (a : okAll d S h) (b : s.ok d (heldAll S h)) : okAll d (S ++ [s]) h := by
  refine okAll_app d S [s] h a ?_
  rw [okAll, okAll]
  exact ⟨b, trivial⟩
theorem BrI.more {H H4 : Hp} {p b q R : Addr} {n k h : Int} {d i : Nat} {S : List Stm} {xs : List V} {v : V} {s : Stm} {v6 v7 v8 v9 v10 : Option V} (hR : H R = none) (n1 : R ≠ p) (n2 : R ≠ b) (nq : R ≠ q) (hS : atAll H4 xs S) (okS : okAll d S h)
    (h4 : H4 R = some (.lst xs)) (hs : s.at H4 v) (ok : s.ok d (heldAll S h)) (hc : (cntAll S : Int) + s.cnt ≤ k) (h0 : 0 ≤ s.held (heldAll S h)) (h3 : s.held (heldAll S h) ≤ 3) (D : Dr H4 p b q (k - cntAll S - s.cnt) (s.held (heldAll S h))) (f : K2 p b H H4) :
    BrI H p b q R n k h d (i + 1) [some (.ref p), some (.ref b), some (.ref q), some (.int n), some (.int (d : Nat)), some (.ref R), v6, v7, v8, v9, v10] (L2.upd H4 R (.lst (xs ++ [v]))) := by
  have tk : TK H4 (L2.upd H4 R (.lst (xs ++ [v]))) := fun a ys e => by rw [upd_ne (ne_of e h4 (by intro z; cases z))]; exact e
  refine ⟨S ++ [s], xs ++ [v], v6, v7, v8, v9, v10, rfl, upd_same, atAll_app (atAll_keep tk S xs hS) (atAll_one (Stm.at_keep tk s v hs)), okAll_snoc okS ok, ?_, ?_, ?_, fun _ _ => by simp, ?_, n1, n2, ?_⟩
  · rw [cntAll_snoc]; omega
  · rw [heldAll_snoc]; exact h0
  · rw [heldAll_snoc]; exact h3
  · rw [heldAll_snoc]
    have e : k - ((cntAll (S ++ [s]) : Nat) : Int) = k - cntAll S - s.cnt := by rw [cntAll_snoc]; omega
    rw [e]
    obtain ⟨⟨x, y, z, hp⟩, hb, ⟨a1, a2, a3, hq, m⟩, e1, e2, e3⟩ := D
    exact ⟨⟨x, y, z, by rw [upd_ne n1.symm]; exact hp⟩, by unfold BoxAt; rw [upd_ne n2.symm]; exact hb, ⟨a1, a2, a3, by rw [upd_ne nq.symm]; exact hq, m⟩, e1, e2, e3⟩
  · intro a o e m m'
    rw [upd_ne (ne_of_none e hR)]
    exact f a o e m m'
theorem scBranch : FnScope ["_law_pool_here", "_law_box", "_law_names_here", "_law_length", "_law_depth", "_law_rows", "_law_k", "_law_before", "_law_yes", "_law_after", "_law_no"] psB (defScope sBranch) := ⟨rfl, rfl, rfl, by decide +kernel, rfl, by decide +kernel, by decide +kernel⟩
theorem ok_branch {m : Nat} {f fD fS : Addr} {fd fdD fdS : FuncData} (F : Fun K "_law_branch" "_law_branch" sBranch f fd) (B : Bl mg) (GD : FnOk P w K mg base CX0 1 fD fdD ["_law_pool_here", "_law_amount"] spDraw) (bD : Binds K fdD ["_law_pool_here", "_law_amount"] []) (kD : PySem.W.keepIn K (.ref fD) = true) (mD : mg "_law_draw" = some (.ref fD))
    (GS : FnOk P w K mg base CX0 2 fS fdS ["_law_pool_here", "_law_box", "_law_names_here"] spSimple) (bS : Binds K fdS ["_law_pool_here", "_law_box", "_law_names_here"] []) (kS : PySem.W.keepIn K (.ref fS) = true) (mS : mg "_law_simple" = some (.ref fS))
    (GB : FnOk P w K mg base CX0 (2 + m) f fd psB (spBranch m)) (bB : Binds K fd psB []) (mB : mg "_law_branch" = some (.ref f)) :
    FnOk P w K mg base CX0 (2 + m + 1) f fd psB (spBranch (m + 1)) := by
  have kB := F.kp
  refine F.ok scBranch (fun vs H Q E h => ?_) (fun cdv A outer s H vs Q E hr h => ?_)
  · obtain ⟨p, b, q, n, k, h, d, rfl, _⟩ := h
    rfl
  obtain ⟨p, b, q, n, k, h, d, rfl, hd3, hd2, D, n0, n9, k0, k8, h0, h3, z⟩ := h
  have hr1 : Room 1 _ := hr.mono (by omega)
  have hr2 : Room 2 _ := hr.mono (by omega)
  refine ⟨_, pss_cons (ps_set (i := 5) scBranch.nd rfl (Or.inl rfl) (pe_lst pa_nil))
    (pss_cons (ps_for PassesOwn.never rfl (pi_range1 rfl B.range (pa_cons (pv 3) pa_nil)) (pg_name (i := 6) scBranch.nd rfl (Or.inl rfl))
      (pss_one (ps_if (pt_cmpR op_gt (pe_ix ix_list (pv 1) pe_int (fun _ _ => rfl)) pe_int (nomark _))
        (pss_cons (ps_asg (pe_op op_sub (pe_ix ix_list (pv 1) pe_int (fun _ _ => rfl)) pe_int) (pg_sub (pv 1) pe_int set_list))
        (pss_one (ps_if (PW.pt (pw_and (pt_cmpR op_lt (pv 4) pe_int (nomark _)) (pw_and1 (pt_cmpR op_eq (pe_call GD hr1 rfl mD kD bD .nil pass0 (pa_cons (pv 0) (pa_cons pe_int pa_nil))) pe_int (nomark _)))))
          (pss_cons (ps_set (i := 7) scBranch.nd rfl (Or.inl rfl) (pe_ix ix_list (pv 1) pe_int (fun _ _ => rfl)))
          (pss_cons (ps_set (i := 8) scBranch.nd rfl (Or.inl rfl) (pe_call GB hr rfl mB kB bB .nil pass0 (pa_cons (pv 0) (pa_cons (pv 1) (pa_cons (pv 2) (pa_cons (pe_call GD hr1 rfl mD kD bD .nil pass0 (pa_cons (pv 0) (pa_cons pe_int pa_nil))) (pa_cons (pe_op op_add (pv 4) pe_int) pa_nil)))))))
          (pss_cons (ps_set (i := 9) scBranch.nd rfl (Or.inl rfl) (pe_ix ix_list (pv 1) pe_int (fun _ _ => rfl)))
          (pss_cons (ps_asg (pv 7) (pg_sub (pv 1) pe_int set_list))
          (pss_cons (ps_set (i := 10) scBranch.nd rfl (Or.inl rfl) (pe_call GB hr rfl mB kB bB .nil pass0 (pa_cons (pv 0) (pa_cons (pv 1) (pa_cons (pv 2) (pa_cons (pe_call GD hr1 rfl mD kD bD .nil pass0 (pa_cons (pv 0) (pa_cons pe_int pa_nil))) (pa_cons (pe_op op_add (pv 4) pe_int) pa_nil)))))))
          (pss_cons (ps_asg (pe_callB (call_max2 rfl) (by rfl) B.max (by decide +kernel) (pa_cons (pv 9) (pa_cons (pe_ix ix_list (pv 1) pe_int (fun _ _ => rfl)) pa_nil))) (pg_sub (pv 1) pe_int set_list))
          (pss_one (ps_expr (pe_bm PySem.F.plainAttrs_list PySem.F.slot_list_append PySem.F.type_list_append mt_append (pv 5) (pa_cons (pe_tup (pa_cons pe_str (pa_cons (pv 8) (pa_cons (pv 10) pa_nil)))) pa_nil))))))))))
          (pss_one (ps_expr (pe_bm PySem.F.plainAttrs_list PySem.F.slot_list_append PySem.F.type_list_append mt_append (pv 5) (pa_cons (pe_call GS hr2 rfl mS kS bS .nil pass0 (pa_cons (pv 0) (pa_cons (pv 1) (pa_cons (pv 2) pa_nil)))) pa_nil)))))))
        pss_nil)))
    (pss_one (ps_ret (pe_callTy call_tuple_of (by rfl) B.tuple (by decide +kernel) (pa_cons (pv 5) pa_nil))))), ?_⟩
  refine ⟨(by show 0 ≤ sizeLine; decide), fun R hR => ?_⟩
  refine ⟨_, rfl, n, rfl, by omega, by omega, ?_⟩
  have nRq : R ≠ q := by
    obtain ⟨_, _, _, hq, _⟩ := D.names
    exact (ne_of_none hq hR).symm
  refine for_range (lo := 0) (n := n.toNat) (BrI H p b q R n k h d) ?_ ?_ ?_
  · have D1 := D.new (o := .lst []) hR
    have e1 : heldAll [] h = h := by rw [heldAll]
    have e2 : k - ((cntAll [] : Nat) : Int) = k := by rw [cntAll]; simp
    refine ⟨[], [], none, none, none, none, none, rfl, upd_same, by rw [atAll], by rw [okAll]; trivial, by rw [cntAll]; simpa using k0, by rw [e1]; exact h0, by rw [e1]; exact h3, fun x => absurd x (Nat.lt_irrefl 0), by rw [e1, e2]; exact D1, ?_, ?_, (K2.refl _ _ _).new hR⟩
    · obtain ⟨_, _, _, hp⟩ := D.pool
      exact (ne_of_none hp hR).symm
    · exact (ne_of_none D.box hR).symm
  · rintro i σ H2 hi ⟨S, xs, v6, v7, v8, v9, v10, rfl, hx, hS, okS, cS, h0', h3', ne, D2, nRp, nRb, fr⟩
    have lenS := atAll_len hS
    have lenC := len_le_cnt S
    have small : xs.length < sizeLine := small1000 (by omega)
    refine ⟨_, rfl, b, _, _, _, rfl, rfl, SqL.of D2.box, rfl, _, _, rfl, rfl, _, rfl, ?_⟩
    refine ite2 (fun c => ?_) (fun c => ?_)
    · have c1 : 0 < k - (cntAll S : Int) := of_decide_eq_true c
      refine ⟨_, rfl, b, _, _, _, rfl, rfl, SqL.of D2.box, rfl, _, _, rfl, rfl, _, rfl, b, _, _, _, rfl, rfl, D2.box, rfl, ?_⟩
      have D3 : Dr (L2.upd H2 b (.lst [.int (k - cntAll S - 1), .int (heldAll S h), .int 3])) p b q (k - cntAll S - 1) (heldAll S h) := D2.put
      have f3 : K2 p b H2 (L2.upd H2 b (.lst [.int (k - cntAll S - 1), .int (heldAll S h), .int 3])) := K2.upd
      -- the way of a plain statement
      have plain : ∀ H4 w7 w8 w9 w10, Dr H4 p b q (k - cntAll S - 1) (heldAll S h) → K2 p b H2 H4 →
          (tDrop (tBM K "list" rAppend (tVar 5) (tCons (tCall spSimple [] E0 (tCons (tVar 0) (tCons (tVar 1) (tCons (tVar 2) tNil)))) tNil))) { nx := BrI H p b q R n k h d (i + 1), rt := Q } [some (.ref p), some (.ref b), some (.ref q), some (.int n), some (.int (d : Nat)), some (.ref R), some (.int (0 + i)), w7, w8, w9, w10] H4 := by
        intro H4 w7 w8 w9 w10 D4 f4
        have h4R : H4 R = some (.lst xs) := f4 R _ hx nRp nRb
        refine ⟨_, rfl, .inl ⟨rfl, _, .inl (.inl h4R)⟩, _, rfl, _, rfl, _, rfl, p, b, q, _, _, rfl, D4, h0', h3', fun v H5 s e1 e2 e3 e4 e5 D5 f5 => ?_⟩
        have tk : TK H2 H5 := (D2.tk f4).trans (D4.tk f5)
        refine ⟨R, xs, v, rfl, rfl, f5 R _ h4R nRp nRb, small, ?_⟩
        exact BrI.more hR nRp nRb nRq (atAll_keep tk S xs hS) okS (f5 R _ h4R nRp nRb) e3 (e2 d) (by rw [e1]; omega) e4 e5 (by rw [e1]; exact D5) ((fr.trans f4).trans f5)
      refine ⟨_, rfl, _, _, rfl, rfl, _, rfl, ?_⟩
      refine ite2 (fun c2 => ?_) (fun c2 => plain _ _ _ _ _ D3 f3)
      have c2' : (d : Int) < 2 := of_decide_eq_true c2
      refine ⟨_, rfl, p, 5, rfl, D3.pool, by decide, by decide, fun r H4 r0 r1 k4 hp4 => ?_⟩
      have D4 := D3.draw k4 hp4
      have f4 : K2 p b H2 H4 := f3.trans (Kp.k2 k4)
      refine ⟨rfl, _, rfl, ?_⟩
      refine ite2 (fun c3 => ?_) (fun c3 => plain _ _ _ _ _ D4 f4)
      -- a choose
      refine ⟨_, rfl, b, _, _, _, rfl, rfl, SqL.of D4.box, rfl, ?_⟩
      refine ⟨_, rfl, _, rfl, _, rfl, _, rfl, p, 3, rfl, D4.pool, by decide, by decide, fun r2 H5 r20 r21 k5 hp5 => ?_⟩
      have D5 := D4.draw k5 hp5
      refine ⟨_, rfl, _, _, rfl, rfl, p, b, q, r2, _, _, d + 1, rfl, by omega, by omega, D5, r20, by omega, by omega, by omega, h0', h3', fun t1 H6 ys Y ht1 at1 ok1 cn1 h01 h31 _ D6 f6 => ?_⟩
      have f6' : K2 p b H2 H6 := (f4.trans (Kp.k2 k5)).trans f6
      refine ⟨_, rfl, b, _, _, _, rfl, rfl, SqL.of D6.box, rfl, ?_⟩
      refine ⟨_, rfl, _, rfl, b, _, _, _, rfl, rfl, D6.box, rfl, ?_⟩
      have D7 : Dr (L2.upd H6 b (.lst [.int (k - cntAll S - 1 - cntAll Y), .int (heldAll S h), .int 3])) p b q (k - cntAll S - 1 - cntAll Y) (heldAll S h) := D6.put
      have f7 : K2 p b H6 (L2.upd H6 b (.lst [.int (k - cntAll S - 1 - cntAll Y), .int (heldAll S h), .int 3])) := K2.upd
      refine ⟨_, rfl, _, rfl, _, rfl, _, rfl, p, 3, rfl, D7.pool, by decide, by decide, fun r3 H8 r30 r31 k8' hp8 => ?_⟩
      have D8 := D7.draw k8' hp8
      refine ⟨_, rfl, _, _, rfl, rfl, p, b, q, r3, _, _, d + 1, rfl, by omega, by omega, D8, r30, by omega, by omega, by omega, h0', h3', fun t2 H9 zs Z ht2 at2 ok2 cn2 h02 h32 _ D9 f9 => ?_⟩
      have f79 : K2 p b H6 H9 := (f7.trans (Kp.k2 k8')).trans f9
      refine ⟨_, rfl, _, rfl, b, _, _, _, rfl, rfl, SqL.of D9.box, rfl, _, _, rfl, ?_⟩
      refine ⟨_, rfl, b, _, _, _, rfl, rfl, D9.box, rfl, ?_⟩
      rw [max_if]
      have D10 : Dr (L2.upd H9 b (.lst [.int (k - cntAll S - 1 - cntAll Y - cntAll Z), .int (max (heldAll Y (heldAll S h)) (heldAll Z (heldAll S h))), .int 3])) p b q (k - cntAll S - 1 - cntAll Y - cntAll Z) (max (heldAll Y (heldAll S h)) (heldAll Z (heldAll S h))) := D9.put
      have f10 : K2 p b H9 (L2.upd H9 b (.lst [.int (k - cntAll S - 1 - cntAll Y - cntAll Z), .int (max (heldAll Y (heldAll S h)) (heldAll Z (heldAll S h))), .int 3])) := K2.upd
      have f610 := f79.trans f10
      have fA := f6'.trans f610
      have hRA := fA R _ hx nRp nRb
      refine ⟨_, rfl, .inl ⟨rfl, _, .inl (.inl hRA)⟩, _, rfl, _, rfl, (by show 3 ≤ sizeLine; decide), fun t ht => ?_⟩
      have tk1 : TK H6 (L2.upd _ t (.tup [.str "choose", .ref t1, .ref t2])) := (D6.tk f610).trans (TK.of_same (same_new ht _))
      have tk2 : TK H9 (L2.upd _ t (.tup [.str "choose", .ref t1, .ref t2])) := (D9.tk f10).trans (TK.of_same (same_new ht _))
      refine ⟨R, xs, .ref t, rfl, rfl, (same_new ht _) R _ hRA, small, ?_⟩
      have es : (Stm.ch Y Z).cnt = 1 + cntAll Y + cntAll Z := by rw [Stm.cnt]
      have eh : (Stm.ch Y Z).held (heldAll S h) = max (heldAll Y (heldAll S h)) (heldAll Z (heldAll S h)) := by rw [Stm.held]
      have tk : TK H2 (L2.upd _ t (.tup [.str "choose", .ref t1, .ref t2])) := (D2.tk f6').trans tk1
      refine BrI.more (s := .ch Y Z) hR nRp nRb nRq (atAll_keep tk S xs hS) okS ((same_new ht _) R _ hRA) ?_ ?_ (by rw [es]; omega) (by rw [eh]; omega) (by rw [eh]; omega) ?_ ((fr.trans fA).new ht)
      · rw [Stm.at]
        exact ⟨t, t1, t2, ys, zs, rfl, upd_same, tk1 _ _ ht1, atAll_keep tk1 Y ys at1, tk2 _ _ ht2, atAll_keep tk2 Z zs at2⟩
      · rw [Stm.ok]
        exact ⟨by omega, ok1, ok2⟩
      · rw [es, eh]
        have e : k - (cntAll S : Int) - ((1 + cntAll Y + cntAll Z : Nat) : Int) = k - cntAll S - 1 - cntAll Y - cntAll Z := by omega
        rw [e]
        exact D10.new ht
    · -- nothing is left: no more
      have c1 : ¬ 0 < k - (cntAll S : Int) := fun x => c (decide_eq_true x)
      exact ⟨S, xs, _, v7, v8, v9, v10, rfl, hx, hS, okS, cS, h0', h3', fun _ k1 e => c1 (by rw [e, cntAll]; simpa using k1), D2, nRp, nRb, fr⟩
  · rintro σ H2 ⟨S, xs, v6, v7, v8, v9, v10, rfl, hx, hS, okS, cS, h0', h3', ne, D2, nRp, nRb, fr⟩
    refine ⟨_, rfl, R, xs, rfl, .inl ⟨SqL.of hx, fun t ht => ?_⟩⟩
    exact z t _ xs S upd_same (atAll_keep (TK.of_same (same_new ht _)) S xs hS) okS cS h0' h3' (fun a => ne (by omega)) (D2.new ht) (fr.new ht)
end
end Tk
set_option maxRecDepth 100000
namespace Tk
open PySem L2
abbrev sIsInt : Stmt := top 7
abbrev sIsName : Stmt := top 8
abbrev sSInit : Stmt := inClass (top 14) 0
abbrev sSLen : Stmt := inClass (top 14) 1
abbrev sSHas : Stmt := inClass (top 14) 2
abbrev sSGet : Stmt := inClass (top 14) 3
abbrev sAfter : Stmt := inClass (top 14) 6
abbrev sBehind : Stmt := inClass (top 14) 7
abbrev sKInit : Stmt := inClass (top 16) 0
abbrev sKBr : Stmt := inClass (top 16) 1
abbrev sKSt : Stmt := inClass (top 16) 2
abbrev sFault : Stmt := top 17
abbrev sForm : Stmt := top 19
abbrev sHeld : Stmt := top 18
def items8 : List (Str × Int) := [("take", 1), ("commit", 1), ("rollback", 1), ("drop", 1), ("leave", 1), ("lock", 2), ("unlock", 2), ("choose", 3)]
/-- what the top has made -/
structure Txt (K : PySem.W.Frag) (w : World) (mg : Str → Option Value) (CS CK it : Addr) : Prop where
  isi : mg "isinstance" = none
  all : mg "all" = none
  list : mg "list" = none
  enum : mg "enumerate" = none
  str : mg "str" = none
  bool : mg "bool" = none
  long : ∃ t, mg "LONGEST_NAME" = some (.int 8 t)
  mSt : ∃ t, mg "MOST_STATEMENTS" = some (.int 8 t)
  mHe : ∃ t, mg "MOST_HELD" = some (.int 3 t)
  mNe : ∃ t, mg "MOST_NESTED" = some (.int 2 t)
  mIt : mg "ITEMS" = some (.ref it)
  lkI : ∃ es n, K.lookup it = some ⟨.type "dict", none, .dict es n, #[]⟩
  kg : ∀ z n, (z, n) ∈ items8 → KG K w it z (.int n)
  clS : Cls K CS
  clK : Cls K CK
  mgS : mg "Script" = some (.ref CS)
  mgK : mg "Check" = some (.ref CK)
  nS : NoAttr K CS "statements"
  nF : NoAttr K CS "found"
  nP : NoAttr K CS "places"
  kF : NoAttr K CK "found"
theorem lt1 (a b : Nat) : ([a] < [b]) ↔ a < b := by
  rw [List.cons_lt_cons_iff]
  simp
theorem iteFb {c : Bool} {A B : Prop} (e : c = false) (h : B) : if c = true then A else B := by rw [e]; exact iteF h
theorem iteTb {c : Bool} {A B : Prop} (e : c = true) (h : A) : if c = true then A else B := by rw [e]; exact iteT h
def nameB (z : Str) : Bool := decide (1 ≤ z.length) && decide (z.length ≤ 8) && z.cps.toList.all fun c => decide (97 ≤ c) && decide (c ≤ 122)
theorem nameB_of {z : Str} (h : IsName z) : nameB z = true := by
  unfold nameB
  rw [decide_eq_true h.1, decide_eq_true h.2.1]
  simp only [Bool.true_and, List.all_eq_true]
  intro c hc
  have q := h.2.2 c hc
  rw [decide_eq_true q.1, decide_eq_true q.2]; rfl
def spIsInt (K : PySem.W.Frag) : Sp := fun vs H Q _ => ∃ (x : V) (T : String) (b1 b2 : Bool), vs = [x] ∧ TyX K H x (.type T) ∧ kitB T "int" = some b1 ∧ kitB T "bool" = some b2 ∧ Q (.bl (b1 && !b2)) H
def spIsName : Sp := fun vs H Q _ => ∃ z : Str, vs = [.str z] ∧ z.length ≤ 100 ∧ ∀ H', Same H H' → Q (.bl (nameB z)) H'
/-- a good statement -/
def spForm : Sp := fun vs H Q _ => ∃ (v : V) (s : Stm), vs = [v] ∧ s.at H v ∧ Q (.bl true) H
def spFault : Sp := fun vs H Q _ => ∃ (v : V) (u : Addr) (e h : Int) (s : Stm) (d : Nat) (p : List V), vs = [v, .ref u, .int e, .int h] ∧ s.at H v ∧ H u = some (.tup p) ∧ p.length = 2 * d + 1 ∧ e ≠ 8 ∧ s.ok d h ∧ ∀ H', Same H H' → Q .non H'
section
variable {P : Program} {w : World} {K : PySem.W.Frag} {mg : Str → Option Value} {base : Heap} {CS CK it : Addr}
theorem scII : FnScope ["value"] ["value"] (defScope sIsInt) := ⟨rfl, rfl, rfl, by decide +kernel, rfl, by decide +kernel, by decide +kernel⟩
theorem ok_isint {f : Addr} {fd : FuncData} (F : Fun K "is_integer" "is_integer" sIsInt f fd) (B : Bl mg) (T : Txt K w mg CS CK it) : FnOk P w K mg base CX0 1 f fd ["value"] (spIsInt K) := by
  refine F.ok scII (fun vs H Q E h => ?_) (fun cdv A outer s H vs Q E hr h => ?_)
  · obtain ⟨x, t, b1, b2, rfl, _⟩ := h
    rfl
  obtain ⟨x, t, b1, b2, rfl, ty, k1, k2, q⟩ := h
  refine ⟨_, pss_one (ps_ret (pe_and (pe_callB call_isi (by rfl) T.isi (by decide +kernel) (pa_cons (pv 0) (pa_cons (pe_bltn (v := .ty "int") (by rfl) B.int (by decide +kernel) rfl) pa_nil)))
    (pe_one (pe_not (pe_callB call_isi (by rfl) T.isi (by decide +kernel) (pa_cons (pv 0) (pa_cons (pe_bltn (v := .ty "bool") (by rfl) T.bool (by decide +kernel) rfl) pa_nil))))))), ?_⟩
  refine ⟨_, rfl, x, _, _, _, b1, rfl, .ty "int", ty, kit_ty k1, b1, rfl, ?_⟩
  cases b1 with
  | false => exact iteF q
  | true => exact iteT ⟨_, rfl, x, _, _, _, b2, rfl, .ty "bool", ty, kit_ty k2, b2, rfl, q⟩
theorem scIN : FnScope ["value", "letter"] ["value"] (defScope sIsName) := ⟨rfl, rfl, rfl, by decide +kernel, rfl, by decide +kernel, by decide +kernel⟩
theorem ok_isname {f : Addr} {fd : FuncData} (F : Fun K "is_name" "is_name" sIsName f fd) (B : Bl mg) (T : Txt K w mg CS CK it) : FnOk P w K mg base CX0 1 f fd ["value"] spIsName := by
  refine F.ok scIN (fun vs H Q E h => ?_) (fun cdv A outer s H vs Q E hr h => ?_)
  · obtain ⟨z, rfl, _⟩ := h
    rfl
  obtain ⟨z, rfl, h100, q⟩ := h
  have hsz : z.length ≤ sizeLine := Nat.le_of_lt (small1000 (by omega))
  obtain ⟨tl, gl⟩ := T.long
  refine ⟨_, pss_cons (ps_if (PW.pt (pw_or (pt_not (pt_val (pe_callB call_isi (by rfl) T.isi (by decide +kernel) (pa_cons (pv 0) (pa_cons (pe_bltn (v := .ty "str") (by rfl) T.str (by decide +kernel) rfl) pa_nil)))))
      (pw_or1 (pt_not (pt_chain op_le op_le pe_int (pe_callB call_len_str (by rfl) B.len PySem.boot_len (pa_cons (pv 0) pa_nil)) (pe_glob (v := .int 8) (by rfl) gl ⟨_, rfl⟩)))))) (pss_one (ps_ret pe_bl)) pss_nil)
    (pss_one (ps_ret (pe_callB (cr_all rfl) (by rfl) T.all (by decide +kernel) (pa_cons
      (pe_lc (own := [("letter", 1)]) (g := gName 1) (tt := tYes) rfl scIN.nd (pi_str (pv 0)) (blkOk_by (own := [("letter", 1)]) (N := ["value", "letter"]) (sc := defScope sIsName) (by decide +kernel))
        (fun _ _ _ _ _ => pg_name (i := 1) scIN.nd rfl (Or.inl rfl)) (fun _ _ _ _ _ => pts_nil)
        (fun _ _ _ _ _ => pe_chain op_le_str op_le_str pe_str (pv 1) pe_str)) pa_nil)))), ?_⟩
  refine ⟨_, rfl, _, _, _, _, true, rfl, .ty "str", .base (.str _), kit_ty (by decide +kernel), true, rfl, iteF ?_⟩
  refine ⟨_, rfl, _, rfl, hsz, _, _, rfl, rfl, _, rfl, ?_⟩
  have ret : ∀ b : Bool, nameB z = b → Q (.bl b) H := fun b e => e ▸ q H (Same.refl H)
  by_cases c1 : 1 ≤ z.length
  · have c1' : decide ((1 : Int) ≤ (z.length : Int)) = true := decide_eq_true (by omega)
    refine iteTb c1' ⟨_, _, rfl, rfl, _, rfl, ?_⟩
    by_cases c2 : z.length ≤ 8
    · have c2' : decide ((z.length : Int) ≤ 8) = true := decide_eq_true (by omega)
      rw [c2']
      refine iteF ?_
      refine ⟨_, rfl, z, rfl, fun D hD => ?_⟩
      refine lc_it walk_str (fun i H7 => H7 D = some (.lst (((z.cps.toList.take i).map fun c => decide (97 ≤ c) && decide (c ≤ 122)).map V.bl)) ∧ Same H H7 ∧ i ≤ z.cps.size) ?_ (fun _ _ _ _ => trivial) ?_ ?_
      · exact ⟨upd_same, same_new hD _, Nat.zero_le _⟩
      · rintro i x H7 H8 hi ⟨h1, h2, h3⟩ ⟨rfl, c, hc, rfl⟩
        refine ⟨rfl, ?_⟩
        unfold tYes
        dsimp only
        rw [if_pos rfl]
        have nx : ∀ b : Bool, (decide (97 ≤ c) && decide (c ≤ 122)) = b → ∃ acc, H8 D = some (.lst acc) ∧ acc.length < sizeLine ∧ (upd H8 D (.lst (acc ++ [.bl b]))) D = some (.lst (((z.cps.toList.take (i + 1)).map fun c => decide (97 ≤ c) && decide (c ≤ 122)).map V.bl)) ∧ Same H (upd H8 D (.lst (acc ++ [.bl b]))) ∧ i + 1 ≤ z.cps.size := by
          intro b e
          have hz : z.cps.size ≤ 8 := c2
          refine ⟨_, h1, small1000 (by simp; omega), ?_, ?_, hi⟩
          · rw [upd_same]
            have ez : z.cps.toList[i]? = some c := by simpa using hc
            rw [List.take_add_one, ez]
            simp [e]
          · intro b' o e'
            rw [upd_ne (ne_of_none e' hD)]
            exact h2 b' o e'
        refine ⟨_, rfl, _, _, rfl, rfl, _, rfl, ?_⟩
        have e1 : (!decide ((⟨#[c]⟩ : Str).cps.toList < ("a" : Str).cps.toList)) = decide (97 ≤ c) := by
          have e0 : ("a" : Str).cps.toList = [97] := by decide +kernel
          rw [e0]
          show (!decide ([c] < [97])) = _
          by_cases k : 97 ≤ c
          · rw [decide_eq_true k, decide_eq_false (fun x => absurd ((lt1 c 97).mp x) (by omega))]; rfl
          · rw [decide_eq_false k, decide_eq_true ((lt1 c 97).mpr (by omega))]; rfl
        have e2 : (!decide (("z" : Str).cps.toList < (⟨#[c]⟩ : Str).cps.toList)) = decide (c ≤ 122) := by
          have e0 : ("z" : Str).cps.toList = [122] := by decide +kernel
          rw [e0]
          show (!decide ([122] < [c])) = _
          by_cases k : c ≤ 122
          · rw [decide_eq_true k, decide_eq_false (fun x => absurd ((lt1 122 c).mp x) (by omega))]; rfl
          · rw [decide_eq_false k, decide_eq_true ((lt1 122 c).mpr (by omega))]; rfl
        rw [e1]
        by_cases k : 97 ≤ c
        · refine iteTb (decide_eq_true k) ⟨_, _, rfl, rfl, ?_⟩
          rw [e2]
          exact nx _ (by rw [decide_eq_true k, Bool.true_and])
        · refine iteFb (decide_eq_false k) ?_
          exact nx _ (by rw [decide_eq_false k, Bool.false_and])
      · rintro H7 ⟨h1, h2, _⟩
        refine ⟨D, _, rfl, SqL.of h1, ?_⟩
        have e : nameB z = ((z.cps.toList.take z.cps.size).map fun c => decide (97 ≤ c) && decide (c ≤ 122)).all id := by
          unfold nameB
          rw [decide_eq_true c1, decide_eq_true c2, List.take_of_length_le (by simp), List.all_map]
          rfl
        rw [← e]
        exact q H7 h2
    · have c2' : decide ((z.length : Int) ≤ 8) = false := decide_eq_false (by omega)
      rw [c2']
      refine iteT ?_
      exact ret false (by unfold nameB; rw [decide_eq_false c2]; simp)
  · have c1' : decide ((1 : Int) ≤ (z.length : Int)) = false := decide_eq_false (by omega)
    refine iteFb c1' ⟨_, rfl, iteT ?_⟩
    exact ret false (by unfold nameB; rw [decide_eq_false c1]; simp)
/-! ### has_form, fault_of -/
theorem wd_ne (w : Wd) : decide (V.str w.s = V.str "choose") = false := by cases w <;> decide +kernel
theorem lk_ne (b : Bool) : decide (V.str (lockS b) = V.str "choose") = false := by cases b <;> decide +kernel
theorem wd_it (w : Wd) : (w.s, (1 : Int)) ∈ items8 := by cases w <;> simp [items8, Wd.s]
theorem lk_it (b : Bool) : (lockS b, (2 : Int)) ∈ items8 := by cases b <;> simp [items8, lockS]
theorem ch_it : (("choose" : Str), (3 : Int)) ∈ items8 := by simp [items8]
theorem scHF : FnScope ["statement", "word"] ["statement"] (defScope sForm) := ⟨rfl, rfl, rfl, by decide +kernel, rfl, by decide +kernel, by decide +kernel⟩
theorem ok_form {f : Addr} {fd : FuncData} (F : Fun K "has_form" "has_form" sForm f fd) (B : Bl mg) (T : Txt K w mg CS CK it) : FnOk P w K mg base CX0 1 f fd ["statement"] spForm := by
  refine F.ok scHF (fun vs H Q E h => ?_) (fun cdv A outer s H vs Q E hr h => ?_)
  · obtain ⟨v, s, rfl, _⟩ := h
    rfl
  obtain ⟨v, s, rfl, hs, q⟩ := h
  obtain ⟨es, n, lkI⟩ := T.lkI
  refine ⟨_, pss_cons (ps_if (PW.pt (pw_or (pt_not (pt_val (pe_callB call_isi (by rfl) T.isi (by decide +kernel) (pa_cons (pv 0) (pa_cons (pe_bltn (v := .ty "tuple") (by rfl) B.tuple (by decide +kernel) rfl) pa_nil)))))
      (pw_or1 (pt_not (pt_truth (pv 0) (by intro _; rfl)))))) (pss_one (ps_ret pe_bl)) pss_nil)
    (pss_cons (ps_set (i := 1) scHF.nd rfl (Or.inl rfl) (pe_ix ix_tup (pv 0) pe_int (fun _ _ => rfl)))
    (pss_cons (ps_if (PW.pt (pw_or (pt_not (pt_val (pe_callB call_isi (by rfl) T.isi (by decide +kernel) (pa_cons (pv 1) (pa_cons (pe_bltn (v := .ty "str") (by rfl) T.str (by decide +kernel) rfl) pa_nil)))))
      (pw_or1 (pt_cmpR op_ne (pe_callB call_len_seq (by rfl) B.len PySem.boot_len (pa_cons (pv 0) pa_nil)) (pe_kget (pe_glob (v := .ref it) (by rfl) T.mIt rfl) (pv 1) (fun σ H Q h => ⟨⟨it, _, es, n, rfl, lkI, rfl⟩, h⟩) ⟨rfl, rfl, rfl, rfl⟩) (nomark _))))) (pss_one (ps_ret pe_bl)) pss_nil)
    (pss_cons (ps_if (pt_cmpR op_eq (pv 1) pe_str (nomark _)) (pss_one (ps_ret (pe_and (pe_callB call_isi (by rfl) T.isi (by decide +kernel) (pa_cons (pe_ix ix_tup (pv 0) pe_int (fun _ _ => rfl)) (pa_cons (pe_bltn (v := .ty "tuple") (by rfl) B.tuple (by decide +kernel) rfl) pa_nil)))
        (pe_one (pe_callB call_isi (by rfl) T.isi (by decide +kernel) (pa_cons (pe_ix ix_tup (pv 0) pe_int (fun _ _ => rfl)) (pa_cons (pe_bltn (v := .ty "tuple") (by rfl) B.tuple (by decide +kernel) rfl) pa_nil))))))) pss_nil)
    (pss_one (ps_ret pe_bl))))), ?_⟩
  cases s with
  | one w =>
    rw [Stm.at] at hs
    obtain ⟨a, rfl, ha⟩ := hs
    refine ⟨_, rfl, _, _, _, _, true, rfl, .ty "tuple", .base (.tup ha), kit_ty (by decide +kernel), true, rfl, iteF ?_⟩
    refine ⟨_, rfl, true, .inr (.inl ⟨_, SqT.of ha, rfl⟩), iteF ?_⟩
    refine ⟨_, rfl, a, _, _, _, rfl, rfl, SqT.of ha, rfl, ?_⟩
    refine ⟨_, rfl, _, _, _, _, true, rfl, .ty "str", .base (.str _), kit_ty (by decide +kernel), true, rfl, iteF ?_⟩
    refine ⟨_, rfl, a, _, rfl, .inr (SqT.of ha), _, rfl, it, _, _, rfl, rfl, T.kg _ _ (wd_it w), rfl, _, rfl, iteNS rfl ?_⟩
    exact ⟨_, rfl, rfl, _, rfl, iteFb (wd_ne w) q⟩
  | nam b z =>
    rw [Stm.at] at hs
    obtain ⟨a, rfl, ha⟩ := hs
    refine ⟨_, rfl, _, _, _, _, true, rfl, .ty "tuple", .base (.tup ha), kit_ty (by decide +kernel), true, rfl, iteF ?_⟩
    refine ⟨_, rfl, true, .inr (.inl ⟨_, SqT.of ha, rfl⟩), iteF ?_⟩
    refine ⟨_, rfl, a, _, _, _, rfl, rfl, SqT.of ha, rfl, ?_⟩
    refine ⟨_, rfl, _, _, _, _, true, rfl, .ty "str", .base (.str _), kit_ty (by decide +kernel), true, rfl, iteF ?_⟩
    refine ⟨_, rfl, a, _, rfl, .inr (SqT.of ha), _, rfl, it, _, _, rfl, rfl, T.kg _ _ (lk_it b), rfl, _, rfl, iteNS rfl ?_⟩
    exact ⟨_, rfl, rfl, _, rfl, iteFb (lk_ne b) q⟩
  | ch y n =>
    rw [Stm.at] at hs
    obtain ⟨a, b, c, xs, ys, rfl, ha, hb, _, hc, _⟩ := hs
    refine ⟨_, rfl, _, _, _, _, true, rfl, .ty "tuple", .base (.tup ha), kit_ty (by decide +kernel), true, rfl, iteF ?_⟩
    refine ⟨_, rfl, true, .inr (.inl ⟨_, SqT.of ha, rfl⟩), iteF ?_⟩
    refine ⟨_, rfl, a, _, _, _, rfl, rfl, SqT.of ha, rfl, ?_⟩
    refine ⟨_, rfl, _, _, _, _, true, rfl, .ty "str", .base (.str _), kit_ty (by decide +kernel), true, rfl, iteF ?_⟩
    refine ⟨_, rfl, a, _, rfl, .inr (SqT.of ha), _, rfl, it, _, _, rfl, rfl, T.kg _ _ ch_it, rfl, _, rfl, iteNS rfl ?_⟩
    refine ⟨_, rfl, rfl, _, rfl, iteTb (by decide +kernel) ?_⟩
    refine ⟨_, rfl, a, _, _, _, rfl, rfl, SqT.of ha, rfl, _, _, _, _, true, rfl, .ty "tuple", .base (.tup hb), kit_ty (by decide +kernel), true, rfl, iteT ?_⟩
    exact ⟨_, rfl, a, _, _, _, rfl, rfl, SqT.of ha, rfl, _, _, _, _, true, rfl, .ty "tuple", .base (.tup hc), kit_ty (by decide +kernel), q⟩
theorem wd_in (w : Wd) : inV (V.str w.s) [V.str "lock", V.str "unlock"] = false := by cases w <;> decide +kernel
theorem lk_in (b : Bool) : inV (V.str (lockS b)) [V.str "lock", V.str "unlock"] = true := by cases b <;> decide +kernel
theorem ch_in : inV (V.str "choose") [V.str "lock", V.str "unlock"] = false := by decide +kernel
theorem lk_tk (b : Bool) : decide (V.str (lockS b) = V.str "take") = false := by cases b <;> decide +kernel
theorem wd_tk (w : Wd) : decide (V.str w.s = V.str "take") = decide (w = .take) := by cases w <;> decide +kernel
theorem scFO : FnScope ["statement", "place", "earlier", "held", "word"] ["statement", "place", "earlier", "held"] (defScope sFault) := ⟨rfl, rfl, rfl, by decide +kernel, rfl, by decide +kernel, by decide +kernel⟩
theorem ok_fault {f fF fN : Addr} {fd fdF fdN : FuncData} (F : Fun K "fault_of" "fault_of" sFault f fd) (B : Bl mg) (T : Txt K w mg CS CK it)
    (GF : FnOk P w K mg base CX0 1 fF fdF ["statement"] spForm) (bF : Binds K fdF ["statement"] []) (kF : PySem.W.keepIn K (.ref fF) = true) (mF : mg "has_form" = some (.ref fF))
    (GN : FnOk P w K mg base CX0 1 fN fdN ["value"] spIsName) (bN : Binds K fdN ["value"] []) (kN : PySem.W.keepIn K (.ref fN) = true) (mN : mg "is_name" = some (.ref fN)) :
    FnOk P w K mg base CX0 2 f fd ["statement", "place", "earlier", "held"] spFault := by
  refine F.ok scFO (fun vs H Q E h => ?_) (fun cdv A outer s H vs Q E hr h => ?_)
  · obtain ⟨v, u, e, h, s, d, p, rfl, _⟩ := h
    rfl
  obtain ⟨v, u, e, h, s, d, p, rfl, hs, hu, hp, e8, ok, q⟩ := h
  obtain ⟨t1, g1⟩ := T.mSt
  obtain ⟨t2, g2⟩ := T.mNe
  obtain ⟨t3, g3⟩ := T.mHe
  refine ⟨_, pss_cons (ps_if (pt_cmpR op_eq (pv 2) (pe_glob (v := .int 8) (by rfl) g1 ⟨_, rfl⟩) (nomark _)) (pss_one (ps_ret pe_str)) pss_nil)
    (pss_cons (ps_if (pt_not (pt_val (pe_call GF hr rfl mF kF bF .nil pass0 (pa_cons (pv 0) pa_nil)))) (pss_one (ps_ret pe_str)) pss_nil)
    (pss_cons (ps_set (i := 4) scFO.nd rfl (Or.inl rfl) (pe_ix ix_tup (pv 0) pe_int (fun _ _ => rfl)))
    (pss_cons (ps_if (PW.pt (pw_and (pt_cmpR op_eq (pv 4) pe_str (nomark _)) (pw_and1 (pt_cmpR op_eq (pe_op op_fdivN (pe_callB call_len_seq (by rfl) B.len PySem.boot_len (pa_cons (pv 1) pa_nil)) pe_int) (pe_glob (v := .int 2) (by rfl) g2 ⟨_, rfl⟩) (nomark _))))) (pss_one (ps_ret pe_str)) pss_nil)
    (pss_cons (ps_if (PW.pt (pw_and (pt_cmpR op_in_seq (pv 4) (pe_tup (pa_cons pe_str (pa_cons pe_str pa_nil))) (by rfl)) (pw_and1 (pt_not (pt_val (pe_call GN hr rfl mN kN bN .nil pass0 (pa_cons (pe_ix ix_tup (pv 0) pe_int (fun _ _ => rfl)) pa_nil))))))) (pss_one (ps_ret pe_str)) pss_nil)
    (pss_cons (ps_if (PW.pt (pw_and (pt_cmpR op_eq (pv 4) pe_str (nomark _)) (pw_and1 (pt_cmpR op_eq (pv 3) (pe_glob (v := .int 3) (by rfl) g3 ⟨_, rfl⟩) (nomark _))))) (pss_one (ps_ret pe_str)) pss_nil)
    (pss_one (ps_ret pe_non))))))), ?_⟩
  have ne8 : decide (V.int e = V.int 8) = false := decide_eq_false (fun z => e8 (by injection z))
  refine ⟨_, rfl, rfl, _, rfl, iteFb ne8 ?_⟩
  refine ⟨_, rfl, v, s, rfl, hs, true, rfl, iteF ?_⟩
  cases s with
  | one wd =>
    rw [Stm.at] at hs
    obtain ⟨a, rfl, ha⟩ := hs
    rw [Stm.ok] at ok
    refine ⟨_, rfl, a, _, _, _, rfl, rfl, SqT.of ha, rfl, ?_⟩
    refine ⟨_, rfl, rfl, _, rfl, iteFb (wd_ne wd) ?_⟩
    refine ⟨_, rfl, (by show 2 ≤ sizeLine; decide), fun t ht => ⟨t, _, rfl, .inr (SqT.of upd_same), rfl, rfl, _, rfl, iteFb (wd_in wd) ?_⟩⟩
    refine ⟨_, rfl, rfl, _, rfl, ?_⟩
    rw [wd_tk]
    by_cases c : wd = .take
    · refine iteTb (decide_eq_true c) ⟨_, rfl, rfl, _, rfl, iteFb (decide_eq_false (fun z => ok c (by injection z))) (q _ (same_new ht _))⟩
    · exact iteFb (decide_eq_false c) (q _ (same_new ht _))
  | nam b z =>
    rw [Stm.at] at hs
    obtain ⟨a, rfl, ha⟩ := hs
    rw [Stm.ok] at ok
    refine ⟨_, rfl, a, _, _, _, rfl, rfl, SqT.of ha, rfl, ?_⟩
    refine ⟨_, rfl, rfl, _, rfl, iteFb (lk_ne b) ?_⟩
    refine ⟨_, rfl, (by show 2 ≤ sizeLine; decide), fun t ht => ⟨t, _, rfl, .inr (SqT.of upd_same), rfl, rfl, _, rfl, iteTb (lk_in b) ?_⟩⟩
    refine ⟨_, rfl, a, _, _, _, rfl, rfl, SqT.of ((same_new ht _) a _ ha), rfl, z, rfl, Nat.le_trans ok.2.1 (by decide), fun H2 s2 => ⟨_, rfl, ?_⟩⟩
    rw [nameB_of ok]
    refine iteF ⟨_, rfl, rfl, _, rfl, iteFb (lk_tk b) (q _ ((same_new ht _).trans s2))⟩
  | ch y n =>
    rw [Stm.at] at hs
    obtain ⟨a, b, c, xs, ys, rfl, ha, hb, _, hc, _⟩ := hs
    rw [Stm.ok] at ok
    refine ⟨_, rfl, a, _, _, _, rfl, rfl, SqT.of ha, rfl, ?_⟩
    refine ⟨_, rfl, rfl, _, rfl, iteTb (by decide +kernel) ?_⟩
    refine ⟨_, rfl, u, _, rfl, .inr (SqT.of hu), _, _, rfl, rfl, ⟨by decide, by decide⟩, rfl, _, rfl, ?_⟩
    have e1 : ((p.length : Nat) : Int).fdiv 2 = d := by
      rw [hp, Int.fdiv_eq_ediv_of_nonneg _ (by decide)]; omega
    refine iteFb ?_ ?_
    · show decide (V.int (((p.length : Nat) : Int).fdiv 2) = V.int 2) = false
      rw [e1]
      exact decide_eq_false (fun z => by injection z with z; omega)
    · refine ⟨_, rfl, (by show 2 ≤ sizeLine; decide), fun t ht => ⟨t, _, rfl, .inr (SqT.of upd_same), rfl, rfl, _, rfl, iteFb ch_in ?_⟩⟩
      exact ⟨_, rfl, rfl, _, rfl, iteFb (by decide +kernel) (q _ (same_new ht _))⟩
end
end Tk
set_option maxRecDepth 100000
namespace Tk
open PySem L2
def CkE (CK : Addr) (H : Hp) (c dd : Addr) (W : List (Pl × Stm)) : Prop := (∃ dx, H c = some (.ins CK dx [("found", .ref dd)])) ∧ ∃ kvs, H dd = some (.dT kvs) ∧ FRel H kvs W
theorem CkE.keep {CK : Addr} {H H' : Hp} {c dd : Addr} {W : List (Pl × Stm)} (x : CkE CK H c dd W) (s : Same H H') : CkE CK H' c dd W := by
  obtain ⟨⟨dx, h1⟩, kvs, h2, h3⟩ := x
  exact ⟨⟨dx, s _ _ h1⟩, kvs, s _ _ h2, h3.keep (TK.of_same s)⟩
theorem Kp.tkD {dd : Addr} {H H' : Hp} {kvs : List (List Key × V)} (k : Kp dd H H') (hp : H dd = some (.dT kvs)) : TK H H' := fun a xs h => k a _ h (ne_of h hp (by intro z; cases z))
abbrev psKB : List Str := ["self", "branch", "above", "held"]
abbrev psKS : List Str := ["self", "statement", "place", "held"]
def spKInit (CK : Addr) : Sp := fun vs H Q _ => ∃ c dx : Addr, vs = [.ref c] ∧ H c = some (.ins CK dx []) ∧ ∀ (dd : Addr) (H' : Hp), H dd = none → CkE CK H' c dd [] → (∀ b o, H b = some o → b ≠ c → H' b = some o) → Q .non H'
def spKS (CK : Addr) (m : Nat) : Sp := fun vs H Q _ => ∃ (c dd u : Addr) (v : V) (h : Int) (s : Stm) (d : Nat) (p : Pl) (W : List (Pl × Stm)), vs = [.ref c, v, .ref u, .int h] ∧ d + m = 3 ∧ d ≤ 2 ∧ CkE CK H c dd W ∧ s.at H v ∧ H u = some (.tup (p.map V.int)) ∧
  p.length = 2 * d + 1 ∧ s.ok d h ∧ W.length + s.cnt ≤ 8 ∧ (∀ q, lk W (p ++ q) = none) ∧ ∀ H', CkE CK H' c dd (W ++ s.walk p) → Kp dd H H' → Q (.int (s.held h)) H'
def spKB (CK : Addr) (m : Nat) : Sp := fun vs H Q _ => ∃ (c dd t u : Addr) (xs : List V) (h : Int) (B : List Stm) (d : Nat) (p : Pl) (W : List (Pl × Stm)), vs = [.ref c, .ref t, .ref u, .int h] ∧ d + m = 3 ∧ d ≤ 2 ∧ CkE CK H c dd W ∧ H t = some (.tup xs) ∧ atAll H xs B ∧ H u = some (.tup (p.map V.int)) ∧
  p.length = 2 * d ∧ okAll d B h ∧ W.length + cntAll B ≤ 8 ∧ (∀ j q, lk W (p ++ j :: q) = none) ∧ ∀ H', CkE CK H' c dd (W ++ walkAll B p 0) → Kp dd H H' → Q (.int (heldAll B h)) H'
theorem small {n : Nat} (h : n ≤ 1000) : n ≤ sizeLine := Nat.le_of_lt (small1000 h)
section
variable {P : Program} {w : World} {K : PySem.W.Frag} {mg : Str → Option Value} {base : Heap} {CS CK it : Addr}
theorem scKI : FnScope ["self"] ["self"] (defScope sKInit) := ⟨rfl, rfl, rfl, by decide +kernel, rfl, by decide +kernel, by decide +kernel⟩
theorem ok_kinit {f : Addr} {fd : FuncData} (F : Fun K "__init__" "Check.__init__" sKInit f fd) (T : Txt K w mg CS CK it) : FnOk P w K mg base CX0 1 f fd ["self"] (spKInit CK) := by
  refine F.ok scKI (fun vs H Q E h => ?_) (fun cdv A outer s H vs Q E hr h => ?_)
  · obtain ⟨c, dx, rfl, _⟩ := h
    rfl
  obtain ⟨c, dx, rfl, hc, q⟩ := h
  refine ⟨_, pss_one (ps_fld (pv 0) pe_dnewT rfl), ?_⟩
  intro dd hd
  have n : c ≠ dd := ne_of_none hc hd
  refine ⟨_, rfl, c, CK, dx, [], rfl, (by rw [upd_ne n]; exact hc), T.clK, T.kF, (by show 0 < 1000; decide), ?_⟩
  refine q dd _ hd ⟨⟨dx, upd_same⟩, [], by rw [upd_ne n.symm, upd_same], trivial⟩ fun b o e hb => ?_
  rw [upd_ne hb, upd_ne (ne_of_none e hd)]
  exact e
/-- above + (index,) : what follows gets the new place -/
theorem cat_one {H : Hp} {u : Addr} {p : Pl} {j : Int} {X : V → Hp → Prop} (hu : H u = some (.tup (p.map V.int))) (hp : p.length ≤ 10) (k : ∀ y H', H' y = some (.tup ((p ++ [j]).map V.int)) → Same H H' → X (.ref y) H') :
    ∀ t, H t = none → rCatA K (.ref u) (.ref t) (L2.upd H t (.tup [.int j])) X := by
  intro t ht
  have s1 := same_new ht (.tup [.int j])
  refine ⟨u, t, _, _, rfl, rfl, SqT.of (s1 _ _ hu), SqT.of upd_same, small (by simp; omega), (fun e => ?_), (fun _ e => nomatch e), fun _ _ z hz => ?_⟩
  · refine k t _ ?_ s1
    have e' : p = [] := List.map_eq_nil_iff.mp e
    rw [upd_same, e']; rfl
  · refine k z _ ?_ (s1.trans (same_new hz _))
    rw [upd_same, List.map_append]; rfl
theorem scKB : FnScope ["self", "branch", "above", "held", "index", "statement"] psKB (defScope sKBr) := ⟨rfl, rfl, rfl, by decide +kernel, rfl, by decide +kernel, by decide +kernel⟩
theorem ok_kbr {m n : Nat} {f fS : Addr} {fd fdS : FuncData} (F : Fun K "check_branch" "Check.check_branch" sKBr f fd) (T : Txt K w mg CS CK it) (GS : FnOk P w K mg base CX0 n fS fdS psKS (spKS CK m)) (bS : Binds K fdS psKS []) (mS : Meth K CK "check_statement" fS) :
    FnOk P w K mg base CX0 (n + 1) f fd psKB (spKB CK m) := by
  refine F.ok scKB (fun vs H Q E h => ?_) (fun cdv A outer s H vs Q E hr h => ?_)
  · obtain ⟨c, dd, t, u, xs, h, B, d, p, W, rfl, _⟩ := h
    rfl
  obtain ⟨c, dd, t, u, xs, h, B, d, p, W, rfl, hd3, hd2, C, ht, hB, hu, hp, ok, hn, hW, q⟩ := h
  refine ⟨_, pss_cons (ps_for PassesOwn.never rfl (pi_enumT rfl T.enum (pa_cons (pv 1) pa_nil)) (pg_tup rfl (pgs_cons (pg_name (i := 4) scKB.nd rfl (.inl rfl)) (pgs_cons (pg_name (i := 5) scKB.nd rfl (.inl rfl)) pgs_nil)))
      (pss_one (ps_set (i := 3) scKB.nd rfl (Or.inl rfl) (pe_meth (pv 0) T.clK mS GS hr bS .nil pass0 (pa_cons (pv 5) (pa_cons (pe_op op_catA (pv 2) (pe_tup (pa_cons (pv 4) pa_nil))) (pa_cons (pv 3) pa_nil)))))))
    (pss_one (ps_ret (pv 3))), ?_⟩
  have hl := atAll_len hB
  have hb8 : B.length ≤ 8 := Nat.le_trans (len_le_cnt B) (by omega)
  refine ⟨_, rfl, t, xs, rfl, SqT.of ht, for_enumT (xs := xs) (fun i σ H2 => ∃ v4 v5 : Option V, σ = [some (.ref c), some (.ref t), some (.ref u), some (.int (heldAll (B.take i) h)), v4, v5] ∧ i ≤ B.length ∧ CkE CK H2 c dd (W ++ walkAll (B.take i) p 0) ∧ Kp dd H H2) ?_ ?_ ?_ ?_⟩
  · exact ⟨none, none, by rw [List.take_zero, heldAll]; rfl, Nat.zero_le _, by rw [List.take_zero, walkAll, List.append_nil]; exact C, Kp.refl _ _⟩
  · rintro i σ H2 _ ⟨v4, v5, rfl, _, C2, k2⟩
    obtain ⟨_, kvs, hk, _⟩ := C
    exact SqT.of (k2.tkD hk _ _ ht)
  · rintro i x Tp σ H2 hx ⟨v4, v5, rfl, hi, C2, k2⟩ hT
    obtain ⟨_, kvs, hk, _⟩ := id C
    have tk := k2.tkD hk
    have lt : i < B.length := by have := (List.getElem?_eq_some_iff.mp hx).1; omega
    have hs : B[i]? = some B[i] := List.getElem?_eq_getElem lt
    obtain ⟨v, hv, sv⟩ := atAll_get hB hs
    have exv : x = v := Option.some.inj (hx.symm.trans hv)
    subst exv
    have s1 := same_new hT (.tup [.int (i : Nat), x])
    have et : B.take (i + 1) = B.take i ++ [B[i]] := by rw [List.take_add_one, hs]; rfl
    have okB : okAll d (B.take i) h ∧ B[i].ok d (heldAll (B.take i) h) := by
      have z : B = B.take i ++ (B[i] :: B.drop (i + 1)) := by rw [← List.drop_eq_getElem_cons lt, List.take_append_drop]
      have app : ∀ (X Y : List Stm) (h : Int), okAll d (X ++ Y) h → okAll d X h ∧ okAll d Y (heldAll X h) := by
        intro X
        induction X with
        | nil => intro Y h g; exact ⟨by rw [okAll]; trivial, by rw [heldAll]; exact g⟩
        | cons a r ih =>
          intro Y h g
          have g' : okAll d (a :: (r ++ Y)) h := g
          rw [okAll] at g'
          obtain ⟨g1, g2⟩ := ih Y _ g'.2
          exact ⟨by rw [okAll]; exact ⟨g'.1, g1⟩, by rw [heldAll]; exact g2⟩
      rw [z] at ok
      obtain ⟨o1, o2⟩ := app _ _ _ ok
      rw [okAll] at o2
      exact ⟨o1, o2.1⟩
    refine ⟨Tp, _, rfl, SqT.of upd_same, rfl, _, _, rfl, _, _, rfl, rfl, ?_⟩
    obtain ⟨⟨dx, hc⟩, _⟩ := C2.keep s1
    refine ⟨_, rfl, c, dx, _, rfl, hc, rfl, _, rfl, _, rfl, _, rfl, (by show 1 ≤ sizeLine; decide), ?_⟩
    refine fun t2 ht2 => cat_one (p := p) (j := (i : Nat)) (s1 _ _ (tk _ _ hu)) (by omega) (fun y H3 hy s3 => ?_) t2 ht2
    have s13 := s1.trans s3
    have cn : cntAll (B.take i) + B[i].cnt ≤ cntAll B := by
      have z : B = B.take i ++ (B[i] :: B.drop (i + 1)) := by rw [← List.drop_eq_getElem_cons lt, List.take_append_drop]
      have z2 := congrArg cntAll z
      rw [cntAll_app, cntAll] at z2
      omega
    refine ⟨_, rfl, c, dd, y, x, _, B[i], d, p ++ [((i : Nat) : Int)], _, rfl, hd3, hd2, C2.keep s13, Stm.at_keep (tk.trans (TK.of_same s13)) _ _ sv, hy, by rw [List.length_append, hp]; rfl, okB.2, ?_, ?_, fun H4 C4 k4 => ?_⟩
    · rw [List.length_append, walkAll_len]; omega
    · intro q'
      have e : (p ++ [((i : Nat) : Int)]) ++ q' = p ++ ((i : Nat) : Int) :: q' := by simp
      rw [e, lk_app, hW, walkAll_lk]
      have z : nth (B.take i) (((i : Nat) : Int) - ((0 : Nat) : Int)) = none := by
        unfold nth
        rw [if_pos (by omega), List.getElem?_eq_none (by rw [List.length_take]; omega)]
      rw [z]; rfl
    · refine ⟨some (.int (i : Nat)), some x, ?_, lt, ?_, (k2.trans (Kp.of_same s13)).trans k4⟩
      · rw [et, heldAll_snoc]; rfl
      · rw [et, walkAll_snoc]
        have e : 0 + (B.take i).length = i := by rw [List.length_take]; omega
        rw [e, ← List.append_assoc]
        exact C4
  · rintro σ H2 ⟨v4, v5, rfl, hi, C2, k2⟩
    rw [hl, List.take_length] at C2
    refine ⟨_, rfl, ?_⟩
    rw [hl, List.take_length]
    exact q H2 C2 k2
theorem wd_lv (w : Wd) : inV (V.str w.s) [V.str "commit", V.str "rollback", V.str "leave"] = decide (w = .commit ∨ w = .rollback ∨ w = .leave) := by cases w <;> decide +kernel
theorem lk_lv (b : Bool) : inV (V.str (lockS b)) [V.str "commit", V.str "rollback", V.str "leave"] = false := by cases b <;> decide +kernel
def heldS (z : Str) (h : Int) : Int := if z = "take" then h + 1 else if inV (V.str z) [V.str "commit", V.str "rollback", V.str "leave"] = true then 0 else h
theorem heldS_wd (w : Wd) (h : Int) : heldS w.s h = w.held h := by
  unfold heldS
  rw [wd_lv]
  cases w <;> first | rfl | (rw [if_neg (by decide +kernel)]; rfl)
theorem heldS_lk (b : Bool) (h : Int) : heldS (lockS b) h = h := by
  unfold heldS
  rw [lk_lv]
  cases b <;> (rw [if_neg (by decide +kernel)]; rfl)
def spHeld : Sp := fun vs H Q _ => ∃ (z : Str) (h : Int), vs = [.str z, .int h] ∧ ∀ H', Same H H' → Q (.int (heldS z h)) H'
theorem scHA : FnScope ["word", "held"] ["word", "held"] (defScope sHeld) := ⟨rfl, rfl, rfl, by decide +kernel, rfl, by decide +kernel, by decide +kernel⟩
theorem ok_held {f : Addr} {fd : FuncData} (F : Fun K "held_after" "held_after" sHeld f fd) : FnOk P w K mg base CX0 1 f fd ["word", "held"] spHeld := by
  refine F.ok scHA (fun vs H Q E h => ?_) (fun cdv A outer s H vs Q E hr h => ?_)
  · obtain ⟨z, h, rfl, _⟩ := h
    rfl
  obtain ⟨z, h, rfl, q⟩ := h
  refine ⟨_, pss_cons (ps_if (pt_cmpR op_eq (pv 0) pe_str (nomark _)) (pss_one (ps_ret (pe_op op_add (pv 1) pe_int))) pss_nil)
    (pss_one (ps_ret (pe_ifExp (pt_cmpR op_in_seq (pv 0) (pe_tup (pa_cons pe_str (pa_cons pe_str (pa_cons pe_str pa_nil)))) (by rfl)) pe_int (pv 1)))), ?_⟩
  refine ⟨_, rfl, rfl, _, rfl, ?_⟩
  by_cases ct : z = "take"
  · subst ct
    exact iteTb (decide_eq_true rfl) ⟨_, rfl, _, _, rfl, rfl, by have := q H (Same.refl H); rwa [show heldS "take" h = h + 1 from rfl] at this⟩
  · refine iteFb (decide_eq_false (fun e => ct (V.str.inj e))) ?_
    refine ⟨_, rfl, (by show 3 ≤ sizeLine; decide), fun t htn => ⟨t, _, rfl, .inr (SqT.of upd_same), rfl, rfl, _, rfl, ?_⟩⟩
    have fin := q _ (same_new htn (.tup [.str "commit", .str "rollback", .str "leave"]))
    unfold heldS at fin
    rw [if_neg ct] at fin
    show if (inV (V.str z) [V.str "commit", V.str "rollback", V.str "leave"]) = true then _ else _
    by_cases c : inV (V.str z) [V.str "commit", V.str "rollback", V.str "leave"] = true
    · rw [if_pos c] at fin
      exact iteTb c fin
    · rw [if_neg c] at fin
      exact iteFb (by simpa using c) ⟨_, rfl, fin⟩
theorem scKS : FnScope ["self", "statement", "place", "held", "why", "yes", "no"] psKS (defScope sKSt) := ⟨rfl, rfl, rfl, by decide +kernel, rfl, by decide +kernel, by decide +kernel⟩
theorem ok_kst {m n : Nat} {f fB fF fH : Addr} {fd fdB fdF fdH : FuncData} (hn : 2 ≤ n) (F : Fun K "check_statement" "Check.check_statement" sKSt f fd) (B : Bl mg) (T : Txt K w mg CS CK it) (GB : FnOk P w K mg base CX0 n fB fdB psKB (spKB CK m)) (bB : Binds K fdB psKB []) (mB : Meth K CK "check_branch" fB)
    (GF : FnOk P w K mg base CX0 2 fF fdF ["statement", "place", "earlier", "held"] spFault) (bF : Binds K fdF ["statement", "place", "earlier", "held"] []) (kF : PySem.W.keepIn K (.ref fF) = true) (mF : mg "fault_of" = some (.ref fF))
    (GH : FnOk P w K mg base CX0 1 fH fdH ["word", "held"] spHeld) (bH : Binds K fdH ["word", "held"] []) (kH : PySem.W.keepIn K (.ref fH) = true) (mH : mg "held_after" = some (.ref fH)) :
    FnOk P w K mg base CX0 (n + 1) f fd psKS (spKS CK (m + 1)) := by
  refine F.ok scKS (fun vs H Q E h => ?_) (fun cdv A outer s H vs Q E hr h => ?_)
  · obtain ⟨c, dd, u, v, h, s, d, p, W, rfl, _⟩ := h
    rfl
  obtain ⟨c, dd, u, v, h, s, d, p, W, rfl, hd3, hd2, C, hs, hu, hp, ok, hn8, hW, q⟩ := h
  have hu' := hu_of hr
  have hr2 : Room 2 _ := hr.mono hn
  have hr1 : Room 1 _ := hr2.mono (by decide)
  refine ⟨_, pss_cons (ps_set (i := 4) scKS.nd rfl (Or.inl rfl) (pe_call GF hr2 rfl mF kF bF .nil pass0 (pa_cons (pv 1) (pa_cons (pv 2) (pa_cons (pe_callB call_len_dT (by rfl) B.len PySem.boot_len (pa_cons (pe_fld (pv 0) rfl) pa_nil)) (pa_cons (pv 3) pa_nil))))))
    (pss_cons (ps_if (pt_cmpR op_notN (pv 4) pe_non (nomark _)) (pss_one ps_never) pss_nil)
    (pss_cons (ps_dput hu' (pe_fld (pv 0) rfl) (pv 2) (pv 1) rfl)
    (pss_cons (ps_if (pt_cmpR op_eq (pe_ix ix_tup (pv 1) pe_int (fun _ _ => rfl)) pe_str (nomark _))
      (pss_cons (ps_set (i := 5) scKS.nd rfl (Or.inl rfl) (pe_meth (pv 0) T.clK mB GB hr bB .nil pass0 (pa_cons (pe_ix ix_tup (pv 1) pe_int (fun _ _ => rfl)) (pa_cons (pe_op op_catA (pv 2) (pe_tup (pa_cons pe_int pa_nil))) (pa_cons (pv 3) pa_nil)))))
      (pss_cons (ps_set (i := 6) scKS.nd rfl (Or.inl rfl) (pe_meth (pv 0) T.clK mB GB hr bB .nil pass0 (pa_cons (pe_ix ix_tup (pv 1) pe_int (fun _ _ => rfl)) (pa_cons (pe_op op_catA (pv 2) (pe_tup (pa_cons pe_int pa_nil))) (pa_cons (pv 3) pa_nil)))))
      (pss_one (ps_ret (pe_callB (call_max2 rfl) (by rfl) B.max (by decide +kernel) (pa_cons (pv 5) (pa_cons (pv 6) pa_nil))))))) pss_nil)
    (pss_one (ps_ret (pe_call GH hr1 rfl mH kH bH .nil pass0 (pa_cons (pe_ix ix_tup (pv 1) pe_int (fun _ _ => rfl)) (pa_cons (pv 3) pa_nil)))))))), ?_⟩
  obtain ⟨⟨dx, hc⟩, kvs, hk, fr⟩ := id C
  have wl := fr.len
  have sp := cnt_pos s
  refine ⟨_, rfl, _, rfl, _, rfl, c, CK, dx, _, _, rfl, hc, T.clK, T.kF, rfl, dd, kvs, rfl, hk, _, rfl, v, u, _, h, s, d, _, rfl, hs, hu, by rw [List.length_map]; exact hp, by omega, ok, fun H1 s1 => ?_⟩
  refine ⟨_, rfl, rfl, _, rfl, iteF ?_⟩
  have ekv : (key p).map kV = p.map V.int := key_kV p
  have nodd : c ≠ dd := ne_of (s1 _ _ hc) (s1 _ _ hk) (by intro z; cases z)
  refine ⟨_, rfl, _, rfl, c, CK, dx, _, _, rfl, s1 _ _ hc, T.clK, T.kF, rfl, _, rfl, dd, _, rfl, DPut.t (k := key p) (s1 _ _ hk) (by rw [ekv]; exact s1 _ _ hu) (small1000 (by omega)), ?_⟩
  have non : valV kvs (key p) = none := (fr.val p).1 (by have := hW []; rwa [List.append_nil] at this)
  rw [putK_new _ non]
  have k2 : Kp dd H (L2.upd H1 dd (.dT (kvs ++ [(key p, v)]))) := (Kp.of_same s1).trans Kp.upd
  have tk2 : TK H (L2.upd H1 dd (.dT (kvs ++ [(key p, v)]))) := k2.tkD hk
  have C2 : CkE CK (L2.upd H1 dd (.dT (kvs ++ [(key p, v)]))) c dd (W ++ [(p, s)]) := ⟨⟨dx, by rw [upd_ne nodd]; exact s1 _ _ hc⟩, _, upd_same, FRel.snoc (Stm.at_keep tk2 _ _ hs) (fr.keep tk2)⟩
  generalize L2.upd H1 dd (.dT (kvs ++ [(key p, v)])) = H2 at k2 tk2 C2 ⊢
  have hs2 := Stm.at_keep tk2 _ _ hs
  have hu2 := tk2 _ _ hu
  cases s with
  | one wd =>
    rw [Stm.at] at hs2
    obtain ⟨a, rfl, ha⟩ := hs2
    have ew : (Stm.one wd).walk p = [(p, .one wd)] := by rw [Stm.walk]
    have eh : (Stm.one wd).held h = wd.held h := by rw [Stm.held]
    rw [ew, eh] at q
    refine ⟨_, rfl, a, _, _, _, rfl, rfl, SqT.of ha, rfl, ?_⟩
    refine ⟨rfl, _, rfl, iteFb (wd_ne wd) ?_⟩
    refine ⟨_, rfl, a, _, _, _, rfl, rfl, SqT.of ha, rfl, _, rfl, _, _, rfl, fun H3 s3 => ?_⟩
    rw [heldS_wd]
    exact q _ (C2.keep s3) (k2.trans (Kp.of_same s3))
  | nam b z =>
    rw [Stm.at] at hs2
    obtain ⟨a, rfl, ha⟩ := hs2
    have ew : (Stm.nam b z).walk p = [(p, .nam b z)] := by rw [Stm.walk]
    have eh : (Stm.nam b z).held h = h := by rw [Stm.held]
    rw [ew, eh] at q
    refine ⟨_, rfl, a, _, _, _, rfl, rfl, SqT.of ha, rfl, ?_⟩
    refine ⟨rfl, _, rfl, iteFb (lk_ne b) ?_⟩
    refine ⟨_, rfl, a, _, _, _, rfl, rfl, SqT.of ha, rfl, _, rfl, _, _, rfl, fun H3 s3 => ?_⟩
    rw [heldS_lk]
    exact q _ (C2.keep s3) (k2.trans (Kp.of_same s3))
  | ch y n' =>
    rw [Stm.at] at hs2
    obtain ⟨a, b1, b2, xs, ys, rfl, ha, hb1, aty, hb2, atn⟩ := hs2
    have ew : (Stm.ch y n').walk p = (p, .ch y n') :: (walkAll y (p ++ [0]) 0 ++ walkAll n' (p ++ [1]) 0) := by rw [Stm.walk]
    have eh : (Stm.ch y n').held h = max (heldAll y h) (heldAll n' h) := by rw [Stm.held]
    have ec : (Stm.ch y n').cnt = 1 + cntAll y + cntAll n' := by rw [Stm.cnt]
    rw [ew, eh] at q
    rw [ec] at hn8
    rw [Stm.ok] at ok
    refine ⟨_, rfl, a, _, _, _, rfl, rfl, SqT.of ha, rfl, ?_⟩
    refine ⟨rfl, _, rfl, iteTb (by decide +kernel) ?_⟩
    obtain ⟨dx2, hc2⟩ := C2.1
    have kvd : ∃ kv2, H2 dd = some (.dT kv2) := let ⟨_, x, y, _⟩ := C2; ⟨x, y⟩
    obtain ⟨kv2, hk2⟩ := kvd
    refine ⟨_, rfl, c, dx2, _, rfl, hc2, rfl, _, rfl, a, _, _, _, rfl, rfl, SqT.of ha, rfl, _, rfl, (by show 1 ≤ sizeLine; decide), ?_⟩
    refine fun t2 ht2 => cat_one (p := p) (j := 0) hu2 (by omega) (fun y1 H3 hy1 s3 => ?_) t2 ht2
    have tk3 := TK.of_same s3
    refine ⟨_, rfl, c, dd, b1, y1, xs, h, y, d + 1, p ++ [0], W ++ [(p, .ch y n')], rfl, by omega, by omega, C2.keep s3, s3 _ _ hb1, atAll_keep tk3 _ _ aty, hy1, by rw [List.length_append, hp]; show 2 * d + 1 + 1 = _; omega, ok.2.1, by rw [List.length_append]; show W.length + 1 + cntAll y ≤ 8; omega, ?_, fun H4 C4 k4 => ?_⟩
    · intro j q'
      have e : (p ++ [(0 : Int)]) ++ j :: q' = p ++ ((0 : Int) :: j :: q') := by simp
      rw [lk_app, e, hW, lk, if_neg (fun z => by have := congrArg List.length z; simp at this), lk]; rfl
    have tk4 : TK H3 H4 := k4.tkD (s3 _ _ hk2)
    have tk34 := tk3.trans tk4
    obtain ⟨dx4, hc4⟩ := C4.1
    refine ⟨_, rfl, c, dx4, _, rfl, hc4, rfl, _, rfl, a, _, _, _, rfl, rfl, SqT.of (tk34 _ _ ha), rfl, _, rfl, (by show 1 ≤ sizeLine; decide), ?_⟩
    refine fun t5 ht5 => cat_one (p := p) (j := 1) (tk34 _ _ hu2) (by omega) (fun y2 H5 hy2 s5 => ?_) t5 ht5
    have tk5 := tk34.trans (TK.of_same s5)
    refine ⟨_, rfl, c, dd, b2, y2, ys, h, n', d + 1, p ++ [1], _, rfl, by omega, by omega, C4.keep s5, tk5 _ _ hb2, atAll_keep tk5 _ _ atn, hy2, by rw [List.length_append, hp]; show 2 * d + 1 + 1 = _; omega, ok.2.2, by rw [List.length_append, List.length_append, walkAll_len]; show W.length + 1 + cntAll y + cntAll n' ≤ 8; omega, ?_, fun H6 C6 k6 => ?_⟩
    · intro j q'
      have e : (p ++ [(1 : Int)]) ++ j :: q' = p ++ ((1 : Int) :: j :: q') := by simp
      have z := walkAll_none y (p ++ [0]) 0 (p ++ ((1 : Int) :: j :: q')) (fun j' q'' => pre_ne (by decide) _)
      rw [lk_app, lk_app, e, z, hW, lk, if_neg (fun z => by have := congrArg List.length z; simp at this), lk]; rfl
    refine ⟨_, rfl, _, rfl, _, _, rfl, ?_⟩
    show Q (.int (if heldAll n' h > heldAll y h then heldAll n' h else heldAll y h)) H6
    rw [max_if]
    refine q H6 ?_ ((((k2.trans (Kp.of_same s3)).trans k4).trans (Kp.of_same s5)).trans k6)
    have e : W ++ (p, Stm.ch y n') :: (walkAll y (p ++ [0]) 0 ++ walkAll n' (p ++ [1]) 0) = W ++ [(p, .ch y n')] ++ walkAll y (p ++ [0]) 0 ++ walkAll n' (p ++ [1]) 0 := by simp
    rw [e]
    exact C6
end
end Tk
set_option maxRecDepth 100000
namespace Tk
open PySem L2
/-! ## a Script -/
theorem k1 : ¬ (("statements" : Str) = "found") := by decide +kernel
theorem k2' : ¬ (("statements" : Str) = "places") := by decide +kernel
theorem k3 : ¬ (("found" : Str) = "places") := by decide +kernel
def flds (t dd pl : Addr) : List (Str × V) := [("statements", .ref t), ("found", .ref dd), ("places", .ref pl)]
theorem flds_put (t dd pl : Addr) : putF "places" (.ref pl) (putF "found" (.ref dd) (putF "statements" (.ref t) [])) = flds t dd pl := by
  simp only [putF, if_neg k1, if_neg k2', if_neg k3]
  rfl
theorem flds_st (t dd pl : Addr) : (flds t dd pl).lookup ("statements" : Str) = some (.ref t) := by
  rw [← flds_put, lookup_putF, if_neg (by decide +kernel), lookup_putF, if_neg (by decide +kernel), lookup_putF, if_pos rfl]
theorem flds_fo (t dd pl : Addr) : (flds t dd pl).lookup ("found" : Str) = some (.ref dd) := by
  rw [← flds_put, lookup_putF, if_neg (by decide +kernel), lookup_putF, if_pos rfl]
theorem flds_pl (t dd pl : Addr) : (flds t dd pl).lookup ("places" : Str) = some (.ref pl) := by
  rw [← flds_put, lookup_putF, if_pos rfl]
theorem flds_no (t dd pl : Addr) {m : Str} (h1 : ¬ m = "statements") (h2 : ¬ m = "found") (h3 : ¬ m = "places") : (flds t dd pl).lookup m = none := by
  rw [← flds_put, lookup_putF, if_neg h3, lookup_putF, if_neg h2, lookup_putF, if_neg h1]; rfl
/-- x is the Script of the statements S, which stand at t -/
structure Sc (CS : Addr) (H : Hp) (x t : Addr) (S : List Stm) : Prop where
  ex : ∃ dx dd pl bs kvs xs, H x = some (.ins CS dx (flds t dd pl)) ∧ H t = some (.tup xs) ∧ atAll H xs S ∧ H dd = some (.dT kvs) ∧ FRel H kvs (walkAll S [] 0) ∧ H pl = some (.tup (bs.map V.ref)) ∧ IsKeys H kvs bs
  ne : S ≠ []
  ok : okAll 0 S 0
  few : cntAll S ≤ 8
theorem keys_keep {H H' : Hp} {kvs : List (List Key × V)} {bs : List Addr} (k : TK H H') (h : IsKeys H kvs bs) : IsKeys H' kvs bs := by
  unfold IsKeys at h ⊢
  exact L2.Paired.mapP h fun a b q => k _ _ q
theorem Sc.keep {CS : Addr} {H H' : Hp} {x t : Addr} {S : List Stm} (h : Sc CS H x t S) (s : Same H H') : Sc CS H' x t S := by
  obtain ⟨⟨dx, dd, pl, bs, kvs, xs, h1, h2, h3, h4, h5, h6, h7⟩, a, b, c⟩ := h
  have tk := TK.of_same s
  exact ⟨⟨dx, dd, pl, bs, kvs, xs, s _ _ h1, s _ _ h2, atAll_keep tk _ _ h3, s _ _ h4, h5.keep tk, s _ _ h6, keys_keep tk h7⟩, a, b, c⟩
theorem Sc.kp {CS p : Addr} {H H' : Hp} {x t : Addr} {S : List Stm} {ys : List V} (h : Sc CS H x t S) (s : Kp p H H') (hp : H p = some (.lst ys)) : Sc CS H' x t S := by
  obtain ⟨⟨dx, dd, pl, bs, kvs, xs, h1, h2, h3, h4, h5, h6, h7⟩, a, b, c⟩ := h
  have tk := s.tk hp
  exact ⟨⟨dx, dd, pl, bs, kvs, xs, s _ _ h1 (ne_of h1 hp (by intro z; cases z)), tk _ _ h2, atAll_keep tk _ _ h3, s _ _ h4 (ne_of h4 hp (by intro z; cases z)), h5.keep tk, tk _ _ h6, keys_keep tk h7⟩, a, b, c⟩
/-- values by their kinds -/
inductive Kd (H : Hp) : V → String → Prop
  | non : Kd H .non "NoneType"
  | bl (b : Bool) : Kd H (.bl b) "bool"
  | int (i : Int) : Kd H (.int i) "int"
  | str (z : Str) : Kd H (.str z) "str"
  | lst {a : Addr} {xs : List V} (e : H a = some (.lst xs)) : Kd H (.ref a) "list"
  | tup {a : Addr} {xs : List V} (e : H a = some (.tup xs)) : Kd H (.ref a) "tuple"
  | dK {a : Addr} {kvs : List (Key × V)} (e : H a = some (.dK kvs)) : Kd H (.ref a) "dict"
theorem Kd.ty {K : PySem.W.Frag} {H : Hp} {v : V} {T : String} (k : Kd H v T) : TyX K H v (.type T) := by
  cases k with
  | non => exact .base .non
  | bl b => exact .base (.bl b)
  | int i => exact .base (.int i)
  | str z => exact .base (.str z)
  | lst e => exact .base (.lst e)
  | tup e => exact .base (.tup e)
  | dK e => exact .base (.dK e)
theorem Kd.keep {H H' : Hp} {v : V} {T : String} (s : Same H H') (k : Kd H v T) : Kd H' v T := by
  cases k with
  | non => exact .non
  | bl b => exact .bl b
  | int i => exact .int i
  | str z => exact .str z
  | lst e => exact .lst (s _ _ e)
  | tup e => exact .tup (s _ _ e)
  | dK e => exact .dK (s _ _ e)
def intB : V → Bool
  | .int _ => true
  | _ => false
theorem Kd.intB {H : Hp} {v : V} {T : String} (k : Kd H v T) : ∃ b1 b2, kitB T "int" = some b1 ∧ kitB T "bool" = some b2 ∧ (b1 && !b2) = Tk.intB v := by
  cases k with
  | non => exact ⟨false, false, by decide +kernel, by decide +kernel, rfl⟩
  | bl b => exact ⟨true, true, by decide +kernel, by decide +kernel, rfl⟩
  | int i => exact ⟨true, false, by decide +kernel, by decide +kernel, rfl⟩
  | str z => exact ⟨false, false, by decide +kernel, by decide +kernel, rfl⟩
  | lst e => exact ⟨false, false, by decide +kernel, by decide +kernel, rfl⟩
  | tup e => exact ⟨false, false, by decide +kernel, by decide +kernel, rfl⟩
  | dK e => exact ⟨false, false, by decide +kernel, by decide +kernel, rfl⟩
def spSInit (CS : Addr) : Sp := fun vs H Q _ => ∃ (x t dx : Addr) (xs : List V) (S : List Stm), vs = [.ref x, .ref t] ∧ H x = some (.ins CS dx []) ∧ H t = some (.tup xs) ∧ atAll H xs S ∧ S ≠ [] ∧ okAll 0 S 0 ∧ cntAll S ≤ 8 ∧
  ∀ H', Sc CS H' x t S → Kp x H H' → Q .non H'
def spHas (CS : Addr) : Sp := fun vs H Q _ => ∃ (x t : Addr) (v : V) (S : List Stm), vs = [.ref x, v] ∧ Sc CS H x t S ∧
  ((∃ T, Kd H v T ∧ kitB T "tuple" = some false ∧ Q (.bl false) H) ∨
   ∃ (u : Addr) (xs : List V), v = .ref u ∧ H u = some (.tup xs) ∧ xs.length ≤ 100 ∧ (∀ y ∈ xs, ∃ T, Kd H y T) ∧ (xs.all intB = false → ∀ H', Same H H' → Q (.bl false) H') ∧ (∀ p, xs = p.map V.int → ∀ H', Same H H' → Q (.bl (look S p).isSome) H'))
/-- a place that is there -/
def spGet (CS : Addr) : Sp := fun vs H Q _ => ∃ (x t u : Addr) (S : List Stm) (p : Pl) (s : Stm), vs = [.ref x, .ref u] ∧ Sc CS H x t S ∧ H u = some (.tup (p.map V.int)) ∧ p.length ≤ 100 ∧ look S p = some s ∧
  ∀ (v : V) (H' : Hp), Same H H' → s.at H' v → Q v H'
def spSLen (CS : Addr) : Sp := fun vs H Q _ => ∃ (x t : Addr) (S : List Stm), vs = [.ref x] ∧ Sc CS H x t S ∧ Q (.int (cntAll S : Nat)) H
section
variable {P : Program} {w : World} {K : PySem.W.Frag} {mg : Str → Option Value} {base : Heap} {CS CK it : Addr}
theorem scSI : FnScope ["self", "statements", "check"] ["self", "statements"] (defScope sSInit) := ⟨rfl, rfl, rfl, by decide +kernel, rfl, by decide +kernel, by decide +kernel⟩
theorem ok_sinit {f fI fB : Addr} {fd fdI fdB : FuncData} (F : Fun K "__init__" "Script.__init__" sSInit f fd) (B : Bl mg) (T : Txt K w mg CS CK it) (M : Mk K CK fI) (GI : FnOk P w K mg base CX0 1 fI fdI ["self"] (spKInit CK)) (bI : Binds K fdI ["self"] [])
    (GB : FnOk P w K mg base CX0 8 fB fdB psKB (spKB CK 3)) (bB : Binds K fdB psKB []) (mB : Meth K CK "check_branch" fB) : FnOk P w K mg base CX0 9 f fd ["self", "statements"] (spSInit CS) := by
  refine F.ok scSI (fun vs H Q E h => ?_) (fun cdv A outer s H vs Q E hr h => ?_)
  · obtain ⟨x, t, dx, xs, S, rfl, _⟩ := h
    rfl
  obtain ⟨x, t, dx, xs, S, rfl, hx, ht, hS, ne, ok, few, q⟩ := h
  have hr2 : Room 2 _ := hr.mono (by decide)
  refine ⟨_, pss_cons (ps_if (pt_not (pt_val (pe_callB call_isi (by rfl) T.isi (by decide +kernel) (pa_cons (pv 1) (pa_cons (pe_bltn (v := .ty "tuple") (by rfl) B.tuple (by decide +kernel) rfl) pa_nil))))) (pss_one ps_never) pss_nil)
    (pss_cons (ps_if (pt_not (pt_truth (pv 1) (by intro _; rfl))) (pss_one ps_never) pss_nil)
    (pss_cons (ps_set (i := 2) scSI.nd rfl (Or.inl rfl) (pe_make0 M GI hr2 rfl T.mgK bI .nil pass0))
    (pss_cons (ps_expr (pe_meth (pv 2) T.clK mB GB hr bB .nil pass0 (pa_cons (pv 1) (pa_cons (pe_tup pa_nil) (pa_cons pe_int pa_nil)))))
    (pss_cons (ps_fld (pv 0) (pv 1) rfl)
    (pss_cons (ps_fld (pv 0) (pe_fld (pv 2) rfl) rfl)
    (pss_one (ps_fld (pv 0) (pe_callTy call_tuple_of (by rfl) B.tuple (by decide +kernel) (pa_cons (pe_callTy (call_list_dT rfl) (by rfl) T.list (by decide +kernel) (pa_cons (pe_fld (pv 0) rfl) pa_nil)) pa_nil)) rfl))))))), ?_⟩
  refine ⟨_, rfl, _, _, _, _, true, rfl, .ty "tuple", .base (.tup ht), kit_ty (by decide +kernel), true, rfl, iteF ?_⟩
  have nx : xs.isEmpty = false := by
    have hl := atAll_len hS
    cases xs with
    | nil => exact absurd (List.length_eq_zero_iff.mp hl.symm) ne
    | cons _ _ => rfl
  refine ⟨_, rfl, true, .inr (.inl ⟨_, SqT.of ht, by rw [nx]; rfl⟩), iteF ?_⟩
  intro c dc nc ndc ndcc
  refine ⟨c, dc, rfl, upd_same, fun dd H1 hdd C k1 => ⟨rfl, ?_⟩⟩
  have s0 : Same H (L2.upd (L2.upd H dc (.own c)) c (.ins CK dc [])) := fun b o e => by
    rw [upd_ne (ne_of_none e nc), upd_ne (ne_of_none e ndc)]; exact e
  have s1 : Same H H1 := fun b o e => k1 b o (s0 b o e) (ne_of_none e nc)
  have hdd0 : H dd = none := s0.free hdd
  obtain ⟨⟨dxc, hc1⟩, kvs0, hk0, _⟩ := id C
  refine ⟨_, rfl, c, dxc, _, rfl, hc1, rfl, _, rfl, (by show 0 ≤ sizeLine; decide), fun e he => ?_⟩
  have s2 := s1.trans (same_new he (.tup []))
  have s12 := same_new he (.tup [])
  refine ⟨c, dd, t, e, xs, 0, S, 0, [], [], rfl, rfl, by decide, C.keep s12, s2 _ _ ht, atAll_keep (TK.of_same s2) _ _ hS, upd_same, rfl, ok, by show 0 + cntAll S ≤ 8; omega, fun j q' => rfl, fun H3 C3 k3 => ?_⟩
  have k03 : Kp dd H H3 := (Kp.of_same s2).trans k3
  have s3 : Same H H3 := fun b o e => k03 b o e (ne_of_none e hdd0)
  obtain ⟨⟨dx3, hc3⟩, kvs, hk3, fr3⟩ := C3
  have nxc : x ≠ c := ne_of_none hx nc
  have nxd : x ≠ dd := ne_of_none hx hdd0
  refine ⟨_, rfl, _, rfl, x, CS, dx, [], rfl, s3 _ _ hx, T.clS, T.nS, (by show 0 < 1000; decide), ?_⟩
  refine ⟨_, rfl, c, CK, dx3, _, _, rfl, by rw [upd_ne nxc.symm]; exact hc3, T.clK, T.kF, rfl, _, rfl, x, CS, dx, _, rfl, upd_same, T.clS, T.nF, (by show 1 < 1000; decide), ?_⟩
  have hk5 : ∀ o1 o2, (L2.upd (L2.upd H3 x o1) x o2) dd = some (.dT kvs) := fun o1 o2 => by rw [upd_ne nxd.symm, upd_ne nxd.symm]; exact hk3
  refine ⟨_, rfl, x, CS, dx, _, _, rfl, upd_same, T.clS, T.nF, (by rw [lookup_putF, if_pos rfl]), dd, kvs, rfl, .inl (hk5 _ _), fun l bs hl hkeys => ?_⟩
  refine ⟨l, _, rfl, .inl ⟨SqL.of upd_same, fun pl hpl => ?_⟩⟩
  have nxl : x ≠ l := ne_of_none upd_same hl
  have nxp : x ≠ pl := ne_of_none (H := L2.upd (L2.upd (L2.upd H3 x _) x _) l _) (by rw [upd_ne nxl]; exact upd_same) hpl
  refine ⟨_, rfl, x, CS, dx, _, rfl, by rw [upd_ne nxp, upd_ne nxl]; exact upd_same, T.clS, T.nP, (by show 2 < 1000; decide), ?_⟩
  rw [flds_put]
  have kx : Kp x H3 (L2.upd (L2.upd (L2.upd (L2.upd (L2.upd H3 x (.ins CS dx (putF "statements" (.ref t) []))) x (.ins CS dx (putF "found" (.ref dd) (putF "statements" (.ref t) [])))) l (.lst (bs.map V.ref))) pl (.tup (bs.map V.ref))) x (.ins CS dx (flds t dd pl))) := by
    intro b o e nb
    have eb : (L2.upd (L2.upd H3 x (.ins CS dx (putF "statements" (.ref t) []))) x (.ins CS dx (putF "found" (.ref dd) (putF "statements" (.ref t) [])))) b = some o := by rw [upd_ne nb, upd_ne nb]; exact e
    have el : (L2.upd (L2.upd (L2.upd H3 x (.ins CS dx (putF "statements" (.ref t) []))) x (.ins CS dx (putF "found" (.ref dd) (putF "statements" (.ref t) [])))) l (.lst (bs.map V.ref))) b = some o := by rw [upd_ne (ne_of_none eb hl)]; exact eb
    rw [upd_ne nb, upd_ne (ne_of_none el hpl)]
    exact el
  have tkx : TK H3 _ := fun b ys e => kx b _ e (ne_of e (s3 _ _ hx) (by intro z; cases z))
  refine q _ ⟨⟨dx, dd, pl, bs, kvs, xs, upd_same, tkx _ _ (s3 _ _ ht), atAll_keep (TK.trans (TK.of_same s3) tkx) _ _ hS, kx _ _ hk3 nxd.symm, FRel.keep tkx fr3, ?_, ?_⟩, ne, ok, few⟩ ((Kp.of_same s3).trans kx)
  · rw [upd_ne nxp.symm, upd_same]
  · refine L2.Paired.mapP hkeys fun a b e => ?_
    have nbx : b ≠ x := fun z => by rw [z, upd_same] at e; cases e
    rw [upd_ne nbx, upd_ne nbx] at e
    exact kx b _ e nbx
theorem keys_len {H : Hp} : ∀ {kvs : List (List Key × V)} {bs : List Addr}, IsKeys H kvs bs → kvs.length = bs.length
  | _, _, h => PySem.Paired.length h
theorem scSL : FnScope ["self"] ["self"] (defScope sSLen) := ⟨rfl, rfl, rfl, by decide +kernel, rfl, by decide +kernel, by decide +kernel⟩
theorem ok_slen {f : Addr} {fd : FuncData} (F : Fun K "__len__" "Script.__len__" sSLen f fd) (B : Bl mg) (T : Txt K w mg CS CK it) : FnOk P w K mg base CX0 1 f fd ["self"] (spSLen CS) := by
  refine F.ok scSL (fun vs H Q E h => ?_) (fun cdv A outer s H vs Q E hr h => ?_)
  · obtain ⟨x, t, S, rfl, _⟩ := h
    rfl
  obtain ⟨x, t, S, rfl, ⟨⟨dx, dd, pl, bs, kvs, xs, h1, h2, h3, h4, h5, h6, h7⟩, _⟩, q⟩ := h
  refine ⟨_, pss_one (ps_ret (pe_callB call_len_seq (by rfl) B.len PySem.boot_len (pa_cons (pe_fld (pv 0) rfl) pa_nil))), ?_⟩
  have e : (((bs.map V.ref).length : Nat) : Int) = ((cntAll S : Nat) : Int) := by
    rw [List.length_map, ← keys_len h7, h5.len, walkAll_len]
  refine ⟨_, rfl, x, CS, dx, _, _, rfl, h1, T.clS, T.nP, flds_pl _ _ _, pl, _, rfl, .inr (SqT.of h6), ?_⟩
  rw [e]
  exact q
theorem all_ints : ∀ {xs : List V}, xs.all intB = true → ∃ p : Pl, xs = p.map V.int
  | [], _ => ⟨[], rfl⟩
  | x :: r, h => by
    rw [List.all_cons, Bool.and_eq_true] at h
    obtain ⟨p, e⟩ := all_ints h.2
    match x, h.1 with
    | .int i, _ => exact ⟨i :: p, by rw [e]; rfl⟩
theorem Sc.val {H : Hp} {x t : Addr} {S : List Stm} {p : Pl} {kvs : List (List Key × V)} (h5 : FRel H kvs (walkAll S [] 0)) : (look S p = none → valV kvs (key p) = none) ∧ (∀ s, look S p = some s → ∃ v, valV kvs (key p) = some v ∧ s.at H v) := by
  have z := h5.val p
  rw [look_lk] at z
  exact z
theorem scSH : FnScope ["self", "place", "item"] ["self", "place"] (defScope sSHas) := ⟨rfl, rfl, rfl, by decide +kernel, rfl, by decide +kernel, by decide +kernel⟩
theorem ok_shas {f fI : Addr} {fd fdI : FuncData} (F : Fun K "__contains__" "Script.__contains__" sSHas f fd) (B : Bl mg) (T : Txt K w mg CS CK it)
    (GI : FnOk P w K mg base CX0 1 fI fdI ["value"] (spIsInt K)) (bI : Binds K fdI ["value"] []) (kI : PySem.W.keepIn K (.ref fI) = true) (mI : mg "is_integer" = some (.ref fI)) : FnOk P w K mg base CX0 2 f fd ["self", "place"] (spHas CS) := by
  refine F.ok scSH (fun vs H Q E h => ?_) (fun cdv A outer s H vs Q E hr h => ?_)
  · obtain ⟨x, t, v, S, rfl, _⟩ := h
    rfl
  obtain ⟨x, t, v, S, rfl, C, hv⟩ := h
  have hu' := hu_of hr
  refine ⟨_, pss_cons (ps_if (PW.pt (pw_or (pt_not (pt_val (pe_callB call_isi (by rfl) T.isi (by decide +kernel) (pa_cons (pv 1) (pa_cons (pe_bltn (v := .ty "tuple") (by rfl) B.tuple (by decide +kernel) rfl) pa_nil)))))
      (pw_or1 (pt_not (pt_val (pe_callB (cr_all rfl) (by rfl) T.all (by decide +kernel) (pa_cons
        (pe_lc (own := [("item", 2)]) (g := gName 2) (tt := tYes) rfl scSH.nd (pi_tup (pv 1)) (blkOk_by (own := [("item", 2)]) (N := ["self", "place", "item"]) (sc := defScope sSHas) (by decide +kernel))
          (fun _ _ _ _ _ => pg_name (i := 2) scSH.nd rfl (Or.inl rfl)) (fun _ _ _ _ _ => pts_nil)
          (fun _ _ _ _ _ => pe_call GI hr rfl mI kI bI .nil pass0 (pa_cons (pv 2) pa_nil))) pa_nil))))))) (pss_one (ps_ret pe_bl)) pss_nil)
    (pss_one (ps_ret (pe_cmp (pc_din hu' (pv 1) (pe_fld (pv 0) rfl)) rfl))), ?_⟩
  rcases hv with ⟨T', kd, kt, q⟩ | ⟨u, xs, rfl, hu, h100, kds, q1, q2⟩
  · exact ⟨_, rfl, _, _, _, _, false, rfl, .ty "tuple", kd.ty, kit_ty kt, false, rfl, iteT (iteT q)⟩
  · refine ⟨_, rfl, _, _, _, _, true, rfl, .ty "tuple", .base (.tup hu), kit_ty (by decide +kernel), true, rfl, iteF ?_⟩
    refine ⟨_, rfl, u, rfl, ⟨_, SqT.of hu⟩, fun D hD => ?_⟩
    refine lc_tup (K := K) (a := u) (xs := xs) (fun i H7 => H7 D = some (.lst (((xs.take i).map intB).map V.bl)) ∧ Same H H7) ⟨upd_same, same_new hD _⟩ (fun i H7 _ z => SqT.of (z.2 _ _ hu)) ?_ ?_
    · rintro i y H7 hy ⟨h1, h2⟩
      refine ⟨rfl, ?_⟩
      unfold tYes
      dsimp only
      rw [if_pos rfl]
      obtain ⟨T', kd⟩ := kds y (List.mem_of_getElem? hy)
      obtain ⟨b1, b2, e1, e2, e3⟩ := kd.intB
      have lt : i < xs.length := (List.getElem?_eq_some_iff.mp hy).1
      refine ⟨_, rfl, y, T', b1, b2, rfl, (kd.keep h2).ty, e1, e2, _, h1, small1000 (by simp; omega), ?_, ?_⟩
      · rw [upd_same, List.take_add_one, hy, e3]
        simp
      · intro b o e
        rw [upd_ne (ne_of_none e hD)]
        exact h2 b o e
    · rintro H7 ⟨h1, h2⟩
      refine ⟨D, _, rfl, SqL.of h1, ?_⟩
      rw [List.take_length]
      have ea : (xs.map intB).all id = xs.all intB := by rw [List.all_map]; rfl
      rw [ea]
      cases ec : xs.all intB with
      | false => exact ⟨_, rfl, iteT (q1 ec H7 h2)⟩
      | true =>
        obtain ⟨p, rfl⟩ := all_ints ec
        obtain ⟨⟨dx, dd, pl, bs, kvs, ys, g1, g2, g3, g4, g5, g6, g7⟩, _⟩ := C.keep h2
        have z := Sc.val (x := x) (t := t) (p := p) g5
        have hg : DGet H7 dd (.ref u) (valV kvs (key p)) := DGet.t g4 (by rw [key_kV]; exact h2 _ _ hu)
        refine ⟨_, rfl, iteF ⟨_, rfl, _, rfl, x, CS, dx, _, _, rfl, g1, T.clS, T.nF, flds_fo _ _ _, dd, _, rfl, hg, ?_⟩⟩
        have e : (valV kvs (key p)).isSome = (look S p).isSome := by
          cases el : look S p with
          | none => rw [z.1 el]; rfl
          | some s =>
            obtain ⟨v, ev, _⟩ := z.2 s el
            rw [ev]; rfl
        rw [e]
        exact q2 p rfl H7 h2
theorem scSG : FnScope ["self", "place"] ["self", "place"] (defScope sSGet) := ⟨rfl, rfl, rfl, by decide +kernel, rfl, by decide +kernel, by decide +kernel⟩
theorem ok_sget {f fH : Addr} {fd fdH : FuncData} (F : Fun K "__getitem__" "Script.__getitem__" sSGet f fd) (T : Txt K w mg CS CK it)
    (GH : FnOk P w K mg base CX0 2 fH fdH ["self", "place"] (spHas CS)) (bH : Binds K fdH ["self", "place"] []) (mH : OwnM K CS "__contains__" fH) : FnOk P w K mg base CX0 3 f fd ["self", "place"] (spGet CS) := by
  refine F.ok scSG (fun vs H Q E h => ?_) (fun cdv A outer s H vs Q E hr h => ?_)
  · obtain ⟨x, t, u, S, p, s, rfl, _⟩ := h
    rfl
  obtain ⟨x, t, u, S, p, st, rfl, C, hu, h100, hl, q⟩ := h
  have hu' := hu_of hr
  refine ⟨_, pss_cons (ps_if (pt_cmpR (op_notInOwn mH GH hr bH pass0) (pv 1) (pv 0) (by rfl)) (pss_one ps_never) pss_nil)
    (pss_one (ps_ret (pe_dget hu' (pe_fld (pv 0) rfl) (pv 1) (fun _ _ => rfl)))), ?_⟩
  obtain ⟨⟨dx, dd, pl, bs, kvs, ys, g1, g2, g3, g4, g5, g6, g7⟩, _⟩ := id C
  refine ⟨_, rfl, _, rfl, x, dx, _, rfl, g1, x, t, .ref u, S, rfl, C, .inr ⟨u, _, rfl, hu, by rw [List.length_map]; exact h100, ?_, ?_, ?_⟩⟩
  · intro y hy
    obtain ⟨i, _, rfl⟩ := List.mem_map.mp hy
    exact ⟨_, .int i⟩
  · intro e
    have : (p.map V.int).all intB = true := by rw [List.all_map]; exact List.all_eq_true.mpr fun _ _ => rfl
    rw [this] at e; cases e
  · intro p' e H' s1
    have ep : p = p' := by
      have inj : ∀ {a b : Pl}, a.map V.int = b.map V.int → a = b := by
        intro a
        induction a with
        | nil => intro b e; cases b with
          | nil => rfl
          | cons _ _ => cases e
        | cons i r ih => intro b e; cases b with
          | nil => cases e
          | cons j r' =>
            rw [List.map_cons, List.map_cons] at e
            injection e with e1 e2
            injection e1 with e1
            rw [e1, ih e2]
      exact inj e
    subst ep
    rw [hl]
    refine ⟨true, rfl, _, rfl, iteF ?_⟩
    obtain ⟨⟨dx, dd, pl, bs, kvs, ys, g1, g2, g3, g4, g5, g6, g7⟩, _⟩ := C.keep s1
    obtain ⟨v, ev, hv⟩ := (Sc.val (x := x) (t := t) (p := p) g5).2 st hl
    have hg : DGet H' dd (.ref u) (valV kvs (key p)) := DGet.t g4 (by rw [key_kV]; exact s1 _ _ hu)
    rw [ev] at hg
    exact ⟨_, rfl, x, CS, dx, _, _, rfl, g1, T.clS, T.nF, flds_fo _ _ _, _, rfl, dd, v, rfl, hg, q v H' s1 hv⟩
end
end Tk
set_option maxRecDepth 100000
namespace L2
open PySem PySem.Spec PyProof.Rows
/-! ### a class's own methods, where an error may come out -/
section
variable {X : Cx} {CX : CXT} {k n : Nat} {C f : Addr} {fd : FuncData} {ps : List Str} {sp : Sp} {E : St → XK}
theorem tk_runS {A : Around} {pins : List (Addr × Obj)} {σ : St} {H : Hp} {s : Shared} {Q : VK} {us : List Value} {vs : List V} (sb : Sub X k A) (F : FnOk X.prog X.w X.K X.mg X.base CX k f fd ps sp) (hb : Binds X.K fd ps []) (hx : PassesAt CX X σ (E σ))
    (I : Inv X pins σ H s) (r : Vals vs us) (h : sp vs H Q (E σ)) : wpAny (model X.prog X.w) A (call (.ref f) us) (EP X pins σ Q) X.xe s := by
  have e := I.env0
  have e0 : Env0 X.prog X.w X.K X.mg X.base A X.stack s H := ⟨by rw [sb.fr]; exact e.frames, e.mod, e.bs, e.bsz, e.funs, e.frf, e.hok, e.bare⟩
  have hl : us.length = ps.length := r.length.symm.trans (F.len _ _ _ _ h)
  have bd := hb s us I.kIn (by simpa using hl)
  refine wpAny_call (codeAny_mono (F.run A X.stack s H ⟨us, []⟩ us vs Q (E σ) sb.room e0 (by simpa using bd) r h) fun res s' hq => ?_)
  match res, hq with
  | .error e, hq => exact hx pins H s e s' I hq
  | .ok (.ret u), hq => exact I.after hq
/-- o[i] by the class's own __getitem__, which may raise -/
def tIxS (C : Addr) (sp : Sp) (E : St → XK) (ta tb : TE) : TE := fun σ H Q => ta σ H fun x H1 => tb σ H1 fun y H2 => rOwn2 C sp (E σ) x y H2 Q
theorem ix_ownS {value slice : Expr} (M : OwnM X.K C "__getitem__" f) (hf : PySem.W.fnIn X.K f = true) (F : FnOk X.prog X.w X.K X.mg X.base CX k f fd ps sp) (hr : Room (k + 1) X.A) (hb : Binds X.K fd ps []) (hx : ∀ σ, PassesAt CX X σ (E σ))
    {a b : Expr} {ta tb : TE} {pos : Pos} (ha : PE X a ta) (hb2 : PE X b tb) (hs : ∀ o i, subscripted b true o i = runValue (.builtin "lifetime.subscript" ⟨[o, i], []⟩)) : PE X (.Subscript a b pos) (tIxS C sp E ta tb) := by
  refine ⟨fun pins s σ H Q I h => ?_⟩
  refine Subscript_ (binT ha hb2 I h fun v u s2 x y H2 I2 rx ry q => ?_)
  obtain ⟨p, dx, fs, rfl, hp, q⟩ := q
  obtain rfl : v = Value.ref p := rx
  obtain ⟨ox, od, J⟩ := ownInst I2 hp
  obtain ⟨m, hF⟩ := I2.fr
  refine PySem.W.sub_K hF I2.ok.mod.kin J M.at_ hf M.fn ?_ (hs _ _)
  exact tk_runS ⟨hr.in1, rfl⟩ F hb (hx σ) I2 (.cons (show RelV (.ref p) (.ref p) from rfl) (.cons ry .nil)) q
end
/-! ### an error class with one field -/
structure Ecl (K : PySem.W.Frag) (mg : Str → Option Value) (nm f : Str) (C fI : Addr) : Prop where
  gC : mg nm = some (.ref C)
  ox : OexC K C
  iC : PySem.W.findIn K (.ref C) "__init__" = some (some (.ref fI))
  tI : PySem.W.typeIn K (.ref fI) = some (.type "function")
  noF : PySem.W.findIn K (.ref C) f = some none
  xf : XfC K C
  cl : (PySem.W.clsIn K C).isSome = true
  ha : PySem.W.findIn K (.ref C) "__class__" = some (some (.builtin "object.__class__"))
  hn : PySem.W.specialIn K (.builtin "object.__class__") "__get__" = some (some (.builtin "getset_descriptor.__get__"))
  ht : PySem.W.takesIn K (.builtin "object.__class__") = some true
  hm : PySem.W.mroIn K C (.type "object") = some true
  te : PySem.W.exmOne K (.ref C) (.ref C) = some true
/-- what such an __init__ promises -/
def spEI (C : Addr) (f : Str) : Sp := fun vs H Q _ => ∃ (a : Addr) (v : V), vs = [.ref a, v] ∧ H a = some (exo a C none) ∧ ∀ dx, H dx = none → dx ≠ a → Q .non (upd (upd H dx (exd dx [(f, v)])) a (exo a C (some dx)))
/-- raise C(e) -/
theorem ps_raise1 {X : Cx} {W : WX} {nm f : Str} {C fI : Addr} {fd : FuncData} {ps : List Str} {e : Expr} {es : List Expr} {ta : TA} {p pos ppos : Pos} (hc : X.calm = true) (tk : Takes X W) (T : Ecl X.K X.mg nm f C fI) (F1 : FnOk X.prog X.w X.K X.mg X.base CX0 1 fI fd ps (spEI C f)) (hr : Room 2 X.A) (hb : Binds X.K fd ps [])
    (hg : Gl X nm) (ha : PA X (e :: es) ta) (hdb : (nm == ("__debug__" : Str)) = false := by decide) (he : starEach (e :: es) X.env = (false, eval e X.env) :: starEach es X.env := by rfl) (hpl : (backTo pos (starEach es X.env)).any (·.1) = false := by rfl) :
    PS X (.Raise (some (.Call (.Name nm p) (e :: es) [] pos)) none ppos) (fun _ σ H => tMkO C (spEI C f) [] ta σ H fun cls d H' => W cls d σ H') :=
  ps_raise (pos := ppos) hc tk (pmk_oex T.ox T.iC T.tI F1 hr hb .nil pass0 hg T.gC ha hdb he hpl)
theorem made1 {C : Addr} {f : Str} {v : V} {H1 : Hp} {Q : XK} (q : ∀ d, H1 d = none → Q (.ref C) (some d) (upd H1 d (.xd [(f, v)]))) : [v].length ≤ 1000 ∧ ∀ a, H1 a = none → spEI C f (.ref a :: ([v] ++ [])) (upd H1 a (exo a C none))
    (fun v H2 => v = .non ∧ ∃ (d : Addr) (fs : List (Str × V)), H2 a = some (exo a C (some d)) ∧ H2 d = some (exd d fs) ∧ H1 d = none ∧ Q (.ref C) (some d) (upd (del H2 a) d (.xd fs))) (fun _ _ _ => False) := by
  refine ⟨(by show 1 ≤ 1000; decide), fun a ha => ⟨a, v, rfl, upd_same, fun dx hd ne => ⟨rfl, dx, _, upd_same, by rw [upd_ne ne, upd_same], by rw [upd_ne ne] at hd; exact hd, ?_⟩⟩⟩
  have hd' : H1 dx = none := by rw [upd_ne ne] at hd; exact hd
  have e : upd (del (upd (upd (upd H1 a (exo a C none)) dx (exd dx [(f, v)])) a (exo a C (some dx))) a) dx (.xd [(f, v)]) = upd H1 dx (.xd [(f, v)]) := by
    funext b
    by_cases h1 : b = dx
    · rw [h1, upd_same, upd_same]
    · rw [upd_ne h1, upd_ne h1]
      by_cases h2 : b = a
      · rw [h2, del_same, ha]
      · rw [del_ne h2, upd_ne h2, upd_ne h1, upd_ne h2]
  rw [e]
  exact q dx hd'
/-- isinstance(e, c), e the caught error with its dict -/
def rIsX (K : PySem.W.Frag) (a : Addr) (cls : Value) (d : Option Addr) (D : Addr) : List V → Hp → VK → Prop := fun xs H Q => ∃ (c : V) (cv : Value) (b : Bool) (dd : Addr) (fs : List (Str × V)), cls = .ref D ∧ d = some dd ∧ H dd = some (.xd fs) ∧ xs = [.ref a, c] ∧ (∀ u, RelV c u → u = cv) ∧ PySem.W.kitOne K (.ref D) cv = some b ∧ Q (.bl b) H
theorem call_isX {X : Cx} {a D : Addr} {cls : Value} {d : Option Addr} {nm f : Str} {fI : Addr} {mg : Str → Option Value} {oe : Obj} {pn : List (Addr × Obj)} (T : Ecl X.K mg nm f D fI) (hz : Zc cls d oe) (hf : ∃ vs, oe.data = .fields vs) :
    CallR (X.suite a ((a, oe) :: pn)) (.builtin "isinstance") (rIsX X.K a cls d D) := by
  rintro pins s σ H xs us Q I r ⟨c, cv, b, dd, fs, rfl, rfl, ea, rfl, hcv, e, q⟩
  obtain ⟨u1, u2, rfl, r1, r2⟩ : ∃ u1 u2, us = [u1, u2] ∧ RelV (.ref a) u1 ∧ RelV c u2 := by
    cases r with
    | cons p1 t1 => cases t1 with
      | cons p2 t2 => cases t2; exact ⟨_, _, rfl, p1, p2⟩
  obtain rfl : u1 = Value.ref a := r1
  rw [hcv u2 r2]
  have own := (I.pin (a, oe) (List.mem_append_left _ List.mem_cons_self)).1
  obtain ⟨vs, isF⟩ := hf
  obtain ⟨mA, named, _⟩ := show ObjOk X.prog X.w H s.heap dd (.xd fs) from I.hok dd _ ea
  obtain ⟨od, at_, _⟩ := lookIn_ns named
  have J : PySem.W.InstAt s.heap a oe D (some od) := by
    refine ⟨own, hz.1, ?_, by rw [hz.2]; exact at_⟩
    unfold PySem.W.notCls
    rw [isF] <;> rfl
  have kit := PySem.W.kitx_exc (x := a) (ox := oe) (od := some od) T.cl T.xf.ga T.xf.gg T.xf.exC T.ha T.hn T.ht T.hm
  exact PySem.W.kia_one kit I.kIn J e (fun z => nomatch z) fun tk => ⟨.bl b, H, I.kept (t' := tk) fun _ _ z => z, rfl, q⟩
/-- x == x, for data and for empty dicts -/
def Slf (K : PySem.W.Frag) (H : Hp) (v : V) : Prop := (∃ d, Dp K H v d ∧ SeqAt.shaped d = true ∧ PyData.eqv d d = true) ∨ ∃ a, v = .ref a ∧ H a = some (.dK [])
def rSlf (K : PySem.W.Frag) : R2 := fun x y H Q => x = y ∧ Slf K H x ∧ Q (.bl true) H
theorem op_slf {X : Cx} (hu : X.A.units + 64 < cLine) : OpR X (compareOp .Eq) (rSlf X.K) := by
  intro pins s σ H x y v u Q I rx ry h
  obtain ⟨rfl, h, q⟩ := h
  rcases h with ⟨d, h1, h2, h3⟩ | ⟨a, rfl, h⟩
  · exact op_eqD hu pins s σ H x x v u Q I rx ry ⟨d, d, h1, h1, h2, h2, by rw [h3]; exact q⟩
  · exact op_eqV hu pins s σ H _ _ v u Q I rx ry ⟨1, by decide, .inr ⟨a, a, [], [], rfl, rfl, h, h, rfl, fun p hp => nomatch hp⟩, q⟩
end L2
namespace Tk
open PySem L2
/-- what is no place of the script S -/
def NoPl (H : Hp) (S : List Stm) (v : V) : Prop := (∃ T, Kd H v T ∧ kitB T "tuple" = some false) ∨ ∃ u xs, v = .ref u ∧ H u = some (.tup xs) ∧ xs.length ≤ 100 ∧ (∀ y ∈ xs, ∃ T, Kd H y T) ∧ ∀ p, xs = p.map V.int → look S p = none
theorem NoPl.keep {H H' : Hp} {S : List Stm} {v : V} (s : Same H H') (h : NoPl H S v) : NoPl H' S v := by
  rcases h with ⟨T, k, e⟩ | ⟨u, xs, rfl, h1, h2, h3, h4⟩
  · exact .inl ⟨T, k.keep s, e⟩
  · exact .inr ⟨u, xs, rfl, s _ _ h1, h2, fun y hy => (h3 y hy).imp fun _ k => k.keep s, h4⟩
/-- script[place], there or not -/
def spGetX (CS CN : Addr) : Sp := fun vs H Q E => ∃ (x t : Addr) (v : V) (S : List Stm), vs = [.ref x, v] ∧ Sc CS H x t S ∧
  ((∃ (u : Addr) (p : Pl) (s : Stm), v = .ref u ∧ H u = some (.tup (p.map V.int)) ∧ p.length ≤ 100 ∧ look S p = some s ∧ ∀ (w : V) (H' : Hp), Same H H' → s.at H' w → Q w H') ∨
   (NoPl H S v ∧ ∀ (d : Addr) (H' : Hp), Same H H' → H d = none → H' d = some (.xd [("place", v)]) → E (.ref CN) (some d) H'))
abbrev sNPInit : Stmt := inClass (top 4) 0
section
variable {P : Program} {w : World} {K : PySem.W.Frag} {mg : Str → Option Value} {base : Heap} {CS CK it CN : Addr}
theorem scNP : FnScope ["self", "place"] ["self", "place"] (defScope sNPInit) := ⟨rfl, rfl, rfl, by decide +kernel, rfl, by decide +kernel, by decide +kernel⟩
theorem ok_npi {f : Addr} {fd : FuncData} (F : Fun K "__init__" "NoPlace.__init__" sNPInit f fd) (T : Ecl K mg "NoPlace" "place" CN f) : FnOk P w K mg base CX0 1 f fd ["self", "place"] (spEI CN "place") := by
  refine F.ok scNP (fun vs H Q E h => ?_) (fun cdv A outer s H vs Q E hr h => ?_)
  · obtain ⟨a, v, rfl, _⟩ := h
    rfl
  obtain ⟨a, v, rfl, ha, q⟩ := h
  refine ⟨_, pss_one (ps_ost (pv 0) (pv 1) rfl), ?_⟩
  exact ⟨_, rfl, _, rfl, a, CN, rfl, T.ox, T.noF, .inl ⟨ha, fun dx h1 h2 => q dx h1 h2⟩⟩
theorem map_int_inj : ∀ {a b : Pl}, a.map V.int = b.map V.int → a = b
  | [], [], _ => rfl
  | [], _ :: _, e => by cases e
  | _ :: _, [], e => by cases e
  | i :: r, j :: r', e => by
    rw [List.map_cons, List.map_cons] at e
    injection e with e1 e2
    injection e1 with e1
    rw [e1, map_int_inj e2]
theorem ok_sgetX {f fH fI : Addr} {fd fdH fdI : FuncData} (F : Fun K "__getitem__" "Script.__getitem__" sSGet f fd) (T : Txt K w mg CS CK it) (TN : Ecl K mg "NoPlace" "place" CN fI)
    (GI : FnOk P w K mg base CX0 1 fI fdI ["self", "place"] (spEI CN "place")) (bI : Binds K fdI ["self", "place"] [])
    (GH : FnOk P w K mg base CX0 2 fH fdH ["self", "place"] (spHas CS)) (bH : Binds K fdH ["self", "place"] []) (mH : OwnM K CS "__contains__" fH) : FnOk P w K mg base (L2.CX P w) 3 f fd ["self", "place"] (spGetX CS CN) := by
  refine F.okX scSG (fun vs H Q E h => ?_) (fun cdv A outer s H vs Q E hr h => ?_)
  · obtain ⟨x, t, v, S, rfl, _⟩ := h
    rfl
  obtain ⟨x, t, v, S, rfl, C, hv⟩ := h
  have hu' := hu_of hr
  refine ⟨_, pss_cons (ps_if (pt_cmpR (op_notInOwn mH GH hr bH pass0) (pv 1) (pv 0) (by rfl)) (pss_one (ps_raise1 rfl (takes_of rfl rfl rfl rfl) TN GI hr bI rfl (pa_cons (pv 1) pa_nil))) pss_nil)
    (pss_one (ps_ret (pe_dget hu' (pe_fld (pv 0) rfl) (pv 1) (fun _ _ => rfl)))), ?_⟩
  have has : ∀ H', Same H H' → Sc CS H' x t S := fun H' s => C.keep s
  obtain ⟨⟨dx, dd, pl, bs, kvs, ys, g1, g2, g3, g4, g5, g6, g7⟩, _⟩ := id C
  refine ⟨_, rfl, _, rfl, x, dx, _, rfl, g1, x, t, v, S, rfl, C, ?_⟩
  rcases hv with ⟨u, p, st, rfl, hu, h100, hl, q⟩ | ⟨np, q⟩
  · refine .inr ⟨u, _, rfl, hu, by rw [List.length_map]; exact h100, ?_, ?_, ?_⟩
    · intro y hy
      obtain ⟨i, _, rfl⟩ := List.mem_map.mp hy
      exact ⟨_, .int i⟩
    · intro e
      have : (p.map V.int).all intB = true := by rw [List.all_map]; exact List.all_eq_true.mpr fun _ _ => rfl
      rw [this] at e; cases e
    · intro p' e H' s1
      have ep : p = p' := map_int_inj e
      subst ep
      rw [hl]
      refine ⟨true, rfl, _, rfl, iteF ?_⟩
      obtain ⟨⟨dx, dd, pl, bs, kvs, ys, g1, g2, g3, g4, g5, g6, g7⟩, _⟩ := C.keep s1
      obtain ⟨v, ev, hv⟩ := (Sc.val (x := x) (t := t) (p := p) g5).2 st hl
      have hg : DGet H' dd (.ref u) (valV kvs (key p)) := DGet.t g4 (by rw [key_kV]; exact s1 _ _ hu)
      rw [ev] at hg
      exact ⟨_, rfl, x, CS, dx, _, _, rfl, g1, T.clS, T.nF, flds_fo _ _ _, _, rfl, dd, v, rfl, hg, q v H' s1 hv⟩
  · rcases np with ⟨T', kd, e⟩ | ⟨u, xs, rfl, hu, h100, kds, no⟩
    · exact .inl ⟨T', kd, e, ⟨false, rfl, _, rfl, iteT ⟨_, rfl, made1 fun d hd => q d _ ((show Same H H from fun _ _ e => e).trans (same_new hd _)) ((show Same H H from fun _ _ e => e).free hd) upd_same⟩⟩⟩
    · refine .inr ⟨u, xs, rfl, hu, h100, kds, fun e H' s1 => ⟨false, rfl, _, rfl, iteT ⟨_, rfl, made1 fun d hd => q d _ (s1.trans (same_new hd _)) (s1.free hd) upd_same⟩⟩, fun p e H' s1 => ?_⟩
      rw [no p e]
      exact ⟨false, rfl, _, rfl, iteT ⟨_, rfl, made1 fun d hd => q d _ (s1.trans (same_new hd _)) (s1.free hd) upd_same⟩⟩
end
end Tk
set_option maxRecDepth 100000
namespace Tk
open PySem L2
abbrev sRef : Stmt := top 28
def spRef (CS : Addr) (K : PySem.W.Frag) : Sp := fun vs H Q _ => ∃ (x t : Addr) (v : V) (S : List Stm), vs = [.ref x, v] ∧ Sc CS H x t S ∧ NoPl H S v ∧ (∀ H', Same H H' → Slf K H' v) ∧ ∀ H', Same H H' → Q (.bl true) H'
section
variable {P : Program} {w : World} {K : PySem.W.Frag} {mg : Str → Option Value} {base : Heap} {CS CK it CN TE' : Addr}
theorem scRf : FnScope ["_law_script", "_law_place", "e"] ["_law_script", "_law_place"] (defScope sRef) := ⟨rfl, rfl, rfl, by decide +kernel, rfl, by decide +kernel, by decide +kernel⟩
theorem ok_refused {f fG fI : Addr} {fd fdG : FuncData} (F : Fun K "_law_refused" "_law_refused" sRef f fd) (T : Txt K w mg CS CK it) (TN : Ecl K mg "NoPlace" "place" CN fI)
    (mgT : mg "TakeError" = some (.ref TE')) (mgV : mg "ValueError" = none) (k1 : PySem.W.kitOne K (.ref CN) (.ref TE') = some true) (k2 : PySem.W.kitOne K (.ref CN) (.type "ValueError") = some true)
    (GX : FnOk P w K mg base (L2.CX P w) 3 fG fdG ["self", "place"] (spGetX CS CN)) (bG : Binds K fdG ["self", "place"] []) (mG : OwnM K CS "__getitem__" fG) (nG : PySem.W.fnIn K fG = true) : FnOk P w K mg base CX0 5 f fd ["_law_script", "_law_place"] (spRef CS K) := by
  refine F.ok scRf (fun vs H Q E h => ?_) (fun cdv A outer s H vs Q E hr h => ?_)
  · obtain ⟨x, t, v, S, rfl, _⟩ := h
    rfl
  obtain ⟨x, t, v, S, rfl, C, np, sl, q⟩ := h
  have hu64 : _ + 64 < cLine := Nat.lt_of_le_of_lt (Nat.add_le_add_left (by decide : 64 ≤ 16 * 4 + 200) _) (by have := hr.un; rwa [Nat.add_assoc] at this)
  refine ⟨_, pss_cons (ps_try_as (i := 2) rfl rfl scRf.nd rfl rfl ⟨rfl, by decide, .inl TN.gC⟩ takes0
      (fun W pn xe tk _ => pss_one (ps_expr (ix_ownS (value := .Name "self" ⟨0, 0, 0, 0⟩) (slice := .Name "self" ⟨0, 0, 0, 0⟩) mG nG GX hr bG (fun σ => passAt tk σ) (pv 0) (pv 1) (fun _ _ => rfl))))
      (fun a oe cls d pn hz hf => pss_one (ps_ret (pe_and (pe_callB (call_isX TN hz hf) (by rfl) T.isi (by decide +kernel) (pa_cons (pv 2) (pa_cons (pe_glob (v := .ref TE') (by rfl) mgT rfl) pa_nil)))
        (pe_and (pe_callB (call_isX TN hz hf) (by rfl) T.isi (by decide +kernel) (pa_cons (pv 2) (pa_cons (pe_bltn (v := .ty "ValueError") (by rfl) mgV (by decide +kernel) rfl) pa_nil)))
        (pe_one (pe_cmpR (r := rSlf K) (op_slf hu64) (pe_xf TN.xf TN.noF hz hf (pv 2)) (pv 1) (by rfl))))))))
    (pss_one ps_never), ?_⟩
  obtain ⟨⟨dx, dd, pl, bs, kvs, ys, g1, _⟩, _⟩ := id C
  refine ⟨_, rfl, _, rfl, x, dx, _, rfl, g1, x, t, v, S, rfl, C, .inr ⟨np, fun d H' s1 hd hx => ?_⟩⟩
  refine ⟨true, TN.te, fun _ a ha => ?_, fun z => nomatch z⟩
  refine ⟨_, rfl, .ref TE', _, true, d, _, rfl, rfl, hx, rfl, (fun u z => z), k1, true, rfl, iteT ?_⟩
  refine ⟨_, rfl, .ty "ValueError", _, true, d, _, rfl, rfl, hx, rfl, (fun u z => z), k2, true, rfl, iteT ?_⟩
  refine ⟨_, rfl, rfl, rfl, d, _, v, rfl, hx, rfl, _, rfl, rfl, sl H' s1, q H' s1⟩
end
end Tk
set_option maxRecDepth 100000
namespace Tk
open PySem L2
/-! ## the law's own walk through a script: pairs of a place and its statement -/
abbrev PRow := Pl × Stm
def PRowAt (H : Hp) (v : V) (r : PRow) : Prop := ∃ (T u : Addr) (x : V), v = .ref T ∧ H T = some (.tup [.ref u, x]) ∧ H u = some (.tup (r.1.map V.int)) ∧ r.2.at H x
def PRowsAt (H : Hp) : List V → List PRow → Prop
  | [], [] => True
  | v :: vs, r :: rs => PRowAt H v r ∧ PRowsAt H vs rs
  | _, _ => False
theorem PRowAt.keep {H H' : Hp} {v : V} {r : PRow} (k : TK H H') (h : PRowAt H v r) : PRowAt H' v r := by
  obtain ⟨T, u, x, rfl, h1, h2, h3⟩ := h
  exact ⟨T, u, x, rfl, k _ _ h1, k _ _ h2, Stm.at_keep k _ _ h3⟩
theorem PRowsAt.keep {H H' : Hp} (k : TK H H') : ∀ {vs : List V} {rs : List PRow}, PRowsAt H vs rs → PRowsAt H' vs rs
  | [], [], _ => trivial
  | _ :: _, _ :: _, h => ⟨h.1.keep k, PRowsAt.keep k h.2⟩
  | [], _ :: _, h => h.elim
  | _ :: _, [], h => h.elim
theorem PRowsAt.len {H : Hp} : ∀ {vs : List V} {rs : List PRow}, PRowsAt H vs rs → vs.length = rs.length
  | [], [], _ => rfl
  | _ :: _, _ :: _, h => by rw [List.length_cons, List.length_cons, PRowsAt.len h.2]
  | [], _ :: _, h => h.elim
  | _ :: _, [], h => h.elim
theorem PRowsAt.snoc {H : Hp} {v : V} {r : PRow} (h1 : PRowAt H v r) : ∀ {vs : List V} {rs : List PRow}, PRowsAt H vs rs → PRowsAt H (vs ++ [v]) (rs ++ [r])
  | [], [], _ => ⟨h1, trivial⟩
  | _ :: _, _ :: _, h => ⟨h.1, PRowsAt.snoc h1 h.2⟩
  | [], _ :: _, h => h.elim
  | _ :: _, [], h => h.elim
abbrev sWalk : Stmt := top 26
abbrev psWk : List Str := ["_law_branch_here", "_law_prefix", "_law_found"]
abbrev nsWk : List Str := ["_law_branch_here", "_law_prefix", "_law_found", "_law_index", "_law_place"]
def spWalk (m : Nat) : Sp := fun vs H Q _ => ∃ (b pr fa : Addr) (xs vs0 : List V) (B : List Stm) (rows : List PRow) (p : Pl) (d : Nat) (h : Int), vs = [.ref b, .ref pr, .ref fa] ∧ H b = some (.tup xs) ∧ atAll H xs B ∧ okAll d B h ∧ d + m = 3 ∧ d ≤ 2 ∧
  H pr = some (.tup (p.map V.int)) ∧ p.length ≤ 2 * d ∧ H fa = some (.lst vs0) ∧ PRowsAt H vs0 rows ∧ rows.length + cntAll B ≤ 100 ∧
  ∀ (H' : Hp) (vs' : List V), Kp fa H H' → H' fa = some (.lst vs') → PRowsAt H' vs' (rows ++ walkAll B p 0) → Q (.ref fa) H'
theorem add_prow {H H5 : Hp} {fa y t : Addr} {vs : List V} {made : List PRow} {pl : Pl} {s : Stm} {x : V} (hfa : H5 fa = some (.lst vs)) (hr : PRowsAt H5 vs made) (k : Kp fa H H5) (hy : H5 y = some (.tup (pl.map V.int))) (hx : s.at H5 x) (ht : H5 t = none) :
    (L2.upd (L2.upd H5 t (.tup [.ref y, x])) fa (.lst (vs ++ [.ref t]))) fa = some (.lst (vs ++ [.ref t])) ∧ PRowsAt (L2.upd (L2.upd H5 t (.tup [.ref y, x])) fa (.lst (vs ++ [.ref t]))) (vs ++ [.ref t]) (made ++ [(pl, s)]) ∧
    Kp fa H (L2.upd (L2.upd H5 t (.tup [.ref y, x])) fa (.lst (vs ++ [.ref t]))) ∧ Kp fa H5 (L2.upd (L2.upd H5 t (.tup [.ref y, x])) fa (.lst (vs ++ [.ref t]))) := by
  have n : fa ≠ t := ne_of_none hfa ht
  have k5 : Kp fa H5 (L2.upd (L2.upd H5 t (.tup [.ref y, x])) fa (.lst (vs ++ [.ref t]))) := fun b ob e nb => by
    rw [upd_ne nb, upd_ne (ne_of_none e ht)]; exact e
  have tk := k5.tk hfa
  exact ⟨upd_same, PRowsAt.snoc ⟨t, y, x, rfl, by rw [upd_ne n.symm, upd_same], tk _ _ hy, Stm.at_keep tk _ _ hx⟩ (hr.keep tk), k.trans k5, k5⟩
theorem okAll_chW {d : Nat} {B : List Stm} {h : Int} {i : Nat} {y n : List Stm} (ok : okAll d B h) (e : B[i]? = some (.ch y n)) : ∃ h', d < 2 ∧ okAll (d + 1) y h' ∧ okAll (d + 1) n h' := by
  obtain ⟨h', o⟩ := okAll_get ok e
  rw [Stm.ok] at o
  exact ⟨h', o⟩
section
variable {P : Program} {w : World} {K : PySem.W.Frag} {mg : Str → Option Value} {base : Heap} {CS CK it CN : Addr}
theorem scWk : FnScope nsWk psWk (defScope sWalk) := ⟨rfl, rfl, rfl, by decide +kernel, rfl, by decide +kernel, by decide +kernel⟩
theorem ok_walk {m : Nat} {f : Addr} {fd : FuncData} (F : Fun K "_law_walk" "_law_walk" sWalk f fd) (B : Bl mg) (GU : FnOk P w K mg base CX0 (1 + m) f fd psWk (spWalk m)) (bU : Binds K fd psWk []) (mU : mg "_law_walk" = some (.ref f)) : FnOk P w K mg base CX0 (1 + m + 1) f fd psWk (spWalk (m + 1)) := by
  have kU := F.kp
  refine F.ok scWk (fun vs H Q E h => ?_) (fun cdv A outer s H vs Q E hr h => ?_)
  · obtain ⟨b, pr, fa, xs, vs0, B, rows, p, d, h, rfl, _⟩ := h
    rfl
  obtain ⟨b, pr, fa, xs, vs0, S, rows, p, d, h, rfl, hb, hS, ok, hd3, hd2, hpr, pl, hfa, hrows, few, q⟩ := h
  refine ⟨_, (pss_cons (ps_for PassesOwn.never rfl (pi_range1 rfl B.range (pa_cons (pe_callB call_len_seq (by rfl) B.len PySem.boot_len (pa_cons (pv 0) pa_nil)) pa_nil)) (pg_name (i := 3) scWk.nd rfl (Or.inl rfl)) (pss_cons (ps_set (i := 4) scWk.nd rfl (Or.inl rfl) (pe_op op_catA (pv 1) (pe_tup (pa_cons (pv 3) pa_nil))))
 (pss_cons (ps_expr (pe_bm PySem.F.plainAttrs_list PySem.F.slot_list_append PySem.F.type_list_append mt_append (pv 2) (pa_cons (pe_tup (pa_cons (pv 4) (pa_cons (pe_ix ix_tup (pv 0) (pv 3) (fun _ _ => rfl)) pa_nil))) pa_nil)))
 (pss_one (ps_if (pt_cmpR op_eq (pe_ix ix_tup (pe_ix ix_tup (pv 0) (pv 3) (fun _ _ => rfl)) (pe_int) (fun _ _ => rfl)) (pe_str) (nomark _)) (pss_cons (ps_expr (pe_call GU hr rfl mU kU bU .nil pass0 (pa_cons (pe_ix ix_tup (pe_ix ix_tup (pv 0) (pv 3) (fun _ _ => rfl)) (pe_int) (fun _ _ => rfl)) (pa_cons (pe_op op_catA (pv 4) (pe_tup (pa_cons (pe_int) pa_nil))) (pa_cons (pv 2) pa_nil)))))
 (pss_one (ps_expr (pe_call GU hr rfl mU kU bU .nil pass0 (pa_cons (pe_ix ix_tup (pe_ix ix_tup (pv 0) (pv 3) (fun _ _ => rfl)) (pe_int) (fun _ _ => rfl)) (pa_cons (pe_op op_catA (pv 4) (pe_tup (pa_cons (pe_int) pa_nil))) (pa_cons (pv 2) pa_nil))))))) pss_nil)))))
 (pss_one (ps_ret (pv 2)))), ?_⟩
  have lenS := atAll_len hS
  have lenC := len_le_cnt S
  refine ⟨_, rfl, b, xs, rfl, .inr (SqT.of hb), _, rfl, by omega, by omega, ?_⟩
  refine for_range (lo := 0) (n := xs.length) (fun i σ H2 => ∃ (v3 v4 : Option V) (vs' : List V) (made : List PRow), σ = [some (.ref b), some (.ref pr), some (.ref fa), v3, v4] ∧
    H2 fa = some (.lst vs') ∧ PRowsAt H2 vs' made ∧ made ++ walkAll (S.drop i) p i = rows ++ walkAll S p 0 ∧ made.length + cntAll (S.drop i) ≤ 100 ∧ Kp fa H H2) ?_ ?_ ?_
  · exact ⟨none, none, vs0, rows, rfl, hfa, hrows, by rw [List.drop_zero], by rw [List.drop_zero]; exact few, Kp.refl _ _⟩
  · rintro i σ H2 hi ⟨v3, v4, vs', made, rfl, hf2, hm2, eq2, few2, k2⟩
    have tk2 := k2.tk hfa
    have lt : i < S.length := by omega
    have hs : S[i]? = some S[i] := List.getElem?_eq_getElem lt
    have edrop : S.drop i = S[i] :: S.drop (i + 1) := List.drop_eq_getElem_cons lt
    rw [edrop, walkAll] at eq2
    rw [edrop, cntAll] at few2
    have cp := cnt_pos S[i]
    refine ⟨_, rfl, _, rfl, (by show 1 ≤ sizeLine; decide), ?_⟩
    rw [Int.zero_add]
    refine cat_one (p := p) (j := (i : Int)) (tk2 _ _ hpr) (by omega) (fun y H3 hy s3 => ?_)
    obtain ⟨v, hv, av⟩ := atAll_get hS hs
    have tk3 := tk2.trans (TK.of_same s3)
    have av3 := Stm.at_keep tk3 _ _ av
    have hb3 := tk3 _ _ hb
    have hf3 := s3 _ _ hf2
    have hm3 := hm2.keep (TK.of_same s3)
    have k3 : Kp fa H H3 := k2.trans (Kp.of_same s3)
    have ixv : atI xs (i : Int) = some v := atI_nat hv
    have lenm := hm3.len
    refine ⟨_, rfl, .inl ⟨rfl, _, .inl (.inl hf3)⟩, _, rfl, _, rfl, _, rfl, b, xs, _, _, rfl, rfl, SqT.of hb3, ixv, (by show 2 ≤ sizeLine; decide), fun t ht => ⟨fa, vs', .ref t, rfl, rfl, same_new ht _ _ _ hf3, small1000 (by omega), ?_⟩⟩
    have z := add_prow (pl := p ++ [(i : Int)]) hf3 hm3 k3 hy av3 ht
    obtain ⟨hf4, hm4, k4, k34⟩ := z
    have tk4 := k34.tk hf3
    have av4 := Stm.at_keep tk4 _ _ av3
    have hb4 := tk4 _ _ hb3
    have hy4 := tk4 _ _ hy
    generalize (L2.upd (L2.upd H3 t (.tup [.ref y, v])) fa (.lst (vs' ++ [.ref t]))) = H4 at hf4 hm4 k4 av4 hb4 hy4
    have fin : ∀ (H5 : Hp) (vs5 : List V) (new : List PRow), H5 fa = some (.lst vs5) → PRowsAt H5 vs5 (made ++ new) → new = (S[i]).walk (p ++ [(i : Int)]) → Kp fa H H5 →
        ∃ (v3 v4 : Option V) (vs' : List V) (made : List PRow), [some (V.ref b), some (.ref pr), some (.ref fa), some (.int (i : Int)), some (.ref y)] = [some (.ref b), some (.ref pr), some (.ref fa), v3, v4] ∧
          H5 fa = some (.lst vs') ∧ PRowsAt H5 vs' made ∧ made ++ walkAll (S.drop (i + 1)) p (i + 1) = rows ++ walkAll S p 0 ∧ made.length + cntAll (S.drop (i + 1)) ≤ 100 ∧ Kp fa H H5 := by
      intro H5 vs5 new e1 e2 e3 e4
      have wl := walk_len S[i] (p ++ [(i : Int)])
      refine ⟨_, _, vs5, made ++ new, rfl, e1, e2, by rw [e3, List.append_assoc]; exact eq2, ?_, e4⟩
      rw [List.length_append, e3]
      omega
    cases es : S[i] with
    | one wd =>
      rw [es] at av4 hm4
      rw [Stm.at] at av4
      obtain ⟨a, rfl, ha⟩ := av4
      refine ⟨_, rfl, _, rfl, b, xs, _, _, rfl, rfl, SqT.of hb4, ixv, a, _, _, _, rfl, rfl, SqT.of ha, rfl, rfl, _, rfl, iteFb (wd_ne wd) ?_⟩
      exact fin H4 _ _ hf4 hm4 (by rw [es, Stm.walk]) k4
    | nam bb zz =>
      rw [es] at av4 hm4
      rw [Stm.at] at av4
      obtain ⟨a, rfl, ha⟩ := av4
      refine ⟨_, rfl, _, rfl, b, xs, _, _, rfl, rfl, SqT.of hb4, ixv, a, _, _, _, rfl, rfl, SqT.of ha, rfl, rfl, _, rfl, iteFb (lk_ne bb) ?_⟩
      exact fin H4 _ _ hf4 hm4 (by rw [es, Stm.walk]) k4
    | ch yy nn =>
      rw [es] at av4 hm4
      rw [es, Stm.cnt] at few2
      rw [Stm.at] at av4
      obtain ⟨a, b1, b2, xs1, xs2, rfl, ha, hb1, at1, hb2, at2⟩ := av4
      obtain ⟨h', d2, oky, okn⟩ := okAll_chW ok (by rw [hs, es])
      refine ⟨_, rfl, _, rfl, b, xs, _, _, rfl, rfl, SqT.of hb4, ixv, a, _, _, _, rfl, rfl, SqT.of ha, rfl, rfl, _, rfl, iteTb (by decide +kernel) ?_⟩
      refine ⟨_, rfl, _, rfl, b, xs, _, _, rfl, rfl, SqT.of hb4, ixv, a, _, _, _, rfl, rfl, SqT.of ha, rfl, _, rfl, (by show 1 ≤ sizeLine; decide), ?_⟩
      refine cat_one (p := p ++ [(i : Int)]) (j := 0) hy4 (by simp; omega) (fun y5 H5 hy5 s5 => ?_)
      have t5 := TK.of_same s5
      have lm4 := hm4.len
      refine ⟨_, rfl, b1, y5, fa, xs1, _, yy, _, (p ++ [(i : Int)]) ++ [0], d + 1, h', rfl, s5 _ _ hb1, atAll_keep t5 _ _ at1, oky, by omega, by omega, hy5, by simp; omega, s5 _ _ hf4, hm4.keep t5, by simp only [List.length_append, List.length_cons, List.length_nil]; omega, fun H6 vs6 k6 hf6 hm6 => ?_⟩
      have t6 := t5.trans (k6.tk (s5 _ _ hf4))
      have ha6 := t6 _ _ ha
      have hb6 := t6 _ _ hb4
      refine ⟨_, rfl, _, rfl, b, xs, _, _, rfl, rfl, SqT.of hb6, ixv, a, _, _, _, rfl, rfl, SqT.of ha6, rfl, _, rfl, (by show 1 ≤ sizeLine; decide), ?_⟩
      refine cat_one (p := p ++ [(i : Int)]) (j := 1) (t6 _ _ hy4) (by simp; omega) (fun y7 H7 hy7 s7 => ?_)
      have t7 := t6.trans (TK.of_same s7)
      have wl := walkAll_len yy ((p ++ [(i : Int)]) ++ [0]) 0
      refine ⟨_, rfl, b2, y7, fa, xs2, _, nn, _, (p ++ [(i : Int)]) ++ [1], d + 1, h', rfl, t7 _ _ hb2, atAll_keep t7 _ _ at2, okn, by omega, by omega, hy7, by simp; omega, s7 _ _ hf6, hm6.keep (TK.of_same s7), by simp only [List.length_append, List.length_cons, List.length_nil]; omega, fun H8 vs8 k8 hf8 hm8 => ?_⟩
      refine fin H8 vs8 _ hf8 ?_ rfl ((((k4.trans (Kp.of_same s5)).trans k6).trans (Kp.of_same s7)).trans k8)
      rw [es, Stm.walk]
      have e : made ++ ((p ++ [(i : Int)], Stm.ch yy nn) :: (walkAll yy ((p ++ [(i : Int)]) ++ [0]) 0 ++ walkAll nn ((p ++ [(i : Int)]) ++ [1]) 0)) = ((made ++ [(p ++ [(i : Int)], Stm.ch yy nn)]) ++ walkAll yy ((p ++ [(i : Int)]) ++ [0]) 0) ++ walkAll nn ((p ++ [(i : Int)]) ++ [1]) 0 := by simp
      rw [e]
      exact hm8
  · rintro σ H2 ⟨v3, v4, vs', made, rfl, hf2, hm2, eq2, few2, k2⟩
    rw [lenS, List.drop_length, walkAll, List.append_nil] at eq2
    rw [eq2] at hm2
    exact ⟨_, rfl, q H2 vs' k2 hf2 hm2⟩
end
end Tk
set_option maxRecDepth 100000
namespace Tk
open PySem L2
/-- a list of places -/
def Pls (H : Hp) (ws : List V) : Prop := ∀ v ∈ ws, ∃ (u : Addr) (q : Pl), v = .ref u ∧ H u = some (.tup (q.map V.int)) ∧ 1 ≤ q.length ∧ q.length ≤ 5
theorem Pls.keep {H H' : Hp} {ws : List V} (k : TK H H') (h : Pls H ws) : Pls H' ws := fun v m => let ⟨u, q, e, h1, h2⟩ := h v m; ⟨u, q, e, k _ _ h1, h2⟩
abbrev sTup : Stmt := top 27
def spTup : Sp := fun vs H Q _ => ∃ (p D : Addr) (ws : List V), vs = [.ref p, .ref D] ∧ PoolAt H p ∧ D ≠ p ∧ H D = some (.lst ws) ∧ Pls H ws ∧ 1 ≤ ws.length ∧ ws.length ≤ 8 ∧
  ∀ (z : Addr) (r : Pl) (H' : Hp), Kp p H H' → PoolAt H' p → H' z = some (.tup (r.map V.int)) → r.length ≤ 20 → Q (.ref z) H'
section
variable {P : Program} {w : World} {K : PySem.W.Frag} {mg : Str → Option Value} {base : Heap} {CS CK it CN : Addr}
theorem cut_map (pl : Pl) (lo hi : Option Int) : ∃ r : Pl, cutV (pl.map V.int) lo hi = r.map V.int ∧ r.length ≤ pl.length := by
  refine ⟨(pl.drop (HT.sIx pl.length 0 lo)).take (HT.sIx pl.length pl.length hi - HT.sIx pl.length 0 lo), ?_, ?_⟩
  · unfold cutV
    rw [List.length_map, List.map_take, List.map_drop]
  · rw [List.length_take, List.length_drop]; omega
theorem sl_any {K : PySem.W.Frag} {H : Hp} {u : Addr} {pl : Pl} {lo hi : Option Int} {X : V → Hp → Prop} (hu : H u = some (.tup (pl.map V.int))) (k : ∀ (y : Addr) (r : Pl) (H' : Hp), H' y = some (.tup (r.map V.int)) → r.length ≤ pl.length → Same H H' → X (.ref y) H') : rSlA K (.ref u) lo hi H X := by
  refine ⟨u, _, rfl, SqT.of hu, fun _ => k u pl H hu (Nat.le_refl _) (Same.refl H), fun _ z hz => ?_⟩
  obtain ⟨r, e, l⟩ := cut_map pl lo hi
  exact k z r _ (by rw [upd_same, e]) l (same_new hz _)
theorem cat_any {K : PySem.W.Frag} {H : Hp} {a b : Addr} {p q : Pl} {X : V → Hp → Prop} (ha : H a = some (.tup (p.map V.int))) (hb : H b = some (.tup (q.map V.int))) (l : p.length + q.length ≤ 100) (k : ∀ (y : Addr) (H' : Hp), H' y = some (.tup ((p ++ q).map V.int)) → Same H H' → X (.ref y) H') : rCatA K (.ref a) (.ref b) H X := by
  refine ⟨a, b, _, _, rfl, rfl, SqT.of ha, SqT.of hb, small (by simp; omega), (fun e => ?_), (fun _ e => ?_), fun _ _ z hz => ?_⟩
  · have e' : p = [] := List.map_eq_nil_iff.mp e
    exact k b H (by rw [hb, e']; rfl) (Same.refl H)
  · have e' : q = [] := List.map_eq_nil_iff.mp e
    exact k a H (by rw [ha, e', List.append_nil]) (Same.refl H)
  · exact k z _ (by rw [upd_same, List.map_append]) (same_new hz _)
theorem scTp : FnScope ["_law_pool_here", "_law_places", "_law_choice", "_law_place", "_law_at", "_law_k"] ["_law_pool_here", "_law_places"] (defScope sTup) := ⟨rfl, rfl, rfl, by decide +kernel, rfl, by decide +kernel, by decide +kernel⟩
theorem ok_tuple {f fD : Addr} {fd fdD : FuncData} (F : Fun K "_law_tuple" "_law_tuple" sTup f fd) (B : Bl mg) (GD : FnOk P w K mg base CX0 1 fD fdD ["_law_pool_here", "_law_amount"] spDraw) (bD : Binds K fdD ["_law_pool_here", "_law_amount"] []) (kD : PySem.W.keepIn K (.ref fD) = true) (mD : mg "_law_draw" = some (.ref fD)) :
    FnOk P w K mg base CX0 2 f fd ["_law_pool_here", "_law_places"] spTup := by
  refine F.ok scTp (fun vs H Q E h => ?_) (fun cdv A outer s H vs Q E hr h => ?_)
  · obtain ⟨p, D, ws, rfl, _⟩ := h
    rfl
  obtain ⟨p, D, ws, rfl, hp, nDp, hD, hw, l1, l8, q⟩ := h
  have nd := scTp.nd
  refine ⟨_, (pss_cons (ps_set (i := 2) nd rfl (Or.inl rfl) (pe_call GD hr rfl mD kD bD .nil pass0 (pa_cons (pv 0) (pa_cons (pe_int) pa_nil))))
 (pss_cons (ps_set (i := 3) nd rfl (Or.inl rfl) (pe_ix ix_list (pv 1) (pe_call GD hr rfl mD kD bD .nil pass0 (pa_cons (pv 0) (pa_cons (pe_callB call_len_seq (by rfl) B.len PySem.boot_len (pa_cons (pv 1) pa_nil)) pa_nil))) (fun _ _ => rfl)))
 (pss_cons (ps_if (pt_cmpR op_eq (pv 2) (pe_int) (nomark _)) (pss_one (ps_ret (pe_callTy call_tuple_of (by rfl) B.tuple (by decide +kernel) (pa_cons (pe_lc (own := [("_law_k", 5)]) (g := gName 5) (tt := tYes) rfl nd (pi_range1 rfl B.range (pa_cons (pe_call GD hr rfl mD kD bD .nil pass0 (pa_cons (pv 0) (pa_cons (pe_int) pa_nil))) pa_nil)) (blkOk_by (own := [("_law_k", 5)]) (N := ["_law_pool_here", "_law_places", "_law_choice", "_law_place", "_law_at", "_law_k"]) (sc := defScope sTup) (by decide +kernel)) (fun _ _ _ _ _ => pg_name (i := 5) nd rfl (Or.inl rfl)) (fun _ _ _ _ _ => pts_nil) (fun _ _ _ _ _ => pe_op (r := rI0 fun i j => .int (i - j)) op_sub (pe_call GD hr rfl mD kD bD .nil pass0 (pa_cons (pv 0) (pa_cons (pe_int) pa_nil))) pe_int)) pa_nil)))) pss_nil)
 (pss_cons (ps_if (pt_cmpR op_eq (pv 2) (pe_int) (nomark _)) (pss_cons (ps_set (i := 4) nd rfl (Or.inl rfl) (pe_call GD hr rfl mD kD bD .nil pass0 (pa_cons (pv 0) (pa_cons (pe_callB call_len_seq (by rfl) B.len PySem.boot_len (pa_cons (pv 3) pa_nil)) pa_nil))))
 (pss_one (ps_ret (pe_op op_catA (pe_op op_catA (pe_slice sl_tupA (pv 3) po_none (po_some (pv 4))) (pe_tup (pa_cons (pe_op op_sub (pe_call GD hr rfl mD kD bD .nil pass0 (pa_cons (pv 0) (pa_cons (pe_int) pa_nil))) pe_int) pa_nil))) (pe_slice sl_tupA (pv 3) (po_some (pe_op op_add (pv 4) pe_int)) po_none))))) pss_nil)
 (pss_cons (ps_if (pt_cmpR op_eq (pv 2) (pe_int) (nomark _)) (pss_one (ps_ret (pe_op op_catA (pv 3) (pe_tup (pa_cons (pe_call GD hr rfl mD kD bD .nil pass0 (pa_cons (pv 0) (pa_cons (pe_int) pa_nil))) (pa_cons (pe_call GD hr rfl mD kD bD .nil pass0 (pa_cons (pv 0) (pa_cons (pe_int) pa_nil))) pa_nil)))))) pss_nil)
 (pss_one (ps_ret (pv 3)))))))), ?_⟩
  refine ⟨_, rfl, p, 4, rfl, hp, by decide, by decide, fun c H1 c0 c1 k1 hp1 => ?_⟩
  obtain ⟨_, _, _, hpp⟩ := id hp
  have hD1 := k1 _ _ hD nDp
  have hw1 := hw.keep (k1.tk hpp)
  refine ⟨_, rfl, _, rfl, _, rfl, D, ws, rfl, .inl (SqL.of hD1), p, _, rfl, hp1, by omega, by omega, fun r H2 r0 r1 k2 hp2 => ?_⟩
  obtain ⟨_, _, _, hpp1⟩ := id hp1
  have hD2 := k2 _ _ hD1 nDp
  have hw2 := hw1.keep (k2.tk hpp1)
  have er : r = ((r.toNat : Nat) : Int) := by omega
  have hlt : r.toNat < ws.length := by omega
  obtain ⟨u, pl, eu, hu, p1, p5⟩ := hw2 ws[r.toNat] (List.getElem_mem hlt)
  have ea : atI ws r = some ws[r.toNat] := by
    have z : atI ws ((r.toNat : Nat) : Int) = some ws[r.toNat] := atI_nat (List.getElem?_eq_getElem hlt)
    rwa [← er] at z
  refine ⟨D, ws, r, ws[r.toNat], rfl, rfl, SqL.of hD2, ea, ?_⟩
  rw [eu]
  have k12 := k1.trans k2
  refine ⟨_, rfl, rfl, _, rfl, ?_⟩
  refine ite2 (fun _ => ?_) (fun _ => ?_)
  · refine ⟨_, rfl, p, 7, rfl, hp2, by decide, by decide, fun n H3 n0 n1 k3 hp3 => ⟨n, rfl, by omega, by omega, fun D3 hD3 => ?_⟩⟩
    have np3 : p ≠ D3 := by obtain ⟨_, _, _, e⟩ := hp3; exact ne_of_none e hD3
    refine lc_range (lo := 0) (n := n.toNat) (fun i H7 => ∃ r : Pl, H7 D3 = some (.lst (r.map V.int)) ∧ r.length = i ∧ PoolAt H7 p ∧ Kp p H H7) ⟨[], upd_same, rfl, ?_, ?_⟩ ?_ ?_
    · obtain ⟨_, _, _, e⟩ := hp3
      exact ⟨_, _, _, by rw [upd_ne np3]; exact e⟩
    · exact (k12.trans k3).trans (Kp.of_same (same_new hD3 _))
    · rintro i H7 hi ⟨r, e1, e2, e3, e4⟩
      refine ⟨rfl, ?_⟩
      unfold tYes
      dsimp only
      rw [if_pos rfl]
      refine ⟨_, rfl, p, 5, rfl, e3, by decide, by decide, fun d H8 d0 d1 k8 hp8 => ⟨_, _, rfl, rfl, r.map V.int, k8 _ _ e1 np3.symm, small1000 (by simp; omega), r ++ [d - 1], ?_, by simp [e2], ?_, ?_⟩⟩
      · rw [upd_same, List.map_append]; rfl
      · obtain ⟨_, _, _, e⟩ := hp8
        exact ⟨_, _, _, by rw [upd_ne np3]; exact e⟩
      · intro b o e nb
        have nb3 : b ≠ D3 := fun z => by
          have e5 := ((k12.trans k3) _ _ e nb)
          rw [z, hD3] at e5; cases e5
        rw [upd_ne nb3]
        exact (e4.trans k8) _ _ e nb
    · rintro H7 ⟨r, e1, e2, e3, e4⟩
      refine ⟨D3, _, rfl, .inl ⟨SqL.of e1, fun z hz => ?_⟩⟩
      obtain ⟨_, _, _, e⟩ := e3
      exact q z r _ (e4.trans (Kp.of_same (same_new hz _))) ⟨_, _, _, same_new hz _ _ _ e⟩ upd_same (by omega)
  refine ⟨_, rfl, rfl, _, rfl, ?_⟩
  refine ite2 (fun _ => ?_) (fun _ => ?_)
  · refine ⟨_, rfl, _, rfl, u, _, rfl, .inr (SqT.of hu), p, _, rfl, hp2, by rw [List.length_map]; omega, by rw [List.length_map]; omega, fun at_ H3 a0 a1 k3 hp3 => ?_⟩
    obtain ⟨_, _, _, hpp2⟩ := id hp2
    have hu3 := k3.tk hpp2 _ _ hu
    refine ⟨_, rfl, _, rfl, _, rfl, sl_any hu3 fun y1 r1 H4 hy1 l1 s4 => ?_⟩
    obtain ⟨_, _, _, hpp3⟩ := id hp3
    refine ⟨_, rfl, p, 10, rfl, ⟨_, _, _, s4 _ _ hpp3⟩, by decide, by decide, fun d H5 d0 d1 k5 hp5 => ⟨_, _, rfl, rfl, (by show 1 ≤ sizeLine; decide), fun z hz => ?_⟩⟩
    have hy5 := k5.tk (s4 _ _ hpp3) _ _ hy1
    have hu5 := k5.tk (s4 _ _ hpp3) _ _ (s4 _ _ hu3)
    obtain ⟨_, _, _, hpp5⟩ := id hp5
    have s6 := same_new hz (.tup [.int (d - 1)])
    refine cat_any (p := r1) (q := [d - 1]) (s6 _ _ hy5) upd_same (by simp; omega) fun y2 H7 hy2 s7 => ?_
    have s67 := s6.trans s7
    refine ⟨_, rfl, _, rfl, _, _, rfl, rfl, _, rfl, ?_⟩
    dsimp only [tNoPart]
    refine sl_any (s67 _ _ hu5) fun y3 r3 H8 hy3 l3 s8 => ?_
    refine cat_any (p := r1 ++ [d - 1]) (q := r3) (s8 _ _ hy2) hy3 (by simp; omega) fun y4 H9 hy4 s9 => ?_
    have s59 := (s67.trans s8).trans s9
    exact q y4 _ H9 ((((k12.trans k3).trans (Kp.of_same s4)).trans k5).trans (Kp.of_same s59)) ⟨_, _, _, s59 _ _ hpp5⟩ hy4 (by simp only [List.length_append, List.length_cons, List.length_nil]; omega)
  refine ⟨_, rfl, rfl, _, rfl, ?_⟩
  refine ite2 (fun _ => ?_) (fun _ => ?_)
  · refine ⟨_, rfl, _, rfl, p, 2, rfl, hp2, by decide, by decide, fun d1 H3 d10 d11 k3 hp3 => ?_⟩
    refine ⟨_, rfl, p, 2, rfl, hp3, by decide, by decide, fun d2 H4 d20 d21 k4 hp4 => ⟨(by show 2 ≤ sizeLine; decide), fun z hz => ?_⟩⟩
    obtain ⟨_, _, _, hpp2⟩ := id hp2
    obtain ⟨_, _, _, hpp3⟩ := id hp3
    obtain ⟨x1, x2, x3, hpp4⟩ := id hp4
    have hu4 := k4.tk hpp3 _ _ (k3.tk hpp2 _ _ hu)
    have s5 := same_new hz (.tup [.int d1, .int d2])
    refine ⟨u, z, _, _, rfl, rfl, SqT.of (s5 _ _ hu4), SqT.of upd_same, small (by simp; omega), (fun e => ?_), (fun _ e => nomatch e), fun _ _ z2 hz2 => ?_⟩
    · have : pl = [] := List.map_eq_nil_iff.mp e
      rw [this] at p1; exact absurd p1 (by decide)
    · have s6 := s5.trans (same_new hz2 (.tup (pl.map V.int ++ [.int d1, .int d2])))
      exact q z2 (pl ++ [d1, d2]) _ (((k12.trans k3).trans k4).trans (Kp.of_same s6)) ⟨_, _, _, s6 _ _ hpp4⟩ (by rw [upd_same, List.map_append]; rfl) (by simp; omega)
  · exact ⟨_, rfl, q u pl H2 k12 hp2 hu (by omega)⟩
end
end Tk
set_option maxRecDepth 100000
namespace Tk
open PySem L2
/-! ## statements as data, for == -/
theorem low_ok {z : Str} (h : Low z) : PySem.PyData.strOk z = true := by
  unfold PySem.PyData.strOk
  rw [Array.all_eq_true']
  intro c hc
  have := h c (Array.mem_toList_iff.mpr hc)
  exact decide_eq_true (by omega)
mutual
theorem lay_ok : ∀ (s : Stm) (d : Nat) (h : Int), s.ok d h → s.d.canLay0 = true ∧ (d ≤ 2 → s.d.depth ≤ 7 - 2 * d)
  | .one w, d, h, _ => by
    rw [Stm.d]
    refine ⟨?_, fun _ => ?_⟩
    · cases w <;> decide +kernel
    · rw [PyData.depth, PyData.depthAll, PyData.depthAll, PyData.depth]; omega
  | .nam b z, d, h, ok => by
    rw [Stm.ok] at ok
    rw [Stm.d]
    refine ⟨?_, fun _ => ?_⟩
    · rw [PyData.canLay0, PyData.canLayAll0, PyData.canLayAll0, PyData.canLayAll0, PyData.canLay0, PyData.canLay0, low_ok ok.2.2]
      cases b <;> decide +kernel
    · simp only [PyData.depth, PyData.depthAll]; omega
  | .ch y n, d, h, ok => by
    rw [Stm.ok] at ok
    rw [Stm.d]
    have l1 := layAll_ok y (d + 1) h ok.2.1
    have l2 := layAll_ok n (d + 1) h ok.2.2
    refine ⟨?_, fun hd => ?_⟩
    · have cc : (PyData.str "choose").canLay0 = true := by decide +kernel
      simp only [PyData.canLay0, PyData.canLayAll0] at cc ⊢
      rw [cc, l1.1, l2.1]; rfl
    · have e1 := l1.2 (by omega)
      have e2 := l2.2 (by omega)
      simp only [PyData.depth, PyData.depthAll]
      omega
theorem layAll_ok : ∀ (B : List Stm) (d : Nat) (h : Int), okAll d B h → PyData.canLayAll0 (dAll B) = true ∧ (d ≤ 2 → PyData.depthAll (dAll B) ≤ 7 - 2 * d)
  | [], d, h, _ => by
    rw [dAll]
    exact ⟨by rw [PyData.canLayAll0], fun _ => by rw [PyData.depthAll]; omega⟩
  | s :: r, d, h, ok => by
    rw [okAll] at ok
    rw [dAll]
    have l1 := lay_ok s d h ok.1
    have l2 := layAll_ok r d _ ok.2
    refine ⟨?_, fun hd => ?_⟩
    · rw [PyData.canLayAll0, l1.1, l2.1]; rfl
    · have e1 := l1.2 hd
      have e2 := l2.2 hd
      rw [PyData.depthAll]; omega
end
theorem shaped_ok {s : Stm} {d : Nat} {h : Int} (ok : s.ok d h) (hd : d ≤ 2) : SeqAt.shaped s.d = true ∧ PyData.eqv s.d s.d = true := by
  obtain ⟨a, b⟩ := lay_ok s d h ok
  have := b hd
  refine ⟨?_, SeqAt.eqv_refl _ a⟩
  unfold SeqAt.shaped
  rw [a, decide_eq_true (by omega)]; rfl
mutual
theorem dp_of {K : PySem.W.Frag} {H : Hp} : ∀ (s : Stm) (v : V), s.at H v → Dp K H v s.d
  | .one w, v, h => by
    rw [Stm.at] at h
    obtain ⟨a, rfl, h⟩ := h
    rw [Stm.d]
    exact .tup (SqT.of h) (.cons (.str _) .nil)
  | .nam b z, v, h => by
    rw [Stm.at] at h
    obtain ⟨a, rfl, h⟩ := h
    rw [Stm.d]
    exact .tup (SqT.of h) (.cons (.str _) (.cons (.str _) .nil))
  | .ch y n, v, h => by
    rw [Stm.at] at h
    obtain ⟨a, b, c, xs, ys, rfl, h1, h2, h3, h4, h5⟩ := h
    rw [Stm.d]
    exact .tup (SqT.of h1) (.cons (.str _) (.cons (.tup (SqT.of h2) (dpAll_of y xs h3)) (.cons (.tup (SqT.of h4) (dpAll_of n ys h5)) .nil)))
theorem dpAll_of {K : PySem.W.Frag} {H : Hp} : ∀ (B : List Stm) (xs : List V), atAll H xs B → DpAll K H xs (dAll B)
  | [], xs, h => by
    rw [atAll] at h
    rw [h, dAll]
    exact .nil
  | s :: r, xs, h => by
    rw [atAll] at h
    obtain ⟨v, vs, rfl, h1, h2⟩ := h
    rw [dAll]
    exact .cons (dp_of s v h1) (dpAll_of r vs h2)
end
/-- the statements of a script are good ones, wherever they stand -/
theorem After.good {S : List Stm} {p : Pl} {R : List Stm} (h : After S p R) : ∀ (d : Nat) (k : Int) (s : Stm), okAll d S k → d ≤ 2 → look S p = some s → ∃ d' h', s.ok d' h' ∧ d' ≤ 2 := by
  induction h with
  | here B i hi =>
    intro d k s g hd l
    rw [look_one] at l
    obtain ⟨h', o⟩ := okAll_get g l
    exact ⟨d, h', o, hd⟩
  | inn B i a y n q R hb ha hq ih =>
    intro d k s g hd l
    rw [look_in hb ha hq.ne] at l
    obtain ⟨h', o⟩ := okAll_get g hb
    rw [Stm.ok] at o
    rcases ha with rfl | rfl
    · exact ih (d + 1) h' s o.2.1 (by omega) l
    · exact ih (d + 1) h' s o.2.2 (by omega) l
/-- the first place -/
theorem first_key {H : Hp} {S : List Stm} {kvs : List (List Key × V)} {bs : List Addr} (ne : S ≠ []) (fr : FRel H kvs (walkAll S [] 0)) (ik : IsKeys H kvs bs) : ∃ b0, atI (bs.map V.ref) 0 = some (.ref b0) ∧ H b0 = some (.tup (([0] : Pl).map V.int)) := by
  have hd : ∃ s1 r1, walkAll S [] 0 = ([0], s1) :: r1 := by
    cases S with
    | nil => exact absurd rfl ne
    | cons s0 r =>
      rw [walkAll]
      cases s0 <;> (rw [Stm.walk]; exact ⟨_, _, rfl⟩)
  obtain ⟨s1, r1, e⟩ := hd
  rw [e] at fr
  cases kvs with
  | nil => exact fr.elim
  | cons kv r =>
    obtain ⟨k, v⟩ := kv
    obtain ⟨rfl, _, _⟩ := fr
    unfold IsKeys at ik
    cases ik with
    | cons h1 h2 =>
      rename_i b0 bs'
      refine ⟨b0, (show atI (List.map V.ref (b0 :: bs')) ((0 : Nat) : Int) = some (.ref b0) from atI_nat rfl), ?_⟩
      have h1' : H b0 = some (.tup ((key [0]).map kV)) := h1
      rw [key_kV] at h1'
      exact h1'
end Tk
set_option maxRecDepth 100000
namespace Tk
open PySem L2
/-! ## the rows of a script's walk -/
mutual
theorem walk_row : ∀ (s : Stm) (p : Pl) (d : Nat) (h : Int), s.ok d h → d ≤ 2 → ∀ r ∈ s.walk p, ∃ q, r.1 = p ++ q ∧ sub s q = some r.2 ∧ q.length + 2 * d ≤ 4 ∧ ∃ d' h', r.2.ok d' h' ∧ d' ≤ 2
  | .one w, p, d, h, ok, hd, r, hr => by
    rw [Stm.walk] at hr
    obtain rfl := List.mem_singleton.mp hr
    exact ⟨[], by simp, by rw [sub], by simp; omega, d, h, ok, hd⟩
  | .nam b z, p, d, h, ok, hd, r, hr => by
    rw [Stm.walk] at hr
    obtain rfl := List.mem_singleton.mp hr
    exact ⟨[], by simp, by rw [sub], by simp; omega, d, h, ok, hd⟩
  | .ch y n, p, d, h, ok, hd, r, hr => by
    rw [Stm.walk] at hr
    have ok' := ok
    rw [Stm.ok] at ok
    rcases List.mem_cons.mp hr with rfl | hr
    · exact ⟨[], by simp, by rw [sub], by simp; omega, d, h, ok', hd⟩
    · rcases List.mem_append.mp hr with hr | hr
      · obtain ⟨j, q, e1, e2, e3, e4⟩ := walkAll_row y (p ++ [0]) 0 (d + 1) h ok.2.1 (by have := ok.1; omega) r hr
        refine ⟨0 :: ((0 + j : Nat) : Int) :: q, by rw [e1]; simp, ?_, by simp; omega, e4⟩
        rw [sub, if_pos rfl, nth_nat, Nat.zero_add]
        exact e2
      · obtain ⟨j, q, e1, e2, e3, e4⟩ := walkAll_row n (p ++ [1]) 0 (d + 1) h ok.2.2 (by have := ok.1; omega) r hr
        refine ⟨1 :: ((0 + j : Nat) : Int) :: q, by rw [e1]; simp, ?_, by simp; omega, e4⟩
        rw [sub, if_neg (by decide), if_pos rfl, nth_nat, Nat.zero_add]
        exact e2
theorem walkAll_row : ∀ (B : List Stm) (p : Pl) (i d : Nat) (h : Int), okAll d B h → d ≤ 2 → ∀ r ∈ walkAll B p i, ∃ (j : Nat) (q : Pl), r.1 = p ++ ((i + j : Nat) : Int) :: q ∧ (B[j]?).bind (fun t => sub t q) = some r.2 ∧ q.length + 2 * d ≤ 4 ∧ ∃ d' h', r.2.ok d' h' ∧ d' ≤ 2
  | [], p, i, d, h, ok, hd, r, hr => by rw [walkAll] at hr; cases hr
  | s :: B, p, i, d, h, ok, hd, r, hr => by
    rw [walkAll] at hr
    rw [okAll] at ok
    rcases List.mem_append.mp hr with hr | hr
    · obtain ⟨q, e1, e2, e3, e4⟩ := walk_row s (p ++ [(i : Int)]) d h ok.1 hd r hr
      exact ⟨0, q, by rw [e1]; simp, e2, e3, e4⟩
    · obtain ⟨j, q, e1, e2, e3, e4⟩ := walkAll_row B p (i + 1) d _ ok.2 hd r hr
      refine ⟨j + 1, q, ?_, e2, e3, e4⟩
      have e : i + 1 + j = i + (j + 1) := by omega
      rw [e1, e]
end
theorem row_ok {S : List Stm} (ok : okAll 0 S 0) {r : PRow} (hr : r ∈ walkAll S [] 0) : look S r.1 = some r.2 ∧ r.1 ≠ [] ∧ r.1.length ≤ 5 ∧ ∃ d' h', r.2.ok d' h' ∧ d' ≤ 2 := by
  obtain ⟨j, q, e1, e2, e3, e4⟩ := walkAll_row S [] 0 0 0 ok (by decide) r hr
  rw [List.nil_append, Nat.zero_add] at e1
  refine ⟨?_, by rw [e1]; exact List.cons_ne_nil _ _, by rw [e1]; simp; omega, e4⟩
  rw [e1, look, nth_nat]
  exact e2
theorem lk_none {p : Pl} : ∀ {l : List PRow}, (∀ r ∈ l, r.1 ≠ p) → lk l p = none
  | [], _ => by rw [lk]
  | (k, s) :: l, h => by
    rw [lk, if_neg (h (k, s) List.mem_cons_self)]
    exact lk_none fun r m => h r (List.mem_cons_of_mem _ m)
theorem look_none {S : List Stm} {p : Pl} (h : ∀ r ∈ walkAll S [] 0, r.1 ≠ p) : look S p = none := by
  rw [← look_lk]
  exact lk_none h
/-! ### places, rows as data -/
def ptD (p : Pl) : PyData := .tuple (p.map PyData.int)
theorem ints_lay : ∀ p : Pl, PyData.canLayAll0 (p.map PyData.int) = true
  | [] => by simp [PyData.canLayAll0]
  | i :: p => by simp [PyData.canLayAll0, PyData.canLay0, ints_lay p]
theorem ints_depth : ∀ p : Pl, PyData.depthAll (p.map PyData.int) ≤ 1
  | [] => by simp [PyData.depthAll]
  | i :: p => by
    have h := ints_depth p
    simp only [List.map_cons, PyData.depthAll, PyData.depth]
    omega
theorem ptD_lay (p : Pl) : (ptD p).canLay0 = true := by simp [ptD, PyData.canLay0, ints_lay p]
theorem ptD_depth (p : Pl) : (ptD p).depth ≤ 2 := by
  have h := ints_depth p
  simp only [ptD, PyData.depth]
  omega
theorem shaped_by {d : PyData} (h : d.canLay0 = true) (l : d.depth ≤ 64) : SeqAt.shaped d = true := by
  unfold SeqAt.shaped
  rw [h, decide_eq_true l]; rfl
theorem ints_dp {K : PySem.W.Frag} {H : Hp} : ∀ p : Pl, DpAll K H (p.map V.int) (p.map PyData.int)
  | [] => .nil
  | i :: p => .cons (.int i) (ints_dp p)
theorem ptD_dp {K : PySem.W.Frag} {H : Hp} {u : Addr} {p : Pl} (h : H u = some (.tup (p.map V.int))) : Dp K H (.ref u) (ptD p) := .tup (SqT.of h) (ints_dp p)
def prD (r : PRow) : PyData := .tuple [ptD r.1, r.2.d]
def prsD (l : List PRow) : List PyData := l.map prD
def ptsD (l : List PRow) : List PyData := l.map fun r => ptD r.1
theorem prs_dp {K : PySem.W.Frag} {H : Hp} : ∀ {vs : List V} {l : List PRow}, PRowsAt H vs l → DpAll K H vs (prsD l)
  | [], [], _ => .nil
  | _ :: _, r :: l, h => by
    obtain ⟨⟨T, u, x, rfl, h1, h2, h3⟩, t⟩ := h
    exact .cons (.tup (SqT.of h1) (.cons (ptD_dp h2) (.cons (dp_of r.2 x h3) .nil))) (prs_dp t)
  | [], _ :: _, h => h.elim
  | _ :: _, [], h => h.elim
theorem prs_lay : ∀ {l : List PRow}, (∀ r ∈ l, ∃ d' h', r.2.ok d' h' ∧ d' ≤ 2) → PyData.canLayAll0 (prsD l) = true ∧ PyData.depthAll (prsD l) ≤ 9
  | [], _ => by simp [prsD, PyData.canLayAll0, PyData.depthAll]
  | r :: l, h => by
    obtain ⟨a, b⟩ := prs_lay (l := l) fun x m => h x (List.mem_cons_of_mem _ m)
    obtain ⟨d', h', o, hd⟩ := h r List.mem_cons_self
    obtain ⟨c1, c2⟩ := lay_ok r.2 d' h' o
    have c3 := c2 hd
    have c4 := ptD_depth r.1
    unfold prsD at a b ⊢
    rw [List.map_cons]
    refine ⟨?_, ?_⟩
    · simp only [PyData.canLayAll0, prD, PyData.canLay0, ptD_lay, c1, a, Bool.and_true]
    · simp only [PyData.depthAll, prD, PyData.depth]
      omega
theorem pts_lay : ∀ (l : List PRow), PyData.canLayAll0 (ptsD l) = true ∧ PyData.depthAll (ptsD l) ≤ 2
  | [] => by simp [ptsD, PyData.canLayAll0, PyData.depthAll]
  | r :: l => by
    obtain ⟨a, b⟩ := pts_lay l
    have c4 := ptD_depth r.1
    unfold ptsD at a b ⊢
    rw [List.map_cons]
    refine ⟨?_, ?_⟩
    · simp only [PyData.canLayAll0, ptD_lay, a, Bool.and_true]
    · simp only [PyData.depthAll]
      omega
/-- the places of the rows -/
def PtsAt (H : Hp) : List V → List PRow → Prop
  | [], [] => True
  | v :: vs, r :: rs => (∃ u, v = .ref u ∧ H u = some (.tup (r.1.map V.int))) ∧ PtsAt H vs rs
  | _, _ => False
theorem PtsAt.keep {H H' : Hp} (k : TK H H') : ∀ {vs : List V} {rs : List PRow}, PtsAt H vs rs → PtsAt H' vs rs
  | [], [], _ => trivial
  | _ :: _, _ :: _, ⟨⟨u, e, h⟩, t⟩ => ⟨⟨u, e, k _ _ h⟩, PtsAt.keep k t⟩
  | [], _ :: _, h => h.elim
  | _ :: _, [], h => h.elim
theorem PtsAt.len {H : Hp} : ∀ {vs : List V} {rs : List PRow}, PtsAt H vs rs → vs.length = rs.length
  | [], [], _ => rfl
  | _ :: _, _ :: _, h => by rw [List.length_cons, List.length_cons, PtsAt.len h.2]
  | [], _ :: _, h => h.elim
  | _ :: _, [], h => h.elim
theorem PtsAt.snoc {H : Hp} {v : V} {r : PRow} (h1 : ∃ u, v = .ref u ∧ H u = some (.tup (r.1.map V.int))) : ∀ {vs : List V} {rs : List PRow}, PtsAt H vs rs → PtsAt H (vs ++ [v]) (rs ++ [r])
  | [], [], _ => ⟨h1, trivial⟩
  | _ :: _, _ :: _, h => ⟨h.1, PtsAt.snoc h1 h.2⟩
  | [], _ :: _, h => h.elim
  | _ :: _, [], h => h.elim
theorem pts_dp {K : PySem.W.Frag} {H : Hp} : ∀ {vs : List V} {l : List PRow}, PtsAt H vs l → DpAll K H vs (ptsD l)
  | [], [], _ => .nil
  | _ :: _, r :: l, ⟨⟨u, e, h⟩, t⟩ => by
    subst e
    exact .cons (ptD_dp h) (pts_dp t)
  | [], _ :: _, h => h.elim
  | _ :: _, [], h => h.elim
theorem PtsAt.get {H : Hp} : ∀ {vs : List V} {rs : List PRow}, PtsAt H vs rs → ∀ {k : Nat} {v : V}, vs[k]? = some v → ∃ u r, v = .ref u ∧ rs[k]? = some r ∧ H u = some (.tup (r.1.map V.int))
  | [], [], _, k, v, h => by cases h
  | _ :: _, r :: _, ⟨⟨u, e, h⟩, t⟩, 0, v, hv => ⟨u, r, by rw [← e]; exact (Option.some.inj hv).symm, rfl, h⟩
  | _ :: _, _ :: _, ⟨_, t⟩, k + 1, v, h => PtsAt.get t (k := k) h
  | [], _ :: _, h, _, _, _ => h.elim
  | _ :: _, [], h, _, _, _ => h.elim
theorem PRowsAt.get {H : Hp} : ∀ {vs : List V} {rs : List PRow}, PRowsAt H vs rs → ∀ {k : Nat} {v : V}, vs[k]? = some v → ∃ r, rs[k]? = some r ∧ PRowAt H v r
  | [], [], _, k, v, h => by cases h
  | _ :: _, r :: _, ⟨h1, t⟩, 0, v, e => by
    have e' := Option.some.inj e
    exact ⟨r, rfl, e' ▸ h1⟩
  | _ :: _, _ :: _, ⟨_, t⟩, k + 1, v, h => PRowsAt.get t (k := k) h
  | [], _ :: _, h, _, _, _ => h.elim
  | _ :: _, [], h, _, _, _ => h.elim
/-- the keys of a script's table are its places -/
theorem keys_pts {H : Hp} : ∀ {kvs : List (List Key × V)} {bs : List Addr} {l : List PRow}, FRel H kvs l → IsKeys H kvs bs → PtsAt H (bs.map V.ref) l
  | [], bs, [], _, ik => by
    unfold IsKeys at ik
    cases ik
    exact trivial
  | (k, v) :: kvs, bs, (p, s) :: l, h, ik => by
    obtain ⟨rfl, _, ht⟩ := h
    unfold IsKeys at ik
    cases ik with
    | cons h1 h2 =>
      rename_i b bs'
      have h1' : H b = some (.tup ((key p).map kV)) := h1
      rw [key_kV] at h1'
      exact ⟨⟨b, rfl, h1'⟩, keys_pts ht h2⟩
  | [], _, _ :: _, h, _ => h.elim
  | _ :: _, _, [], h, _ => h.elim
theorem eqv_refl_list {l : List PyData} (h : PyData.canLayAll0 l = true) : PyData.eqv (.list l) (.list l) = true := SeqAt.eqv_refl _ (by simp [PyData.canLay0, h])
theorem eqv_refl_tup {l : List PyData} (h : PyData.canLayAll0 l = true) : PyData.eqv (.tuple l) (.tuple l) = true := SeqAt.eqv_refl _ (by simp [PyData.canLay0, h])
end Tk
set_option maxRecDepth 100000
namespace Tk
open PySem PySem.Spec PyProof.Rows GenW L2
section
variable {M : Model} {A : Around} {R : GenEnd} {Y : Protocol} {n : Nat} {s₀ s : Shared} {c : Code} {fs : List Frame} {env : Env}
  {K : Flow → Sem PySem.Fin} {J : Value → Sem PySem.Fin} {gd : Bool → Bool} {lv : List Value → List Value}
/-- what a loop's code does with an error of its own -/
abbrev lostBy (env : Env) (e : Value) : Sem PySem.Fin := (do noteFrame e env; theTreesLotGoes e : Sem Unit).wrap (fun _ => .raise e) .raise id id
theorem seg_For {target iter : Expr} {body orelse : List Stmt} {pos : Pos}
    (h : wpAny M (A.over c fs) (eval iter env) (fun x s1 => wpAny M (A.over c fs) (pyIter x) (fun it s2 => ∀ p, Seg M A R Y n s₀ (.forLoop target it body orelse env) (M.den (.forLoop target it body orelse env))
      (.ret (fun r => ((match r with | .ok f => (.pure f : Sem Flow) | .error e => .raise e).onRaise (cameBack env)).wrap K J gd lv) none (gd false) (lv []) c p [] :: fs) s2) (fun x s' => Seg M A R Y n s₀ c (J x) fs s') s1) (fun x s' => Seg M A R Y n s₀ c (J x) fs s') s)
    (hs : ∀ x, foldedSetIterable iter env x = pure x := by intro _; rfl) :
    Seg M A R Y n s₀ c ((exec (.For target iter body orelse pos) env).wrap K J gd lv) fs s := by
  rw [exec_For]
  refine seg_bind_wrap (wpAny_standAt ?_)
  refine seg_bind_wrap (wpAny_mono h (fun x s1 h1 => ?_) fun _ _ h' => h')
  refine seg_bind_wrap (wpAny_of_eq (hs x) ?_)
  refine seg_bind_wrap (wpAny_standAt ?_)
  refine seg_bind_wrap (wpAny_holding (wpAny_mono h1 (fun it s2 h2 => ?_) fun _ _ h' => h'))
  exact seg_call h2
end
section
variable {prog : Program} {w : World} {A : Around} {R : GenEnd} {Y : Protocol} {n : Nat} {s₀ s : Shared} {fs : List Frame} {env : Env}
theorem seg_forLoop {target : Expr} {it : Value} {body orelse : List Stmt} {Q1 : Value → Shared → Prop}
    (hq : ∀ x s', Q1 x s' → Seg (model prog w) A R Y n s₀ (.forLoop target it body orelse env) (lostBy env x) fs s')
    (h : wpAny (model prog w) (A.over (.forLoop target it body orelse env) fs) (pyNext it) (fun r s1 => match r with
        | none => Seg (model prog w) A R Y n s₀ (.forLoop target it body orelse env) (.pure (.again (.block orelse env))) fs s1
        | some v => wpAny (model prog w) (A.over (.forLoop target it body orelse env) fs) (letOwnedTupleGo target it v) (fun _ s2 => wpAny (model prog w) (A.over (.forLoop target it body orelse env) fs) (assign target env v) (fun _ s3 =>
          Seg (model prog w) A R Y n s₀ (.forLoop target it body orelse env) ((execs body env).wrap (fun f => match f with
            | .next | .cont => .pure (.again (.forLoop target it body orelse env))
            | .brk => .pure (.done .next)
            | .ret v => .pure (.done (.ret v))) (lostBy env) id id) fs s3) Q1 s2) Q1 s1) Q1 s) :
    Seg (model prog w) A R Y n s₀ (.forLoop target it body orelse env) ((model prog w).den (.forLoop target it body orelse env)) fs s := by
  show Seg _ A R Y n s₀ _ ((forTurn target it body orelse env).onRaise (fun x => do noteFrame x env; theTreesLotGoes x)) fs s
  have e : ∀ x, ((do noteFrame x env; theTreesLotGoes x : Sem Unit).bind fun _ => (Sem.raise x : Sem PySem.Fin)) = lostBy env x := fun x => Sem.bind_eq_wrap _ _
  rw [Sem.onRaise_eq_wrap, Sem.wrap_congr _ id id (K := Sem.pure) (K' := Sem.pure) (fun _ => rfl) e]
  unfold forTurn
  refine seg_bind_wrap (wpAny_standAt ?_)
  refine seg_bind_wrap (wpAny_onRaise (wpAny_mono h (fun r s1 h1 => ?_) fun x s' h' => wpAny_standAt (hq x s' h')))
  cases r with
  | none => exact h1
  | some v =>
    refine seg_bind_wrap (wpAny_mono h1 (fun _ s2 h2 => ?_) hq)
    refine seg_bind_wrap (wpAny_mono h2 (fun _ s3 h3 => ?_) hq)
    show Seg _ A R Y n s₀ _ (((execs body env) >>= _).wrap _ _ _ _) fs s3
    rw [Sem.bind_eq_wrap', Sem.wrap_wrap]
    have ew := Sem.wrap_congr (execs body env) (fun g => id (id g)) (fun l => id (id l)) (K := fun a => Sem.wrap Sem.pure (lostBy env) id id (match a with
            | Flow.next => again (.forLoop target it body orelse env)
            | Flow.cont => again (.forLoop target it body orelse env)
            | Flow.brk => pure (Fin.done Flow.next)
            | Flow.ret v => pure (Fin.done (Flow.ret v)))) (K' := fun f => match f with
            | .next | .cont => .pure (.again (.forLoop target it body orelse env))
            | .brk => .pure (.done .next)
            | .ret v => .pure (.done (.ret v))) (H := fun e => Sem.wrap Sem.pure (lostBy env) id id (Sem.raise e)) (H' := lostBy env) (fun f => by cases f <;> rfl) (fun e => rfl)
    refine Eq.mpr (congrArg (fun t => Seg (model prog w) A R Y n s₀ _ t fs s3) ew) ?_
    exact h3
/-- behind the last turn -/
theorem seg_block0 {c : Code} (h : ∀ p : Unit, Seg (model prog w) A R Y n s₀ (.block [] env) (.pure (.done .next)) fs s) : Seg (model prog w) A R Y n s₀ c (.pure (.again (.block [] env))) fs s :=
  seg_again rfl (h ())
end
/-! ### for in a generator -/
section
variable {X : Cx}
def tGFor (wi : TI) (g : TG) (tb : TGn) : TGn := fun D ys σ H => wi σ H fun J H1 => ∃ W : Nat → Nat → List V → L2.St → Hp → Prop, (∃ m, W 0 m ys σ H1) ∧ ∀ i m ys σ H, W i m ys σ H →
  (J.stop i H ∧ D.nx ys σ H) ∨ (J.go i H ∧ ∃ N : List V → L2.St → Hp → Prop, (∀ ys' σ' H', N ys' σ' H' → ∃ m', m' < m ∧ W (i + 1) m' ys' σ' H') ∧ ∀ x H', J.yld i H x H' → g x σ H' fun σ2 H2 => tb { D with nx := N, ct := N, bk := D.nx } ys σ2 H2)
theorem gs_for {tg iter : Expr} {body : List Stmt} {wi : TI} {g : TG} {tb : TGn} {pos : Pos} (hp : PassesOwn (model X.prog X.w) X.A X.env X.xe) (hc : X.calm = true) (hi : PI X tg iter wi) (hg : PG X tg g) (hb : GSs X body tb)
    (hs : ∀ x, foldedSetIterable iter X.env x = pure x := by intro _; rfl) : GS X (.For tg iter body [] pos) (tGFor wi g tb) := by
  refine ⟨fun A S ip R n ys s₀ c fs K J gd lv s σ H D G hn k hI ht => ?_⟩
  obtain ⟨acc, cc, r, I⟩ := hI
  refine seg_For ?_ hs
  rw [G.over]
  refine wpAny_mono (hi.run _ s σ H _ I ht) (fun v s1 h1 => wpAny_mono h1 (fun itv s2 h2 p => ?_) fun x s' hx => k.exc n s₀ x s' hx) fun x s' hx => k.exc n s₀ x s' hx
  obtain ⟨it, fp, tn, Jt, H2, rfl, I2, T, st2, f2, W, ⟨m0, w0⟩, turn⟩ := h2
  have fpS : ∀ b ∈ fp, b ≠ S := fun b hb e => (f2 b hb).2.2.2.2.2 (S, lstObj acc cc) (List.mem_append_right _ List.mem_cons_self) e.symm
  have stat : ∀ {acc' : Array Value} {c' : Nat} {H' : Hp}, (∀ b ∈ fp, H' b = none) → ∀ b ∈ fp, FpOk X ((S, lstObj acc' c') :: ip) H' b := fun hn b hb => by
    obtain ⟨_, f1, f2', f3, f4, f5⟩ := f2 b hb
    refine ⟨hn b hb, f1, f2', f3, f4, fun p hp => ?_⟩
    rcases List.mem_append.mp hp with hp | hp
    · exact f5 p (List.mem_append_left _ hp)
    · rcases List.mem_cons.mp hp with hp | hp
      · rw [hp]; exact (fpS b hb).symm
      · exact f5 p (List.mem_append_right _ (List.mem_cons_of_mem _ hp))
  have gl := fun (kk : Result → Sem PySem.Fin) => gc_loop (k := kk) (c' := .forLoop tg (.ref it) body [] X.env) (l := lv []) (kp := []) (p := p) G rfl rfl
  have loop : ∀ (m i n : Nat) (ys : List V) (s₀ s : Shared) (σ : L2.St) (H : Hp), n + ys.length = sizeLine → W i m ys σ H → GI X S ip ys σ H s → tn i s.heap → (∀ b ∈ fp, H b = none) →
      Seg (model X.prog X.w) A R (GY X S) n s₀ (.forLoop tg (.ref it) body [] X.env) ((model X.prog X.w).den (.forLoop tg (.ref it) body [] X.env))
        (.ret (fun r => ((match r with | .ok f => (.pure f : Sem Flow) | .error e => .raise e).onRaise (cameBack X.env)).wrap K J gd lv) none (gd false) (lv []) c p [] :: fs) s := by
    intro m
    induction m using Nat.strongRecOn with
    | ind m ih =>
      intro i n ys s₀ s σ H hn w hI st3 fr3
      have ee : ∀ (n : Nat) (s₀ : Shared) (x : Value) (s' : Shared), X.xe x s' → Seg (model X.prog X.w) A R (GY X S) n s₀ (.forLoop tg (.ref it) body [] X.env) (lostBy X.env x)
          (.ret (fun r => ((match r with | .ok f => (.pure f : Sem Flow) | .error e => .raise e).onRaise (cameBack X.env)).wrap K J gd lv) none (gd false) (lv []) c p [] :: fs) s' := fun n s₀ x s' hx => by
        refine seg_wrap ?_
        rw [(gl _).over]
        refine wpAny_bind (wpAny_mono (hp x s' hx) (fun _ s'' hcb => wpAny_theTreesLotGoes ?_) fun y s'' hcb => ?_)
        · exact seg_leaf (.error x) (seg_cameBack G k hcb)
        · exact seg_leaf (.error y) (seg_cameBack G k hcb)
      obtain ⟨acc3, cc3, r3, I3⟩ := hI
      refine seg_forLoop (Q1 := X.xe) (fun x s' hx => ee n s₀ x s' hx) ?_
      rw [(gl _).over]
      rcases turn i m ys σ H w with ⟨stop, qn⟩ | ⟨go, N, hN, step⟩
      · refine wpAny_mono (T.done X rfl rfl rfl hc i _ s σ H X.xe I3 (stat fr3) st3 stop) (fun r' s4 ⟨hr, I4⟩ => ?_) fun _ _ x => x
        subst hr
        exact seg_block0 fun _ => seg_leaf (.ok .next) (k.ok n ys s₀ s4 .next hn ⟨σ, H, ⟨acc3, cc3, r3, I4⟩, qn⟩)
      · refine wpAny_mono (T.item X rfl rfl rfl hc i _ s σ H X.xe I3 (stat fr3) st3 go) (fun r' s4 ⟨u, hr, h4⟩ => ?_) fun _ _ x => x
        subst hr
        refine wpAny_mono h4 (fun _ s5 ⟨x, H5, I5, r5, y5, st5, fr5⟩ => ?_) fun _ _ x => x
        have I5' := I5.pinned (stat fr5) (T.obj _ _ st5)
        refine wpAny_mono (hg.run _ s5 σ H5 x u _ I5' r5 (step x H5 y5)) (fun _ s6 ⟨σ6, H6, I6, q6⟩ => ?_) fun _ _ x => x
        have gi : ∀ kk, GC X S (ip ++ pinsAt fp s5.heap) A (.forLoop tg (.ref it) body [] X.env) (.ret kk none (gd false) (lv []) c p [] :: fs) id := fun kk =>
          { gl kk with ip := fun q hq => (List.mem_append.mp hq).elim (fun z => G.ip q z) fun z => fpS _ (of_pinsAt z).1 }
        have unp : ∀ {ys' : List V} {σ7 : L2.St} {H7 : Hp} {s7 : Shared}, GI X S (ip ++ pinsAt fp s5.heap) ys' σ7 H7 s7 → GI X S ip ys' σ7 H7 s7 ∧ tn (i + 1) s7.heap ∧ ∀ b ∈ fp, H7 b = none := fun {ys' σ7 H7 s7} ⟨a7, c7, r7, I7⟩ => by
          have I7' : Inv X (((S, lstObj a7 c7) :: ip) ++ pinsAt fp s5.heap) σ7 H7 s7 := I7
          refine ⟨⟨a7, c7, r7, I7'.unpinned⟩, T.keep _ _ _ st5 fun b hb o e => (I7'.pin (b, o) (List.mem_append_right _ (List.mem_append_right _ (mem_pinsAt hb e)))).1, fun b hb => ?_⟩
          obtain ⟨o, e, d⟩ := T.obj _ _ st5 b hb
          exact (I7'.pin (b, o) (List.mem_append_right _ (List.mem_append_right _ (mem_pinsAt hb e)))).2.1
        refine hb.run A S (ip ++ pinsAt fp s5.heap) R n ys s₀ _ _ _ _ id id s6 σ6 H6 { D with nx := N, ct := N, bk := D.nx } (gi _) hn ⟨fun n' ys' s₀' s7 f hn' hs => ?_, fun n' s₀' x s7 hx => ee n' s₀' x s7 hx⟩ ⟨acc3, cc3, r3, I6⟩ q6
        cases f with
        | next =>
          obtain ⟨σ7, H7, I7, n7⟩ := hs
          obtain ⟨m', hm, w7⟩ := hN ys' σ7 H7 n7
          obtain ⟨u1, u2, u3⟩ := unp I7
          exact seg_again rfl (ih m' hm (i + 1) n' ys' s₀' s7 σ7 H7 hn' w7 u1 u2 u3)
        | cont =>
          obtain ⟨σ7, H7, I7, n7⟩ := hs
          obtain ⟨m', hm, w7⟩ := hN ys' σ7 H7 n7
          obtain ⟨u1, u2, u3⟩ := unp I7
          exact seg_again rfl (ih m' hm (i + 1) n' ys' s₀' s7 σ7 H7 hn' w7 u1 u2 u3)
        | brk =>
          obtain ⟨σ7, H7, I7, q7⟩ := hs
          exact seg_leaf (.ok .next) (k.ok n' ys' s₀' s7 .next hn' ⟨σ7, H7, (unp I7).1, q7⟩)
        | ret u7 =>
          obtain ⟨v7, σ7, H7, I7, r7, q7⟩ := hs
          exact seg_leaf (.ok (.ret u7)) (k.ok n' ys' s₀' s7 (.ret u7) hn' ⟨v7, σ7, H7, (unp I7).1, r7, q7⟩)
  exact loop m0 0 n ys s₀ s2 σ H2 hn w0 ⟨acc, cc, r, I2⟩ st2 fun b hb => (f2 b hb).1
end
end Tk
set_option maxRecDepth 100000
namespace Tk
open PySem L2
/-! ## places_of -/
abbrev sPlaces : Stmt := top 15
def spPlaces (CS : Addr) : SpG := fun vs H Q _ => ∃ (x t : Addr) (S : List Stm), vs = [.ref x] ∧ Sc CS H x t S ∧ ∀ (out : List V) (H' : Hp), Same H H' → PRowsAt H' out (walkAll S [] 0) → Q out H'
/-- over a tuple that the body leaves as it is -/
theorem gfor_tup {K : PySem.W.Frag} {a : Addr} {xs : List V} {g : TG} {tb : TGn} {D : GEnds} {ys : List V} {σ : St} {H : Hp} (Pv : Nat → List V → St → Hp → Prop) (h0 : Pv 0 ys σ H) (hl : ∀ i ys σ H, i ≤ xs.length → Pv i ys σ H → SqT K H a xs)
    (hs : ∀ i x ys σ H, xs[i]? = some x → Pv i ys σ H → g x σ H fun σ2 H2 => tb { D with nx := Pv (i + 1), ct := Pv (i + 1), bk := D.nx } ys σ2 H2) (hd : ∀ ys σ H, Pv xs.length ys σ H → D.nx ys σ H) :
    ∃ W : Nat → Nat → List V → St → Hp → Prop, (∃ m, W 0 m ys σ H) ∧ ∀ i m ys σ H, W i m ys σ H →
      ((Itt K a).stop i H ∧ D.nx ys σ H) ∨ ((Itt K a).go i H ∧ ∃ N : List V → St → Hp → Prop, (∀ ys' σ' H', N ys' σ' H' → ∃ m', m' < m ∧ W (i + 1) m' ys' σ' H') ∧ ∀ x H', (Itt K a).yld i H x H' → g x σ H' fun σ2 H2 => tb { D with nx := N, ct := N, bk := D.nx } ys σ2 H2) := by
  refine ⟨fun i m ys σ H => m = xs.length - i ∧ i ≤ xs.length ∧ Pv i ys σ H, ⟨xs.length, by simp, Nat.zero_le _, h0⟩, ?_⟩
  rintro i m ys σ H ⟨rfl, hi, p⟩
  have q := hl i ys σ H hi p
  rcases Nat.lt_or_ge i xs.length with hlt | hge
  · refine .inr ⟨⟨xs, xs[i], q, List.getElem?_eq_getElem hlt⟩, Pv (i + 1), fun ys' σ' H' p' => ⟨xs.length - (i + 1), by omega, rfl, hlt, p'⟩, fun x H' y => ?_⟩
    obtain ⟨e, y⟩ := y
    subst e
    exact hs i x ys σ _ (y xs q) p
  · obtain rfl : i = xs.length := by omega
    exact .inl ⟨⟨xs, q, Nat.le_refl _⟩, hd ys σ H p⟩
section
variable {P : Program} {w : World} {K : PySem.W.Frag} {mg : Str → Option Value} {base : Heap} {CS CK it CN : Addr}
theorem scPs : GScope ["script", "place"] ["script"] (defScope sPlaces) := ⟨rfl, rfl, rfl, by decide +kernel, rfl, by decide +kernel, by decide +kernel⟩
theorem ok_places {f fG : Addr} {fd fdG : FuncData} (F : Fun K "places_of" "places_of" sPlaces f fd) (T : Txt K w mg CS CK it)
    (GG : FnOk P w K mg base CX0 3 fG fdG ["self", "place"] (spGet CS)) (bG : Binds K fdG ["self", "place"] []) (mG : OwnM K CS "__getitem__" fG) (nG : PySem.W.fnIn K fG = true) : GFn P w K mg base 5 f fd ["script"] (spPlaces CS) := by
  obtain ⟨oc, od, kV, doc, pm, an, cdv, ct, osl, rfl, lk, hcd⟩ := F.ex
  refine gfn_of lk hcd scPs (fun vs H Q E h => ?_) (fun A outer s H vs Q E pn hr h => ?_)
  · obtain ⟨x, t, S, rfl, _⟩ := h
    rfl
  obtain ⟨x, t, S, rfl, C, q⟩ := h
  refine ⟨_, gss_cons (gs_for owns_gcx rfl (pi_tup (pe_fld (pv 0) rfl)) (pg_name (i := 1) scPs.nd rfl (Or.inl rfl))
    (gss_cons (gs_yield (pe_tup (pa_cons (pv 1) (pa_cons (ix_own (value := .Name "self" ⟨0, 0, 0, 0⟩) (slice := .Name "self" ⟨0, 0, 0, 0⟩) mG nG GG hr bG pass0 (pv 0) (pv 1) (fun _ _ => rfl)) pa_nil)))) gss_nil)) gss_nil, ?_⟩
  obtain ⟨⟨dx, dd, pl, bs, kvs, xs, g1, g2, g3, g4, g5, g6, g7⟩, _, ok, few⟩ := id C
  have pts := keys_pts g5 g7
  have lp := pts.len
  have lw := walkAll_len S [] 0
  refine ⟨_, rfl, x, CS, dx, _, _, rfl, g1, T.clS, T.nP, flds_pl _ _ _, pl, rfl, ⟨_, SqT.of g6⟩, ?_⟩
  refine gfor_tup (K := K) (a := pl) (xs := bs.map V.ref) (fun i ys σ H2 => ∃ v1 : Option V, σ = [some (.ref x), v1] ∧ Same H H2 ∧ PRowsAt H2 ys ((walkAll S [] 0).take i)) ⟨none, rfl, Same.refl H, trivial⟩ ?_ ?_ ?_
  · rintro i ys σ H2 _ ⟨v1, rfl, s2, _⟩
    exact SqT.of (s2 _ _ g6)
  · rintro i v ys σ H2 hv ⟨v1, rfl, s2, hr2⟩
    obtain ⟨u, r, rfl, er, hu⟩ := pts.get hv
    obtain ⟨l, pn, l5, _⟩ := row_ok ok (List.mem_of_getElem? er)
    have lt : i < (walkAll S [] 0).length := (List.getElem?_eq_some_iff.mp er).1
    have ly := hr2.len
    rw [List.length_take] at ly
    refine ⟨Nat.lt_of_le_of_lt (by omega : ys.length ≤ 1000) (by decide), ?_⟩
    refine ⟨_, rfl, _, rfl, _, rfl, x, dx, _, rfl, s2 _ _ g1, x, t, u, S, r.1, r.2, rfl, C.keep s2, s2 _ _ hu, by omega, l, fun v' H3 s3 hv3 => ?_⟩
    refine ⟨(by show 2 ≤ sizeLine; decide), fun z hz => ?_⟩
    have s4 := same_new hz (.tup [.ref u, v'])
    refine ⟨_, rfl, (s2.trans s3).trans s4, ?_⟩
    rw [List.take_add_one, er]
    exact PRowsAt.snoc ⟨z, u, v', rfl, upd_same, ((s2.trans s3).trans s4) _ _ hu, Stm.at_keep (TK.of_same s4) _ _ hv3⟩ (hr2.keep (TK.of_same (s3.trans s4)))
  · rintro ys σ H2 ⟨v1, rfl, s2, hr2⟩
    rw [lp, List.take_length] at hr2
    exact q ys H2 s2 hr2
end
end Tk
set_option maxRecDepth 100000
namespace Tk
open PySem L2
theorem eqv_pt : ∀ {p q : Pl}, PyData.eqvAll (p.map PyData.int) (q.map PyData.int) = decide (p = q)
  | [], [] => by simp [PyData.eqvAll]
  | [], _ :: _ => by simp [PyData.eqvAll]
  | _ :: _, [] => by simp [PyData.eqvAll]
  | i :: p, j :: q => by
    rw [List.map_cons, List.map_cons, PyData.eqvAll, eqv_pt (p := p) (q := q)]
    show ((i == j) && decide (p = q)) = decide (i :: p = j :: q)
    by_cases h : i = j
    · subst h
      by_cases h2 : p = q
      · subst h2; simp
      · simp [h2]
    · simp [h]
theorem eqv_ptD (p q : Pl) : PyData.eqv (ptD p) (ptD q) = decide (p = q) := by
  unfold ptD
  rw [PyData.eqv]
  exact eqv_pt
/-- the first that is like it -/
theorem first_idx {α : Type} {f : α → Bool} : ∀ {l : List α}, l.any f = true → ∃ (j : Nat) (z : α), l[j]? = some z ∧ f z = true ∧ ∀ (m : Nat) (z' : α), m < j → l[m]? = some z' → f z' = false
  | [], h => by cases h
  | a :: l, h => by
    by_cases c : f a = true
    · exact ⟨0, a, rfl, c, fun m z' hm _ => absurd hm (Nat.not_lt_zero m)⟩
    · rw [List.any_cons, Bool.eq_false_iff.mpr c, Bool.false_or] at h
      obtain ⟨j, z, e, hz, no⟩ := first_idx h
      refine ⟨j + 1, z, e, hz, fun m z' hm e' => ?_⟩
      cases m with
      | zero => rw [← Option.some.inj e']; exact Bool.eq_false_iff.mpr c
      | succ m => exact no m z' (Nat.lt_of_succ_lt_succ hm) e'
theorem passZ {X : Cx} : Passes (L2.CX X.prog X.w) X E0 := fun _ _ _ _ _ _ _ ⟨_, _, _, _, _, _, _, _, _, _, _, _, h⟩ => h.elim
theorem noStopZ {K : PySem.W.Frag} : NoStop K E0 := fun _ _ _ h => h.elim
/-- what holds behind the first part -/
structure L1 (CS : Addr) (H : Hp) (x t fa D : Addr) (S : List Stm) (vs ws : List V) (H2 : Hp) : Prop where
  base : Same H H2
  sc : Sc CS H2 x t S
  hf : H2 fa = some (.lst vs)
  rw : PRowsAt H2 vs (walkAll S [] 0)
  hd : H2 D = some (.lst ws)
  pw : PtsAt H2 ws (walkAll S [] 0)
theorem L1.keep {CS : Addr} {H H2 H3 : Hp} {x t fa D : Addr} {S : List Stm} {vs ws : List V} (L : L1 CS H x t fa D S vs ws H2) (s : Same H2 H3) : L1 CS H x t fa D S vs ws H3 :=
  ⟨L.base.trans s, L.sc.keep s, s _ _ L.hf, L.rw.keep (TK.of_same s), s _ _ L.hd, L.pw.keep (TK.of_same s)⟩
def badVs (a5 a6 a7 a8 a9 a10 d : Addr) : List V := [.non, .int 0, .str "0", .ref a5, .ref a6, .ref a7, .ref a8, .ref a9, .ref a10, .ref d]
/-- what is no place, and equal to itself -/
def Wrg (K : PySem.W.Frag) (H : Hp) (S : List Stm) (v : V) : Prop := NoPl H S v ∧ ∀ H', Same H H' → Slf K H' v
theorem Wrg.keep {K : PySem.W.Frag} {H H' : Hp} {S : List Stm} {v : V} (s : Same H H') (h : Wrg K H S v) : Wrg K H' S v := ⟨h.1.keep s, fun H2 s2 => h.2 H2 (s.trans s2)⟩
theorem slf_dp {K : PySem.W.Frag} {H : Hp} {v : V} {d : PyData} (h : ∀ H', Same H H' → Dp K H' v d) (l : d.canLay0 = true) (n : d.depth ≤ 64) : ∀ H', Same H H' → Slf K H' v := fun H' s => .inl ⟨d, h H' s, shaped_by l n, SeqAt.eqv_refl _ l⟩
theorem has_pl {CS : Addr} {H : Hp} {x t u : Addr} {S : List Stm} {p : Pl} {X : VK} {E : XK} (C : Sc CS H x t S) (hu : H u = some (.tup (p.map V.int))) (l : p.length ≤ 100) (k : ∀ H', Same H H' → X (.bl (look S p).isSome) H') : spHas CS [.ref x, .ref u] H X E := by
  refine ⟨x, t, .ref u, S, rfl, C, .inr ⟨u, _, rfl, hu, by rw [List.length_map]; exact l, fun y hy => ?_, fun e => ?_, fun p' e H' s' => by rw [← map_int_inj e]; exact k H' s'⟩⟩
  · obtain ⟨i, _, rfl⟩ := List.mem_map.mp hy
    exact ⟨_, .int i⟩
  · have z : (p.map V.int).all intB = true := by
      rw [List.all_map, List.all_eq_true]
      exact fun _ _ => rfl
    rw [z] at e; cases e
theorem has_no {CS : Addr} {H : Hp} {x t : Addr} {v : V} {S : List Stm} {X : VK} {E : XK} (C : Sc CS H x t S) (np : NoPl H S v) (k : ∀ H', Same H H' → X (.bl false) H') : spHas CS [.ref x, v] H X E := by
  rcases np with ⟨T, kd, e⟩ | ⟨u, xs, rfl, h1, h2, h3, h4⟩
  · exact ⟨x, t, v, S, rfl, C, .inl ⟨T, kd, e, k H (Same.refl H)⟩⟩
  · exact ⟨x, t, .ref u, S, rfl, C, .inr ⟨u, xs, rfl, h1, h2, h3, fun _ => k, fun p e H' s' => by rw [h4 p e]; exact k H' s'⟩⟩
theorem nopl_ints {H : Hp} {S : List Stm} {u : Addr} {p : Pl} (hu : H u = some (.tup (p.map V.int))) (l : p.length ≤ 100) (h : look S p = none) : NoPl H S (.ref u) := by
  refine .inr ⟨u, _, rfl, hu, by rw [List.length_map]; exact l, fun y hy => ?_, fun r' e => by rw [← map_int_inj e]; exact h⟩
  obtain ⟨i, _, rfl⟩ := List.mem_map.mp hy
  exact ⟨_, .int i⟩
theorem nopl_one {H : Hp} {S : List Stm} {u : Addr} {v : V} {T : String} (hu : H u = some (.tup [v])) (kd : Kd H v T) (n : ∀ i, v ≠ .int i) : NoPl H S (.ref u) := by
  refine .inr ⟨u, _, rfl, hu, by simp, fun y hy => ?_, fun r e => ?_⟩
  · rw [List.mem_singleton.mp hy]; exact ⟨_, kd⟩
  · cases r with
    | nil => cases e
    | cons i r => injection e with e _; exact absurd e (n i)
theorem lay_small : (PyData.list [.int 0]).canLay0 = true ∧ (PyData.tuple [.bool true]).canLay0 = true ∧ (PyData.tuple [.bool false]).canLay0 = true ∧ (PyData.tuple [.str "0"]).canLay0 = true ∧ (PyData.tuple [.tuple [.int 0]]).canLay0 = true ∧ (PyData.tuple [.list [.int 0]]).canLay0 = true ∧ (PyData.str "0").canLay0 = true := by decide +kernel
theorem bad_all {K : PySem.W.Frag} {H : Hp} {S : List Stm} {e1 e2 e3 e4 i5 e5 i6 e6 dd : Addr} (m1 : H e1 = some (.lst [.int 0])) (m2 : H e2 = some (.tup [.bl true])) (m3 : H e3 = some (.tup [.bl false])) (m4 : H e4 = some (.tup [.str "0"])) (n5 : H i5 = some (.tup [.int 0])) (m5 : H e5 = some (.tup [.ref i5]))
    (n6 : H i6 = some (.lst [.int 0])) (m6 : H e6 = some (.tup [.ref i6])) (m7 : H dd = some (.dK [])) : ∀ v ∈ [V.non, .int 0, .str "0", .ref e1, .ref e2, .ref e3, .ref e4, .ref e5, .ref e6, .ref dd], Wrg K H S v := by
  intro v hv
  simp only [List.mem_cons, List.not_mem_nil, or_false] at hv
  obtain ⟨y1, y2, y3, y4, y5, y6, y7⟩ := lay_small
  rcases hv with rfl | rfl | rfl | rfl | rfl | rfl | rfl | rfl | rfl | rfl
  · exact ⟨.inl ⟨_, .non, by decide +kernel⟩, slf_dp (d := .none) (fun _ _ => .non) rfl (by decide)⟩
  · exact ⟨.inl ⟨_, .int 0, by decide +kernel⟩, slf_dp (d := .int 0) (fun _ _ => .int 0) rfl (by decide)⟩
  · exact ⟨.inl ⟨_, .str "0", by decide +kernel⟩, slf_dp (d := .str "0") (fun _ _ => .str _) y7 (by decide)⟩
  · exact ⟨.inl ⟨_, .lst m1, by decide +kernel⟩, slf_dp (d := .list [.int 0]) (fun _ s => .lst (SqL.of (s _ _ m1)) (.cons (.int 0) .nil)) y1 (by decide)⟩
  · exact ⟨nopl_one m2 (.bl _) (fun i e => nomatch e), slf_dp (d := .tuple [.bool true]) (fun _ s => .tup (SqT.of (s _ _ m2)) (.cons (.bl _) .nil)) y2 (by decide)⟩
  · exact ⟨nopl_one m3 (.bl _) (fun i e => nomatch e), slf_dp (d := .tuple [.bool false]) (fun _ s => .tup (SqT.of (s _ _ m3)) (.cons (.bl _) .nil)) y3 (by decide)⟩
  · exact ⟨nopl_one m4 (.str _) (fun i e => nomatch e), slf_dp (d := .tuple [.str "0"]) (fun _ s => .tup (SqT.of (s _ _ m4)) (.cons (.str _) .nil)) y4 (by decide)⟩
  · exact ⟨nopl_one m5 (.tup n5) (fun i e => nomatch e), slf_dp (d := .tuple [.tuple [.int 0]]) (fun _ s => .tup (SqT.of (s _ _ m5)) (.cons (.tup (SqT.of (s _ _ n5)) (.cons (.int 0) .nil)) .nil)) y5 (by decide)⟩
  · exact ⟨nopl_one m6 (.lst n6) (fun i e => nomatch e), slf_dp (d := .tuple [.list [.int 0]]) (fun _ s => .tup (SqT.of (s _ _ m6)) (.cons (.lst (SqL.of (s _ _ n6)) (.cons (.int 0) .nil)) .nil)) y6 (by decide)⟩
  · exact ⟨.inl ⟨_, .dK m7, by decide +kernel⟩, fun _ s => .inr ⟨dd, rfl, s _ _ m7⟩⟩
def spLaw1 (K : PySem.W.Frag) : Sp := fun vs H Q _ => ∃ (a : Addr) (ns : List Int), vs = [.ref a] ∧ SqL K H a (ns.map V.int) ∧ ns.length ≤ 63 ∧ ∀ H', Q (.bl true) H'
abbrev nsW : List Str := ["_law_script", "_law_pool_here", "_law_names_here", "_law_box", "_law_statements", "_law_rows", "_law_places", "_law_made", "_law_place", "_law_statement", "_law_value", "_law_k", "_law_row"]
section
variable {P : Program} {w : World} {K : PySem.W.Frag} {mg : Str → Option Value} {base : Heap} {CS CK it CN : Addr}
theorem scW : FnScope nsW ["_law_script"] (defScope sLaw) := ⟨rfl, rfl, rfl, by decide +kernel, rfl, by decide +kernel, by decide +kernel⟩
theorem ok_law1 {f fP fD fN fB fI fW fG fH fL fS fR fT : Addr} {fd fdP fdD fdN fdB fdI fdW fdG fdH fdL fdS fdR fdT : FuncData} (F : Fun K "law" "law" sLaw f fd) (B : Bl mg) (T : Txt K w mg CS CK it)
    (GP : FnOk P w K mg base CX0 1 fP fdP ["_law_script", "_law_k"] (spPool K)) (bP : Binds K fdP ["_law_script", "_law_k"] []) (kP : PySem.W.keepIn K (.ref fP) = true) (mP : mg "_law_pool" = some (.ref fP))
    (GD : FnOk P w K mg base CX0 1 fD fdD ["_law_pool_here", "_law_amount"] spDraw) (bD : Binds K fdD ["_law_pool_here", "_law_amount"] []) (kD : PySem.W.keepIn K (.ref fD) = true) (mD : mg "_law_draw" = some (.ref fD))
    (GN : FnOk P w K mg base CX0 2 fN fdN ["_law_pool_here"] spNames) (bN : Binds K fdN ["_law_pool_here"] []) (kN : PySem.W.keepIn K (.ref fN) = true) (mN : mg "_law_names" = some (.ref fN))
    (GB : FnOk P w K mg base CX0 5 fB fdB psB (spBranch 3)) (bB : Binds K fdB psB []) (kB : PySem.W.keepIn K (.ref fB) = true) (mB : mg "_law_branch" = some (.ref fB))
    (GW : FnOk P w K mg base CX0 4 fW fdW psWk (spWalk 3)) (bW : Binds K fdW psWk []) (kW : PySem.W.keepIn K (.ref fW) = true) (mW : mg "_law_walk" = some (.ref fW))
    (M : Mk K CS fI) (GI : FnOk P w K mg base CX0 9 fI fdI ["self", "statements"] (spSInit CS)) (bI : Binds K fdI ["self", "statements"] [])
    (GG : FnOk P w K mg base CX0 3 fG fdG ["self", "place"] (spGet CS)) (bG : Binds K fdG ["self", "place"] []) (mG : OwnM K CS "__getitem__" fG) (nG : PySem.W.fnIn K fG = true)
    (GH : FnOk P w K mg base CX0 2 fH fdH ["self", "place"] (spHas CS)) (bH : Binds K fdH ["self", "place"] []) (mH : OwnM K CS "__contains__" fH)
    (GL : FnOk P w K mg base CX0 1 fL fdL ["self"] (spSLen CS)) (bL : Binds K fdL ["self"] []) (mL : OwnM K CS "__len__" fL)
    (GS : GFn P w K mg base 5 fS fdS ["script"] (spPlaces CS)) (bS : Binds K fdS ["script"] []) (kS : PySem.W.keepIn K (.ref fS) = true) (mS : mg "places_of" = some (.ref fS))
    (GR : FnOk P w K mg base CX0 5 fR fdR ["_law_script", "_law_place"] (spRef CS K)) (bR : Binds K fdR ["_law_script", "_law_place"] []) (kR : PySem.W.keepIn K (.ref fR) = true) (mR : mg "_law_refused" = some (.ref fR))
    (GT : FnOk P w K mg base CX0 2 fT fdT ["_law_pool_here", "_law_places"] spTup) (bT : Binds K fdT ["_law_pool_here", "_law_places"] []) (kT : PySem.W.keepIn K (.ref fT) = true) (mT : mg "_law_tuple" = some (.ref fT)) :
    FnOk P w K mg base CX0 11 f fd ["_law_script"] (spLaw1 K) := by
  refine F.ok scW (fun vs H Q E h => ?_) (fun cdv A outer s H vs Q E hr h => ?_)
  · obtain ⟨a, ns, rfl, _⟩ := h
    rfl
  obtain ⟨a, ns, rfl, hS, h63, q⟩ := h
  have hu' := hu_of hr
  have hu64 : _ + 64 < cLine := Nat.lt_of_le_of_lt (Nat.add_le_add_left (by decide : 64 ≤ 16 * 10 + 200) _) (by have := hr.un; rwa [Nat.add_assoc] at this)
  have hu65 : _ + 65 < cLine := Nat.lt_of_le_of_lt (Nat.add_le_add_left (by decide : 65 ≤ 16 * 10 + 200) _) (by have := hr.un; rwa [Nat.add_assoc] at this)
  have hr1 : Room 1 _ := hr.mono (by decide)
  have hr2 : Room 2 _ := hr.mono (by decide)
  have hr4 : Room 4 _ := hr.mono (by decide)
  have hr5 : Room 5 _ := hr.mono (by decide)
  have hr8 : Room 8 _ := hr.mono (by decide)
  have hr9 := hr
  have nd := scW.nd
  refine ⟨_, (pss_cons (ps_set (i := 1) nd rfl (Or.inl rfl) (pe_call GP hr1 rfl mP kP bP .nil pass0 (pa_cons (pv 0) (pa_cons (pe_int) pa_nil))))
 (pss_cons (ps_set (i := 2) nd rfl (Or.inl rfl) (pe_call GN hr2 rfl mN kN bN .nil pass0 (pa_cons (pv 1) pa_nil)))
 (pss_cons (ps_set (i := 3) nd rfl (Or.inl rfl) (pe_lst (pa_cons (pe_int) (pa_cons (pe_int) (pa_cons (pe_int) pa_nil)))))
 (pss_cons (ps_set (i := 4) nd rfl (Or.inl rfl) (pe_call GB hr5 rfl mB kB bB .nil pass0 (pa_cons (pv 1) (pa_cons (pv 3) (pa_cons (pv 2) (pa_cons (pe_op op_add (pe_int) (pe_call GD hr1 rfl mD kD bD .nil pass0 (pa_cons (pv 1) (pa_cons (pe_int) pa_nil)))) (pa_cons (pe_int) pa_nil)))))))
 (pss_cons (ps_set (i := 5) nd rfl (Or.inl rfl) (pe_call GW hr4 rfl mW kW bW .nil pass0 (pa_cons (pv 4) (pa_cons (pe_tup pa_nil) (pa_cons (pe_lst pa_nil) pa_nil)))))
 (pss_cons (ps_setLc (i := 6) (own := [("_law_row", 12)]) (g := gName 12) (tt := tYes) rfl nd rfl rfl (sw_true rfl rfl rfl (by decide +kernel)) (pi_list (pv 5)) (blkOk_by (own := [("_law_row", 12)]) (N := nsW) (sc := defScope sLaw) (by decide +kernel)) (fun _ _ _ _ _ => pg_name (i := 12) nd rfl (Or.inl rfl)) (fun _ _ _ _ _ => pts_nil) (fun _ _ _ _ _ => pe_ix (r := rIxT K) ix_tup (pv 12) pe_int (fun _ _ => rfl)))
 (pss_cons (ps_set (i := 7) nd rfl (Or.inl rfl) (pe_make M GI hr9 rfl T.mgS bI .nil pass0 (pa_cons (pv 4) pa_nil)))
 (pss_cons (ps_if (PW.pt (pw_or (pt_cmpR (op_neD hu64) (pe_fld (pv 7) rfl) (pv 4) (nomark _)) (pw_or (pt_not (pt_val (pe_callB call_isi (by rfl) T.isi (by decide +kernel) (pa_cons (pe_fld (pv 7) rfl) (pa_cons (pe_bltn (v := .ty "tuple") (by rfl) B.tuple (by decide +kernel) rfl) pa_nil))))) (pw_or1 (pt_cmpR (op_neD hu64) (pe_fld (pv 7) rfl) (pe_callTy call_tuple_of (by rfl) B.tuple (by decide +kernel) (pa_cons (pv 6) pa_nil)) (nomark _)))))) (pss_one (ps_ret pe_bl)) pss_nil)
 (pss_cons (ps_if (PW.pt (pw_or (pt_cmpR op_ne (pe_callB (call_lenOwn mL GL hr2 bL pass0) (by rfl) B.len PySem.boot_len (pa_cons (pv 7) pa_nil)) (pe_callB call_len_seq (by rfl) B.len PySem.boot_len (pa_cons (pv 6) pa_nil)) (nomark _)) (pw_or1 (pt_cmpR (op_neD hu64) (pe_listG (pgen_call GS hr5 rfl mS kS bS .nil (pa_cons (pv 7) pa_nil)) passZ noStopZ hr8 rfl T.list (by decide +kernel)) (pv 5) (nomark _))))) (pss_one (ps_ret pe_bl)) pss_nil)
 (pss_cons (ps_for PassesOwn.never rfl (pi_list (pv 5)) (pg_tup rfl (pgs_cons (pg_name (i := 8) nd rfl (Or.inl rfl)) (pgs_cons (pg_name (i := 9) nd rfl (Or.inl rfl)) pgs_nil))) (pss_one (ps_if (PW.pt (pw_or (pt_cmpR (op_neD hu64) (ix_own (value := .Name "self" ⟨0, 0, 0, 0⟩) (slice := .Name "self" ⟨0, 0, 0, 0⟩) mG nG GG hr4 bG pass0 (pv 7) (pv 8) (fun _ _ => rfl)) (pv 9) (nomark _)) (pw_or1 (pt_cmpR (op_notInOwn mH GH hr2 bH pass0) (pv 8) (pv 7) (by rfl))))) (pss_one (ps_ret pe_bl)) pss_nil)))
 (pss_cons (ps_for PassesOwn.never rfl (pi_list (pe_lst (pa_cons (pe_non) (pa_cons (pe_int) (pa_cons (pe_str) (pa_cons (pe_lst (pa_cons (pe_int) pa_nil)) (pa_cons (pe_tup (pa_cons (pe_bl) pa_nil)) (pa_cons (pe_tup (pa_cons (pe_bl) pa_nil)) (pa_cons (pe_tup (pa_cons (pe_str) pa_nil)) (pa_cons (pe_tup (pa_cons (pe_tup (pa_cons (pe_int) pa_nil)) pa_nil)) (pa_cons (pe_tup (pa_cons (pe_lst (pa_cons (pe_int) pa_nil)) pa_nil)) (pa_cons (pe_dnewK) pa_nil)))))))))))) (pg_name (i := 10) nd rfl (Or.inl rfl)) (pss_one (ps_if (PW.pt (pw_or (pt_cmpR (op_inOwn mH GH hr2 bH pass0) (pv 10) (pv 7) (by rfl)) (pw_or1 (pt_not (pt_val (pe_call GR hr5 rfl mR kR bR .nil pass0 (pa_cons (pv 7) (pa_cons (pv 10) pa_nil)))))))) (pss_one (ps_ret pe_bl)) pss_nil)))
 (pss_cons (ps_for PassesOwn.never rfl (pi_range2 rfl B.range (pa_cons (pe_int) (pa_cons (pe_callB call_len_seq (by rfl) B.len PySem.boot_len (pa_cons (pv 0) pa_nil)) pa_nil))) (pg_name (i := 11) nd rfl (Or.inl rfl)) (pss_cons (ps_set (i := 8) nd rfl (Or.inl rfl) (pe_call GT hr2 rfl mT kT bT .nil pass0 (pa_cons (pe_call GP hr1 rfl mP kP bP .nil pass0 (pa_cons (pv 0) (pa_cons (pv 11) pa_nil))) (pa_cons (pv 6) pa_nil))))
 (pss_one (ps_if (pt_cmpR (op_inD hu65) (pv 8) (pv 6) (by rfl)) (pss_one (ps_if (PW.pt (pw_or (pt_cmpR (op_notInOwn mH GH hr2 bH pass0) (pv 8) (pv 7) (by rfl)) (pw_or1 (pt_cmpR (op_neD hu64) (ix_own (value := .Name "self" ⟨0, 0, 0, 0⟩) (slice := .Name "self" ⟨0, 0, 0, 0⟩) mG nG GG hr4 bG pass0 (pv 7) (pv 8) (fun _ _ => rfl)) (pe_ix ix_tup (pe_ix ix_list (pv 5) (pe_bm PySem.F.plainAttrs_list PySem.F.slot_list_index PySem.F.type_list_index (mt_indexD hu65) (pv 6) (pa_cons (pv 8) pa_nil)) (fun _ _ => rfl)) (pe_int) (fun _ _ => rfl)) (nomark _))))) (pss_one (ps_ret pe_bl)) pss_nil)) (pss_one (ps_if (PW.pt (pw_or (pt_cmpR (op_inOwn mH GH hr2 bH pass0) (pv 8) (pv 7) (by rfl)) (pw_or1 (pt_not (pt_val (pe_call GR hr5 rfl mR kR bR .nil pass0 (pa_cons (pv 7) (pa_cons (pv 8) pa_nil)))))))) (pss_one (ps_ret pe_bl)) pss_nil))))))
 (pss_one (ps_ret (pe_and (pe_cmpR (op_eqD hu64) (pe_fld (pv 7) rfl) (pe_callTy call_tuple_of (by rfl) B.tuple (by decide +kernel) (pa_cons (pv 6) pa_nil)) (nomark _)) (pe_one (pe_cmpR (op_eqD hu64) (pe_listG (pgen_call GS hr5 rfl mS kS bS .nil (pa_cons (pv 7) pa_nil)) passZ noStopZ hr8 rfl T.list (by decide +kernel)) (pv 5) (nomark _)))))))))))))))))), ?_⟩
  -- the pool, the names, the statements
  refine ⟨_, rfl, a, ns, 0, rfl, hS, by decide, fun p H3 hp s3 P3 => ?_⟩
  refine ⟨_, rfl, p, rfl, P3, fun nq H4 hq k4 P4 N4 => ?_⟩
  refine ⟨(by show 3 ≤ sizeLine; decide), fun b hb => ?_⟩
  have npb : p ≠ b := by obtain ⟨_, _, _, z⟩ := P4; exact ne_of_none z hb
  have nqb : nq ≠ b := by obtain ⟨_, _, _, z, _⟩ := N4; exact ne_of_none z hb
  have npq : p ≠ nq := by obtain ⟨_, _, _, z⟩ := P3; exact ne_of_none z hq
  have D5 : Dr (L2.upd H4 b (.lst [.int 8, .int 0, .int 3])) p b nq 8 0 := by
    obtain ⟨x, y, z, e⟩ := P4
    obtain ⟨a1, a2, a3, e', m⟩ := N4
    exact ⟨⟨x, y, z, by rw [upd_ne npb]; exact e⟩, upd_same, ⟨a1, a2, a3, by rw [upd_ne nqb]; exact e', m⟩, npb, npq, nqb.symm⟩
  refine ⟨_, rfl, _, rfl, _, rfl, _, rfl, p, 8, rfl, D5.pool, by decide, by decide, fun r H6 r0 r8 k6 P6 => ?_⟩
  have D6 := D5.draw k6 P6
  refine ⟨_, _, rfl, rfl, p, b, nq, _, 8, 0, 0, rfl, rfl, by decide, D6, by omega, by omega, by decide, by decide, by decide, by decide, fun t H7 xs S ht hS7 ok few _ _ ne D7 k7 => ?_⟩
  have nS : S ≠ [] := ne (by omega) (by decide)
  have few8 : cntAll S ≤ 8 := by omega
  have base7 : ∀ c o, H c = some o → H7 c = some o := fun c o e2 => by
    have e3 := s3 _ _ e2
    have ncp : c ≠ p := ne_of_none e2 hp
    have e4 := k4 _ _ e3 ncp
    have ncb : c ≠ b := ne_of_none e4 hb
    have e5 : (L2.upd H4 b (.lst [.int 8, .int 0, .int 3])) c = some o := by rw [upd_ne ncb]; exact e4
    exact k7 _ _ (k6 _ _ e5 ncp) ncp ncb
  clear D5 D6 D7 k4 k6 k7 P3 P4 P6 N4
  -- the rows
  refine ⟨_, rfl, (by show 0 ≤ sizeLine; decide), fun pr hpr => ⟨(by show 0 ≤ sizeLine; decide), fun fa hfa => ?_⟩⟩
  have sa := same_new hpr (.tup [])
  have sc := same_new hfa (.lst [])
  have s9 := sa.trans sc
  refine ⟨t, pr, fa, xs, [], S, [], [], 0, 0, rfl, s9 _ _ ht, atAll_keep (TK.of_same s9) _ _ hS7, ok, rfl, by decide, sc _ _ upd_same, by decide, upd_same, trivial, by show 0 + cntAll S ≤ 100; omega, fun H10 vs k10 hf10 hm10 => ?_⟩
  rw [List.nil_append] at hm10
  have hfa7 : H7 fa = none := sa.free hfa
  have s10 : Same H7 H10 := fun c o e => k10 _ _ (s9 _ _ e) (ne_of_none e hfa7)
  have lv := hm10.len
  have lw := walkAll_len S [] 0
  -- the places
  refine ⟨_, rfl, fa, rfl, ⟨_, SqL.of hf10⟩, fun D hD => ?_⟩
  refine lc_list (K := K) (a := fa) (xs := vs) (fun j H7 => ∃ ws, H7 D = some (.lst ws) ∧ PtsAt H7 ws ((walkAll S [] 0).take j) ∧ Same H10 H7) ⟨[], upd_same, trivial, same_new hD _⟩ (fun j H7 _ ⟨_, _, _, y⟩ => SqL.of (y _ _ hf10)) ?_ ?_
  · rintro j v H7 hv ⟨ws, e1, e2, e3⟩
    obtain ⟨r, er, T', u, wv, rfl, h1, h2, h3⟩ := hm10.get hv
    refine ⟨rfl, ?_⟩
    unfold tYes
    dsimp only
    rw [if_pos rfl]
    have lt : j < vs.length := (List.getElem?_eq_some_iff.mp hv).1
    have lw := e2.len
    rw [List.length_take] at lw
    refine ⟨_, rfl, T', _, _, _, rfl, rfl, SqT.of (e3 _ _ h1), rfl, ws, e1, small1000 (by omega), ws ++ [.ref u], upd_same, ?_, fun b o e => ?_⟩
    · rw [List.take_add_one, er]
      have tk : TK H7 (L2.upd H7 D (.lst (ws ++ [.ref u]))) := fun a ys e => by rw [upd_ne (ne_of e e1 (by intro z; cases z))]; exact e
      exact PtsAt.snoc ⟨u, rfl, tk _ _ (e3 _ _ h2)⟩ (e2.keep tk)
    · rw [upd_ne (ne_of_none e hD)]
      exact e3 _ _ e
  rintro H11 ⟨ws, hD11, hw11, s11⟩
  rw [lv, List.take_length] at hw11
  -- the script
  refine ⟨_, rfl, fun x dx nx ndx nex => ?_⟩
  have sx : Same H11 (L2.upd (L2.upd H11 dx (.own x)) x (.ins CS dx [])) := fun c o e => by
    rw [upd_ne (ne_of_none e nx), upd_ne (ne_of_none e ndx)]; exact e
  have s711 := s10.trans s11
  refine ⟨x, t, dx, xs, S, rfl, upd_same, sx _ _ (s711 _ _ ht), atAll_keep (TK.of_same (s711.trans sx)) _ _ hS7, nS, ok, few8, fun H12 C12 k12 => ⟨rfl, ?_⟩⟩
  have s12 : Same H11 H12 := fun c o e => k12 _ _ (sx _ _ e) (ne_of_none e nx)
  have L12 : L1 CS H x t fa D S vs ws H12 := ⟨fun c o e => s12 _ _ (s711 _ _ (base7 _ _ e)), C12, (s11.trans s12) _ _ hf10, hm10.keep (TK.of_same (s11.trans s12)), s12 _ _ hD11, hw11.keep (TK.of_same s12)⟩
  clear s12 k12 s711 sx s11 hw11 hD11 hm10 s10 hf10 k10 s9 sa sc base7 hS7 ht C12 hfa7 npb nqb npq
  obtain ⟨lay1, dep1⟩ := layAll_ok S 0 0 ok
  have dep1 := dep1 (by decide)
  have lays : (PyData.tuple (dAll S)).canLay0 = true := by rw [PyData.canLay0]; exact lay1
  have deps : (PyData.tuple (dAll S)).depth ≤ 64 := by simp only [PyData.depth]; omega
  obtain ⟨layp, depp⟩ := pts_lay (walkAll S [] 0)
  have laypt : (PyData.tuple (ptsD (walkAll S [] 0))).canLay0 = true := by rw [PyData.canLay0]; exact layp
  have deppt : (PyData.tuple (ptsD (walkAll S [] 0))).depth ≤ 64 := by simp only [PyData.depth]; omega
  have laypl : (PyData.list (ptsD (walkAll S [] 0))).canLay0 = true := by rw [PyData.canLay0]; exact layp
  have deppl : (PyData.list (ptsD (walkAll S [] 0))).depth ≤ 64 := by simp only [PyData.depth]; omega
  obtain ⟨layr, depr⟩ := prs_lay (l := walkAll S [] 0) fun r hr => (row_ok ok hr).2.2.2
  have layrl : (PyData.list (prsD (walkAll S [] 0))).canLay0 = true := by rw [PyData.canLay0]; exact layr
  have deprl : (PyData.list (prsD (walkAll S [] 0))).depth ≤ 64 := by simp only [PyData.depth]; omega
  -- statements and places
  obtain ⟨⟨dx8, dd8, pl8, bs, kvs, ys, g1, g2, g3, g4, g5, g6, g7⟩, _⟩ := id L12.sc
  refine ⟨_, rfl, x, CS, dx8, _, _, rfl, g1, T.clS, T.nS, flds_st _ _ _, _, rfl, _, _, .tup (SqT.of g2) (dpAll_of S ys g3), .tup (SqT.of g2) (dpAll_of S ys g3), shaped_by lays deps, shaped_by lays deps, _, rfl, ?_⟩
  rw [eqv_refl_tup lay1]
  refine iteF ?_
  refine ⟨_, rfl, x, CS, dx8, _, _, rfl, g1, T.clS, T.nP, flds_pl _ _ _, _, _, _, _, true, rfl, .ty "tuple", .base (.tup g6), kit_ty (by decide +kernel), true, rfl, iteF ?_⟩
  refine ⟨_, rfl, x, CS, dx8, _, _, rfl, g1, T.clS, T.nP, flds_pl _ _ _, _, rfl, D, ws, rfl, .inl ⟨SqL.of L12.hd, fun z1 hz1 => ?_⟩⟩
  have s13 := same_new hz1 (.tup ws)
  have pts := keys_pts g5 g7
  refine ⟨.tuple (ptsD (walkAll S [] 0)), .tuple (ptsD (walkAll S [] 0)), .tup (SqT.of (s13 _ _ g6)) (pts_dp (pts.keep (TK.of_same s13))), .tup (SqT.of upd_same) (pts_dp (L12.pw.keep (TK.of_same s13))), shaped_by laypt deppt, shaped_by laypt deppt, _, rfl, ?_⟩
  rw [eqv_refl_tup layp]
  refine iteF ?_
  have L13 := L12.keep s13
  -- len, places_of
  have gk : ∀ {H2 : Hp}, L1 CS H x t fa D S vs ws H2 → ∃ dx, ∃ fs, H2 x = some (.ins CS dx fs) := fun {H2} L => by
    obtain ⟨⟨dx, dd, pl, _, _, _, g, _⟩, _⟩ := L.sc
    exact ⟨dx, _, g⟩
  obtain ⟨dx13, fs13, g13⟩ := gk L13
  refine ⟨_, rfl, x, dx13, fs13, rfl, g13, x, t, S, rfl, L13.sc, _, rfl, by omega, by omega, ?_⟩
  refine ⟨_, rfl, D, ws, rfl, .inl (SqL.of L13.hd), ?_⟩
  refine ⟨rfl, _, rfl, iteNS (by rw [L13.pw.len, lw]) ?_⟩
  refine ⟨_, rfl, x, t, S, rfl, L13.sc, fun out H14 s14 ho z2 hz2 => ?_⟩
  have s15 := s14.trans (same_new hz2 (.lst out))
  refine ⟨_, rfl, .list (prsD (walkAll S [] 0)), .list (prsD (walkAll S [] 0)), .lst (SqL.of upd_same) (prs_dp (ho.keep (TK.of_same (same_new hz2 _)))), .lst (SqL.of (s15 _ _ L13.hf)) (prs_dp (L13.rw.keep (TK.of_same s15))), shaped_by layrl deprl, shaped_by layrl deprl, _, rfl, ?_⟩
  rw [eqv_refl_list layr]
  refine iteF ?_
  have L15 := L13.keep s15
  clear L12 L13 s15 s14 ho hz2 g1 g2 g3 g4 g5 g6 g7 g13 s13 pts hz1
  -- every row
  refine ⟨_, rfl, fa, rfl, ⟨_, SqL.of L15.hf⟩, for_list (K := K) (a := fa) (xs := vs) (fun j σ H2 => ∃ w8 w9 : Option V, σ = [some (.ref a), some (.ref p), some (.ref nq), some (.ref b), some (.ref t), some (.ref fa), some (.ref D), some (.ref x), w8, w9, none, none, none] ∧ L1 CS H x t fa D S vs ws H2) ?_ ?_ ?_ ?_⟩
  · exact ⟨_, _, rfl, L15⟩
  · rintro j σ H2 _ ⟨w8, w9, rfl, L⟩
    exact SqL.of L.hf
  · rintro j v σ H2 hv ⟨w8, w9, rfl, L⟩
    obtain ⟨r, er, T', u, wv, rfl, h1, h2, h3⟩ := L.rw.get hv
    obtain ⟨l, pn, l5, d', h', o, hd'⟩ := row_ok ok (List.mem_of_getElem? er)
    obtain ⟨sh, ev⟩ := shaped_ok o hd'
    obtain ⟨dx, fs, g⟩ := gk L
    refine ⟨T', _, rfl, SqT.of h1, rfl, _, _, rfl, _, _, rfl, rfl, ?_⟩
    refine ⟨_, rfl, _, rfl, x, dx, fs, rfl, g, x, t, u, S, r.1, r.2, rfl, L.sc, h2, by omega, l, fun v' H3 s3 hv3 => ?_⟩
    refine ⟨_, rfl, r.2.d, r.2.d, dp_of r.2 v' hv3, dp_of r.2 wv (Stm.at_keep (TK.of_same s3) _ _ h3), sh, sh, _, rfl, ?_⟩
    rw [ev]
    refine iteF ?_
    have L3 := L.keep s3
    obtain ⟨dx3, fs3, g3⟩ := gk L3
    refine ⟨_, rfl, _, rfl, x, dx3, fs3, rfl, g3, has_pl L3.sc (s3 _ _ h2) (by omega) fun H4 s4 => ⟨_, rfl, _, rfl, iteFb (by rw [l]; rfl) ?_⟩⟩
    exact ⟨_, _, rfl, L3.keep s4⟩
  rintro σ H16 ⟨w8, w9, rfl, L16⟩
  -- what is no place
  refine ⟨(by show 1 ≤ sizeLine; decide), fun e1 he1 => ⟨(by show 1 ≤ sizeLine; decide), fun e2 he2 => ⟨(by show 1 ≤ sizeLine; decide), fun e3 he3 => ⟨(by show 1 ≤ sizeLine; decide), fun e4 he4 => ⟨(by show 1 ≤ sizeLine; decide), fun i5 hi5 => ⟨(by show 1 ≤ sizeLine; decide), fun e5 he5 => ⟨(by show 1 ≤ sizeLine; decide), fun i6 hi6 => ⟨(by show 1 ≤ sizeLine; decide), fun e6 he6 => fun dd hdd => ⟨(by show 10 ≤ sizeLine; decide), fun A hA => ?_⟩⟩⟩⟩⟩⟩⟩⟩⟩
  have t1 := same_new he1 (.lst [.int 0])
  have t2 := same_new he2 (.tup [.bl true])
  have t3 := same_new he3 (.tup [.bl false])
  have t4 := same_new he4 (.tup [.str "0"])
  have t5 := same_new hi5 (.tup [.int 0])
  have t6 := same_new he5 (.tup [.ref i5])
  have t7 := same_new hi6 (.lst [.int 0])
  have t8 := same_new he6 (.tup [.ref i6])
  have t9 := same_new hdd (.dK [])
  have tA := same_new hA (.lst [.non, .int 0, .str "0", .ref e1, .ref e2, .ref e3, .ref e4, .ref e5, .ref e6, .ref dd])
  have u9 := t9.trans tA
  have u8 := t8.trans u9
  have u7 := t7.trans u8
  have u6 := t6.trans u7
  have u5 := t5.trans u6
  have u4 := t4.trans u5
  have u3 := t3.trans u4
  have u2 := t2.trans u3
  have u1 := t1.trans u2
  have wrong := bad_all (K := K) (S := S) (u2 _ _ upd_same) (u3 _ _ upd_same) (u4 _ _ upd_same) (u5 _ _ upd_same) (u6 _ _ upd_same) (u7 _ _ upd_same) (u8 _ _ upd_same) (u9 _ _ upd_same) (tA _ _ upd_same)
  refine ⟨A, rfl, ⟨_, SqL.of upd_same⟩, for_list (K := K) (a := A) (xs := [.non, .int 0, .str "0", .ref e1, .ref e2, .ref e3, .ref e4, .ref e5, .ref e6, .ref dd]) (fun j σ H2 => ∃ w8 w9 w10 : Option V, σ = [some (.ref a), some (.ref p), some (.ref nq), some (.ref b), some (.ref t), some (.ref fa), some (.ref D), some (.ref x), w8, w9, w10, none, none] ∧ L1 CS H x t fa D S vs ws H2 ∧ (∀ v ∈ [.non, .int 0, .str "0", .ref e1, .ref e2, .ref e3, .ref e4, .ref e5, .ref e6, .ref dd], Wrg K H2 S v) ∧ H2 A = some (.lst [.non, .int 0, .str "0", .ref e1, .ref e2, .ref e3, .ref e4, .ref e5, .ref e6, .ref dd])) ?_ ?_ ?_ ?_⟩
  · exact ⟨_, _, _, rfl, L16.keep u1, wrong, upd_same⟩
  · rintro j σ H2 _ ⟨w8, w9, w10, rfl, L, _, hA2⟩
    exact SqL.of hA2
  · rintro j v σ H2 hv ⟨w8, w9, w10, rfl, L, wr, hA2⟩
    obtain ⟨np, sl⟩ := wr v (List.mem_of_getElem? hv)
    obtain ⟨dx, fs, g⟩ := gk L
    refine ⟨_, rfl, _, rfl, x, dx, fs, rfl, g, has_no L.sc np fun H3 s3 => ⟨_, rfl, _, rfl, iteF ?_⟩⟩
    refine ⟨_, rfl, _, rfl, x, t, v, S, rfl, L.sc.keep s3, np.keep s3, (fun H4 s4 => sl H4 (s3.trans s4)), fun H4 s4 => ⟨_, rfl, iteF ?_⟩⟩
    have s34 := s3.trans s4
    exact ⟨_, _, _, rfl, L.keep s34, fun y m => (wr y m).keep s34, s34 _ _ hA2⟩
  rintro σ H17 ⟨w8', w9', w10, rfl, L17, _, _⟩
  clear wrong L16 L15 t1 t2 t3 t4 t5 t6 t7 t8 t9 tA u1 u2 u3 u4 u5 u6 u7 u8 u9
  -- drawn tuples
  refine ⟨_, rfl, a, _, rfl, .inl (L17.base.seq hS), _, _, rfl, ⟨by decide, by decide, by have := h63; rw [List.length_map]; omega, by have := h63; rw [List.length_map]; omega⟩, ?_⟩
  refine for_range (lo := 1) (fun i σ H2 => ∃ w8 w11 : Option V, σ = [some (.ref a), some (.ref p), some (.ref nq), some (.ref b), some (.ref t), some (.ref fa), some (.ref D), some (.ref x), w8, w9', w10, w11, none] ∧ L1 CS H x t fa D S vs ws H2) ⟨_, _, rfl, L17⟩ ?_ ?_
  · rintro i σ H2 hi ⟨w8, w11, rfl, L⟩
    have lws := L.pw.len
    refine ⟨_, rfl, _, rfl, a, ns, _, rfl, L.base.seq hS, by omega, fun p2 H3 hp2 s3 P3 => ?_⟩
    have nS1 : 1 ≤ S.length := List.length_pos_iff.mpr nS
    have cS := len_le_cnt S
    refine ⟨_, rfl, p2, D, ws, rfl, P3, ne_of_none L.hd hp2, s3 _ _ L.hd, ?_, by omega, by omega, fun z r H4 k4 P4 hz lr => ?_⟩
    · intro v hv
      obtain ⟨k, hk⟩ := List.getElem?_of_mem hv
      obtain ⟨u, row, e, er, hu⟩ := L.pw.get hk
      obtain ⟨l, pn, l5, _⟩ := row_ok ok (List.mem_of_getElem? er)
      exact ⟨u, row.1, e, s3 _ _ hu, List.length_pos_iff.mpr pn, l5⟩
    have s4 : Same H2 H4 := fun c o e => k4 _ _ (s3 _ _ e) (ne_of_none e hp2)
    have L4 := L.keep s4
    refine ⟨_, rfl, _, rfl, ptD r, ptsD (walkAll S [] 0), ptD_dp hz, .lst (SqL.of L4.hd) (pts_dp L4.pw), shaped_by (ptD_lay r) (by have := ptD_depth r; omega), shaped_by laypl deppl, _, rfl, ?_⟩
    obtain ⟨dx4, fs4, g4⟩ := gk L4
    cases hany : ((ptsD (walkAll S [] 0)).any fun z => PyData.eqv z (ptD r)) with
    | true =>
      refine iteT ?_
      obtain ⟨j, d, ej, hd, no⟩ := first_idx hany
      obtain ⟨row, erow, rfl⟩ : ∃ row, (walkAll S [] 0)[j]? = some row ∧ ptD row.1 = d := by
        unfold ptsD at ej
        rw [List.getElem?_map] at ej
        cases e : (walkAll S [] 0)[j]? with
        | none => rw [e] at ej; cases ej
        | some row => rw [e] at ej; exact ⟨row, rfl, Option.some.inj ej⟩
      have er : row.1 = r := of_decide_eq_true (by rw [← eqv_ptD]; exact hd)
      obtain ⟨l, pn, l5, d', h', o, hd'⟩ := row_ok ok (List.mem_of_getElem? erow)
      rw [er] at l
      obtain ⟨sh, ev⟩ := shaped_ok o hd'
      refine ⟨_, rfl, _, rfl, x, dx4, fs4, rfl, g4, has_pl L4.sc hz (by omega) fun H5 s5 => ⟨_, rfl, _, rfl, iteFb (by rw [l]; rfl) ?_⟩⟩
      have L5 := L4.keep s5
      obtain ⟨dx5, fs5, g5⟩ := gk L5
      refine ⟨_, rfl, _, rfl, x, dx5, fs5, rfl, g5, x, t, z, S, r, row.2, rfl, L5.sc, s5 _ _ hz, by omega, l, fun v6 H6 s6 hv6 => ?_⟩
      have L6 := L5.keep s6
      have hz6 := (s5.trans s6) _ _ hz
      obtain ⟨v, hv⟩ : ∃ v, vs[j]? = some v := by
        have lt : j < (walkAll S [] 0).length := (List.getElem?_eq_some_iff.mp erow).1
        exact ⟨vs[j], List.getElem?_eq_getElem (by omega)⟩
      obtain ⟨row', erow', T', u, wv, rfl, h1, h2, h3⟩ := L6.rw.get hv
      obtain rfl : row' = row := Option.some.inj (erow'.symm.trans erow)
      refine ⟨_, rfl, _, rfl, .inl ⟨rfl, _, SqL.of L6.hd⟩, _, rfl, D, .ref z, ptD r, ptsD (walkAll S [] 0), j, ptD row'.1, rfl, rfl, .lst (SqL.of L6.hd) (pts_dp L6.pw), ptD_dp hz6, shaped_by laypl deppl, shaped_by (ptD_lay r) (by have := ptD_depth r; omega), ej, hd, no, ?_⟩
      refine ⟨fa, vs, (j : Nat), .ref T', rfl, rfl, SqL.of L6.hf, atI_nat hv, ?_⟩
      refine ⟨T', _, _, _, rfl, rfl, SqT.of h1, rfl, ?_⟩
      refine ⟨row'.2.d, row'.2.d, dp_of _ _ hv6, dp_of _ _ h3, sh, sh, _, rfl, ?_⟩
      rw [ev]
      exact iteF ⟨_, _, rfl, L6⟩
    | false =>
      refine iteF ?_
      have l : look S r = none := look_none fun row hrow e => by
        rw [List.any_eq_false] at hany
        refine hany (ptD row.1) (List.mem_map.mpr ⟨row, hrow, rfl⟩) ?_
        rw [eqv_ptD, decide_eq_true e]
      refine ⟨_, rfl, _, rfl, x, dx4, fs4, rfl, g4, has_pl L4.sc hz (by omega) fun H5 s5 => ⟨_, rfl, _, rfl, iteFb (by rw [l]; rfl) ?_⟩⟩
      have hz5 := s5 _ _ hz
      refine ⟨_, rfl, _, rfl, x, t, .ref z, S, rfl, L4.sc.keep s5, nopl_ints hz5 (by omega) l, slf_dp (d := ptD r) (fun H6 s6 => ptD_dp (s6 _ _ hz5)) (ptD_lay r) (by have := ptD_depth r; omega), fun H6 s6 => ⟨_, rfl, iteF ?_⟩⟩
      exact ⟨_, _, rfl, L4.keep (s5.trans s6)⟩
  rintro σ H18 ⟨w8, w11, rfl, L18⟩
  -- the end
  obtain ⟨⟨dx8, dd8, pl8, bs, kvs, ys, g1, g2, g3, g4, g5, g6, g7⟩, _⟩ := id L18.sc
  refine ⟨_, rfl, x, CS, dx8, _, _, rfl, g1, T.clS, T.nP, flds_pl _ _ _, _, rfl, D, ws, rfl, .inl ⟨SqL.of L18.hd, fun z1 hz1 => ?_⟩⟩
  have s19 := same_new hz1 (.tup ws)
  have pts := keys_pts g5 g7
  refine ⟨.tuple (ptsD (walkAll S [] 0)), .tuple (ptsD (walkAll S [] 0)), .tup (SqT.of (s19 _ _ g6)) (pts_dp (pts.keep (TK.of_same s19))), .tup (SqT.of upd_same) (pts_dp (L18.pw.keep (TK.of_same s19))), shaped_by laypt deppt, shaped_by laypt deppt, _, rfl, ?_⟩
  rw [eqv_refl_tup layp]
  refine iteT ?_
  have L19 := L18.keep s19
  refine ⟨_, rfl, x, t, S, rfl, L19.sc, fun out H20 s20 ho z2 hz2 => ?_⟩
  have s21 := s20.trans (same_new hz2 (.lst out))
  refine ⟨_, rfl, .list (prsD (walkAll S [] 0)), .list (prsD (walkAll S [] 0)), .lst (SqL.of upd_same) (prs_dp (ho.keep (TK.of_same (same_new hz2 _)))), .lst (SqL.of (s21 _ _ L19.hf)) (prs_dp (L19.rw.keep (TK.of_same s21))), shaped_by layrl deprl, shaped_by layrl deprl, ?_⟩
  rw [eqv_refl_list layr]
  exact q _
end
end Tk
set_option maxRecDepth 100000
namespace Tk
open PySem L2 PyProof.Rows
theorem branches {P : Program} {w : World} {K : PySem.W.Frag} {mg : Str → Option Value} {base : Heap} {f fD fS : Addr} {fd fdD fdS : FuncData} (F : Fun K "_law_branch" "_law_branch" sBranch f fd) (B : Bl mg) (GD : FnOk P w K mg base CX0 1 fD fdD ["_law_pool_here", "_law_amount"] spDraw) (bD : Binds K fdD ["_law_pool_here", "_law_amount"] []) (kD : PySem.W.keepIn K (.ref fD) = true) (mD : mg "_law_draw" = some (.ref fD))
    (GS : FnOk P w K mg base CX0 2 fS fdS ["_law_pool_here", "_law_box", "_law_names_here"] spSimple) (bS : Binds K fdS ["_law_pool_here", "_law_box", "_law_names_here"] []) (kS : PySem.W.keepIn K (.ref fS) = true) (mS : mg "_law_simple" = some (.ref fS))
    (bB : Binds K fd psB []) (mB : mg "_law_branch" = some (.ref f)) : ∀ m : Nat, FnOk P w K mg base CX0 (2 + m) f fd psB (spBranch m)
  | 0 => by
    have no : ∀ vs H Q E, ¬ spBranch 0 vs H Q E := fun vs H Q E h => by
      obtain ⟨p, b, q, n, k, h, d, _, e, d2, _⟩ := h
      omega
    exact ⟨fun vs H Q E h => absurd h (no vs H Q E), fun A outer s H args us vs Q E _ _ _ _ h => absurd h (no vs H Q E)⟩
  | m + 1 => ok_branch F B GD bD kD mD GS bS kS mS (branches F B GD bD kD mD GS bS kS mS bB mB m) bB mB
theorem checks {P : Program} {w : World} {K : PySem.W.Frag} {mg : Str → Option Value} {base : Heap} {CS CK it : Addr} {fB fS fF fH : Addr} {fdB fdS fdF fdH : FuncData} (FB : Fun K "check_branch" "Check.check_branch" sKBr fB fdB) (FS : Fun K "check_statement" "Check.check_statement" sKSt fS fdS) (B : Bl mg) (T : Txt K w mg CS CK it)
    (bB : Binds K fdB psKB []) (mB : Meth K CK "check_branch" fB) (bS : Binds K fdS psKS []) (mS : Meth K CK "check_statement" fS)
    (GF : FnOk P w K mg base CX0 2 fF fdF ["statement", "place", "earlier", "held"] spFault) (bF : Binds K fdF ["statement", "place", "earlier", "held"] []) (kF : PySem.W.keepIn K (.ref fF) = true) (mF : mg "fault_of" = some (.ref fF)) (GH : FnOk P w K mg base CX0 1 fH fdH ["word", "held"] spHeld) (bH : Binds K fdH ["word", "held"] []) (kH : PySem.W.keepIn K (.ref fH) = true) (mH : mg "held_after" = some (.ref fH)) : ∀ m : Nat, FnOk P w K mg base CX0 (2 + 2 * m) fB fdB psKB (spKB CK m)
  | 0 => by
    have no : ∀ vs H Q E, ¬ spKB CK 0 vs H Q E := fun vs H Q E h => by
      obtain ⟨c, dd, t, u, xs, h, B, d, p, W, _, e, d2, _⟩ := h
      omega
    exact ⟨fun vs H Q E h => absurd h (no vs H Q E), fun A outer s H args us vs Q E _ _ _ _ h => absurd h (no vs H Q E)⟩
  | m + 1 => ok_kbr FB T (ok_kst (Nat.le_add_right 2 _) FS B T (checks FB FS B T bB mB bS mS GF bF kF mF GH bH kH mH m) bB mB GF bF kF mF GH bH kH mH) bS mS
theorem walks {P : Program} {w : World} {K : PySem.W.Frag} {mg : Str → Option Value} {base : Heap} {f : Addr} {fd : FuncData} (F : Fun K "_law_walk" "_law_walk" sWalk f fd) (B : Bl mg) (bU : Binds K fd psWk []) (mU : mg "_law_walk" = some (.ref f)) : ∀ m : Nat, FnOk P w K mg base CX0 (1 + m) f fd psWk (spWalk m)
  | 0 => by
    have no : ∀ vs H Q E, ¬ spWalk 0 vs H Q E := fun vs H Q E h => by
      obtain ⟨_, _, _, _, _, _, _, _, d, _, _, _, _, _, e, d2, _⟩ := h
      omega
    exact ⟨fun vs H Q E h => absurd h (no vs H Q E), fun A outer s H args us vs Q E _ _ _ _ h => absurd h (no vs H Q E)⟩
  | m + 1 => ok_walk F B (walks F B bU mU m) bU mU
theorem kit_ty1 {K : PySem.W.Frag} {D : Addr} {t : String} {b : Bool} (s : PySem.W.subIn K (.ref D) (.type t) = some b) (ht : PySem.W.kitOne K (.ref D) (.type t) = PySem.W.subIn K (.ref D) (.type t)) : PySem.W.kitOne K (.ref D) (.type t) = some b := ht.trans s
theorem kit_ref {K : PySem.W.Frag} {D C : Addr} {b : Bool} (hne : (Value.ref D == Value.ref C) = false) (ic : PySem.W.isClsIn K C = true) (tC : PySem.W.typeIn K (.ref C) = some (.type "type")) (s : PySem.W.subIn K (.ref D) (.ref C) = some b) : PySem.W.kitOne K (.ref D) (.ref C) = some b := by
  have e1 : (PySem.W.clsIn K C).isSome = true := ic
  unfold PySem.W.kitOne
  rw [hne, if_neg (by decide)]
  show (if ((PySem.W.clsIn K C).isSome && PySem.W.typeIn K (.ref C) == some (.type "type")) = true then PySem.W.subIn K (.ref D) (.ref C) else none) = some b
  rw [e1, tC, if_pos (show (true && some (Value.type "type") == some (Value.type "type")) = true from by rw [beq_self_eq_true]; rfl)]
  exact s
theorem ve_ok {CT : Addr} : PySem.HandSPX.refsVE [.ref CT, .type "ValueError", .type "Exception", .type "BaseException", .type "object"] = true := by
  show PySem.HandSPX.refsVE [.type "ValueError", .type "Exception", .type "BaseException", .type "object"] = true
  decide +kernel

theorem all_mk {l : PySem.W.OpenLaw} {w : World} {K : PySem.W.Frag} {h : Heap} {mg : Str → Option Value} {fa CS CK CN CT it f_isInt f_isName f_fault f_form f_held f_places f_pool f_draw f_names f_simple f_branch f_walk f_tup f_refu f_law f_sinit f_slen f_shas f_sget f_kinit f_kbr f_kst f_npi : Addr} (X : K.In h) (G : h.Ns mainGlobals mg) (hfa : mg "law" = some (.ref fa))
    {nmCN qCN : Str} {NCN : Addr} {bsCN sbCN : List Value} {snCN : List Str} {abCN : Bool} {coCN : Option Bool} {ddCN : Option Addr} {m0CN m1CN m2CN m3CN m5CN : Option Value}
    {od_isInt an_isInt : Option Addr} {sl_isInt : Array (Option Value)} {oc_isInt kV_isInt dc_isInt pm_isInt cd_isInt ct_isInt : Value}
    {od_isName an_isName : Option Addr} {sl_isName : Array (Option Value)} {oc_isName kV_isName dc_isName pm_isName cd_isName ct_isName : Value}
    {od_fault an_fault : Option Addr} {sl_fault : Array (Option Value)} {oc_fault kV_fault dc_fault pm_fault cd_fault ct_fault : Value}
    {od_form an_form : Option Addr} {sl_form : Array (Option Value)} {oc_form kV_form dc_form pm_form cd_form ct_form : Value}
    {od_held an_held : Option Addr} {sl_held : Array (Option Value)} {oc_held kV_held dc_held pm_held cd_held ct_held : Value}
    {od_places an_places : Option Addr} {sl_places : Array (Option Value)} {oc_places kV_places dc_places pm_places cd_places ct_places : Value}
    {od_pool an_pool : Option Addr} {sl_pool : Array (Option Value)} {oc_pool kV_pool dc_pool pm_pool cd_pool ct_pool : Value}
    {od_draw an_draw : Option Addr} {sl_draw : Array (Option Value)} {oc_draw kV_draw dc_draw pm_draw cd_draw ct_draw : Value}
    {od_names an_names : Option Addr} {sl_names : Array (Option Value)} {oc_names kV_names dc_names pm_names cd_names ct_names : Value}
    {od_simple an_simple : Option Addr} {sl_simple : Array (Option Value)} {oc_simple kV_simple dc_simple pm_simple cd_simple ct_simple : Value}
    {od_branch an_branch : Option Addr} {sl_branch : Array (Option Value)} {oc_branch kV_branch dc_branch pm_branch cd_branch ct_branch : Value}
    {od_walk an_walk : Option Addr} {sl_walk : Array (Option Value)} {oc_walk kV_walk dc_walk pm_walk cd_walk ct_walk : Value}
    {od_tup an_tup : Option Addr} {sl_tup : Array (Option Value)} {oc_tup kV_tup dc_tup pm_tup cd_tup ct_tup : Value}
    {od_refu an_refu : Option Addr} {sl_refu : Array (Option Value)} {oc_refu kV_refu dc_refu pm_refu cd_refu ct_refu : Value}
    {od_law an_law : Option Addr} {sl_law : Array (Option Value)} {oc_law kV_law dc_law pm_law cd_law ct_law : Value}
    {od_sinit an_sinit : Option Addr} {sl_sinit : Array (Option Value)} {oc_sinit kV_sinit dc_sinit pm_sinit cd_sinit ct_sinit : Value}
    {od_slen an_slen : Option Addr} {sl_slen : Array (Option Value)} {oc_slen kV_slen dc_slen pm_slen cd_slen ct_slen : Value}
    {od_shas an_shas : Option Addr} {sl_shas : Array (Option Value)} {oc_shas kV_shas dc_shas pm_shas cd_shas ct_shas : Value}
    {od_sget an_sget : Option Addr} {sl_sget : Array (Option Value)} {oc_sget kV_sget dc_sget pm_sget cd_sget ct_sget : Value}
    {od_kinit an_kinit : Option Addr} {sl_kinit : Array (Option Value)} {oc_kinit kV_kinit dc_kinit pm_kinit cd_kinit ct_kinit : Value}
    {od_kbr an_kbr : Option Addr} {sl_kbr : Array (Option Value)} {oc_kbr kV_kbr dc_kbr pm_kbr cd_kbr ct_kbr : Value}
    {od_kst an_kst : Option Addr} {sl_kst : Array (Option Value)} {oc_kst kV_kst dc_kst pm_kst cd_kst ct_kst : Value}
    {od_npi an_npi : Option Addr} {sl_npi : Array (Option Value)} {oc_npi kV_npi dc_npi pm_npi cd_npi ct_npi : Value}
    {esI : Array DictEntry} {nI : Nat} {t_LONGEST_NAME t_MOST_STATEMENTS t_MOST_HELD t_MOST_NESTED t_take t_commit t_rollback t_drop t_leave t_lock t_unlock t_choose : Tok}
    (aCS : PySem.W.nsIn K mainGlobals "Script" = some (some (.ref CS)))
    (aCK : PySem.W.nsIn K mainGlobals "Check" = some (some (.ref CK)))
    (aCN : PySem.W.nsIn K mainGlobals "NoPlace" = some (some (.ref CN)))
    (aCT : PySem.W.nsIn K mainGlobals "TakeError" = some (some (.ref CT)))
    (pgCS : PySem.W.plainGet K CS Str.empty = true)
    (hdCS : PySem.W.hasDictIn K CS = true)
    (poCS : PySem.W.plainOver K CS = true)
    (saCS : PySem.W.findIn K (.ref CS) "__setattr__" = some (some (.builtin "object.__setattr__")))
    (mkCS : PySem.W.makesIn K CS = true)
    (kcCS : PySem.W.keepIn K (.ref CS) = true)
    (pgCK : PySem.W.plainGet K CK Str.empty = true)
    (hdCK : PySem.W.hasDictIn K CK = true)
    (poCK : PySem.W.plainOver K CK = true)
    (saCK : PySem.W.findIn K (.ref CK) "__setattr__" = some (some (.builtin "object.__setattr__")))
    (mkCK : PySem.W.makesIn K CK = true)
    (kcCK : PySem.W.keepIn K (.ref CK) = true)
    (nCSstatements : PySem.W.findIn K (.ref CS) "statements" = some none)
    (nCSfound : PySem.W.findIn K (.ref CS) "found" = some none)
    (nCSplaces : PySem.W.findIn K (.ref CS) "places" = some none)
    (nCKfound : PySem.W.findIn K (.ref CK) "found" = some none)
    (cn : PySem.W.specialIn K (.builtin "object.__class__") "__get__" = some (some (.builtin "getset_descriptor.__get__")))
    (ct : PySem.W.takesIn K (.builtin "object.__class__") = some true)
    (xCN : K.lookup CN = some (excClassObj nmCN qCN CN NCN bsCN [.ref CT, .type "ValueError", .type "Exception", .type "BaseException", .type "object"] true snCN sbCN abCN coCN ddCN m0CN m1CN m2CN m3CN m5CN "ValueError.__new__"))
    (saCN : PySem.W.findIn K (.ref CN) "__setattr__" = some (some (.builtin "object.__setattr__")))
    (gaCN : PySem.W.findIn K (.ref CN) "__getattribute__" = some (some (.builtin "BaseException.__getattribute__")))
    (ggCN : PySem.W.findIn K (.ref CN) "__getattr__" = some none)
    (nfCN : PySem.W.findIn K (.ref CN) "place" = some none)
    (eCN : PySem.W.subIn K (.ref CN) (.type "BaseException") = some true)
    (tCN : PySem.W.typeIn K (.ref CN) = some (.type "type"))
    (hCN : PySem.W.hasDictIn K CN = true)
    (kcCN : PySem.W.keepIn K (.ref CN) = true)
    (caCN : PySem.W.findIn K (.ref CN) "__class__" = some (some (.builtin "object.__class__")))
    (obCN : PySem.W.mroIn K CN (.type "object") = some true)
    (iCN : PySem.W.isClsIn K CN = true)
    (iCT : PySem.W.isClsIn K CT = true)
    (tCT : PySem.W.typeIn K (.ref CT) = some (.type "type"))
    (sCNCN : PySem.W.subIn K (.ref CN) (.ref CN) = some true)
    (sCNCT : PySem.W.subIn K (.ref CN) (.ref CT) = some true)
    (sVE : PySem.W.subIn K (.ref CN) (.type "ValueError") = some true)
    (dCNCT : (Value.ref CN == Value.ref CT) = false)
    (a_isInt : PySem.W.nsIn K mainGlobals "is_integer" = some (some (.ref f_isInt)))
    (l_isInt : K.lookup f_isInt = some ⟨oc_isInt, od_isInt, .func (PySem.W.fnOf "is_integer" "is_integer" (defArgs sIsInt) (defBody sIsInt) (defScope sIsInt) .none kV_isInt dc_isInt pm_isInt an_isInt cd_isInt ct_isInt), sl_isInt⟩)
    (c_isInt : PySem.W.codeIn K cd_isInt "is_integer" = true)
    (k_isInt : PySem.W.keepIn K (.ref f_isInt) = true)
    (a_isName : PySem.W.nsIn K mainGlobals "is_name" = some (some (.ref f_isName)))
    (l_isName : K.lookup f_isName = some ⟨oc_isName, od_isName, .func (PySem.W.fnOf "is_name" "is_name" (defArgs sIsName) (defBody sIsName) (defScope sIsName) .none kV_isName dc_isName pm_isName an_isName cd_isName ct_isName), sl_isName⟩)
    (c_isName : PySem.W.codeIn K cd_isName "is_name" = true)
    (k_isName : PySem.W.keepIn K (.ref f_isName) = true)
    (a_fault : PySem.W.nsIn K mainGlobals "fault_of" = some (some (.ref f_fault)))
    (l_fault : K.lookup f_fault = some ⟨oc_fault, od_fault, .func (PySem.W.fnOf "fault_of" "fault_of" (defArgs sFault) (defBody sFault) (defScope sFault) .none kV_fault dc_fault pm_fault an_fault cd_fault ct_fault), sl_fault⟩)
    (c_fault : PySem.W.codeIn K cd_fault "fault_of" = true)
    (k_fault : PySem.W.keepIn K (.ref f_fault) = true)
    (a_form : PySem.W.nsIn K mainGlobals "has_form" = some (some (.ref f_form)))
    (l_form : K.lookup f_form = some ⟨oc_form, od_form, .func (PySem.W.fnOf "has_form" "has_form" (defArgs sForm) (defBody sForm) (defScope sForm) .none kV_form dc_form pm_form an_form cd_form ct_form), sl_form⟩)
    (c_form : PySem.W.codeIn K cd_form "has_form" = true)
    (k_form : PySem.W.keepIn K (.ref f_form) = true)
    (a_held : PySem.W.nsIn K mainGlobals "held_after" = some (some (.ref f_held)))
    (l_held : K.lookup f_held = some ⟨oc_held, od_held, .func (PySem.W.fnOf "held_after" "held_after" (defArgs sHeld) (defBody sHeld) (defScope sHeld) .none kV_held dc_held pm_held an_held cd_held ct_held), sl_held⟩)
    (c_held : PySem.W.codeIn K cd_held "held_after" = true)
    (k_held : PySem.W.keepIn K (.ref f_held) = true)
    (a_places : PySem.W.nsIn K mainGlobals "places_of" = some (some (.ref f_places)))
    (l_places : K.lookup f_places = some ⟨oc_places, od_places, .func (PySem.W.fnOf "places_of" "places_of" (defArgs sPlaces) (defBody sPlaces) (defScope sPlaces) .none kV_places dc_places pm_places an_places cd_places ct_places), sl_places⟩)
    (c_places : PySem.W.codeIn K cd_places "places_of" = true)
    (k_places : PySem.W.keepIn K (.ref f_places) = true)
    (a_pool : PySem.W.nsIn K mainGlobals "_law_pool" = some (some (.ref f_pool)))
    (l_pool : K.lookup f_pool = some ⟨oc_pool, od_pool, .func (PySem.W.fnOf "_law_pool" "_law_pool" (defArgs sPool) (defBody sPool) (defScope sPool) .none kV_pool dc_pool pm_pool an_pool cd_pool ct_pool), sl_pool⟩)
    (c_pool : PySem.W.codeIn K cd_pool "_law_pool" = true)
    (k_pool : PySem.W.keepIn K (.ref f_pool) = true)
    (a_draw : PySem.W.nsIn K mainGlobals "_law_draw" = some (some (.ref f_draw)))
    (l_draw : K.lookup f_draw = some ⟨oc_draw, od_draw, .func (PySem.W.fnOf "_law_draw" "_law_draw" (defArgs sDraw) (defBody sDraw) (defScope sDraw) .none kV_draw dc_draw pm_draw an_draw cd_draw ct_draw), sl_draw⟩)
    (c_draw : PySem.W.codeIn K cd_draw "_law_draw" = true)
    (k_draw : PySem.W.keepIn K (.ref f_draw) = true)
    (a_names : PySem.W.nsIn K mainGlobals "_law_names" = some (some (.ref f_names)))
    (l_names : K.lookup f_names = some ⟨oc_names, od_names, .func (PySem.W.fnOf "_law_names" "_law_names" (defArgs sNames) (defBody sNames) (defScope sNames) .none kV_names dc_names pm_names an_names cd_names ct_names), sl_names⟩)
    (c_names : PySem.W.codeIn K cd_names "_law_names" = true)
    (k_names : PySem.W.keepIn K (.ref f_names) = true)
    (a_simple : PySem.W.nsIn K mainGlobals "_law_simple" = some (some (.ref f_simple)))
    (l_simple : K.lookup f_simple = some ⟨oc_simple, od_simple, .func (PySem.W.fnOf "_law_simple" "_law_simple" (defArgs sSimple) (defBody sSimple) (defScope sSimple) .none kV_simple dc_simple pm_simple an_simple cd_simple ct_simple), sl_simple⟩)
    (c_simple : PySem.W.codeIn K cd_simple "_law_simple" = true)
    (k_simple : PySem.W.keepIn K (.ref f_simple) = true)
    (a_branch : PySem.W.nsIn K mainGlobals "_law_branch" = some (some (.ref f_branch)))
    (l_branch : K.lookup f_branch = some ⟨oc_branch, od_branch, .func (PySem.W.fnOf "_law_branch" "_law_branch" (defArgs sBranch) (defBody sBranch) (defScope sBranch) .none kV_branch dc_branch pm_branch an_branch cd_branch ct_branch), sl_branch⟩)
    (c_branch : PySem.W.codeIn K cd_branch "_law_branch" = true)
    (k_branch : PySem.W.keepIn K (.ref f_branch) = true)
    (a_walk : PySem.W.nsIn K mainGlobals "_law_walk" = some (some (.ref f_walk)))
    (l_walk : K.lookup f_walk = some ⟨oc_walk, od_walk, .func (PySem.W.fnOf "_law_walk" "_law_walk" (defArgs sWalk) (defBody sWalk) (defScope sWalk) .none kV_walk dc_walk pm_walk an_walk cd_walk ct_walk), sl_walk⟩)
    (c_walk : PySem.W.codeIn K cd_walk "_law_walk" = true)
    (k_walk : PySem.W.keepIn K (.ref f_walk) = true)
    (a_tup : PySem.W.nsIn K mainGlobals "_law_tuple" = some (some (.ref f_tup)))
    (l_tup : K.lookup f_tup = some ⟨oc_tup, od_tup, .func (PySem.W.fnOf "_law_tuple" "_law_tuple" (defArgs sTup) (defBody sTup) (defScope sTup) .none kV_tup dc_tup pm_tup an_tup cd_tup ct_tup), sl_tup⟩)
    (c_tup : PySem.W.codeIn K cd_tup "_law_tuple" = true)
    (k_tup : PySem.W.keepIn K (.ref f_tup) = true)
    (a_refu : PySem.W.nsIn K mainGlobals "_law_refused" = some (some (.ref f_refu)))
    (l_refu : K.lookup f_refu = some ⟨oc_refu, od_refu, .func (PySem.W.fnOf "_law_refused" "_law_refused" (defArgs sRef) (defBody sRef) (defScope sRef) .none kV_refu dc_refu pm_refu an_refu cd_refu ct_refu), sl_refu⟩)
    (c_refu : PySem.W.codeIn K cd_refu "_law_refused" = true)
    (k_refu : PySem.W.keepIn K (.ref f_refu) = true)
    (a_law : PySem.W.nsIn K mainGlobals "law" = some (some (.ref f_law)))
    (l_law : K.lookup f_law = some ⟨oc_law, od_law, .func (PySem.W.fnOf "law" "law" (defArgs sLaw) (defBody sLaw) (defScope sLaw) .none kV_law dc_law pm_law an_law cd_law ct_law), sl_law⟩)
    (c_law : PySem.W.codeIn K cd_law "law" = true)
    (k_law : PySem.W.keepIn K (.ref f_law) = true)
    (a_sinit : PySem.W.findIn K (.ref CS) "__init__" = some (some (.ref f_sinit)))
    (i_sinit : PySem.W.isFn K (.ref f_sinit) = true)
    (l_sinit : K.lookup f_sinit = some ⟨oc_sinit, od_sinit, .func (PySem.W.fnOf "__init__" "Script.__init__" (defArgs sSInit) (defBody sSInit) (defScope sSInit) .none kV_sinit dc_sinit pm_sinit an_sinit cd_sinit ct_sinit), sl_sinit⟩)
    (c_sinit : PySem.W.codeIn K cd_sinit "Script.__init__" = true)
    (k_sinit : PySem.W.keepIn K (.ref f_sinit) = true)
    (a_slen : PySem.W.findIn K (.ref CS) "__len__" = some (some (.ref f_slen)))
    (i_slen : PySem.W.isFn K (.ref f_slen) = true)
    (l_slen : K.lookup f_slen = some ⟨oc_slen, od_slen, .func (PySem.W.fnOf "__len__" "Script.__len__" (defArgs sSLen) (defBody sSLen) (defScope sSLen) .none kV_slen dc_slen pm_slen an_slen cd_slen ct_slen), sl_slen⟩)
    (c_slen : PySem.W.codeIn K cd_slen "Script.__len__" = true)
    (k_slen : PySem.W.keepIn K (.ref f_slen) = true)
    (a_shas : PySem.W.findIn K (.ref CS) "__contains__" = some (some (.ref f_shas)))
    (i_shas : PySem.W.isFn K (.ref f_shas) = true)
    (l_shas : K.lookup f_shas = some ⟨oc_shas, od_shas, .func (PySem.W.fnOf "__contains__" "Script.__contains__" (defArgs sSHas) (defBody sSHas) (defScope sSHas) .none kV_shas dc_shas pm_shas an_shas cd_shas ct_shas), sl_shas⟩)
    (c_shas : PySem.W.codeIn K cd_shas "Script.__contains__" = true)
    (k_shas : PySem.W.keepIn K (.ref f_shas) = true)
    (a_sget : PySem.W.findIn K (.ref CS) "__getitem__" = some (some (.ref f_sget)))
    (i_sget : PySem.W.isFn K (.ref f_sget) = true)
    (l_sget : K.lookup f_sget = some ⟨oc_sget, od_sget, .func (PySem.W.fnOf "__getitem__" "Script.__getitem__" (defArgs sSGet) (defBody sSGet) (defScope sSGet) .none kV_sget dc_sget pm_sget an_sget cd_sget ct_sget), sl_sget⟩)
    (c_sget : PySem.W.codeIn K cd_sget "Script.__getitem__" = true)
    (k_sget : PySem.W.keepIn K (.ref f_sget) = true)
    (a_kinit : PySem.W.findIn K (.ref CK) "__init__" = some (some (.ref f_kinit)))
    (i_kinit : PySem.W.isFn K (.ref f_kinit) = true)
    (l_kinit : K.lookup f_kinit = some ⟨oc_kinit, od_kinit, .func (PySem.W.fnOf "__init__" "Check.__init__" (defArgs sKInit) (defBody sKInit) (defScope sKInit) .none kV_kinit dc_kinit pm_kinit an_kinit cd_kinit ct_kinit), sl_kinit⟩)
    (c_kinit : PySem.W.codeIn K cd_kinit "Check.__init__" = true)
    (k_kinit : PySem.W.keepIn K (.ref f_kinit) = true)
    (a_kbr : PySem.W.findIn K (.ref CK) "check_branch" = some (some (.ref f_kbr)))
    (i_kbr : PySem.W.isFn K (.ref f_kbr) = true)
    (l_kbr : K.lookup f_kbr = some ⟨oc_kbr, od_kbr, .func (PySem.W.fnOf "check_branch" "Check.check_branch" (defArgs sKBr) (defBody sKBr) (defScope sKBr) .none kV_kbr dc_kbr pm_kbr an_kbr cd_kbr ct_kbr), sl_kbr⟩)
    (c_kbr : PySem.W.codeIn K cd_kbr "Check.check_branch" = true)
    (k_kbr : PySem.W.keepIn K (.ref f_kbr) = true)
    (a_kst : PySem.W.findIn K (.ref CK) "check_statement" = some (some (.ref f_kst)))
    (i_kst : PySem.W.isFn K (.ref f_kst) = true)
    (l_kst : K.lookup f_kst = some ⟨oc_kst, od_kst, .func (PySem.W.fnOf "check_statement" "Check.check_statement" (defArgs sKSt) (defBody sKSt) (defScope sKSt) .none kV_kst dc_kst pm_kst an_kst cd_kst ct_kst), sl_kst⟩)
    (c_kst : PySem.W.codeIn K cd_kst "Check.check_statement" = true)
    (k_kst : PySem.W.keepIn K (.ref f_kst) = true)
    (a_npi : PySem.W.findIn K (.ref CN) "__init__" = some (some (.ref f_npi)))
    (i_npi : PySem.W.typeIn K (.ref f_npi) = some (.type "function"))
    (l_npi : K.lookup f_npi = some ⟨oc_npi, od_npi, .func (PySem.W.fnOf "__init__" "NoPlace.__init__" (defArgs sNPInit) (defBody sNPInit) (defScope sNPInit) .none kV_npi dc_npi pm_npi an_npi cd_npi ct_npi), sl_npi⟩)
    (c_npi : PySem.W.codeIn K cd_npi "NoPlace.__init__" = true)
    (k_npi : PySem.W.keepIn K (.ref f_npi) = true)
    (fg : PySem.W.fnIn K f_sget = true)
    (z_ValueError : PySem.W.nsIn K mainGlobals "ValueError" = some none)
    (z_len : PySem.W.nsIn K mainGlobals "len" = some none)
    (z_int : PySem.W.nsIn K mainGlobals "int" = some none)
    (z_max : PySem.W.nsIn K mainGlobals "max" = some none)
    (z_range : PySem.W.nsIn K mainGlobals "range" = some none)
    (z_tuple : PySem.W.nsIn K mainGlobals "tuple" = some none)
    (z_isinstance : PySem.W.nsIn K mainGlobals "isinstance" = some none)
    (z_all : PySem.W.nsIn K mainGlobals "all" = some none)
    (z_list : PySem.W.nsIn K mainGlobals "list" = some none)
    (z_enumerate : PySem.W.nsIn K mainGlobals "enumerate" = some none)
    (z_str : PySem.W.nsIn K mainGlobals "str" = some none)
    (z_bool : PySem.W.nsIn K mainGlobals "bool" = some none)
    (v_LONGEST_NAME : PySem.W.nsIn K mainGlobals "LONGEST_NAME" = some (some (.int 8 t_LONGEST_NAME)))
    (v_MOST_STATEMENTS : PySem.W.nsIn K mainGlobals "MOST_STATEMENTS" = some (some (.int 8 t_MOST_STATEMENTS)))
    (v_MOST_HELD : PySem.W.nsIn K mainGlobals "MOST_HELD" = some (some (.int 3 t_MOST_HELD)))
    (v_MOST_NESTED : PySem.W.nsIn K mainGlobals "MOST_NESTED" = some (some (.int 2 t_MOST_NESTED)))
    (aI : PySem.W.nsIn K mainGlobals "ITEMS" = some (some (.ref it)))
    (lI : K.lookup it = some ⟨.type "dict", none, .dict esI nI, #[]⟩)
    (kI : PySem.W.KeysLit w.params esI.toList)
    (sI : (it == sysModules) = false)
    (e_take : PySem.W.nsIn K it "take" = some (some (.int 1 t_take)))
    (e_commit : PySem.W.nsIn K it "commit" = some (some (.int 1 t_commit)))
    (e_rollback : PySem.W.nsIn K it "rollback" = some (some (.int 1 t_rollback)))
    (e_drop : PySem.W.nsIn K it "drop" = some (some (.int 1 t_drop)))
    (e_leave : PySem.W.nsIn K it "leave" = some (some (.int 1 t_leave)))
    (e_lock : PySem.W.nsIn K it "lock" = some (some (.int 2 t_lock)))
    (e_unlock : PySem.W.nsIn K it "unlock" = some (some (.int 2 t_unlock)))
    (e_choose : PySem.W.nsIn K it "choose" = some (some (.int 3 t_choose)))
    : ∃ fd : FuncData, (∀ (s : Shared) (v : Value), BindsTo s fd ⟨[v], []⟩ [("_law_script", v)]) ∧ ∀ base : Heap, K.In base → base.Ns mainGlobals mg → FnOk l.prog w K mg base CX0 11 fa fd ["_law_script"] (spLaw1 K) := by
  have e := hfa.symm.trans (PySem.W.mg_of X G a_law)
  cases e
  have B : Bl mg := ⟨PySem.W.mg_none_of X G z_len, PySem.W.mg_none_of X G z_int, PySem.W.mg_none_of X G z_max, PySem.W.mg_none_of X G z_range, PySem.W.mg_none_of X G z_tuple⟩
  have kg : ∀ z n, (z, n) ∈ items8 → KG K w it z (.int n) := by
    intro z n hm
    simp only [items8, List.mem_cons, List.not_mem_nil, or_false, Prod.mk.injEq] at hm
    rcases hm with ⟨rfl, rfl⟩ | ⟨rfl, rfl⟩ | ⟨rfl, rfl⟩ | ⟨rfl, rfl⟩ | ⟨rfl, rfl⟩ | ⟨rfl, rfl⟩ | ⟨rfl, rfl⟩ | ⟨rfl, rfl⟩
    · exact ⟨⟨_, _, _, lI, kI, e_take, ⟨_, rfl⟩⟩, sI⟩
    · exact ⟨⟨_, _, _, lI, kI, e_commit, ⟨_, rfl⟩⟩, sI⟩
    · exact ⟨⟨_, _, _, lI, kI, e_rollback, ⟨_, rfl⟩⟩, sI⟩
    · exact ⟨⟨_, _, _, lI, kI, e_drop, ⟨_, rfl⟩⟩, sI⟩
    · exact ⟨⟨_, _, _, lI, kI, e_leave, ⟨_, rfl⟩⟩, sI⟩
    · exact ⟨⟨_, _, _, lI, kI, e_lock, ⟨_, rfl⟩⟩, sI⟩
    · exact ⟨⟨_, _, _, lI, kI, e_unlock, ⟨_, rfl⟩⟩, sI⟩
    · exact ⟨⟨_, _, _, lI, kI, e_choose, ⟨_, rfl⟩⟩, sI⟩
  have T : Txt K w mg CS CK it := ⟨PySem.W.mg_none_of X G z_isinstance, PySem.W.mg_none_of X G z_all, PySem.W.mg_none_of X G z_list, PySem.W.mg_none_of X G z_enumerate, PySem.W.mg_none_of X G z_str, PySem.W.mg_none_of X G z_bool,
    ⟨_, PySem.W.mg_of X G v_LONGEST_NAME⟩, ⟨_, PySem.W.mg_of X G v_MOST_STATEMENTS⟩, ⟨_, PySem.W.mg_of X G v_MOST_HELD⟩, ⟨_, PySem.W.mg_of X G v_MOST_NESTED⟩, PySem.W.mg_of X G aI, ⟨_, _, lI⟩, kg,
    ⟨pgCS, hdCS, poCS, saCS⟩, ⟨pgCK, hdCK, poCK, saCK⟩, PySem.W.mg_of X G aCS, PySem.W.mg_of X G aCK, nCSstatements, nCSfound, nCSplaces, nCKfound⟩
  have E_CN : Ecl K mg "NoPlace" "place" CN f_npi := ⟨PySem.W.mg_of X G aCN, ⟨⟨_, _, _, _, _, _, _, _, _, _, _, _, _, _, _, xCN, ve_ok⟩, saCN, eCN, tCN, kcCN⟩, a_npi, i_npi, nfCN, ⟨gaCN, ggCN, eCN, hCN⟩, iCN, caCN, cn, ct, obCN, PySem.W.exm_ref eCN hCN tCN sCNCN⟩
  have R1 : PySem.W.kitOne K (.ref CN) (.ref CT) = some true := kit_ref dCNCT iCT tCT sCNCT
  have R2 : PySem.W.kitOne K (.ref CN) (.type "ValueError") = some true := kit_ty1 sVE rfl
  have F_isInt := fun_mk (st := sIsInt) l_isInt c_isInt k_isInt
  have b_isInt := F_isInt.binds (ps := ["value"]) fun _ _ _ _ _ _ us hl => match us, hl with | [_], _ => rfl
  have m_isInt := PySem.W.mg_of X G a_isInt
  have F_isName := fun_mk (st := sIsName) l_isName c_isName k_isName
  have b_isName := F_isName.binds (ps := ["value"]) fun _ _ _ _ _ _ us hl => match us, hl with | [_], _ => rfl
  have m_isName := PySem.W.mg_of X G a_isName
  have F_fault := fun_mk (st := sFault) l_fault c_fault k_fault
  have b_fault := F_fault.binds (ps := ["statement", "place", "earlier", "held"]) fun _ _ _ _ _ _ us hl => match us, hl with | [_, _, _, _], _ => rfl
  have m_fault := PySem.W.mg_of X G a_fault
  have F_form := fun_mk (st := sForm) l_form c_form k_form
  have b_form := F_form.binds (ps := ["statement"]) fun _ _ _ _ _ _ us hl => match us, hl with | [_], _ => rfl
  have m_form := PySem.W.mg_of X G a_form
  have F_held := fun_mk (st := sHeld) l_held c_held k_held
  have b_held := F_held.binds (ps := ["word", "held"]) fun _ _ _ _ _ _ us hl => match us, hl with | [_, _], _ => rfl
  have m_held := PySem.W.mg_of X G a_held
  have F_places := fun_mk (st := sPlaces) l_places c_places k_places
  have b_places := F_places.binds (ps := ["script"]) fun _ _ _ _ _ _ us hl => match us, hl with | [_], _ => rfl
  have m_places := PySem.W.mg_of X G a_places
  have F_pool := fun_mk (st := sPool) l_pool c_pool k_pool
  have b_pool := F_pool.binds (ps := ["_law_script", "_law_k"]) fun _ _ _ _ _ _ us hl => match us, hl with | [_, _], _ => rfl
  have m_pool := PySem.W.mg_of X G a_pool
  have F_draw := fun_mk (st := sDraw) l_draw c_draw k_draw
  have b_draw := F_draw.binds (ps := ["_law_pool_here", "_law_amount"]) fun _ _ _ _ _ _ us hl => match us, hl with | [_, _], _ => rfl
  have m_draw := PySem.W.mg_of X G a_draw
  have F_names := fun_mk (st := sNames) l_names c_names k_names
  have b_names := F_names.binds (ps := ["_law_pool_here"]) fun _ _ _ _ _ _ us hl => match us, hl with | [_], _ => rfl
  have m_names := PySem.W.mg_of X G a_names
  have F_simple := fun_mk (st := sSimple) l_simple c_simple k_simple
  have b_simple := F_simple.binds (ps := ["_law_pool_here", "_law_box", "_law_names_here"]) fun _ _ _ _ _ _ us hl => match us, hl with | [_, _, _], _ => rfl
  have m_simple := PySem.W.mg_of X G a_simple
  have F_branch := fun_mk (st := sBranch) l_branch c_branch k_branch
  have b_branch := F_branch.binds (ps := ["_law_pool_here", "_law_box", "_law_names_here", "_law_length", "_law_depth"]) fun _ _ _ _ _ _ us hl => match us, hl with | [_, _, _, _, _], _ => rfl
  have m_branch := PySem.W.mg_of X G a_branch
  have F_walk := fun_mk (st := sWalk) l_walk c_walk k_walk
  have b_walk := F_walk.binds (ps := ["_law_branch_here", "_law_prefix", "_law_found"]) fun _ _ _ _ _ _ us hl => match us, hl with | [_, _, _], _ => rfl
  have m_walk := PySem.W.mg_of X G a_walk
  have F_tup := fun_mk (st := sTup) l_tup c_tup k_tup
  have b_tup := F_tup.binds (ps := ["_law_pool_here", "_law_places"]) fun _ _ _ _ _ _ us hl => match us, hl with | [_, _], _ => rfl
  have m_tup := PySem.W.mg_of X G a_tup
  have F_refu := fun_mk (st := sRef) l_refu c_refu k_refu
  have b_refu := F_refu.binds (ps := ["_law_script", "_law_place"]) fun _ _ _ _ _ _ us hl => match us, hl with | [_, _], _ => rfl
  have m_refu := PySem.W.mg_of X G a_refu
  have F_law := fun_mk (st := sLaw) l_law c_law k_law
  have m_law := PySem.W.mg_of X G a_law
  have F_sinit := fun_mk (st := sSInit) l_sinit c_sinit k_sinit
  have b_sinit := F_sinit.binds (ps := ["self", "statements"]) fun _ _ _ _ _ _ us hl => match us, hl with | [_, _], _ => rfl
  have F_slen := fun_mk (st := sSLen) l_slen c_slen k_slen
  have b_slen := F_slen.binds (ps := ["self"]) fun _ _ _ _ _ _ us hl => match us, hl with | [_], _ => rfl
  have F_shas := fun_mk (st := sSHas) l_shas c_shas k_shas
  have b_shas := F_shas.binds (ps := ["self", "place"]) fun _ _ _ _ _ _ us hl => match us, hl with | [_, _], _ => rfl
  have F_sget := fun_mk (st := sSGet) l_sget c_sget k_sget
  have b_sget := F_sget.binds (ps := ["self", "place"]) fun _ _ _ _ _ _ us hl => match us, hl with | [_, _], _ => rfl
  have F_kinit := fun_mk (st := sKInit) l_kinit c_kinit k_kinit
  have b_kinit := F_kinit.binds (ps := ["self"]) fun _ _ _ _ _ _ us hl => match us, hl with | [_], _ => rfl
  have F_kbr := fun_mk (st := sKBr) l_kbr c_kbr k_kbr
  have b_kbr := F_kbr.binds (ps := ["self", "branch", "above", "held"]) fun _ _ _ _ _ _ us hl => match us, hl with | [_, _, _, _], _ => rfl
  have F_kst := fun_mk (st := sKSt) l_kst c_kst k_kst
  have b_kst := F_kst.binds (ps := ["self", "statement", "place", "held"]) fun _ _ _ _ _ _ us hl => match us, hl with | [_, _, _, _], _ => rfl
  have F_npi := fun_mk (st := sNPInit) l_npi c_npi k_npi
  have b_npi := F_npi.binds (ps := ["self", "place"]) fun _ _ _ _ _ _ us hl => match us, hl with | [_, _], _ => rfl
  refine ⟨PySem.W.fnOf "law" "law" (defArgs sLaw) (defBody sLaw) (defScope sLaw) .none kV_law dc_law pm_law an_law cd_law ct_law, fun s v => .of_eq rfl, fun base _ _ => ?_⟩
  have Gii := ok_isint (P := l.prog) (w := w) (base := base) F_isInt B T
  have Gnm := ok_isname (P := l.prog) (w := w) (base := base) F_isName B T
  have Gfo := ok_form (P := l.prog) (w := w) (base := base) F_form B T
  have Gfa := ok_fault F_fault B T Gfo b_form k_form m_form Gnm b_isName k_isName m_isName
  have Gpo := ok_pool (P := l.prog) (w := w) (base := base) F_pool B
  have Gdr := ok_draw (P := l.prog) (w := w) (base := base) F_draw B
  have Gna := ok_names F_names B Gdr b_draw k_draw m_draw
  have Gsi := ok_simple F_simple B Gdr b_draw k_draw m_draw
  have Gbr := branches F_branch B Gdr b_draw k_draw m_draw Gsi b_simple k_simple m_simple b_branch m_branch 3
  have Gki := ok_kinit (P := l.prog) (w := w) (base := base) F_kinit T
  have Ghd := ok_held (P := l.prog) (w := w) (mg := mg) (base := base) F_held
  have Gkb := checks F_kbr F_kst B T b_kbr ⟨a_kbr, i_kbr, k_kbr⟩ b_kst ⟨a_kst, i_kst, k_kst⟩ Gfa b_fault k_fault m_fault Ghd b_held k_held m_held 3
  have Gin := ok_sinit F_sinit B T ⟨mkCK, a_kinit, i_kinit, kcCK⟩ Gki b_kinit Gkb b_kbr ⟨a_kbr, i_kbr, k_kbr⟩
  have Gsl := ok_slen (P := l.prog) (w := w) (base := base) F_slen B T
  have Gsh := ok_shas F_shas B T Gii b_isInt k_isInt m_isInt
  have Gnp := ok_npi (P := l.prog) (w := w) (mg := mg) (base := base) F_npi E_CN
  have Gsg := ok_sget F_sget T Gsh b_shas ⟨a_shas, i_shas⟩
  have Gsx := ok_sgetX F_sget T E_CN Gnp b_npi Gsh b_shas ⟨a_shas, i_shas⟩
  have Gre := ok_refused F_refu T E_CN (PySem.W.mg_of X G aCT) (PySem.W.mg_none_of X G z_ValueError) R1 R2 Gsx b_sget ⟨a_sget, i_sget⟩ fg
  have Gwk := walks (P := l.prog) (w := w) (base := base) F_walk B b_walk m_walk 3
  have Gtu := ok_tuple F_tup B Gdr b_draw k_draw m_draw
  have Gps := ok_places F_places T Gsg b_sget ⟨a_sget, i_sget⟩ fg
  exact ok_law1 F_law B T Gpo b_pool k_pool m_pool Gdr b_draw k_draw m_draw Gna b_names k_names m_names Gbr b_branch k_branch m_branch Gwk b_walk k_walk m_walk ⟨mkCS, a_sinit, i_sinit, kcCS⟩ Gin b_sinit Gsg b_sget ⟨a_sget, i_sget⟩ fg Gsh b_shas ⟨a_shas, i_shas⟩ Gsl b_slen ⟨a_slen, i_slen⟩ Gps b_places k_places m_places Gre b_refu k_refu m_refu Gtu b_tup k_tup m_tup
theorem walk {l : PySem.W.OpenLaw} {q : Program} {loose : List Str} {XP : (Str → Option Value) → Heap → Prop} {YP : World → Heap → Prop} {d : DefRec} {K : Params → PySem.W.Frag} (hn : l.most = some 63) (hdf : d.params.defaults = [])
    (hY : ∀ (w : World) (h : Heap), YP w h → (K w.params).In h)
    (F : ∀ (w : World) (mg : Str → Option Value) (fa : Addr) (h : Heap), (K w.params).In h → h.Ns mainGlobals mg → mg d.name = some (.ref fa) →
      ∃ fd : FuncData, (∀ (s : Shared) (u : Value), BindsTo s fd ⟨[u], []⟩ [("_law_script", u)]) ∧ ∀ base : Heap, (K w.params).In base → base.Ns mainGlobals mg → FnOk l.prog w (K w.params) mg base CX0 11 fa fd ["_law_script"] (spLaw1 (K w.params))) :
    PySem.W.WalkO q loose XP YP l.row.toRowW d [] (fun f vs => PySem.call f vs) :=
  L2.walk_of (n := 63) (k := 11) (x := "_law_script") (CX := fun _ => CX0) (sp := fun w => spLaw1 (K w.params)) hn (by decide) hdf ⟨rfl, by decide, by decide⟩ hY F (fun _ _ a ns hl _ hS => ⟨a, ns, rfl, hS, hl, fun _ => rfl⟩) fun _ _ _ _ _ z => z
end Tk
open PySem PySem.W PyProof.Rows
set_option maxRecDepth 100000 in
set_option maxHeartbeats 0 in
theorem PySem.Challenge.cw_takenahead_k01_script_places_holds : PySem.Challenge.rw_takenahead_k01_script_places.Holds := by
  w_on; o_law; k_head; (case hw => w_witness2)
  k_fill
  refine Tk.walk (l := PySem.Challenge.rw_takenahead_k01_script_places) rfl rfl (fun w h Y => PySem.W.kIn_of Y) ?F
  case F =>
    intro w mg fa h KX G hmg
    refine' Tk.all_mk KX G hmg ?aCS ?aCK ?aCN ?aCT ?pgCS ?hdCS ?poCS ?saCS ?mkCS ?kcCS ?pgCK ?hdCK ?poCK ?saCK ?mkCK ?kcCK ?nCSstatements ?nCSfound ?nCSplaces ?nCKfound ?cn ?ct ?xCN ?saCN ?gaCN ?ggCN ?nfCN ?eCN ?tCN ?hCN ?kcCN ?caCN ?obCN ?iCN ?iCT ?tCT ?sCNCN ?sCNCT ?sVE ?dCNCT ?a_isInt ?l_isInt ?c_isInt ?k_isInt ?a_isName ?l_isName ?c_isName ?k_isName ?a_fault ?l_fault ?c_fault ?k_fault ?a_form ?l_form ?c_form ?k_form ?a_held ?l_held ?c_held ?k_held ?a_places ?l_places ?c_places ?k_places ?a_pool ?l_pool ?c_pool ?k_pool ?a_draw ?l_draw ?c_draw ?k_draw ?a_names ?l_names ?c_names ?k_names ?a_simple ?l_simple ?c_simple ?k_simple ?a_branch ?l_branch ?c_branch ?k_branch ?a_walk ?l_walk ?c_walk ?k_walk ?a_tup ?l_tup ?c_tup ?k_tup ?a_refu ?l_refu ?c_refu ?k_refu ?a_law ?l_law ?c_law ?k_law ?a_sinit ?i_sinit ?l_sinit ?c_sinit ?k_sinit ?a_slen ?i_slen ?l_slen ?c_slen ?k_slen ?a_shas ?i_shas ?l_shas ?c_shas ?k_shas ?a_sget ?i_sget ?l_sget ?c_sget ?k_sget ?a_kinit ?i_kinit ?l_kinit ?c_kinit ?k_kinit ?a_kbr ?i_kbr ?l_kbr ?c_kbr ?k_kbr ?a_kst ?i_kst ?l_kst ?c_kst ?k_kst ?a_npi ?i_npi ?l_npi ?c_npi ?k_npi ?fg ?z_ValueError ?z_len ?z_int ?z_max ?z_range ?z_tuple ?z_isinstance ?z_all ?z_list ?z_enumerate ?z_str ?z_bool ?v_LONGEST_NAME ?v_MOST_STATEMENTS ?v_MOST_HELD ?v_MOST_NESTED ?aI ?lI ?kI ?sI ?e_take ?e_commit ?e_rollback ?e_drop ?e_leave ?e_lock ?e_unlock ?e_choose
    (case aCS => k_is)
    (case aCK => k_is)
    (case aCN => k_is)
    (case aCT => k_is)
    (case pgCS => k_is)
    (case hdCS => k_is)
    (case poCS => k_is)
    (case saCS => k_is)
    (case mkCS => k_is)
    (case kcCS => k_is)
    (case pgCK => k_is)
    (case hdCK => k_is)
    (case poCK => k_is)
    (case saCK => k_is)
    (case mkCK => k_is)
    (case kcCK => k_is)
    (case nCSstatements => k_is)
    (case nCSfound => k_is)
    (case nCSplaces => k_is)
    (case nCKfound => k_is)
    (case cn => k_is)
    (case ct => k_is)
    (case xCN => k_is)
    (case saCN => k_is)
    (case gaCN => k_is)
    (case ggCN => k_is)
    (case nfCN => k_is)
    (case eCN => k_is)
    (case tCN => k_is)
    (case hCN => k_is)
    (case kcCN => k_is)
    (case caCN => k_is)
    (case obCN => k_is)
    (case iCN => k_is)
    (case iCT => k_is)
    (case tCT => k_is)
    (case sCNCN => k_is)
    (case sCNCT => k_is)
    (case sVE => k_is)
    (case dCNCT => first | rfl | decide)
    (case a_isInt => k_is)
    (case l_isInt => k_is)
    (case c_isInt => k_is)
    (case k_isInt => k_is)
    (case a_isName => k_is)
    (case l_isName => k_is)
    (case c_isName => k_is)
    (case k_isName => k_is)
    (case a_fault => k_is)
    (case l_fault => k_is)
    (case c_fault => k_is)
    (case k_fault => k_is)
    (case a_form => k_is)
    (case l_form => k_is)
    (case c_form => k_is)
    (case k_form => k_is)
    (case a_held => k_is)
    (case l_held => k_is)
    (case c_held => k_is)
    (case k_held => k_is)
    (case a_places => k_is)
    (case l_places => k_is)
    (case c_places => k_is)
    (case k_places => k_is)
    (case a_pool => k_is)
    (case l_pool => k_is)
    (case c_pool => k_is)
    (case k_pool => k_is)
    (case a_draw => k_is)
    (case l_draw => k_is)
    (case c_draw => k_is)
    (case k_draw => k_is)
    (case a_names => k_is)
    (case l_names => k_is)
    (case c_names => k_is)
    (case k_names => k_is)
    (case a_simple => k_is)
    (case l_simple => k_is)
    (case c_simple => k_is)
    (case k_simple => k_is)
    (case a_branch => k_is)
    (case l_branch => k_is)
    (case c_branch => k_is)
    (case k_branch => k_is)
    (case a_walk => k_is)
    (case l_walk => k_is)
    (case c_walk => k_is)
    (case k_walk => k_is)
    (case a_tup => k_is)
    (case l_tup => k_is)
    (case c_tup => k_is)
    (case k_tup => k_is)
    (case a_refu => k_is)
    (case l_refu => k_is)
    (case c_refu => k_is)
    (case k_refu => k_is)
    (case a_law => k_is)
    (case l_law => k_is)
    (case c_law => k_is)
    (case k_law => k_is)
    (case a_sinit => k_is)
    (case i_sinit => k_is)
    (case l_sinit => k_is)
    (case c_sinit => k_is)
    (case k_sinit => k_is)
    (case a_slen => k_is)
    (case i_slen => k_is)
    (case l_slen => k_is)
    (case c_slen => k_is)
    (case k_slen => k_is)
    (case a_shas => k_is)
    (case i_shas => k_is)
    (case l_shas => k_is)
    (case c_shas => k_is)
    (case k_shas => k_is)
    (case a_sget => k_is)
    (case i_sget => k_is)
    (case l_sget => k_is)
    (case c_sget => k_is)
    (case k_sget => k_is)
    (case a_kinit => k_is)
    (case i_kinit => k_is)
    (case l_kinit => k_is)
    (case c_kinit => k_is)
    (case k_kinit => k_is)
    (case a_kbr => k_is)
    (case i_kbr => k_is)
    (case l_kbr => k_is)
    (case c_kbr => k_is)
    (case k_kbr => k_is)
    (case a_kst => k_is)
    (case i_kst => k_is)
    (case l_kst => k_is)
    (case c_kst => k_is)
    (case k_kst => k_is)
    (case a_npi => k_is)
    (case i_npi => k_is)
    (case l_npi => k_is)
    (case c_npi => k_is)
    (case k_npi => k_is)
    (case fg => k_is)
    (case z_ValueError => k_is)
    (case z_len => k_is)
    (case z_int => k_is)
    (case z_max => k_is)
    (case z_range => k_is)
    (case z_tuple => k_is)
    (case z_isinstance => k_is)
    (case z_all => k_is)
    (case z_list => k_is)
    (case z_enumerate => k_is)
    (case z_str => k_is)
    (case z_bool => k_is)
    (case v_LONGEST_NAME => k_is)
    (case v_MOST_STATEMENTS => k_is)
    (case v_MOST_HELD => k_is)
    (case v_MOST_NESTED => k_is)
    (case aI => k_is)
    (case lI => k_is)
    (case kI => (repeat (first | exact trivial | refine ⟨⟨_, _, rfl, rfl⟩, ?_⟩)))
    (case sI => first | rfl | decide)
    (case e_take => k_is)
    (case e_commit => k_is)
    (case e_rollback => k_is)
    (case e_drop => k_is)
    (case e_leave => k_is)
    (case e_lock => k_is)
    (case e_unlock => k_is)
    (case e_choose => k_is)
