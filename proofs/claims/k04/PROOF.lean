import PyProof.Rows.All
import Wide.All
import OpenK.AllK
import Wide.FinOn
import HandS.ForMost
import HandS.TupAny
import HandS.TupLen
import HandS.TupLe
import HandS.Conv
import HandS.IsInst
import HandS.More
import HandS.OwnEq
import KE.GoesMore
import HandS.Walk
import HandS.Defaults
import HandS.Codes
import PySem.Challenge.RW_takenahead_k04_whole_script_walks
set_option Elab.async false
set_option linter.all false
set_option maxRecDepth 100000
namespace Tk
open PySem L2
/-! ## heaps -/
/-- all but what stands at p is as it was -/
def Kp (p : Addr) (H H' : Hp) : Prop := ∀ b o, H b = some o → b ≠ p → H' b = some o
theorem Kp.refl (p : Addr) (H : Hp) : Kp p H H := fun _ _ e _ => e
theorem Kp.trans {p : Addr} {H H1 H2 : Hp} (a : Kp p H H1) (b : Kp p H1 H2) : Kp p H H2 := fun c o e n => b c o (a c o e n) n
theorem Kp.upd {p : Addr} {H : Hp} {o : HO} : Kp p H (L2.upd H p o) := fun c u e n => by rw [upd_ne n]; exact e
theorem Kp.new {p q : Addr} {H H' : Hp} {o : HO} (a : Kp p H H') (n : H' q = none) : Kp p H (L2.upd H' q o) := fun c u e m => by
  rw [upd_ne (ne_of_none (a c u e m) n)]; exact a c u e m
theorem Kp.of_same {p : Addr} {H H' : Hp} (a : Same H H') : Kp p H H' := fun c o e _ => a c o e
theorem same_new {H : Hp} {p : Addr} (h : H p = none) (o : HO) : Same H (L2.upd H p o) := fun b u q => by rw [upd_ne (ne_of_none q h)]; exact q
/-- the pool: three whole numbers -/
def PoolAt (H : Hp) (p : Addr) : Prop := ∃ a b c : Int, H p = some (.lst [.int a, .int b, .int c])
theorem Kp.tup {p q : Addr} {H H' : Hp} {xs : List V} {ys : List V} (k : Kp p H H') (hp : H p = some (.lst ys)) (h : H q = some (.tup xs)) : H' q = some (.tup xs) :=
  k q _ h (ne_of h hp (by intro z; cases z))
/-! ## numbers -/
theorem fmod_ok {a n : Int} (h : 0 < n) : 0 ≤ a.fmod n ∧ a.fmod n < n := ⟨Int.fmod_nonneg_of_pos a h, Int.fmod_lt_of_pos a h⟩
/-! ## texts -/
def Low (z : Str) : Prop := ∀ c ∈ z.cps.toList, 97 ≤ c ∧ c ≤ 122
def IsName (z : Str) : Prop := 1 ≤ z.length ∧ z.length ≤ 8 ∧ Low z
abbrev alpha : Str := "abcdefghijklmnopqrstuvwxyz"
theorem alpha_all : ∀ n : Fin 26, atI alpha.cps.toList ((n.val : Nat) : Int) = some (97 + n.val) := by decide +kernel
theorem alpha_at {i : Int} (h0 : 0 ≤ i) (h1 : i < 26) : ∃ c, atI alpha.cps.toList i = some c ∧ 97 ≤ c ∧ c ≤ 122 := by
  have e : i = ((i.toNat : Nat) : Int) := by omega
  have q := alpha_all ⟨i.toNat, by omega⟩
  rw [e]
  exact ⟨_, q, by simp, by simp; omega⟩
theorem low_nil : Low ("" : Str) := fun c h => by cases h
theorem low_app {x y : Str} (a : Low x) (b : Low y) : Low (x ++ y) := fun c h => by
  have h' : c ∈ (x.cps ++ y.cps).toList := h
  rw [Array.toList_append] at h'
  rcases List.mem_append.mp h' with q | q
  · exact a c q
  · exact b c q
theorem low_one {c : Nat} (h : 97 ≤ c ∧ c ≤ 122) : Low ⟨#[c]⟩ := fun d q => by
  have e : d = c := by simpa using q
  rw [e]; exact h
theorem low_cut {x : Str} (a : Low x) (lo hi : Option Int) : Low (cutS x lo hi) := fun c h => by
  have h' : c ∈ ((x.cps.toList.drop (HT.sIx x.length 0 lo)).take (HT.sIx x.length x.length hi - HT.sIx x.length 0 lo)) := by simpa [cutS] using h
  exact a c (List.mem_of_mem_drop (List.mem_of_mem_take h'))
theorem len_app (x y : Str) : (x ++ y).length = x.length + y.length := by
  show (x.cps ++ y.cps).size = _
  rw [Array.size_append]; rfl
theorem len_one (c : Nat) : (⟨#[c]⟩ : Str).length = 1 := rfl
theorem len_cut_lo (x : Str) (k : Nat) (h : k ≤ x.length) : (cutS x none (some (k : Int))).length = k := by
  have e : x.cps.toList.length = x.length := by simp [Str.length]
  show (((x.cps.toList.drop (HT.sIx x.length 0 none)).take (HT.sIx x.length x.length (some (k : Int)) - HT.sIx x.length 0 none)).toArray).size = k
  rw [HT.sIx_nat, HT.sIx_none, List.size_toArray, List.length_take, List.length_drop, e]
  omega
theorem len_cut_hi (x : Str) (k : Nat) (h : k ≤ x.length) : (cutS x (some (k : Int)) none).length = x.length - k := by
  have e : x.cps.toList.length = x.length := by simp [Str.length]
  show (((x.cps.toList.drop (HT.sIx x.length 0 (some (k : Int)))).take (HT.sIx x.length x.length none - HT.sIx x.length 0 (some (k : Int)))).toArray).size = _
  rw [HT.sIx_nat, HT.sIx_none, List.size_toArray, List.length_take, List.length_drop, e]
  omega
theorem isName_mk {b : Str} {c : Nat} {k : Int} (hb : Low b) (hl : b.length ≤ 7) (hc : 97 ≤ c ∧ c ≤ 122) (h0 : 0 ≤ k) (h1 : k ≤ b.length) :
    IsName (cutS b none (some k) ++ ⟨#[c]⟩ ++ cutS b (some k) none) := by
  obtain ⟨n, rfl⟩ : ∃ n : Nat, k = (n : Int) := ⟨k.toNat, by omega⟩
  have hn : n ≤ b.length := by omega
  refine ⟨?_, ?_, low_app (low_app (low_cut hb _ _) (low_one hc)) (low_cut hb _ _)⟩
  · rw [len_app, len_app, len_one]; omega
  · rw [len_app, len_app, len_one, len_cut_lo b n hn, len_cut_hi b n hn]; omega
/-- the list of the three names -/
def NamesAt (H : Hp) (q : Addr) : Prop := ∃ x y z : Str, H q = some (.lst [.str x, .str y, .str z]) ∧ IsName x ∧ IsName y ∧ IsName z
/-! ## statements -/
inductive Wd | take | commit | rollback | drop | leave
  deriving DecidableEq
def Wd.s : Wd → Str
  | .take => "take" | .commit => "commit" | .rollback => "rollback" | .drop => "drop" | .leave => "leave"
def Wd.held : Wd → Int → Int
  | .take, h => h + 1 | .commit, _ => 0 | .rollback, _ => 0 | .leave, _ => 0 | .drop, h => h
/-- lock (true), unlock -/
def lockS (b : Bool) : Str := if b then "lock" else "unlock"
inductive Stm
  | one (w : Wd)
  | nam (b : Bool) (n : Str)
  | ch (y n : List Stm)
mutual
def Stm.d : Stm → PyData
  | .one w => .tuple [.str w.s]
  | .nam b n => .tuple [.str (lockS b), .str n]
  | .ch y n => .tuple [.str "choose", .tuple (dAll y), .tuple (dAll n)]
def dAll : List Stm → List PyData
  | [] => []
  | s :: r => s.d :: dAll r
end
mutual
def Stm.cnt : Stm → Nat
  | .one _ => 1
  | .nam _ _ => 1
  | .ch y n => 1 + cntAll y + cntAll n
def cntAll : List Stm → Nat
  | [] => 0
  | s :: r => s.cnt + cntAll r
end
mutual
def Stm.held : Stm → Int → Int
  | .one w, h => w.held h
  | .nam _ _, h => h
  | .ch y n, h => max (heldAll y h) (heldAll n h)
def heldAll : List Stm → Int → Int
  | [], h => h
  | s :: r, h => heldAll r (s.held h)
end
mutual
/-- s is a good statement inside of d chooses, when h numbers are held -/
def Stm.ok : Nat → Stm → Int → Prop
  | _, .one w, h => w = .take → h ≠ 3
  | _, .nam _ n, _ => IsName n
  | d, .ch y n, h => d < 2 ∧ okAll (d + 1) y h ∧ okAll (d + 1) n h
def okAll : Nat → List Stm → Int → Prop
  | _, [], _ => True
  | d, s :: r, h => s.ok d h ∧ okAll d r (s.held h)
end
mutual
/-- the value v is the statement s -/
def Stm.at : Hp → V → Stm → Prop
  | H, v, .one w => ∃ a, v = .ref a ∧ H a = some (.tup [.str w.s])
  | H, v, .nam b n => ∃ a, v = .ref a ∧ H a = some (.tup [.str (lockS b), .str n])
  | H, v, .ch y n => ∃ a b c xs ys, v = .ref a ∧ H a = some (.tup [.str "choose", .ref b, .ref c]) ∧ H b = some (.tup xs) ∧ atAll H xs y ∧ H c = some (.tup ys) ∧ atAll H ys n
def atAll : Hp → List V → List Stm → Prop
  | _, xs, [] => xs = []
  | H, xs, s :: r => ∃ v vs, xs = v :: vs ∧ s.at H v ∧ atAll H vs r
end
/-- tuples stay -/
def TK (H H' : Hp) : Prop := ∀ a xs, H a = some (.tup xs) → H' a = some (.tup xs)
theorem TK.refl (H : Hp) : TK H H := fun _ _ h => h
theorem TK.trans {H H1 H2 : Hp} (a : TK H H1) (b : TK H1 H2) : TK H H2 := fun c o h => b c o (a c o h)
theorem TK.of_same {H H' : Hp} (s : Same H H') : TK H H' := fun a xs h => s a _ h
theorem Kp.tk {p : Addr} {H H' : Hp} {ys : List V} (k : Kp p H H') (hp : H p = some (.lst ys)) : TK H H' := fun a xs h => k.tup hp h
mutual
theorem Stm.at_keep {H H' : Hp} (k : TK H H') : ∀ (s : Stm) (v : V), s.at H v → s.at H' v
  | .one w, v, h => by
    unfold Stm.at at h ⊢
    obtain ⟨a, e, h⟩ := h
    exact ⟨a, e, k _ _ h⟩
  | .nam b n, v, h => by
    unfold Stm.at at h ⊢
    obtain ⟨a, e, h⟩ := h
    exact ⟨a, e, k _ _ h⟩
  | .ch y n, v, h => by
    unfold Stm.at at h ⊢
    obtain ⟨a, b, c, xs, ys, e, h1, h2, h3, h4, h5⟩ := h
    exact ⟨a, b, c, xs, ys, e, k _ _ h1, k _ _ h2, atAll_keep k y xs h3, k _ _ h4, atAll_keep k n ys h5⟩
theorem atAll_keep {H H' : Hp} (k : TK H H') : ∀ (B : List Stm) (xs : List V), atAll H xs B → atAll H' xs B
  | [], xs, h => h
  | s :: r, xs, h => by
    unfold atAll at h ⊢
    obtain ⟨v, vs, e, h1, h2⟩ := h
    exact ⟨v, vs, e, Stm.at_keep k s v h1, atAll_keep k r vs h2⟩
end
theorem atAll_len {H : Hp} : ∀ {B : List Stm} {xs : List V}, atAll H xs B → xs.length = B.length
  | [], xs, h => by unfold atAll at h; rw [h]; rfl
  | s :: r, xs, h => by
    unfold atAll at h
    obtain ⟨v, vs, e, h1, h2⟩ := h
    rw [e, List.length_cons, List.length_cons, atAll_len h2]
theorem atAll_get {H : Hp} : ∀ {B : List Stm} {xs : List V} {i : Nat} {s : Stm}, atAll H xs B → B[i]? = some s → ∃ v, xs[i]? = some v ∧ s.at H v
  | [], xs, i, s, h, e => by simp at e
  | t :: r, xs, 0, s, h, e => by
    unfold atAll at h
    obtain ⟨v, vs, e1, h1, h2⟩ := h
    have e2 : t = s := Option.some.inj e
    exact ⟨v, by rw [e1]; rfl, e2 ▸ h1⟩
  | t :: r, xs, i + 1, s, h, e => by
    unfold atAll at h
    obtain ⟨v, vs, e1, h1, h2⟩ := h
    obtain ⟨u, h3, h4⟩ := atAll_get (i := i) (s := s) h2 e
    exact ⟨u, by rw [e1]; exact h3, h4⟩
theorem atAll_app {H : Hp} : ∀ {B C : List Stm} {xs ys : List V}, atAll H xs B → atAll H ys C → atAll H (xs ++ ys) (B ++ C)
  | [], C, xs, ys, h, g => by unfold atAll at h; rw [h]; exact g
  | s :: r, C, xs, ys, h, g => by
    unfold atAll at h
    obtain ⟨v, vs, e, h1, h2⟩ := h
    rw [e]
    show atAll H (v :: (vs ++ ys)) (s :: (r ++ C))
    unfold atAll
    exact ⟨v, vs ++ ys, rfl, h1, atAll_app h2 g⟩
theorem atAll_one {H : Hp} {s : Stm} {v : V} (h : s.at H v) : atAll H [v] [s] := by
  unfold atAll
  exact ⟨v, [], rfl, h, by unfold atAll; rfl⟩
theorem atAll_drop {H : Hp} : ∀ {B : List Stm} {xs : List V} (n : Nat), atAll H xs B → atAll H (xs.drop n) (B.drop n)
  | B, xs, 0, h => h
  | [], xs, n + 1, h => by unfold atAll at h; rw [h]; rfl
  | s :: r, xs, n + 1, h => by
    unfold atAll at h
    obtain ⟨v, vs, e, h1, h2⟩ := h
    rw [e]
    exact atAll_drop n h2
theorem heldAll_app : ∀ (B C : List Stm) (h : Int), heldAll (B ++ C) h = heldAll C (heldAll B h)
  | [], C, h => rfl
  | s :: r, C, h => by
    show heldAll (s :: (r ++ C)) h = heldAll C (heldAll (s :: r) h)
    rw [heldAll, heldAll]
    exact heldAll_app r C _
theorem okAll_app : ∀ (d : Nat) (B C : List Stm) (h : Int), okAll d B h → okAll d C (heldAll B h) → okAll d (B ++ C) h
  | d, [], C, h, _, g => by rw [heldAll] at g; exact g
  | d, s :: r, C, h, f, g => by
    rw [okAll] at f
    rw [heldAll] at g
    show okAll d (s :: (r ++ C)) h
    rw [okAll]
    exact ⟨f.1, okAll_app d r C _ f.2 g⟩
theorem cntAll_app : ∀ (B C : List Stm), cntAll (B ++ C) = cntAll B + cntAll C
  | [], C => by rw [cntAll]; simp
  | s :: r, C => by
    show cntAll (s :: (r ++ C)) = _
    rw [cntAll, cntAll, cntAll_app r C]; omega
theorem cnt_pos (s : Stm) : 1 ≤ s.cnt := by
  cases s <;> rw [Stm.cnt] <;> omega
theorem len_le_cnt : ∀ (B : List Stm), B.length ≤ cntAll B
  | [] => Nat.zero_le _
  | s :: r => by
    have := cnt_pos s
    have := len_le_cnt r
    rw [cntAll, List.length_cons]; omega
/-! ## what the draws stand on: the pool p, the box b (what is left, what is held), the names q -/
def BoxAt (H : Hp) (b : Addr) (k h : Int) : Prop := H b = some (.lst [.int k, .int h, .int 3])
structure Dr (H : Hp) (p b q : Addr) (k h : Int) : Prop where
  pool : PoolAt H p
  box : BoxAt H b k h
  names : NamesAt H q
  npb : p ≠ b
  npq : p ≠ q
  nbq : b ≠ q
def K2 (p b : Addr) (H H' : Hp) : Prop := ∀ a o, H a = some o → a ≠ p → a ≠ b → H' a = some o
theorem K2.refl (p b : Addr) (H : Hp) : K2 p b H H := fun _ _ e _ _ => e
theorem K2.trans {p b : Addr} {H H1 H2 : Hp} (x : K2 p b H H1) (y : K2 p b H1 H2) : K2 p b H H2 := fun c o e n m => y c o (x c o e n m) n m
theorem Kp.k2 {p b : Addr} {H H' : Hp} (k : Kp p H H') : K2 p b H H' := fun a o e n _ => k a o e n
theorem K2.upd {p b : Addr} {H : Hp} {o : HO} : K2 p b H (L2.upd H b o) := fun a u e _ n => by rw [upd_ne n]; exact e
theorem K2.new {p b q : Addr} {H H' : Hp} {o : HO} (k : K2 p b H H') (n : H' q = none) : K2 p b H (L2.upd H' q o) := fun c u e m m' => by
  rw [upd_ne (ne_of_none (k c u e m m') n)]; exact k c u e m m'
theorem Dr.tk {H H' : Hp} {p b q : Addr} {k h : Int} (D : Dr H p b q k h) (x : K2 p b H H') : TK H H' := fun a xs e => by
  obtain ⟨_, _, _, hp⟩ := D.pool
  exact x a _ e (ne_of e hp (by intro z; cases z)) (ne_of e D.box (by intro z; cases z))
theorem Dr.draw {H H' : Hp} {p b q : Addr} {k h : Int} (D : Dr H p b q k h) (x : Kp p H H') (y : PoolAt H' p) : Dr H' p b q k h := by
  obtain ⟨a1, a2, a3, hq, n1, n2, n3⟩ := D.names
  exact ⟨y, x b _ D.box D.npb.symm, ⟨a1, a2, a3, x q _ hq D.npq.symm, n1, n2, n3⟩, D.npb, D.npq, D.nbq⟩
theorem Dr.put {H : Hp} {p b q : Addr} {k h k' h' : Int} (D : Dr H p b q k h) : Dr (L2.upd H b (.lst [.int k', .int h', .int 3])) p b q k' h' := by
  obtain ⟨a1, a2, a3, hq, n1, n2, n3⟩ := D.names
  obtain ⟨x, y, z, hp⟩ := D.pool
  exact ⟨⟨x, y, z, by rw [upd_ne D.npb]; exact hp⟩, upd_same, ⟨a1, a2, a3, by rw [upd_ne D.nbq.symm]; exact hq, n1, n2, n3⟩, D.npb, D.npq, D.nbq⟩
theorem Dr.new {H : Hp} {p b q a : Addr} {o : HO} {k h : Int} (D : Dr H p b q k h) (n : H a = none) : Dr (L2.upd H a o) p b q k h := by
  obtain ⟨a1, a2, a3, hq, n1, n2, n3⟩ := D.names
  obtain ⟨x, y, z, hp⟩ := D.pool
  exact ⟨⟨x, y, z, by rw [upd_ne (ne_of_none hp n)]; exact hp⟩, by unfold BoxAt; rw [upd_ne (ne_of_none D.box n)]; exact D.box, ⟨a1, a2, a3, by rw [upd_ne (ne_of_none hq n)]; exact hq, n1, n2, n3⟩, D.npb, D.npq, D.nbq⟩
theorem names_at {H : Hp} {q : Addr} (h : NamesAt H q) {r : Int} (r0 : 0 ≤ r) (r1 : r < 3) : ∃ xs n, H q = some (.lst xs) ∧ atI xs r = some (.str n) ∧ IsName n := by
  obtain ⟨a1, a2, a3, hq, n1, n2, n3⟩ := h
  have e : r = 0 ∨ r = 1 ∨ r = 2 := by omega
  rcases e with rfl | rfl | rfl
  · exact ⟨_, a1, hq, rfl, n1⟩
  · exact ⟨_, a2, hq, rfl, n2⟩
  · exact ⟨_, a3, hq, rfl, n3⟩
end Tk
set_option maxRecDepth 100000
/-! Own rules: enumerate over a tuple; .get of a written dict; o[i], x in o, len(o) by the text's own methods. -/
namespace PySem
section
variable {prog : Program} {w : World} {A : Around} {E : Value → Shared → Prop} {s : Shared}
abbrev tkE (j : Addr) : Obj := { cls := .type "enumerate", data := .fields #[.none, .bool false, .ref j, rawInt 0, .none, .none] }
theorem tk_new {v : Value} {o : Obj} {T : Heap → Prop} (B : Begins v o T) :
    Meets (Builtin.«enumerate.__new__» ⟨[.type "enumerate", v], []⟩) (fun _ R s => T s.heap ∧ R (.ok (.ret (.ref (s.heap.push o).objs.size))) { s with heap := (s.heap.push o).push (tkE s.heap.objs.size) }) :=
  .of_wp fun prog w A R s h => by
    obtain ⟨hp, g, d, tk, os⟩ := s
    obtain ⟨h1, h⟩ := h
    have hz := sub_enumerate
    have it1 : ∀ {A' : Around} {E' : Value → Shared → Prop} {Q' : Value → Shared → Prop}, Q' (.ref hp.objs.size) ⟨hp.push o, g, d, tk, os⟩ → wpAny (model prog w) A' (pyIter v) Q' E' ⟨hp, g, d, tk, os⟩ := fun z => B.iter prog w _ _ ⟨hp, g, d, tk, os⟩ _ h1 z
    wp_walk using it1
    refine wpAny_stack_any fun _ => wpAny_pure ?_
    split
    · rename_i c _ _ _ _ _
      cases (c == Value.type "enumerate") <;> (wp_walk using it1; exact ⟨_, rfl, h⟩)
    · wp_walk using it1
      exact ⟨_, rfl, h⟩
theorem tk_enum {v : Value} {o : Obj} {T : Heap → Prop} {Q : Value → Shared → Prop} (B : Begins v o T) (h1 : T s.heap)
    (h : ∀ h', IsEnum h' (s.heap.objs.size + 1) s.heap.objs.size 0 .none → h'.get? s.heap.objs.size = some o → (∀ b u, s.heap.get? b = some u → h'.get? b = some u) → Q (.ref (s.heap.objs.size + 1)) { s with heap := h' }) :
    wpAny (model prog w) A (call (.type "enumerate") [v]) Q E s := by
  have z1 : (s.heap.push o).objs.size = s.heap.objs.size + 1 := Heap.size_push ..
  refine callType_new F.called_enumerate (by decide) (F.typeCall_enumerate_1 _) (F.newCall_enumerate_1 _) (fun obj => F.args_object_init_2 obj _) F.entry_enumerate_new (tk_new B) (And.intro h1 ?_)
  show _ ∧ _
  rw [z1]
  have q : ((s.heap.push o).push (tkE s.heap.objs.size)).get? (s.heap.push o).objs.size = some (tkE s.heap.objs.size) := Heap.get?_push_size _ rfl
  rw [z1] at q
  exact And.intro ⟨_, q, rfl⟩ (h _ q (Heap.get?_push_of_some _ (Heap.get?_push_size _ B.free)) fun b u y => Heap.get?_push_of_some _ (Heap.get?_push_of_some _ y))
end
end PySem
namespace L2
open PySem PySem.Spec PyProof.Rows
/-- the tuple at a, each item in a new pair with its number -/
def IteT (K : PySem.W.Frag) (a : Addr) : It where
  go := fun i H => ∃ (xs : List V) (x : V), SqT K H a xs ∧ xs[i]? = some x
  yld := fun i H v H' => ∃ T x, v = .ref T ∧ H T = none ∧ H' = upd H T (.tup [.int (i : Nat), x]) ∧ ∀ xs, SqT K H a xs → xs[i]? = some x
  stop := fun i H => ∃ xs : List V, SqT K H a xs ∧ xs.length = i
theorem tk_turn {P : Program} {w : World} {K : PySem.W.Frag} {elts : List Expr} {kk : Nat} {tp : Pos} (a e j : Addr) (n1 : a ≠ j) (n2 : e ≠ a) (n3 : e ≠ j) :
    Turn P w K (.Tuple elts kk tp) (IteT K a) [e, j] e (fun i h => (∃ old, IsEnum h e j ((i : Nat) : Int) old) ∧ h.IsTupleIter j a i) := by
  have two : ∀ b, b ∈ [e, j] → b = e ∨ b = j := fun b hb => by simpa using hb
  refine { mem := by simp, obj := ?_, keep := ?_, item := ?_, done := ?_, self := fun A i s Q E st h => wpAny_pyIter_enum st.1.choose_spec h }
  · intro i h st b hb
    obtain ⟨⟨old, he⟩, ⟨o, ho, _, hd⟩⟩ := st
    rcases two b hb with rfl | rfl
    · exact ⟨_, he, fun v q => nomatch q⟩
    · exact ⟨o, ho, fun v q => by rw [hd] at q; cases q⟩
  · intro i h h' st k
    obtain ⟨⟨old, he⟩, hi⟩ := st
    exact ⟨⟨old, k e (by simp) _ he⟩, hi.at fun o q => k j (by simp) o q⟩
  · intro X hP hw hK hc i pins s σ H E I hf st hg
    subst hP hw hK
    obtain ⟨⟨old, he⟩, hj⟩ := st
    obtain ⟨xs, x, hq, hx⟩ := hg
    obtain ⟨its, rv, p, hz⟩ := I.tuple hq
    obtain ⟨u, hu, ru⟩ := rv.get hx
    have szE : e < s.heap.objs.size := Heap.lt_size he
    have szJ : j < s.heap.objs.size := by obtain ⟨_, q, _⟩ := hj; exact Heap.lt_size q
    have hu2 : its.toArray[i]? = some u := by simpa using hu
    have hlt : i < its.toArray.size := by
      rcases Nat.lt_or_ge i its.toArray.size with z | z
      · exact z
      · rw [Array.getElem?_eq_none z] at hu2; cases hu2
    refine wpAny_pyNext_enum_itemD (Draws.tuple (show X.A.in1.handled = none from I.ok.hd hc) j a n1 its.toArray) he ⟨hj, p⟩ hlt n3 (fun z => by
      rcases List.mem_cons.mp z with z | z
      · exact n3 z
      · exact n2 (by simpa using z)) (fun y h' tk py ho st' hT hsz hk => ?_)
    have ey : y = u := Option.some.inj (py.symm.trans hu2)
    subst ey
    refine ⟨_, rfl, wpAny_letOwnedTupleGo_enum (s := { s with heap := h', toks := tk + 1 }) ho fun h'' he' sb => ?_⟩
    have gT : h''.get? s.heap.objs.size = some { cls := .type "tuple", data := .seq #[.int i tk, y] } := (sb.2 _ (Nat.ne_of_gt szE)).trans hT
    have nw : ObjOk X.prog X.w (upd H s.heap.objs.size (.tup [.int (i : Nat), x])) h'' s.heap.objs.size (.tup [.int (i : Nat), x]) :=
      ⟨by show 2 ≤ sizeLine; decide, [.int i tk, y], .cons ⟨_, rfl⟩ (.cons ru .nil), _, gT, rfl, _, rfl⟩
    have I1 : Inv X pins σ (upd H s.heap.objs.size (.tup [.int (i : Nat), x])) { s with heap := h'', toks := tk + 1 } :=
      I.turnedNew (ch := [e, j]) (fun b ob hb q => (sb.2 b fun z => hb (by simp [z])).trans (hk b ob (fun z => hb (by simp [z])) (fun z => hb (by simp [z])) q)) hf (Nat.le_refl _) nw
    refine ⟨.ref s.heap.objs.size, _, I1, rfl, ⟨_, x, rfl, I.hok.fresh (Nat.le_refl _), rfl, fun ys hy => by rw [I.tuple_inj hy hq]; exact hx⟩, ⟨⟨y, ?_⟩, st'.1.at fun o q => (sb.2 j n3.symm).trans q⟩, fun b hb => ?_⟩
    · have e1 : (i : Int) + 1 = ((i + 1 : Nat) : Int) := by omega
      rw [← e1]
      exact he'
    · have lb : b < s.heap.objs.size := by
        rcases two b hb with rfl | rfl
        · exact szE
        · exact szJ
      rw [upd_ne (Nat.ne_of_lt lb)]
      exact (hf b hb).1
  · intro X hP hw hK hc i pins s σ H E I hf st hg
    subst hP hw hK
    obtain ⟨⟨old, he⟩, hj⟩ := st
    obtain ⟨xs, hq, hx⟩ := hg
    obtain ⟨its, rv, p, hz⟩ := I.tuple hq
    obtain ⟨f0, f1, f2, f3, f4, f5⟩ := hf j (by simp)
    have hl : i = its.toArray.size := by rw [List.size_toArray, ← rv.length]; exact hx.symm
    subst hl
    exact wpAny_pyNext_enum_endD (Draws.tuple (show X.A.in1.handled = none from I.ok.hd hc) j a n1 its.toArray) he ⟨hj, p⟩ fun h' eb => ⟨rfl, I.turned (t' := s.toks) (fun b o hb q => eb b o hb q) f0 f1 f3 f4 f5⟩
/-- for i, x in enumerate(t), t a tuple -/
def iEnumT (K : PySem.W.Frag) (ta : TA) : TI := fun σ H R => ta σ H fun vs H1 => ∃ a xs, vs = [.ref a] ∧ SqT K H1 a xs ∧ R (IteT K a) H1
theorem pi_enumT {X : Cx} {e : Expr} {ta : TA} {p pos tp : Pos} {elts : List Expr} {kk : Nat} (hg : Gl X "enumerate") (hm : X.mg "enumerate" = none) (ha : PA X [e] ta) (hs : starEach [e] X.env = [(false, eval e X.env)] := by rfl) :
    PI X (.Tuple elts kk tp) (.Call (.Name "enumerate" p) [e] [] pos) (iEnumT X.K ta) := by
  refine ⟨fun pins s σ H R I h => ?_⟩
  refine Call_ (ld_blt I hg hm boot_enumerate (PyProof.Rows.callWith_type1 (thn (ha.run pos pins s σ H _ I h) fun us s1 q0 => ?_) hs rfl))
  obtain ⟨vs, H1, I1, r1, a, xs, ex, hq, q⟩ := q0
  subst ex
  cases r1 with
  | cons r rr =>
    cases rr
    cases r
    obtain ⟨its, rv, p', hz⟩ := I1.tuple hq
    have la : a < s1.heap.objs.size := by obtain ⟨_, z, _⟩ := p'; exact Heap.lt_size z
    refine tk_enum (begins_tuple a its.toArray) p' fun h' he hit hk => wpAny_pyIter_enum he ?_
    have I2 : Inv X pins σ H1 { s1 with heap := h' } := I1.kept (t' := s1.toks) hk
    refine ⟨s1.heap.objs.size + 1, [s1.heap.objs.size + 1, s1.heap.objs.size], _, _, H1, rfl, I2, tk_turn a (s1.heap.objs.size + 1) s1.heap.objs.size (Nat.ne_of_lt la) (Nat.ne_of_gt (Nat.lt_succ_of_lt la)) (Nat.succ_ne_self _), ⟨⟨.none, he⟩, ⟨_, hit, rfl, rfl⟩⟩, fun b hb => ?_, q⟩
    have two : b = s1.heap.objs.size + 1 ∨ b = s1.heap.objs.size := by simpa using hb
    have le : s1.heap.objs.size ≤ b := two.elim (fun z => z ▸ Nat.le_succ _) (fun z => z ▸ Nat.le_refl _)
    exact I1.fpOk le (I1.hok.fresh le)
/-- the reading of such a loop -/
theorem for_enumT {K : PySem.W.Frag} {a : Addr} {xs : List V} {g : TG} {tb : TS} {D : Ends} {σ : St} {H : Hp} (Pv : Nat → St → Hp → Prop) (h0 : Pv 0 σ H) (hl : ∀ i σ H, i ≤ xs.length → Pv i σ H → SqT K H a xs)
    (hs : ∀ i x T σ H, xs[i]? = some x → Pv i σ H → H T = none → g (.ref T) σ (upd H T (.tup [.int (i : Nat), x])) fun σ2 H2 => tb { D with nx := Pv (i + 1), ct := Pv (i + 1), bk := D.nx } σ2 H2) (hd : ∀ σ H, Pv xs.length σ H → D.nx σ H) :
    ∃ W : Nat → Nat → St → Hp → Prop, (∃ m, W 0 m σ H) ∧ ∀ i m σ H, W i m σ H → ((IteT K a).stop i H ∧ D.nx σ H) ∨ ((IteT K a).go i H ∧ ∃ N : St → Hp → Prop, (∀ σ' H', N σ' H' → ∃ m', m' < m ∧ W (i + 1) m' σ' H') ∧
      ∀ x H', (IteT K a).yld i H x H' → g x σ H' fun σ2 H2 => tb { D with nx := N, ct := N, bk := D.nx } σ2 H2) := by
  refine ⟨fun i m σ H => m = xs.length - i ∧ i ≤ xs.length ∧ Pv i σ H, ⟨xs.length, by simp, Nat.zero_le _, h0⟩, ?_⟩
  rintro i m σ H ⟨rfl, hi, p⟩
  have q := hl i σ H hi p
  by_cases lt : i < xs.length
  · refine .inr ⟨⟨xs, xs[i], q, by simp [lt]⟩, Pv (i + 1), fun σ' H' p' => ⟨xs.length - (i + 1), by omega, rfl, lt, p'⟩, ?_⟩
    rintro x H' ⟨T, y, rfl, hT, rfl, hy⟩
    exact hs i y T σ H (hy xs q) p hT
  · have e : i = xs.length := by omega
    exact .inl ⟨⟨xs, q, e.symm⟩, hd σ H (e ▸ p)⟩
/-! ### the text's own methods by signs -/
section
variable {X : Cx} {CX : CXT} {k n : Nat} {C f : Addr} {fd : FuncData} {ps : List Str} {sp : Sp} {E : XK}
/-- a def called somewhere below the running body -/
theorem tk_run {A : Around} {pins : List (Addr × Obj)} {σ : St} {H : Hp} {s : Shared} {Q : VK} {us : List Value} {vs : List V} (sb : Sub X k A) (F : FnOk X.prog X.w X.K X.mg X.base CX k f fd ps sp) (hb : Binds X.K fd ps []) (hx : Passes CX X E)
    (I : Inv X pins σ H s) (r : Vals vs us) (h : sp vs H Q E) : wpAny (model X.prog X.w) A (call (.ref f) us) (EP X pins σ Q) X.xe s := by
  have e := I.env0
  have e0 : Env0 X.prog X.w X.K X.mg X.base A X.stack s H := ⟨by rw [sb.fr]; exact e.frames, e.mod, e.bs, e.bsz, e.funs, e.frf, e.hok, e.bare⟩
  have hl : us.length = ps.length := r.length.symm.trans (F.len _ _ _ _ h)
  have bd := hb s us I.kIn (by simpa using hl)
  refine wpAny_call (codeAny_mono (F.run A X.stack s H ⟨us, []⟩ us vs Q E sb.room e0 (by simpa using bd) r h) fun res s' hq => ?_)
  match res, hq with
  | .error e, hq => exact hx pins σ H s e s' I hq
  | .ok (.ret u), hq => exact I.after hq
/-- what stands in the class C as the method m -/
structure OwnM (K : PySem.W.Frag) (C : Addr) (m : Str) (f : Addr) : Prop where
  at_ : PySem.W.findIn K (.ref C) m = some (some (.ref f))
  fn : PySem.W.isFn K (.ref f) = true
theorem ownInst {pins : List (Addr × Obj)} {σ : St} {H : Hp} {s : Shared} {a dx : Addr} {fs : List (Str × V)} (I : Inv X pins σ H s) (ha : H a = some (.ins C dx fs)) : ∃ ox od, PySem.W.InstAt s.heap a ox C od := by
  obtain ⟨mA, J, _⟩ := ins_get I.hok ha
  obtain ⟨od, J, _⟩ := J.look
  exact ⟨_, _, J⟩
def rOwn2 (C : Addr) (sp : Sp) (E : XK) : R2 := fun x y H Q => ∃ a dx fs, x = .ref a ∧ H a = some (.ins C dx fs) ∧ sp [.ref a, y] H Q E
/-- o[i] by the class's own __getitem__ -/
theorem ix_own {value slice : Expr} (M : OwnM X.K C "__getitem__" f) (hf : PySem.W.fnIn X.K f = true) (F : FnOk X.prog X.w X.K X.mg X.base CX k f fd ps sp) (hr : Room (k + 1) X.A) (hb : Binds X.K fd ps []) (hx : Passes CX X E)
    {a b : Expr} {ta tb : TE} {pos : Pos} (ha : PE X a ta) (hb2 : PE X b tb) (hs : ∀ o i, subscripted b true o i = runValue (.builtin "lifetime.subscript" ⟨[o, i], []⟩)) : PE X (.Subscript a b pos) (tOp (rOwn2 C sp E) ta tb) := by
  refine ⟨fun pins s σ H Q I h => ?_⟩
  refine Subscript_ (binT ha hb2 I h fun v u s2 x y H2 I2 rx ry q => ?_)
  obtain ⟨p, dx, fs, rfl, hp, q⟩ := q
  obtain rfl : v = Value.ref p := rx
  obtain ⟨ox, od, J⟩ := ownInst I2 hp
  obtain ⟨m, hF⟩ := I2.fr
  refine PySem.W.sub_K hF I2.ok.mod.kin J M.at_ hf M.fn ?_ (hs _ _)
  exact tk_run ⟨hr.in1, rfl⟩ F hb hx I2 (.cons (show RelV (.ref p) (.ref p) from rfl) (.cons ry .nil)) q
def rOwnIn (C : Addr) (sp : Sp) (E : XK) (neg : Bool) : R2 := fun y x H Q => ∃ a dx fs, x = .ref a ∧ H a = some (.ins C dx fs) ∧ sp [.ref a, y] H (fun v H' => ∃ c, v = .bl c ∧ Q (.bl (if neg then !c else c)) H') E
/-- y in o by the class's own __contains__ -/
theorem op_inOwn (M : OwnM X.K C "__contains__" f) (F : FnOk X.prog X.w X.K X.mg X.base CX k f fd ps sp) (hr : Room k X.A) (hb : Binds X.K fd ps []) (hx : Passes CX X E) : OpR X (compareOp .In) (rOwnIn C sp E false) := by
  intro pins s σ H y x u v Q I ry rx h
  obtain ⟨p, dx, fs, rfl, hp, q⟩ := h
  obtain rfl : v = Value.ref p := rx
  obtain ⟨ox, od, J⟩ := ownInst I hp
  obtain ⟨m, hF⟩ := I.fr
  refine PySem.W.in_K hF I.ok.mod.kin J M.at_ M.fn (thn (tk_run ⟨hr, rfl⟩ F hb hx I (.cons (show RelV (.ref p) (.ref p) from rfl) (.cons ry .nil)) q) fun r s' hq => ?_)
  obtain ⟨z, H', I', rz, c, rfl, q'⟩ := hq
  cases rz
  exact wpAny_truthy_bool ⟨.bl c, H', I', rfl, q'⟩
theorem op_notInOwn (M : OwnM X.K C "__contains__" f) (F : FnOk X.prog X.w X.K X.mg X.base CX k f fd ps sp) (hr : Room k X.A) (hb : Binds X.K fd ps []) (hx : Passes CX X E) : OpR X (compareOp .NotIn) (rOwnIn C sp E true) := by
  intro pins s σ H y x u v Q I ry rx h
  obtain ⟨p, dx, fs, rfl, hp, q⟩ := h
  obtain rfl : v = Value.ref p := rx
  obtain ⟨ox, od, J⟩ := ownInst I hp
  obtain ⟨m, hF⟩ := I.fr
  refine PySem.W.notIn_K hF I.ok.mod.kin J M.at_ M.fn (thn (tk_run ⟨hr, rfl⟩ F hb hx I (.cons (show RelV (.ref p) (.ref p) from rfl) (.cons ry .nil)) q) fun r s' hq => ?_)
  obtain ⟨z, H', I', rz, c, rfl, q'⟩ := hq
  cases rz
  exact wpAny_truthy_bool ⟨.bl (!c), H', I', rfl, q'⟩
/-- len(o) by the class's own __len__ -/
theorem call_lenOwn (M : OwnM X.K C "__len__" f) (F : FnOk X.prog X.w X.K X.mg X.base CX k f fd ps sp) (hr : Room (k + 1) X.A) (hb : Binds X.K fd ps []) (hx : Passes CX X E) :
    CallR X (.builtin "len") (fun xs H Q => ∃ a dx fs, xs = [.ref a] ∧ H a = some (.ins C dx fs) ∧ sp [.ref a] H (fun v H' => ∃ i : Int, v = .int i ∧ 0 ≤ i ∧ i < 2 ^ 63 ∧ Q v H') E) := by
  intro pins s σ H xs us Q I r h
  obtain ⟨p, dx, fs, rfl, hp, q⟩ := h
  obtain ⟨u, rfl, rx⟩ := vals1 r
  obtain rfl : u = Value.ref p := rx
  obtain ⟨ox, od, J⟩ := ownInst I hp
  obtain ⟨m, hF⟩ := I.fr
  refine PySem.W.len_K hF I.ok.mod.kin J M.at_ M.fn (thn (tk_run ⟨hr.in1, rfl⟩ F hb hx I (.cons (show RelV (.ref p) (.ref p) from rfl) .nil) q) fun r s' hq => ?_)
  obtain ⟨z, H', I', rz, i, rfl, i0, i1, q'⟩ := hq
  obtain ⟨t, rfl⟩ := rz
  refine ⟨⟨i0, i1⟩, ⟨.int i, H', I'.tok _, ⟨_, rfl⟩, q'⟩⟩
end
/-! ### .get of a written dict -/
def KG (K : PySem.W.Frag) (w : World) (a : Addr) (x : Str) (v : V) : Prop := KDct K w a x v ∧ (a == sysModules) = false
def tKGet (K : PySem.W.Frag) (w : World) (td ty : TE) : TE := fun σ H Q => td σ H fun x H1 => ty σ H1 fun y H2 => ∃ a z v, x = .ref a ∧ y = .str z ∧ KG K w a z v ∧ Q v H2
theorem pe_kget {X : Cx} {o e : Expr} {td ty : TE} {apos cpos : Pos} (ho : PE X o td) (he : PE X e ty) (hd : ∀ σ H Q, td σ H Q → td σ H fun x H1 => (∃ a oc es n, x = V.ref a ∧ X.K.lookup a = some oc ∧ oc = ⟨.type "dict", none, .dict es n, #[]⟩) ∧ Q x H1) (m : M1 X o "get" apos e cpos) :
    PE X (.Call (.Attribute o "get" apos) [e] [] cpos) (tKGet X.K X.w td ty) := by
  refine ⟨fun pins s σ H Q I h => ?_⟩
  refine wpAny_Call_method m.base m.few m.line PySem.F.plainAttrs_dict PySem.F.slot_dict_get PySem.F.type_dict_get (thn (ho.run pins s σ H _ I (hd _ _ _ h)) fun u s1 q0 => ?_)
  obtain ⟨x, H1, I1, rx, ⟨a, oc, es, n, rfl, lk, rfl⟩, q1⟩ := q0
  obtain rfl : u = Value.ref a := rx
  have ga := I1.kIn _ _ lk
  refine ⟨⟨_, ga, rfl⟩, fun b q => by cases q; exact ⟨_, ga, rfl⟩, ?_⟩
  rw [m.trees]
  refine Calls.callWith_builtin rfl (Calls.evalArgs_plain (Calls.spliced_cons (thn (he.run pins s1 σ H1 _ I1 q1) fun iv s2 q2 => Calls.spliced_nil ?_)))
  obtain ⟨y, H2, I2, ry, a', z, v, ea, rfl, ⟨⟨es', n', u0, hl, hk, e1, ru⟩, hs⟩, q2⟩ := q2
  cases ea
  obtain ⟨t, rfl⟩ := ry
  have mo := PySem.W.mapOf_K (prog := X.prog) (w := X.w) I2.kIn hl hk
  refine call_meetsIn PySem.F.slot_dict_get mo.typeIs PySem.F.entry_dict_get (PySem.F.args_dict_get_2 _ _) (meets_dict_get (strKind X.prog X.w) a (strKind_is X.prog X.w z t) hs) ⟨_, mo, ?_⟩
  rw [PySem.W.find_K hl e1]
  exact ⟨v, H2, I2.tok _, ru, q2⟩
end L2
namespace Tk
open PySem L2
abbrev Pl := List Int
mutual
/-- the statements at and below the place p, in reading order -/
def Stm.walk : Stm → Pl → List (Pl × Stm)
  | .one w, p => [(p, .one w)]
  | .nam b n, p => [(p, .nam b n)]
  | .ch y n, p => (p, .ch y n) :: (walkAll y (p ++ [0]) 0 ++ walkAll n (p ++ [1]) 0)
def walkAll : List Stm → Pl → Nat → List (Pl × Stm)
  | [], _, _ => []
  | s :: r, p, i => s.walk (p ++ [(i : Int)]) ++ walkAll r p (i + 1)
end
def lk : List (Pl × Stm) → Pl → Option Stm
  | [], _ => none
  | (p, s) :: r, k => if p = k then some s else lk r k
theorem lk_app (k : Pl) : ∀ a b : List (Pl × Stm), lk (a ++ b) k = (lk a k).or (lk b k)
  | [], b => rfl
  | (p, s) :: r, b => by
    show (if p = k then some s else lk (r ++ b) k) = (if p = k then some s else lk r k).or (lk b k)
    by_cases h : p = k
    · rw [if_pos h, if_pos h]; rfl
    · rw [if_neg h, if_neg h, lk_app k r b]
def nth (B : List Stm) (j : Int) : Option Stm := if 0 ≤ j then B[j.toNat]? else none
def sub : Stm → Pl → Option Stm
  | s, [] => some s
  | .ch y n, a :: j :: q => if a = 0 then (nth y j).bind fun t => sub t q else if a = 1 then (nth n j).bind fun t => sub t q else none
  | _, _ => none
def look : List Stm → Pl → Option Stm
  | B, [] => none
  | B, j :: q => (nth B j).bind fun s => sub s q
theorem pre_ne {p q : Pl} {a b : Int} (h : a ≠ b) : ∀ r : Pl, p ++ a :: q ≠ (p ++ [b]) ++ r := fun r e => by
  rw [List.append_assoc] at e
  have := List.append_cancel_left e
  simp at this
  exact h this.1
mutual
theorem walk_none : ∀ (s : Stm) (p k : Pl), (∀ q, k ≠ p ++ q) → lk (s.walk p) k = none
  | .one w, p, k, h => by
    rw [Stm.walk, lk, if_neg (fun e => h [] (by rw [← e]; simp)), lk]
  | .nam b n, p, k, h => by
    rw [Stm.walk, lk, if_neg (fun e => h [] (by rw [← e]; simp)), lk]
  | .ch y n, p, k, h => by
    rw [Stm.walk, lk, if_neg (fun e => h [] (by rw [← e]; simp)), lk_app, walkAll_none y (p ++ [0]) 0 k (fun j q e => h (0 :: j :: q) (by rw [e]; simp)), walkAll_none n (p ++ [1]) 0 k (fun j q e => h (1 :: j :: q) (by rw [e]; simp))]
    rfl
theorem walkAll_none : ∀ (B : List Stm) (p : Pl) (i : Nat) (k : Pl), (∀ j q, k ≠ p ++ j :: q) → lk (walkAll B p i) k = none
  | [], p, i, k, h => by rw [walkAll, lk]
  | s :: r, p, i, k, h => by
    rw [walkAll, lk_app, walk_none s (p ++ [(i : Int)]) k (fun q e => h i q (by rw [e]; simp)), walkAll_none r p (i + 1) k h]
    rfl
end
theorem nth_nil (j : Int) : nth [] j = none := by
  unfold nth
  by_cases h : 0 ≤ j
  · rw [if_pos h]; rfl
  · rw [if_neg h]
theorem nth_zero (s : Stm) (r : List Stm) : nth (s :: r) 0 = some s := rfl
theorem nth_succ (s : Stm) (r : List Stm) (j : Int) (h : j ≠ 0) : nth (s :: r) j = nth r (j - 1) := by
  unfold nth
  by_cases h0 : 0 ≤ j
  · rw [if_pos h0, if_pos (by omega)]
    have e : j.toNat = (j - 1).toNat + 1 := by omega
    rw [e, List.getElem?_cons_succ]
  · rw [if_neg h0, if_neg (by omega)]
mutual
theorem walk_lk : ∀ (s : Stm) (p q : Pl), lk (s.walk p) (p ++ q) = sub s q
  | .one w, p, [] => by rw [Stm.walk, lk, if_pos (by simp), sub]
  | .one w, p, a :: q => by
    rw [Stm.walk, lk, if_neg (fun e => by have := congrArg List.length e; simp at this), lk]
    cases q <;> rfl
  | .nam b n, p, [] => by rw [Stm.walk, lk, if_pos (by simp), sub]
  | .nam b n, p, a :: q => by
    rw [Stm.walk, lk, if_neg (fun e => by have := congrArg List.length e; simp at this), lk]
    cases q <;> rfl
  | .ch y n, p, [] => by rw [Stm.walk, lk, if_pos (by simp), sub]
  | .ch y n, p, [a] => by
    rw [Stm.walk, lk, if_neg (fun e => by have := congrArg List.length e; simp at this), lk_app, walkAll_none, walkAll_none]
    · rfl
    · intro j q e; have := congrArg List.length e; simp at this
    · intro j q e; have := congrArg List.length e; simp at this
  | .ch y n, p, a :: j :: q => by
    rw [Stm.walk, lk, if_neg (fun e => by have := congrArg List.length e; simp at this), lk_app, sub]
    by_cases h0 : a = 0
    · subst h0
      rw [if_pos rfl]
      have e : p ++ (0 : Int) :: j :: q = (p ++ [0]) ++ j :: q := by simp
      have z : lk (walkAll n (p ++ [1]) 0) (p ++ (0 : Int) :: j :: q) = none := walkAll_none n (p ++ [1]) 0 _ (fun j' q' => pre_ne (by decide) _)
      rw [z, e, walkAll_lk y (p ++ [0]) 0 j q]
      simp
    · rw [if_neg h0]
      have z : lk (walkAll y (p ++ [0]) 0) (p ++ a :: j :: q) = none := walkAll_none y (p ++ [0]) 0 _ (fun j' q' => pre_ne h0 _)
      rw [z]
      by_cases h1 : a = 1
      · subst h1
        rw [if_pos rfl]
        have e : p ++ (1 : Int) :: j :: q = (p ++ [1]) ++ j :: q := by simp
        rw [e, walkAll_lk n (p ++ [1]) 0 j q]
        simp
      · rw [if_neg h1]
        have z2 : lk (walkAll n (p ++ [1]) 0) (p ++ a :: j :: q) = none := walkAll_none n (p ++ [1]) 0 _ (fun j' q' => pre_ne h1 _)
        rw [z2]; rfl
theorem walkAll_lk : ∀ (B : List Stm) (p : Pl) (i : Nat) (j : Int) (q : Pl), lk (walkAll B p i) (p ++ j :: q) = (nth B (j - i)).bind fun s => sub s q
  | [], p, i, j, q => by rw [walkAll, lk, nth_nil]; rfl
  | s :: r, p, i, j, q => by
    rw [walkAll, lk_app]
    by_cases h : j = i
    · subst h
      have e : p ++ (i : Int) :: q = (p ++ [(i : Int)]) ++ q := by simp
      have z : lk (walkAll r p (i + 1)) (p ++ (i : Int) :: q) = none ∨ True := .inr trivial
      rw [e, walk_lk s (p ++ [(i : Int)]) q, ← e, walkAll_lk r p (i + 1) i q]
      have e1 : nth (s :: r) ((i : Int) - i) = some s := by rw [Int.sub_self]; rfl
      have e2 : nth r ((i : Int) - ((i + 1 : Nat) : Int)) = none := by unfold nth; rw [if_neg (by omega)]
      rw [e1, e2]
      simp
    · have z : lk (s.walk (p ++ [(i : Int)])) (p ++ j :: q) = none := walk_none s _ _ (fun q' => pre_ne h _)
      rw [z, walkAll_lk r p (i + 1) j q, nth_succ s r (j - i) (by omega)]
      have e : j - ((i + 1 : Nat) : Int) = j - i - 1 := by omega
      rw [e]; rfl
end
theorem look_lk (S : List Stm) : ∀ p : Pl, lk (walkAll S [] 0) p = look S p
  | [] => walkAll_none S [] 0 [] (fun j q e => by cases e)
  | j :: q => by
    have := walkAll_lk S [] 0 j q
    simpa [look] using this
mutual
theorem walk_len : ∀ (s : Stm) (p : Pl), (s.walk p).length = s.cnt
  | .one w, p => by rw [Stm.walk, Stm.cnt]; rfl
  | .nam b n, p => by rw [Stm.walk, Stm.cnt]; rfl
  | .ch y n, p => by
    rw [Stm.walk, Stm.cnt, List.length_cons, List.length_append, walkAll_len y, walkAll_len n]; omega
theorem walkAll_len : ∀ (B : List Stm) (p : Pl) (i : Nat), (walkAll B p i).length = cntAll B
  | [], p, i => by rw [walkAll, cntAll]; rfl
  | s :: r, p, i => by rw [walkAll, cntAll, List.length_append, walk_len s, walkAll_len r]
end
theorem walkAll_snoc : ∀ (B : List Stm) (s : Stm) (p : Pl) (i : Nat), walkAll (B ++ [s]) p i = walkAll B p i ++ s.walk (p ++ [((i + B.length : Nat) : Int)])
  | [], s, p, i => by
    show walkAll [s] p i = walkAll [] p i ++ _
    rw [walkAll, walkAll, walkAll]; simp
  | t :: r, s, p, i => by
    show walkAll (t :: (r ++ [s])) p i = _
    rw [walkAll, walkAll, walkAll_snoc r s p (i + 1), List.append_assoc]
    have e : i + 1 + r.length = i + (t :: r).length := by rw [List.length_cons]; omega
    rw [e]
/-! ## the found statements as a dict -/
def key (p : Pl) : List Key := p.map Sum.inl
theorem key_kV (p : Pl) : (key p).map kV = p.map V.int := by
  unfold key; rw [List.map_map]; rfl
theorem key_inj : ∀ {p q : Pl}, key p = key q → p = q
  | [], [], _ => rfl
  | [], _ :: _, h => by cases h
  | _ :: _, [], h => by cases h
  | a :: p, b :: q, h => by
    have h' : Sum.inl a :: key p = Sum.inl b :: key q := h
    injection h' with h1 h2
    injection h1 with h1
    rw [h1, key_inj h2]
def FRel (H : Hp) : List (List Key × V) → List (Pl × Stm) → Prop
  | [], [] => True
  | (k, v) :: r, (p, s) :: r' => k = key p ∧ s.at H v ∧ FRel H r r'
  | _, _ => False
theorem FRel.len {H : Hp} : ∀ {a : List (List Key × V)} {b : List (Pl × Stm)}, FRel H a b → a.length = b.length
  | [], [], _ => rfl
  | _ :: _, _ :: _, h => by rw [List.length_cons, List.length_cons, FRel.len h.2.2]
  | [], _ :: _, h => h.elim
  | _ :: _, [], h => h.elim
theorem FRel.keep {H H' : Hp} (k : TK H H') : ∀ {a : List (List Key × V)} {b : List (Pl × Stm)}, FRel H a b → FRel H' a b
  | [], [], _ => trivial
  | _ :: _, _ :: _, h => ⟨h.1, Stm.at_keep k _ _ h.2.1, FRel.keep k h.2.2⟩
  | [], _ :: _, h => h.elim
  | _ :: _, [], h => h.elim
theorem FRel.snoc {H : Hp} {p : Pl} {v : V} {s : Stm} (hs : s.at H v) : ∀ {a : List (List Key × V)} {b : List (Pl × Stm)}, FRel H a b → FRel H (a ++ [(key p, v)]) (b ++ [(p, s)])
  | [], [], _ => ⟨rfl, hs, trivial⟩
  | _ :: _, _ :: _, h => ⟨h.1, h.2.1, FRel.snoc hs h.2.2⟩
  | [], _ :: _, h => h.elim
  | _ :: _, [], h => h.elim
theorem FRel.val {H : Hp} (p : Pl) : ∀ {a : List (List Key × V)} {b : List (Pl × Stm)}, FRel H a b → (lk b p = none → valV a (key p) = none) ∧ (∀ s, lk b p = some s → ∃ v, valV a (key p) = some v ∧ s.at H v)
  | [], [], _ => ⟨fun _ => rfl, fun s e => by cases e⟩
  | (k, v) :: r, (q, s) :: r', h => by
    obtain ⟨rfl, h1, h2⟩ := h
    by_cases e : q = p
    · subst e
      rw [lk, if_pos rfl, valV_pos (p := (key q, v)) rfl]
      exact ⟨(fun z => nomatch z), fun t z => ⟨v, rfl, Option.some.inj z ▸ h1⟩⟩
    · rw [lk, if_neg e, valV_neg (p := (key q, v)) (fun z => e (key_inj z))]
      exact FRel.val p h2
  | [], _ :: _, h => h.elim
  | _ :: _, [], h => h.elim
end Tk
namespace Tk
open PySem L2
def br (a : Int) (y n : List Stm) : List Stm := if a = 0 then y else n
/-- R is what follows the statement at p, to the end of the script -/
inductive After : List Stm → Pl → List Stm → Prop
  | here (B : List Stm) (i : Nat) : i < B.length → After B [(i : Int)] (B.drop (i + 1))
  | inn (B : List Stm) (i : Nat) (a : Int) (y n : List Stm) (q : Pl) (R : List Stm) : B[i]? = some (.ch y n) → (a = 0 ∨ a = 1) → After (br a y n) q R → After B ((i : Int) :: a :: q) (R ++ B.drop (i + 1))
theorem nth_nat (B : List Stm) (i : Nat) : nth B (i : Int) = B[i]? := by
  unfold nth
  rw [if_pos (by omega), Int.toNat_natCast]
theorem After.ne {B : List Stm} {p : Pl} {R : List Stm} (h : After B p R) : p ≠ [] := by cases h <;> simp
theorem look_in {B : List Stm} {i : Nat} {a : Int} {y n : List Stm} {q : Pl} (h : B[i]? = some (.ch y n)) (ha : a = 0 ∨ a = 1) (hq : q ≠ []) : look B ((i : Int) :: a :: q) = look (br a y n) q := by
  cases q with
  | nil => exact absurd rfl hq
  | cons j r =>
    rw [look, nth_nat, h]
    show sub (.ch y n) (a :: j :: r) = _
    rw [sub, look]
    rcases ha with rfl | rfl
    · rw [if_pos rfl]; rfl
    · rw [if_neg (by decide), if_pos rfl]; rfl
theorem look_one (B : List Stm) (i : Nat) : look B [(i : Int)] = B[i]? := by
  rw [look, nth_nat]
  cases B[i]? <;> rfl
theorem After.step {S : List Stm} {p : Pl} {R : List Stm} (h : After S p R) : ∃ q j, p = q ++ [j] ∧
    ((∃ s R', look S (q ++ [j + 1]) = some s ∧ R = s :: R' ∧ After S (q ++ [j + 1]) R') ∨
     (look S (q ++ [j + 1]) = none ∧ ((q = [] ∧ R = []) ∨ ∃ q' a, q = q' ++ [a] ∧ q' ≠ [] ∧ After S q' R))) := by
  induction h with
  | here B i hi =>
    refine ⟨[], (i : Int), rfl, ?_⟩
    have e : ([] : Pl) ++ [(i : Int) + 1] = [((i + 1 : Nat) : Int)] := by simp
    rw [e, look_one]
    cases g : B[i + 1]? with
    | none =>
      refine .inr ⟨rfl, .inl ⟨rfl, ?_⟩⟩
      rw [List.drop_eq_nil_of_le]
      exact List.getElem?_eq_none_iff.mp g
    | some s =>
      obtain ⟨lt, e1⟩ := List.getElem?_eq_some_iff.mp g
      exact .inl ⟨s, B.drop (i + 1 + 1), rfl, by rw [List.drop_eq_getElem_cons lt, e1], .here B (i + 1) lt⟩
  | inn B i a y n q R hb ha hq ih =>
    obtain ⟨q0, j, e, ih⟩ := ih
    refine ⟨(i : Int) :: a :: q0, j, by rw [e]; rfl, ?_⟩
    have le : look B (((i : Int) :: a :: q0) ++ [j + 1]) = look (br a y n) (q0 ++ [j + 1]) := look_in hb ha (by simp)
    rw [le]
    rcases ih with ⟨s, R', l, eR, af⟩ | ⟨l, ⟨rfl, eR⟩ | ⟨q', a', eq, nq, af⟩⟩
    · exact .inl ⟨s, R' ++ B.drop (i + 1), l, by rw [eR]; rfl, .inn B i a y n _ R' hb ha af⟩
    · refine .inr ⟨l, .inr ⟨[(i : Int)], a, rfl, by simp, ?_⟩⟩
      rw [eR]
      exact .here B i (List.getElem?_eq_some_iff.mp hb).1
    · refine .inr ⟨l, .inr ⟨(i : Int) :: a :: q', a', by rw [eq]; rfl, by simp, ?_⟩⟩
      exact .inn B i a y n q' R hb ha af
theorem After.down {S : List Stm} {p : Pl} {R : List Stm} {y n : List Stm} {a : Int} (h : After S p R) (ha : a = 0 ∨ a = 1) (hn : br a y n ≠ []) :
    look S p = some (.ch y n) → look S (p ++ [a, 0]) = (br a y n)[0]? ∧ After S (p ++ [a, 0]) ((br a y n).drop 1 ++ R) := by
  have first : After (br a y n) [((0 : Nat) : Int)] ((br a y n).drop (0 + 1)) := .here _ 0 (List.length_pos_iff.mpr hn)
  induction h with
  | here B i hi =>
    intro l
    rw [look_one] at l
    refine ⟨?_, .inn B i a y n [0] _ l ha first⟩
    show look B ((i : Int) :: a :: [((0 : Nat) : Int)]) = _
    rw [look_in l ha (by simp), look_one]
  | inn B i a' y' n' q R hb ha' hq ih =>
    intro l
    rw [look_in hb ha' hq.ne] at l
    obtain ⟨l1, af⟩ := ih l
    refine ⟨?_, ?_⟩
    · show look B ((i : Int) :: a' :: (q ++ [a, 0])) = _
      rw [look_in hb ha' (by simp)]
      exact l1
    · rw [← List.append_assoc]
      exact .inn B i a' y' n' _ _ hb ha' af
theorem After.first {S : List Stm} (h : S ≠ []) : look S [0] = S[0]? ∧ After S [0] (S.drop 1) :=
  ⟨look_one S 0, .here S 0 (List.length_pos_iff.mpr h)⟩
theorem okAll_get : ∀ {d : Nat} {B : List Stm} {h : Int} {i : Nat} {s : Stm}, okAll d B h → B[i]? = some s → ∃ h', s.ok d h'
  | d, [], h, i, s, _, e => by simp at e
  | d, t :: r, h, 0, s, g, e => by
    rw [okAll] at g
    have e' : t = s := Option.some.inj e
    exact ⟨h, e' ▸ g.1⟩
  | d, t :: r, h, i + 1, s, g, e => by
    rw [okAll] at g
    exact okAll_get g.2 (i := i) (s := s) e
theorem After.len {S : List Stm} {p : Pl} {R : List Stm} (h : After S p R) : ∀ (d : Nat) (k : Int), okAll d S k → d ≤ 2 → p.length + 2 * d ≤ 5 := by
  induction h with
  | here B i hi => intro d k _ hd; show 1 + 2 * d ≤ 5; omega
  | inn B i a y n q R hb ha hq ih =>
    intro d k g hd
    obtain ⟨h', o⟩ := okAll_get g hb
    rw [Stm.ok] at o
    have z : q.length + 2 * (d + 1) ≤ 5 := by
      rcases ha with rfl | rfl
      · exact ih (d + 1) h' o.2.1 (by omega)
      · exact ih (d + 1) h' o.2.2 (by omega)
    show q.length + 1 + 1 + 2 * d ≤ 5
    omega
/-! ## greater places -/
def Gt (x y : Pl) : Prop := (∃ q i j r s, x = q ++ i :: r ∧ y = q ++ j :: s ∧ j < i) ∨ ∃ c, x = y ++ c ∧ c ≠ []
theorem lexAt_at (e r : Nat → Bool) (z : Bool) (m : Nat) : ∀ (k i : Nat), i ≤ m → m < i + k → (∀ j, i ≤ j → j < m → e j = true) → e m = false → Ob.lexAt e r z i k = r m
  | 0, i, h1, h2, _, _ => by omega
  | k + 1, i, h1, h2, g, b => by
    rw [Ob.lexAt_succ]
    by_cases c : i = m
    · subst c
      rw [b]; rfl
    · rw [g i (Nat.le_refl i) (by omega), if_pos rfl]
      exact lexAt_at e r z m k (i + 1) (by omega) (by omega) (fun j a b => g j (by omega) b) b
theorem lexAt_all (e r : Nat → Bool) (z : Bool) : ∀ (k i : Nat), (∀ j, i ≤ j → j < i + k → e j = true) → Ob.lexAt e r z i k = z
  | 0, i, _ => rfl
  | k + 1, i, g => by
    rw [Ob.lexAt_succ, g i (Nat.le_refl i) (by omega), if_pos rfl]
    exact lexAt_all e r z k (i + 1) (fun j a b => g j (by omega) (by omega))
theorem gt_not_le {x y : Pl} (h : Gt x y) : Ob.lexAt (fun j => decide (x.getD j 0 = y.getD j 0)) (fun j => decide (x.getD j 0 ≤ y.getD j 0)) (decide (x.length ≤ y.length)) 0 (min x.length y.length) = false := by
  rcases h with ⟨q, i, j, r, s, rfl, rfl, lt⟩ | ⟨c, rfl, hc⟩
  · have g1 : ∀ (t : Int) (u : Pl) (k : Nat), k < q.length → (q ++ t :: u).getD k 0 = q.getD k 0 := fun t u k hk => by
      rw [List.getD_eq_getElem?_getD, List.getD_eq_getElem?_getD, List.getElem?_append_left hk]
    have g2 : ∀ (t : Int) (u : Pl), (q ++ t :: u).getD q.length 0 = t := fun t u => by
      rw [List.getD_eq_getElem?_getD, List.getElem?_append_right (Nat.le_refl _), Nat.sub_self]; rfl
    rw [lexAt_at _ _ _ q.length]
    · show decide ((q ++ i :: r).getD q.length 0 ≤ (q ++ j :: s).getD q.length 0) = false
      rw [g2, g2]; exact decide_eq_false (by omega)
    · exact Nat.zero_le _
    · rw [List.length_append, List.length_append, List.length_cons, List.length_cons]; omega
    · intro k _ hk
      show decide ((q ++ i :: r).getD k 0 = (q ++ j :: s).getD k 0) = true
      rw [g1 _ _ k hk, g1 _ _ k hk]; exact decide_eq_true rfl
    · show decide ((q ++ i :: r).getD q.length 0 = (q ++ j :: s).getD q.length 0) = false
      rw [g2, g2]; exact decide_eq_false (by omega)
  · have hl : 0 < c.length := List.length_pos_iff.mpr hc
    rw [lexAt_all]
    · rw [List.length_append]; exact decide_eq_false (by omega)
    · intro k _ hk
      rw [List.length_append] at hk
      have hk' : k < y.length := by omega
      show decide ((y ++ c).getD k 0 = y.getD k 0) = true
      rw [List.getD_eq_getElem?_getD, List.getD_eq_getElem?_getD, List.getElem?_append_left hk']
      exact decide_eq_true rfl
end Tk
set_option maxRecDepth 100000
namespace Tk
open PySem L2
def top (i : Nat) : Stmt := PySem.Challenge.pw_takenahead_k04_whole_script_walks.main.body.getD i (.Pass ⟨0, 0, 0, 0⟩)
abbrev sPool : Stmt := top 22
abbrev sDraw : Stmt := top 23
abbrev sNames : Stmt := top 24
abbrev sSimple : Stmt := top 25
abbrev sBranch : Stmt := top 26
abbrev sLaw : Stmt := top 27
/-- the built-in names that the program reads -/
structure Bl (mg : Str → Option Value) : Prop where
  len : mg "len" = none
  int : mg "int" = none
  max : mg "max" = none
  range : mg "range" = none
  tuple : mg "tuple" = none
def spPool (K : PySem.W.Frag) : Sp := fun vs H Q _ => ∃ (a : Addr) (ns : List Int) (k : Int), vs = [.ref a, .int k] ∧ SqL K H a (ns.map V.int) ∧ 0 ≤ k ∧
  ∀ (p : Addr) (H' : Hp), H p = none → Same H H' → PoolAt H' p → Q (.ref p) H'
def spDraw : Sp := fun vs H Q _ => ∃ (p : Addr) (n : Int), vs = [.ref p, .int n] ∧ PoolAt H p ∧ 0 < n ∧ n < 1073741824 ∧
  ∀ (r : Int) (H' : Hp), 0 ≤ r → r < n → Kp p H H' → PoolAt H' p → Q (.int r) H'
section
variable {P : Program} {w : World} {K : PySem.W.Frag} {mg : Str → Option Value} {base : Heap}
theorem scPool : FnScope ["_law_script", "_law_k", "_law_cell"] ["_law_script", "_law_k"] (defScope sPool) := ⟨rfl, rfl, rfl, by decide +kernel, rfl, by decide +kernel, by decide +kernel⟩
theorem ok_pool {f : Addr} {fd : FuncData} (F : Fun K "_law_pool" "_law_pool" sPool f fd) (B : Bl mg) : FnOk P w K mg base CX0 1 f fd ["_law_script", "_law_k"] (spPool K) := by
  refine F.ok scPool (fun vs H Q E h => ?_) (fun cdv A outer s H vs Q E hr h => ?_)
  · obtain ⟨a, ns, k, rfl, _⟩ := h
    rfl
  obtain ⟨a, ns, k, rfl, hS, h0, q⟩ := h
  refine ⟨_, pss_cons (ps_set (i := 2) scPool.nd rfl (Or.inl rfl) (pe_op op_add (pv 1) pe_int))
    (pss_cons (ps_if (pt_cmpR op_lt (pv 1) (pe_callB call_len_seq (by rfl) B.len PySem.boot_len (pa_cons (pv 0) pa_nil)) (nomark _))
      (pss_one (ps_set (i := 2) scPool.nd rfl (Or.inl rfl) (pe_callTy call_int1 (by rfl) B.int (by decide +kernel) (pa_cons (pe_ix ix_list (pv 0) (pv 1) (fun _ _ => rfl)) pa_nil)))) pss_nil)
    (pss_one (ps_ret (pe_lst (pa_cons (pe_callB (call_max2 rfl) (by rfl) B.max (by decide +kernel) (pa_cons pe_int (pa_cons (pe_op op_sub (pv 2) (pe_op op_pow pe_int pe_int)) pa_nil)))
      (pa_cons (pe_op op_modN (pe_callTy call_int1 (by rfl) B.int (by decide +kernel) (pa_cons (pv 2) pa_nil)) pe_int) (pa_cons pe_int pa_nil))))))), ?_⟩
  have fin : ∀ c : Int, ((fun (c : Int) => ∀ (l : Addr), H l = none → Q (.ref l) (L2.upd H l (.lst [.int (if c - 10 ^ (18 : Int).toNat > 0 then c - 10 ^ (18 : Int).toNat else 0), .int (c.fmod 2147483647), .int 0]))) c) := by
    intro c l hl
    exact q l _ hl (same_new hl _) ⟨_, _, _, upd_same⟩
  refine ⟨_, rfl, _, _, rfl, rfl, ?_⟩
  refine ⟨_, rfl, _, rfl, a, _, rfl, .inl hS, _, _, rfl, rfl, _, rfl, ?_⟩
  have tail : ∀ c : Int, _ := fun c => fin c
  refine ite2 (fun c => ?_) (fun c => ?_)
  · have c' : k < (((ns.map V.int).length : Nat) : Int) := of_decide_eq_true c
    rw [List.length_map] at c'
    have hk : k.toNat < ns.length := by omega
    have ek : k = ((k.toNat : Nat) : Int) := by omega
    have q1 : atI (ns.map V.int) ((k.toNat : Nat) : Int) = some (.int ns[k.toNat]) := atI_nat (by rw [List.getElem?_map, List.getElem?_eq_getElem hk] <;> rfl)
    rw [← ek] at q1
    refine ⟨_, rfl, _, rfl, a, _, _, _, rfl, rfl, hS, q1, .inl ⟨_, rfl, ?_⟩⟩
    refine ⟨_, rfl, _, _, rfl, rfl, ⟨by decide, by decide, by decide⟩, _, _, rfl, rfl, _, _, rfl, _, rfl, .inl ⟨_, rfl, _, _, rfl, rfl, (by show (2147483647:Int) ≠ 0; decide), ?_⟩⟩
    exact ⟨by show 3 ≤ sizeLine; decide, fun l hl => fin _ l hl⟩
  · refine ⟨_, rfl, _, _, rfl, rfl, ⟨by decide, by decide, by decide⟩, _, _, rfl, rfl, _, _, rfl, _, rfl, .inl ⟨_, rfl, _, _, rfl, rfl, (by show (2147483647:Int) ≠ 0; decide), ?_⟩⟩
    exact ⟨by show 3 ≤ sizeLine; decide, fun l hl => fin _ l hl⟩
theorem scDraw : FnScope ["_law_pool_here", "_law_amount", "_law_digit", "_law_number"] ["_law_pool_here", "_law_amount"] (defScope sDraw) := ⟨rfl, rfl, rfl, by decide +kernel, rfl, by decide +kernel, by decide +kernel⟩
theorem ok_draw {f : Addr} {fd : FuncData} (F : Fun K "_law_draw" "_law_draw" sDraw f fd) (B : Bl mg) : FnOk P w K mg base CX0 1 f fd ["_law_pool_here", "_law_amount"] spDraw := by
  refine F.ok scDraw (fun vs H Q E h => ?_) (fun cdv A outer s H vs Q E hr h => ?_)
  · obtain ⟨p, n, rfl, _⟩ := h
    rfl
  obtain ⟨p, n, rfl, ⟨a, b, c0, hp⟩, n0, n1, q⟩ := h
  refine ⟨_, pss_cons (ps_if (pt_cmpR op_gt (pe_ix ix_list (pv 0) pe_int (fun _ _ => rfl)) pe_int (nomark _))
      (pss_cons (ps_set (i := 2) scDraw.nd rfl (Or.inl rfl) (pe_op op_modN (pe_callTy call_int1 (by rfl) B.int (by decide +kernel) (pa_cons (pe_ix ix_list (pv 0) pe_int (fun _ _ => rfl)) pa_nil)) (pv 1)))
      (pss_cons (ps_asg (pe_op op_fdivN (pe_ix ix_list (pv 0) pe_int (fun _ _ => rfl)) (pv 1)) (pg_sub (pv 0) pe_int set_list))
      (pss_one (ps_ret (pv 2))))) pss_nil)
    (pss_cons (ps_asg (pe_op op_add (pe_ix ix_list (pv 0) pe_int (fun _ _ => rfl)) pe_int) (pg_sub (pv 0) pe_int set_list))
    (pss_cons (ps_set (i := 3) scDraw.nd rfl (Or.inl rfl) (pe_op op_modN (pe_callTy call_int1 (by rfl) B.int (by decide +kernel) (pa_cons
        (pe_op op_mul (pe_op op_add (pe_op op_add (pe_ix ix_list (pv 0) pe_int (fun _ _ => rfl)) (pe_op op_mul pe_int (pe_ix ix_list (pv 0) pe_int (fun _ _ => rfl)))) pe_int) pe_int) pa_nil)) pe_int))
    (pss_cons (ps_set (i := 3) scDraw.nd rfl (Or.inl rfl) (pe_op op_modN (pe_callTy call_int1 (by rfl) B.int (by decide +kernel) (pa_cons
        (pe_op op_mul (pv 3) (pe_op op_add (pe_op op_fdivN (pv 3) pe_int) pe_int)) pa_nil)) pe_int))
    (pss_cons (ps_set (i := 3) scDraw.nd rfl (Or.inl rfl) (pe_op op_modN (pe_callTy call_int1 (by rfl) B.int (by decide +kernel) (pa_cons
        (pe_op op_mul (pv 3) (pe_op op_add (pe_op op_fdivN (pv 3) pe_int) pe_int)) pa_nil)) pe_int))
    (pss_one (ps_ret (pe_op op_modN (pe_callTy call_int1 (by rfl) B.int (by decide +kernel) (pa_cons (pv 3) pa_nil)) (pv 1)))))))), ?_⟩
  refine ⟨_, rfl, p, _, _, _, rfl, rfl, SqL.of hp, rfl, _, _, rfl, rfl, _, rfl, ?_⟩
  refine ite2 (fun c => ?_) (fun c => ?_)
  · refine ⟨_, rfl, p, _, _, _, rfl, rfl, SqL.of hp, rfl, .inl ⟨_, rfl, _, rfl, _, _, rfl, rfl, by omega, ?_⟩⟩
    refine ⟨_, rfl, p, _, _, _, rfl, rfl, SqL.of hp, rfl, _, rfl, _, _, rfl, rfl, ⟨by omega, by omega⟩, _, rfl, p, _, _, _, rfl, rfl, hp, rfl, ?_⟩
    exact ⟨_, rfl, q _ _ (fmod_ok n0).1 (fmod_ok n0).2 Kp.upd ⟨_, _, _, upd_same⟩⟩
  · refine ⟨_, rfl, p, _, _, _, rfl, rfl, SqL.of hp, rfl, _, _, rfl, rfl, _, rfl, p, _, _, _, rfl, rfl, hp, rfl, ?_⟩
    refine ⟨_, rfl, p, _, _, _, rfl, rfl, SqL.of upd_same, rfl, _, rfl, p, _, _, _, rfl, rfl, SqL.of upd_same, rfl, _, _, rfl, rfl, .inl ⟨by decide, by decide⟩, _, _, rfl, rfl, _, _, rfl, rfl,
      _, _, rfl, rfl, .inr ⟨by decide, by decide⟩, .inl ⟨_, rfl, _, _, rfl, rfl, (by show (2147483647:Int) ≠ 0; decide), ?_⟩⟩
    have r1 := fmod_ok (a := (b + 7919 * (c0 + 1) + 1) * 48271) (n := 2147483647) (by decide)
    refine ⟨_, rfl, _, rfl, _, _, rfl, rfl, ⟨by decide, by decide⟩, _, _, rfl, rfl, _, _, rfl, rfl, .inl ⟨by omega, by omega⟩, .inl ⟨_, rfl, _, _, rfl, rfl, (by show (2147483647:Int) ≠ 0; decide), ?_⟩⟩
    have r2 := fmod_ok (a := (((b + 7919 * (c0 + 1) + 1) * 48271).fmod 2147483647) * ((((b + 7919 * (c0 + 1) + 1) * 48271).fmod 2147483647).fdiv 1009 + 69621)) (n := 2147483647) (by decide)
    refine ⟨_, rfl, _, rfl, _, _, rfl, rfl, ⟨by decide, by decide⟩, _, _, rfl, rfl, _, _, rfl, rfl, .inl ⟨by omega, by omega⟩, .inl ⟨_, rfl, _, _, rfl, rfl, (by show (2147483399:Int) ≠ 0; decide), ?_⟩⟩
    refine ⟨_, rfl, .inl ⟨_, rfl, _, rfl, _, _, rfl, rfl, by omega, ?_⟩⟩
    exact q _ _ (fmod_ok n0).1 (fmod_ok n0).2 Kp.upd ⟨_, _, _, upd_same⟩
/-- a list of texts that are names -/
def spNames : Sp := fun vs H Q _ => ∃ p : Addr, vs = [.ref p] ∧ PoolAt H p ∧ ∀ (q : Addr) (H' : Hp), H q = none → Kp p H H' → PoolAt H' p → NamesAt H' q → Q (.ref q) H'
theorem scNames : FnScope ["_law_pool_here", "_law_letters", "_law_base", "_law_k", "_law_at", "_law_first", "_law_signs", "_law_sign"] ["_law_pool_here"] (defScope sNames) := ⟨rfl, rfl, rfl, by decide +kernel, rfl, by decide +kernel, by decide +kernel⟩
theorem ok_names {f fD : Addr} {fd fdD : FuncData} (F : Fun K "_law_names" "_law_names" sNames f fd) (B : Bl mg) (GD : FnOk P w K mg base CX0 1 fD fdD ["_law_pool_here", "_law_amount"] spDraw) (bD : Binds K fdD ["_law_pool_here", "_law_amount"] []) (kD : PySem.W.keepIn K (.ref fD) = true) (mD : mg "_law_draw" = some (.ref fD)) :
    FnOk P w K mg base CX0 2 f fd ["_law_pool_here"] spNames := by
  refine F.ok scNames (fun vs H Q E h => ?_) (fun cdv A outer s H vs Q E hr h => ?_)
  · obtain ⟨p, rfl, _⟩ := h
    rfl
  obtain ⟨p, rfl, hp, q⟩ := h
  refine ⟨_, pss_cons (ps_set (i := 1) scNames.nd rfl (Or.inr rfl) pe_str)
    (pss_cons (ps_set (i := 2) scNames.nd rfl (Or.inr rfl) pe_str)
    (pss_cons (ps_for PassesOwn.never rfl (pi_range1 rfl B.range (pa_cons (pe_call GD hr rfl mD kD bD .nil pass0 (pa_cons (pv 0) (pa_cons pe_int pa_nil))) pa_nil)) (pg_name (i := 3) scNames.nd rfl (Or.inl rfl))
      (pss_one (ps_set (i := 2) scNames.nd rfl (Or.inr rfl) (pe_op op_add_str (pv 2) (pe_ix ix_str (pv 1) (pe_call GD hr rfl mD kD bD .nil pass0 (pa_cons (pv 0) (pa_cons pe_int pa_nil))) (fun _ _ => rfl))))))
    (pss_cons (ps_set (i := 4) scNames.nd rfl (Or.inr rfl) (pe_call GD hr rfl mD kD bD .nil pass0 (pa_cons (pv 0) (pa_cons (pe_op op_add (pe_callB call_len_str (by rfl) B.len PySem.boot_len (pa_cons (pv 2) pa_nil)) pe_int) pa_nil))))
    (pss_cons (ps_set (i := 5) scNames.nd rfl (Or.inl rfl) (pe_call GD hr rfl mD kD bD .nil pass0 (pa_cons (pv 0) (pa_cons pe_int pa_nil))))
    (pss_cons (ps_set (i := 6) scNames.nd rfl (Or.inl rfl) (pe_lst (pa_cons (pv 5)
      (pa_cons (pe_op op_modN (pe_callTy call_int1 (by rfl) B.int (by decide +kernel) (pa_cons (pe_op op_add (pe_op op_add (pv 5) pe_int) (pe_call GD hr rfl mD kD bD .nil pass0 (pa_cons (pv 0) (pa_cons pe_int pa_nil)))) pa_nil)) pe_int)
      (pa_cons (pe_op op_modN (pe_callTy call_int1 (by rfl) B.int (by decide +kernel) (pa_cons (pe_op op_add (pe_op op_add (pv 5) pe_int) (pe_call GD hr rfl mD kD bD .nil pass0 (pa_cons (pv 0) (pa_cons pe_int pa_nil)))) pa_nil)) pe_int) pa_nil)))))
    (pss_one (ps_ret (pe_lc (own := [("_law_sign", 7)]) (g := gName 7) (tt := tYes) rfl scNames.nd (pi_list (pv 6)) (blkOk_by (own := [("_law_sign", 7)]) (N := ["_law_pool_here", "_law_letters", "_law_base", "_law_k", "_law_at", "_law_first", "_law_signs", "_law_sign"]) (sc := defScope sNames) (by decide +kernel))
      (fun _ _ _ _ _ => pg_name (i := 7) scNames.nd rfl (Or.inl rfl)) (fun _ _ _ _ _ => pts_nil)
      (fun _ _ _ _ _ => pe_op op_add_str (pe_op op_add_str (pe_slice sl_str (pv 2) po_none (po_some (pv 4))) (pe_ix ix_str (pv 1) (pv 7) (fun _ _ => rfl))) (pe_slice sl_str (pv 2) (po_some (pv 4)) po_none)))))))))), ?_⟩
  refine ⟨_, rfl, p, 8, rfl, hp, by decide, by decide, fun r H1 r0 r1 k1 hp1 => ⟨r, rfl, by omega, by omega, ?_⟩⟩
  refine for_range (lo := 0) (n := r.toNat) (fun i σ H2 => ∃ (b : Str) (v : Option V), σ = [some (.ref p), some (.str alpha), some (.str b), v, none, none, none, none] ∧ Low b ∧ b.length = i ∧ Kp p H H2 ∧ PoolAt H2 p) ⟨_, _, rfl, low_nil, rfl, k1, hp1⟩ ?_ ?_
  · rintro i σ H2 hi ⟨b, v, rfl, hb, hl, k2, hp2⟩
    refine ⟨_, rfl, _, rfl, _, rfl, p, 26, rfl, hp2, by decide, by decide, fun r2 H3 r20 r21 k3 hp3 => ?_⟩
    obtain ⟨c, hc, hc2⟩ := alpha_at r20 r21
    refine ⟨_, _, c, rfl, rfl, (by show 26 ≤ sizeLine; decide), hc, _, _, rfl, rfl, ?_, ?_⟩
    · show b.length + 1 ≤ sizeLine
      exact Nat.le_of_lt (small1000 (by omega))
    · refine ⟨_, _, rfl, low_app hb (low_one hc2), ?_, k2.trans k3, hp3⟩
      rw [len_app, len_one, hl]
  · rintro σ H2 ⟨b, v, rfl, hb, hl, k2, hp2⟩
    have hl7 : b.length ≤ 7 := by omega
    have hsz : b.length ≤ sizeLine := Nat.le_of_lt (small1000 (by omega))
    refine ⟨_, rfl, _, rfl, _, rfl, hsz, _, _, rfl, rfl, p, _, rfl, hp2, by omega, by omega, fun at_ H3 a0 a1 k3 hp3 => ?_⟩
    refine ⟨_, rfl, p, 26, rfl, hp3, by decide, by decide, fun f1 H4 f0 f1' k4 hp4 => ?_⟩
    refine ⟨_, rfl, _, rfl, _, _, rfl, rfl, _, rfl, p, 12, rfl, hp4, by decide, by decide, fun d1 H5 d0 d1' k5 hp5 => ?_⟩
    refine ⟨_, _, rfl, rfl, .inl ⟨_, rfl, _, _, rfl, rfl, (by show (26:Int) ≠ 0; decide), ?_⟩⟩
    refine ⟨_, rfl, _, _, rfl, rfl, _, rfl, p, 12, rfl, hp5, by decide, by decide, fun d2 H6 d20 d21 k6 hp6 => ?_⟩
    refine ⟨_, _, rfl, rfl, .inl ⟨_, rfl, _, _, rfl, rfl, (by show (26:Int) ≠ 0; decide), ?_⟩⟩
    refine ⟨(by show 3 ≤ sizeLine; decide), fun l hl0 => ?_⟩
    have s1 : ∀ n : Int, 0 ≤ n.fmod 26 ∧ n.fmod 26 < 26 := fun n => fmod_ok (by decide)
    have kAll : Kp p H H6 := ((((k2.trans k3).trans k4).trans k5).trans k6)
    have hpl : H6 p ≠ none := by obtain ⟨_, _, _, z⟩ := hp6; rw [z]; intro z'; cases z'
    have npl : p ≠ l := fun z => hpl (z ▸ hl0)
    refine ⟨_, rfl, l, rfl, ⟨_, SqL.of upd_same⟩, fun D hD => ?_⟩
    have nDl : l ≠ D := ne_of_none upd_same hD
    have hD6 : H6 D = none := by rw [upd_ne nDl.symm] at hD; exact hD
    have npD : p ≠ D := fun z => hpl (z ▸ hD6)
    have hD0 : H D = none := by
      cases e : H D with
      | none => rfl
      | some o =>
        have z := kAll D o e npD.symm
        rw [hD6] at z; cases z
    refine lc_list (K := K) (a := l) (xs := [.int f1, .int ((f1 + 1 + d1).fmod 26), .int ((f1 + 14 + d2).fmod 26)]) (fun i H7 => ∃ acc : List V, H7 D = some (.lst acc) ∧ acc.length = i ∧ (∀ v ∈ acc, ∃ z, v = V.str z ∧ IsName z) ∧
      H7 l = some (.lst [.int f1, .int ((f1 + 1 + d1).fmod 26), .int ((f1 + 14 + d2).fmod 26)]) ∧ Kp p H H7 ∧ PoolAt H7 p) ?_ ?_ ?_ ?_
    · refine ⟨[], upd_same, rfl, fun v hv => (nomatch hv), by rw [upd_ne nDl]; exact upd_same, (kAll.new hl0).new hD, ?_⟩
      obtain ⟨a, b', c, z⟩ := hp6
      exact ⟨a, b', c, by rw [upd_ne npD, upd_ne npl]; exact z⟩
    · rintro i H7 hi ⟨acc, h1, h2, h3, h4, h5, h6⟩
      exact SqL.of h4
    · rintro i x H7 hx ⟨acc, h1, h2, h3, h4, h5, h6⟩
      have hi3 : i < 3 := (List.getElem?_eq_some_iff.mp hx).1
      obtain ⟨n, rfl, n0, n1⟩ : ∃ n, x = V.int n ∧ 0 ≤ n ∧ n < 26 := by
        have hm := List.mem_of_getElem? hx
        simp only [List.mem_cons, List.not_mem_nil, or_false] at hm
        rcases hm with e | e | e
        · exact ⟨_, e, f0, f1'⟩
        · exact ⟨_, e, s1 _⟩
        · exact ⟨_, e, s1 _⟩
      obtain ⟨c, hc, hc2⟩ := alpha_at n0 n1
      have hnm := isName_mk (k := at_) hb hl7 hc2 a0 (by omega)
      refine ⟨rfl, ?_⟩
      unfold tYes
      dsimp only
      rw [if_pos rfl]
      refine ⟨_, rfl, _, rfl, _, rfl, _, rfl, hsz, _, rfl, _, rfl, _, _, c, rfl, rfl, (by show 26 ≤ sizeLine; decide), hc, _, _, rfl, rfl, ?_, ?_⟩
      · have z := hnm.2.1
        rw [len_app, len_app] at z
        exact Nat.le_of_lt (small1000 (by omega))
      refine ⟨_, rfl, _, rfl, _, rfl, _, rfl, hsz, _, _, rfl, rfl, ?_, acc, h1, ?_, ?_⟩
      · have z := hnm.2.1
        rw [len_app] at z
        exact Nat.le_of_lt (small1000 (by omega))
      · rw [h2]; exact small1000 (by omega)
      · refine ⟨_, upd_same, by rw [List.length_append, h2]; rfl, fun v hv => ?_, by rw [upd_ne nDl]; exact h4, ?_, ?_⟩
        · rcases List.mem_append.mp hv with z | z
          · exact h3 v z
          · have e : v = _ := List.mem_singleton.mp z
            exact ⟨_, e, hnm⟩
        · intro b' o e hne
          rw [upd_ne (ne_of_none e hD0)]
          exact h5 b' o e hne
        · obtain ⟨a, b', c', z⟩ := h6
          exact ⟨a, b', c', by rw [upd_ne npD]; exact z⟩
    · rintro H7 ⟨acc, h1, h2, h3, h4, h5, h6⟩
      refine q D H7 hD0 h5 h6 ?_
      match acc, h2, h3 with
      | [u, v, t], _, h3 =>
        obtain ⟨x, rfl, hx⟩ := h3 u (by simp)
        obtain ⟨y, rfl, hy⟩ := h3 v (by simp)
        obtain ⟨z, rfl, hz⟩ := h3 t (by simp)
        exact ⟨x, y, z, h1, hx, hy, hz⟩
def spSimple : Sp := fun vs H Q _ => ∃ (p b q : Addr) (k h : Int), vs = [.ref p, .ref b, .ref q] ∧ Dr H p b q k h ∧ 0 ≤ h ∧ h ≤ 3 ∧
  ∀ (v : V) (H' : Hp) (s : Stm), s.cnt = 1 → (∀ d, s.ok d h) → s.at H' v → 0 ≤ s.held h → s.held h ≤ 3 → Dr H' p b q k (s.held h) → K2 p b H H' → Q v H'
theorem scSimple : FnScope ["_law_pool_here", "_law_box", "_law_names_here", "_law_pick"] ["_law_pool_here", "_law_box", "_law_names_here"] (defScope sSimple) := ⟨rfl, rfl, rfl, by decide +kernel, rfl, by decide +kernel, by decide +kernel⟩
theorem ok_simple {f fD : Addr} {fd fdD : FuncData} (F : Fun K "_law_simple" "_law_simple" sSimple f fd) (B : Bl mg) (GD : FnOk P w K mg base CX0 1 fD fdD ["_law_pool_here", "_law_amount"] spDraw) (bD : Binds K fdD ["_law_pool_here", "_law_amount"] []) (kD : PySem.W.keepIn K (.ref fD) = true) (mD : mg "_law_draw" = some (.ref fD)) :
    FnOk P w K mg base CX0 2 f fd ["_law_pool_here", "_law_box", "_law_names_here"] spSimple := by
  refine F.ok scSimple (fun vs H Q E h => ?_) (fun cdv A outer s H vs Q E hr h => ?_)
  · obtain ⟨p, b, q, k, h, rfl, _⟩ := h
    rfl
  obtain ⟨p, b, q, k, h, rfl, D, h0, h3, z⟩ := h
  refine ⟨_, pss_cons (ps_set (i := 3) scSimple.nd rfl (Or.inl rfl) (pe_call GD hr rfl mD kD bD .nil pass0 (pa_cons (pv 0) (pa_cons pe_int pa_nil))))
    (pss_cons (ps_if (PW.pt (pw_and (pt_cmpR op_lt (pv 3) pe_int (nomark _)) (pw_and1 (pt_cmpR op_lt (pe_ix ix_list (pv 1) pe_int (fun _ _ => rfl)) (pe_ix ix_list (pv 1) pe_int (fun _ _ => rfl)) (nomark _)))))
      (pss_cons (ps_asg (pe_op op_add (pe_ix ix_list (pv 1) pe_int (fun _ _ => rfl)) pe_int) (pg_sub (pv 1) pe_int set_list)) (pss_one (ps_ret (pe_tup (pa_cons pe_str pa_nil))))) pss_nil)
    (pss_cons (ps_if (pt_cmpR op_eq (pv 3) pe_int (nomark _)) (pss_one (ps_ret (pe_tup (pa_cons pe_str (pa_cons (pe_ix ix_list (pv 2) (pe_call GD hr rfl mD kD bD .nil pass0 (pa_cons (pv 0) (pa_cons pe_int pa_nil))) (fun _ _ => rfl)) pa_nil))))) pss_nil)
    (pss_cons (ps_if (pt_cmpR op_eq (pv 3) pe_int (nomark _)) (pss_one (ps_ret (pe_tup (pa_cons pe_str (pa_cons (pe_ix ix_list (pv 2) (pe_call GD hr rfl mD kD bD .nil pass0 (pa_cons (pv 0) (pa_cons pe_int pa_nil))) (fun _ _ => rfl)) pa_nil))))) pss_nil)
    (pss_cons (ps_if (pt_cmpR op_eq (pv 3) pe_int (nomark _)) (pss_one (ps_ret (pe_tup (pa_cons pe_str pa_nil)))) pss_nil)
    (pss_cons (ps_asg pe_int (pg_sub (pv 1) pe_int set_list))
    (pss_cons (ps_if (pt_cmpR op_eq (pv 3) pe_int (nomark _)) (pss_one (ps_ret (pe_tup (pa_cons pe_str pa_nil)))) pss_nil)
    (pss_cons (ps_if (pt_cmpR op_eq (pv 3) pe_int (nomark _)) (pss_one (ps_ret (pe_tup (pa_cons pe_str pa_nil)))) pss_nil)
    (pss_one (ps_ret (pe_tup (pa_cons pe_str pa_nil))))))))))), ?_⟩
  refine ⟨_, rfl, p, 13, rfl, D.pool, by decide, by decide, fun r H1 r0 r1 k1 hp1 => ?_⟩
  have D1 := D.draw k1 hp1
  have one : ∀ (H2 : Hp) (w : Wd) (h' : Int), Dr H2 p b q k h' → K2 p b H H2 → w.held h = h' → 0 ≤ h' → h' ≤ 3 → (w = .take → h ≠ 3) → ∀ t, H2 t = none → Q (.ref t) (L2.upd H2 t (.tup [.str w.s])) := by
    intro H2 w h' D2 k2 e hh0 hh3 hw t ht
    have eh : (Stm.one w).held h = h' := by rw [Stm.held]; exact e
    refine z _ _ (.one w) (by rw [Stm.cnt]) (fun d => by rw [Stm.ok]; exact hw) (by rw [Stm.at]; exact ⟨t, rfl, upd_same⟩) (by rw [eh]; exact hh0) (by rw [eh]; exact hh3) (by rw [eh]; exact D2.new ht) (k2.new ht)
  have nam : ∀ (bb : Bool), (tRet (tTup (tCons (tC (.str (lockS bb))) (tCons (tOp (rIxL K) (tVar 2) (tCall spDraw [] E0 (tCons (tVar 0) (tCons (tC (.int 2)) tNil)))) tNil)))) { nx := fun _ H' => Q .non H', rt := Q } [some (.ref p), some (.ref b), some (.ref q), some (.int r)] H1 := by
    intro bb
    refine ⟨_, rfl, _, rfl, p, 2, rfl, hp1, by decide, by decide, fun r2 H2 r20 r21 k2 hp2 => ?_⟩
    have D2 := D1.draw k2 hp2
    obtain ⟨xs, n, hq, hat, hn⟩ := names_at D2.names r20 (by omega)
    refine ⟨q, xs, _, _, rfl, rfl, SqL.of hq, hat, (by show 2 ≤ sizeLine; decide), fun t ht => ?_⟩
    have eh : (Stm.nam bb n).held h = h := by rw [Stm.held]
    exact z _ _ (.nam bb n) (by rw [Stm.cnt]) (fun d => by rw [Stm.ok]; exact hn) (by rw [Stm.at]; exact ⟨t, rfl, upd_same⟩) (by rw [eh]; exact h0) (by rw [eh]; exact h3) (by rw [eh]; exact D2.new ht) (((Kp.k2 k1).trans (Kp.k2 k2)).new ht)
  have put := @Dr.put H1 p b q k h
  have u2 : ∀ h', K2 p b H (L2.upd H1 b (.lst [.int k, .int h', .int 3])) := fun h' => (Kp.k2 k1).trans K2.upd
  refine ⟨_, rfl, _, _, rfl, rfl, _, rfl, ?_⟩
  refine ite2 (fun c => ?_) (fun c => ?_)
  · refine ⟨_, rfl, b, _, _, _, rfl, rfl, SqL.of D1.box, rfl, _, rfl, b, _, _, _, rfl, rfl, SqL.of D1.box, rfl, _, _, rfl, rfl, _, rfl, ?_⟩
    refine ite2 (fun c' => ?_) (fun c' => ?_)
    · have c2 : h < 3 := of_decide_eq_true c'
      refine ⟨_, rfl, b, _, _, _, rfl, rfl, SqL.of D1.box, rfl, _, _, rfl, rfl, _, rfl, b, _, _, _, rfl, rfl, D1.box, rfl, ?_⟩
      exact ⟨by show 1 ≤ sizeLine; decide, fun t ht => one _ .take (h + 1) (put D1) (u2 _) rfl (by omega) (by omega) (fun _ => by omega) t ht⟩
    · refine ⟨_, rfl, rfl, _, rfl, ?_⟩
      refine ite2 (fun _ => nam true) (fun _ => ?_)
      refine ⟨_, rfl, rfl, _, rfl, ?_⟩
      refine ite2 (fun _ => nam false) (fun _ => ?_)
      refine ⟨_, rfl, rfl, _, rfl, ?_⟩
      refine ite2 (fun _ => ⟨by show 1 ≤ sizeLine; decide, fun t ht => one _ .drop h D1 (Kp.k2 k1) rfl h0 h3 (fun e => nomatch e) t ht⟩) (fun _ => ?_)
      refine ⟨_, rfl, b, _, _, _, rfl, rfl, D1.box, rfl, ?_⟩
      refine ⟨_, rfl, rfl, _, rfl, ?_⟩
      refine ite2 (fun _ => ⟨by show 1 ≤ sizeLine; decide, fun t ht => one _ .rollback 0 (put D1) (u2 _) rfl (by omega) (by omega) (fun e => nomatch e) t ht⟩) (fun _ => ?_)
      refine ⟨_, rfl, rfl, _, rfl, ?_⟩
      refine ite2 (fun _ => ⟨by show 1 ≤ sizeLine; decide, fun t ht => one _ .leave 0 (put D1) (u2 _) rfl (by omega) (by omega) (fun e => nomatch e) t ht⟩) (fun _ => ?_)
      exact ⟨by show 1 ≤ sizeLine; decide, fun t ht => one _ .commit 0 (put D1) (u2 _) rfl (by omega) (by omega) (fun e => nomatch e) t ht⟩
  · refine ⟨_, rfl, rfl, _, rfl, ?_⟩
    refine ite2 (fun _ => nam true) (fun _ => ?_)
    refine ⟨_, rfl, rfl, _, rfl, ?_⟩
    refine ite2 (fun _ => nam false) (fun _ => ?_)
    refine ⟨_, rfl, rfl, _, rfl, ?_⟩
    refine ite2 (fun _ => ⟨by show 1 ≤ sizeLine; decide, fun t ht => one _ .drop h D1 (Kp.k2 k1) rfl h0 h3 (fun e => nomatch e) t ht⟩) (fun _ => ?_)
    refine ⟨_, rfl, b, _, _, _, rfl, rfl, D1.box, rfl, ?_⟩
    refine ⟨_, rfl, rfl, _, rfl, ?_⟩
    refine ite2 (fun _ => ⟨by show 1 ≤ sizeLine; decide, fun t ht => one _ .rollback 0 (put D1) (u2 _) rfl (by omega) (by omega) (fun e => nomatch e) t ht⟩) (fun _ => ?_)
    refine ⟨_, rfl, rfl, _, rfl, ?_⟩
    refine ite2 (fun _ => ⟨by show 1 ≤ sizeLine; decide, fun t ht => one _ .leave 0 (put D1) (u2 _) rfl (by omega) (by omega) (fun e => nomatch e) t ht⟩) (fun _ => ?_)
    exact ⟨by show 1 ≤ sizeLine; decide, fun t ht => one _ .commit 0 (put D1) (u2 _) rfl (by omega) (by omega) (fun e => nomatch e) t ht⟩
abbrev psB : List Str := ["_law_pool_here", "_law_box", "_law_names_here", "_law_length", "_law_depth"]
def spBranch (m : Nat) : Sp := fun vs H Q _ => ∃ (p b q : Addr) (n k h : Int) (d : Nat), vs = [.ref p, .ref b, .ref q, .int n, .int (d : Nat)] ∧ d + m = 3 ∧ d ≤ 2 ∧ Dr H p b q k h ∧ 0 ≤ n ∧ n ≤ 9 ∧ 0 ≤ k ∧ k ≤ 8 ∧ 0 ≤ h ∧ h ≤ 3 ∧
  ∀ (t : Addr) (H' : Hp) (xs : List V) (S : List Stm), H' t = some (.tup xs) → atAll H' xs S → okAll d S h → (cntAll S : Int) ≤ k → 0 ≤ heldAll S h → heldAll S h ≤ 3 → (0 < n → 0 < k → S ≠ []) →
    Dr H' p b q (k - cntAll S) (heldAll S h) → K2 p b H H' → Q (.ref t) H'
theorem max_if (a b : Int) : (if b > a then b else a) = max a b := by
  by_cases h : b > a
  · rw [if_pos h]; omega
  · rw [if_neg h]; omega
/-- what holds behind i turns of the loop that makes a branch -/
def BrI (H : Hp) (p b q R : Addr) (n k h : Int) (d : Nat) (i : Nat) (σ : St) (H2 : Hp) : Prop :=
  ∃ (S : List Stm) (xs : List V) (v6 v7 v8 v9 v10 : Option V), σ = [some (.ref p), some (.ref b), some (.ref q), some (.int n), some (.int (d : Nat)), some (.ref R), v6, v7, v8, v9, v10] ∧
    H2 R = some (.lst xs) ∧ atAll H2 xs S ∧ okAll d S h ∧ (cntAll S : Int) ≤ k ∧ 0 ≤ heldAll S h ∧ heldAll S h ≤ 3 ∧ (0 < i → 0 < k → S ≠ []) ∧ Dr H2 p b q (k - cntAll S) (heldAll S h) ∧ R ≠ p ∧ R ≠ b ∧ K2 p b H H2
theorem heldAll_snoc (S : List Stm) (s : Stm) (h : Int) : heldAll (S ++ [s]) h = s.held (heldAll S h) := by
  rw [heldAll_app, heldAll, heldAll]
theorem cntAll_snoc (S : List Stm) (s : Stm) : cntAll (S ++ [s]) = cntAll S + s.cnt := by
  rw [cntAll_app, cntAll, cntAll]; rfl
theorem okAll_snoc {d : Nat} {S : List Stm} {s : Stm} {h : Int} (a : okAll d S h) (b : s.ok d (heldAll S h)) : okAll d (S ++ [s]) h := by
  refine okAll_app d S [s] h a ?_
  rw [okAll, okAll]
  exact ⟨b, trivial⟩
theorem BrI.more {H H4 : Hp} {p b q R : Addr} {n k h : Int} {d i : Nat} {S : List Stm} {xs : List V} {v : V} {s : Stm} {v6 v7 v8 v9 v10 : Option V} (hR : H R = none) (n1 : R ≠ p) (n2 : R ≠ b) (nq : R ≠ q) (hS : atAll H4 xs S) (okS : okAll d S h)
    (h4 : H4 R = some (.lst xs)) (hs : s.at H4 v) (ok : s.ok d (heldAll S h)) (hc : (cntAll S : Int) + s.cnt ≤ k) (h0 : 0 ≤ s.held (heldAll S h)) (h3 : s.held (heldAll S h) ≤ 3) (D : Dr H4 p b q (k - cntAll S - s.cnt) (s.held (heldAll S h))) (f : K2 p b H H4) :
    BrI H p b q R n k h d (i + 1) [some (.ref p), some (.ref b), some (.ref q), some (.int n), some (.int (d : Nat)), some (.ref R), v6, v7, v8, v9, v10] (L2.upd H4 R (.lst (xs ++ [v]))) := by
  have tk : TK H4 (L2.upd H4 R (.lst (xs ++ [v]))) := fun a ys e => by rw [upd_ne (ne_of e h4 (by intro z; cases z))]; exact e
  refine ⟨S ++ [s], xs ++ [v], v6, v7, v8, v9, v10, rfl, upd_same, atAll_app (atAll_keep tk S xs hS) (atAll_one (Stm.at_keep tk s v hs)), okAll_snoc okS ok, ?_, ?_, ?_, fun _ _ => by simp, ?_, n1, n2, ?_⟩
  · rw [cntAll_snoc]; omega
  · rw [heldAll_snoc]; exact h0
  · rw [heldAll_snoc]; exact h3
  · rw [heldAll_snoc]
    have e : k - ((cntAll (S ++ [s]) : Nat) : Int) = k - cntAll S - s.cnt := by rw [cntAll_snoc]; omega
    rw [e]
    obtain ⟨⟨x, y, z, hp⟩, hb, ⟨a1, a2, a3, hq, m⟩, e1, e2, e3⟩ := D
    exact ⟨⟨x, y, z, by rw [upd_ne n1.symm]; exact hp⟩, by unfold BoxAt; rw [upd_ne n2.symm]; exact hb, ⟨a1, a2, a3, by rw [upd_ne nq.symm]; exact hq, m⟩, e1, e2, e3⟩
  · intro a o e m m'
    rw [upd_ne (ne_of_none e hR)]
    exact f a o e m m'
theorem scBranch : FnScope ["_law_pool_here", "_law_box", "_law_names_here", "_law_length", "_law_depth", "_law_rows", "_law_k", "_law_before", "_law_yes", "_law_after", "_law_no"] psB (defScope sBranch) := ⟨rfl, rfl, rfl, by decide +kernel, rfl, by decide +kernel, by decide +kernel⟩
theorem ok_branch {m : Nat} {f fD fS : Addr} {fd fdD fdS : FuncData} (F : Fun K "_law_branch" "_law_branch" sBranch f fd) (B : Bl mg) (GD : FnOk P w K mg base CX0 1 fD fdD ["_law_pool_here", "_law_amount"] spDraw) (bD : Binds K fdD ["_law_pool_here", "_law_amount"] []) (kD : PySem.W.keepIn K (.ref fD) = true) (mD : mg "_law_draw" = some (.ref fD))
    (GS : FnOk P w K mg base CX0 2 fS fdS ["_law_pool_here", "_law_box", "_law_names_here"] spSimple) (bS : Binds K fdS ["_law_pool_here", "_law_box", "_law_names_here"] []) (kS : PySem.W.keepIn K (.ref fS) = true) (mS : mg "_law_simple" = some (.ref fS))
    (GB : FnOk P w K mg base CX0 (2 + m) f fd psB (spBranch m)) (bB : Binds K fd psB []) (mB : mg "_law_branch" = some (.ref f)) :
    FnOk P w K mg base CX0 (2 + m + 1) f fd psB (spBranch (m + 1)) := by
  have kB := F.kp
  refine F.ok scBranch (fun vs H Q E h => ?_) (fun cdv A outer s H vs Q E hr h => ?_)
  · obtain ⟨p, b, q, n, k, h, d, rfl, _⟩ := h
    rfl
  obtain ⟨p, b, q, n, k, h, d, rfl, hd3, hd2, D, n0, n9, k0, k8, h0, h3, z⟩ := h
  have hr1 : Room 1 _ := hr.mono (by omega)
  have hr2 : Room 2 _ := hr.mono (by omega)
  refine ⟨_, pss_cons (ps_set (i := 5) scBranch.nd rfl (Or.inl rfl) (pe_lst pa_nil))
    (pss_cons (ps_for PassesOwn.never rfl (pi_range1 rfl B.range (pa_cons (pv 3) pa_nil)) (pg_name (i := 6) scBranch.nd rfl (Or.inl rfl))
      (pss_one (ps_if (pt_cmpR op_gt (pe_ix ix_list (pv 1) pe_int (fun _ _ => rfl)) pe_int (nomark _))
        (pss_cons (ps_asg (pe_op op_sub (pe_ix ix_list (pv 1) pe_int (fun _ _ => rfl)) pe_int) (pg_sub (pv 1) pe_int set_list))
        (pss_one (ps_if (PW.pt (pw_and (pt_cmpR op_lt (pv 4) pe_int (nomark _)) (pw_and1 (pt_cmpR op_eq (pe_call GD hr1 rfl mD kD bD .nil pass0 (pa_cons (pv 0) (pa_cons pe_int pa_nil))) pe_int (nomark _)))))
          (pss_cons (ps_set (i := 7) scBranch.nd rfl (Or.inl rfl) (pe_ix ix_list (pv 1) pe_int (fun _ _ => rfl)))
          (pss_cons (ps_set (i := 8) scBranch.nd rfl (Or.inl rfl) (pe_call GB hr rfl mB kB bB .nil pass0 (pa_cons (pv 0) (pa_cons (pv 1) (pa_cons (pv 2) (pa_cons (pe_call GD hr1 rfl mD kD bD .nil pass0 (pa_cons (pv 0) (pa_cons pe_int pa_nil))) (pa_cons (pe_op op_add (pv 4) pe_int) pa_nil)))))))
          (pss_cons (ps_set (i := 9) scBranch.nd rfl (Or.inl rfl) (pe_ix ix_list (pv 1) pe_int (fun _ _ => rfl)))
          (pss_cons (ps_asg (pv 7) (pg_sub (pv 1) pe_int set_list))
          (pss_cons (ps_set (i := 10) scBranch.nd rfl (Or.inl rfl) (pe_call GB hr rfl mB kB bB .nil pass0 (pa_cons (pv 0) (pa_cons (pv 1) (pa_cons (pv 2) (pa_cons (pe_call GD hr1 rfl mD kD bD .nil pass0 (pa_cons (pv 0) (pa_cons pe_int pa_nil))) (pa_cons (pe_op op_add (pv 4) pe_int) pa_nil)))))))
          (pss_cons (ps_asg (pe_callB (call_max2 rfl) (by rfl) B.max (by decide +kernel) (pa_cons (pv 9) (pa_cons (pe_ix ix_list (pv 1) pe_int (fun _ _ => rfl)) pa_nil))) (pg_sub (pv 1) pe_int set_list))
          (pss_one (ps_expr (pe_bm PySem.F.plainAttrs_list PySem.F.slot_list_append PySem.F.type_list_append mt_append (pv 5) (pa_cons (pe_tup (pa_cons pe_str (pa_cons (pv 8) (pa_cons (pv 10) pa_nil)))) pa_nil))))))))))
          (pss_one (ps_expr (pe_bm PySem.F.plainAttrs_list PySem.F.slot_list_append PySem.F.type_list_append mt_append (pv 5) (pa_cons (pe_call GS hr2 rfl mS kS bS .nil pass0 (pa_cons (pv 0) (pa_cons (pv 1) (pa_cons (pv 2) pa_nil)))) pa_nil)))))))
        pss_nil)))
    (pss_one (ps_ret (pe_callTy call_tuple_of (by rfl) B.tuple (by decide +kernel) (pa_cons (pv 5) pa_nil))))), ?_⟩
  refine ⟨(by show 0 ≤ sizeLine; decide), fun R hR => ?_⟩
  refine ⟨_, rfl, n, rfl, by omega, by omega, ?_⟩
  have nRq : R ≠ q := by
    obtain ⟨_, _, _, hq, _⟩ := D.names
    exact (ne_of_none hq hR).symm
  refine for_range (lo := 0) (n := n.toNat) (BrI H p b q R n k h d) ?_ ?_ ?_
  · have D1 := D.new (o := .lst []) hR
    have e1 : heldAll [] h = h := by rw [heldAll]
    have e2 : k - ((cntAll [] : Nat) : Int) = k := by rw [cntAll]; simp
    refine ⟨[], [], none, none, none, none, none, rfl, upd_same, by rw [atAll], by rw [okAll]; trivial, by rw [cntAll]; simpa using k0, by rw [e1]; exact h0, by rw [e1]; exact h3, fun x => absurd x (Nat.lt_irrefl 0), by rw [e1, e2]; exact D1, ?_, ?_, (K2.refl _ _ _).new hR⟩
    · obtain ⟨_, _, _, hp⟩ := D.pool
      exact (ne_of_none hp hR).symm
    · exact (ne_of_none D.box hR).symm
  · rintro i σ H2 hi ⟨S, xs, v6, v7, v8, v9, v10, rfl, hx, hS, okS, cS, h0', h3', ne, D2, nRp, nRb, fr⟩
    have lenS := atAll_len hS
    have lenC := len_le_cnt S
    have small : xs.length < sizeLine := small1000 (by omega)
    refine ⟨_, rfl, b, _, _, _, rfl, rfl, SqL.of D2.box, rfl, _, _, rfl, rfl, _, rfl, ?_⟩
    refine ite2 (fun c => ?_) (fun c => ?_)
    · have c1 : 0 < k - (cntAll S : Int) := of_decide_eq_true c
      refine ⟨_, rfl, b, _, _, _, rfl, rfl, SqL.of D2.box, rfl, _, _, rfl, rfl, _, rfl, b, _, _, _, rfl, rfl, D2.box, rfl, ?_⟩
      have D3 : Dr (L2.upd H2 b (.lst [.int (k - cntAll S - 1), .int (heldAll S h), .int 3])) p b q (k - cntAll S - 1) (heldAll S h) := D2.put
      have f3 : K2 p b H2 (L2.upd H2 b (.lst [.int (k - cntAll S - 1), .int (heldAll S h), .int 3])) := K2.upd
      -- the way of a plain statement
      have plain : ∀ H4 w7 w8 w9 w10, Dr H4 p b q (k - cntAll S - 1) (heldAll S h) → K2 p b H2 H4 →
          (tDrop (tBM K "list" rAppend (tVar 5) (tCons (tCall spSimple [] E0 (tCons (tVar 0) (tCons (tVar 1) (tCons (tVar 2) tNil)))) tNil))) { nx := BrI H p b q R n k h d (i + 1), rt := Q } [some (.ref p), some (.ref b), some (.ref q), some (.int n), some (.int (d : Nat)), some (.ref R), some (.int (0 + i)), w7, w8, w9, w10] H4 := by
        intro H4 w7 w8 w9 w10 D4 f4
        have h4R : H4 R = some (.lst xs) := f4 R _ hx nRp nRb
        refine ⟨_, rfl, .inl ⟨rfl, _, .inl (.inl h4R)⟩, _, rfl, _, rfl, _, rfl, p, b, q, _, _, rfl, D4, h0', h3', fun v H5 s e1 e2 e3 e4 e5 D5 f5 => ?_⟩
        have tk : TK H2 H5 := (D2.tk f4).trans (D4.tk f5)
        refine ⟨R, xs, v, rfl, rfl, f5 R _ h4R nRp nRb, small, ?_⟩
        exact BrI.more hR nRp nRb nRq (atAll_keep tk S xs hS) okS (f5 R _ h4R nRp nRb) e3 (e2 d) (by rw [e1]; omega) e4 e5 (by rw [e1]; exact D5) ((fr.trans f4).trans f5)
      refine ⟨_, rfl, _, _, rfl, rfl, _, rfl, ?_⟩
      refine ite2 (fun c2 => ?_) (fun c2 => plain _ _ _ _ _ D3 f3)
      have c2' : (d : Int) < 2 := of_decide_eq_true c2
      refine ⟨_, rfl, p, 5, rfl, D3.pool, by decide, by decide, fun r H4 r0 r1 k4 hp4 => ?_⟩
      have D4 := D3.draw k4 hp4
      have f4 : K2 p b H2 H4 := f3.trans (Kp.k2 k4)
      refine ⟨rfl, _, rfl, ?_⟩
      refine ite2 (fun c3 => ?_) (fun c3 => plain _ _ _ _ _ D4 f4)
      -- a choose
      refine ⟨_, rfl, b, _, _, _, rfl, rfl, SqL.of D4.box, rfl, ?_⟩
      refine ⟨_, rfl, _, rfl, _, rfl, _, rfl, p, 3, rfl, D4.pool, by decide, by decide, fun r2 H5 r20 r21 k5 hp5 => ?_⟩
      have D5 := D4.draw k5 hp5
      refine ⟨_, rfl, _, _, rfl, rfl, p, b, q, r2, _, _, d + 1, rfl, by omega, by omega, D5, r20, by omega, by omega, by omega, h0', h3', fun t1 H6 ys Y ht1 at1 ok1 cn1 h01 h31 _ D6 f6 => ?_⟩
      have f6' : K2 p b H2 H6 := (f4.trans (Kp.k2 k5)).trans f6
      refine ⟨_, rfl, b, _, _, _, rfl, rfl, SqL.of D6.box, rfl, ?_⟩
      refine ⟨_, rfl, _, rfl, b, _, _, _, rfl, rfl, D6.box, rfl, ?_⟩
      have D7 : Dr (L2.upd H6 b (.lst [.int (k - cntAll S - 1 - cntAll Y), .int (heldAll S h), .int 3])) p b q (k - cntAll S - 1 - cntAll Y) (heldAll S h) := D6.put
      have f7 : K2 p b H6 (L2.upd H6 b (.lst [.int (k - cntAll S - 1 - cntAll Y), .int (heldAll S h), .int 3])) := K2.upd
      refine ⟨_, rfl, _, rfl, _, rfl, _, rfl, p, 3, rfl, D7.pool, by decide, by decide, fun r3 H8 r30 r31 k8' hp8 => ?_⟩
      have D8 := D7.draw k8' hp8
      refine ⟨_, rfl, _, _, rfl, rfl, p, b, q, r3, _, _, d + 1, rfl, by omega, by omega, D8, r30, by omega, by omega, by omega, h0', h3', fun t2 H9 zs Z ht2 at2 ok2 cn2 h02 h32 _ D9 f9 => ?_⟩
      have f79 : K2 p b H6 H9 := (f7.trans (Kp.k2 k8')).trans f9
      refine ⟨_, rfl, _, rfl, b, _, _, _, rfl, rfl, SqL.of D9.box, rfl, _, _, rfl, ?_⟩
      refine ⟨_, rfl, b, _, _, _, rfl, rfl, D9.box, rfl, ?_⟩
      rw [max_if]
      have D10 : Dr (L2.upd H9 b (.lst [.int (k - cntAll S - 1 - cntAll Y - cntAll Z), .int (max (heldAll Y (heldAll S h)) (heldAll Z (heldAll S h))), .int 3])) p b q (k - cntAll S - 1 - cntAll Y - cntAll Z) (max (heldAll Y (heldAll S h)) (heldAll Z (heldAll S h))) := D9.put
      have f10 : K2 p b H9 (L2.upd H9 b (.lst [.int (k - cntAll S - 1 - cntAll Y - cntAll Z), .int (max (heldAll Y (heldAll S h)) (heldAll Z (heldAll S h))), .int 3])) := K2.upd
      have f610 := f79.trans f10
      have fA := f6'.trans f610
      have hRA := fA R _ hx nRp nRb
      refine ⟨_, rfl, .inl ⟨rfl, _, .inl (.inl hRA)⟩, _, rfl, _, rfl, (by show 3 ≤ sizeLine; decide), fun t ht => ?_⟩
      have tk1 : TK H6 (L2.upd _ t (.tup [.str "choose", .ref t1, .ref t2])) := (D6.tk f610).trans (TK.of_same (same_new ht _))
      have tk2 : TK H9 (L2.upd _ t (.tup [.str "choose", .ref t1, .ref t2])) := (D9.tk f10).trans (TK.of_same (same_new ht _))
      refine ⟨R, xs, .ref t, rfl, rfl, (same_new ht _) R _ hRA, small, ?_⟩
      have es : (Stm.ch Y Z).cnt = 1 + cntAll Y + cntAll Z := by rw [Stm.cnt]
      have eh : (Stm.ch Y Z).held (heldAll S h) = max (heldAll Y (heldAll S h)) (heldAll Z (heldAll S h)) := by rw [Stm.held]
      have tk : TK H2 (L2.upd _ t (.tup [.str "choose", .ref t1, .ref t2])) := (D2.tk f6').trans tk1
      refine BrI.more (s := .ch Y Z) hR nRp nRb nRq (atAll_keep tk S xs hS) okS ((same_new ht _) R _ hRA) ?_ ?_ (by rw [es]; omega) (by rw [eh]; omega) (by rw [eh]; omega) ?_ ((fr.trans fA).new ht)
      · rw [Stm.at]
        exact ⟨t, t1, t2, ys, zs, rfl, upd_same, tk1 _ _ ht1, atAll_keep tk1 Y ys at1, tk2 _ _ ht2, atAll_keep tk2 Z zs at2⟩
      · rw [Stm.ok]
        exact ⟨by omega, ok1, ok2⟩
      · rw [es, eh]
        have e : k - (cntAll S : Int) - ((1 + cntAll Y + cntAll Z : Nat) : Int) = k - cntAll S - 1 - cntAll Y - cntAll Z := by omega
        rw [e]
        exact D10.new ht
    · -- nothing is left: no more
      have c1 : ¬ 0 < k - (cntAll S : Int) := fun x => c (decide_eq_true x)
      exact ⟨S, xs, _, v7, v8, v9, v10, rfl, hx, hS, okS, cS, h0', h3', fun _ k1 e => c1 (by rw [e, cntAll]; simpa using k1), D2, nRp, nRb, fr⟩
  · rintro σ H2 ⟨S, xs, v6, v7, v8, v9, v10, rfl, hx, hS, okS, cS, h0', h3', ne, D2, nRp, nRb, fr⟩
    refine ⟨_, rfl, R, xs, rfl, .inl ⟨SqL.of hx, fun t ht => ?_⟩⟩
    exact z t _ xs S upd_same (atAll_keep (TK.of_same (same_new ht _)) S xs hS) okS cS h0' h3' (fun a => ne (by omega)) (D2.new ht) (fr.new ht)
end
end Tk
set_option maxRecDepth 100000
namespace Tk
open PySem L2
abbrev sIsInt : Stmt := top 7
abbrev sIsName : Stmt := top 8
abbrev sSInit : Stmt := inClass (top 14) 0
abbrev sSLen : Stmt := inClass (top 14) 1
abbrev sSHas : Stmt := inClass (top 14) 2
abbrev sSGet : Stmt := inClass (top 14) 3
abbrev sAfter : Stmt := inClass (top 14) 6
abbrev sBehind : Stmt := inClass (top 14) 7
abbrev sKInit : Stmt := inClass (top 17) 0
abbrev sKBr : Stmt := inClass (top 17) 1
abbrev sKSt : Stmt := inClass (top 17) 2
abbrev sFault : Stmt := top 18
abbrev sForm : Stmt := top 20
abbrev sHeld : Stmt := top 19
def items8 : List (Str × Int) := [("take", 1), ("commit", 1), ("rollback", 1), ("drop", 1), ("leave", 1), ("lock", 2), ("unlock", 2), ("choose", 3)]
/-- what the top has made -/
structure Txt (K : PySem.W.Frag) (w : World) (mg : Str → Option Value) (CS CK it : Addr) : Prop where
  isi : mg "isinstance" = none
  all : mg "all" = none
  list : mg "list" = none
  enum : mg "enumerate" = none
  str : mg "str" = none
  bool : mg "bool" = none
  long : ∃ t, mg "LONGEST_NAME" = some (.int 8 t)
  mSt : ∃ t, mg "MOST_STATEMENTS" = some (.int 8 t)
  mHe : ∃ t, mg "MOST_HELD" = some (.int 3 t)
  mNe : ∃ t, mg "MOST_NESTED" = some (.int 2 t)
  mIt : mg "ITEMS" = some (.ref it)
  lkI : ∃ es n, K.lookup it = some ⟨.type "dict", none, .dict es n, #[]⟩
  kg : ∀ z n, (z, n) ∈ items8 → KG K w it z (.int n)
  clS : Cls K CS
  clK : Cls K CK
  mgS : mg "Script" = some (.ref CS)
  mgK : mg "Check" = some (.ref CK)
  nS : NoAttr K CS "statements"
  nF : NoAttr K CS "found"
  nP : NoAttr K CS "places"
  kF : NoAttr K CK "found"
theorem lt1 (a b : Nat) : ([a] < [b]) ↔ a < b := by
  rw [List.cons_lt_cons_iff]
  simp
theorem iteFb {c : Bool} {A B : Prop} (e : c = false) (h : B) : if c = true then A else B := by rw [e]; exact iteF h
theorem iteTb {c : Bool} {A B : Prop} (e : c = true) (h : A) : if c = true then A else B := by rw [e]; exact iteT h
def nameB (z : Str) : Bool := decide (1 ≤ z.length) && decide (z.length ≤ 8) && z.cps.toList.all fun c => decide (97 ≤ c) && decide (c ≤ 122)
theorem nameB_of {z : Str} (h : IsName z) : nameB z = true := by
  unfold nameB
  rw [decide_eq_true h.1, decide_eq_true h.2.1]
  simp only [Bool.true_and, List.all_eq_true]
  intro c hc
  have q := h.2.2 c hc
  rw [decide_eq_true q.1, decide_eq_true q.2]; rfl
def spIsInt (K : PySem.W.Frag) : Sp := fun vs H Q _ => ∃ (x : V) (T : String) (b1 b2 : Bool), vs = [x] ∧ TyX K H x (.type T) ∧ kitB T "int" = some b1 ∧ kitB T "bool" = some b2 ∧ Q (.bl (b1 && !b2)) H
def spIsName : Sp := fun vs H Q _ => ∃ z : Str, vs = [.str z] ∧ z.length ≤ 100 ∧ ∀ H', Same H H' → Q (.bl (nameB z)) H'
/-- a good statement -/
def spForm : Sp := fun vs H Q _ => ∃ (v : V) (s : Stm), vs = [v] ∧ s.at H v ∧ Q (.bl true) H
def spFault : Sp := fun vs H Q _ => ∃ (v : V) (u : Addr) (e h : Int) (s : Stm) (d : Nat) (p : List V), vs = [v, .ref u, .int e, .int h] ∧ s.at H v ∧ H u = some (.tup p) ∧ p.length = 2 * d + 1 ∧ e ≠ 8 ∧ s.ok d h ∧ ∀ H', Same H H' → Q .non H'
section
variable {P : Program} {w : World} {K : PySem.W.Frag} {mg : Str → Option Value} {base : Heap} {CS CK it : Addr}
theorem scII : FnScope ["value"] ["value"] (defScope sIsInt) := ⟨rfl, rfl, rfl, by decide +kernel, rfl, by decide +kernel, by decide +kernel⟩
theorem ok_isint {f : Addr} {fd : FuncData} (F : Fun K "is_integer" "is_integer" sIsInt f fd) (B : Bl mg) (T : Txt K w mg CS CK it) : FnOk P w K mg base CX0 1 f fd ["value"] (spIsInt K) := by
  refine F.ok scII (fun vs H Q E h => ?_) (fun cdv A outer s H vs Q E hr h => ?_)
  · obtain ⟨x, t, b1, b2, rfl, _⟩ := h
    rfl
  obtain ⟨x, t, b1, b2, rfl, ty, k1, k2, q⟩ := h
  refine ⟨_, pss_one (ps_ret (pe_and (pe_callB call_isi (by rfl) T.isi (by decide +kernel) (pa_cons (pv 0) (pa_cons (pe_bltn (v := .ty "int") (by rfl) B.int (by decide +kernel) rfl) pa_nil)))
    (pe_one (pe_not (pe_callB call_isi (by rfl) T.isi (by decide +kernel) (pa_cons (pv 0) (pa_cons (pe_bltn (v := .ty "bool") (by rfl) T.bool (by decide +kernel) rfl) pa_nil))))))), ?_⟩
  refine ⟨_, rfl, x, _, _, _, b1, rfl, .ty "int", ty, kit_ty k1, b1, rfl, ?_⟩
  cases b1 with
  | false => exact iteF q
  | true => exact iteT ⟨_, rfl, x, _, _, _, b2, rfl, .ty "bool", ty, kit_ty k2, b2, rfl, q⟩
theorem scIN : FnScope ["value", "letter"] ["value"] (defScope sIsName) := ⟨rfl, rfl, rfl, by decide +kernel, rfl, by decide +kernel, by decide +kernel⟩
theorem ok_isname {f : Addr} {fd : FuncData} (F : Fun K "is_name" "is_name" sIsName f fd) (B : Bl mg) (T : Txt K w mg CS CK it) : FnOk P w K mg base CX0 1 f fd ["value"] spIsName := by
  refine F.ok scIN (fun vs H Q E h => ?_) (fun cdv A outer s H vs Q E hr h => ?_)
  · obtain ⟨z, rfl, _⟩ := h
    rfl
  obtain ⟨z, rfl, h100, q⟩ := h
  have hsz : z.length ≤ sizeLine := Nat.le_of_lt (small1000 (by omega))
  obtain ⟨tl, gl⟩ := T.long
  refine ⟨_, pss_cons (ps_if (PW.pt (pw_or (pt_not (pt_val (pe_callB call_isi (by rfl) T.isi (by decide +kernel) (pa_cons (pv 0) (pa_cons (pe_bltn (v := .ty "str") (by rfl) T.str (by decide +kernel) rfl) pa_nil)))))
      (pw_or1 (pt_not (pt_chain op_le op_le pe_int (pe_callB call_len_str (by rfl) B.len PySem.boot_len (pa_cons (pv 0) pa_nil)) (pe_glob (v := .int 8) (by rfl) gl ⟨_, rfl⟩)))))) (pss_one (ps_ret pe_bl)) pss_nil)
    (pss_one (ps_ret (pe_callB (cr_all rfl) (by rfl) T.all (by decide +kernel) (pa_cons
      (pe_lc (own := [("letter", 1)]) (g := gName 1) (tt := tYes) rfl scIN.nd (pi_str (pv 0)) (blkOk_by (own := [("letter", 1)]) (N := ["value", "letter"]) (sc := defScope sIsName) (by decide +kernel))
        (fun _ _ _ _ _ => pg_name (i := 1) scIN.nd rfl (Or.inl rfl)) (fun _ _ _ _ _ => pts_nil)
        (fun _ _ _ _ _ => pe_chain op_le_str op_le_str pe_str (pv 1) pe_str)) pa_nil)))), ?_⟩
  refine ⟨_, rfl, _, _, _, _, true, rfl, .ty "str", .base (.str _), kit_ty (by decide +kernel), true, rfl, iteF ?_⟩
  refine ⟨_, rfl, _, rfl, hsz, _, _, rfl, rfl, _, rfl, ?_⟩
  have ret : ∀ b : Bool, nameB z = b → Q (.bl b) H := fun b e => e ▸ q H (Same.refl H)
  by_cases c1 : 1 ≤ z.length
  · have c1' : decide ((1 : Int) ≤ (z.length : Int)) = true := decide_eq_true (by omega)
    refine iteTb c1' ⟨_, _, rfl, rfl, _, rfl, ?_⟩
    by_cases c2 : z.length ≤ 8
    · have c2' : decide ((z.length : Int) ≤ 8) = true := decide_eq_true (by omega)
      rw [c2']
      refine iteF ?_
      refine ⟨_, rfl, z, rfl, fun D hD => ?_⟩
      refine lc_it walk_str (fun i H7 => H7 D = some (.lst (((z.cps.toList.take i).map fun c => decide (97 ≤ c) && decide (c ≤ 122)).map V.bl)) ∧ Same H H7 ∧ i ≤ z.cps.size) ?_ (fun _ _ _ _ => trivial) ?_ ?_
      · exact ⟨upd_same, same_new hD _, Nat.zero_le _⟩
      · rintro i x H7 H8 hi ⟨h1, h2, h3⟩ ⟨rfl, c, hc, rfl⟩
        refine ⟨rfl, ?_⟩
        unfold tYes
        dsimp only
        rw [if_pos rfl]
        have nx : ∀ b : Bool, (decide (97 ≤ c) && decide (c ≤ 122)) = b → ∃ acc, H8 D = some (.lst acc) ∧ acc.length < sizeLine ∧ (upd H8 D (.lst (acc ++ [.bl b]))) D = some (.lst (((z.cps.toList.take (i + 1)).map fun c => decide (97 ≤ c) && decide (c ≤ 122)).map V.bl)) ∧ Same H (upd H8 D (.lst (acc ++ [.bl b]))) ∧ i + 1 ≤ z.cps.size := by
          intro b e
          have hz : z.cps.size ≤ 8 := c2
          refine ⟨_, h1, small1000 (by simp; omega), ?_, ?_, hi⟩
          · rw [upd_same]
            have ez : z.cps.toList[i]? = some c := by simpa using hc
            rw [List.take_add_one, ez]
            simp [e]
          · intro b' o e'
            rw [upd_ne (ne_of_none e' hD)]
            exact h2 b' o e'
        refine ⟨_, rfl, _, _, rfl, rfl, _, rfl, ?_⟩
        have e1 : (!decide ((⟨#[c]⟩ : Str).cps.toList < ("a" : Str).cps.toList)) = decide (97 ≤ c) := by
          have e0 : ("a" : Str).cps.toList = [97] := by decide +kernel
          rw [e0]
          show (!decide ([c] < [97])) = _
          by_cases k : 97 ≤ c
          · rw [decide_eq_true k, decide_eq_false (fun x => absurd ((lt1 c 97).mp x) (by omega))]; rfl
          · rw [decide_eq_false k, decide_eq_true ((lt1 c 97).mpr (by omega))]; rfl
        have e2 : (!decide (("z" : Str).cps.toList < (⟨#[c]⟩ : Str).cps.toList)) = decide (c ≤ 122) := by
          have e0 : ("z" : Str).cps.toList = [122] := by decide +kernel
          rw [e0]
          show (!decide ([122] < [c])) = _
          by_cases k : c ≤ 122
          · rw [decide_eq_true k, decide_eq_false (fun x => absurd ((lt1 122 c).mp x) (by omega))]; rfl
          · rw [decide_eq_false k, decide_eq_true ((lt1 122 c).mpr (by omega))]; rfl
        rw [e1]
        by_cases k : 97 ≤ c
        · refine iteTb (decide_eq_true k) ⟨_, _, rfl, rfl, ?_⟩
          rw [e2]
          exact nx _ (by rw [decide_eq_true k, Bool.true_and])
        · refine iteFb (decide_eq_false k) ?_
          exact nx _ (by rw [decide_eq_false k, Bool.false_and])
      · rintro H7 ⟨h1, h2, _⟩
        refine ⟨D, _, rfl, SqL.of h1, ?_⟩
        have e : nameB z = ((z.cps.toList.take z.cps.size).map fun c => decide (97 ≤ c) && decide (c ≤ 122)).all id := by
          unfold nameB
          rw [decide_eq_true c1, decide_eq_true c2, List.take_of_length_le (by simp), List.all_map]
          rfl
        rw [← e]
        exact q H7 h2
    · have c2' : decide ((z.length : Int) ≤ 8) = false := decide_eq_false (by omega)
      rw [c2']
      refine iteT ?_
      exact ret false (by unfold nameB; rw [decide_eq_false c2]; simp)
  · have c1' : decide ((1 : Int) ≤ (z.length : Int)) = false := decide_eq_false (by omega)
    refine iteFb c1' ⟨_, rfl, iteT ?_⟩
    exact ret false (by unfold nameB; rw [decide_eq_false c1]; simp)
/-! ### has_form, fault_of -/
theorem wd_ne (w : Wd) : decide (V.str w.s = V.str "choose") = false := by cases w <;> decide +kernel
theorem lk_ne (b : Bool) : decide (V.str (lockS b) = V.str "choose") = false := by cases b <;> decide +kernel
theorem wd_it (w : Wd) : (w.s, (1 : Int)) ∈ items8 := by cases w <;> simp [items8, Wd.s]
theorem lk_it (b : Bool) : (lockS b, (2 : Int)) ∈ items8 := by cases b <;> simp [items8, lockS]
theorem ch_it : (("choose" : Str), (3 : Int)) ∈ items8 := by simp [items8]
theorem scHF : FnScope ["statement", "word"] ["statement"] (defScope sForm) := ⟨rfl, rfl, rfl, by decide +kernel, rfl, by decide +kernel, by decide +kernel⟩
theorem ok_form {f : Addr} {fd : FuncData} (F : Fun K "has_form" "has_form" sForm f fd) (B : Bl mg) (T : Txt K w mg CS CK it) : FnOk P w K mg base CX0 1 f fd ["statement"] spForm := by
  refine F.ok scHF (fun vs H Q E h => ?_) (fun cdv A outer s H vs Q E hr h => ?_)
  · obtain ⟨v, s, rfl, _⟩ := h
    rfl
  obtain ⟨v, s, rfl, hs, q⟩ := h
  obtain ⟨es, n, lkI⟩ := T.lkI
  refine ⟨_, pss_cons (ps_if (PW.pt (pw_or (pt_not (pt_val (pe_callB call_isi (by rfl) T.isi (by decide +kernel) (pa_cons (pv 0) (pa_cons (pe_bltn (v := .ty "tuple") (by rfl) B.tuple (by decide +kernel) rfl) pa_nil)))))
      (pw_or1 (pt_not (pt_truth (pv 0) (by intro _; rfl)))))) (pss_one (ps_ret pe_bl)) pss_nil)
    (pss_cons (ps_set (i := 1) scHF.nd rfl (Or.inl rfl) (pe_ix ix_tup (pv 0) pe_int (fun _ _ => rfl)))
    (pss_cons (ps_if (PW.pt (pw_or (pt_not (pt_val (pe_callB call_isi (by rfl) T.isi (by decide +kernel) (pa_cons (pv 1) (pa_cons (pe_bltn (v := .ty "str") (by rfl) T.str (by decide +kernel) rfl) pa_nil)))))
      (pw_or1 (pt_cmpR op_ne (pe_callB call_len_seq (by rfl) B.len PySem.boot_len (pa_cons (pv 0) pa_nil)) (pe_kget (pe_glob (v := .ref it) (by rfl) T.mIt rfl) (pv 1) (fun σ H Q h => ⟨⟨it, _, es, n, rfl, lkI, rfl⟩, h⟩) ⟨rfl, rfl, rfl, rfl⟩) (nomark _))))) (pss_one (ps_ret pe_bl)) pss_nil)
    (pss_cons (ps_if (pt_cmpR op_eq (pv 1) pe_str (nomark _)) (pss_one (ps_ret (pe_and (pe_callB call_isi (by rfl) T.isi (by decide +kernel) (pa_cons (pe_ix ix_tup (pv 0) pe_int (fun _ _ => rfl)) (pa_cons (pe_bltn (v := .ty "tuple") (by rfl) B.tuple (by decide +kernel) rfl) pa_nil)))
        (pe_one (pe_callB call_isi (by rfl) T.isi (by decide +kernel) (pa_cons (pe_ix ix_tup (pv 0) pe_int (fun _ _ => rfl)) (pa_cons (pe_bltn (v := .ty "tuple") (by rfl) B.tuple (by decide +kernel) rfl) pa_nil))))))) pss_nil)
    (pss_one (ps_ret pe_bl))))), ?_⟩
  cases s with
  | one w =>
    rw [Stm.at] at hs
    obtain ⟨a, rfl, ha⟩ := hs
    refine ⟨_, rfl, _, _, _, _, true, rfl, .ty "tuple", .base (.tup ha), kit_ty (by decide +kernel), true, rfl, iteF ?_⟩
    refine ⟨_, rfl, true, .inr (.inl ⟨_, SqT.of ha, rfl⟩), iteF ?_⟩
    refine ⟨_, rfl, a, _, _, _, rfl, rfl, SqT.of ha, rfl, ?_⟩
    refine ⟨_, rfl, _, _, _, _, true, rfl, .ty "str", .base (.str _), kit_ty (by decide +kernel), true, rfl, iteF ?_⟩
    refine ⟨_, rfl, a, _, rfl, .inr (SqT.of ha), _, rfl, it, _, _, rfl, rfl, T.kg _ _ (wd_it w), rfl, _, rfl, iteNS rfl ?_⟩
    exact ⟨_, rfl, rfl, _, rfl, iteFb (wd_ne w) q⟩
  | nam b z =>
    rw [Stm.at] at hs
    obtain ⟨a, rfl, ha⟩ := hs
    refine ⟨_, rfl, _, _, _, _, true, rfl, .ty "tuple", .base (.tup ha), kit_ty (by decide +kernel), true, rfl, iteF ?_⟩
    refine ⟨_, rfl, true, .inr (.inl ⟨_, SqT.of ha, rfl⟩), iteF ?_⟩
    refine ⟨_, rfl, a, _, _, _, rfl, rfl, SqT.of ha, rfl, ?_⟩
    refine ⟨_, rfl, _, _, _, _, true, rfl, .ty "str", .base (.str _), kit_ty (by decide +kernel), true, rfl, iteF ?_⟩
    refine ⟨_, rfl, a, _, rfl, .inr (SqT.of ha), _, rfl, it, _, _, rfl, rfl, T.kg _ _ (lk_it b), rfl, _, rfl, iteNS rfl ?_⟩
    exact ⟨_, rfl, rfl, _, rfl, iteFb (lk_ne b) q⟩
  | ch y n =>
    rw [Stm.at] at hs
    obtain ⟨a, b, c, xs, ys, rfl, ha, hb, _, hc, _⟩ := hs
    refine ⟨_, rfl, _, _, _, _, true, rfl, .ty "tuple", .base (.tup ha), kit_ty (by decide +kernel), true, rfl, iteF ?_⟩
    refine ⟨_, rfl, true, .inr (.inl ⟨_, SqT.of ha, rfl⟩), iteF ?_⟩
    refine ⟨_, rfl, a, _, _, _, rfl, rfl, SqT.of ha, rfl, ?_⟩
    refine ⟨_, rfl, _, _, _, _, true, rfl, .ty "str", .base (.str _), kit_ty (by decide +kernel), true, rfl, iteF ?_⟩
    refine ⟨_, rfl, a, _, rfl, .inr (SqT.of ha), _, rfl, it, _, _, rfl, rfl, T.kg _ _ ch_it, rfl, _, rfl, iteNS rfl ?_⟩
    refine ⟨_, rfl, rfl, _, rfl, iteTb (by decide +kernel) ?_⟩
    refine ⟨_, rfl, a, _, _, _, rfl, rfl, SqT.of ha, rfl, _, _, _, _, true, rfl, .ty "tuple", .base (.tup hb), kit_ty (by decide +kernel), true, rfl, iteT ?_⟩
    exact ⟨_, rfl, a, _, _, _, rfl, rfl, SqT.of ha, rfl, _, _, _, _, true, rfl, .ty "tuple", .base (.tup hc), kit_ty (by decide +kernel), q⟩
theorem wd_in (w : Wd) : inV (V.str w.s) [V.str "lock", V.str "unlock"] = false := by cases w <;> decide +kernel
theorem lk_in (b : Bool) : inV (V.str (lockS b)) [V.str "lock", V.str "unlock"] = true := by cases b <;> decide +kernel
theorem ch_in : inV (V.str "choose") [V.str "lock", V.str "unlock"] = false := by decide +kernel
theorem lk_tk (b : Bool) : decide (V.str (lockS b) = V.str "take") = false := by cases b <;> decide +kernel
theorem wd_tk (w : Wd) : decide (V.str w.s = V.str "take") = decide (w = .take) := by cases w <;> decide +kernel
theorem scFO : FnScope ["statement", "place", "earlier", "held", "word"] ["statement", "place", "earlier", "held"] (defScope sFault) := ⟨rfl, rfl, rfl, by decide +kernel, rfl, by decide +kernel, by decide +kernel⟩
theorem ok_fault {f fF fN : Addr} {fd fdF fdN : FuncData} (F : Fun K "fault_of" "fault_of" sFault f fd) (B : Bl mg) (T : Txt K w mg CS CK it)
    (GF : FnOk P w K mg base CX0 1 fF fdF ["statement"] spForm) (bF : Binds K fdF ["statement"] []) (kF : PySem.W.keepIn K (.ref fF) = true) (mF : mg "has_form" = some (.ref fF))
    (GN : FnOk P w K mg base CX0 1 fN fdN ["value"] spIsName) (bN : Binds K fdN ["value"] []) (kN : PySem.W.keepIn K (.ref fN) = true) (mN : mg "is_name" = some (.ref fN)) :
    FnOk P w K mg base CX0 2 f fd ["statement", "place", "earlier", "held"] spFault := by
  refine F.ok scFO (fun vs H Q E h => ?_) (fun cdv A outer s H vs Q E hr h => ?_)
  · obtain ⟨v, u, e, h, s, d, p, rfl, _⟩ := h
    rfl
  obtain ⟨v, u, e, h, s, d, p, rfl, hs, hu, hp, e8, ok, q⟩ := h
  obtain ⟨t1, g1⟩ := T.mSt
  obtain ⟨t2, g2⟩ := T.mNe
  obtain ⟨t3, g3⟩ := T.mHe
  refine ⟨_, pss_cons (ps_if (pt_cmpR op_eq (pv 2) (pe_glob (v := .int 8) (by rfl) g1 ⟨_, rfl⟩) (nomark _)) (pss_one (ps_ret pe_str)) pss_nil)
    (pss_cons (ps_if (pt_not (pt_val (pe_call GF hr rfl mF kF bF .nil pass0 (pa_cons (pv 0) pa_nil)))) (pss_one (ps_ret pe_str)) pss_nil)
    (pss_cons (ps_set (i := 4) scFO.nd rfl (Or.inl rfl) (pe_ix ix_tup (pv 0) pe_int (fun _ _ => rfl)))
    (pss_cons (ps_if (PW.pt (pw_and (pt_cmpR op_eq (pv 4) pe_str (nomark _)) (pw_and1 (pt_cmpR op_eq (pe_op op_fdivN (pe_callB call_len_seq (by rfl) B.len PySem.boot_len (pa_cons (pv 1) pa_nil)) pe_int) (pe_glob (v := .int 2) (by rfl) g2 ⟨_, rfl⟩) (nomark _))))) (pss_one (ps_ret pe_str)) pss_nil)
    (pss_cons (ps_if (PW.pt (pw_and (pt_cmpR op_in_seq (pv 4) (pe_tup (pa_cons pe_str (pa_cons pe_str pa_nil))) (by rfl)) (pw_and1 (pt_not (pt_val (pe_call GN hr rfl mN kN bN .nil pass0 (pa_cons (pe_ix ix_tup (pv 0) pe_int (fun _ _ => rfl)) pa_nil))))))) (pss_one (ps_ret pe_str)) pss_nil)
    (pss_cons (ps_if (PW.pt (pw_and (pt_cmpR op_eq (pv 4) pe_str (nomark _)) (pw_and1 (pt_cmpR op_eq (pv 3) (pe_glob (v := .int 3) (by rfl) g3 ⟨_, rfl⟩) (nomark _))))) (pss_one (ps_ret pe_str)) pss_nil)
    (pss_one (ps_ret pe_non))))))), ?_⟩
  have ne8 : decide (V.int e = V.int 8) = false := decide_eq_false (fun z => e8 (by injection z))
  refine ⟨_, rfl, rfl, _, rfl, iteFb ne8 ?_⟩
  refine ⟨_, rfl, v, s, rfl, hs, true, rfl, iteF ?_⟩
  cases s with
  | one wd =>
    rw [Stm.at] at hs
    obtain ⟨a, rfl, ha⟩ := hs
    rw [Stm.ok] at ok
    refine ⟨_, rfl, a, _, _, _, rfl, rfl, SqT.of ha, rfl, ?_⟩
    refine ⟨_, rfl, rfl, _, rfl, iteFb (wd_ne wd) ?_⟩
    refine ⟨_, rfl, (by show 2 ≤ sizeLine; decide), fun t ht => ⟨t, _, rfl, .inr (SqT.of upd_same), rfl, rfl, _, rfl, iteFb (wd_in wd) ?_⟩⟩
    refine ⟨_, rfl, rfl, _, rfl, ?_⟩
    rw [wd_tk]
    by_cases c : wd = .take
    · refine iteTb (decide_eq_true c) ⟨_, rfl, rfl, _, rfl, iteFb (decide_eq_false (fun z => ok c (by injection z))) (q _ (same_new ht _))⟩
    · exact iteFb (decide_eq_false c) (q _ (same_new ht _))
  | nam b z =>
    rw [Stm.at] at hs
    obtain ⟨a, rfl, ha⟩ := hs
    rw [Stm.ok] at ok
    refine ⟨_, rfl, a, _, _, _, rfl, rfl, SqT.of ha, rfl, ?_⟩
    refine ⟨_, rfl, rfl, _, rfl, iteFb (lk_ne b) ?_⟩
    refine ⟨_, rfl, (by show 2 ≤ sizeLine; decide), fun t ht => ⟨t, _, rfl, .inr (SqT.of upd_same), rfl, rfl, _, rfl, iteTb (lk_in b) ?_⟩⟩
    refine ⟨_, rfl, a, _, _, _, rfl, rfl, SqT.of ((same_new ht _) a _ ha), rfl, z, rfl, Nat.le_trans ok.2.1 (by decide), fun H2 s2 => ⟨_, rfl, ?_⟩⟩
    rw [nameB_of ok]
    refine iteF ⟨_, rfl, rfl, _, rfl, iteFb (lk_tk b) (q _ ((same_new ht _).trans s2))⟩
  | ch y n =>
    rw [Stm.at] at hs
    obtain ⟨a, b, c, xs, ys, rfl, ha, hb, _, hc, _⟩ := hs
    rw [Stm.ok] at ok
    refine ⟨_, rfl, a, _, _, _, rfl, rfl, SqT.of ha, rfl, ?_⟩
    refine ⟨_, rfl, rfl, _, rfl, iteTb (by decide +kernel) ?_⟩
    refine ⟨_, rfl, u, _, rfl, .inr (SqT.of hu), _, _, rfl, rfl, ⟨by decide, by decide⟩, rfl, _, rfl, ?_⟩
    have e1 : ((p.length : Nat) : Int).fdiv 2 = d := by
      rw [hp, Int.fdiv_eq_ediv_of_nonneg _ (by decide)]; omega
    refine iteFb ?_ ?_
    · show decide (V.int (((p.length : Nat) : Int).fdiv 2) = V.int 2) = false
      rw [e1]
      exact decide_eq_false (fun z => by injection z with z; omega)
    · refine ⟨_, rfl, (by show 2 ≤ sizeLine; decide), fun t ht => ⟨t, _, rfl, .inr (SqT.of upd_same), rfl, rfl, _, rfl, iteFb ch_in ?_⟩⟩
      exact ⟨_, rfl, rfl, _, rfl, iteFb (by decide +kernel) (q _ (same_new ht _))⟩
end
end Tk
set_option maxRecDepth 100000
namespace Tk
open PySem L2
def CkE (CK : Addr) (H : Hp) (c dd : Addr) (W : List (Pl × Stm)) : Prop := (∃ dx, H c = some (.ins CK dx [("found", .ref dd)])) ∧ ∃ kvs, H dd = some (.dT kvs) ∧ FRel H kvs W
theorem CkE.keep {CK : Addr} {H H' : Hp} {c dd : Addr} {W : List (Pl × Stm)} (x : CkE CK H c dd W) (s : Same H H') : CkE CK H' c dd W := by
  obtain ⟨⟨dx, h1⟩, kvs, h2, h3⟩ := x
  exact ⟨⟨dx, s _ _ h1⟩, kvs, s _ _ h2, h3.keep (TK.of_same s)⟩
theorem Kp.tkD {dd : Addr} {H H' : Hp} {kvs : List (List Key × V)} (k : Kp dd H H') (hp : H dd = some (.dT kvs)) : TK H H' := fun a xs h => k a _ h (ne_of h hp (by intro z; cases z))
abbrev psKB : List Str := ["self", "branch", "above", "held"]
abbrev psKS : List Str := ["self", "statement", "place", "held"]
def spKInit (CK : Addr) : Sp := fun vs H Q _ => ∃ c dx : Addr, vs = [.ref c] ∧ H c = some (.ins CK dx []) ∧ ∀ (dd : Addr) (H' : Hp), H dd = none → CkE CK H' c dd [] → (∀ b o, H b = some o → b ≠ c → H' b = some o) → Q .non H'
def spKS (CK : Addr) (m : Nat) : Sp := fun vs H Q _ => ∃ (c dd u : Addr) (v : V) (h : Int) (s : Stm) (d : Nat) (p : Pl) (W : List (Pl × Stm)), vs = [.ref c, v, .ref u, .int h] ∧ d + m = 3 ∧ d ≤ 2 ∧ CkE CK H c dd W ∧ s.at H v ∧ H u = some (.tup (p.map V.int)) ∧
  p.length = 2 * d + 1 ∧ s.ok d h ∧ W.length + s.cnt ≤ 8 ∧ (∀ q, lk W (p ++ q) = none) ∧ ∀ H', CkE CK H' c dd (W ++ s.walk p) → Kp dd H H' → Q (.int (s.held h)) H'
def spKB (CK : Addr) (m : Nat) : Sp := fun vs H Q _ => ∃ (c dd t u : Addr) (xs : List V) (h : Int) (B : List Stm) (d : Nat) (p : Pl) (W : List (Pl × Stm)), vs = [.ref c, .ref t, .ref u, .int h] ∧ d + m = 3 ∧ d ≤ 2 ∧ CkE CK H c dd W ∧ H t = some (.tup xs) ∧ atAll H xs B ∧ H u = some (.tup (p.map V.int)) ∧
  p.length = 2 * d ∧ okAll d B h ∧ W.length + cntAll B ≤ 8 ∧ (∀ j q, lk W (p ++ j :: q) = none) ∧ ∀ H', CkE CK H' c dd (W ++ walkAll B p 0) → Kp dd H H' → Q (.int (heldAll B h)) H'
theorem small {n : Nat} (h : n ≤ 1000) : n ≤ sizeLine := Nat.le_of_lt (small1000 h)
section
variable {P : Program} {w : World} {K : PySem.W.Frag} {mg : Str → Option Value} {base : Heap} {CS CK it : Addr}
theorem scKI : FnScope ["self"] ["self"] (defScope sKInit) := ⟨rfl, rfl, rfl, by decide +kernel, rfl, by decide +kernel, by decide +kernel⟩
theorem ok_kinit {f : Addr} {fd : FuncData} (F : Fun K "__init__" "Check.__init__" sKInit f fd) (T : Txt K w mg CS CK it) : FnOk P w K mg base CX0 1 f fd ["self"] (spKInit CK) := by
  refine F.ok scKI (fun vs H Q E h => ?_) (fun cdv A outer s H vs Q E hr h => ?_)
  · obtain ⟨c, dx, rfl, _⟩ := h
    rfl
  obtain ⟨c, dx, rfl, hc, q⟩ := h
  refine ⟨_, pss_one (ps_fld (pv 0) pe_dnewT rfl), ?_⟩
  intro dd hd
  have n : c ≠ dd := ne_of_none hc hd
  refine ⟨_, rfl, c, CK, dx, [], rfl, (by rw [upd_ne n]; exact hc), T.clK, T.kF, (by show 0 < 1000; decide), ?_⟩
  refine q dd _ hd ⟨⟨dx, upd_same⟩, [], by rw [upd_ne n.symm, upd_same], trivial⟩ fun b o e hb => ?_
  rw [upd_ne hb, upd_ne (ne_of_none e hd)]
  exact e
/-- above + (index,) : what follows gets the new place -/
theorem cat_one {H : Hp} {u : Addr} {p : Pl} {j : Int} {X : V → Hp → Prop} (hu : H u = some (.tup (p.map V.int))) (hp : p.length ≤ 10) (k : ∀ y H', H' y = some (.tup ((p ++ [j]).map V.int)) → Same H H' → X (.ref y) H') :
    ∀ t, H t = none → rCatA K (.ref u) (.ref t) (L2.upd H t (.tup [.int j])) X := by
  intro t ht
  have s1 := same_new ht (.tup [.int j])
  refine ⟨u, t, _, _, rfl, rfl, SqT.of (s1 _ _ hu), SqT.of upd_same, small (by simp; omega), (fun e => ?_), (fun _ e => nomatch e), fun _ _ z hz => ?_⟩
  · refine k t _ ?_ s1
    have e' : p = [] := List.map_eq_nil_iff.mp e
    rw [upd_same, e']; rfl
  · refine k z _ ?_ (s1.trans (same_new hz _))
    rw [upd_same, List.map_append]; rfl
theorem scKB : FnScope ["self", "branch", "above", "held", "index", "statement"] psKB (defScope sKBr) := ⟨rfl, rfl, rfl, by decide +kernel, rfl, by decide +kernel, by decide +kernel⟩
theorem ok_kbr {m n : Nat} {f fS : Addr} {fd fdS : FuncData} (F : Fun K "check_branch" "Check.check_branch" sKBr f fd) (T : Txt K w mg CS CK it) (GS : FnOk P w K mg base CX0 n fS fdS psKS (spKS CK m)) (bS : Binds K fdS psKS []) (mS : Meth K CK "check_statement" fS) :
    FnOk P w K mg base CX0 (n + 1) f fd psKB (spKB CK m) := by
  refine F.ok scKB (fun vs H Q E h => ?_) (fun cdv A outer s H vs Q E hr h => ?_)
  · obtain ⟨c, dd, t, u, xs, h, B, d, p, W, rfl, _⟩ := h
    rfl
  obtain ⟨c, dd, t, u, xs, h, B, d, p, W, rfl, hd3, hd2, C, ht, hB, hu, hp, ok, hn, hW, q⟩ := h
  refine ⟨_, pss_cons (ps_for PassesOwn.never rfl (pi_enumT rfl T.enum (pa_cons (pv 1) pa_nil)) (pg_tup rfl (pgs_cons (pg_name (i := 4) scKB.nd rfl (.inl rfl)) (pgs_cons (pg_name (i := 5) scKB.nd rfl (.inl rfl)) pgs_nil)))
      (pss_one (ps_set (i := 3) scKB.nd rfl (Or.inl rfl) (pe_meth (pv 0) T.clK mS GS hr bS .nil pass0 (pa_cons (pv 5) (pa_cons (pe_op op_catA (pv 2) (pe_tup (pa_cons (pv 4) pa_nil))) (pa_cons (pv 3) pa_nil)))))))
    (pss_one (ps_ret (pv 3))), ?_⟩
  have hl := atAll_len hB
  have hb8 : B.length ≤ 8 := Nat.le_trans (len_le_cnt B) (by omega)
  refine ⟨_, rfl, t, xs, rfl, SqT.of ht, for_enumT (xs := xs) (fun i σ H2 => ∃ v4 v5 : Option V, σ = [some (.ref c), some (.ref t), some (.ref u), some (.int (heldAll (B.take i) h)), v4, v5] ∧ i ≤ B.length ∧ CkE CK H2 c dd (W ++ walkAll (B.take i) p 0) ∧ Kp dd H H2) ?_ ?_ ?_ ?_⟩
  · exact ⟨none, none, by rw [List.take_zero, heldAll]; rfl, Nat.zero_le _, by rw [List.take_zero, walkAll, List.append_nil]; exact C, Kp.refl _ _⟩
  · rintro i σ H2 _ ⟨v4, v5, rfl, _, C2, k2⟩
    obtain ⟨_, kvs, hk, _⟩ := C
    exact SqT.of (k2.tkD hk _ _ ht)
  · rintro i x Tp σ H2 hx ⟨v4, v5, rfl, hi, C2, k2⟩ hT
    obtain ⟨_, kvs, hk, _⟩ := id C
    have tk := k2.tkD hk
    have lt : i < B.length := by have := (List.getElem?_eq_some_iff.mp hx).1; omega
    have hs : B[i]? = some B[i] := List.getElem?_eq_getElem lt
    obtain ⟨v, hv, sv⟩ := atAll_get hB hs
    have exv : x = v := Option.some.inj (hx.symm.trans hv)
    subst exv
    have s1 := same_new hT (.tup [.int (i : Nat), x])
    have et : B.take (i + 1) = B.take i ++ [B[i]] := by rw [List.take_add_one, hs]; rfl
    have okB : okAll d (B.take i) h ∧ B[i].ok d (heldAll (B.take i) h) := by
      have z : B = B.take i ++ (B[i] :: B.drop (i + 1)) := by rw [← List.drop_eq_getElem_cons lt, List.take_append_drop]
      have app : ∀ (X Y : List Stm) (h : Int), okAll d (X ++ Y) h → okAll d X h ∧ okAll d Y (heldAll X h) := by
        intro X
        induction X with
        | nil => intro Y h g; exact ⟨by rw [okAll]; trivial, by rw [heldAll]; exact g⟩
        | cons a r ih =>
          intro Y h g
          have g' : okAll d (a :: (r ++ Y)) h := g
          rw [okAll] at g'
          obtain ⟨g1, g2⟩ := ih Y _ g'.2
          exact ⟨by rw [okAll]; exact ⟨g'.1, g1⟩, by rw [heldAll]; exact g2⟩
      rw [z] at ok
      obtain ⟨o1, o2⟩ := app _ _ _ ok
      rw [okAll] at o2
      exact ⟨o1, o2.1⟩
    refine ⟨Tp, _, rfl, SqT.of upd_same, rfl, _, _, rfl, _, _, rfl, rfl, ?_⟩
    obtain ⟨⟨dx, hc⟩, _⟩ := C2.keep s1
    refine ⟨_, rfl, c, dx, _, rfl, hc, rfl, _, rfl, _, rfl, _, rfl, (by show 1 ≤ sizeLine; decide), ?_⟩
    refine fun t2 ht2 => cat_one (p := p) (j := (i : Nat)) (s1 _ _ (tk _ _ hu)) (by omega) (fun y H3 hy s3 => ?_) t2 ht2
    have s13 := s1.trans s3
    have cn : cntAll (B.take i) + B[i].cnt ≤ cntAll B := by
      have z : B = B.take i ++ (B[i] :: B.drop (i + 1)) := by rw [← List.drop_eq_getElem_cons lt, List.take_append_drop]
      have z2 := congrArg cntAll z
      rw [cntAll_app, cntAll] at z2
      omega
    refine ⟨_, rfl, c, dd, y, x, _, B[i], d, p ++ [((i : Nat) : Int)], _, rfl, hd3, hd2, C2.keep s13, Stm.at_keep (tk.trans (TK.of_same s13)) _ _ sv, hy, by rw [List.length_append, hp]; rfl, okB.2, ?_, ?_, fun H4 C4 k4 => ?_⟩
    · rw [List.length_append, walkAll_len]; omega
    · intro q'
      have e : (p ++ [((i : Nat) : Int)]) ++ q' = p ++ ((i : Nat) : Int) :: q' := by simp
      rw [e, lk_app, hW, walkAll_lk]
      have z : nth (B.take i) (((i : Nat) : Int) - ((0 : Nat) : Int)) = none := by
        unfold nth
        rw [if_pos (by omega), List.getElem?_eq_none (by rw [List.length_take]; omega)]
      rw [z]; rfl
    · refine ⟨some (.int (i : Nat)), some x, ?_, lt, ?_, (k2.trans (Kp.of_same s13)).trans k4⟩
      · rw [et, heldAll_snoc]; rfl
      · rw [et, walkAll_snoc]
        have e : 0 + (B.take i).length = i := by rw [List.length_take]; omega
        rw [e, ← List.append_assoc]
        exact C4
  · rintro σ H2 ⟨v4, v5, rfl, hi, C2, k2⟩
    rw [hl, List.take_length] at C2
    refine ⟨_, rfl, ?_⟩
    rw [hl, List.take_length]
    exact q H2 C2 k2
theorem wd_lv (w : Wd) : inV (V.str w.s) [V.str "commit", V.str "rollback", V.str "leave"] = decide (w = .commit ∨ w = .rollback ∨ w = .leave) := by cases w <;> decide +kernel
theorem lk_lv (b : Bool) : inV (V.str (lockS b)) [V.str "commit", V.str "rollback", V.str "leave"] = false := by cases b <;> decide +kernel
def heldS (z : Str) (h : Int) : Int := if z = "take" then h + 1 else if inV (V.str z) [V.str "commit", V.str "rollback", V.str "leave"] = true then 0 else h
theorem heldS_wd (w : Wd) (h : Int) : heldS w.s h = w.held h := by
  unfold heldS
  rw [wd_lv]
  cases w <;> first | rfl | (rw [if_neg (by decide +kernel)]; rfl)
theorem heldS_lk (b : Bool) (h : Int) : heldS (lockS b) h = h := by
  unfold heldS
  rw [lk_lv]
  cases b <;> (rw [if_neg (by decide +kernel)]; rfl)
def spHeld : Sp := fun vs H Q _ => ∃ (z : Str) (h : Int), vs = [.str z, .int h] ∧ ∀ H', Same H H' → Q (.int (heldS z h)) H'
theorem scHA : FnScope ["word", "held"] ["word", "held"] (defScope sHeld) := ⟨rfl, rfl, rfl, by decide +kernel, rfl, by decide +kernel, by decide +kernel⟩
theorem ok_held {f : Addr} {fd : FuncData} (F : Fun K "held_after" "held_after" sHeld f fd) : FnOk P w K mg base CX0 1 f fd ["word", "held"] spHeld := by
  refine F.ok scHA (fun vs H Q E h => ?_) (fun cdv A outer s H vs Q E hr h => ?_)
  · obtain ⟨z, h, rfl, _⟩ := h
    rfl
  obtain ⟨z, h, rfl, q⟩ := h
  refine ⟨_, pss_cons (ps_if (pt_cmpR op_eq (pv 0) pe_str (nomark _)) (pss_one (ps_ret (pe_op op_add (pv 1) pe_int))) pss_nil)
    (pss_one (ps_ret (pe_ifExp (pt_cmpR op_in_seq (pv 0) (pe_tup (pa_cons pe_str (pa_cons pe_str (pa_cons pe_str pa_nil)))) (by rfl)) pe_int (pv 1)))), ?_⟩
  refine ⟨_, rfl, rfl, _, rfl, ?_⟩
  by_cases ct : z = "take"
  · subst ct
    exact iteTb (decide_eq_true rfl) ⟨_, rfl, _, _, rfl, rfl, by have := q H (Same.refl H); rwa [show heldS "take" h = h + 1 from rfl] at this⟩
  · refine iteFb (decide_eq_false (fun e => ct (V.str.inj e))) ?_
    refine ⟨_, rfl, (by show 3 ≤ sizeLine; decide), fun t htn => ⟨t, _, rfl, .inr (SqT.of upd_same), rfl, rfl, _, rfl, ?_⟩⟩
    have fin := q _ (same_new htn (.tup [.str "commit", .str "rollback", .str "leave"]))
    unfold heldS at fin
    rw [if_neg ct] at fin
    show if (inV (V.str z) [V.str "commit", V.str "rollback", V.str "leave"]) = true then _ else _
    by_cases c : inV (V.str z) [V.str "commit", V.str "rollback", V.str "leave"] = true
    · rw [if_pos c] at fin
      exact iteTb c fin
    · rw [if_neg c] at fin
      exact iteFb (by simpa using c) ⟨_, rfl, fin⟩
theorem scKS : FnScope ["self", "statement", "place", "held", "why", "yes", "no"] psKS (defScope sKSt) := ⟨rfl, rfl, rfl, by decide +kernel, rfl, by decide +kernel, by decide +kernel⟩
theorem ok_kst {m n : Nat} {f fB fF fH : Addr} {fd fdB fdF fdH : FuncData} (hn : 2 ≤ n) (F : Fun K "check_statement" "Check.check_statement" sKSt f fd) (B : Bl mg) (T : Txt K w mg CS CK it) (GB : FnOk P w K mg base CX0 n fB fdB psKB (spKB CK m)) (bB : Binds K fdB psKB []) (mB : Meth K CK "check_branch" fB)
    (GF : FnOk P w K mg base CX0 2 fF fdF ["statement", "place", "earlier", "held"] spFault) (bF : Binds K fdF ["statement", "place", "earlier", "held"] []) (kF : PySem.W.keepIn K (.ref fF) = true) (mF : mg "fault_of" = some (.ref fF))
    (GH : FnOk P w K mg base CX0 1 fH fdH ["word", "held"] spHeld) (bH : Binds K fdH ["word", "held"] []) (kH : PySem.W.keepIn K (.ref fH) = true) (mH : mg "held_after" = some (.ref fH)) :
    FnOk P w K mg base CX0 (n + 1) f fd psKS (spKS CK (m + 1)) := by
  refine F.ok scKS (fun vs H Q E h => ?_) (fun cdv A outer s H vs Q E hr h => ?_)
  · obtain ⟨c, dd, u, v, h, s, d, p, W, rfl, _⟩ := h
    rfl
  obtain ⟨c, dd, u, v, h, s, d, p, W, rfl, hd3, hd2, C, hs, hu, hp, ok, hn8, hW, q⟩ := h
  have hu' := hu_of hr
  have hr2 : Room 2 _ := hr.mono hn
  have hr1 : Room 1 _ := hr2.mono (by decide)
  refine ⟨_, pss_cons (ps_set (i := 4) scKS.nd rfl (Or.inl rfl) (pe_call GF hr2 rfl mF kF bF .nil pass0 (pa_cons (pv 1) (pa_cons (pv 2) (pa_cons (pe_callB call_len_dT (by rfl) B.len PySem.boot_len (pa_cons (pe_fld (pv 0) rfl) pa_nil)) (pa_cons (pv 3) pa_nil))))))
    (pss_cons (ps_if (pt_cmpR op_notN (pv 4) pe_non (nomark _)) (pss_one ps_never) pss_nil)
    (pss_cons (ps_dput hu' (pe_fld (pv 0) rfl) (pv 2) (pv 1) rfl)
    (pss_cons (ps_if (pt_cmpR op_eq (pe_ix ix_tup (pv 1) pe_int (fun _ _ => rfl)) pe_str (nomark _))
      (pss_cons (ps_set (i := 5) scKS.nd rfl (Or.inl rfl) (pe_meth (pv 0) T.clK mB GB hr bB .nil pass0 (pa_cons (pe_ix ix_tup (pv 1) pe_int (fun _ _ => rfl)) (pa_cons (pe_op op_catA (pv 2) (pe_tup (pa_cons pe_int pa_nil))) (pa_cons (pv 3) pa_nil)))))
      (pss_cons (ps_set (i := 6) scKS.nd rfl (Or.inl rfl) (pe_meth (pv 0) T.clK mB GB hr bB .nil pass0 (pa_cons (pe_ix ix_tup (pv 1) pe_int (fun _ _ => rfl)) (pa_cons (pe_op op_catA (pv 2) (pe_tup (pa_cons pe_int pa_nil))) (pa_cons (pv 3) pa_nil)))))
      (pss_one (ps_ret (pe_callB (call_max2 rfl) (by rfl) B.max (by decide +kernel) (pa_cons (pv 5) (pa_cons (pv 6) pa_nil))))))) pss_nil)
    (pss_one (ps_ret (pe_call GH hr1 rfl mH kH bH .nil pass0 (pa_cons (pe_ix ix_tup (pv 1) pe_int (fun _ _ => rfl)) (pa_cons (pv 3) pa_nil)))))))), ?_⟩
  obtain ⟨⟨dx, hc⟩, kvs, hk, fr⟩ := id C
  have wl := fr.len
  have sp := cnt_pos s
  refine ⟨_, rfl, _, rfl, _, rfl, c, CK, dx, _, _, rfl, hc, T.clK, T.kF, rfl, dd, kvs, rfl, hk, _, rfl, v, u, _, h, s, d, _, rfl, hs, hu, by rw [List.length_map]; exact hp, by omega, ok, fun H1 s1 => ?_⟩
  refine ⟨_, rfl, rfl, _, rfl, iteF ?_⟩
  have ekv : (key p).map kV = p.map V.int := key_kV p
  have nodd : c ≠ dd := ne_of (s1 _ _ hc) (s1 _ _ hk) (by intro z; cases z)
  refine ⟨_, rfl, _, rfl, c, CK, dx, _, _, rfl, s1 _ _ hc, T.clK, T.kF, rfl, _, rfl, dd, _, rfl, DPut.t (k := key p) (s1 _ _ hk) (by rw [ekv]; exact s1 _ _ hu) (small1000 (by omega)), ?_⟩
  have non : valV kvs (key p) = none := (fr.val p).1 (by have := hW []; rwa [List.append_nil] at this)
  rw [putK_new _ non]
  have k2 : Kp dd H (L2.upd H1 dd (.dT (kvs ++ [(key p, v)]))) := (Kp.of_same s1).trans Kp.upd
  have tk2 : TK H (L2.upd H1 dd (.dT (kvs ++ [(key p, v)]))) := k2.tkD hk
  have C2 : CkE CK (L2.upd H1 dd (.dT (kvs ++ [(key p, v)]))) c dd (W ++ [(p, s)]) := ⟨⟨dx, by rw [upd_ne nodd]; exact s1 _ _ hc⟩, _, upd_same, FRel.snoc (Stm.at_keep tk2 _ _ hs) (fr.keep tk2)⟩
  generalize L2.upd H1 dd (.dT (kvs ++ [(key p, v)])) = H2 at k2 tk2 C2 ⊢
  have hs2 := Stm.at_keep tk2 _ _ hs
  have hu2 := tk2 _ _ hu
  cases s with
  | one wd =>
    rw [Stm.at] at hs2
    obtain ⟨a, rfl, ha⟩ := hs2
    have ew : (Stm.one wd).walk p = [(p, .one wd)] := by rw [Stm.walk]
    have eh : (Stm.one wd).held h = wd.held h := by rw [Stm.held]
    rw [ew, eh] at q
    refine ⟨_, rfl, a, _, _, _, rfl, rfl, SqT.of ha, rfl, ?_⟩
    refine ⟨rfl, _, rfl, iteFb (wd_ne wd) ?_⟩
    refine ⟨_, rfl, a, _, _, _, rfl, rfl, SqT.of ha, rfl, _, rfl, _, _, rfl, fun H3 s3 => ?_⟩
    rw [heldS_wd]
    exact q _ (C2.keep s3) (k2.trans (Kp.of_same s3))
  | nam b z =>
    rw [Stm.at] at hs2
    obtain ⟨a, rfl, ha⟩ := hs2
    have ew : (Stm.nam b z).walk p = [(p, .nam b z)] := by rw [Stm.walk]
    have eh : (Stm.nam b z).held h = h := by rw [Stm.held]
    rw [ew, eh] at q
    refine ⟨_, rfl, a, _, _, _, rfl, rfl, SqT.of ha, rfl, ?_⟩
    refine ⟨rfl, _, rfl, iteFb (lk_ne b) ?_⟩
    refine ⟨_, rfl, a, _, _, _, rfl, rfl, SqT.of ha, rfl, _, rfl, _, _, rfl, fun H3 s3 => ?_⟩
    rw [heldS_lk]
    exact q _ (C2.keep s3) (k2.trans (Kp.of_same s3))
  | ch y n' =>
    rw [Stm.at] at hs2
    obtain ⟨a, b1, b2, xs, ys, rfl, ha, hb1, aty, hb2, atn⟩ := hs2
    have ew : (Stm.ch y n').walk p = (p, .ch y n') :: (walkAll y (p ++ [0]) 0 ++ walkAll n' (p ++ [1]) 0) := by rw [Stm.walk]
    have eh : (Stm.ch y n').held h = max (heldAll y h) (heldAll n' h) := by rw [Stm.held]
    have ec : (Stm.ch y n').cnt = 1 + cntAll y + cntAll n' := by rw [Stm.cnt]
    rw [ew, eh] at q
    rw [ec] at hn8
    rw [Stm.ok] at ok
    refine ⟨_, rfl, a, _, _, _, rfl, rfl, SqT.of ha, rfl, ?_⟩
    refine ⟨rfl, _, rfl, iteTb (by decide +kernel) ?_⟩
    obtain ⟨dx2, hc2⟩ := C2.1
    have kvd : ∃ kv2, H2 dd = some (.dT kv2) := let ⟨_, x, y, _⟩ := C2; ⟨x, y⟩
    obtain ⟨kv2, hk2⟩ := kvd
    refine ⟨_, rfl, c, dx2, _, rfl, hc2, rfl, _, rfl, a, _, _, _, rfl, rfl, SqT.of ha, rfl, _, rfl, (by show 1 ≤ sizeLine; decide), ?_⟩
    refine fun t2 ht2 => cat_one (p := p) (j := 0) hu2 (by omega) (fun y1 H3 hy1 s3 => ?_) t2 ht2
    have tk3 := TK.of_same s3
    refine ⟨_, rfl, c, dd, b1, y1, xs, h, y, d + 1, p ++ [0], W ++ [(p, .ch y n')], rfl, by omega, by omega, C2.keep s3, s3 _ _ hb1, atAll_keep tk3 _ _ aty, hy1, by rw [List.length_append, hp]; show 2 * d + 1 + 1 = _; omega, ok.2.1, by rw [List.length_append]; show W.length + 1 + cntAll y ≤ 8; omega, ?_, fun H4 C4 k4 => ?_⟩
    · intro j q'
      have e : (p ++ [(0 : Int)]) ++ j :: q' = p ++ ((0 : Int) :: j :: q') := by simp
      rw [lk_app, e, hW, lk, if_neg (fun z => by have := congrArg List.length z; simp at this), lk]; rfl
    have tk4 : TK H3 H4 := k4.tkD (s3 _ _ hk2)
    have tk34 := tk3.trans tk4
    obtain ⟨dx4, hc4⟩ := C4.1
    refine ⟨_, rfl, c, dx4, _, rfl, hc4, rfl, _, rfl, a, _, _, _, rfl, rfl, SqT.of (tk34 _ _ ha), rfl, _, rfl, (by show 1 ≤ sizeLine; decide), ?_⟩
    refine fun t5 ht5 => cat_one (p := p) (j := 1) (tk34 _ _ hu2) (by omega) (fun y2 H5 hy2 s5 => ?_) t5 ht5
    have tk5 := tk34.trans (TK.of_same s5)
    refine ⟨_, rfl, c, dd, b2, y2, ys, h, n', d + 1, p ++ [1], _, rfl, by omega, by omega, C4.keep s5, tk5 _ _ hb2, atAll_keep tk5 _ _ atn, hy2, by rw [List.length_append, hp]; show 2 * d + 1 + 1 = _; omega, ok.2.2, by rw [List.length_append, List.length_append, walkAll_len]; show W.length + 1 + cntAll y + cntAll n' ≤ 8; omega, ?_, fun H6 C6 k6 => ?_⟩
    · intro j q'
      have e : (p ++ [(1 : Int)]) ++ j :: q' = p ++ ((1 : Int) :: j :: q') := by simp
      have z := walkAll_none y (p ++ [0]) 0 (p ++ ((1 : Int) :: j :: q')) (fun j' q'' => pre_ne (by decide) _)
      rw [lk_app, lk_app, e, z, hW, lk, if_neg (fun z => by have := congrArg List.length z; simp at this), lk]; rfl
    refine ⟨_, rfl, _, rfl, _, _, rfl, ?_⟩
    show Q (.int (if heldAll n' h > heldAll y h then heldAll n' h else heldAll y h)) H6
    rw [max_if]
    refine q H6 ?_ ((((k2.trans (Kp.of_same s3)).trans k4).trans (Kp.of_same s5)).trans k6)
    have e : W ++ (p, Stm.ch y n') :: (walkAll y (p ++ [0]) 0 ++ walkAll n' (p ++ [1]) 0) = W ++ [(p, .ch y n')] ++ walkAll y (p ++ [0]) 0 ++ walkAll n' (p ++ [1]) 0 := by simp
    rw [e]
    exact C6
end
end Tk
set_option maxRecDepth 100000
namespace Tk
open PySem L2
/-! ## a Script -/
theorem k1 : ¬ (("statements" : Str) = "found") := by decide +kernel
theorem k2' : ¬ (("statements" : Str) = "places") := by decide +kernel
theorem k3 : ¬ (("found" : Str) = "places") := by decide +kernel
def flds (t dd pl : Addr) : List (Str × V) := [("statements", .ref t), ("found", .ref dd), ("places", .ref pl)]
theorem flds_put (t dd pl : Addr) : putF "places" (.ref pl) (putF "found" (.ref dd) (putF "statements" (.ref t) [])) = flds t dd pl := by
  simp only [putF, if_neg k1, if_neg k2', if_neg k3]
  rfl
theorem flds_st (t dd pl : Addr) : (flds t dd pl).lookup ("statements" : Str) = some (.ref t) := by
  rw [← flds_put, lookup_putF, if_neg (by decide +kernel), lookup_putF, if_neg (by decide +kernel), lookup_putF, if_pos rfl]
theorem flds_fo (t dd pl : Addr) : (flds t dd pl).lookup ("found" : Str) = some (.ref dd) := by
  rw [← flds_put, lookup_putF, if_neg (by decide +kernel), lookup_putF, if_pos rfl]
theorem flds_pl (t dd pl : Addr) : (flds t dd pl).lookup ("places" : Str) = some (.ref pl) := by
  rw [← flds_put, lookup_putF, if_pos rfl]
theorem flds_no (t dd pl : Addr) {m : Str} (h1 : ¬ m = "statements") (h2 : ¬ m = "found") (h3 : ¬ m = "places") : (flds t dd pl).lookup m = none := by
  rw [← flds_put, lookup_putF, if_neg h3, lookup_putF, if_neg h2, lookup_putF, if_neg h1]; rfl
/-- x is the Script of the statements S, which stand at t -/
structure Sc (CS : Addr) (H : Hp) (x t : Addr) (S : List Stm) : Prop where
  ex : ∃ dx dd pl bs kvs xs, H x = some (.ins CS dx (flds t dd pl)) ∧ H t = some (.tup xs) ∧ atAll H xs S ∧ H dd = some (.dT kvs) ∧ FRel H kvs (walkAll S [] 0) ∧ H pl = some (.tup (bs.map V.ref)) ∧ IsKeys H kvs bs
  ne : S ≠ []
  ok : okAll 0 S 0
  few : cntAll S ≤ 8
theorem keys_keep {H H' : Hp} {kvs : List (List Key × V)} {bs : List Addr} (k : TK H H') (h : IsKeys H kvs bs) : IsKeys H' kvs bs := by
  unfold IsKeys at h ⊢
  exact L2.Paired.mapP h fun a b q => k _ _ q
theorem Sc.keep {CS : Addr} {H H' : Hp} {x t : Addr} {S : List Stm} (h : Sc CS H x t S) (s : Same H H') : Sc CS H' x t S := by
  obtain ⟨⟨dx, dd, pl, bs, kvs, xs, h1, h2, h3, h4, h5, h6, h7⟩, a, b, c⟩ := h
  have tk := TK.of_same s
  exact ⟨⟨dx, dd, pl, bs, kvs, xs, s _ _ h1, s _ _ h2, atAll_keep tk _ _ h3, s _ _ h4, h5.keep tk, s _ _ h6, keys_keep tk h7⟩, a, b, c⟩
theorem Sc.kp {CS p : Addr} {H H' : Hp} {x t : Addr} {S : List Stm} {ys : List V} (h : Sc CS H x t S) (s : Kp p H H') (hp : H p = some (.lst ys)) : Sc CS H' x t S := by
  obtain ⟨⟨dx, dd, pl, bs, kvs, xs, h1, h2, h3, h4, h5, h6, h7⟩, a, b, c⟩ := h
  have tk := s.tk hp
  exact ⟨⟨dx, dd, pl, bs, kvs, xs, s _ _ h1 (ne_of h1 hp (by intro z; cases z)), tk _ _ h2, atAll_keep tk _ _ h3, s _ _ h4 (ne_of h4 hp (by intro z; cases z)), h5.keep tk, tk _ _ h6, keys_keep tk h7⟩, a, b, c⟩
/-- values by their kinds -/
inductive Kd (H : Hp) : V → String → Prop
  | non : Kd H .non "NoneType"
  | bl (b : Bool) : Kd H (.bl b) "bool"
  | int (i : Int) : Kd H (.int i) "int"
  | str (z : Str) : Kd H (.str z) "str"
  | lst {a : Addr} {xs : List V} (e : H a = some (.lst xs)) : Kd H (.ref a) "list"
  | tup {a : Addr} {xs : List V} (e : H a = some (.tup xs)) : Kd H (.ref a) "tuple"
  | dK {a : Addr} {kvs : List (Key × V)} (e : H a = some (.dK kvs)) : Kd H (.ref a) "dict"
theorem Kd.ty {K : PySem.W.Frag} {H : Hp} {v : V} {T : String} (k : Kd H v T) : TyX K H v (.type T) := by
  cases k with
  | non => exact .base .non
  | bl b => exact .base (.bl b)
  | int i => exact .base (.int i)
  | str z => exact .base (.str z)
  | lst e => exact .base (.lst e)
  | tup e => exact .base (.tup e)
  | dK e => exact .base (.dK e)
theorem Kd.keep {H H' : Hp} {v : V} {T : String} (s : Same H H') (k : Kd H v T) : Kd H' v T := by
  cases k with
  | non => exact .non
  | bl b => exact .bl b
  | int i => exact .int i
  | str z => exact .str z
  | lst e => exact .lst (s _ _ e)
  | tup e => exact .tup (s _ _ e)
  | dK e => exact .dK (s _ _ e)
def intB : V → Bool
  | .int _ => true
  | _ => false
theorem Kd.intB {H : Hp} {v : V} {T : String} (k : Kd H v T) : ∃ b1 b2, kitB T "int" = some b1 ∧ kitB T "bool" = some b2 ∧ (b1 && !b2) = Tk.intB v := by
  cases k with
  | non => exact ⟨false, false, by decide +kernel, by decide +kernel, rfl⟩
  | bl b => exact ⟨true, true, by decide +kernel, by decide +kernel, rfl⟩
  | int i => exact ⟨true, false, by decide +kernel, by decide +kernel, rfl⟩
  | str z => exact ⟨false, false, by decide +kernel, by decide +kernel, rfl⟩
  | lst e => exact ⟨false, false, by decide +kernel, by decide +kernel, rfl⟩
  | tup e => exact ⟨false, false, by decide +kernel, by decide +kernel, rfl⟩
  | dK e => exact ⟨false, false, by decide +kernel, by decide +kernel, rfl⟩
def spSInit (CS : Addr) : Sp := fun vs H Q _ => ∃ (x t dx : Addr) (xs : List V) (S : List Stm), vs = [.ref x, .ref t] ∧ H x = some (.ins CS dx []) ∧ H t = some (.tup xs) ∧ atAll H xs S ∧ S ≠ [] ∧ okAll 0 S 0 ∧ cntAll S ≤ 8 ∧
  ∀ H', Sc CS H' x t S → Kp x H H' → Q .non H'
def spHas (CS : Addr) : Sp := fun vs H Q _ => ∃ (x t : Addr) (v : V) (S : List Stm), vs = [.ref x, v] ∧ Sc CS H x t S ∧
  ((∃ T, Kd H v T ∧ kitB T "tuple" = some false ∧ Q (.bl false) H) ∨
   ∃ (u : Addr) (xs : List V), v = .ref u ∧ H u = some (.tup xs) ∧ xs.length ≤ 100 ∧ (∀ y ∈ xs, ∃ T, Kd H y T) ∧ (xs.all intB = false → ∀ H', Same H H' → Q (.bl false) H') ∧ (∀ p, xs = p.map V.int → ∀ H', Same H H' → Q (.bl (look S p).isSome) H'))
/-- a place that is there -/
def spGet (CS : Addr) : Sp := fun vs H Q _ => ∃ (x t u : Addr) (S : List Stm) (p : Pl) (s : Stm), vs = [.ref x, .ref u] ∧ Sc CS H x t S ∧ H u = some (.tup (p.map V.int)) ∧ p.length ≤ 100 ∧ look S p = some s ∧
  ∀ (v : V) (H' : Hp), Same H H' → s.at H' v → Q v H'
def spSLen (CS : Addr) : Sp := fun vs H Q _ => ∃ (x t : Addr) (S : List Stm), vs = [.ref x] ∧ Sc CS H x t S ∧ Q (.int (cntAll S : Nat)) H
section
variable {P : Program} {w : World} {K : PySem.W.Frag} {mg : Str → Option Value} {base : Heap} {CS CK it : Addr}
theorem scSI : FnScope ["self", "statements", "check"] ["self", "statements"] (defScope sSInit) := ⟨rfl, rfl, rfl, by decide +kernel, rfl, by decide +kernel, by decide +kernel⟩
theorem ok_sinit {f fI fB : Addr} {fd fdI fdB : FuncData} (F : Fun K "__init__" "Script.__init__" sSInit f fd) (B : Bl mg) (T : Txt K w mg CS CK it) (M : Mk K CK fI) (GI : FnOk P w K mg base CX0 1 fI fdI ["self"] (spKInit CK)) (bI : Binds K fdI ["self"] [])
    (GB : FnOk P w K mg base CX0 8 fB fdB psKB (spKB CK 3)) (bB : Binds K fdB psKB []) (mB : Meth K CK "check_branch" fB) : FnOk P w K mg base CX0 9 f fd ["self", "statements"] (spSInit CS) := by
  refine F.ok scSI (fun vs H Q E h => ?_) (fun cdv A outer s H vs Q E hr h => ?_)
  · obtain ⟨x, t, dx, xs, S, rfl, _⟩ := h
    rfl
  obtain ⟨x, t, dx, xs, S, rfl, hx, ht, hS, ne, ok, few, q⟩ := h
  have hr2 : Room 2 _ := hr.mono (by decide)
  refine ⟨_, pss_cons (ps_if (pt_not (pt_val (pe_callB call_isi (by rfl) T.isi (by decide +kernel) (pa_cons (pv 1) (pa_cons (pe_bltn (v := .ty "tuple") (by rfl) B.tuple (by decide +kernel) rfl) pa_nil))))) (pss_one ps_never) pss_nil)
    (pss_cons (ps_if (pt_not (pt_truth (pv 1) (by intro _; rfl))) (pss_one ps_never) pss_nil)
    (pss_cons (ps_set (i := 2) scSI.nd rfl (Or.inl rfl) (pe_make0 M GI hr2 rfl T.mgK bI .nil pass0))
    (pss_cons (ps_expr (pe_meth (pv 2) T.clK mB GB hr bB .nil pass0 (pa_cons (pv 1) (pa_cons (pe_tup pa_nil) (pa_cons pe_int pa_nil)))))
    (pss_cons (ps_fld (pv 0) (pv 1) rfl)
    (pss_cons (ps_fld (pv 0) (pe_fld (pv 2) rfl) rfl)
    (pss_one (ps_fld (pv 0) (pe_callTy call_tuple_of (by rfl) B.tuple (by decide +kernel) (pa_cons (pe_callTy (call_list_dT rfl) (by rfl) T.list (by decide +kernel) (pa_cons (pe_fld (pv 0) rfl) pa_nil)) pa_nil)) rfl))))))), ?_⟩
  refine ⟨_, rfl, _, _, _, _, true, rfl, .ty "tuple", .base (.tup ht), kit_ty (by decide +kernel), true, rfl, iteF ?_⟩
  have nx : xs.isEmpty = false := by
    have hl := atAll_len hS
    cases xs with
    | nil => exact absurd (List.length_eq_zero_iff.mp hl.symm) ne
    | cons _ _ => rfl
  refine ⟨_, rfl, true, .inr (.inl ⟨_, SqT.of ht, by rw [nx]; rfl⟩), iteF ?_⟩
  intro c dc nc ndc ndcc
  refine ⟨c, dc, rfl, upd_same, fun dd H1 hdd C k1 => ⟨rfl, ?_⟩⟩
  have s0 : Same H (L2.upd (L2.upd H dc (.own c)) c (.ins CK dc [])) := fun b o e => by
    rw [upd_ne (ne_of_none e nc), upd_ne (ne_of_none e ndc)]; exact e
  have s1 : Same H H1 := fun b o e => k1 b o (s0 b o e) (ne_of_none e nc)
  have hdd0 : H dd = none := s0.free hdd
  obtain ⟨⟨dxc, hc1⟩, kvs0, hk0, _⟩ := id C
  refine ⟨_, rfl, c, dxc, _, rfl, hc1, rfl, _, rfl, (by show 0 ≤ sizeLine; decide), fun e he => ?_⟩
  have s2 := s1.trans (same_new he (.tup []))
  have s12 := same_new he (.tup [])
  refine ⟨c, dd, t, e, xs, 0, S, 0, [], [], rfl, rfl, by decide, C.keep s12, s2 _ _ ht, atAll_keep (TK.of_same s2) _ _ hS, upd_same, rfl, ok, by show 0 + cntAll S ≤ 8; omega, fun j q' => rfl, fun H3 C3 k3 => ?_⟩
  have k03 : Kp dd H H3 := (Kp.of_same s2).trans k3
  have s3 : Same H H3 := fun b o e => k03 b o e (ne_of_none e hdd0)
  obtain ⟨⟨dx3, hc3⟩, kvs, hk3, fr3⟩ := C3
  have nxc : x ≠ c := ne_of_none hx nc
  have nxd : x ≠ dd := ne_of_none hx hdd0
  refine ⟨_, rfl, _, rfl, x, CS, dx, [], rfl, s3 _ _ hx, T.clS, T.nS, (by show 0 < 1000; decide), ?_⟩
  refine ⟨_, rfl, c, CK, dx3, _, _, rfl, by rw [upd_ne nxc.symm]; exact hc3, T.clK, T.kF, rfl, _, rfl, x, CS, dx, _, rfl, upd_same, T.clS, T.nF, (by show 1 < 1000; decide), ?_⟩
  have hk5 : ∀ o1 o2, (L2.upd (L2.upd H3 x o1) x o2) dd = some (.dT kvs) := fun o1 o2 => by rw [upd_ne nxd.symm, upd_ne nxd.symm]; exact hk3
  refine ⟨_, rfl, x, CS, dx, _, _, rfl, upd_same, T.clS, T.nF, (by rw [lookup_putF, if_pos rfl]), dd, kvs, rfl, .inl (hk5 _ _), fun l bs hl hkeys => ?_⟩
  refine ⟨l, _, rfl, .inl ⟨SqL.of upd_same, fun pl hpl => ?_⟩⟩
  have nxl : x ≠ l := ne_of_none upd_same hl
  have nxp : x ≠ pl := ne_of_none (H := L2.upd (L2.upd (L2.upd H3 x _) x _) l _) (by rw [upd_ne nxl]; exact upd_same) hpl
  refine ⟨_, rfl, x, CS, dx, _, rfl, by rw [upd_ne nxp, upd_ne nxl]; exact upd_same, T.clS, T.nP, (by show 2 < 1000; decide), ?_⟩
  rw [flds_put]
  have kx : Kp x H3 (L2.upd (L2.upd (L2.upd (L2.upd (L2.upd H3 x (.ins CS dx (putF "statements" (.ref t) []))) x (.ins CS dx (putF "found" (.ref dd) (putF "statements" (.ref t) [])))) l (.lst (bs.map V.ref))) pl (.tup (bs.map V.ref))) x (.ins CS dx (flds t dd pl))) := by
    intro b o e nb
    have eb : (L2.upd (L2.upd H3 x (.ins CS dx (putF "statements" (.ref t) []))) x (.ins CS dx (putF "found" (.ref dd) (putF "statements" (.ref t) [])))) b = some o := by rw [upd_ne nb, upd_ne nb]; exact e
    have el : (L2.upd (L2.upd (L2.upd H3 x (.ins CS dx (putF "statements" (.ref t) []))) x (.ins CS dx (putF "found" (.ref dd) (putF "statements" (.ref t) [])))) l (.lst (bs.map V.ref))) b = some o := by rw [upd_ne (ne_of_none eb hl)]; exact eb
    rw [upd_ne nb, upd_ne (ne_of_none el hpl)]
    exact el
  have tkx : TK H3 _ := fun b ys e => kx b _ e (ne_of e (s3 _ _ hx) (by intro z; cases z))
  refine q _ ⟨⟨dx, dd, pl, bs, kvs, xs, upd_same, tkx _ _ (s3 _ _ ht), atAll_keep (TK.trans (TK.of_same s3) tkx) _ _ hS, kx _ _ hk3 nxd.symm, FRel.keep tkx fr3, ?_, ?_⟩, ne, ok, few⟩ ((Kp.of_same s3).trans kx)
  · rw [upd_ne nxp.symm, upd_same]
  · refine L2.Paired.mapP hkeys fun a b e => ?_
    have nbx : b ≠ x := fun z => by rw [z, upd_same] at e; cases e
    rw [upd_ne nbx, upd_ne nbx] at e
    exact kx b _ e nbx
theorem keys_len {H : Hp} : ∀ {kvs : List (List Key × V)} {bs : List Addr}, IsKeys H kvs bs → kvs.length = bs.length
  | _, _, h => PySem.Paired.length h
theorem scSL : FnScope ["self"] ["self"] (defScope sSLen) := ⟨rfl, rfl, rfl, by decide +kernel, rfl, by decide +kernel, by decide +kernel⟩
theorem ok_slen {f : Addr} {fd : FuncData} (F : Fun K "__len__" "Script.__len__" sSLen f fd) (B : Bl mg) (T : Txt K w mg CS CK it) : FnOk P w K mg base CX0 1 f fd ["self"] (spSLen CS) := by
  refine F.ok scSL (fun vs H Q E h => ?_) (fun cdv A outer s H vs Q E hr h => ?_)
  · obtain ⟨x, t, S, rfl, _⟩ := h
    rfl
  obtain ⟨x, t, S, rfl, ⟨⟨dx, dd, pl, bs, kvs, xs, h1, h2, h3, h4, h5, h6, h7⟩, _⟩, q⟩ := h
  refine ⟨_, pss_one (ps_ret (pe_callB call_len_seq (by rfl) B.len PySem.boot_len (pa_cons (pe_fld (pv 0) rfl) pa_nil))), ?_⟩
  have e : (((bs.map V.ref).length : Nat) : Int) = ((cntAll S : Nat) : Int) := by
    rw [List.length_map, ← keys_len h7, h5.len, walkAll_len]
  refine ⟨_, rfl, x, CS, dx, _, _, rfl, h1, T.clS, T.nP, flds_pl _ _ _, pl, _, rfl, .inr (SqT.of h6), ?_⟩
  rw [e]
  exact q
theorem all_ints : ∀ {xs : List V}, xs.all intB = true → ∃ p : Pl, xs = p.map V.int
  | [], _ => ⟨[], rfl⟩
  | x :: r, h => by
    rw [List.all_cons, Bool.and_eq_true] at h
    obtain ⟨p, e⟩ := all_ints h.2
    match x, h.1 with
    | .int i, _ => exact ⟨i :: p, by rw [e]; rfl⟩
theorem Sc.val {H : Hp} {x t : Addr} {S : List Stm} {p : Pl} {kvs : List (List Key × V)} (h5 : FRel H kvs (walkAll S [] 0)) : (look S p = none → valV kvs (key p) = none) ∧ (∀ s, look S p = some s → ∃ v, valV kvs (key p) = some v ∧ s.at H v) := by
  have z := h5.val p
  rw [look_lk] at z
  exact z
theorem scSH : FnScope ["self", "place", "item"] ["self", "place"] (defScope sSHas) := ⟨rfl, rfl, rfl, by decide +kernel, rfl, by decide +kernel, by decide +kernel⟩
theorem ok_shas {f fI : Addr} {fd fdI : FuncData} (F : Fun K "__contains__" "Script.__contains__" sSHas f fd) (B : Bl mg) (T : Txt K w mg CS CK it)
    (GI : FnOk P w K mg base CX0 1 fI fdI ["value"] (spIsInt K)) (bI : Binds K fdI ["value"] []) (kI : PySem.W.keepIn K (.ref fI) = true) (mI : mg "is_integer" = some (.ref fI)) : FnOk P w K mg base CX0 2 f fd ["self", "place"] (spHas CS) := by
  refine F.ok scSH (fun vs H Q E h => ?_) (fun cdv A outer s H vs Q E hr h => ?_)
  · obtain ⟨x, t, v, S, rfl, _⟩ := h
    rfl
  obtain ⟨x, t, v, S, rfl, C, hv⟩ := h
  have hu' := hu_of hr
  refine ⟨_, pss_cons (ps_if (PW.pt (pw_or (pt_not (pt_val (pe_callB call_isi (by rfl) T.isi (by decide +kernel) (pa_cons (pv 1) (pa_cons (pe_bltn (v := .ty "tuple") (by rfl) B.tuple (by decide +kernel) rfl) pa_nil)))))
      (pw_or1 (pt_not (pt_val (pe_callB (cr_all rfl) (by rfl) T.all (by decide +kernel) (pa_cons
        (pe_lc (own := [("item", 2)]) (g := gName 2) (tt := tYes) rfl scSH.nd (pi_tup (pv 1)) (blkOk_by (own := [("item", 2)]) (N := ["self", "place", "item"]) (sc := defScope sSHas) (by decide +kernel))
          (fun _ _ _ _ _ => pg_name (i := 2) scSH.nd rfl (Or.inl rfl)) (fun _ _ _ _ _ => pts_nil)
          (fun _ _ _ _ _ => pe_call GI hr rfl mI kI bI .nil pass0 (pa_cons (pv 2) pa_nil))) pa_nil))))))) (pss_one (ps_ret pe_bl)) pss_nil)
    (pss_one (ps_ret (pe_cmp (pc_din hu' (pv 1) (pe_fld (pv 0) rfl)) rfl))), ?_⟩
  rcases hv with ⟨T', kd, kt, q⟩ | ⟨u, xs, rfl, hu, h100, kds, q1, q2⟩
  · exact ⟨_, rfl, _, _, _, _, false, rfl, .ty "tuple", kd.ty, kit_ty kt, false, rfl, iteT (iteT q)⟩
  · refine ⟨_, rfl, _, _, _, _, true, rfl, .ty "tuple", .base (.tup hu), kit_ty (by decide +kernel), true, rfl, iteF ?_⟩
    refine ⟨_, rfl, u, rfl, ⟨_, SqT.of hu⟩, fun D hD => ?_⟩
    refine lc_tup (K := K) (a := u) (xs := xs) (fun i H7 => H7 D = some (.lst (((xs.take i).map intB).map V.bl)) ∧ Same H H7) ⟨upd_same, same_new hD _⟩ (fun i H7 _ z => SqT.of (z.2 _ _ hu)) ?_ ?_
    · rintro i y H7 hy ⟨h1, h2⟩
      refine ⟨rfl, ?_⟩
      unfold tYes
      dsimp only
      rw [if_pos rfl]
      obtain ⟨T', kd⟩ := kds y (List.mem_of_getElem? hy)
      obtain ⟨b1, b2, e1, e2, e3⟩ := kd.intB
      have lt : i < xs.length := (List.getElem?_eq_some_iff.mp hy).1
      refine ⟨_, rfl, y, T', b1, b2, rfl, (kd.keep h2).ty, e1, e2, _, h1, small1000 (by simp; omega), ?_, ?_⟩
      · rw [upd_same, List.take_add_one, hy, e3]
        simp
      · intro b o e
        rw [upd_ne (ne_of_none e hD)]
        exact h2 b o e
    · rintro H7 ⟨h1, h2⟩
      refine ⟨D, _, rfl, SqL.of h1, ?_⟩
      rw [List.take_length]
      have ea : (xs.map intB).all id = xs.all intB := by rw [List.all_map]; rfl
      rw [ea]
      cases ec : xs.all intB with
      | false => exact ⟨_, rfl, iteT (q1 ec H7 h2)⟩
      | true =>
        obtain ⟨p, rfl⟩ := all_ints ec
        obtain ⟨⟨dx, dd, pl, bs, kvs, ys, g1, g2, g3, g4, g5, g6, g7⟩, _⟩ := C.keep h2
        have z := Sc.val (x := x) (t := t) (p := p) g5
        have hg : DGet H7 dd (.ref u) (valV kvs (key p)) := DGet.t g4 (by rw [key_kV]; exact h2 _ _ hu)
        refine ⟨_, rfl, iteF ⟨_, rfl, _, rfl, x, CS, dx, _, _, rfl, g1, T.clS, T.nF, flds_fo _ _ _, dd, _, rfl, hg, ?_⟩⟩
        have e : (valV kvs (key p)).isSome = (look S p).isSome := by
          cases el : look S p with
          | none => rw [z.1 el]; rfl
          | some s =>
            obtain ⟨v, ev, _⟩ := z.2 s el
            rw [ev]; rfl
        rw [e]
        exact q2 p rfl H7 h2
theorem scSG : FnScope ["self", "place"] ["self", "place"] (defScope sSGet) := ⟨rfl, rfl, rfl, by decide +kernel, rfl, by decide +kernel, by decide +kernel⟩
theorem ok_sget {f fH : Addr} {fd fdH : FuncData} (F : Fun K "__getitem__" "Script.__getitem__" sSGet f fd) (T : Txt K w mg CS CK it)
    (GH : FnOk P w K mg base CX0 2 fH fdH ["self", "place"] (spHas CS)) (bH : Binds K fdH ["self", "place"] []) (mH : OwnM K CS "__contains__" fH) : FnOk P w K mg base CX0 3 f fd ["self", "place"] (spGet CS) := by
  refine F.ok scSG (fun vs H Q E h => ?_) (fun cdv A outer s H vs Q E hr h => ?_)
  · obtain ⟨x, t, u, S, p, s, rfl, _⟩ := h
    rfl
  obtain ⟨x, t, u, S, p, st, rfl, C, hu, h100, hl, q⟩ := h
  have hu' := hu_of hr
  refine ⟨_, pss_cons (ps_if (pt_cmpR (op_notInOwn mH GH hr bH pass0) (pv 1) (pv 0) (by rfl)) (pss_one ps_never) pss_nil)
    (pss_one (ps_ret (pe_dget hu' (pe_fld (pv 0) rfl) (pv 1) (fun _ _ => rfl)))), ?_⟩
  obtain ⟨⟨dx, dd, pl, bs, kvs, ys, g1, g2, g3, g4, g5, g6, g7⟩, _⟩ := id C
  refine ⟨_, rfl, _, rfl, x, dx, _, rfl, g1, x, t, .ref u, S, rfl, C, .inr ⟨u, _, rfl, hu, by rw [List.length_map]; exact h100, ?_, ?_, ?_⟩⟩
  · intro y hy
    obtain ⟨i, _, rfl⟩ := List.mem_map.mp hy
    exact ⟨_, .int i⟩
  · intro e
    have : (p.map V.int).all intB = true := by rw [List.all_map]; exact List.all_eq_true.mpr fun _ _ => rfl
    rw [this] at e; cases e
  · intro p' e H' s1
    have ep : p = p' := by
      have inj : ∀ {a b : Pl}, a.map V.int = b.map V.int → a = b := by
        intro a
        induction a with
        | nil => intro b e; cases b with
          | nil => rfl
          | cons _ _ => cases e
        | cons i r ih => intro b e; cases b with
          | nil => cases e
          | cons j r' =>
            rw [List.map_cons, List.map_cons] at e
            injection e with e1 e2
            injection e1 with e1
            rw [e1, ih e2]
      exact inj e
    subst ep
    rw [hl]
    refine ⟨true, rfl, _, rfl, iteF ?_⟩
    obtain ⟨⟨dx, dd, pl, bs, kvs, ys, g1, g2, g3, g4, g5, g6, g7⟩, _⟩ := C.keep s1
    obtain ⟨v, ev, hv⟩ := (Sc.val (x := x) (t := t) (p := p) g5).2 st hl
    have hg : DGet H' dd (.ref u) (valV kvs (key p)) := DGet.t g4 (by rw [key_kV]; exact s1 _ _ hu)
    rw [ev] at hg
    exact ⟨_, rfl, x, CS, dx, _, _, rfl, g1, T.clS, T.nF, flds_fo _ _ _, _, rfl, dd, v, rfl, hg, q v H' s1 hv⟩
end
end Tk
set_option maxRecDepth 100000
namespace Tk
open PySem L2
abbrev sAnswers : Stmt := top 15
abbrev sIsAns : Stmt := top 16
def isChB : Stm → Bool
  | .ch _ _ => true
  | _ => false
def answs (s : Stm) : List V := if isChB s = true then [.int 0, .int 1] else [.int 0]
/-- v is a possible answer at s -/
def canB (s : Stm) : V → Bool
  | .int a => inV (.int a) (answs s)
  | _ => false
def spAnswers : Sp := fun vs H Q _ => ∃ (v : V) (s : Stm), vs = [v] ∧ s.at H v ∧ ∀ (z : Addr) (H' : Hp), Same H H' → H' z = some (.tup (answs s)) → Q (.ref z) H'
def spIsAns (K : PySem.W.Frag) : Sp := fun vs H Q _ => ∃ (v x : V) (s : Stm) (T : String) (b1 b2 : Bool), vs = [v, x] ∧ s.at H v ∧ TyX K H x (.type T) ∧ kitB T "int" = some b1 ∧ kitB T "bool" = some b2 ∧ (b1 && !b2) = intB x ∧
  ∀ H' : Hp, Same H H' → Q (.bl (canB s x)) H'
section
variable {P : Program} {w : World} {K : PySem.W.Frag} {mg : Str → Option Value} {base : Heap} {CS CK it : Addr}
theorem scAns : FnScope ["statement"] ["statement"] (defScope sAnswers) := ⟨rfl, rfl, rfl, by decide +kernel, rfl, by decide +kernel, by decide +kernel⟩
theorem ok_answers {f : Addr} {fd : FuncData} (F : Fun K "answers_of" "answers_of" sAnswers f fd) : FnOk P w K mg base CX0 1 f fd ["statement"] spAnswers := by
  refine F.ok scAns (fun vs H Q E h => ?_) (fun cdv A outer s H vs Q E hr h => ?_)
  · obtain ⟨v, s, rfl, _⟩ := h
    rfl
  obtain ⟨v, s, rfl, hs, q⟩ := h
  refine ⟨_, pss_one (ps_ret (pe_ifExp (pt_cmpR op_eq (pe_ix ix_tup (pv 0) pe_int (fun _ _ => rfl)) pe_str (nomark _)) (pe_tup (pa_cons pe_int (pa_cons pe_int pa_nil))) (pe_tup (pa_cons pe_int pa_nil)))), ?_⟩
  cases s with
  | one wd =>
    rw [Stm.at] at hs
    obtain ⟨b, rfl, hb⟩ := hs
    refine ⟨_, rfl, b, _, _, _, rfl, rfl, SqT.of hb, rfl, ?_⟩
    refine ⟨rfl, _, rfl, iteFb (wd_ne wd) ?_⟩
    exact ⟨(by show 1 ≤ sizeLine; decide), fun z hz => q z _ (same_new hz _) (by rw [upd_same]; rfl)⟩
  | nam bb nm =>
    rw [Stm.at] at hs
    obtain ⟨b, rfl, hb⟩ := hs
    refine ⟨_, rfl, b, _, _, _, rfl, rfl, SqT.of hb, rfl, ?_⟩
    refine ⟨rfl, _, rfl, iteFb (lk_ne bb) ?_⟩
    exact ⟨(by show 1 ≤ sizeLine; decide), fun z hz => q z _ (same_new hz _) (by rw [upd_same]; rfl)⟩
  | ch y n =>
    rw [Stm.at] at hs
    obtain ⟨b, c1, c2, xs1, xs2, rfl, hb, _⟩ := hs
    refine ⟨_, rfl, b, _, _, _, rfl, rfl, SqT.of hb, rfl, ?_⟩
    refine ⟨rfl, _, rfl, iteTb (by decide +kernel) ?_⟩
    exact ⟨(by show 2 ≤ sizeLine; decide), fun z hz => q z _ (same_new hz _) (by rw [upd_same]; rfl)⟩
theorem scIA : FnScope ["statement", "answer"] ["statement", "answer"] (defScope sIsAns) := ⟨rfl, rfl, rfl, by decide +kernel, rfl, by decide +kernel, by decide +kernel⟩
theorem ok_isans {f fI fW : Addr} {fd fdI fdW : FuncData} (F : Fun K "is_answer" "is_answer" sIsAns f fd) (GI : FnOk P w K mg base CX0 1 fI fdI ["value"] (spIsInt K)) (bI : Binds K fdI ["value"] []) (kI : PySem.W.keepIn K (.ref fI) = true) (mI : mg "is_integer" = some (.ref fI))
    (GA : FnOk P w K mg base CX0 1 fW fdW ["statement"] spAnswers) (bA : Binds K fdW ["statement"] []) (kA : PySem.W.keepIn K (.ref fW) = true) (mA : mg "answers_of" = some (.ref fW)) :
    FnOk P w K mg base CX0 2 f fd ["statement", "answer"] (spIsAns K) := by
  refine F.ok scIA (fun vs H Q E h => ?_) (fun cdv A outer s H vs Q E hr h => ?_)
  · obtain ⟨v, x, s, T, b1, b2, rfl, _⟩ := h
    rfl
  obtain ⟨v, x, s, T, b1, b2, rfl, hs, ty, e1, e2, e3, q⟩ := h
  refine ⟨_, pss_one (ps_ret (pe_and (pe_call GI hr rfl mI kI bI .nil pass0 (pa_cons (pv 1) pa_nil)) (pe_one (pe_cmpR op_in_seq (pv 1) (pe_call GA hr rfl mA kA bA .nil pass0 (pa_cons (pv 0) pa_nil)) (by rfl))))), ?_⟩
  refine ⟨_, rfl, x, T, b1, b2, rfl, ty, e1, e2, _, rfl, ?_⟩
  rw [e3]
  cases x with
  | int a =>
    refine iteT ⟨_, rfl, _, rfl, v, s, rfl, hs, fun z H' s' hz => ?_⟩
    refine ⟨z, answs s, rfl, .inr (SqT.of hz), rfl, ?_, q H' s'⟩
    unfold answs
    split <;> rfl
  | _ => exact iteF (q H (Same.refl H))
end
end Tk
set_option maxRecDepth 100000
namespace Tk
open PySem L2
theorem cut1 (q : Pl) (j : Int) : cutV ((q ++ [j]).map V.int) none (some (-1)) = q.map V.int ∧ ¬ (HT.sIx ((q ++ [j]).map V.int).length 0 none = 0 ∧ HT.sIx ((q ++ [j]).map V.int).length ((q ++ [j]).map V.int).length (some (-1)) = ((q ++ [j]).map V.int).length) := by
  have l : ((q ++ [j]).map V.int).length = q.length + 1 := by simp
  have e : HT.sIx ((q ++ [j]).map V.int).length ((q ++ [j]).map V.int).length (some (-1)) = q.length := by
    rw [l]
    show (if (-1 : Int) < 0 then ((-1 : Int) + ((q.length + 1 : Nat) : Int)).toNat else min (-1 : Int).toNat (q.length + 1)) = q.length
    rw [if_pos (by decide)]; omega
  refine ⟨?_, fun z => by rw [e, l] at z; omega⟩
  unfold cutV
  rw [e, HT.sIx_none, List.drop_zero, Nat.sub_zero, List.map_append, List.take_append_of_le_length (by simp), List.take_of_length_le (by simp)]
theorem cut2 (q : Pl) (a j : Int) : cutV ((q ++ [a] ++ [j]).map V.int) none (some (-2)) = q.map V.int ∧ ¬ (HT.sIx ((q ++ [a] ++ [j]).map V.int).length 0 none = 0 ∧ HT.sIx ((q ++ [a] ++ [j]).map V.int).length ((q ++ [a] ++ [j]).map V.int).length (some (-2)) = ((q ++ [a] ++ [j]).map V.int).length) := by
  have l : ((q ++ [a] ++ [j]).map V.int).length = q.length + 2 := by simp
  have e : HT.sIx ((q ++ [a] ++ [j]).map V.int).length ((q ++ [a] ++ [j]).map V.int).length (some (-2)) = q.length := by
    rw [l]
    show (if (-2 : Int) < 0 then ((-2 : Int) + ((q.length + 2 : Nat) : Int)).toNat else min (-2 : Int).toNat (q.length + 2)) = q.length
    rw [if_pos (by decide)]; omega
  refine ⟨?_, fun z => by rw [e, l] at z; omega⟩
  unfold cutV
  rw [e, HT.sIx_none, List.drop_zero, Nat.sub_zero, List.append_assoc, List.map_append, List.take_append_of_le_length (by simp), List.take_of_length_le (by simp)]
theorem last_at (q : Pl) (j : Int) : atI ((q ++ [j]).map V.int) (-1) = some (.int j) := by
  unfold atI ixN
  rw [if_neg (by decide), if_pos (by simp; omega)]
  have e : ((-1 : Int) + ((((q ++ [j]).map V.int).length : Nat) : Int)).toNat = (q.map V.int).length := by simp; omega
  show ((q ++ [j]).map V.int)[((-1 : Int) + ((((q ++ [j]).map V.int).length : Nat) : Int)).toNat]? = _
  rw [e, List.map_append, List.getElem?_append_right (Nat.le_refl _), Nat.sub_self]
  rfl
def muB (σ : St) (H : Hp) : Nat := match σ with
  | [_, some (.ref u), _] => match H u with
    | some (.tup xs) => xs.length
    | _ => 0
  | _ => 0
def Next (S : List Stm) (H : Hp) (p : Pl) (R : List Stm) (r : V) : Prop := (R = [] → r = .non) ∧ ∀ s R', R = s :: R' → ∃ u' p', r = .ref u' ∧ H u' = some (.tup (p'.map V.int)) ∧ look S p' = some s ∧ After S p' R' ∧ Gt p' p
def spBehind (CS : Addr) : Sp := fun vs H Q _ => ∃ (x t u : Addr) (S : List Stm) (p : Pl) (R : List Stm), vs = [.ref x, .ref u] ∧ Sc CS H x t S ∧ H u = some (.tup (p.map V.int)) ∧ After S p R ∧
  ∀ (r : V) (H' : Hp), Same H H' → Next S H' p R r → Q r H'
section
variable {P : Program} {w : World} {K : PySem.W.Frag} {mg : Str → Option Value} {base : Heap} {CS CK it : Addr}
theorem scBe : FnScope ["self", "place", "follower"] ["self", "place"] (defScope sBehind) := ⟨rfl, rfl, rfl, by decide +kernel, rfl, by decide +kernel, by decide +kernel⟩
theorem ok_behind {f : Addr} {fd : FuncData} (F : Fun K "behind" "Script.behind" sBehind f fd) (T : Txt K w mg CS CK it) : FnOk P w K mg base CX0 1 f fd ["self", "place"] (spBehind CS) := by
  refine F.ok scBe (fun vs H Q E h => ?_) (fun cdv A outer s H vs Q E hr h => ?_)
  · obtain ⟨x, t, u, S, p, R, rfl, _⟩ := h
    rfl
  obtain ⟨x, t, u, S, p, R, rfl, C, hu, af, q⟩ := h
  have hu' := hu_of hr
  refine ⟨_, pss_cons (ps_while PassesOwn.never (pt_truth (pv 1) (by intro _; rfl))
      (pss_cons (ps_set (i := 2) scBe.nd rfl (Or.inl rfl) (pe_op op_catA (pe_slice sl_tupA (pv 1) po_none (po_some (pe_un un_neg pe_int))) (pe_tup (pa_cons (pe_op op_add (pe_ix ix_tup (pv 1) (pe_un un_neg pe_int) (fun _ _ => rfl)) pe_int) pa_nil))))
      (pss_cons (ps_if (pt_cmp (pc_din hu' (pv 2) (pe_fld (pv 0) rfl))) (pss_one (ps_ret (pv 2))) pss_nil)
      (pss_one (ps_set (i := 1) scBe.nd rfl (Or.inl rfl) (pe_slice sl_tupA (pv 1) po_none (po_some (pe_un un_neg pe_int))))))))
    (pss_one (ps_ret pe_non)), ?_⟩
  refine while_by (fun σ H2 => ∃ (u' : Addr) (p' r : Pl) (v2 : Option V), σ = [some (.ref x), some (.ref u'), v2] ∧ Same H H2 ∧ H2 u' = some (.tup (p'.map V.int)) ∧ p = p' ++ r ∧ p'.length ≤ 5 ∧ ((p' = [] ∧ R = []) ∨ After S p' R)) muB ?_ ?_ (fun σ H Q Q' g ⟨v, e, k, t, z⟩ => ⟨v, e, k, t, g _ _ z⟩)
  · have len := af.len 0 0 C.ok (by decide)
    exact ⟨u, p, [], none, rfl, Same.refl H, hu, by simp, by omega, .inr af⟩
  · rintro σ H2 ⟨u', p', r, v2, rfl, s2, hu2, hp, h5, alt⟩
    refine ⟨_, rfl, _, .inr (.inl ⟨_, SqT.of hu2, rfl⟩), ?_⟩
    rcases alt with ⟨rfl, hR⟩ | af'
    · exact iteF (q .non H2 s2 ⟨fun _ => rfl, fun s R' e => (by rw [hR] at e; cases e)⟩)
    · obtain ⟨q0, j, rfl, st⟩ := af'.step
      have nE : (!((q0 ++ [j]).map V.int).isEmpty) = true := by cases q0 <;> rfl
      refine iteTb nE ?_
      have c1 := cut1 q0 j
      refine ⟨_, rfl, _, rfl, _, rfl, u', _, rfl, SqT.of hu2, (fun z => absurd z c1.2), fun _ z hz => ?_⟩
      have s3 := same_new hz (.tup (cutV ((q0 ++ [j]).map V.int) none (some (-1))))
      have hz3 : (L2.upd H2 z (.tup (cutV ((q0 ++ [j]).map V.int) none (some (-1))))) z = some (.tup (q0.map V.int)) := by rw [upd_same, c1.1]
      refine ⟨_, rfl, _, rfl, u', _, _, _, rfl, rfl, SqT.of (s3 _ _ hu2), last_at q0 j, _, _, rfl, rfl, (by show 1 ≤ sizeLine; decide), ?_⟩
      refine cat_one (p := q0) (j := j + 1) hz3 (by simp at h5; omega) (fun y H4 hy s4 => ?_)
      have s24 := s3.trans s4
      obtain ⟨⟨dx, dd, pl, bs, kvs, ys, g1, g2, g3, g4, g5, g6, g7⟩, _⟩ := C.keep (s2.trans s24)
      have vl := Sc.val (x := x) (t := t) (p := q0 ++ [j + 1]) g5
      have hg : DGet H4 dd (.ref y) (valV kvs (key (q0 ++ [j + 1]))) := DGet.t g4 (by rw [key_kV]; exact hy)
      refine ⟨_, rfl, _, rfl, x, CS, dx, _, _, rfl, g1, T.clS, T.nF, flds_fo _ _ _, dd, _, rfl, hg, _, rfl, ?_⟩
      rcases st with ⟨s', R', l, eR, af2⟩ | ⟨l, alt2⟩
      · obtain ⟨v, ev, _⟩ := vl.2 s' l
        rw [ev]
        refine iteT ⟨_, rfl, q _ H4 (s2.trans s24) ⟨(fun e => by rw [eR] at e; cases e), fun s1 R1 e => ?_⟩⟩
        rw [eR] at e
        injection e with e1 e2
        exact ⟨y, q0 ++ [j + 1], rfl, hy, by rw [← e1]; exact l, by rw [← e2]; exact af2, .inl ⟨q0, j + 1, j, [], r, rfl, by rw [hp]; simp, by omega⟩⟩
      · rw [vl.1 l]
        refine iteF ?_
        have hu4 := s24 _ _ hu2
        have fin : ∀ (q' : Pl) (b : Addr) (H5 : Hp), q'.length < q0.length + 1 → (∃ r', p = q' ++ r') → Same H4 H5 → H5 b = some (.tup (q'.map V.int)) → ((q' = [] ∧ R = []) ∨ After S q' R) →
            (∃ (u' : Addr) (p' r : Pl) (v2 : Option V), [some (V.ref x), some (V.ref b), some (V.ref y)] = [some (.ref x), some (.ref u'), v2] ∧ Same H H5 ∧ H5 u' = some (.tup (p'.map V.int)) ∧ p = p' ++ r ∧ p'.length ≤ 5 ∧ ((p' = [] ∧ R = []) ∨ After S p' R)) ∧
            muB [some (V.ref x), some (V.ref b), some (V.ref y)] H5 < muB [some (V.ref x), some (V.ref u'), v2] H2 := by
          intro q' b H5 lt ⟨r', er⟩ s5 hb al
          have h5' : (q0 ++ [j]).length = q0.length + 1 := by simp
          refine ⟨⟨b, q', r', _, rfl, (s2.trans s24).trans s5, hb, er, by omega, al⟩, ?_⟩
          unfold muB
          dsimp only
          rw [hb, hu2]
          dsimp only
          rw [List.length_map, List.length_map, h5']
          exact lt
        rcases alt2 with ⟨rfl, hR⟩ | ⟨q', a, rfl, nq, af3⟩
        · refine ⟨_, rfl, _, rfl, _, rfl, u', _, rfl, SqT.of hu4, (fun z => ?_), fun _ b hb => ?_⟩
          · have z2 : HT.sIx 1 1 (some (-2)) = 1 := z.2
            exact absurd z2 (by decide)
          · exact fin [] b _ (by simp) ⟨p, rfl⟩ (same_new hb _) (by rw [upd_same]; rfl) (.inl ⟨rfl, hR⟩)
        · have c2 := cut2 q' a j
          refine ⟨_, rfl, _, rfl, _, rfl, u', _, rfl, SqT.of hu4, (fun z => absurd z c2.2), fun _ b hb => ?_⟩
          refine fin q' b _ (by simp; omega) ⟨a :: j :: r, by rw [hp]; simp⟩ (same_new hb _) (by rw [upd_same, c2.1]) (.inr af3)
theorem nox_of {X : Cx} {body : List Stmt} {D : Ends} {σ : St} {H : Hp} (h : ∃ t, PSs X.nox body t ∧ t D σ H) : ∃ t, PSs X body t ∧ t D σ H := let ⟨t, a, b⟩ := h; ⟨t, a.nox, b⟩
def restOf (s : Stm) (a : Int) (R : List Stm) : List Stm := match s with
  | .ch y n => br a y n ++ R
  | _ => R
def spAfter (CS : Addr) : Sp := fun vs H Q _ => ∃ (x t u : Addr) (a : Int) (S : List Stm) (p : Pl) (s : Stm) (R : List Stm), vs = [.ref x, .ref u, .int a] ∧ Sc CS H x t S ∧ H u = some (.tup (p.map V.int)) ∧ look S p = some s ∧ After S p R ∧ (a = 0 ∨ (a = 1 ∧ ∃ y n, s = .ch y n)) ∧
  ∀ (r : V) (H' : Hp), Same H H' → (s = .one .leave → r = .non) → (s ≠ .one .leave → Next S H' p (restOf s a R) r) → Q r H'
theorem wd_le (w : Wd) : decide (V.str w.s = V.str "leave") = decide (w = .leave) := by cases w <;> decide +kernel
theorem lk_le (b : Bool) : decide (V.str (lockS b) = V.str "leave") = false := by cases b <;> decide +kernel
theorem atAll_nil {H : Hp} {xs : List V} {B : List Stm} (h : atAll H xs B) : (!xs.isEmpty) = !B.isEmpty := by
  have := atAll_len h
  cases xs <;> cases B <;> simp at this ⊢
theorem scAf : FnScope ["self", "place", "answer", "statement", "word"] ["self", "place", "answer"] (defScope sAfter) := ⟨rfl, rfl, rfl, by decide +kernel, rfl, by decide +kernel, by decide +kernel⟩
theorem ok_after {f fG fW fB : Addr} {fd fdG fdW fdB : FuncData} (F : FunD K "after" "Script.after" (defArgs sAfter) (defBody sAfter) (defScope sAfter) [.int 0] [] f fd) (T : Txt K w mg CS CK it)
    (GG : FnOk P w K mg base CX0 3 fG fdG ["self", "place"] (spGet CS)) (bG : Binds K fdG ["self", "place"] []) (mG : OwnM K CS "__getitem__" fG) (nG : PySem.W.fnIn K fG = true)
    (GW : FnOk P w K mg base CX0 2 fW fdW ["statement", "answer"] (spIsAns K)) (bW : Binds K fdW ["statement", "answer"] []) (kW : PySem.W.keepIn K (.ref fW) = true) (mW : mg "is_answer" = some (.ref fW))
    (GB : FnOk P w K mg base CX0 1 fB fdB ["self", "place"] (spBehind CS)) (bB : Binds K fdB ["self", "place"] []) (mB : Meth K CS "behind" fB) : FnOk P w K mg base CX0 5 f fd ["self", "place", "answer"] (spAfter CS) := by
  refine F.ok (CX := CX0) scAf (fun vs H Q E h => ?_) (fun cdv A outer s H vs Q E hr h => nox_of ?_)
  · obtain ⟨x, t, u, a, S, p, s, R, rfl, _⟩ := h
    rfl
  obtain ⟨x, t, u, a, S, p, st, R, rfl, C, hu, hl, af, ha, q⟩ := h
  have hr1 : Room 1 _ := hr.mono (by decide)
  have hr2 : Room 2 _ := hr.mono (by decide)
  refine ⟨_, pss_cons (ps_set (i := 3) scAf.nd rfl (Or.inl rfl) (ix_own (value := .Name "self" ⟨0, 0, 0, 0⟩) (slice := .Name "self" ⟨0, 0, 0, 0⟩) mG nG GG hr bG pass0 (pv 0) (pv 1) (fun _ _ => rfl)))
    (pss_cons (ps_set (i := 4) scAf.nd rfl (Or.inl rfl) (pe_ix ix_tup (pv 3) pe_int (fun _ _ => rfl)))
    (pss_cons (ps_if (pt_not (pt_val (pe_call GW hr2 rfl mW kW bW .nil pass0 (pa_cons (pv 3) (pa_cons (pv 2) pa_nil))))) (pss_one ps_never) pss_nil)
    (pss_cons (ps_if (pt_cmpR op_eq (pv 4) pe_str (nomark _)) (pss_one (ps_ret pe_non)) pss_nil)
    (pss_cons (ps_if (PW.pt (pw_and (pt_cmpR op_eq (pv 4) pe_str (nomark _)) (pw_and1 (pt_truth (pe_ix ix_tup (pv 3) (pe_op op_add pe_int (pv 2)) (fun _ _ => rfl)) (by intro _; rfl))))) (pss_one (ps_ret (pe_op op_catA (pv 1) (pe_tup (pa_cons (pv 2) (pa_cons pe_int pa_nil)))))) pss_nil)
    (pss_one (ps_ret (pe_meth (pv 0) T.clS mB GB hr1 bB .nil pass0 (pa_cons (pv 1) pa_nil)))))))), ?_⟩
  obtain ⟨⟨dx, dd, pl, bs, kvs, ys, g1, _⟩, _⟩ := id C
  have len := af.len 0 0 C.ok (by decide)
  refine ⟨_, rfl, _, rfl, x, dx, _, rfl, g1, x, t, u, S, p, st, rfl, C, hu, by omega, hl, fun v H1 s1 hv => ?_⟩
  have C1 := C.keep s1
  have hu1 := s1 _ _ hu
  obtain ⟨⟨dx1, _, _, _, _, _, g11, _⟩, _⟩ := id C1
  cases st with
  | one wd =>
    have a0 : a = 0 := by
      rcases ha with h | ⟨_, y, n, e⟩
      · exact h
      · cases e
    subst a0
    rw [Stm.at] at hv
    obtain ⟨b, rfl, hb⟩ := hv
    refine ⟨_, rfl, b, _, _, _, rfl, rfl, SqT.of hb, rfl, ?_⟩
    refine ⟨_, rfl, _, rfl, .ref b, .int 0, .one wd, "int", true, false, rfl, (by rw [Stm.at]; exact ⟨b, rfl, hb⟩), (Kd.int (H := H1) 0).ty, by decide +kernel, by decide +kernel, rfl, fun H3 s3 => ?_⟩
    have C3 := C1.keep s3
    have hu3 := s3 _ _ hu1
    have g13 := s3 _ _ g11
    refine ⟨_, rfl, iteF ?_⟩
    refine ⟨_, rfl, rfl, _, rfl, ?_⟩
    rw [wd_le]
    by_cases c : wd = .leave
    · subst c
      exact iteTb (decide_eq_true rfl) (q .non H3 (s1.trans s3) (fun _ => rfl) (fun n => absurd rfl n))
    · refine iteFb (decide_eq_false c) ?_
      refine ⟨_, rfl, rfl, _, rfl, iteFb (wd_ne wd) ?_⟩
      refine ⟨_, rfl, x, dx1, _, rfl, g13, flds_no _ _ _ (by decide +kernel) (by decide +kernel) (by decide +kernel), _, rfl, x, t, u, S, p, R, rfl, C3, hu3, af, fun r H2 s2 nx => ?_⟩
      exact q r H2 (s1.trans (s3.trans s2)) (fun e => by injection e with e; exact absurd e c) (fun _ => nx)
  | nam bb z =>
    have a0 : a = 0 := by
      rcases ha with h | ⟨_, y, n, e⟩
      · exact h
      · cases e
    subst a0
    rw [Stm.at] at hv
    obtain ⟨b, rfl, hb⟩ := hv
    refine ⟨_, rfl, b, _, _, _, rfl, rfl, SqT.of hb, rfl, ?_⟩
    refine ⟨_, rfl, _, rfl, .ref b, .int 0, .nam bb z, "int", true, false, rfl, (by rw [Stm.at]; exact ⟨b, rfl, hb⟩), (Kd.int (H := H1) 0).ty, by decide +kernel, by decide +kernel, rfl, fun H3 s3 => ?_⟩
    have C3 := C1.keep s3
    have hu3 := s3 _ _ hu1
    have g13 := s3 _ _ g11
    refine ⟨_, rfl, iteF ?_⟩
    refine ⟨_, rfl, rfl, _, rfl, iteFb (lk_le bb) ?_⟩
    refine ⟨_, rfl, rfl, _, rfl, iteFb (lk_ne bb) ?_⟩
    refine ⟨_, rfl, x, dx1, _, rfl, g13, flds_no _ _ _ (by decide +kernel) (by decide +kernel) (by decide +kernel), _, rfl, x, t, u, S, p, R, rfl, C3, hu3, af, fun r H2 s2 nx => ?_⟩
    exact q r H2 (s1.trans (s3.trans s2)) (fun e => by cases e) (fun _ => nx)
  | ch y n =>
    have a01 : a = 0 ∨ a = 1 := by
      rcases ha with h | ⟨h, _⟩
      · exact .inl h
      · exact .inr h
    rw [Stm.at] at hv
    obtain ⟨b, b1, b2, xs1, xs2, rfl, hb, hb1, aty, hb2, atn⟩ := hv
    refine ⟨_, rfl, b, _, _, _, rfl, rfl, SqT.of hb, rfl, ?_⟩
    have w01 : canB (.ch y n) (.int a) = true := by rcases a01 with rfl | rfl <;> rfl
    refine ⟨_, rfl, _, rfl, .ref b, .int a, .ch y n, "int", true, false, rfl, (by rw [Stm.at]; exact ⟨b, b1, b2, xs1, xs2, rfl, hb, hb1, aty, hb2, atn⟩), (Kd.int (H := H1) a).ty, by decide +kernel, by decide +kernel, rfl, fun H3 s3 => ?_⟩
    have C3 := C1.keep s3
    have hu3 := s3 _ _ hu1
    have g13 := s3 _ _ g11
    have tk3 := TK.of_same s3
    refine ⟨_, rfl, ?_⟩
    rw [w01]
    refine iteF ?_
    refine ⟨_, rfl, rfl, _, rfl, iteFb (by decide +kernel) ?_⟩
    refine ⟨_, rfl, rfl, _, rfl, iteTb (by decide +kernel) ?_⟩
    -- the branch that is taken
    obtain ⟨bb, xb, hbb, atb, eat⟩ : ∃ bb xb, H3 bb = some (.tup xb) ∧ atAll H3 xb (br a y n) ∧ atI [V.str "choose", V.ref b1, V.ref b2] (1 + a) = some (.ref bb) := by
      rcases a01 with rfl | rfl
      · exact ⟨b1, xs1, s3 _ _ hb1, atAll_keep tk3 _ _ aty, rfl⟩
      · exact ⟨b2, xs2, s3 _ _ hb2, atAll_keep tk3 _ _ atn, rfl⟩
    refine ⟨_, rfl, _, rfl, _, _, rfl, rfl, b, _, _, _, rfl, rfl, SqT.of (s3 _ _ hb), eat, _, .inr (.inl ⟨xb, SqT.of hbb, rfl⟩), ?_⟩
    rw [atAll_nil atb]
    cases eb : br a y n with
    | nil =>
      refine iteF ?_
      refine ⟨_, rfl, x, dx1, _, rfl, g13, flds_no _ _ _ (by decide +kernel) (by decide +kernel) (by decide +kernel), _, rfl, x, t, u, S, p, R, rfl, C3, hu3, af, fun r H2 s2 nx => ?_⟩
      refine q r H2 (s1.trans (s3.trans s2)) (fun e => by cases e) (fun _ => ?_)
      have er : restOf (.ch y n) a R = br a y n ++ R := rfl
      rw [er, eb]
      exact nx
    | cons s0 sr =>
      refine iteT ?_
      have nb : br a y n ≠ [] := by rw [eb]; exact List.cons_ne_nil _ _
      obtain ⟨l0, af0⟩ := af.down (y := y) (n := n) a01 nb hl
      have pne : p.map V.int ≠ [] := fun e => af.ne (List.map_eq_nil_iff.mp e)
      refine ⟨_, rfl, _, rfl, (by show 2 ≤ sizeLine; decide), fun z hz => ?_⟩
      have s2 := same_new hz (.tup [.int a, .int 0])
      refine ⟨u, z, _, _, rfl, rfl, SqT.of (s2 _ _ hu3), SqT.of upd_same, small (by simp; omega), (fun e => absurd e pne), (fun _ e => nomatch e), fun _ _ z2 hz2 => ?_⟩
      refine q (.ref z2) _ (s1.trans (s3.trans (s2.trans (same_new hz2 _)))) (fun e => by cases e) (fun _ => ⟨?_, fun s' R' e => ?_⟩)
      · intro e
        have er : restOf (.ch y n) a R = br a y n ++ R := rfl
        rw [er, eb] at e; cases e
      · have er : restOf (.ch y n) a R = br a y n ++ R := rfl
        rw [er, eb] at e
        injection e with e1 e2
        refine ⟨z2, p ++ [a, 0], rfl, ?_, ?_, ?_, .inr ⟨[a, 0], rfl, by simp⟩⟩
        · rw [upd_same, List.map_append]; rfl
        · rw [l0, eb, ← e1]; rfl
        · rw [eb] at af0
          rw [← e2]
          exact af0
end
end Tk
set_option maxRecDepth 100000
namespace Tk
open PySem L2
/-! ## statements as data, for == -/
theorem low_ok {z : Str} (h : Low z) : PySem.PyData.strOk z = true := by
  unfold PySem.PyData.strOk
  rw [Array.all_eq_true']
  intro c hc
  have := h c (Array.mem_toList_iff.mpr hc)
  exact decide_eq_true (by omega)
mutual
theorem lay_ok : ∀ (s : Stm) (d : Nat) (h : Int), s.ok d h → s.d.canLay0 = true ∧ (d ≤ 2 → s.d.depth ≤ 7 - 2 * d)
  | .one w, d, h, _ => by
    rw [Stm.d]
    refine ⟨?_, fun _ => ?_⟩
    · cases w <;> decide +kernel
    · rw [PyData.depth, PyData.depthAll, PyData.depthAll, PyData.depth]; omega
  | .nam b z, d, h, ok => by
    rw [Stm.ok] at ok
    rw [Stm.d]
    refine ⟨?_, fun _ => ?_⟩
    · rw [PyData.canLay0, PyData.canLayAll0, PyData.canLayAll0, PyData.canLayAll0, PyData.canLay0, PyData.canLay0, low_ok ok.2.2]
      cases b <;> decide +kernel
    · simp only [PyData.depth, PyData.depthAll]; omega
  | .ch y n, d, h, ok => by
    rw [Stm.ok] at ok
    rw [Stm.d]
    have l1 := layAll_ok y (d + 1) h ok.2.1
    have l2 := layAll_ok n (d + 1) h ok.2.2
    refine ⟨?_, fun hd => ?_⟩
    · have cc : (PyData.str "choose").canLay0 = true := by decide +kernel
      simp only [PyData.canLay0, PyData.canLayAll0] at cc ⊢
      rw [cc, l1.1, l2.1]; rfl
    · have e1 := l1.2 (by omega)
      have e2 := l2.2 (by omega)
      simp only [PyData.depth, PyData.depthAll]
      omega
theorem layAll_ok : ∀ (B : List Stm) (d : Nat) (h : Int), okAll d B h → PyData.canLayAll0 (dAll B) = true ∧ (d ≤ 2 → PyData.depthAll (dAll B) ≤ 7 - 2 * d)
  | [], d, h, _ => by
    rw [dAll]
    exact ⟨by rw [PyData.canLayAll0], fun _ => by rw [PyData.depthAll]; omega⟩
  | s :: r, d, h, ok => by
    rw [okAll] at ok
    rw [dAll]
    have l1 := lay_ok s d h ok.1
    have l2 := layAll_ok r d _ ok.2
    refine ⟨?_, fun hd => ?_⟩
    · rw [PyData.canLayAll0, l1.1, l2.1]; rfl
    · have e1 := l1.2 hd
      have e2 := l2.2 hd
      rw [PyData.depthAll]; omega
end
theorem shaped_ok {s : Stm} {d : Nat} {h : Int} (ok : s.ok d h) (hd : d ≤ 2) : SeqAt.shaped s.d = true ∧ PyData.eqv s.d s.d = true := by
  obtain ⟨a, b⟩ := lay_ok s d h ok
  have := b hd
  refine ⟨?_, SeqAt.eqv_refl _ a⟩
  unfold SeqAt.shaped
  rw [a, decide_eq_true (by omega)]; rfl
mutual
theorem dp_of {K : PySem.W.Frag} {H : Hp} : ∀ (s : Stm) (v : V), s.at H v → Dp K H v s.d
  | .one w, v, h => by
    rw [Stm.at] at h
    obtain ⟨a, rfl, h⟩ := h
    rw [Stm.d]
    exact .tup (SqT.of h) (.cons (.str _) .nil)
  | .nam b z, v, h => by
    rw [Stm.at] at h
    obtain ⟨a, rfl, h⟩ := h
    rw [Stm.d]
    exact .tup (SqT.of h) (.cons (.str _) (.cons (.str _) .nil))
  | .ch y n, v, h => by
    rw [Stm.at] at h
    obtain ⟨a, b, c, xs, ys, rfl, h1, h2, h3, h4, h5⟩ := h
    rw [Stm.d]
    exact .tup (SqT.of h1) (.cons (.str _) (.cons (.tup (SqT.of h2) (dpAll_of y xs h3)) (.cons (.tup (SqT.of h4) (dpAll_of n ys h5)) .nil)))
theorem dpAll_of {K : PySem.W.Frag} {H : Hp} : ∀ (B : List Stm) (xs : List V), atAll H xs B → DpAll K H xs (dAll B)
  | [], xs, h => by
    rw [atAll] at h
    rw [h, dAll]
    exact .nil
  | s :: r, xs, h => by
    rw [atAll] at h
    obtain ⟨v, vs, rfl, h1, h2⟩ := h
    rw [dAll]
    exact .cons (dp_of s v h1) (dpAll_of r vs h2)
end
/-- the statements of a script are good ones, wherever they stand -/
theorem After.good {S : List Stm} {p : Pl} {R : List Stm} (h : After S p R) : ∀ (d : Nat) (k : Int) (s : Stm), okAll d S k → d ≤ 2 → look S p = some s → ∃ d' h', s.ok d' h' ∧ d' ≤ 2 := by
  induction h with
  | here B i hi =>
    intro d k s g hd l
    rw [look_one] at l
    obtain ⟨h', o⟩ := okAll_get g l
    exact ⟨d, h', o, hd⟩
  | inn B i a y n q R hb ha hq ih =>
    intro d k s g hd l
    rw [look_in hb ha hq.ne] at l
    obtain ⟨h', o⟩ := okAll_get g hb
    rw [Stm.ok] at o
    rcases ha with rfl | rfl
    · exact ih (d + 1) h' s o.2.1 (by omega) l
    · exact ih (d + 1) h' s o.2.2 (by omega) l
/-- the first place -/
theorem first_key {H : Hp} {S : List Stm} {kvs : List (List Key × V)} {bs : List Addr} (ne : S ≠ []) (fr : FRel H kvs (walkAll S [] 0)) (ik : IsKeys H kvs bs) : ∃ b0, atI (bs.map V.ref) 0 = some (.ref b0) ∧ H b0 = some (.tup (([0] : Pl).map V.int)) := by
  have hd : ∃ s1 r1, walkAll S [] 0 = ([0], s1) :: r1 := by
    cases S with
    | nil => exact absurd rfl ne
    | cons s0 r =>
      rw [walkAll]
      cases s0 <;> (rw [Stm.walk]; exact ⟨_, _, rfl⟩)
  obtain ⟨s1, r1, e⟩ := hd
  rw [e] at fr
  cases kvs with
  | nil => exact fr.elim
  | cons kv r =>
    obtain ⟨k, v⟩ := kv
    obtain ⟨rfl, _, _⟩ := fr
    unfold IsKeys at ik
    cases ik with
    | cons h1 h2 =>
      rename_i b0 bs'
      refine ⟨b0, (show atI (List.map V.ref (b0 :: bs')) ((0 : Nat) : Int) = some (.ref b0) from atI_nat rfl), ?_⟩
      have h1' : H b0 = some (.tup ((key [0]).map kV)) := h1
      rw [key_kV] at h1'
      exact h1'
end Tk
set_option maxRecDepth 100000
namespace Tk
open PySem L2
/-- what holds between two turns of the walk through the script -/
structure LI (CS : Addr) (H : Hp) (x t p u ρ : Addr) (S : List Stm) (s : Stm) (R : List Stm) (pl : Pl) (c : Int) (H2 : Hp) : Prop where
  same : Same H H2
  sc : Sc CS H2 x t S
  pool : PoolAt H2 p
  pu : H2 u = some (.tup (pl.map V.int))
  lo : look S pl = some s
  af : After S pl R
  re : ∃ xs, H2 ρ = some (.tup xs) ∧ atAll H2 xs (s :: R)
  c0 : 0 ≤ c
  cc : c + (cntAll (s :: R) : Nat) ≤ (cntAll S : Nat)
theorem LI.keep {CS : Addr} {H H2 H3 : Hp} {x t p u ρ : Addr} {S : List Stm} {s : Stm} {R : List Stm} {pl : Pl} {c : Int} (L : LI CS H x t p u ρ S s R pl c H2) (s3 : Same H2 H3) : LI CS H x t p u ρ S s R pl c H3 := by
  obtain ⟨_, _, _, hp⟩ := L.pool
  obtain ⟨xs, h1, h2⟩ := L.re
  exact ⟨L.same.trans s3, L.sc.keep s3, ⟨_, _, _, s3 _ _ hp⟩, s3 _ _ L.pu, L.lo, L.af, ⟨xs, s3 _ _ h1, atAll_keep (TK.of_same s3) _ _ h2⟩, L.c0, L.cc⟩
theorem LI.draw {CS : Addr} {H H2 H3 : Hp} {x t p u ρ : Addr} {S : List Stm} {s : Stm} {R : List Stm} {pl : Pl} {c : Int} (L : LI CS H x t p u ρ S s R pl c H2) (hp0 : H p = none) (k : Kp p H2 H3) (hp : PoolAt H3 p) : LI CS H x t p u ρ S s R pl c H3 := by
  obtain ⟨_, _, _, hp2⟩ := L.pool
  obtain ⟨xs, h1, h2⟩ := L.re
  have tk := k.tk hp2
  exact ⟨fun b o e => k _ _ (L.same _ _ e) (ne_of_none e hp0), L.sc.kp k hp2, hp, tk _ _ L.pu, L.lo, L.af, ⟨xs, tk _ _ h1, atAll_keep tk _ _ h2⟩, L.c0, L.cc⟩
/-- what remains behind the statement s, when a is the answer -/
def remain (s : Stm) (a : Int) (R : List Stm) : List Stm := match s with
  | .one .leave => []
  | s => restOf s a R
theorem remain_le (s : Stm) (a : Int) (R : List Stm) : 1 + cntAll (remain s a R) ≤ cntAll (s :: R) := by
  have p := cnt_pos s
  cases s with
  | one w => cases w <;> (show 1 + _ ≤ _; rw [cntAll]; simp only [remain, restOf, cntAll] at *; omega)
  | nam b z => show 1 + cntAll R ≤ _; rw [cntAll]; omega
  | ch y n =>
    show 1 + cntAll (br a y n ++ R) ≤ _
    rw [cntAll_app, cntAll, Stm.cnt]
    unfold br
    split <;> omega
def spLaw (K : PySem.W.Frag) : Sp := fun vs H Q _ => ∃ (a : Addr) (ns : List Int), vs = [.ref a] ∧ SqL K H a (ns.map V.int) ∧ ns.length ≤ 63 ∧ ∀ H', Q (.bl true) H'
abbrev nsL : List Str := ["_law_script", "_law_k", "_law_pool_here", "_law_names_here", "_law_statements", "_law_made", "_law_place", "_law_rest", "_law_count", "_law_turn", "_law_answer", "_law_after"]
section
variable {P : Program} {w : World} {K : PySem.W.Frag} {mg : Str → Option Value} {base : Heap} {CS CK it : Addr}
theorem scL : FnScope nsL ["_law_script"] (defScope sLaw) := ⟨rfl, rfl, rfl, by decide +kernel, rfl, by decide +kernel, by decide +kernel⟩
theorem ok_law {f fP fD fN fB fI fG fL fA : Addr} {fd fdP fdD fdN fdB fdI fdG fdL fdA : FuncData} (F : Fun K "law" "law" sLaw f fd) (B : Bl mg) (T : Txt K w mg CS CK it)
    (GP : FnOk P w K mg base CX0 1 fP fdP ["_law_script", "_law_k"] (spPool K)) (bP : Binds K fdP ["_law_script", "_law_k"] []) (kP : PySem.W.keepIn K (.ref fP) = true) (mP : mg "_law_pool" = some (.ref fP))
    (GD : FnOk P w K mg base CX0 1 fD fdD ["_law_pool_here", "_law_amount"] spDraw) (bD : Binds K fdD ["_law_pool_here", "_law_amount"] []) (kD : PySem.W.keepIn K (.ref fD) = true) (mD : mg "_law_draw" = some (.ref fD))
    (GN : FnOk P w K mg base CX0 2 fN fdN ["_law_pool_here"] spNames) (bN : Binds K fdN ["_law_pool_here"] []) (kN : PySem.W.keepIn K (.ref fN) = true) (mN : mg "_law_names" = some (.ref fN))
    (GB : FnOk P w K mg base CX0 5 fB fdB psB (spBranch 3)) (bB : Binds K fdB psB []) (kB : PySem.W.keepIn K (.ref fB) = true) (mB : mg "_law_branch" = some (.ref fB))
    (M : Mk K CS fI) (GI : FnOk P w K mg base CX0 9 fI fdI ["self", "statements"] (spSInit CS)) (bI : Binds K fdI ["self", "statements"] [])
    (GG : FnOk P w K mg base CX0 3 fG fdG ["self", "place"] (spGet CS)) (bG : Binds K fdG ["self", "place"] []) (mG : OwnM K CS "__getitem__" fG) (nG : PySem.W.fnIn K fG = true)
    (GL : FnOk P w K mg base CX0 1 fL fdL ["self"] (spSLen CS)) (bL : Binds K fdL ["self"] []) (mL : OwnM K CS "__len__" fL)
    (GA : FnOk P w K mg base CX0 5 fA fdA ["self", "place", "answer"] (spAfter CS)) (bA : Binds K fdA ["self", "place", "answer"] []) (mA : Meth K CS "after" fA) :
    FnOk P w K mg base CX0 11 f fd ["_law_script"] (spLaw K) := by
  refine F.ok scL (fun vs H Q E h => ?_) (fun cdv A outer s H vs Q E hr h => ?_)
  · obtain ⟨a, ns, rfl, _⟩ := h
    rfl
  obtain ⟨a, ns, rfl, hS, h63, q⟩ := h
  have hu' := hu_of hr
  have hu64 : _ + 64 < cLine := Nat.lt_of_le_of_lt (Nat.add_le_add_left (by decide : 64 ≤ 16 * 10 + 200) _) (by have := hr.un; rwa [Nat.add_assoc] at this)
  have hr1 : Room 1 _ := hr.mono (by decide)
  have hr2 : Room 2 _ := hr.mono (by decide)
  have hr4 : Room 4 _ := hr.mono (by decide)
  have hr5 : Room 5 _ := hr.mono (by decide)
  have nd := scL.nd
  refine ⟨_, pss_cons (ps_for PassesOwn.never rfl (pi_range1 rfl B.range (pa_cons (pe_callB (call_max2 rfl) (by rfl) B.max (by decide +kernel) (pa_cons pe_int (pa_cons (pe_callB call_len_seq (by rfl) B.len PySem.boot_len (pa_cons (pv 0) pa_nil)) pa_nil))) pa_nil)) (pg_name (i := 1) nd rfl (Or.inl rfl))
      (pss_cons (ps_set (i := 2) nd rfl (Or.inl rfl) (pe_call GP hr1 rfl mP kP bP .nil pass0 (pa_cons (pv 0) (pa_cons (pv 1) pa_nil))))
      (pss_cons (ps_set (i := 3) nd rfl (Or.inl rfl) (pe_call GN hr2 rfl mN kN bN .nil pass0 (pa_cons (pv 2) pa_nil)))
      (pss_cons (ps_set (i := 4) nd rfl (Or.inl rfl) (pe_call GB hr5 rfl mB kB bB .nil pass0 (pa_cons (pv 2) (pa_cons (pe_lst (pa_cons pe_int (pa_cons pe_int (pa_cons pe_int pa_nil)))) (pa_cons (pv 3) (pa_cons (pe_op op_add pe_int (pe_call GD hr1 rfl mD kD bD .nil pass0 (pa_cons (pv 2) (pa_cons pe_int pa_nil)))) (pa_cons pe_int pa_nil)))))))
      (pss_cons (ps_set (i := 5) nd rfl (Or.inl rfl) (pe_make M GI hr rfl T.mgS bI .nil pass0 (pa_cons (pv 4) pa_nil)))
      (pss_cons (ps_set (i := 6) nd rfl (Or.inl rfl) (pe_ix ix_tup (pe_fld (pv 5) rfl) pe_int (fun _ _ => rfl)))
      (pss_cons (ps_set (i := 7) nd rfl (Or.inl rfl) (pv 4))
      (pss_cons (ps_set (i := 8) nd rfl (Or.inl rfl) pe_int)
      (pss_one (ps_for PassesOwn.never rfl (pi_range1 rfl B.range (pa_cons pe_int pa_nil)) (pg_name (i := 9) nd rfl (Or.inl rfl))
        (pss_cons (ps_if (pt_cmpR (op_neD hu64) (ix_own (value := .Name "self" ⟨0, 0, 0, 0⟩) (slice := .Name "self" ⟨0, 0, 0, 0⟩) mG nG GG hr4 bG pass0 (pv 5) (pv 6) (fun _ _ => rfl)) (pe_ix ix_tup (pv 7) pe_int (fun _ _ => rfl)) (nomark _)) (pss_one (ps_ret pe_bl)) pss_nil)
        (pss_cons (ps_set (i := 10) nd rfl (Or.inl rfl) pe_int)
        (C8.pss_cut (ps_if (pt_cmpR op_eq (pe_ix ix_tup (pe_ix ix_tup (pv 7) pe_int (fun _ _ => rfl)) pe_int (fun _ _ => rfl)) pe_str (nomark _))
            (pss_cons (ps_set (i := 10) nd rfl (Or.inl rfl) (pe_call GD hr1 rfl mD kD bD .nil pass0 (pa_cons (pv 2) (pa_cons pe_int pa_nil))))
              (pss_one (ps_set (i := 7) nd rfl (Or.inl rfl) (pe_op op_catA (pe_ix ix_tup (pe_ix ix_tup (pv 7) pe_int (fun _ _ => rfl)) (pe_op op_add pe_int (pv 10)) (fun _ _ => rfl)) (pe_slice sl_tupA (pv 7) (po_some pe_int) po_none)))))
            (pss_one (ps_if (pt_cmpR op_eq (pe_ix ix_tup (pe_ix ix_tup (pv 7) pe_int (fun _ _ => rfl)) pe_int (fun _ _ => rfl)) pe_str (nomark _))
              (pss_one (ps_set (i := 7) nd rfl (Or.inl rfl) (pe_tup pa_nil)))
              (pss_one (ps_set (i := 7) nd rfl (Or.inl rfl) (pe_slice sl_tupA (pv 7) (po_some pe_int) po_none))))))
        (pss_cons (ps_set (i := 11) nd rfl (Or.inl rfl) (pe_meth (pv 5) T.clS mA GA hr5 bA .nil pass0 (pa_cons (pv 6) (pa_cons (pv 10) pa_nil))))
        (pss_cons (ps_set (i := 8) nd rfl (Or.inl rfl) (pe_op op_add (pv 8) pe_int))
        (pss_one (ps_if (pt_cmpR op_isN (pv 11) pe_non (nomark _))
          (pss_cons (ps_if (PW.pt (pw_or (pt_cmpR op_gt (pe_callB call_len_seq (by rfl) B.len PySem.boot_len (pa_cons (pv 7) pa_nil)) pe_int (nomark _)) (pw_or1 (pt_cmpR op_gt (pv 8) (pe_callB (call_lenOwn mL GL hr2 bL pass0) (by rfl) B.len PySem.boot_len (pa_cons (pv 5) pa_nil)) (nomark _))))) (pss_one (ps_ret pe_bl)) pss_nil)
          (pss_cons (ps_set (i := 7) nd rfl (Or.inl rfl) (pv 4))
          (pss_cons (ps_set (i := 6) nd rfl (Or.inl rfl) (pe_tup (pa_cons pe_int pa_nil)))
          (pss_one (ps_set (i := 8) nd rfl (Or.inl rfl) pe_int)))))
          (pss_one (ps_if (PW.pt (pw_or (pt_cmpR op_eq (pe_callB call_len_seq (by rfl) B.len PySem.boot_len (pa_cons (pv 7) pa_nil)) pe_int (nomark _))
              (pw_or (pt_not (pt_val (pe_callB call_isi (by rfl) T.isi (by decide +kernel) (pa_cons (pv 11) (pa_cons (pe_bltn (v := .ty "tuple") (by rfl) B.tuple (by decide +kernel) rfl) pa_nil)))))
              (pw_or1 (pt_cmpR (op_leT (Nat.lt_of_succ_lt hu')) (pv 11) (pv 6) (nomark _)))))) (pss_one (ps_ret pe_bl))
            (pss_one (ps_set (i := 6) nd rfl (Or.inl rfl) (pv 11))))))))))))))))))))))
    (pss_one (ps_ret pe_bl)), ?_⟩
  have hl0 : (ns.map V.int).length = ns.length := List.length_map _
  have bnd : (if ((ns.map V.int).length : Int) > 1 then ((ns.map V.int).length : Int) else 1) ≤ 63 ∧ 1 ≤ (if ((ns.map V.int).length : Int) > 1 then ((ns.map V.int).length : Int) else 1) := by
    rw [hl0]
    split <;> omega
  refine ⟨_, rfl, a, _, rfl, .inl hS, _, _, rfl, _, rfl, by omega, by omega, ?_⟩
  refine for_range (lo := 0) (fun i σ H2 => ∃ v1 v2 v3 v4 v5 v6 v7 v8 v9 v10 v11 : Option V, σ = [some (.ref a), v1, v2, v3, v4, v5, v6, v7, v8, v9, v10, v11] ∧ Same H H2) ⟨none, none, none, none, none, none, none, none, none, none, none, rfl, Same.refl H⟩ ?_ ?_
  rotate_left
  · rintro σ H2 ⟨_, _, _, _, _, _, _, _, _, _, _, rfl, _⟩
    exact q H2
  rintro i σ H2 hi ⟨v1, v2, v3, v4, v5, v6, v7, v8, v9, v10, v11, rfl, s2⟩
  -- the pool, the names
  refine ⟨_, rfl, _, rfl, a, ns, _, rfl, s2.seq hS, by omega, fun p H3 hp s3 P3 => ?_⟩
  refine ⟨_, rfl, p, rfl, P3, fun nq H4 hq k4 P4 N4 => ?_⟩
  -- the statements
  refine ⟨_, rfl, (by show 3 ≤ sizeLine; decide), fun b hb => ?_⟩
  have npb : p ≠ b := by obtain ⟨_, _, _, z⟩ := P4; exact ne_of_none z hb
  have nqb : nq ≠ b := by obtain ⟨_, _, _, z, _⟩ := N4; exact ne_of_none z hb
  have npq : p ≠ nq := by obtain ⟨_, _, _, z⟩ := P3; exact ne_of_none z hq
  have D5 : Dr (L2.upd H4 b (.lst [.int 8, .int 0, .int 3])) p b nq 8 0 := by
    obtain ⟨x, y, z, e⟩ := P4
    obtain ⟨a1, a2, a3, e', m⟩ := N4
    exact ⟨⟨x, y, z, by rw [upd_ne npb]; exact e⟩, upd_same, ⟨a1, a2, a3, by rw [upd_ne nqb]; exact e', m⟩, npb, npq, nqb.symm⟩
  refine ⟨_, rfl, _, rfl, p, 8, rfl, D5.pool, by decide, by decide, fun r H6 r0 r8 k6 P6 => ?_⟩
  have D6 := D5.draw k6 P6
  refine ⟨_, _, rfl, rfl, p, b, nq, _, 8, 0, 0, rfl, rfl, by decide, D6, by omega, by omega, by decide, by decide, by decide, by decide, fun t H7 xs S ht hS7 ok few _ _ ne D7 k7 => ?_⟩
  have nS : S ≠ [] := ne (by omega) (by decide)
  have few8 : cntAll S ≤ 8 := by omega
  -- what stood before stands
  have hp0 : H p = none := s2.free hp
  have base7 : ∀ c o, H c = some o → H7 c = some o := fun c o e => by
    have e2 := s2 _ _ e
    have e3 := s3 _ _ e2
    have ncp : c ≠ p := ne_of_none e2 hp
    have e4 := k4 _ _ e3 ncp
    have ncb : c ≠ b := ne_of_none e4 hb
    have e5 : (L2.upd H4 b (.lst [.int 8, .int 0, .int 3])) c = some o := by rw [upd_ne ncb]; exact e4
    exact k7 _ _ (k6 _ _ e5 ncp) ncp ncb
  -- the Script
  refine ⟨_, rfl, fun x dx nx ndx nex => ?_⟩
  have sx : Same H7 (L2.upd (L2.upd H7 dx (.own x)) x (.ins CS dx [])) := fun c o e => by
    rw [upd_ne (ne_of_none e nx), upd_ne (ne_of_none e ndx)]; exact e
  refine ⟨x, t, dx, xs, S, rfl, upd_same, sx _ _ ht, atAll_keep (TK.of_same sx) _ _ hS7, nS, ok, few8, fun H8 C8 k8 => ⟨rfl, ?_⟩⟩
  have s78 : Same H7 H8 := fun c o e => k8 _ _ (sx _ _ e) (ne_of_none e nx)
  have base8 : Same H H8 := fun c o e => s78 _ _ (base7 _ _ e)
  have P8 : PoolAt H8 p := by obtain ⟨_, _, _, z⟩ := D7.pool; exact ⟨_, _, _, s78 _ _ z⟩
  obtain ⟨⟨dx8, dd8, pl8, bs, kvs, ys, g1, g2, g3, g4, g5, g6, g7⟩, _⟩ := id C8
  obtain ⟨b0, hb0, hb0'⟩ := first_key nS g5 g7
  refine ⟨_, rfl, x, CS, dx8, _, _, rfl, g1, T.clS, T.nP, flds_pl _ _ _, pl8, _, _, _, rfl, rfl, SqT.of g6, hb0, ?_⟩
  refine ⟨_, rfl, ?_⟩
  obtain ⟨s0, S', eS⟩ : ∃ s0 S', S = s0 :: S' := by
    cases S with
    | nil => exact absurd rfl nS
    | cons a r => exact ⟨a, r, rfl⟩
  have f0 := After.first nS
  have lo0 : look S [0] = some s0 := by rw [f0.1, eS]; rfl
  have af0 : After S [0] S' := by have z := f0.2; rw [eS] at z ⊢; exact z
  have L0 : ∀ (u : Addr) (H9 : Hp), Same H H9 → Sc CS H9 x t S → PoolAt H9 p → H9 u = some (.tup (([0] : Pl).map V.int)) → LI CS H x t p u t S s0 S' [0] 0 H9 := by
    intro u H9 e1 e2 e3 e4
    obtain ⟨_, _, _, _, _, zs, _, h2, h3, _⟩ := e2.ex
    exact ⟨e1, e2, e3, e4, lo0, af0, ⟨zs, h2, by rw [← eS]; exact h3⟩, by decide, by rw [← eS]; omega⟩
  refine ⟨40, rfl, by decide, by decide, ?_⟩
  refine for_range (lo := 0) (n := 40) (fun j σ H9 => ∃ (u ρ : Addr) (pl : Pl) (s : Stm) (R : List Stm) (c : Int) (w9 w10 w11 : Option V), σ = [some (.ref a), some (.int (0 + (i : Nat))), some (.ref p), some (.ref nq), some (.ref t), some (.ref x), some (.ref u), some (.ref ρ), some (.int c), w9, w10, w11] ∧ LI CS H x t p u ρ S s R pl c H9)
    ⟨b0, t, [0], s0, S', 0, v9, v10, v11, rfl, L0 b0 H8 base8 C8 P8 hb0'⟩ ?_ ?_
  rotate_left
  · rintro σ H9 ⟨u, ρ, pl, s, R, c, w9, w10, w11, rfl, L⟩
    exact ⟨_, _, _, _, _, _, _, _, _, _, _, rfl, L.same⟩
  rintro j σ H9 hj ⟨u, ρ, pl, s, R, c, w9, w10, w11, rfl, L⟩
  -- made[place] != rest[0]
  obtain ⟨dx9, _, _, _, _, _, gx, _⟩ := L.sc.ex
  have len := L.af.len 0 0 L.sc.ok (by decide)
  refine ⟨_, rfl, _, rfl, x, dx9, _, rfl, gx, x, t, u, S, pl, s, rfl, L.sc, L.pu, by omega, L.lo, fun v H10 s10 hv => ?_⟩
  have L10 := L.keep s10
  clear L gx
  obtain ⟨xs', hρ, hxs⟩ := L10.re
  obtain ⟨d', h', oks, hd'⟩ := L10.af.good 0 0 s L10.sc.ok (by decide) L10.lo
  obtain ⟨sh, er⟩ := shaped_ok oks hd'
  have hxs2 := hxs
  rw [atAll] at hxs2
  obtain ⟨v0, vr, rfl, hv0, hvr⟩ := hxs2
  refine ⟨_, rfl, ρ, _, _, v0, rfl, rfl, SqT.of hρ, (show atI (v0 :: vr) ((0 : Nat) : Int) = some v0 from atI_nat rfl), s.d, s.d, dp_of s v hv, dp_of s v0 hv0, sh, sh, _, rfl, ?_⟩
  refine iteFb (by rw [er]; rfl) ?_
  -- the rest of the script
  have at0 : atI (v0 :: vr) ((0 : Nat) : Int) = some v0 := atI_nat rfl
  have cutr : cutV (v0 :: vr) (some 1) none = vr ∧ ¬ (HT.sIx (v0 :: vr).length 0 (some 1) = 0 ∧ HT.sIx (v0 :: vr).length (v0 :: vr).length none = (v0 :: vr).length) := by
    have e : HT.sIx (v0 :: vr).length 0 (some 1) = 1 := by
      have z := HT.sIx_nat (v0 :: vr).length 0 1
      rw [show ((1 : Nat) : Int) = 1 from rfl] at z
      rw [z, List.length_cons]; omega
    refine ⟨?_, fun z => by rw [e] at z; exact absurd z.1 (by decide)⟩
    unfold cutV
    rw [e, HT.sIx_none, List.drop_one, List.tail_cons]
    exact List.take_of_length_le (by rw [List.length_cons]; omega)
  have lenR : (v0 :: vr).length ≤ 8 := by
    have := atAll_len hxs
    have := len_le_cnt (s :: R)
    have := L10.cc
    have := L10.c0
    omega
  refine ⟨fun σ' H11 => ∃ (an : Int) (ρ1 : Addr) (xs1 : List V), σ' = [some (.ref a), some (.int (0 + (i : Nat))), some (.ref p), some (.ref nq), some (.ref t), some (.ref x), some (.ref u), some (.ref ρ1), some (.int c), some (.int (0 + (j : Nat))), some (.int an), w11] ∧
    LI CS H x t p u ρ S s R pl c H11 ∧ H11 ρ1 = some (.tup xs1) ∧ atAll H11 xs1 (remain s an R) ∧ (an = 0 ∨ (an = 1 ∧ ∃ y n, s = .ch y n)), ?_, ?_⟩
  · cases s with
    | one wd =>
      rw [Stm.at] at hv0
      obtain ⟨b1, rfl, hb1⟩ := hv0
      refine ⟨_, rfl, ρ, _, _, _, rfl, rfl, SqT.of hρ, at0, b1, _, _, _, rfl, rfl, SqT.of hb1, rfl, rfl, _, rfl, iteFb (wd_ne wd) ?_⟩
      refine ⟨_, rfl, ρ, _, _, _, rfl, rfl, SqT.of hρ, at0, b1, _, _, _, rfl, rfl, SqT.of hb1, rfl, rfl, _, rfl, ?_⟩
      rw [wd_le]
      by_cases cl : wd = .leave
      · subst cl
        refine iteTb (decide_eq_true rfl) ⟨(by show 0 ≤ sizeLine; decide), fun z hz => ?_⟩
        exact ⟨0, z, [], rfl, L10.keep (same_new hz _), upd_same, by show atAll _ [] []; rw [atAll], .inl rfl⟩
      · refine iteFb (decide_eq_false cl) ⟨_, rfl, _, rfl, ρ, _, rfl, SqT.of hρ, (fun z => absurd z cutr.2), fun _ z hz => ?_⟩
        have er : remain (.one wd) 0 R = R := by cases wd <;> first | rfl | exact absurd rfl cl
        exact ⟨0, z, vr, rfl, L10.keep (same_new hz _), by rw [upd_same, cutr.1], by rw [er]; exact atAll_keep (TK.of_same (same_new hz _)) _ _ hvr, .inl rfl⟩
    | nam bb zz =>
      rw [Stm.at] at hv0
      obtain ⟨b1, rfl, hb1⟩ := hv0
      refine ⟨_, rfl, ρ, _, _, _, rfl, rfl, SqT.of hρ, at0, b1, _, _, _, rfl, rfl, SqT.of hb1, rfl, rfl, _, rfl, iteFb (lk_ne bb) ?_⟩
      refine ⟨_, rfl, ρ, _, _, _, rfl, rfl, SqT.of hρ, at0, b1, _, _, _, rfl, rfl, SqT.of hb1, rfl, rfl, _, rfl, iteFb (lk_le bb) ?_⟩
      refine ⟨_, rfl, _, rfl, ρ, _, rfl, SqT.of hρ, (fun z => absurd z cutr.2), fun _ z hz => ?_⟩
      exact ⟨0, z, vr, rfl, L10.keep (same_new hz _), by rw [upd_same, cutr.1], atAll_keep (TK.of_same (same_new hz _)) _ _ hvr, .inl rfl⟩
    | ch y n =>
      rw [Stm.at] at hv0
      obtain ⟨b1, c1, c2, xs1, xs2, rfl, hb1, hc1, at1, hc2, at2⟩ := hv0
      refine ⟨_, rfl, ρ, _, _, _, rfl, rfl, SqT.of hρ, at0, b1, _, _, _, rfl, rfl, SqT.of hb1, rfl, rfl, _, rfl, iteTb (by decide +kernel) ?_⟩
      refine ⟨_, rfl, p, 2, rfl, L10.pool, by decide, by decide, fun an H11 an0 an2 k11 P11 => ?_⟩
      have L11 := L10.draw hp0 k11 P11
      have tk : TK H10 H11 := by obtain ⟨_, _, _, z⟩ := L10.pool; exact k11.tk z
      have a01 : an = 0 ∨ an = 1 := by omega
      obtain ⟨cb, xb, hcb, atb, eat⟩ : ∃ cb xb, H11 cb = some (.tup xb) ∧ atAll H11 xb (br an y n) ∧ atI [V.str "choose", V.ref c1, V.ref c2] (1 + an) = some (.ref cb) := by
        rcases a01 with rfl | rfl
        · exact ⟨c1, xs1, tk _ _ hc1, atAll_keep tk _ _ at1, rfl⟩
        · exact ⟨c2, xs2, tk _ _ hc2, atAll_keep tk _ _ at2, rfl⟩
      refine ⟨_, rfl, ρ, _, _, _, rfl, rfl, SqT.of (tk _ _ hρ), at0, _, rfl, _, _, rfl, rfl, b1, _, _, _, rfl, rfl, SqT.of (tk _ _ hb1), eat, ?_⟩
      refine ⟨_, rfl, _, rfl, ρ, _, rfl, SqT.of (tk _ _ hρ), (fun z => absurd z cutr.2), fun _ z hz => ?_⟩
      have sz := same_new hz (.tup (cutV (V.ref b1 :: vr) (some 1) none))
      have hz2 : (L2.upd H11 z (.tup (cutV (V.ref b1 :: vr) (some 1) none))) z = some (.tup vr) := by rw [upd_same, cutr.1]
      have L12 := L11.keep sz
      have atv := atAll_keep (tk.trans (TK.of_same sz)) _ _ hvr
      have atb2 := atAll_keep (TK.of_same sz) _ _ atb
      have both : atAll _ (xb ++ vr) (remain (.ch y n) an R) := atAll_app atb2 atv
      have han : an = 0 ∨ (an = 1 ∧ ∃ y' n', Stm.ch y n = .ch y' n') := a01.imp id fun e => ⟨e, y, n, rfl⟩
      have lb : xb.length ≤ 8 := by
        have e1 := atAll_len atb
        have e2 := len_le_cnt (br an y n)
        have e3 := L10.cc
        have e4 := L10.c0
        have e5 := L10.sc.few
        rw [cntAll, Stm.cnt] at e3
        have e6 : cntAll (br an y n) ≤ cntAll y + cntAll n := by unfold br; split <;> omega
        omega
      refine ⟨cb, z, xb, vr, rfl, rfl, SqT.of (sz _ _ hcb), SqT.of hz2, small (by rw [List.length_cons] at lenR; omega), (fun e => ?_), (fun _ e => ?_), fun _ _ z3 hz3 => ?_⟩
      · subst e
        exact ⟨an, z, vr, rfl, L12, hz2, both, han⟩
      · subst e
        rw [List.append_nil] at both
        exact ⟨an, cb, xb, rfl, L12, sz _ _ hcb, both, han⟩
      · have s3 := same_new hz3 (.tup (xb ++ vr))
        exact ⟨an, z3, xb ++ vr, rfl, L12.keep s3, upd_same, atAll_keep (TK.of_same s3) _ _ both, han⟩
  · rintro σ' H11 ⟨an, ρ1, xs1, rfl, L11, hρ1, at1, han⟩
    obtain ⟨dx11, _, _, _, _, _, g11, _⟩ := L11.sc.ex
    refine ⟨_, rfl, x, dx11, _, rfl, g11, flds_no _ _ _ (by decide +kernel) (by decide +kernel) (by decide +kernel), _, rfl, _, rfl, x, t, u, an, S, pl, s, R, rfl, L11.sc, L11.pu, L11.lo, L11.af, han, fun r H12 s12 hle hnx => ?_⟩
    have L12 := L11.keep s12
    have hρ2 := s12 _ _ hρ1
    have at2 := atAll_keep (TK.of_same s12) _ _ at1
    have cnt1 := remain_le s an R
    refine ⟨_, rfl, _, _, rfl, rfl, ?_⟩
    cases em : remain s an R with
    | nil =>
      have rn : r = .non := by
        by_cases e : s = .one .leave
        · exact hle e
        · refine (hnx e).1 ?_
          rw [← em]
          cases s with
          | one w => cases w <;> first | rfl | exact absurd rfl e
          | nam b z => rfl
          | ch y n => rfl
      subst rn
      rw [em] at at2
      have x0 : xs1 = [] := by rw [atAll] at at2; exact at2
      subst x0
      refine ⟨_, rfl, rfl, _, rfl, iteT ?_⟩
      refine ⟨_, rfl, ρ1, _, rfl, .inr (SqT.of hρ2), _, _, rfl, rfl, _, rfl, iteFb rfl ?_⟩
      obtain ⟨dx12, _, _, _, _, _, g12, _⟩ := L12.sc.ex
      have few := L12.sc.few
      have cc := L12.cc
      have c0 := L12.c0
      refine ⟨_, rfl, _, rfl, x, dx12, _, rfl, g12, x, t, S, rfl, L12.sc, _, rfl, by omega, by omega, _, _, rfl, rfl, _, rfl, iteFb (decide_eq_false (by omega)) ?_⟩
      refine ⟨_, rfl, (by show 1 ≤ sizeLine; decide), fun z hz => ?_⟩
      have sz := same_new hz (.tup [.int 0])
      have L13 := L12.keep sz
      exact ⟨z, t, [0], s0, S', 0, _, _, _, rfl, L0 z _ L13.same L13.sc L13.pool upd_same⟩
    | cons s1 R1 =>
      have nl : s ≠ .one .leave := fun e => by rw [e] at em; cases em
      have er : restOf s an R = s1 :: R1 := by
        rw [← em]
        cases s with
        | one w => cases w <;> first | rfl | exact absurd rfl nl
        | nam b z => rfl
        | ch y n => rfl
      obtain ⟨u1, pl1, rfl, hu1, lo1, af1, gt1⟩ := (hnx nl).2 s1 R1 er
      rw [em] at at2 cnt1
      refine ⟨_, rfl, rfl, _, rfl, iteFb rfl ?_⟩
      have xn : xs1.length = R1.length + 1 := by have := atAll_len at2; rw [this, List.length_cons]
      refine ⟨_, rfl, ρ1, _, rfl, .inr (SqT.of hρ2), rfl, _, rfl, iteFb (decide_eq_false (fun e => by injection e with e; omega)) ?_⟩
      refine ⟨_, rfl, _, _, _, _, true, rfl, .ty "tuple", .base (.tup hu1), kit_ty (by decide +kernel), true, rfl, iteF ?_⟩
      refine ⟨_, rfl, _, rfl, u1, u, pl1, pl, rfl, rfl, SqT.of hu1, SqT.of L12.pu, _, rfl, iteFb (gt_not_le gt1) ?_⟩
      refine ⟨_, rfl, ?_⟩
      have cc := L12.cc
      have c0 := L12.c0
      exact ⟨u1, ρ1, pl1, s1, R1, c + 1, _, _, _, rfl, ⟨L12.same, L12.sc, L12.pool, hu1, lo1, af1, ⟨xs1, hρ2, at2⟩, by omega, by omega⟩⟩
end
end Tk
set_option maxRecDepth 100000
namespace Tk
open PySem L2
theorem branches {P : Program} {w : World} {K : PySem.W.Frag} {mg : Str → Option Value} {base : Heap} {f fD fS : Addr} {fd fdD fdS : FuncData} (F : Fun K "_law_branch" "_law_branch" sBranch f fd) (B : Bl mg) (GD : FnOk P w K mg base CX0 1 fD fdD ["_law_pool_here", "_law_amount"] spDraw) (bD : Binds K fdD ["_law_pool_here", "_law_amount"] []) (kD : PySem.W.keepIn K (.ref fD) = true) (mD : mg "_law_draw" = some (.ref fD))
    (GS : FnOk P w K mg base CX0 2 fS fdS ["_law_pool_here", "_law_box", "_law_names_here"] spSimple) (bS : Binds K fdS ["_law_pool_here", "_law_box", "_law_names_here"] []) (kS : PySem.W.keepIn K (.ref fS) = true) (mS : mg "_law_simple" = some (.ref fS))
    (bB : Binds K fd psB []) (mB : mg "_law_branch" = some (.ref f)) : ∀ m : Nat, FnOk P w K mg base CX0 (2 + m) f fd psB (spBranch m)
  | 0 => by
    have no : ∀ vs H Q E, ¬ spBranch 0 vs H Q E := fun vs H Q E h => by
      obtain ⟨p, b, q, n, k, h, d, _, e, d2, _⟩ := h
      omega
    exact ⟨fun vs H Q E h => absurd h (no vs H Q E), fun A outer s H args us vs Q E _ _ _ _ h => absurd h (no vs H Q E)⟩
  | m + 1 => ok_branch F B GD bD kD mD GS bS kS mS (branches F B GD bD kD mD GS bS kS mS bB mB m) bB mB
theorem checks {P : Program} {w : World} {K : PySem.W.Frag} {mg : Str → Option Value} {base : Heap} {CS CK it : Addr} {fB fS fF fH : Addr} {fdB fdS fdF fdH : FuncData} (FB : Fun K "check_branch" "Check.check_branch" sKBr fB fdB) (FS : Fun K "check_statement" "Check.check_statement" sKSt fS fdS) (B : Bl mg) (T : Txt K w mg CS CK it)
    (bB : Binds K fdB psKB []) (mB : Meth K CK "check_branch" fB) (bS : Binds K fdS psKS []) (mS : Meth K CK "check_statement" fS)
    (GF : FnOk P w K mg base CX0 2 fF fdF ["statement", "place", "earlier", "held"] spFault) (bF : Binds K fdF ["statement", "place", "earlier", "held"] []) (kF : PySem.W.keepIn K (.ref fF) = true) (mF : mg "fault_of" = some (.ref fF)) (GH : FnOk P w K mg base CX0 1 fH fdH ["word", "held"] spHeld) (bH : Binds K fdH ["word", "held"] []) (kH : PySem.W.keepIn K (.ref fH) = true) (mH : mg "held_after" = some (.ref fH)) : ∀ m : Nat, FnOk P w K mg base CX0 (2 + 2 * m) fB fdB psKB (spKB CK m)
  | 0 => by
    have no : ∀ vs H Q E, ¬ spKB CK 0 vs H Q E := fun vs H Q E h => by
      obtain ⟨c, dd, t, u, xs, h, B, d, p, W, _, e, d2, _⟩ := h
      omega
    exact ⟨fun vs H Q E h => absurd h (no vs H Q E), fun A outer s H args us vs Q E _ _ _ _ h => absurd h (no vs H Q E)⟩
  | m + 1 => ok_kbr FB T (ok_kst (Nat.le_add_right 2 _) FS B T (checks FB FS B T bB mB bS mS GF bF kF mF GH bH kH mH m) bB mB GF bF kF mF GH bH kH mH) bS mS
theorem all_mk {l : PySem.W.OpenLaw} {w : World} {K : PySem.W.Frag} {h : Heap} {mg : Str → Option Value} {fa CS CK it TD f_isInt f_answers f_isAns f_isName f_fault f_form f_held f_pool f_draw f_names f_simple f_branch f_law f_sinit f_slen f_shas f_sget f_behind f_kinit f_kbr f_kst f_after : Addr} (X : K.In h) (G : h.Ns mainGlobals mg) (hfa : mg "law" = some (.ref fa))
    {od_isInt an_isInt : Option Addr} {sl_isInt : Array (Option Value)} {oc_isInt kV_isInt dc_isInt pm_isInt cd_isInt ct_isInt : Value}
    {od_answers an_answers : Option Addr} {sl_answers : Array (Option Value)} {oc_answers kV_answers dc_answers pm_answers cd_answers ct_answers : Value}
    {od_isAns an_isAns : Option Addr} {sl_isAns : Array (Option Value)} {oc_isAns kV_isAns dc_isAns pm_isAns cd_isAns ct_isAns : Value}
    {od_isName an_isName : Option Addr} {sl_isName : Array (Option Value)} {oc_isName kV_isName dc_isName pm_isName cd_isName ct_isName : Value}
    {od_fault an_fault : Option Addr} {sl_fault : Array (Option Value)} {oc_fault kV_fault dc_fault pm_fault cd_fault ct_fault : Value}
    {od_form an_form : Option Addr} {sl_form : Array (Option Value)} {oc_form kV_form dc_form pm_form cd_form ct_form : Value}
    {od_held an_held : Option Addr} {sl_held : Array (Option Value)} {oc_held kV_held dc_held pm_held cd_held ct_held : Value}
    {od_pool an_pool : Option Addr} {sl_pool : Array (Option Value)} {oc_pool kV_pool dc_pool pm_pool cd_pool ct_pool : Value}
    {od_draw an_draw : Option Addr} {sl_draw : Array (Option Value)} {oc_draw kV_draw dc_draw pm_draw cd_draw ct_draw : Value}
    {od_names an_names : Option Addr} {sl_names : Array (Option Value)} {oc_names kV_names dc_names pm_names cd_names ct_names : Value}
    {od_simple an_simple : Option Addr} {sl_simple : Array (Option Value)} {oc_simple kV_simple dc_simple pm_simple cd_simple ct_simple : Value}
    {od_branch an_branch : Option Addr} {sl_branch : Array (Option Value)} {oc_branch kV_branch dc_branch pm_branch cd_branch ct_branch : Value}
    {od_law an_law : Option Addr} {sl_law : Array (Option Value)} {oc_law kV_law dc_law pm_law cd_law ct_law : Value}
    {od_sinit an_sinit : Option Addr} {sl_sinit : Array (Option Value)} {oc_sinit kV_sinit dc_sinit pm_sinit cd_sinit ct_sinit : Value}
    {od_slen an_slen : Option Addr} {sl_slen : Array (Option Value)} {oc_slen kV_slen dc_slen pm_slen cd_slen ct_slen : Value}
    {od_shas an_shas : Option Addr} {sl_shas : Array (Option Value)} {oc_shas kV_shas dc_shas pm_shas cd_shas ct_shas : Value}
    {od_sget an_sget : Option Addr} {sl_sget : Array (Option Value)} {oc_sget kV_sget dc_sget pm_sget cd_sget ct_sget : Value}
    {od_behind an_behind : Option Addr} {sl_behind : Array (Option Value)} {oc_behind kV_behind dc_behind pm_behind cd_behind ct_behind : Value}
    {od_kinit an_kinit : Option Addr} {sl_kinit : Array (Option Value)} {oc_kinit kV_kinit dc_kinit pm_kinit cd_kinit ct_kinit : Value}
    {od_kbr an_kbr : Option Addr} {sl_kbr : Array (Option Value)} {oc_kbr kV_kbr dc_kbr pm_kbr cd_kbr ct_kbr : Value}
    {od_kst an_kst : Option Addr} {sl_kst : Array (Option Value)} {oc_kst kV_kst dc_kst pm_kst cd_kst ct_kst : Value}
    {od_after an_after : Option Addr} {sl_after : Array (Option Value)} {oc_after kV_after dc_after pm_after cd_after ct_after : Value}
    {cT : Value} {dT : Option Addr} {nT : Nat} {slT : Array (Option Value)} {esI : Array DictEntry} {nI : Nat} {t_LONGEST_NAME t_MOST_STATEMENTS t_MOST_HELD t_MOST_NESTED t_take t_commit t_rollback t_drop t_leave t_lock t_unlock t_choose tT : Tok}
    (aCS : PySem.W.nsIn K mainGlobals "Script" = some (some (.ref CS)))
    (aCK : PySem.W.nsIn K mainGlobals "Check" = some (some (.ref CK)))
    (pgCS : PySem.W.plainGet K CS Str.empty = true)
    (hdCS : PySem.W.hasDictIn K CS = true)
    (poCS : PySem.W.plainOver K CS = true)
    (saCS : PySem.W.findIn K (.ref CS) "__setattr__" = some (some (.builtin "object.__setattr__")))
    (mkCS : PySem.W.makesIn K CS = true)
    (kcCS : PySem.W.keepIn K (.ref CS) = true)
    (pgCK : PySem.W.plainGet K CK Str.empty = true)
    (hdCK : PySem.W.hasDictIn K CK = true)
    (poCK : PySem.W.plainOver K CK = true)
    (saCK : PySem.W.findIn K (.ref CK) "__setattr__" = some (some (.builtin "object.__setattr__")))
    (mkCK : PySem.W.makesIn K CK = true)
    (kcCK : PySem.W.keepIn K (.ref CK) = true)
    (nCSstatements : PySem.W.findIn K (.ref CS) "statements" = some none)
    (nCSfound : PySem.W.findIn K (.ref CS) "found" = some none)
    (nCSplaces : PySem.W.findIn K (.ref CS) "places" = some none)
    (nCKfound : PySem.W.findIn K (.ref CK) "found" = some none)
    (a_isInt : PySem.W.nsIn K mainGlobals "is_integer" = some (some (.ref f_isInt)))
    (l_isInt : K.lookup f_isInt = some ⟨oc_isInt, od_isInt, .func (PySem.W.fnOf "is_integer" "is_integer" (defArgs sIsInt) (defBody sIsInt) (defScope sIsInt) .none kV_isInt dc_isInt pm_isInt an_isInt cd_isInt ct_isInt), sl_isInt⟩)
    (c_isInt : PySem.W.codeIn K cd_isInt "is_integer" = true)
    (k_isInt : PySem.W.keepIn K (.ref f_isInt) = true)
    (a_answers : PySem.W.nsIn K mainGlobals "answers_of" = some (some (.ref f_answers)))
    (l_answers : K.lookup f_answers = some ⟨oc_answers, od_answers, .func (PySem.W.fnOf "answers_of" "answers_of" (defArgs sAnswers) (defBody sAnswers) (defScope sAnswers) .none kV_answers dc_answers pm_answers an_answers cd_answers ct_answers), sl_answers⟩)
    (c_answers : PySem.W.codeIn K cd_answers "answers_of" = true)
    (k_answers : PySem.W.keepIn K (.ref f_answers) = true)
    (a_isAns : PySem.W.nsIn K mainGlobals "is_answer" = some (some (.ref f_isAns)))
    (l_isAns : K.lookup f_isAns = some ⟨oc_isAns, od_isAns, .func (PySem.W.fnOf "is_answer" "is_answer" (defArgs sIsAns) (defBody sIsAns) (defScope sIsAns) .none kV_isAns dc_isAns pm_isAns an_isAns cd_isAns ct_isAns), sl_isAns⟩)
    (c_isAns : PySem.W.codeIn K cd_isAns "is_answer" = true)
    (k_isAns : PySem.W.keepIn K (.ref f_isAns) = true)
    (a_isName : PySem.W.nsIn K mainGlobals "is_name" = some (some (.ref f_isName)))
    (l_isName : K.lookup f_isName = some ⟨oc_isName, od_isName, .func (PySem.W.fnOf "is_name" "is_name" (defArgs sIsName) (defBody sIsName) (defScope sIsName) .none kV_isName dc_isName pm_isName an_isName cd_isName ct_isName), sl_isName⟩)
    (c_isName : PySem.W.codeIn K cd_isName "is_name" = true)
    (k_isName : PySem.W.keepIn K (.ref f_isName) = true)
    (a_fault : PySem.W.nsIn K mainGlobals "fault_of" = some (some (.ref f_fault)))
    (l_fault : K.lookup f_fault = some ⟨oc_fault, od_fault, .func (PySem.W.fnOf "fault_of" "fault_of" (defArgs sFault) (defBody sFault) (defScope sFault) .none kV_fault dc_fault pm_fault an_fault cd_fault ct_fault), sl_fault⟩)
    (c_fault : PySem.W.codeIn K cd_fault "fault_of" = true)
    (k_fault : PySem.W.keepIn K (.ref f_fault) = true)
    (a_form : PySem.W.nsIn K mainGlobals "has_form" = some (some (.ref f_form)))
    (a_held : PySem.W.nsIn K mainGlobals "held_after" = some (some (.ref f_held)))
    (l_form : K.lookup f_form = some ⟨oc_form, od_form, .func (PySem.W.fnOf "has_form" "has_form" (defArgs sForm) (defBody sForm) (defScope sForm) .none kV_form dc_form pm_form an_form cd_form ct_form), sl_form⟩)
    (l_held : K.lookup f_held = some ⟨oc_held, od_held, .func (PySem.W.fnOf "held_after" "held_after" (defArgs sHeld) (defBody sHeld) (defScope sHeld) .none kV_held dc_held pm_held an_held cd_held ct_held), sl_held⟩)
    (c_form : PySem.W.codeIn K cd_form "has_form" = true)
    (c_held : PySem.W.codeIn K cd_held "held_after" = true)
    (k_form : PySem.W.keepIn K (.ref f_form) = true)
    (k_held : PySem.W.keepIn K (.ref f_held) = true)
    (a_pool : PySem.W.nsIn K mainGlobals "_law_pool" = some (some (.ref f_pool)))
    (l_pool : K.lookup f_pool = some ⟨oc_pool, od_pool, .func (PySem.W.fnOf "_law_pool" "_law_pool" (defArgs sPool) (defBody sPool) (defScope sPool) .none kV_pool dc_pool pm_pool an_pool cd_pool ct_pool), sl_pool⟩)
    (c_pool : PySem.W.codeIn K cd_pool "_law_pool" = true)
    (k_pool : PySem.W.keepIn K (.ref f_pool) = true)
    (a_draw : PySem.W.nsIn K mainGlobals "_law_draw" = some (some (.ref f_draw)))
    (l_draw : K.lookup f_draw = some ⟨oc_draw, od_draw, .func (PySem.W.fnOf "_law_draw" "_law_draw" (defArgs sDraw) (defBody sDraw) (defScope sDraw) .none kV_draw dc_draw pm_draw an_draw cd_draw ct_draw), sl_draw⟩)
    (c_draw : PySem.W.codeIn K cd_draw "_law_draw" = true)
    (k_draw : PySem.W.keepIn K (.ref f_draw) = true)
    (a_names : PySem.W.nsIn K mainGlobals "_law_names" = some (some (.ref f_names)))
    (l_names : K.lookup f_names = some ⟨oc_names, od_names, .func (PySem.W.fnOf "_law_names" "_law_names" (defArgs sNames) (defBody sNames) (defScope sNames) .none kV_names dc_names pm_names an_names cd_names ct_names), sl_names⟩)
    (c_names : PySem.W.codeIn K cd_names "_law_names" = true)
    (k_names : PySem.W.keepIn K (.ref f_names) = true)
    (a_simple : PySem.W.nsIn K mainGlobals "_law_simple" = some (some (.ref f_simple)))
    (l_simple : K.lookup f_simple = some ⟨oc_simple, od_simple, .func (PySem.W.fnOf "_law_simple" "_law_simple" (defArgs sSimple) (defBody sSimple) (defScope sSimple) .none kV_simple dc_simple pm_simple an_simple cd_simple ct_simple), sl_simple⟩)
    (c_simple : PySem.W.codeIn K cd_simple "_law_simple" = true)
    (k_simple : PySem.W.keepIn K (.ref f_simple) = true)
    (a_branch : PySem.W.nsIn K mainGlobals "_law_branch" = some (some (.ref f_branch)))
    (l_branch : K.lookup f_branch = some ⟨oc_branch, od_branch, .func (PySem.W.fnOf "_law_branch" "_law_branch" (defArgs sBranch) (defBody sBranch) (defScope sBranch) .none kV_branch dc_branch pm_branch an_branch cd_branch ct_branch), sl_branch⟩)
    (c_branch : PySem.W.codeIn K cd_branch "_law_branch" = true)
    (k_branch : PySem.W.keepIn K (.ref f_branch) = true)
    (a_law : PySem.W.nsIn K mainGlobals "law" = some (some (.ref f_law)))
    (l_law : K.lookup f_law = some ⟨oc_law, od_law, .func (PySem.W.fnOf "law" "law" (defArgs sLaw) (defBody sLaw) (defScope sLaw) .none kV_law dc_law pm_law an_law cd_law ct_law), sl_law⟩)
    (c_law : PySem.W.codeIn K cd_law "law" = true)
    (k_law : PySem.W.keepIn K (.ref f_law) = true)
    (a_sinit : PySem.W.findIn K (.ref CS) "__init__" = some (some (.ref f_sinit)))
    (i_sinit : PySem.W.isFn K (.ref f_sinit) = true)
    (l_sinit : K.lookup f_sinit = some ⟨oc_sinit, od_sinit, .func (PySem.W.fnOf "__init__" "Script.__init__" (defArgs sSInit) (defBody sSInit) (defScope sSInit) .none kV_sinit dc_sinit pm_sinit an_sinit cd_sinit ct_sinit), sl_sinit⟩)
    (c_sinit : PySem.W.codeIn K cd_sinit "Script.__init__" = true)
    (k_sinit : PySem.W.keepIn K (.ref f_sinit) = true)
    (a_slen : PySem.W.findIn K (.ref CS) "__len__" = some (some (.ref f_slen)))
    (i_slen : PySem.W.isFn K (.ref f_slen) = true)
    (l_slen : K.lookup f_slen = some ⟨oc_slen, od_slen, .func (PySem.W.fnOf "__len__" "Script.__len__" (defArgs sSLen) (defBody sSLen) (defScope sSLen) .none kV_slen dc_slen pm_slen an_slen cd_slen ct_slen), sl_slen⟩)
    (c_slen : PySem.W.codeIn K cd_slen "Script.__len__" = true)
    (k_slen : PySem.W.keepIn K (.ref f_slen) = true)
    (a_shas : PySem.W.findIn K (.ref CS) "__contains__" = some (some (.ref f_shas)))
    (i_shas : PySem.W.isFn K (.ref f_shas) = true)
    (l_shas : K.lookup f_shas = some ⟨oc_shas, od_shas, .func (PySem.W.fnOf "__contains__" "Script.__contains__" (defArgs sSHas) (defBody sSHas) (defScope sSHas) .none kV_shas dc_shas pm_shas an_shas cd_shas ct_shas), sl_shas⟩)
    (c_shas : PySem.W.codeIn K cd_shas "Script.__contains__" = true)
    (k_shas : PySem.W.keepIn K (.ref f_shas) = true)
    (a_sget : PySem.W.findIn K (.ref CS) "__getitem__" = some (some (.ref f_sget)))
    (i_sget : PySem.W.isFn K (.ref f_sget) = true)
    (l_sget : K.lookup f_sget = some ⟨oc_sget, od_sget, .func (PySem.W.fnOf "__getitem__" "Script.__getitem__" (defArgs sSGet) (defBody sSGet) (defScope sSGet) .none kV_sget dc_sget pm_sget an_sget cd_sget ct_sget), sl_sget⟩)
    (c_sget : PySem.W.codeIn K cd_sget "Script.__getitem__" = true)
    (k_sget : PySem.W.keepIn K (.ref f_sget) = true)
    (a_behind : PySem.W.findIn K (.ref CS) "behind" = some (some (.ref f_behind)))
    (i_behind : PySem.W.isFn K (.ref f_behind) = true)
    (l_behind : K.lookup f_behind = some ⟨oc_behind, od_behind, .func (PySem.W.fnOf "behind" "Script.behind" (defArgs sBehind) (defBody sBehind) (defScope sBehind) .none kV_behind dc_behind pm_behind an_behind cd_behind ct_behind), sl_behind⟩)
    (c_behind : PySem.W.codeIn K cd_behind "Script.behind" = true)
    (k_behind : PySem.W.keepIn K (.ref f_behind) = true)
    (a_kinit : PySem.W.findIn K (.ref CK) "__init__" = some (some (.ref f_kinit)))
    (i_kinit : PySem.W.isFn K (.ref f_kinit) = true)
    (l_kinit : K.lookup f_kinit = some ⟨oc_kinit, od_kinit, .func (PySem.W.fnOf "__init__" "Check.__init__" (defArgs sKInit) (defBody sKInit) (defScope sKInit) .none kV_kinit dc_kinit pm_kinit an_kinit cd_kinit ct_kinit), sl_kinit⟩)
    (c_kinit : PySem.W.codeIn K cd_kinit "Check.__init__" = true)
    (k_kinit : PySem.W.keepIn K (.ref f_kinit) = true)
    (a_kbr : PySem.W.findIn K (.ref CK) "check_branch" = some (some (.ref f_kbr)))
    (i_kbr : PySem.W.isFn K (.ref f_kbr) = true)
    (l_kbr : K.lookup f_kbr = some ⟨oc_kbr, od_kbr, .func (PySem.W.fnOf "check_branch" "Check.check_branch" (defArgs sKBr) (defBody sKBr) (defScope sKBr) .none kV_kbr dc_kbr pm_kbr an_kbr cd_kbr ct_kbr), sl_kbr⟩)
    (c_kbr : PySem.W.codeIn K cd_kbr "Check.check_branch" = true)
    (k_kbr : PySem.W.keepIn K (.ref f_kbr) = true)
    (a_kst : PySem.W.findIn K (.ref CK) "check_statement" = some (some (.ref f_kst)))
    (i_kst : PySem.W.isFn K (.ref f_kst) = true)
    (l_kst : K.lookup f_kst = some ⟨oc_kst, od_kst, .func (PySem.W.fnOf "check_statement" "Check.check_statement" (defArgs sKSt) (defBody sKSt) (defScope sKSt) .none kV_kst dc_kst pm_kst an_kst cd_kst ct_kst), sl_kst⟩)
    (c_kst : PySem.W.codeIn K cd_kst "Check.check_statement" = true)
    (k_kst : PySem.W.keepIn K (.ref f_kst) = true)
    (a_after : PySem.W.findIn K (.ref CS) "after" = some (some (.ref f_after)))
    (i_after : PySem.W.isFn K (.ref f_after) = true)
    (l_after : K.lookup f_after = some ⟨oc_after, od_after, .func (PySem.W.fnOf "after" "Script.after" (defArgs sAfter) (defBody sAfter) (defScope sAfter) (.ref TD) kV_after dc_after pm_after an_after cd_after ct_after), sl_after⟩)
    (c_after : PySem.W.codeIn K cd_after "Script.after" = true)
    (k_after : PySem.W.keepIn K (.ref f_after) = true)
    (lT : K.lookup TD = some ⟨cT, dT, .seq [.int 0 tT].toArray nT, slT⟩)
    (fg : PySem.W.fnIn K f_sget = true)
    (z_len : PySem.W.nsIn K mainGlobals "len" = some none)
    (z_int : PySem.W.nsIn K mainGlobals "int" = some none)
    (z_max : PySem.W.nsIn K mainGlobals "max" = some none)
    (z_range : PySem.W.nsIn K mainGlobals "range" = some none)
    (z_tuple : PySem.W.nsIn K mainGlobals "tuple" = some none)
    (z_isinstance : PySem.W.nsIn K mainGlobals "isinstance" = some none)
    (z_all : PySem.W.nsIn K mainGlobals "all" = some none)
    (z_list : PySem.W.nsIn K mainGlobals "list" = some none)
    (z_enumerate : PySem.W.nsIn K mainGlobals "enumerate" = some none)
    (z_str : PySem.W.nsIn K mainGlobals "str" = some none)
    (z_bool : PySem.W.nsIn K mainGlobals "bool" = some none)
    (v_LONGEST_NAME : PySem.W.nsIn K mainGlobals "LONGEST_NAME" = some (some (.int 8 t_LONGEST_NAME)))
    (v_MOST_STATEMENTS : PySem.W.nsIn K mainGlobals "MOST_STATEMENTS" = some (some (.int 8 t_MOST_STATEMENTS)))
    (v_MOST_HELD : PySem.W.nsIn K mainGlobals "MOST_HELD" = some (some (.int 3 t_MOST_HELD)))
    (v_MOST_NESTED : PySem.W.nsIn K mainGlobals "MOST_NESTED" = some (some (.int 2 t_MOST_NESTED)))
    (aI : PySem.W.nsIn K mainGlobals "ITEMS" = some (some (.ref it)))
    (lI : K.lookup it = some ⟨.type "dict", none, .dict esI nI, #[]⟩)
    (kI : PySem.W.KeysLit w.params esI.toList)
    (sI : (it == sysModules) = false)
    (e_take : PySem.W.nsIn K it "take" = some (some (.int 1 t_take)))
    (e_commit : PySem.W.nsIn K it "commit" = some (some (.int 1 t_commit)))
    (e_rollback : PySem.W.nsIn K it "rollback" = some (some (.int 1 t_rollback)))
    (e_drop : PySem.W.nsIn K it "drop" = some (some (.int 1 t_drop)))
    (e_leave : PySem.W.nsIn K it "leave" = some (some (.int 1 t_leave)))
    (e_lock : PySem.W.nsIn K it "lock" = some (some (.int 2 t_lock)))
    (e_unlock : PySem.W.nsIn K it "unlock" = some (some (.int 2 t_unlock)))
    (e_choose : PySem.W.nsIn K it "choose" = some (some (.int 3 t_choose)))
    : ∃ fd : FuncData, (∀ (s : Shared) (v : Value), BindsTo s fd ⟨[v], []⟩ [("_law_script", v)]) ∧ ∀ base : Heap, K.In base → base.Ns mainGlobals mg → FnOk l.prog w K mg base CX0 11 fa fd ["_law_script"] (spLaw K) := by
  have e := hfa.symm.trans (PySem.W.mg_of X G a_law)
  cases e
  have B : Bl mg := ⟨PySem.W.mg_none_of X G z_len, PySem.W.mg_none_of X G z_int, PySem.W.mg_none_of X G z_max, PySem.W.mg_none_of X G z_range, PySem.W.mg_none_of X G z_tuple⟩
  have kg : ∀ z n, (z, n) ∈ items8 → KG K w it z (.int n) := by
    intro z n hm
    simp only [items8, List.mem_cons, List.not_mem_nil, or_false, Prod.mk.injEq] at hm
    rcases hm with ⟨rfl, rfl⟩ | ⟨rfl, rfl⟩ | ⟨rfl, rfl⟩ | ⟨rfl, rfl⟩ | ⟨rfl, rfl⟩ | ⟨rfl, rfl⟩ | ⟨rfl, rfl⟩ | ⟨rfl, rfl⟩
    · exact ⟨⟨_, _, _, lI, kI, e_take, ⟨_, rfl⟩⟩, sI⟩
    · exact ⟨⟨_, _, _, lI, kI, e_commit, ⟨_, rfl⟩⟩, sI⟩
    · exact ⟨⟨_, _, _, lI, kI, e_rollback, ⟨_, rfl⟩⟩, sI⟩
    · exact ⟨⟨_, _, _, lI, kI, e_drop, ⟨_, rfl⟩⟩, sI⟩
    · exact ⟨⟨_, _, _, lI, kI, e_leave, ⟨_, rfl⟩⟩, sI⟩
    · exact ⟨⟨_, _, _, lI, kI, e_lock, ⟨_, rfl⟩⟩, sI⟩
    · exact ⟨⟨_, _, _, lI, kI, e_unlock, ⟨_, rfl⟩⟩, sI⟩
    · exact ⟨⟨_, _, _, lI, kI, e_choose, ⟨_, rfl⟩⟩, sI⟩
  have T : Txt K w mg CS CK it := ⟨PySem.W.mg_none_of X G z_isinstance, PySem.W.mg_none_of X G z_all, PySem.W.mg_none_of X G z_list, PySem.W.mg_none_of X G z_enumerate, PySem.W.mg_none_of X G z_str, PySem.W.mg_none_of X G z_bool,
    ⟨_, PySem.W.mg_of X G v_LONGEST_NAME⟩, ⟨_, PySem.W.mg_of X G v_MOST_STATEMENTS⟩, ⟨_, PySem.W.mg_of X G v_MOST_HELD⟩, ⟨_, PySem.W.mg_of X G v_MOST_NESTED⟩, PySem.W.mg_of X G aI, ⟨_, _, lI⟩, kg,
    ⟨pgCS, hdCS, poCS, saCS⟩, ⟨pgCK, hdCK, poCK, saCK⟩, PySem.W.mg_of X G aCS, PySem.W.mg_of X G aCK, nCSstatements, nCSfound, nCSplaces, nCKfound⟩
  have F_isInt := fun_mk (st := sIsInt) l_isInt c_isInt k_isInt
  have b_isInt := F_isInt.binds (ps := ["value"]) fun _ _ _ _ _ _ us hl => match us, hl with | [_], _ => rfl
  have m_isInt := PySem.W.mg_of X G a_isInt
  have F_answers := fun_mk (st := sAnswers) l_answers c_answers k_answers
  have b_answers := F_answers.binds (ps := ["statement"]) fun _ _ _ _ _ _ us hl => match us, hl with | [_], _ => rfl
  have m_answers := PySem.W.mg_of X G a_answers
  have F_isAns := fun_mk (st := sIsAns) l_isAns c_isAns k_isAns
  have b_isAns := F_isAns.binds (ps := ["statement", "answer"]) fun _ _ _ _ _ _ us hl => match us, hl with | [_, _], _ => rfl
  have m_isAns := PySem.W.mg_of X G a_isAns
  have F_isName := fun_mk (st := sIsName) l_isName c_isName k_isName
  have b_isName := F_isName.binds (ps := ["value"]) fun _ _ _ _ _ _ us hl => match us, hl with | [_], _ => rfl
  have m_isName := PySem.W.mg_of X G a_isName
  have F_fault := fun_mk (st := sFault) l_fault c_fault k_fault
  have b_fault := F_fault.binds (ps := ["statement", "place", "earlier", "held"]) fun _ _ _ _ _ _ us hl => match us, hl with | [_, _, _, _], _ => rfl
  have m_fault := PySem.W.mg_of X G a_fault
  have F_form := fun_mk (st := sForm) l_form c_form k_form
  have F_held := fun_mk (st := sHeld) l_held c_held k_held
  have b_form := F_form.binds (ps := ["statement"]) fun _ _ _ _ _ _ us hl => match us, hl with | [_], _ => rfl
  have b_held := F_held.binds (ps := ["word", "held"]) fun _ _ _ _ _ _ us hl => match us, hl with | [_, _], _ => rfl
  have m_form := PySem.W.mg_of X G a_form
  have m_held := PySem.W.mg_of X G a_held
  have F_pool := fun_mk (st := sPool) l_pool c_pool k_pool
  have b_pool := F_pool.binds (ps := ["_law_script", "_law_k"]) fun _ _ _ _ _ _ us hl => match us, hl with | [_, _], _ => rfl
  have m_pool := PySem.W.mg_of X G a_pool
  have F_draw := fun_mk (st := sDraw) l_draw c_draw k_draw
  have b_draw := F_draw.binds (ps := ["_law_pool_here", "_law_amount"]) fun _ _ _ _ _ _ us hl => match us, hl with | [_, _], _ => rfl
  have m_draw := PySem.W.mg_of X G a_draw
  have F_names := fun_mk (st := sNames) l_names c_names k_names
  have b_names := F_names.binds (ps := ["_law_pool_here"]) fun _ _ _ _ _ _ us hl => match us, hl with | [_], _ => rfl
  have m_names := PySem.W.mg_of X G a_names
  have F_simple := fun_mk (st := sSimple) l_simple c_simple k_simple
  have b_simple := F_simple.binds (ps := ["_law_pool_here", "_law_box", "_law_names_here"]) fun _ _ _ _ _ _ us hl => match us, hl with | [_, _, _], _ => rfl
  have m_simple := PySem.W.mg_of X G a_simple
  have F_branch := fun_mk (st := sBranch) l_branch c_branch k_branch
  have b_branch := F_branch.binds (ps := ["_law_pool_here", "_law_box", "_law_names_here", "_law_length", "_law_depth"]) fun _ _ _ _ _ _ us hl => match us, hl with | [_, _, _, _, _], _ => rfl
  have m_branch := PySem.W.mg_of X G a_branch
  have F_law := fun_mk (st := sLaw) l_law c_law k_law
  have m_law := PySem.W.mg_of X G a_law
  have F_sinit := fun_mk (st := sSInit) l_sinit c_sinit k_sinit
  have b_sinit := F_sinit.binds (ps := ["self", "statements"]) fun _ _ _ _ _ _ us hl => match us, hl with | [_, _], _ => rfl
  have F_slen := fun_mk (st := sSLen) l_slen c_slen k_slen
  have b_slen := F_slen.binds (ps := ["self"]) fun _ _ _ _ _ _ us hl => match us, hl with | [_], _ => rfl
  have F_shas := fun_mk (st := sSHas) l_shas c_shas k_shas
  have b_shas := F_shas.binds (ps := ["self", "place"]) fun _ _ _ _ _ _ us hl => match us, hl with | [_, _], _ => rfl
  have F_sget := fun_mk (st := sSGet) l_sget c_sget k_sget
  have b_sget := F_sget.binds (ps := ["self", "place"]) fun _ _ _ _ _ _ us hl => match us, hl with | [_, _], _ => rfl
  have F_behind := fun_mk (st := sBehind) l_behind c_behind k_behind
  have b_behind := F_behind.binds (ps := ["self", "place"]) fun _ _ _ _ _ _ us hl => match us, hl with | [_, _], _ => rfl
  have F_kinit := fun_mk (st := sKInit) l_kinit c_kinit k_kinit
  have b_kinit := F_kinit.binds (ps := ["self"]) fun _ _ _ _ _ _ us hl => match us, hl with | [_], _ => rfl
  have F_kbr := fun_mk (st := sKBr) l_kbr c_kbr k_kbr
  have b_kbr := F_kbr.binds (ps := ["self", "branch", "above", "held"]) fun _ _ _ _ _ _ us hl => match us, hl with | [_, _, _, _], _ => rfl
  have F_kst := fun_mk (st := sKSt) l_kst c_kst k_kst
  have b_kst := F_kst.binds (ps := ["self", "statement", "place", "held"]) fun _ _ _ _ _ _ us hl => match us, hl with | [_, _, _, _], _ => rfl
  have F_after : FunD K "after" "Script.after" (defArgs sAfter) (defBody sAfter) (defScope sAfter) [.int 0] [] f_after _ := ⟨⟨_, _, _, _, _, _, _, _, _, _, rfl, l_after, c_after, .inr ⟨by simp, TD, _, [.int 0 tT], nT, rfl, lT, rfl, .cons ⟨_, rfl⟩ .nil⟩, .inl rfl⟩, k_after⟩
  obtain ⟨ds, rds, b_after⟩ := F_after.binds1 (ps := ["self", "place", "answer"]) 3 1 (by simp) rfl (fun _ _ _ _ _ _ _ us its h1 h2 => match us, its, h1, h2 with | [_, _, _], [_], _, _ => ⟨_, rfl, rfl⟩)
  have eds : ds = [] := by cases rds; rfl
  subst eds
  refine ⟨PySem.W.fnOf "law" "law" (defArgs sLaw) (defBody sLaw) (defScope sLaw) .none kV_law dc_law pm_law an_law cd_law ct_law, fun s v => .of_eq rfl, fun base _ _ => ?_⟩
  have Gii := ok_isint (P := l.prog) (w := w) (base := base) F_isInt B T
  have Gas := ok_answers (P := l.prog) (w := w) (mg := mg) (base := base) F_answers
  have Gia := ok_isans F_isAns Gii b_isInt k_isInt m_isInt Gas b_answers k_answers m_answers
  have Gin := ok_isname (P := l.prog) (w := w) (base := base) F_isName B T
  have Gfo := ok_form (P := l.prog) (w := w) (base := base) F_form B T
  have Gfa := ok_fault F_fault B T Gfo b_form k_form m_form Gin b_isName k_isName m_isName
  have Gpo := ok_pool (P := l.prog) (w := w) (base := base) F_pool B
  have Gdr := ok_draw (P := l.prog) (w := w) (base := base) F_draw B
  have Gna := ok_names F_names B Gdr b_draw k_draw m_draw
  have Gsi := ok_simple F_simple B Gdr b_draw k_draw m_draw
  have Gbr := branches F_branch B Gdr b_draw k_draw m_draw Gsi b_simple k_simple m_simple b_branch m_branch 3
  have Gki := ok_kinit (P := l.prog) (w := w) (base := base) F_kinit T
  have Ghd := ok_held (P := l.prog) (w := w) (mg := mg) (base := base) F_held
  have Gkb := checks F_kbr F_kst B T b_kbr ⟨a_kbr, i_kbr, k_kbr⟩ b_kst ⟨a_kst, i_kst, k_kst⟩ Gfa b_fault k_fault m_fault Ghd b_held k_held m_held 3
  have Gin := ok_sinit F_sinit B T ⟨mkCK, a_kinit, i_kinit, kcCK⟩ Gki b_kinit Gkb b_kbr ⟨a_kbr, i_kbr, k_kbr⟩
  have Gsl := ok_slen (P := l.prog) (w := w) (base := base) F_slen B T
  have Gsh := ok_shas F_shas B T Gii b_isInt k_isInt m_isInt
  have Gsg := ok_sget F_sget T Gsh b_shas ⟨a_shas, i_shas⟩
  have Gbe := ok_behind (P := l.prog) (w := w) (base := base) F_behind T
  have Gaf := ok_after F_after T Gsg b_sget ⟨a_sget, i_sget⟩ fg Gia b_isAns k_isAns m_isAns Gbe b_behind ⟨a_behind, i_behind, k_behind⟩
  exact ok_law F_law B T Gpo b_pool k_pool m_pool Gdr b_draw k_draw m_draw Gna b_names k_names m_names Gbr b_branch k_branch m_branch ⟨mkCS, a_sinit, i_sinit, kcCS⟩ Gin b_sinit Gsg b_sget ⟨a_sget, i_sget⟩ fg Gsl b_slen ⟨a_slen, i_slen⟩ Gaf b_after ⟨a_after, i_after, k_after⟩
theorem walk {l : PySem.W.OpenLaw} {q : Program} {loose : List Str} {XP : (Str → Option Value) → Heap → Prop} {YP : World → Heap → Prop} {d : DefRec} {K : Params → PySem.W.Frag} (hn : l.most = some 63) (hdf : d.params.defaults = [])
    (hY : ∀ (w : World) (h : Heap), YP w h → (K w.params).In h)
    (F : ∀ (w : World) (mg : Str → Option Value) (fa : Addr) (h : Heap), (K w.params).In h → h.Ns mainGlobals mg → mg d.name = some (.ref fa) →
      ∃ fd : FuncData, (∀ (s : Shared) (u : Value), BindsTo s fd ⟨[u], []⟩ [("_law_script", u)]) ∧ ∀ base : Heap, (K w.params).In base → base.Ns mainGlobals mg → FnOk l.prog w (K w.params) mg base CX0 11 fa fd ["_law_script"] (spLaw (K w.params))) :
    PySem.W.WalkO q loose XP YP l.row.toRowW d [] (fun f vs => PySem.call f vs) :=
  L2.walk_of (n := 63) (k := 11) (x := "_law_script") (CX := fun _ => CX0) (sp := fun w => spLaw (K w.params)) hn (by decide) hdf ⟨rfl, by decide, by decide⟩ hY F (fun _ _ a ns hl _ hS => ⟨a, ns, rfl, hS, hl, fun _ => rfl⟩) fun _ _ _ _ _ z => z
end Tk
open PySem PySem.W PyProof.Rows
set_option maxRecDepth 100000 in
set_option maxHeartbeats 0 in
theorem PySem.Challenge.cw_takenahead_k04_whole_script_walks_holds : PySem.Challenge.rw_takenahead_k04_whole_script_walks.Holds := by
  w_on; o_law; k_head; (case hw => w_witness2)
  k_fill
  refine Tk.walk (l := PySem.Challenge.rw_takenahead_k04_whole_script_walks) rfl rfl (fun w h Y => PySem.W.kIn_of Y) ?F
  case F =>
    intro w mg fa h KX G hmg
    refine' Tk.all_mk KX G hmg ?aCS ?aCK ?pgCS ?hdCS ?poCS ?saCS ?mkCS ?kcCS ?pgCK ?hdCK ?poCK ?saCK ?mkCK ?kcCK ?nCSstatements ?nCSfound ?nCSplaces ?nCKfound ?a_isInt ?l_isInt ?c_isInt ?k_isInt ?a_answers ?l_answers ?c_answers ?k_answers ?a_isAns ?l_isAns ?c_isAns ?k_isAns ?a_isName ?l_isName ?c_isName ?k_isName ?a_fault ?l_fault ?c_fault ?k_fault ?a_form ?a_held ?l_form ?l_held ?c_form ?c_held ?k_form ?k_held ?a_pool ?l_pool ?c_pool ?k_pool ?a_draw ?l_draw ?c_draw ?k_draw ?a_names ?l_names ?c_names ?k_names ?a_simple ?l_simple ?c_simple ?k_simple ?a_branch ?l_branch ?c_branch ?k_branch ?a_law ?l_law ?c_law ?k_law ?a_sinit ?i_sinit ?l_sinit ?c_sinit ?k_sinit ?a_slen ?i_slen ?l_slen ?c_slen ?k_slen ?a_shas ?i_shas ?l_shas ?c_shas ?k_shas ?a_sget ?i_sget ?l_sget ?c_sget ?k_sget ?a_behind ?i_behind ?l_behind ?c_behind ?k_behind ?a_kinit ?i_kinit ?l_kinit ?c_kinit ?k_kinit ?a_kbr ?i_kbr ?l_kbr ?c_kbr ?k_kbr ?a_kst ?i_kst ?l_kst ?c_kst ?k_kst ?a_after ?i_after ?l_after ?c_after ?k_after ?lT ?fg ?z_len ?z_int ?z_max ?z_range ?z_tuple ?z_isinstance ?z_all ?z_list ?z_enumerate ?z_str ?z_bool ?v_LONGEST_NAME ?v_MOST_STATEMENTS ?v_MOST_HELD ?v_MOST_NESTED ?aI ?lI ?kI ?sI ?e_take ?e_commit ?e_rollback ?e_drop ?e_leave ?e_lock ?e_unlock ?e_choose
    (case aCS => k_is)
    (case aCK => k_is)
    (case pgCS => k_is)
    (case hdCS => k_is)
    (case poCS => k_is)
    (case saCS => k_is)
    (case mkCS => k_is)
    (case kcCS => k_is)
    (case pgCK => k_is)
    (case hdCK => k_is)
    (case poCK => k_is)
    (case saCK => k_is)
    (case mkCK => k_is)
    (case kcCK => k_is)
    (case nCSstatements => k_is)
    (case nCSfound => k_is)
    (case nCSplaces => k_is)
    (case nCKfound => k_is)
    (case a_isInt => k_is)
    (case l_isInt => k_is)
    (case c_isInt => k_is)
    (case k_isInt => k_is)
    (case a_answers => k_is)
    (case l_answers => k_is)
    (case c_answers => k_is)
    (case k_answers => k_is)
    (case a_isAns => k_is)
    (case l_isAns => k_is)
    (case c_isAns => k_is)
    (case k_isAns => k_is)
    (case a_isName => k_is)
    (case l_isName => k_is)
    (case c_isName => k_is)
    (case k_isName => k_is)
    (case a_fault => k_is)
    (case l_fault => k_is)
    (case c_fault => k_is)
    (case k_fault => k_is)
    (case a_form => k_is)
    (case l_form => k_is)
    (case c_form => k_is)
    (case k_form => k_is)
    (case a_held => k_is)
    (case l_held => k_is)
    (case c_held => k_is)
    (case k_held => k_is)
    (case a_pool => k_is)
    (case l_pool => k_is)
    (case c_pool => k_is)
    (case k_pool => k_is)
    (case a_draw => k_is)
    (case l_draw => k_is)
    (case c_draw => k_is)
    (case k_draw => k_is)
    (case a_names => k_is)
    (case l_names => k_is)
    (case c_names => k_is)
    (case k_names => k_is)
    (case a_simple => k_is)
    (case l_simple => k_is)
    (case c_simple => k_is)
    (case k_simple => k_is)
    (case a_branch => k_is)
    (case l_branch => k_is)
    (case c_branch => k_is)
    (case k_branch => k_is)
    (case a_law => k_is)
    (case l_law => k_is)
    (case c_law => k_is)
    (case k_law => k_is)
    (case a_sinit => k_is)
    (case i_sinit => k_is)
    (case l_sinit => k_is)
    (case c_sinit => k_is)
    (case k_sinit => k_is)
    (case a_slen => k_is)
    (case i_slen => k_is)
    (case l_slen => k_is)
    (case c_slen => k_is)
    (case k_slen => k_is)
    (case a_shas => k_is)
    (case i_shas => k_is)
    (case l_shas => k_is)
    (case c_shas => k_is)
    (case k_shas => k_is)
    (case a_sget => k_is)
    (case i_sget => k_is)
    (case l_sget => k_is)
    (case c_sget => k_is)
    (case k_sget => k_is)
    (case a_behind => k_is)
    (case i_behind => k_is)
    (case l_behind => k_is)
    (case c_behind => k_is)
    (case k_behind => k_is)
    (case a_kinit => k_is)
    (case i_kinit => k_is)
    (case l_kinit => k_is)
    (case c_kinit => k_is)
    (case k_kinit => k_is)
    (case a_kbr => k_is)
    (case i_kbr => k_is)
    (case l_kbr => k_is)
    (case c_kbr => k_is)
    (case k_kbr => k_is)
    (case a_kst => k_is)
    (case i_kst => k_is)
    (case l_kst => k_is)
    (case c_kst => k_is)
    (case k_kst => k_is)
    (case a_after => k_is)
    (case i_after => k_is)
    (case l_after => k_is)
    (case c_after => k_is)
    (case k_after => k_is)
    (case lT => k_is)
    (case fg => k_is)
    (case z_len => k_is)
    (case z_int => k_is)
    (case z_max => k_is)
    (case z_range => k_is)
    (case z_tuple => k_is)
    (case z_isinstance => k_is)
    (case z_all => k_is)
    (case z_list => k_is)
    (case z_enumerate => k_is)
    (case z_str => k_is)
    (case z_bool => k_is)
    (case v_LONGEST_NAME => k_is)
    (case v_MOST_STATEMENTS => k_is)
    (case v_MOST_HELD => k_is)
    (case v_MOST_NESTED => k_is)
    (case aI => k_is)
    (case lI => k_is)
    (case kI => (repeat (first | exact trivial | refine ⟨⟨_, _, rfl, rfl⟩, ?_⟩)))
    (case sI => first | rfl | decide)
    (case e_take => k_is)
    (case e_commit => k_is)
    (case e_rollback => k_is)
    (case e_drop => k_is)
    (case e_leave => k_is)
    (case e_lock => k_is)
    (case e_unlock => k_is)
    (case e_choose => k_is)
