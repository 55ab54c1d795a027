import PyProof.Rows.All
import Wide.All
import OpenK.AllK
import Wide.FinOn
import HandS.ForMost
import HandS.TupAny
import HandS.TupLen
import HandS.TupLe
import HandS.Conv
import HandS.IsInst
import HandS.More
import HandS.OwnEq
import KE.GoesMore
import HandS.Walk
import HandS.ExcInit
import HandS.ExcOwn
import HandS.ExcField
import HandS.ExcIs
import HandS.WordsExc
import HandS.DeepEq
import KE.KExcIs
import HandS.WrittenGet
import PyProof.NeKinds
import HandS.Codes
import PySem.Challenge.RW_takenahead_k02_script_refused
set_option Elab.async false
set_option linter.all false
set_option maxRecDepth 100000
namespace Tk
open PySem L2
/-! ## heaps -/
/-- all but what stands at p is as it was -/
def Kp (p : Addr) (H H' : Hp) : Prop := ∀ b o, H b = some o → b ≠ p → H' b = some o
theorem Kp.refl (p : Addr) (H : Hp) : Kp p H H := fun _ _ e _ => e
theorem Kp.trans {p : Addr} {H H1 H2 : Hp} (a : Kp p H H1) (b : Kp p H1 H2) : Kp p H H2 := fun c o e n => b c o (a c o e n) n
theorem Kp.upd {p : Addr} {H : Hp} {o : HO} : Kp p H (L2.upd H p o) := fun c u e n => by rw [upd_ne n]; exact e
theorem Kp.new {p q : Addr} {H H' : Hp} {o : HO} (a : Kp p H H') (n : H' q = none) : Kp p H (L2.upd H' q o) := fun c u e m => by
  rw [upd_ne (ne_of_none (a c u e m) n)]; exact a c u e m
theorem Kp.of_same {p : Addr} {H H' : Hp} (a : Same H H') : Kp p H H' := fun c o e _ => a c o e
theorem same_new {H : Hp} {p : Addr} (h : H p = none) (o : HO) : Same H (L2.upd H p o) := fun b u q => by rw [upd_ne (ne_of_none q h)]; exact q
/-- the pool: three whole numbers -/
def PoolAt (H : Hp) (p : Addr) : Prop := ∃ a b c : Int, H p = some (.lst [.int a, .int b, .int c])
theorem Kp.tup {p q : Addr} {H H' : Hp} {xs : List V} {ys : List V} (k : Kp p H H') (hp : H p = some (.lst ys)) (h : H q = some (.tup xs)) : H' q = some (.tup xs) :=
  k q _ h (ne_of h hp (by intro z; cases z))
/-! ## numbers -/
theorem fmod_ok {a n : Int} (h : 0 < n) : 0 ≤ a.fmod n ∧ a.fmod n < n := ⟨Int.fmod_nonneg_of_pos a h, Int.fmod_lt_of_pos a h⟩
/-! ## texts -/
def Low (z : Str) : Prop := ∀ c ∈ z.cps.toList, 97 ≤ c ∧ c ≤ 122
def IsName (z : Str) : Prop := 1 ≤ z.length ∧ z.length ≤ 8 ∧ Low z
abbrev alpha : Str := "abcdefghijklmnopqrstuvwxyz"
theorem alpha_all : ∀ n : Fin 26, atI alpha.cps.toList ((n.val : Nat) : Int) = some (97 + n.val) := by decide +kernel
theorem alpha_at {i : Int} (h0 : 0 ≤ i) (h1 : i < 26) : ∃ c, atI alpha.cps.toList i = some c ∧ 97 ≤ c ∧ c ≤ 122 := by
  have e : i = ((i.toNat : Nat) : Int) := by omega
  have q := alpha_all ⟨i.toNat, by omega⟩
  rw [e]
  exact ⟨_, q, by simp, by simp; omega⟩
theorem low_nil : Low ("" : Str) := fun c h => by cases h
theorem low_app {x y : Str} (a : Low x) (b : Low y) : Low (x ++ y) := fun c h => by
  have h' : c ∈ (x.cps ++ y.cps).toList := h
  rw [Array.toList_append] at h'
  rcases List.mem_append.mp h' with q | q
  · exact a c q
  · exact b c q
theorem low_one {c : Nat} (h : 97 ≤ c ∧ c ≤ 122) : Low ⟨#[c]⟩ := fun d q => by
  have e : d = c := by simpa using q
  rw [e]; exact h
theorem low_cut {x : Str} (a : Low x) (lo hi : Option Int) : Low (cutS x lo hi) := fun c h => by
  have h' : c ∈ ((x.cps.toList.drop (HT.sIx x.length 0 lo)).take (HT.sIx x.length x.length hi - HT.sIx x.length 0 lo)) := by simpa [cutS] using h
  exact a c (List.mem_of_mem_drop (List.mem_of_mem_take h'))
theorem len_app (x y : Str) : (x ++ y).length = x.length + y.length := by
  show (x.cps ++ y.cps).size = _
  rw [Array.size_append]; rfl
theorem len_one (c : Nat) : (⟨#[c]⟩ : Str).length = 1 := rfl
theorem len_cut_lo (x : Str) (k : Nat) (h : k ≤ x.length) : (cutS x none (some (k : Int))).length = k := by
  have e : x.cps.toList.length = x.length := by simp [Str.length]
  show (((x.cps.toList.drop (HT.sIx x.length 0 none)).take (HT.sIx x.length x.length (some (k : Int)) - HT.sIx x.length 0 none)).toArray).size = k
  rw [HT.sIx_nat, HT.sIx_none, List.size_toArray, List.length_take, List.length_drop, e]
  omega
theorem len_cut_hi (x : Str) (k : Nat) (h : k ≤ x.length) : (cutS x (some (k : Int)) none).length = x.length - k := by
  have e : x.cps.toList.length = x.length := by simp [Str.length]
  show (((x.cps.toList.drop (HT.sIx x.length 0 (some (k : Int)))).take (HT.sIx x.length x.length none - HT.sIx x.length 0 (some (k : Int)))).toArray).size = _
  rw [HT.sIx_nat, HT.sIx_none, List.size_toArray, List.length_take, List.length_drop, e]
  omega
theorem isName_mk {b : Str} {c : Nat} {k : Int} (hb : Low b) (hl : b.length ≤ 7) (hc : 97 ≤ c ∧ c ≤ 122) (h0 : 0 ≤ k) (h1 : k ≤ b.length) :
    IsName (cutS b none (some k) ++ ⟨#[c]⟩ ++ cutS b (some k) none) := by
  obtain ⟨n, rfl⟩ : ∃ n : Nat, k = (n : Int) := ⟨k.toNat, by omega⟩
  have hn : n ≤ b.length := by omega
  refine ⟨?_, ?_, low_app (low_app (low_cut hb _ _) (low_one hc)) (low_cut hb _ _)⟩
  · rw [len_app, len_app, len_one]; omega
  · rw [len_app, len_app, len_one, len_cut_lo b n hn, len_cut_hi b n hn]; omega
/-- the list of the three names -/
def NamesAt (H : Hp) (q : Addr) : Prop := ∃ x y z : Str, H q = some (.lst [.str x, .str y, .str z]) ∧ IsName x ∧ IsName y ∧ IsName z
/-! ## statements -/
inductive Wd | take | commit | rollback | drop | leave
  deriving DecidableEq
def Wd.s : Wd → Str
  | .take => "take" | .commit => "commit" | .rollback => "rollback" | .drop => "drop" | .leave => "leave"
def Wd.held : Wd → Int → Int
  | .take, h => h + 1 | .commit, _ => 0 | .rollback, _ => 0 | .leave, _ => 0 | .drop, h => h
/-- lock (true), unlock -/
def lockS (b : Bool) : Str := if b then "lock" else "unlock"
inductive Stm
  | one (w : Wd)
  | nam (b : Bool) (n : Str)
  | ch (y n : List Stm)
mutual
def Stm.d : Stm → PyData
  | .one w => .tuple [.str w.s]
  | .nam b n => .tuple [.str (lockS b), .str n]
  | .ch y n => .tuple [.str "choose", .tuple (dAll y), .tuple (dAll n)]
def dAll : List Stm → List PyData
  | [] => []
  | s :: r => s.d :: dAll r
end
mutual
def Stm.cnt : Stm → Nat
  | .one _ => 1
  | .nam _ _ => 1
  | .ch y n => 1 + cntAll y + cntAll n
def cntAll : List Stm → Nat
  | [] => 0
  | s :: r => s.cnt + cntAll r
end
mutual
def Stm.held : Stm → Int → Int
  | .one w, h => w.held h
  | .nam _ _, h => h
  | .ch y n, h => max (heldAll y h) (heldAll n h)
def heldAll : List Stm → Int → Int
  | [], h => h
  | s :: r, h => heldAll r (s.held h)
end
mutual
/-- s is a good statement inside of d chooses, when h numbers are held -/
def Stm.ok : Nat → Stm → Int → Prop
  | _, .one w, h => w = .take → h ≠ 3
  | _, .nam _ n, _ => IsName n
  | d, .ch y n, h => d < 2 ∧ okAll (d + 1) y h ∧ okAll (d + 1) n h
def okAll : Nat → List Stm → Int → Prop
  | _, [], _ => True
  | d, s :: r, h => s.ok d h ∧ okAll d r (s.held h)
end
mutual
/-- the value v is the statement s -/
def Stm.at : Hp → V → Stm → Prop
  | H, v, .one w => ∃ a, v = .ref a ∧ H a = some (.tup [.str w.s])
  | H, v, .nam b n => ∃ a, v = .ref a ∧ H a = some (.tup [.str (lockS b), .str n])
  | H, v, .ch y n => ∃ a b c xs ys, v = .ref a ∧ H a = some (.tup [.str "choose", .ref b, .ref c]) ∧ H b = some (.tup xs) ∧ atAll H xs y ∧ H c = some (.tup ys) ∧ atAll H ys n
def atAll : Hp → List V → List Stm → Prop
  | _, xs, [] => xs = []
  | H, xs, s :: r => ∃ v vs, xs = v :: vs ∧ s.at H v ∧ atAll H vs r
end
/-- tuples stay -/
def TK (H H' : Hp) : Prop := ∀ a xs, H a = some (.tup xs) → H' a = some (.tup xs)
theorem TK.refl (H : Hp) : TK H H := fun _ _ h => h
theorem TK.trans {H H1 H2 : Hp} (a : TK H H1) (b : TK H1 H2) : TK H H2 := fun c o h => b c o (a c o h)
theorem TK.of_same {H H' : Hp} (s : Same H H') : TK H H' := fun a xs h => s a _ h
theorem Kp.tk {p : Addr} {H H' : Hp} {ys : List V} (k : Kp p H H') (hp : H p = some (.lst ys)) : TK H H' := fun a xs h => k.tup hp h
mutual
theorem Stm.at_keep {H H' : Hp} (k : TK H H') : ∀ (s : Stm) (v : V), s.at H v → s.at H' v
  | .one w, v, h => by
    unfold Stm.at at h ⊢
    obtain ⟨a, e, h⟩ := h
    exact ⟨a, e, k _ _ h⟩
  | .nam b n, v, h => by
    unfold Stm.at at h ⊢
    obtain ⟨a, e, h⟩ := h
    exact ⟨a, e, k _ _ h⟩
  | .ch y n, v, h => by
    unfold Stm.at at h ⊢
    obtain ⟨a, b, c, xs, ys, e, h1, h2, h3, h4, h5⟩ := h
    exact ⟨a, b, c, xs, ys, e, k _ _ h1, k _ _ h2, atAll_keep k y xs h3, k _ _ h4, atAll_keep k n ys h5⟩
theorem atAll_keep {H H' : Hp} (k : TK H H') : ∀ (B : List Stm) (xs : List V), atAll H xs B → atAll H' xs B
  | [], xs, h => h
  | s :: r, xs, h => by
    unfold atAll at h ⊢
    obtain ⟨v, vs, e, h1, h2⟩ := h
    exact ⟨v, vs, e, Stm.at_keep k s v h1, atAll_keep k r vs h2⟩
end
theorem atAll_len {H : Hp} : ∀ {B : List Stm} {xs : List V}, atAll H xs B → xs.length = B.length
  | [], xs, h => by unfold atAll at h; rw [h]; rfl
  | s :: r, xs, h => by
    unfold atAll at h
    obtain ⟨v, vs, e, h1, h2⟩ := h
    rw [e, List.length_cons, List.length_cons, atAll_len h2]
theorem atAll_get {H : Hp} : ∀ {B : List Stm} {xs : List V} {i : Nat} {s : Stm}, atAll H xs B → B[i]? = some s → ∃ v, xs[i]? = some v ∧ s.at H v
  | [], xs, i, s, h, e => by simp at e
  | t :: r, xs, 0, s, h, e => by
    unfold atAll at h
    obtain ⟨v, vs, e1, h1, h2⟩ := h
    have e2 : t = s := Option.some.inj e
    exact ⟨v, by rw [e1]; rfl, e2 ▸ h1⟩
  | t :: r, xs, i + 1, s, h, e => by
    unfold atAll at h
    obtain ⟨v, vs, e1, h1, h2⟩ := h
    obtain ⟨u, h3, h4⟩ := atAll_get (i := i) (s := s) h2 e
    exact ⟨u, by rw [e1]; exact h3, h4⟩
theorem atAll_app {H : Hp} : ∀ {B C : List Stm} {xs ys : List V}, atAll H xs B → atAll H ys C → atAll H (xs ++ ys) (B ++ C)
  | [], C, xs, ys, h, g => by unfold atAll at h; rw [h]; exact g
  | s :: r, C, xs, ys, h, g => by
    unfold atAll at h
    obtain ⟨v, vs, e, h1, h2⟩ := h
    rw [e]
    show atAll H (v :: (vs ++ ys)) (s :: (r ++ C))
    unfold atAll
    exact ⟨v, vs ++ ys, rfl, h1, atAll_app h2 g⟩
theorem atAll_one {H : Hp} {s : Stm} {v : V} (h : s.at H v) : atAll H [v] [s] := by
  unfold atAll
  exact ⟨v, [], rfl, h, by unfold atAll; rfl⟩
theorem atAll_drop {H : Hp} : ∀ {B : List Stm} {xs : List V} (n : Nat), atAll H xs B → atAll H (xs.drop n) (B.drop n)
  | B, xs, 0, h => h
  | [], xs, n + 1, h => by unfold atAll at h; rw [h]; rfl
  | s :: r, xs, n + 1, h => by
    unfold atAll at h
    obtain ⟨v, vs, e, h1, h2⟩ := h
    rw [e]
    exact atAll_drop n h2
theorem heldAll_app : ∀ (B C : List Stm) (h : Int), heldAll (B ++ C) h = heldAll C (heldAll B h)
  | [], C, h => rfl
  | s :: r, C, h => by
    show heldAll (s :: (r ++ C)) h = heldAll C (heldAll (s :: r) h)
    rw [heldAll, heldAll]
    exact heldAll_app r C _
theorem okAll_app : ∀ (d : Nat) (B C : List Stm) (h : Int), okAll d B h → okAll d C (heldAll B h) → okAll d (B ++ C) h
  | d, [], C, h, _, g => by rw [heldAll] at g; exact g
  | d, s :: r, C, h, f, g => by
    rw [okAll] at f
    rw [heldAll] at g
    show okAll d (s :: (r ++ C)) h
    rw [okAll]
    exact ⟨f.1, okAll_app d r C _ f.2 g⟩
theorem cntAll_app : ∀ (B C : List Stm), cntAll (B ++ C) = cntAll B + cntAll C
  | [], C => by rw [cntAll]; simp
  | s :: r, C => by
    show cntAll (s :: (r ++ C)) = _
    rw [cntAll, cntAll, cntAll_app r C]; omega
theorem cnt_pos (s : Stm) : 1 ≤ s.cnt := by
  cases s <;> rw [Stm.cnt] <;> omega
theorem len_le_cnt : ∀ (B : List Stm), B.length ≤ cntAll B
  | [] => Nat.zero_le _
  | s :: r => by
    have := cnt_pos s
    have := len_le_cnt r
    rw [cntAll, List.length_cons]; omega
/-! ## what the draws stand on: the pool p, the box b (what is left, what is held), the names q -/
def BoxAt (H : Hp) (b : Addr) (k h : Int) : Prop := H b = some (.lst [.int k, .int h, .int 3])
structure Dr (H : Hp) (p b q : Addr) (k h : Int) : Prop where
  pool : PoolAt H p
  box : BoxAt H b k h
  names : NamesAt H q
  npb : p ≠ b
  npq : p ≠ q
  nbq : b ≠ q
def K2 (p b : Addr) (H H' : Hp) : Prop := ∀ a o, H a = some o → a ≠ p → a ≠ b → H' a = some o
theorem K2.refl (p b : Addr) (H : Hp) : K2 p b H H := fun _ _ e _ _ => e
theorem K2.trans {p b : Addr} {H H1 H2 : Hp} (x : K2 p b H H1) (y : K2 p b H1 H2) : K2 p b H H2 := fun c o e n m => y c o (x c o e n m) n m
theorem Kp.k2 {p b : Addr} {H H' : Hp} (k : Kp p H H') : K2 p b H H' := fun a o e n _ => k a o e n
theorem K2.upd {p b : Addr} {H : Hp} {o : HO} : K2 p b H (L2.upd H b o) := fun a u e _ n => by rw [upd_ne n]; exact e
theorem K2.new {p b q : Addr} {H H' : Hp} {o : HO} (k : K2 p b H H') (n : H' q = none) : K2 p b H (L2.upd H' q o) := fun c u e m m' => by
  rw [upd_ne (ne_of_none (k c u e m m') n)]; exact k c u e m m'
theorem Dr.tk {H H' : Hp} {p b q : Addr} {k h : Int} (D : Dr H p b q k h) (x : K2 p b H H') : TK H H' := fun a xs e => by
  obtain ⟨_, _, _, hp⟩ := D.pool
  exact x a _ e (ne_of e hp (by intro z; cases z)) (ne_of e D.box (by intro z; cases z))
theorem Dr.draw {H H' : Hp} {p b q : Addr} {k h : Int} (D : Dr H p b q k h) (x : Kp p H H') (y : PoolAt H' p) : Dr H' p b q k h := by
  obtain ⟨a1, a2, a3, hq, n1, n2, n3⟩ := D.names
  exact ⟨y, x b _ D.box D.npb.symm, ⟨a1, a2, a3, x q _ hq D.npq.symm, n1, n2, n3⟩, D.npb, D.npq, D.nbq⟩
theorem Dr.put {H : Hp} {p b q : Addr} {k h k' h' : Int} (D : Dr H p b q k h) : Dr (L2.upd H b (.lst [.int k', .int h', .int 3])) p b q k' h' := by
  obtain ⟨a1, a2, a3, hq, n1, n2, n3⟩ := D.names
  obtain ⟨x, y, z, hp⟩ := D.pool
  exact ⟨⟨x, y, z, by rw [upd_ne D.npb]; exact hp⟩, upd_same, ⟨a1, a2, a3, by rw [upd_ne D.nbq.symm]; exact hq, n1, n2, n3⟩, D.npb, D.npq, D.nbq⟩
theorem Dr.new {H : Hp} {p b q a : Addr} {o : HO} {k h : Int} (D : Dr H p b q k h) (n : H a = none) : Dr (L2.upd H a o) p b q k h := by
  obtain ⟨a1, a2, a3, hq, n1, n2, n3⟩ := D.names
  obtain ⟨x, y, z, hp⟩ := D.pool
  exact ⟨⟨x, y, z, by rw [upd_ne (ne_of_none hp n)]; exact hp⟩, by unfold BoxAt; rw [upd_ne (ne_of_none D.box n)]; exact D.box, ⟨a1, a2, a3, by rw [upd_ne (ne_of_none hq n)]; exact hq, n1, n2, n3⟩, D.npb, D.npq, D.nbq⟩
theorem names_at {H : Hp} {q : Addr} (h : NamesAt H q) {r : Int} (r0 : 0 ≤ r) (r1 : r < 3) : ∃ xs n, H q = some (.lst xs) ∧ atI xs r = some (.str n) ∧ IsName n := by
  obtain ⟨a1, a2, a3, hq, n1, n2, n3⟩ := h
  have e : r = 0 ∨ r = 1 ∨ r = 2 := by omega
  rcases e with rfl | rfl | rfl
  · exact ⟨_, a1, hq, rfl, n1⟩
  · exact ⟨_, a2, hq, rfl, n2⟩
  · exact ⟨_, a3, hq, rfl, n3⟩
end Tk
set_option maxRecDepth 100000
/-! Own rules: enumerate over a tuple; .get of a written dict; o[i], x in o, len(o) by the text's own methods. -/
namespace PySem
section
variable {prog : Program} {w : World} {A : Around} {E : Value → Shared → Prop} {s : Shared}
abbrev tkE (j : Addr) : Obj := { cls := .type "enumerate", data := .fields #[.none, .bool false, .ref j, rawInt 0, .none, .none] }
theorem tk_new {v : Value} {o : Obj} {T : Heap → Prop} (B : Begins v o T) :
    Meets (Builtin.«enumerate.__new__» ⟨[.type "enumerate", v], []⟩) (fun _ R s => T s.heap ∧ R (.ok (.ret (.ref (s.heap.push o).objs.size))) { s with heap := (s.heap.push o).push (tkE s.heap.objs.size) }) :=
  .of_wp fun prog w A R s h => by
    obtain ⟨hp, g, d, tk, os⟩ := s
    obtain ⟨h1, h⟩ := h
    have hz := sub_enumerate
    have it1 : ∀ {A' : Around} {E' : Value → Shared → Prop} {Q' : Value → Shared → Prop}, Q' (.ref hp.objs.size) ⟨hp.push o, g, d, tk, os⟩ → wpAny (model prog w) A' (pyIter v) Q' E' ⟨hp, g, d, tk, os⟩ := fun z => B.iter prog w _ _ ⟨hp, g, d, tk, os⟩ _ h1 z
    wp_walk using it1
    refine wpAny_stack_any fun _ => wpAny_pure ?_
    split
    · rename_i c _ _ _ _ _
      cases (c == Value.type "enumerate") <;> (wp_walk using it1; exact ⟨_, rfl, h⟩)
    · wp_walk using it1
      exact ⟨_, rfl, h⟩
theorem tk_enum {v : Value} {o : Obj} {T : Heap → Prop} {Q : Value → Shared → Prop} (B : Begins v o T) (h1 : T s.heap)
    (h : ∀ h', IsEnum h' (s.heap.objs.size + 1) s.heap.objs.size 0 .none → h'.get? s.heap.objs.size = some o → (∀ b u, s.heap.get? b = some u → h'.get? b = some u) → Q (.ref (s.heap.objs.size + 1)) { s with heap := h' }) :
    wpAny (model prog w) A (call (.type "enumerate") [v]) Q E s := by
  have z1 : (s.heap.push o).objs.size = s.heap.objs.size + 1 := Heap.size_push ..
  refine callType_new F.called_enumerate (by decide) (F.typeCall_enumerate_1 _) (F.newCall_enumerate_1 _) (fun obj => F.args_object_init_2 obj _) F.entry_enumerate_new (tk_new B) (And.intro h1 ?_)
  show _ ∧ _
  rw [z1]
  have q : ((s.heap.push o).push (tkE s.heap.objs.size)).get? (s.heap.push o).objs.size = some (tkE s.heap.objs.size) := Heap.get?_push_size _ rfl
  rw [z1] at q
  exact And.intro ⟨_, q, rfl⟩ (h _ q (Heap.get?_push_of_some _ (Heap.get?_push_size _ B.free)) fun b u y => Heap.get?_push_of_some _ (Heap.get?_push_of_some _ y))
end
end PySem
namespace L2
open PySem PySem.Spec PyProof.Rows
/-- the tuple at a, each item in a new pair with its number -/
def IteT (K : PySem.W.Frag) (a : Addr) : It where
  go := fun i H => ∃ (xs : List V) (x : V), SqT K H a xs ∧ xs[i]? = some x
  yld := fun i H v H' => ∃ T x, v = .ref T ∧ H T = none ∧ H' = upd H T (.tup [.int (i : Nat), x]) ∧ ∀ xs, SqT K H a xs → xs[i]? = some x
  stop := fun i H => ∃ xs : List V, SqT K H a xs ∧ xs.length = i
theorem tk_turn {P : Program} {w : World} {K : PySem.W.Frag} {elts : List Expr} {kk : Nat} {tp : Pos} (a e j : Addr) (n1 : a ≠ j) (n2 : e ≠ a) (n3 : e ≠ j) :
    Turn P w K (.Tuple elts kk tp) (IteT K a) [e, j] e (fun i h => (∃ old, IsEnum h e j ((i : Nat) : Int) old) ∧ h.IsTupleIter j a i) := by
  have two : ∀ b, b ∈ [e, j] → b = e ∨ b = j := fun b hb => by simpa using hb
  refine { mem := by simp, obj := ?_, keep := ?_, item := ?_, done := ?_, self := fun A i s Q E st h => wpAny_pyIter_enum st.1.choose_spec h }
  · intro i h st b hb
    obtain ⟨⟨old, he⟩, ⟨o, ho, _, hd⟩⟩ := st
    rcases two b hb with rfl | rfl
    · exact ⟨_, he, fun v q => nomatch q⟩
    · exact ⟨o, ho, fun v q => by rw [hd] at q; cases q⟩
  · intro i h h' st k
    obtain ⟨⟨old, he⟩, hi⟩ := st
    exact ⟨⟨old, k e (by simp) _ he⟩, hi.at fun o q => k j (by simp) o q⟩
  · intro X hP hw hK hc i pins s σ H E I hf st hg
    subst hP hw hK
    obtain ⟨⟨old, he⟩, hj⟩ := st
    obtain ⟨xs, x, hq, hx⟩ := hg
    obtain ⟨its, rv, p, hz⟩ := I.tuple hq
    obtain ⟨u, hu, ru⟩ := rv.get hx
    have szE : e < s.heap.objs.size := Heap.lt_size he
    have szJ : j < s.heap.objs.size := by obtain ⟨_, q, _⟩ := hj; exact Heap.lt_size q
    have hu2 : its.toArray[i]? = some u := by simpa using hu
    have hlt : i < its.toArray.size := by
      rcases Nat.lt_or_ge i its.toArray.size with z | z
      · exact z
      · rw [Array.getElem?_eq_none z] at hu2; cases hu2
    refine wpAny_pyNext_enum_itemD (Draws.tuple (show X.A.in1.handled = none from I.ok.hd hc) j a n1 its.toArray) he ⟨hj, p⟩ hlt n3 (fun z => by
      rcases List.mem_cons.mp z with z | z
      · exact n3 z
      · exact n2 (by simpa using z)) (fun y h' tk py ho st' hT hsz hk => ?_)
    have ey : y = u := Option.some.inj (py.symm.trans hu2)
    subst ey
    refine ⟨_, rfl, wpAny_letOwnedTupleGo_enum (s := { s with heap := h', toks := tk + 1 }) ho fun h'' he' sb => ?_⟩
    have gT : h''.get? s.heap.objs.size = some { cls := .type "tuple", data := .seq #[.int i tk, y] } := (sb.2 _ (Nat.ne_of_gt szE)).trans hT
    have nw : ObjOk X.prog X.w (upd H s.heap.objs.size (.tup [.int (i : Nat), x])) h'' s.heap.objs.size (.tup [.int (i : Nat), x]) :=
      ⟨by show 2 ≤ sizeLine; decide, [.int i tk, y], .cons ⟨_, rfl⟩ (.cons ru .nil), _, gT, rfl, _, rfl⟩
    have I1 : Inv X pins σ (upd H s.heap.objs.size (.tup [.int (i : Nat), x])) { s with heap := h'', toks := tk + 1 } :=
      I.turnedNew (ch := [e, j]) (fun b ob hb q => (sb.2 b fun z => hb (by simp [z])).trans (hk b ob (fun z => hb (by simp [z])) (fun z => hb (by simp [z])) q)) hf (Nat.le_refl _) nw
    refine ⟨.ref s.heap.objs.size, _, I1, rfl, ⟨_, x, rfl, I.hok.fresh (Nat.le_refl _), rfl, fun ys hy => by rw [I.tuple_inj hy hq]; exact hx⟩, ⟨⟨y, ?_⟩, st'.1.at fun o q => (sb.2 j n3.symm).trans q⟩, fun b hb => ?_⟩
    · have e1 : (i : Int) + 1 = ((i + 1 : Nat) : Int) := by omega
      rw [← e1]
      exact he'
    · have lb : b < s.heap.objs.size := by
        rcases two b hb with rfl | rfl
        · exact szE
        · exact szJ
      rw [upd_ne (Nat.ne_of_lt lb)]
      exact (hf b hb).1
  · intro X hP hw hK hc i pins s σ H E I hf st hg
    subst hP hw hK
    obtain ⟨⟨old, he⟩, hj⟩ := st
    obtain ⟨xs, hq, hx⟩ := hg
    obtain ⟨its, rv, p, hz⟩ := I.tuple hq
    obtain ⟨f0, f1, f2, f3, f4, f5⟩ := hf j (by simp)
    have hl : i = its.toArray.size := by rw [List.size_toArray, ← rv.length]; exact hx.symm
    subst hl
    exact wpAny_pyNext_enum_endD (Draws.tuple (show X.A.in1.handled = none from I.ok.hd hc) j a n1 its.toArray) he ⟨hj, p⟩ fun h' eb => ⟨rfl, I.turned (t' := s.toks) (fun b o hb q => eb b o hb q) f0 f1 f3 f4 f5⟩
/-- for i, x in enumerate(t), t a tuple -/
def iEnumT (K : PySem.W.Frag) (ta : TA) : TI := fun σ H R => ta σ H fun vs H1 => ∃ a xs, vs = [.ref a] ∧ SqT K H1 a xs ∧ R (IteT K a) H1
theorem pi_enumT {X : Cx} {e : Expr} {ta : TA} {p pos tp : Pos} {elts : List Expr} {kk : Nat} (hg : Gl X "enumerate") (hm : X.mg "enumerate" = none) (ha : PA X [e] ta) (hs : starEach [e] X.env = [(false, eval e X.env)] := by rfl) :
    PI X (.Tuple elts kk tp) (.Call (.Name "enumerate" p) [e] [] pos) (iEnumT X.K ta) := by
  refine ⟨fun pins s σ H R I h => ?_⟩
  refine Call_ (ld_blt I hg hm boot_enumerate (PyProof.Rows.callWith_type1 (thn (ha.run pos pins s σ H _ I h) fun us s1 q0 => ?_) hs rfl))
  obtain ⟨vs, H1, I1, r1, a, xs, ex, hq, q⟩ := q0
  subst ex
  cases r1 with
  | cons r rr =>
    cases rr
    cases r
    obtain ⟨its, rv, p', hz⟩ := I1.tuple hq
    have la : a < s1.heap.objs.size := by obtain ⟨_, z, _⟩ := p'; exact Heap.lt_size z
    refine tk_enum (begins_tuple a its.toArray) p' fun h' he hit hk => wpAny_pyIter_enum he ?_
    have I2 : Inv X pins σ H1 { s1 with heap := h' } := I1.kept (t' := s1.toks) hk
    refine ⟨s1.heap.objs.size + 1, [s1.heap.objs.size + 1, s1.heap.objs.size], _, _, H1, rfl, I2, tk_turn a (s1.heap.objs.size + 1) s1.heap.objs.size (Nat.ne_of_lt la) (Nat.ne_of_gt (Nat.lt_succ_of_lt la)) (Nat.succ_ne_self _), ⟨⟨.none, he⟩, ⟨_, hit, rfl, rfl⟩⟩, fun b hb => ?_, q⟩
    have two : b = s1.heap.objs.size + 1 ∨ b = s1.heap.objs.size := by simpa using hb
    have le : s1.heap.objs.size ≤ b := two.elim (fun z => z ▸ Nat.le_succ _) (fun z => z ▸ Nat.le_refl _)
    exact I1.fpOk le (I1.hok.fresh le)
/-- the reading of such a loop -/
theorem for_enumT {K : PySem.W.Frag} {a : Addr} {xs : List V} {g : TG} {tb : TS} {D : Ends} {σ : St} {H : Hp} (Pv : Nat → St → Hp → Prop) (h0 : Pv 0 σ H) (hl : ∀ i σ H, i ≤ xs.length → Pv i σ H → SqT K H a xs)
    (hs : ∀ i x T σ H, xs[i]? = some x → Pv i σ H → H T = none → g (.ref T) σ (upd H T (.tup [.int (i : Nat), x])) fun σ2 H2 => tb { D with nx := Pv (i + 1), ct := Pv (i + 1), bk := D.nx } σ2 H2) (hd : ∀ σ H, Pv xs.length σ H → D.nx σ H) :
    ∃ W : Nat → Nat → St → Hp → Prop, (∃ m, W 0 m σ H) ∧ ∀ i m σ H, W i m σ H → ((IteT K a).stop i H ∧ D.nx σ H) ∨ ((IteT K a).go i H ∧ ∃ N : St → Hp → Prop, (∀ σ' H', N σ' H' → ∃ m', m' < m ∧ W (i + 1) m' σ' H') ∧
      ∀ x H', (IteT K a).yld i H x H' → g x σ H' fun σ2 H2 => tb { D with nx := N, ct := N, bk := D.nx } σ2 H2) := by
  refine ⟨fun i m σ H => m = xs.length - i ∧ i ≤ xs.length ∧ Pv i σ H, ⟨xs.length, by simp, Nat.zero_le _, h0⟩, ?_⟩
  rintro i m σ H ⟨rfl, hi, p⟩
  have q := hl i σ H hi p
  by_cases lt : i < xs.length
  · refine .inr ⟨⟨xs, xs[i], q, by simp [lt]⟩, Pv (i + 1), fun σ' H' p' => ⟨xs.length - (i + 1), by omega, rfl, lt, p'⟩, ?_⟩
    rintro x H' ⟨T, y, rfl, hT, rfl, hy⟩
    exact hs i y T σ H (hy xs q) p hT
  · have e : i = xs.length := by omega
    exact .inl ⟨⟨xs, q, e.symm⟩, hd σ H (e ▸ p)⟩
/-! ### the text's own methods by signs -/
section
variable {X : Cx} {CX : CXT} {k n : Nat} {C f : Addr} {fd : FuncData} {ps : List Str} {sp : Sp} {E : XK}
/-- a def called somewhere below the running body -/
theorem tk_run {A : Around} {pins : List (Addr × Obj)} {σ : St} {H : Hp} {s : Shared} {Q : VK} {us : List Value} {vs : List V} (sb : Sub X k A) (F : FnOk X.prog X.w X.K X.mg X.base CX k f fd ps sp) (hb : Binds X.K fd ps []) (hx : Passes CX X E)
    (I : Inv X pins σ H s) (r : Vals vs us) (h : sp vs H Q E) : wpAny (model X.prog X.w) A (call (.ref f) us) (EP X pins σ Q) X.xe s := by
  have e := I.env0
  have e0 : Env0 X.prog X.w X.K X.mg X.base A X.stack s H := ⟨by rw [sb.fr]; exact e.frames, e.mod, e.bs, e.bsz, e.funs, e.frf, e.hok, e.bare⟩
  have hl : us.length = ps.length := r.length.symm.trans (F.len _ _ _ _ h)
  have bd := hb s us I.kIn (by simpa using hl)
  refine wpAny_call (codeAny_mono (F.run A X.stack s H ⟨us, []⟩ us vs Q E sb.room e0 (by simpa using bd) r h) fun res s' hq => ?_)
  match res, hq with
  | .error e, hq => exact hx pins σ H s e s' I hq
  | .ok (.ret u), hq => exact I.after hq
/-- what stands in the class C as the method m -/
structure OwnM (K : PySem.W.Frag) (C : Addr) (m : Str) (f : Addr) : Prop where
  at_ : PySem.W.findIn K (.ref C) m = some (some (.ref f))
  fn : PySem.W.isFn K (.ref f) = true
theorem ownInst {pins : List (Addr × Obj)} {σ : St} {H : Hp} {s : Shared} {a dx : Addr} {fs : List (Str × V)} (I : Inv X pins σ H s) (ha : H a = some (.ins C dx fs)) : ∃ ox od, PySem.W.InstAt s.heap a ox C od := by
  obtain ⟨mA, J, _⟩ := ins_get I.hok ha
  obtain ⟨od, J, _⟩ := J.look
  exact ⟨_, _, J⟩
def rOwn2 (C : Addr) (sp : Sp) (E : XK) : R2 := fun x y H Q => ∃ a dx fs, x = .ref a ∧ H a = some (.ins C dx fs) ∧ sp [.ref a, y] H Q E
/-- o[i] by the class's own __getitem__ -/
theorem ix_own {value slice : Expr} (M : OwnM X.K C "__getitem__" f) (hf : PySem.W.fnIn X.K f = true) (F : FnOk X.prog X.w X.K X.mg X.base CX k f fd ps sp) (hr : Room (k + 1) X.A) (hb : Binds X.K fd ps []) (hx : Passes CX X E)
    {a b : Expr} {ta tb : TE} {pos : Pos} (ha : PE X a ta) (hb2 : PE X b tb) (hs : ∀ o i, subscripted b true o i = runValue (.builtin "lifetime.subscript" ⟨[o, i], []⟩)) : PE X (.Subscript a b pos) (tOp (rOwn2 C sp E) ta tb) := by
  refine ⟨fun pins s σ H Q I h => ?_⟩
  refine Subscript_ (binT ha hb2 I h fun v u s2 x y H2 I2 rx ry q => ?_)
  obtain ⟨p, dx, fs, rfl, hp, q⟩ := q
  obtain rfl : v = Value.ref p := rx
  obtain ⟨ox, od, J⟩ := ownInst I2 hp
  obtain ⟨m, hF⟩ := I2.fr
  refine PySem.W.sub_K hF I2.ok.mod.kin J M.at_ hf M.fn ?_ (hs _ _)
  exact tk_run ⟨hr.in1, rfl⟩ F hb hx I2 (.cons (show RelV (.ref p) (.ref p) from rfl) (.cons ry .nil)) q
def rOwnIn (C : Addr) (sp : Sp) (E : XK) (neg : Bool) : R2 := fun y x H Q => ∃ a dx fs, x = .ref a ∧ H a = some (.ins C dx fs) ∧ sp [.ref a, y] H (fun v H' => ∃ c, v = .bl c ∧ Q (.bl (if neg then !c else c)) H') E
/-- y in o by the class's own __contains__ -/
theorem op_inOwn (M : OwnM X.K C "__contains__" f) (F : FnOk X.prog X.w X.K X.mg X.base CX k f fd ps sp) (hr : Room k X.A) (hb : Binds X.K fd ps []) (hx : Passes CX X E) : OpR X (compareOp .In) (rOwnIn C sp E false) := by
  intro pins s σ H y x u v Q I ry rx h
  obtain ⟨p, dx, fs, rfl, hp, q⟩ := h
  obtain rfl : v = Value.ref p := rx
  obtain ⟨ox, od, J⟩ := ownInst I hp
  obtain ⟨m, hF⟩ := I.fr
  refine PySem.W.in_K hF I.ok.mod.kin J M.at_ M.fn (thn (tk_run ⟨hr, rfl⟩ F hb hx I (.cons (show RelV (.ref p) (.ref p) from rfl) (.cons ry .nil)) q) fun r s' hq => ?_)
  obtain ⟨z, H', I', rz, c, rfl, q'⟩ := hq
  cases rz
  exact wpAny_truthy_bool ⟨.bl c, H', I', rfl, q'⟩
theorem op_notInOwn (M : OwnM X.K C "__contains__" f) (F : FnOk X.prog X.w X.K X.mg X.base CX k f fd ps sp) (hr : Room k X.A) (hb : Binds X.K fd ps []) (hx : Passes CX X E) : OpR X (compareOp .NotIn) (rOwnIn C sp E true) := by
  intro pins s σ H y x u v Q I ry rx h
  obtain ⟨p, dx, fs, rfl, hp, q⟩ := h
  obtain rfl : v = Value.ref p := rx
  obtain ⟨ox, od, J⟩ := ownInst I hp
  obtain ⟨m, hF⟩ := I.fr
  refine PySem.W.notIn_K hF I.ok.mod.kin J M.at_ M.fn (thn (tk_run ⟨hr, rfl⟩ F hb hx I (.cons (show RelV (.ref p) (.ref p) from rfl) (.cons ry .nil)) q) fun r s' hq => ?_)
  obtain ⟨z, H', I', rz, c, rfl, q'⟩ := hq
  cases rz
  exact wpAny_truthy_bool ⟨.bl (!c), H', I', rfl, q'⟩
/-- len(o) by the class's own __len__ -/
theorem call_lenOwn (M : OwnM X.K C "__len__" f) (F : FnOk X.prog X.w X.K X.mg X.base CX k f fd ps sp) (hr : Room (k + 1) X.A) (hb : Binds X.K fd ps []) (hx : Passes CX X E) :
    CallR X (.builtin "len") (fun xs H Q => ∃ a dx fs, xs = [.ref a] ∧ H a = some (.ins C dx fs) ∧ sp [.ref a] H (fun v H' => ∃ i : Int, v = .int i ∧ 0 ≤ i ∧ i < 2 ^ 63 ∧ Q v H') E) := by
  intro pins s σ H xs us Q I r h
  obtain ⟨p, dx, fs, rfl, hp, q⟩ := h
  obtain ⟨u, rfl, rx⟩ := vals1 r
  obtain rfl : u = Value.ref p := rx
  obtain ⟨ox, od, J⟩ := ownInst I hp
  obtain ⟨m, hF⟩ := I.fr
  refine PySem.W.len_K hF I.ok.mod.kin J M.at_ M.fn (thn (tk_run ⟨hr.in1, rfl⟩ F hb hx I (.cons (show RelV (.ref p) (.ref p) from rfl) .nil) q) fun r s' hq => ?_)
  obtain ⟨z, H', I', rz, i, rfl, i0, i1, q'⟩ := hq
  obtain ⟨t, rfl⟩ := rz
  refine ⟨⟨i0, i1⟩, ⟨.int i, H', I'.tok _, ⟨_, rfl⟩, q'⟩⟩
end
/-! ### .get of a written dict -/
def KG (K : PySem.W.Frag) (w : World) (a : Addr) (x : Str) (v : V) : Prop := KDct K w a x v ∧ (a == sysModules) = false
def tKGet (K : PySem.W.Frag) (w : World) (td ty : TE) : TE := fun σ H Q => td σ H fun x H1 => ty σ H1 fun y H2 => ∃ a z v, x = .ref a ∧ y = .str z ∧ KG K w a z v ∧ Q v H2
theorem pe_kget {X : Cx} {o e : Expr} {td ty : TE} {apos cpos : Pos} (ho : PE X o td) (he : PE X e ty) (hd : ∀ σ H Q, td σ H Q → td σ H fun x H1 => (∃ a oc es n, x = V.ref a ∧ X.K.lookup a = some oc ∧ oc = ⟨.type "dict", none, .dict es n, #[]⟩) ∧ Q x H1) (m : M1 X o "get" apos e cpos) :
    PE X (.Call (.Attribute o "get" apos) [e] [] cpos) (tKGet X.K X.w td ty) := by
  refine ⟨fun pins s σ H Q I h => ?_⟩
  refine wpAny_Call_method m.base m.few m.line PySem.F.plainAttrs_dict PySem.F.slot_dict_get PySem.F.type_dict_get (thn (ho.run pins s σ H _ I (hd _ _ _ h)) fun u s1 q0 => ?_)
  obtain ⟨x, H1, I1, rx, ⟨a, oc, es, n, rfl, lk, rfl⟩, q1⟩ := q0
  obtain rfl : u = Value.ref a := rx
  have ga := I1.kIn _ _ lk
  refine ⟨⟨_, ga, rfl⟩, fun b q => by cases q; exact ⟨_, ga, rfl⟩, ?_⟩
  rw [m.trees]
  refine Calls.callWith_builtin rfl (Calls.evalArgs_plain (Calls.spliced_cons (thn (he.run pins s1 σ H1 _ I1 q1) fun iv s2 q2 => Calls.spliced_nil ?_)))
  obtain ⟨y, H2, I2, ry, a', z, v, ea, rfl, ⟨⟨es', n', u0, hl, hk, e1, ru⟩, hs⟩, q2⟩ := q2
  cases ea
  obtain ⟨t, rfl⟩ := ry
  have mo := PySem.W.mapOf_K (prog := X.prog) (w := X.w) I2.kIn hl hk
  refine call_meetsIn PySem.F.slot_dict_get mo.typeIs PySem.F.entry_dict_get (PySem.F.args_dict_get_2 _ _) (meets_dict_get (strKind X.prog X.w) a (strKind_is X.prog X.w z t) hs) ⟨_, mo, ?_⟩
  rw [PySem.W.find_K hl e1]
  exact ⟨v, H2, I2.tok _, ru, q2⟩
end L2
namespace Tk
open PySem L2
abbrev Pl := List Int
mutual
/-- the statements at and below the place p, in reading order -/
def Stm.walk : Stm → Pl → List (Pl × Stm)
  | .one w, p => [(p, .one w)]
  | .nam b n, p => [(p, .nam b n)]
  | .ch y n, p => (p, .ch y n) :: (walkAll y (p ++ [0]) 0 ++ walkAll n (p ++ [1]) 0)
def walkAll : List Stm → Pl → Nat → List (Pl × Stm)
  | [], _, _ => []
  | s :: r, p, i => s.walk (p ++ [(i : Int)]) ++ walkAll r p (i + 1)
end
def lk : List (Pl × Stm) → Pl → Option Stm
  | [], _ => none
  | (p, s) :: r, k => if p = k then some s else lk r k
theorem lk_app (k : Pl) : ∀ a b : List (Pl × Stm), lk (a ++ b) k = (lk a k).or (lk b k)
  | [], b => rfl
  | (p, s) :: r, b => by
    show (if p = k then some s else lk (r ++ b) k) = (if p = k then some s else lk r k).or (lk b k)
    by_cases h : p = k
    · rw [if_pos h, if_pos h]; rfl
    · rw [if_neg h, if_neg h, lk_app k r b]
def nth (B : List Stm) (j : Int) : Option Stm := if 0 ≤ j then B[j.toNat]? else none
def sub : Stm → Pl → Option Stm
  | s, [] => some s
  | .ch y n, a :: j :: q => if a = 0 then (nth y j).bind fun t => sub t q else if a = 1 then (nth n j).bind fun t => sub t q else none
  | _, _ => none
def look : List Stm → Pl → Option Stm
  | B, [] => none
  | B, j :: q => (nth B j).bind fun s => sub s q
theorem pre_ne {p q : Pl} {a b : Int} (h : a ≠ b) : ∀ r : Pl, p ++ a :: q ≠ (p ++ [b]) ++ r := fun r e => by
  rw [List.append_assoc] at e
  have := List.append_cancel_left e
  simp at this
  exact h this.1
mutual
theorem walk_none : ∀ (s : Stm) (p k : Pl), (∀ q, k ≠ p ++ q) → lk (s.walk p) k = none
  | .one w, p, k, h => by
    rw [Stm.walk, lk, if_neg (fun e => h [] (by rw [← e]; simp)), lk]
  | .nam b n, p, k, h => by
    rw [Stm.walk, lk, if_neg (fun e => h [] (by rw [← e]; simp)), lk]
  | .ch y n, p, k, h => by
    rw [Stm.walk, lk, if_neg (fun e => h [] (by rw [← e]; simp)), lk_app, walkAll_none y (p ++ [0]) 0 k (fun j q e => h (0 :: j :: q) (by rw [e]; simp)), walkAll_none n (p ++ [1]) 0 k (fun j q e => h (1 :: j :: q) (by rw [e]; simp))]
    rfl
theorem walkAll_none : ∀ (B : List Stm) (p : Pl) (i : Nat) (k : Pl), (∀ j q, k ≠ p ++ j :: q) → lk (walkAll B p i) k = none
  | [], p, i, k, h => by rw [walkAll, lk]
  | s :: r, p, i, k, h => by
    rw [walkAll, lk_app, walk_none s (p ++ [(i : Int)]) k (fun q e => h i q (by rw [e]; simp)), walkAll_none r p (i + 1) k h]
    rfl
end
theorem nth_nil (j : Int) : nth [] j = none := by
  unfold nth
  by_cases h : 0 ≤ j
  · rw [if_pos h]; rfl
  · rw [if_neg h]
theorem nth_zero (s : Stm) (r : List Stm) : nth (s :: r) 0 = some s := rfl
theorem nth_succ (s : Stm) (r : List Stm) (j : Int) (h : j ≠ 0) : nth (s :: r) j = nth r (j - 1) := by
  unfold nth
  by_cases h0 : 0 ≤ j
  · rw [if_pos h0, if_pos (by omega)]
    have e : j.toNat = (j - 1).toNat + 1 := by omega
    rw [e, List.getElem?_cons_succ]
  · rw [if_neg h0, if_neg (by omega)]
mutual
theorem walk_lk : ∀ (s : Stm) (p q : Pl), lk (s.walk p) (p ++ q) = sub s q
  | .one w, p, [] => by rw [Stm.walk, lk, if_pos (by simp), sub]
  | .one w, p, a :: q => by
    rw [Stm.walk, lk, if_neg (fun e => by have := congrArg List.length e; simp at this), lk]
    cases q <;> rfl
  | .nam b n, p, [] => by rw [Stm.walk, lk, if_pos (by simp), sub]
  | .nam b n, p, a :: q => by
    rw [Stm.walk, lk, if_neg (fun e => by have := congrArg List.length e; simp at this), lk]
    cases q <;> rfl
  | .ch y n, p, [] => by rw [Stm.walk, lk, if_pos (by simp), sub]
  | .ch y n, p, [a] => by
    rw [Stm.walk, lk, if_neg (fun e => by have := congrArg List.length e; simp at this), lk_app, walkAll_none, walkAll_none]
    · rfl
    · intro j q e; have := congrArg List.length e; simp at this
    · intro j q e; have := congrArg List.length e; simp at this
  | .ch y n, p, a :: j :: q => by
    rw [Stm.walk, lk, if_neg (fun e => by have := congrArg List.length e; simp at this), lk_app, sub]
    by_cases h0 : a = 0
    · subst h0
      rw [if_pos rfl]
      have e : p ++ (0 : Int) :: j :: q = (p ++ [0]) ++ j :: q := by simp
      have z : lk (walkAll n (p ++ [1]) 0) (p ++ (0 : Int) :: j :: q) = none := walkAll_none n (p ++ [1]) 0 _ (fun j' q' => pre_ne (by decide) _)
      rw [z, e, walkAll_lk y (p ++ [0]) 0 j q]
      simp
    · rw [if_neg h0]
      have z : lk (walkAll y (p ++ [0]) 0) (p ++ a :: j :: q) = none := walkAll_none y (p ++ [0]) 0 _ (fun j' q' => pre_ne h0 _)
      rw [z]
      by_cases h1 : a = 1
      · subst h1
        rw [if_pos rfl]
        have e : p ++ (1 : Int) :: j :: q = (p ++ [1]) ++ j :: q := by simp
        rw [e, walkAll_lk n (p ++ [1]) 0 j q]
        simp
      · rw [if_neg h1]
        have z2 : lk (walkAll n (p ++ [1]) 0) (p ++ a :: j :: q) = none := walkAll_none n (p ++ [1]) 0 _ (fun j' q' => pre_ne h1 _)
        rw [z2]; rfl
theorem walkAll_lk : ∀ (B : List Stm) (p : Pl) (i : Nat) (j : Int) (q : Pl), lk (walkAll B p i) (p ++ j :: q) = (nth B (j - i)).bind fun s => sub s q
  | [], p, i, j, q => by rw [walkAll, lk, nth_nil]; rfl
  | s :: r, p, i, j, q => by
    rw [walkAll, lk_app]
    by_cases h : j = i
    · subst h
      have e : p ++ (i : Int) :: q = (p ++ [(i : Int)]) ++ q := by simp
      have z : lk (walkAll r p (i + 1)) (p ++ (i : Int) :: q) = none ∨ True := .inr trivial
      rw [e, walk_lk s (p ++ [(i : Int)]) q, ← e, walkAll_lk r p (i + 1) i q]
      have e1 : nth (s :: r) ((i : Int) - i) = some s := by rw [Int.sub_self]; rfl
      have e2 : nth r ((i : Int) - ((i + 1 : Nat) : Int)) = none := by unfold nth; rw [if_neg (by omega)]
      rw [e1, e2]
      simp
    · have z : lk (s.walk (p ++ [(i : Int)])) (p ++ j :: q) = none := walk_none s _ _ (fun q' => pre_ne h _)
      rw [z, walkAll_lk r p (i + 1) j q, nth_succ s r (j - i) (by omega)]
      have e : j - ((i + 1 : Nat) : Int) = j - i - 1 := by omega
      rw [e]; rfl
end
theorem look_lk (S : List Stm) : ∀ p : Pl, lk (walkAll S [] 0) p = look S p
  | [] => walkAll_none S [] 0 [] (fun j q e => by cases e)
  | j :: q => by
    have := walkAll_lk S [] 0 j q
    simpa [look] using this
mutual
theorem walk_len : ∀ (s : Stm) (p : Pl), (s.walk p).length = s.cnt
  | .one w, p => by rw [Stm.walk, Stm.cnt]; rfl
  | .nam b n, p => by rw [Stm.walk, Stm.cnt]; rfl
  | .ch y n, p => by
    rw [Stm.walk, Stm.cnt, List.length_cons, List.length_append, walkAll_len y, walkAll_len n]; omega
theorem walkAll_len : ∀ (B : List Stm) (p : Pl) (i : Nat), (walkAll B p i).length = cntAll B
  | [], p, i => by rw [walkAll, cntAll]; rfl
  | s :: r, p, i => by rw [walkAll, cntAll, List.length_append, walk_len s, walkAll_len r]
end
theorem walkAll_snoc : ∀ (B : List Stm) (s : Stm) (p : Pl) (i : Nat), walkAll (B ++ [s]) p i = walkAll B p i ++ s.walk (p ++ [((i + B.length : Nat) : Int)])
  | [], s, p, i => by
    show walkAll [s] p i = walkAll [] p i ++ _
    rw [walkAll, walkAll, walkAll]; simp
  | t :: r, s, p, i => by
    show walkAll (t :: (r ++ [s])) p i = _
    rw [walkAll, walkAll, walkAll_snoc r s p (i + 1), List.append_assoc]
    have e : i + 1 + r.length = i + (t :: r).length := by rw [List.length_cons]; omega
    rw [e]
/-! ## the found statements as a dict -/
def key (p : Pl) : List Key := p.map Sum.inl
theorem key_kV (p : Pl) : (key p).map kV = p.map V.int := by
  unfold key; rw [List.map_map]; rfl
theorem key_inj : ∀ {p q : Pl}, key p = key q → p = q
  | [], [], _ => rfl
  | [], _ :: _, h => by cases h
  | _ :: _, [], h => by cases h
  | a :: p, b :: q, h => by
    have h' : Sum.inl a :: key p = Sum.inl b :: key q := h
    injection h' with h1 h2
    injection h1 with h1
    rw [h1, key_inj h2]
def FRel (H : Hp) : List (List Key × V) → List (Pl × Stm) → Prop
  | [], [] => True
  | (k, v) :: r, (p, s) :: r' => k = key p ∧ s.at H v ∧ FRel H r r'
  | _, _ => False
theorem FRel.len {H : Hp} : ∀ {a : List (List Key × V)} {b : List (Pl × Stm)}, FRel H a b → a.length = b.length
  | [], [], _ => rfl
  | _ :: _, _ :: _, h => by rw [List.length_cons, List.length_cons, FRel.len h.2.2]
  | [], _ :: _, h => h.elim
  | _ :: _, [], h => h.elim
theorem FRel.keep {H H' : Hp} (k : TK H H') : ∀ {a : List (List Key × V)} {b : List (Pl × Stm)}, FRel H a b → FRel H' a b
  | [], [], _ => trivial
  | _ :: _, _ :: _, h => ⟨h.1, Stm.at_keep k _ _ h.2.1, FRel.keep k h.2.2⟩
  | [], _ :: _, h => h.elim
  | _ :: _, [], h => h.elim
theorem FRel.snoc {H : Hp} {p : Pl} {v : V} {s : Stm} (hs : s.at H v) : ∀ {a : List (List Key × V)} {b : List (Pl × Stm)}, FRel H a b → FRel H (a ++ [(key p, v)]) (b ++ [(p, s)])
  | [], [], _ => ⟨rfl, hs, trivial⟩
  | _ :: _, _ :: _, h => ⟨h.1, h.2.1, FRel.snoc hs h.2.2⟩
  | [], _ :: _, h => h.elim
  | _ :: _, [], h => h.elim
theorem FRel.val {H : Hp} (p : Pl) : ∀ {a : List (List Key × V)} {b : List (Pl × Stm)}, FRel H a b → (lk b p = none → valV a (key p) = none) ∧ (∀ s, lk b p = some s → ∃ v, valV a (key p) = some v ∧ s.at H v)
  | [], [], _ => ⟨fun _ => rfl, fun s e => by cases e⟩
  | (k, v) :: r, (q, s) :: r', h => by
    obtain ⟨rfl, h1, h2⟩ := h
    by_cases e : q = p
    · subst e
      rw [lk, if_pos rfl, valV_pos (p := (key q, v)) rfl]
      exact ⟨(fun z => nomatch z), fun t z => ⟨v, rfl, Option.some.inj z ▸ h1⟩⟩
    · rw [lk, if_neg e, valV_neg (p := (key q, v)) (fun z => e (key_inj z))]
      exact FRel.val p h2
  | [], _ :: _, h => h.elim
  | _ :: _, [], h => h.elim
end Tk
namespace Tk
open PySem L2
def br (a : Int) (y n : List Stm) : List Stm := if a = 0 then y else n
/-- R is what follows the statement at p, to the end of the script -/
inductive After : List Stm → Pl → List Stm → Prop
  | here (B : List Stm) (i : Nat) : i < B.length → After B [(i : Int)] (B.drop (i + 1))
  | inn (B : List Stm) (i : Nat) (a : Int) (y n : List Stm) (q : Pl) (R : List Stm) : B[i]? = some (.ch y n) → (a = 0 ∨ a = 1) → After (br a y n) q R → After B ((i : Int) :: a :: q) (R ++ B.drop (i + 1))
theorem nth_nat (B : List Stm) (i : Nat) : nth B (i : Int) = B[i]? := by
  unfold nth
  rw [if_pos (by omega), Int.toNat_natCast]
theorem After.ne {B : List Stm} {p : Pl} {R : List Stm} (h : After B p R) : p ≠ [] := by cases h <;> simp
theorem look_in {B : List Stm} {i : Nat} {a : Int} {y n : List Stm} {q : Pl} (h : B[i]? = some (.ch y n)) (ha : a = 0 ∨ a = 1) (hq : q ≠ []) : look B ((i : Int) :: a :: q) = look (br a y n) q := by
  cases q with
  | nil => exact absurd rfl hq
  | cons j r =>
    rw [look, nth_nat, h]
    show sub (.ch y n) (a :: j :: r) = _
    rw [sub, look]
    rcases ha with rfl | rfl
    · rw [if_pos rfl]; rfl
    · rw [if_neg (by decide), if_pos rfl]; rfl
theorem look_one (B : List Stm) (i : Nat) : look B [(i : Int)] = B[i]? := by
  rw [look, nth_nat]
  cases B[i]? <;> rfl
theorem After.step {S : List Stm} {p : Pl} {R : List Stm} (h : After S p R) : ∃ q j, p = q ++ [j] ∧
    ((∃ s R', look S (q ++ [j + 1]) = some s ∧ R = s :: R' ∧ After S (q ++ [j + 1]) R') ∨
     (look S (q ++ [j + 1]) = none ∧ ((q = [] ∧ R = []) ∨ ∃ q' a, q = q' ++ [a] ∧ q' ≠ [] ∧ After S q' R))) := by
  induction h with
  | here B i hi =>
    refine ⟨[], (i : Int), rfl, ?_⟩
    have e : ([] : Pl) ++ [(i : Int) + 1] = [((i + 1 : Nat) : Int)] := by simp
    rw [e, look_one]
    cases g : B[i + 1]? with
    | none =>
      refine .inr ⟨rfl, .inl ⟨rfl, ?_⟩⟩
      rw [List.drop_eq_nil_of_le]
      exact List.getElem?_eq_none_iff.mp g
    | some s =>
      obtain ⟨lt, e1⟩ := List.getElem?_eq_some_iff.mp g
      exact .inl ⟨s, B.drop (i + 1 + 1), rfl, by rw [List.drop_eq_getElem_cons lt, e1], .here B (i + 1) lt⟩
  | inn B i a y n q R hb ha hq ih =>
    obtain ⟨q0, j, e, ih⟩ := ih
    refine ⟨(i : Int) :: a :: q0, j, by rw [e]; rfl, ?_⟩
    have le : look B (((i : Int) :: a :: q0) ++ [j + 1]) = look (br a y n) (q0 ++ [j + 1]) := look_in hb ha (by simp)
    rw [le]
    rcases ih with ⟨s, R', l, eR, af⟩ | ⟨l, ⟨rfl, eR⟩ | ⟨q', a', eq, nq, af⟩⟩
    · exact .inl ⟨s, R' ++ B.drop (i + 1), l, by rw [eR]; rfl, .inn B i a y n _ R' hb ha af⟩
    · refine .inr ⟨l, .inr ⟨[(i : Int)], a, rfl, by simp, ?_⟩⟩
      rw [eR]
      exact .here B i (List.getElem?_eq_some_iff.mp hb).1
    · refine .inr ⟨l, .inr ⟨(i : Int) :: a :: q', a', by rw [eq]; rfl, by simp, ?_⟩⟩
      exact .inn B i a y n q' R hb ha af
theorem After.down {S : List Stm} {p : Pl} {R : List Stm} {y n : List Stm} {a : Int} (h : After S p R) (ha : a = 0 ∨ a = 1) (hn : br a y n ≠ []) :
    look S p = some (.ch y n) → look S (p ++ [a, 0]) = (br a y n)[0]? ∧ After S (p ++ [a, 0]) ((br a y n).drop 1 ++ R) := by
  have first : After (br a y n) [((0 : Nat) : Int)] ((br a y n).drop (0 + 1)) := .here _ 0 (List.length_pos_iff.mpr hn)
  induction h with
  | here B i hi =>
    intro l
    rw [look_one] at l
    refine ⟨?_, .inn B i a y n [0] _ l ha first⟩
    show look B ((i : Int) :: a :: [((0 : Nat) : Int)]) = _
    rw [look_in l ha (by simp), look_one]
  | inn B i a' y' n' q R hb ha' hq ih =>
    intro l
    rw [look_in hb ha' hq.ne] at l
    obtain ⟨l1, af⟩ := ih l
    refine ⟨?_, ?_⟩
    · show look B ((i : Int) :: a' :: (q ++ [a, 0])) = _
      rw [look_in hb ha' (by simp)]
      exact l1
    · rw [← List.append_assoc]
      exact .inn B i a' y' n' _ _ hb ha' af
theorem After.first {S : List Stm} (h : S ≠ []) : look S [0] = S[0]? ∧ After S [0] (S.drop 1) :=
  ⟨look_one S 0, .here S 0 (List.length_pos_iff.mpr h)⟩
theorem okAll_get : ∀ {d : Nat} {B : List Stm} {h : Int} {i : Nat} {s : Stm}, okAll d B h → B[i]? = some s → ∃ h', s.ok d h'
  | d, [], h, i, s, _, e => by simp at e
  | d, t :: r, h, 0, s, g, e => by
    rw [okAll] at g
    have e' : t = s := Option.some.inj e
    exact ⟨h, e' ▸ g.1⟩
  | d, t :: r, h, i + 1, s, g, e => by
    rw [okAll] at g
    exact okAll_get g.2 (i := i) (s := s) e
theorem After.len {S : List Stm} {p : Pl} {R : List Stm} (h : After S p R) : ∀ (d : Nat) (k : Int), okAll d S k → d ≤ 2 → p.length + 2 * d ≤ 5 := by
  induction h with
  | here B i hi => intro d k _ hd; show 1 + 2 * d ≤ 5; omega
  | inn B i a y n q R hb ha hq ih =>
    intro d k g hd
    obtain ⟨h', o⟩ := okAll_get g hb
    rw [Stm.ok] at o
    have z : q.length + 2 * (d + 1) ≤ 5 := by
      rcases ha with rfl | rfl
      · exact ih (d + 1) h' o.2.1 (by omega)
      · exact ih (d + 1) h' o.2.2 (by omega)
    show q.length + 1 + 1 + 2 * d ≤ 5
    omega
/-! ## greater places -/
def Gt (x y : Pl) : Prop := (∃ q i j r s, x = q ++ i :: r ∧ y = q ++ j :: s ∧ j < i) ∨ ∃ c, x = y ++ c ∧ c ≠ []
theorem lexAt_at (e r : Nat → Bool) (z : Bool) (m : Nat) : ∀ (k i : Nat), i ≤ m → m < i + k → (∀ j, i ≤ j → j < m → e j = true) → e m = false → Ob.lexAt e r z i k = r m
  | 0, i, h1, h2, _, _ => by omega
  | k + 1, i, h1, h2, g, b => by
    rw [Ob.lexAt_succ]
    by_cases c : i = m
    · subst c
      rw [b]; rfl
    · rw [g i (Nat.le_refl i) (by omega), if_pos rfl]
      exact lexAt_at e r z m k (i + 1) (by omega) (by omega) (fun j a b => g j (by omega) b) b
theorem lexAt_all (e r : Nat → Bool) (z : Bool) : ∀ (k i : Nat), (∀ j, i ≤ j → j < i + k → e j = true) → Ob.lexAt e r z i k = z
  | 0, i, _ => rfl
  | k + 1, i, g => by
    rw [Ob.lexAt_succ, g i (Nat.le_refl i) (by omega), if_pos rfl]
    exact lexAt_all e r z k (i + 1) (fun j a b => g j (by omega) (by omega))
theorem gt_not_le {x y : Pl} (h : Gt x y) : Ob.lexAt (fun j => decide (x.getD j 0 = y.getD j 0)) (fun j => decide (x.getD j 0 ≤ y.getD j 0)) (decide (x.length ≤ y.length)) 0 (min x.length y.length) = false := by
  rcases h with ⟨q, i, j, r, s, rfl, rfl, lt⟩ | ⟨c, rfl, hc⟩
  · have g1 : ∀ (t : Int) (u : Pl) (k : Nat), k < q.length → (q ++ t :: u).getD k 0 = q.getD k 0 := fun t u k hk => by
      rw [List.getD_eq_getElem?_getD, List.getD_eq_getElem?_getD, List.getElem?_append_left hk]
    have g2 : ∀ (t : Int) (u : Pl), (q ++ t :: u).getD q.length 0 = t := fun t u => by
      rw [List.getD_eq_getElem?_getD, List.getElem?_append_right (Nat.le_refl _), Nat.sub_self]; rfl
    rw [lexAt_at _ _ _ q.length]
    · show decide ((q ++ i :: r).getD q.length 0 ≤ (q ++ j :: s).getD q.length 0) = false
      rw [g2, g2]; exact decide_eq_false (by omega)
    · exact Nat.zero_le _
    · rw [List.length_append, List.length_append, List.length_cons, List.length_cons]; omega
    · intro k _ hk
      show decide ((q ++ i :: r).getD k 0 = (q ++ j :: s).getD k 0) = true
      rw [g1 _ _ k hk, g1 _ _ k hk]; exact decide_eq_true rfl
    · show decide ((q ++ i :: r).getD q.length 0 = (q ++ j :: s).getD q.length 0) = false
      rw [g2, g2]; exact decide_eq_false (by omega)
  · have hl : 0 < c.length := List.length_pos_iff.mpr hc
    rw [lexAt_all]
    · rw [List.length_append]; exact decide_eq_false (by omega)
    · intro k _ hk
      rw [List.length_append] at hk
      have hk' : k < y.length := by omega
      show decide ((y ++ c).getD k 0 = y.getD k 0) = true
      rw [List.getD_eq_getElem?_getD, List.getD_eq_getElem?_getD, List.getElem?_append_left hk']
      exact decide_eq_true rfl
end Tk
set_option maxRecDepth 100000
namespace Tk
open PySem L2
def top (i : Nat) : Stmt := PySem.Challenge.pw_takenahead_k02_script_refused.main.body.getD i (.Pass ⟨0, 0, 0, 0⟩)
abbrev sPool : Stmt := top 20
abbrev sDraw : Stmt := top 21
abbrev sNames : Stmt := top 22
abbrev sSimple : Stmt := top 23
abbrev sBranch : Stmt := top 24
abbrev sLaw : Stmt := top 33
/-- the built-in names that the program reads -/
structure Bl (mg : Str → Option Value) : Prop where
  len : mg "len" = none
  int : mg "int" = none
  max : mg "max" = none
  range : mg "range" = none
  tuple : mg "tuple" = none
def spPool (K : PySem.W.Frag) : Sp := fun vs H Q _ => ∃ (a : Addr) (ns : List Int) (k : Int), vs = [.ref a, .int k] ∧ SqL K H a (ns.map V.int) ∧ 0 ≤ k ∧
  ∀ (p : Addr) (H' : Hp), H p = none → Same H H' → PoolAt H' p → Q (.ref p) H'
def spDraw : Sp := fun vs H Q _ => ∃ (p : Addr) (n : Int), vs = [.ref p, .int n] ∧ PoolAt H p ∧ 0 < n ∧ n < 1073741824 ∧
  ∀ (r : Int) (H' : Hp), 0 ≤ r → r < n → Kp p H H' → PoolAt H' p → Q (.int r) H'
section
variable {P : Program} {w : World} {K : PySem.W.Frag} {mg : Str → Option Value} {base : Heap}
theorem scPool : FnScope ["_law_script", "_law_k", "_law_cell"] ["_law_script", "_law_k"] (defScope sPool) := ⟨rfl, rfl, rfl, by decide +kernel, rfl, by decide +kernel, by decide +kernel⟩
theorem ok_pool {f : Addr} {fd : FuncData} (F : Fun K "_law_pool" "_law_pool" sPool f fd) (B : Bl mg) : FnOk P w K mg base CX0 1 f fd ["_law_script", "_law_k"] (spPool K) := by
  refine F.ok scPool (fun vs H Q E h => ?_) (fun cdv A outer s H vs Q E hr h => ?_)
  · obtain ⟨a, ns, k, rfl, _⟩ := h
    rfl
  obtain ⟨a, ns, k, rfl, hS, h0, q⟩ := h
  refine ⟨_, pss_cons (ps_set (i := 2) scPool.nd rfl (Or.inl rfl) (pe_op op_add (pv 1) pe_int))
    (pss_cons (ps_if (pt_cmpR op_lt (pv 1) (pe_callB call_len_seq (by rfl) B.len PySem.boot_len (pa_cons (pv 0) pa_nil)) (nomark _))
      (pss_one (ps_set (i := 2) scPool.nd rfl (Or.inl rfl) (pe_callTy call_int1 (by rfl) B.int (by decide +kernel) (pa_cons (pe_ix ix_list (pv 0) (pv 1) (fun _ _ => rfl)) pa_nil)))) pss_nil)
    (pss_one (ps_ret (pe_lst (pa_cons (pe_callB (call_max2 rfl) (by rfl) B.max (by decide +kernel) (pa_cons pe_int (pa_cons (pe_op op_sub (pv 2) (pe_op op_pow pe_int pe_int)) pa_nil)))
      (pa_cons (pe_op op_modN (pe_callTy call_int1 (by rfl) B.int (by decide +kernel) (pa_cons (pv 2) pa_nil)) pe_int) (pa_cons pe_int pa_nil))))))), ?_⟩
  have fin : ∀ c : Int, ((fun (c : Int) => ∀ (l : Addr), H l = none → Q (.ref l) (L2.upd H l (.lst [.int (if c - 10 ^ (18 : Int).toNat > 0 then c - 10 ^ (18 : Int).toNat else 0), .int (c.fmod 2147483647), .int 0]))) c) := by
    intro c l hl
    exact q l _ hl (same_new hl _) ⟨_, _, _, upd_same⟩
  refine ⟨_, rfl, _, _, rfl, rfl, ?_⟩
  refine ⟨_, rfl, _, rfl, a, _, rfl, .inl hS, _, _, rfl, rfl, _, rfl, ?_⟩
  have tail : ∀ c : Int, _ := fun c => fin c
  refine ite2 (fun c => ?_) (fun c => ?_)
  · have c' : k < (((ns.map V.int).length : Nat) : Int) := of_decide_eq_true c
    rw [List.length_map] at c'
    have hk : k.toNat < ns.length := by omega
    have ek : k = ((k.toNat : Nat) : Int) := by omega
    have q1 : atI (ns.map V.int) ((k.toNat : Nat) : Int) = some (.int ns[k.toNat]) := atI_nat (by rw [List.getElem?_map, List.getElem?_eq_getElem hk] <;> rfl)
    rw [← ek] at q1
    refine ⟨_, rfl, _, rfl, a, _, _, _, rfl, rfl, hS, q1, .inl ⟨_, rfl, ?_⟩⟩
    refine ⟨_, rfl, _, _, rfl, rfl, ⟨by decide, by decide, by decide⟩, _, _, rfl, rfl, _, _, rfl, _, rfl, .inl ⟨_, rfl, _, _, rfl, rfl, (by show (2147483647:Int) ≠ 0; decide), ?_⟩⟩
    exact ⟨by show 3 ≤ sizeLine; decide, fun l hl => fin _ l hl⟩
  · refine ⟨_, rfl, _, _, rfl, rfl, ⟨by decide, by decide, by decide⟩, _, _, rfl, rfl, _, _, rfl, _, rfl, .inl ⟨_, rfl, _, _, rfl, rfl, (by show (2147483647:Int) ≠ 0; decide), ?_⟩⟩
    exact ⟨by show 3 ≤ sizeLine; decide, fun l hl => fin _ l hl⟩
theorem scDraw : FnScope ["_law_pool_here", "_law_amount", "_law_digit", "_law_number"] ["_law_pool_here", "_law_amount"] (defScope sDraw) := ⟨rfl, rfl, rfl, by decide +kernel, rfl, by decide +kernel, by decide +kernel⟩
theorem ok_draw {f : Addr} {fd : FuncData} (F : Fun K "_law_draw" "_law_draw" sDraw f fd) (B : Bl mg) : FnOk P w K mg base CX0 1 f fd ["_law_pool_here", "_law_amount"] spDraw := by
  refine F.ok scDraw (fun vs H Q E h => ?_) (fun cdv A outer s H vs Q E hr h => ?_)
  · obtain ⟨p, n, rfl, _⟩ := h
    rfl
  obtain ⟨p, n, rfl, ⟨a, b, c0, hp⟩, n0, n1, q⟩ := h
  refine ⟨_, pss_cons (ps_if (pt_cmpR op_gt (pe_ix ix_list (pv 0) pe_int (fun _ _ => rfl)) pe_int (nomark _))
      (pss_cons (ps_set (i := 2) scDraw.nd rfl (Or.inl rfl) (pe_op op_modN (pe_callTy call_int1 (by rfl) B.int (by decide +kernel) (pa_cons (pe_ix ix_list (pv 0) pe_int (fun _ _ => rfl)) pa_nil)) (pv 1)))
      (pss_cons (ps_asg (pe_op op_fdivN (pe_ix ix_list (pv 0) pe_int (fun _ _ => rfl)) (pv 1)) (pg_sub (pv 0) pe_int set_list))
      (pss_one (ps_ret (pv 2))))) pss_nil)
    (pss_cons (ps_asg (pe_op op_add (pe_ix ix_list (pv 0) pe_int (fun _ _ => rfl)) pe_int) (pg_sub (pv 0) pe_int set_list))
    (pss_cons (ps_set (i := 3) scDraw.nd rfl (Or.inl rfl) (pe_op op_modN (pe_callTy call_int1 (by rfl) B.int (by decide +kernel) (pa_cons
        (pe_op op_mul (pe_op op_add (pe_op op_add (pe_ix ix_list (pv 0) pe_int (fun _ _ => rfl)) (pe_op op_mul pe_int (pe_ix ix_list (pv 0) pe_int (fun _ _ => rfl)))) pe_int) pe_int) pa_nil)) pe_int))
    (pss_cons (ps_set (i := 3) scDraw.nd rfl (Or.inl rfl) (pe_op op_modN (pe_callTy call_int1 (by rfl) B.int (by decide +kernel) (pa_cons
        (pe_op op_mul (pv 3) (pe_op op_add (pe_op op_fdivN (pv 3) pe_int) pe_int)) pa_nil)) pe_int))
    (pss_cons (ps_set (i := 3) scDraw.nd rfl (Or.inl rfl) (pe_op op_modN (pe_callTy call_int1 (by rfl) B.int (by decide +kernel) (pa_cons
        (pe_op op_mul (pv 3) (pe_op op_add (pe_op op_fdivN (pv 3) pe_int) pe_int)) pa_nil)) pe_int))
    (pss_one (ps_ret (pe_op op_modN (pe_callTy call_int1 (by rfl) B.int (by decide +kernel) (pa_cons (pv 3) pa_nil)) (pv 1)))))))), ?_⟩
  refine ⟨_, rfl, p, _, _, _, rfl, rfl, SqL.of hp, rfl, _, _, rfl, rfl, _, rfl, ?_⟩
  refine ite2 (fun c => ?_) (fun c => ?_)
  · refine ⟨_, rfl, p, _, _, _, rfl, rfl, SqL.of hp, rfl, .inl ⟨_, rfl, _, rfl, _, _, rfl, rfl, by omega, ?_⟩⟩
    refine ⟨_, rfl, p, _, _, _, rfl, rfl, SqL.of hp, rfl, _, rfl, _, _, rfl, rfl, ⟨by omega, by omega⟩, _, rfl, p, _, _, _, rfl, rfl, hp, rfl, ?_⟩
    exact ⟨_, rfl, q _ _ (fmod_ok n0).1 (fmod_ok n0).2 Kp.upd ⟨_, _, _, upd_same⟩⟩
  · refine ⟨_, rfl, p, _, _, _, rfl, rfl, SqL.of hp, rfl, _, _, rfl, rfl, _, rfl, p, _, _, _, rfl, rfl, hp, rfl, ?_⟩
    refine ⟨_, rfl, p, _, _, _, rfl, rfl, SqL.of upd_same, rfl, _, rfl, p, _, _, _, rfl, rfl, SqL.of upd_same, rfl, _, _, rfl, rfl, .inl ⟨by decide, by decide⟩, _, _, rfl, rfl, _, _, rfl, rfl,
      _, _, rfl, rfl, .inr ⟨by decide, by decide⟩, .inl ⟨_, rfl, _, _, rfl, rfl, (by show (2147483647:Int) ≠ 0; decide), ?_⟩⟩
    have r1 := fmod_ok (a := (b + 7919 * (c0 + 1) + 1) * 48271) (n := 2147483647) (by decide)
    refine ⟨_, rfl, _, rfl, _, _, rfl, rfl, ⟨by decide, by decide⟩, _, _, rfl, rfl, _, _, rfl, rfl, .inl ⟨by omega, by omega⟩, .inl ⟨_, rfl, _, _, rfl, rfl, (by show (2147483647:Int) ≠ 0; decide), ?_⟩⟩
    have r2 := fmod_ok (a := (((b + 7919 * (c0 + 1) + 1) * 48271).fmod 2147483647) * ((((b + 7919 * (c0 + 1) + 1) * 48271).fmod 2147483647).fdiv 1009 + 69621)) (n := 2147483647) (by decide)
    refine ⟨_, rfl, _, rfl, _, _, rfl, rfl, ⟨by decide, by decide⟩, _, _, rfl, rfl, _, _, rfl, rfl, .inl ⟨by omega, by omega⟩, .inl ⟨_, rfl, _, _, rfl, rfl, (by show (2147483399:Int) ≠ 0; decide), ?_⟩⟩
    refine ⟨_, rfl, .inl ⟨_, rfl, _, rfl, _, _, rfl, rfl, by omega, ?_⟩⟩
    exact q _ _ (fmod_ok n0).1 (fmod_ok n0).2 Kp.upd ⟨_, _, _, upd_same⟩
/-- a list of texts that are names -/
def spNames : Sp := fun vs H Q _ => ∃ p : Addr, vs = [.ref p] ∧ PoolAt H p ∧ ∀ (q : Addr) (H' : Hp), H q = none → Kp p H H' → PoolAt H' p → NamesAt H' q → Q (.ref q) H'
theorem scNames : FnScope ["_law_pool_here", "_law_letters", "_law_base", "_law_k", "_law_at", "_law_first", "_law_signs", "_law_sign"] ["_law_pool_here"] (defScope sNames) := ⟨rfl, rfl, rfl, by decide +kernel, rfl, by decide +kernel, by decide +kernel⟩
theorem ok_names {f fD : Addr} {fd fdD : FuncData} (F : Fun K "_law_names" "_law_names" sNames f fd) (B : Bl mg) (GD : FnOk P w K mg base CX0 1 fD fdD ["_law_pool_here", "_law_amount"] spDraw) (bD : Binds K fdD ["_law_pool_here", "_law_amount"] []) (kD : PySem.W.keepIn K (.ref fD) = true) (mD : mg "_law_draw" = some (.ref fD)) :
    FnOk P w K mg base CX0 2 f fd ["_law_pool_here"] spNames := by
  refine F.ok scNames (fun vs H Q E h => ?_) (fun cdv A outer s H vs Q E hr h => ?_)
  · obtain ⟨p, rfl, _⟩ := h
    rfl
  obtain ⟨p, rfl, hp, q⟩ := h
  refine ⟨_, pss_cons (ps_set (i := 1) scNames.nd rfl (Or.inr rfl) pe_str)
    (pss_cons (ps_set (i := 2) scNames.nd rfl (Or.inr rfl) pe_str)
    (pss_cons (ps_for PassesOwn.never rfl (pi_range1 rfl B.range (pa_cons (pe_call GD hr rfl mD kD bD .nil pass0 (pa_cons (pv 0) (pa_cons pe_int pa_nil))) pa_nil)) (pg_name (i := 3) scNames.nd rfl (Or.inl rfl))
      (pss_one (ps_set (i := 2) scNames.nd rfl (Or.inr rfl) (pe_op op_add_str (pv 2) (pe_ix ix_str (pv 1) (pe_call GD hr rfl mD kD bD .nil pass0 (pa_cons (pv 0) (pa_cons pe_int pa_nil))) (fun _ _ => rfl))))))
    (pss_cons (ps_set (i := 4) scNames.nd rfl (Or.inr rfl) (pe_call GD hr rfl mD kD bD .nil pass0 (pa_cons (pv 0) (pa_cons (pe_op op_add (pe_callB call_len_str (by rfl) B.len PySem.boot_len (pa_cons (pv 2) pa_nil)) pe_int) pa_nil))))
    (pss_cons (ps_set (i := 5) scNames.nd rfl (Or.inl rfl) (pe_call GD hr rfl mD kD bD .nil pass0 (pa_cons (pv 0) (pa_cons pe_int pa_nil))))
    (pss_cons (ps_set (i := 6) scNames.nd rfl (Or.inl rfl) (pe_lst (pa_cons (pv 5)
      (pa_cons (pe_op op_modN (pe_callTy call_int1 (by rfl) B.int (by decide +kernel) (pa_cons (pe_op op_add (pe_op op_add (pv 5) pe_int) (pe_call GD hr rfl mD kD bD .nil pass0 (pa_cons (pv 0) (pa_cons pe_int pa_nil)))) pa_nil)) pe_int)
      (pa_cons (pe_op op_modN (pe_callTy call_int1 (by rfl) B.int (by decide +kernel) (pa_cons (pe_op op_add (pe_op op_add (pv 5) pe_int) (pe_call GD hr rfl mD kD bD .nil pass0 (pa_cons (pv 0) (pa_cons pe_int pa_nil)))) pa_nil)) pe_int) pa_nil)))))
    (pss_one (ps_ret (pe_lc (own := [("_law_sign", 7)]) (g := gName 7) (tt := tYes) rfl scNames.nd (pi_list (pv 6)) (blkOk_by (own := [("_law_sign", 7)]) (N := ["_law_pool_here", "_law_letters", "_law_base", "_law_k", "_law_at", "_law_first", "_law_signs", "_law_sign"]) (sc := defScope sNames) (by decide +kernel))
      (fun _ _ _ _ _ => pg_name (i := 7) scNames.nd rfl (Or.inl rfl)) (fun _ _ _ _ _ => pts_nil)
      (fun _ _ _ _ _ => pe_op op_add_str (pe_op op_add_str (pe_slice sl_str (pv 2) po_none (po_some (pv 4))) (pe_ix ix_str (pv 1) (pv 7) (fun _ _ => rfl))) (pe_slice sl_str (pv 2) (po_some (pv 4)) po_none)))))))))), ?_⟩
  refine ⟨_, rfl, p, 8, rfl, hp, by decide, by decide, fun r H1 r0 r1 k1 hp1 => ⟨r, rfl, by omega, by omega, ?_⟩⟩
  refine for_range (lo := 0) (n := r.toNat) (fun i σ H2 => ∃ (b : Str) (v : Option V), σ = [some (.ref p), some (.str alpha), some (.str b), v, none, none, none, none] ∧ Low b ∧ b.length = i ∧ Kp p H H2 ∧ PoolAt H2 p) ⟨_, _, rfl, low_nil, rfl, k1, hp1⟩ ?_ ?_
  · rintro i σ H2 hi ⟨b, v, rfl, hb, hl, k2, hp2⟩
    refine ⟨_, rfl, _, rfl, _, rfl, p, 26, rfl, hp2, by decide, by decide, fun r2 H3 r20 r21 k3 hp3 => ?_⟩
    obtain ⟨c, hc, hc2⟩ := alpha_at r20 r21
    refine ⟨_, _, c, rfl, rfl, (by show 26 ≤ sizeLine; decide), hc, _, _, rfl, rfl, ?_, ?_⟩
    · show b.length + 1 ≤ sizeLine
      exact Nat.le_of_lt (small1000 (by omega))
    · refine ⟨_, _, rfl, low_app hb (low_one hc2), ?_, k2.trans k3, hp3⟩
      rw [len_app, len_one, hl]
  · rintro σ H2 ⟨b, v, rfl, hb, hl, k2, hp2⟩
    have hl7 : b.length ≤ 7 := by omega
    have hsz : b.length ≤ sizeLine := Nat.le_of_lt (small1000 (by omega))
    refine ⟨_, rfl, _, rfl, _, rfl, hsz, _, _, rfl, rfl, p, _, rfl, hp2, by omega, by omega, fun at_ H3 a0 a1 k3 hp3 => ?_⟩
    refine ⟨_, rfl, p, 26, rfl, hp3, by decide, by decide, fun f1 H4 f0 f1' k4 hp4 => ?_⟩
    refine ⟨_, rfl, _, rfl, _, _, rfl, rfl, _, rfl, p, 12, rfl, hp4, by decide, by decide, fun d1 H5 d0 d1' k5 hp5 => ?_⟩
    refine ⟨_, _, rfl, rfl, .inl ⟨_, rfl, _, _, rfl, rfl, (by show (26:Int) ≠ 0; decide), ?_⟩⟩
    refine ⟨_, rfl, _, _, rfl, rfl, _, rfl, p, 12, rfl, hp5, by decide, by decide, fun d2 H6 d20 d21 k6 hp6 => ?_⟩
    refine ⟨_, _, rfl, rfl, .inl ⟨_, rfl, _, _, rfl, rfl, (by show (26:Int) ≠ 0; decide), ?_⟩⟩
    refine ⟨(by show 3 ≤ sizeLine; decide), fun l hl0 => ?_⟩
    have s1 : ∀ n : Int, 0 ≤ n.fmod 26 ∧ n.fmod 26 < 26 := fun n => fmod_ok (by decide)
    have kAll : Kp p H H6 := ((((k2.trans k3).trans k4).trans k5).trans k6)
    have hpl : H6 p ≠ none := by obtain ⟨_, _, _, z⟩ := hp6; rw [z]; intro z'; cases z'
    have npl : p ≠ l := fun z => hpl (z ▸ hl0)
    refine ⟨_, rfl, l, rfl, ⟨_, SqL.of upd_same⟩, fun D hD => ?_⟩
    have nDl : l ≠ D := ne_of_none upd_same hD
    have hD6 : H6 D = none := by rw [upd_ne nDl.symm] at hD; exact hD
    have npD : p ≠ D := fun z => hpl (z ▸ hD6)
    have hD0 : H D = none := by
      cases e : H D with
      | none => rfl
      | some o =>
        have z := kAll D o e npD.symm
        rw [hD6] at z; cases z
    refine lc_list (K := K) (a := l) (xs := [.int f1, .int ((f1 + 1 + d1).fmod 26), .int ((f1 + 14 + d2).fmod 26)]) (fun i H7 => ∃ acc : List V, H7 D = some (.lst acc) ∧ acc.length = i ∧ (∀ v ∈ acc, ∃ z, v = V.str z ∧ IsName z) ∧
      H7 l = some (.lst [.int f1, .int ((f1 + 1 + d1).fmod 26), .int ((f1 + 14 + d2).fmod 26)]) ∧ Kp p H H7 ∧ PoolAt H7 p) ?_ ?_ ?_ ?_
    · refine ⟨[], upd_same, rfl, fun v hv => (nomatch hv), by rw [upd_ne nDl]; exact upd_same, (kAll.new hl0).new hD, ?_⟩
      obtain ⟨a, b', c, z⟩ := hp6
      exact ⟨a, b', c, by rw [upd_ne npD, upd_ne npl]; exact z⟩
    · rintro i H7 hi ⟨acc, h1, h2, h3, h4, h5, h6⟩
      exact SqL.of h4
    · rintro i x H7 hx ⟨acc, h1, h2, h3, h4, h5, h6⟩
      have hi3 : i < 3 := (List.getElem?_eq_some_iff.mp hx).1
      obtain ⟨n, rfl, n0, n1⟩ : ∃ n, x = V.int n ∧ 0 ≤ n ∧ n < 26 := by
        have hm := List.mem_of_getElem? hx
        simp only [List.mem_cons, List.not_mem_nil, or_false] at hm
        rcases hm with e | e | e
        · exact ⟨_, e, f0, f1'⟩
        · exact ⟨_, e, s1 _⟩
        · exact ⟨_, e, s1 _⟩
      obtain ⟨c, hc, hc2⟩ := alpha_at n0 n1
      have hnm := isName_mk (k := at_) hb hl7 hc2 a0 (by omega)
      refine ⟨rfl, ?_⟩
      unfold tYes
      dsimp only
      rw [if_pos rfl]
      refine ⟨_, rfl, _, rfl, _, rfl, _, rfl, hsz, _, rfl, _, rfl, _, _, c, rfl, rfl, (by show 26 ≤ sizeLine; decide), hc, _, _, rfl, rfl, ?_, ?_⟩
      · have z := hnm.2.1
        rw [len_app, len_app] at z
        exact Nat.le_of_lt (small1000 (by omega))
      refine ⟨_, rfl, _, rfl, _, rfl, _, rfl, hsz, _, _, rfl, rfl, ?_, acc, h1, ?_, ?_⟩
      · have z := hnm.2.1
        rw [len_app] at z
        exact Nat.le_of_lt (small1000 (by omega))
      · rw [h2]; exact small1000 (by omega)
      · refine ⟨_, upd_same, by rw [List.length_append, h2]; rfl, fun v hv => ?_, by rw [upd_ne nDl]; exact h4, ?_, ?_⟩
        · rcases List.mem_append.mp hv with z | z
          · exact h3 v z
          · have e : v = _ := List.mem_singleton.mp z
            exact ⟨_, e, hnm⟩
        · intro b' o e hne
          rw [upd_ne (ne_of_none e hD0)]
          exact h5 b' o e hne
        · obtain ⟨a, b', c', z⟩ := h6
          exact ⟨a, b', c', by rw [upd_ne npD]; exact z⟩
    · rintro H7 ⟨acc, h1, h2, h3, h4, h5, h6⟩
      refine q D H7 hD0 h5 h6 ?_
      match acc, h2, h3 with
      | [u, v, t], _, h3 =>
        obtain ⟨x, rfl, hx⟩ := h3 u (by simp)
        obtain ⟨y, rfl, hy⟩ := h3 v (by simp)
        obtain ⟨z, rfl, hz⟩ := h3 t (by simp)
        exact ⟨x, y, z, h1, hx, hy, hz⟩
theorem max_if (a b : Int) : (if b > a then b else a) = max a b := by
  by_cases h : b > a
  · rw [if_pos h]; omega
  · rw [if_neg h]; omega
theorem heldAll_snoc (S : List Stm) (s : Stm) (h : Int) : heldAll (S ++ [s]) h = s.held (heldAll S h) := by
  rw [heldAll_app, heldAll, heldAll]
theorem cntAll_snoc (S : List Stm) (s : Stm) : cntAll (S ++ [s]) = cntAll S + s.cnt := by
  rw [cntAll_app, cntAll, cntAll]; rfl
theorem okAll_snoc {d : Nat} {S : List Stm} {s : Stm} {h : Int} (a : okAll d S h) (b : s.ok d (heldAll S h)) : okAll d (S ++ [s]) h := by
  refine okAll_app d S [s] h a ?_
  rw [okAll, okAll]
  exact ⟨b, trivial⟩
end
end Tk
set_option maxRecDepth 100000
namespace Tk
open PySem L2
abbrev sIsInt : Stmt := top 7
abbrev sIsName : Stmt := top 8
abbrev sSInit : Stmt := inClass (top 14) 0
abbrev sSLen : Stmt := inClass (top 14) 1
abbrev sSHas : Stmt := inClass (top 14) 2
abbrev sSGet : Stmt := inClass (top 14) 3
abbrev sAfter : Stmt := inClass (top 14) 6
abbrev sBehind : Stmt := inClass (top 14) 7
abbrev sKInit : Stmt := inClass (top 15) 0
abbrev sKBr : Stmt := inClass (top 15) 1
abbrev sKSt : Stmt := inClass (top 15) 2
abbrev sFault : Stmt := top 16
abbrev sForm : Stmt := top 18
abbrev sHeld : Stmt := top 17
def items8 : List (Str × Int) := [("take", 1), ("commit", 1), ("rollback", 1), ("drop", 1), ("leave", 1), ("lock", 2), ("unlock", 2), ("choose", 3)]
/-- what the top has made -/
structure Txt (K : PySem.W.Frag) (w : World) (mg : Str → Option Value) (CS CK it : Addr) : Prop where
  isi : mg "isinstance" = none
  all : mg "all" = none
  list : mg "list" = none
  enum : mg "enumerate" = none
  str : mg "str" = none
  bool : mg "bool" = none
  long : ∃ t, mg "LONGEST_NAME" = some (.int 8 t)
  mSt : ∃ t, mg "MOST_STATEMENTS" = some (.int 8 t)
  mHe : ∃ t, mg "MOST_HELD" = some (.int 3 t)
  mNe : ∃ t, mg "MOST_NESTED" = some (.int 2 t)
  mIt : mg "ITEMS" = some (.ref it)
  lkI : ∃ es n, K.lookup it = some ⟨.type "dict", none, .dict es n, #[]⟩
  kg : ∀ z n, (z, n) ∈ items8 → KG K w it z (.int n)
  clS : Cls K CS
  clK : Cls K CK
  mgS : mg "Script" = some (.ref CS)
  mgK : mg "Check" = some (.ref CK)
  nS : NoAttr K CS "statements"
  nF : NoAttr K CS "found"
  nP : NoAttr K CS "places"
  kF : NoAttr K CK "found"
theorem lt1 (a b : Nat) : ([a] < [b]) ↔ a < b := by
  rw [List.cons_lt_cons_iff]
  simp
theorem iteFb {c : Bool} {A B : Prop} (e : c = false) (h : B) : if c = true then A else B := by rw [e]; exact iteF h
theorem iteTb {c : Bool} {A B : Prop} (e : c = true) (h : A) : if c = true then A else B := by rw [e]; exact iteT h
def nameB (z : Str) : Bool := decide (1 ≤ z.length) && decide (z.length ≤ 8) && z.cps.toList.all fun c => decide (97 ≤ c) && decide (c ≤ 122)
theorem nameB_of {z : Str} (h : IsName z) : nameB z = true := by
  unfold nameB
  rw [decide_eq_true h.1, decide_eq_true h.2.1]
  simp only [Bool.true_and, List.all_eq_true]
  intro c hc
  have q := h.2.2 c hc
  rw [decide_eq_true q.1, decide_eq_true q.2]; rfl
def spIsInt (K : PySem.W.Frag) : Sp := fun vs H Q _ => ∃ (x : V) (T : String) (b1 b2 : Bool), vs = [x] ∧ TyX K H x (.type T) ∧ kitB T "int" = some b1 ∧ kitB T "bool" = some b2 ∧ Q (.bl (b1 && !b2)) H
def spIsName : Sp := fun vs H Q _ => ∃ z : Str, vs = [.str z] ∧ z.length ≤ 100 ∧ ∀ H', Same H H' → Q (.bl (nameB z)) H'
/-- a good statement -/
def spForm : Sp := fun vs H Q _ => ∃ (v : V) (s : Stm), vs = [v] ∧ s.at H v ∧ Q (.bl true) H
def spFault : Sp := fun vs H Q _ => ∃ (v : V) (u : Addr) (e h : Int) (s : Stm) (d : Nat) (p : List V), vs = [v, .ref u, .int e, .int h] ∧ s.at H v ∧ H u = some (.tup p) ∧ p.length = 2 * d + 1 ∧ e ≠ 8 ∧ s.ok d h ∧ ∀ H', Same H H' → Q .non H'
section
variable {P : Program} {w : World} {K : PySem.W.Frag} {mg : Str → Option Value} {base : Heap} {CS CK it : Addr}
theorem scII : FnScope ["value"] ["value"] (defScope sIsInt) := ⟨rfl, rfl, rfl, by decide +kernel, rfl, by decide +kernel, by decide +kernel⟩
theorem ok_isint {f : Addr} {fd : FuncData} (F : Fun K "is_integer" "is_integer" sIsInt f fd) (B : Bl mg) (T : Txt K w mg CS CK it) : FnOk P w K mg base CX0 1 f fd ["value"] (spIsInt K) := by
  refine F.ok scII (fun vs H Q E h => ?_) (fun cdv A outer s H vs Q E hr h => ?_)
  · obtain ⟨x, t, b1, b2, rfl, _⟩ := h
    rfl
  obtain ⟨x, t, b1, b2, rfl, ty, k1, k2, q⟩ := h
  refine ⟨_, pss_one (ps_ret (pe_and (pe_callB call_isi (by rfl) T.isi (by decide +kernel) (pa_cons (pv 0) (pa_cons (pe_bltn (v := .ty "int") (by rfl) B.int (by decide +kernel) rfl) pa_nil)))
    (pe_one (pe_not (pe_callB call_isi (by rfl) T.isi (by decide +kernel) (pa_cons (pv 0) (pa_cons (pe_bltn (v := .ty "bool") (by rfl) T.bool (by decide +kernel) rfl) pa_nil))))))), ?_⟩
  refine ⟨_, rfl, x, _, _, _, b1, rfl, .ty "int", ty, kit_ty k1, b1, rfl, ?_⟩
  cases b1 with
  | false => exact iteF q
  | true => exact iteT ⟨_, rfl, x, _, _, _, b2, rfl, .ty "bool", ty, kit_ty k2, b2, rfl, q⟩
theorem scIN : FnScope ["value", "letter"] ["value"] (defScope sIsName) := ⟨rfl, rfl, rfl, by decide +kernel, rfl, by decide +kernel, by decide +kernel⟩
theorem ok_isname {f : Addr} {fd : FuncData} (F : Fun K "is_name" "is_name" sIsName f fd) (B : Bl mg) (T : Txt K w mg CS CK it) : FnOk P w K mg base CX0 1 f fd ["value"] spIsName := by
  refine F.ok scIN (fun vs H Q E h => ?_) (fun cdv A outer s H vs Q E hr h => ?_)
  · obtain ⟨z, rfl, _⟩ := h
    rfl
  obtain ⟨z, rfl, h100, q⟩ := h
  have hsz : z.length ≤ sizeLine := Nat.le_of_lt (small1000 (by omega))
  obtain ⟨tl, gl⟩ := T.long
  refine ⟨_, pss_cons (ps_if (PW.pt (pw_or (pt_not (pt_val (pe_callB call_isi (by rfl) T.isi (by decide +kernel) (pa_cons (pv 0) (pa_cons (pe_bltn (v := .ty "str") (by rfl) T.str (by decide +kernel) rfl) pa_nil)))))
      (pw_or1 (pt_not (pt_chain op_le op_le pe_int (pe_callB call_len_str (by rfl) B.len PySem.boot_len (pa_cons (pv 0) pa_nil)) (pe_glob (v := .int 8) (by rfl) gl ⟨_, rfl⟩)))))) (pss_one (ps_ret pe_bl)) pss_nil)
    (pss_one (ps_ret (pe_callB (cr_all rfl) (by rfl) T.all (by decide +kernel) (pa_cons
      (pe_lc (own := [("letter", 1)]) (g := gName 1) (tt := tYes) rfl scIN.nd (pi_str (pv 0)) (blkOk_by (own := [("letter", 1)]) (N := ["value", "letter"]) (sc := defScope sIsName) (by decide +kernel))
        (fun _ _ _ _ _ => pg_name (i := 1) scIN.nd rfl (Or.inl rfl)) (fun _ _ _ _ _ => pts_nil)
        (fun _ _ _ _ _ => pe_chain op_le_str op_le_str pe_str (pv 1) pe_str)) pa_nil)))), ?_⟩
  refine ⟨_, rfl, _, _, _, _, true, rfl, .ty "str", .base (.str _), kit_ty (by decide +kernel), true, rfl, iteF ?_⟩
  refine ⟨_, rfl, _, rfl, hsz, _, _, rfl, rfl, _, rfl, ?_⟩
  have ret : ∀ b : Bool, nameB z = b → Q (.bl b) H := fun b e => e ▸ q H (Same.refl H)
  by_cases c1 : 1 ≤ z.length
  · have c1' : decide ((1 : Int) ≤ (z.length : Int)) = true := decide_eq_true (by omega)
    refine iteTb c1' ⟨_, _, rfl, rfl, _, rfl, ?_⟩
    by_cases c2 : z.length ≤ 8
    · have c2' : decide ((z.length : Int) ≤ 8) = true := decide_eq_true (by omega)
      rw [c2']
      refine iteF ?_
      refine ⟨_, rfl, z, rfl, fun D hD => ?_⟩
      refine lc_it walk_str (fun i H7 => H7 D = some (.lst (((z.cps.toList.take i).map fun c => decide (97 ≤ c) && decide (c ≤ 122)).map V.bl)) ∧ Same H H7 ∧ i ≤ z.cps.size) ?_ (fun _ _ _ _ => trivial) ?_ ?_
      · exact ⟨upd_same, same_new hD _, Nat.zero_le _⟩
      · rintro i x H7 H8 hi ⟨h1, h2, h3⟩ ⟨rfl, c, hc, rfl⟩
        refine ⟨rfl, ?_⟩
        unfold tYes
        dsimp only
        rw [if_pos rfl]
        have nx : ∀ b : Bool, (decide (97 ≤ c) && decide (c ≤ 122)) = b → ∃ acc, H8 D = some (.lst acc) ∧ acc.length < sizeLine ∧ (upd H8 D (.lst (acc ++ [.bl b]))) D = some (.lst (((z.cps.toList.take (i + 1)).map fun c => decide (97 ≤ c) && decide (c ≤ 122)).map V.bl)) ∧ Same H (upd H8 D (.lst (acc ++ [.bl b]))) ∧ i + 1 ≤ z.cps.size := by
          intro b e
          have hz : z.cps.size ≤ 8 := c2
          refine ⟨_, h1, small1000 (by simp; omega), ?_, ?_, hi⟩
          · rw [upd_same]
            have ez : z.cps.toList[i]? = some c := by simpa using hc
            rw [List.take_add_one, ez]
            simp [e]
          · intro b' o e'
            rw [upd_ne (ne_of_none e' hD)]
            exact h2 b' o e'
        refine ⟨_, rfl, _, _, rfl, rfl, _, rfl, ?_⟩
        have e1 : (!decide ((⟨#[c]⟩ : Str).cps.toList < ("a" : Str).cps.toList)) = decide (97 ≤ c) := by
          have e0 : ("a" : Str).cps.toList = [97] := by decide +kernel
          rw [e0]
          show (!decide ([c] < [97])) = _
          by_cases k : 97 ≤ c
          · rw [decide_eq_true k, decide_eq_false (fun x => absurd ((lt1 c 97).mp x) (by omega))]; rfl
          · rw [decide_eq_false k, decide_eq_true ((lt1 c 97).mpr (by omega))]; rfl
        have e2 : (!decide (("z" : Str).cps.toList < (⟨#[c]⟩ : Str).cps.toList)) = decide (c ≤ 122) := by
          have e0 : ("z" : Str).cps.toList = [122] := by decide +kernel
          rw [e0]
          show (!decide ([122] < [c])) = _
          by_cases k : c ≤ 122
          · rw [decide_eq_true k, decide_eq_false (fun x => absurd ((lt1 122 c).mp x) (by omega))]; rfl
          · rw [decide_eq_false k, decide_eq_true ((lt1 122 c).mpr (by omega))]; rfl
        rw [e1]
        by_cases k : 97 ≤ c
        · refine iteTb (decide_eq_true k) ⟨_, _, rfl, rfl, ?_⟩
          rw [e2]
          exact nx _ (by rw [decide_eq_true k, Bool.true_and])
        · refine iteFb (decide_eq_false k) ?_
          exact nx _ (by rw [decide_eq_false k, Bool.false_and])
      · rintro H7 ⟨h1, h2, _⟩
        refine ⟨D, _, rfl, SqL.of h1, ?_⟩
        have e : nameB z = ((z.cps.toList.take z.cps.size).map fun c => decide (97 ≤ c) && decide (c ≤ 122)).all id := by
          unfold nameB
          rw [decide_eq_true c1, decide_eq_true c2, List.take_of_length_le (by simp), List.all_map]
          rfl
        rw [← e]
        exact q H7 h2
    · have c2' : decide ((z.length : Int) ≤ 8) = false := decide_eq_false (by omega)
      rw [c2']
      refine iteT ?_
      exact ret false (by unfold nameB; rw [decide_eq_false c2]; simp)
  · have c1' : decide ((1 : Int) ≤ (z.length : Int)) = false := decide_eq_false (by omega)
    refine iteFb c1' ⟨_, rfl, iteT ?_⟩
    exact ret false (by unfold nameB; rw [decide_eq_false c1]; simp)
/-! ### has_form, fault_of -/
theorem wd_ne (w : Wd) : decide (V.str w.s = V.str "choose") = false := by cases w <;> decide +kernel
theorem lk_ne (b : Bool) : decide (V.str (lockS b) = V.str "choose") = false := by cases b <;> decide +kernel
theorem wd_it (w : Wd) : (w.s, (1 : Int)) ∈ items8 := by cases w <;> simp [items8, Wd.s]
theorem lk_it (b : Bool) : (lockS b, (2 : Int)) ∈ items8 := by cases b <;> simp [items8, lockS]
theorem ch_it : (("choose" : Str), (3 : Int)) ∈ items8 := by simp [items8]
theorem scHF : FnScope ["statement", "word"] ["statement"] (defScope sForm) := ⟨rfl, rfl, rfl, by decide +kernel, rfl, by decide +kernel, by decide +kernel⟩
theorem ok_form {f : Addr} {fd : FuncData} (F : Fun K "has_form" "has_form" sForm f fd) (B : Bl mg) (T : Txt K w mg CS CK it) : FnOk P w K mg base CX0 1 f fd ["statement"] spForm := by
  refine F.ok scHF (fun vs H Q E h => ?_) (fun cdv A outer s H vs Q E hr h => ?_)
  · obtain ⟨v, s, rfl, _⟩ := h
    rfl
  obtain ⟨v, s, rfl, hs, q⟩ := h
  obtain ⟨es, n, lkI⟩ := T.lkI
  refine ⟨_, pss_cons (ps_if (PW.pt (pw_or (pt_not (pt_val (pe_callB call_isi (by rfl) T.isi (by decide +kernel) (pa_cons (pv 0) (pa_cons (pe_bltn (v := .ty "tuple") (by rfl) B.tuple (by decide +kernel) rfl) pa_nil)))))
      (pw_or1 (pt_not (pt_truth (pv 0) (by intro _; rfl)))))) (pss_one (ps_ret pe_bl)) pss_nil)
    (pss_cons (ps_set (i := 1) scHF.nd rfl (Or.inl rfl) (pe_ix ix_tup (pv 0) pe_int (fun _ _ => rfl)))
    (pss_cons (ps_if (PW.pt (pw_or (pt_not (pt_val (pe_callB call_isi (by rfl) T.isi (by decide +kernel) (pa_cons (pv 1) (pa_cons (pe_bltn (v := .ty "str") (by rfl) T.str (by decide +kernel) rfl) pa_nil)))))
      (pw_or1 (pt_cmpR op_ne (pe_callB call_len_seq (by rfl) B.len PySem.boot_len (pa_cons (pv 0) pa_nil)) (pe_kget (pe_glob (v := .ref it) (by rfl) T.mIt rfl) (pv 1) (fun σ H Q h => ⟨⟨it, _, es, n, rfl, lkI, rfl⟩, h⟩) ⟨rfl, rfl, rfl, rfl⟩) (nomark _))))) (pss_one (ps_ret pe_bl)) pss_nil)
    (pss_cons (ps_if (pt_cmpR op_eq (pv 1) pe_str (nomark _)) (pss_one (ps_ret (pe_and (pe_callB call_isi (by rfl) T.isi (by decide +kernel) (pa_cons (pe_ix ix_tup (pv 0) pe_int (fun _ _ => rfl)) (pa_cons (pe_bltn (v := .ty "tuple") (by rfl) B.tuple (by decide +kernel) rfl) pa_nil)))
        (pe_one (pe_callB call_isi (by rfl) T.isi (by decide +kernel) (pa_cons (pe_ix ix_tup (pv 0) pe_int (fun _ _ => rfl)) (pa_cons (pe_bltn (v := .ty "tuple") (by rfl) B.tuple (by decide +kernel) rfl) pa_nil))))))) pss_nil)
    (pss_one (ps_ret pe_bl))))), ?_⟩
  cases s with
  | one w =>
    rw [Stm.at] at hs
    obtain ⟨a, rfl, ha⟩ := hs
    refine ⟨_, rfl, _, _, _, _, true, rfl, .ty "tuple", .base (.tup ha), kit_ty (by decide +kernel), true, rfl, iteF ?_⟩
    refine ⟨_, rfl, true, .inr (.inl ⟨_, SqT.of ha, rfl⟩), iteF ?_⟩
    refine ⟨_, rfl, a, _, _, _, rfl, rfl, SqT.of ha, rfl, ?_⟩
    refine ⟨_, rfl, _, _, _, _, true, rfl, .ty "str", .base (.str _), kit_ty (by decide +kernel), true, rfl, iteF ?_⟩
    refine ⟨_, rfl, a, _, rfl, .inr (SqT.of ha), _, rfl, it, _, _, rfl, rfl, T.kg _ _ (wd_it w), rfl, _, rfl, iteNS rfl ?_⟩
    exact ⟨_, rfl, rfl, _, rfl, iteFb (wd_ne w) q⟩
  | nam b z =>
    rw [Stm.at] at hs
    obtain ⟨a, rfl, ha⟩ := hs
    refine ⟨_, rfl, _, _, _, _, true, rfl, .ty "tuple", .base (.tup ha), kit_ty (by decide +kernel), true, rfl, iteF ?_⟩
    refine ⟨_, rfl, true, .inr (.inl ⟨_, SqT.of ha, rfl⟩), iteF ?_⟩
    refine ⟨_, rfl, a, _, _, _, rfl, rfl, SqT.of ha, rfl, ?_⟩
    refine ⟨_, rfl, _, _, _, _, true, rfl, .ty "str", .base (.str _), kit_ty (by decide +kernel), true, rfl, iteF ?_⟩
    refine ⟨_, rfl, a, _, rfl, .inr (SqT.of ha), _, rfl, it, _, _, rfl, rfl, T.kg _ _ (lk_it b), rfl, _, rfl, iteNS rfl ?_⟩
    exact ⟨_, rfl, rfl, _, rfl, iteFb (lk_ne b) q⟩
  | ch y n =>
    rw [Stm.at] at hs
    obtain ⟨a, b, c, xs, ys, rfl, ha, hb, _, hc, _⟩ := hs
    refine ⟨_, rfl, _, _, _, _, true, rfl, .ty "tuple", .base (.tup ha), kit_ty (by decide +kernel), true, rfl, iteF ?_⟩
    refine ⟨_, rfl, true, .inr (.inl ⟨_, SqT.of ha, rfl⟩), iteF ?_⟩
    refine ⟨_, rfl, a, _, _, _, rfl, rfl, SqT.of ha, rfl, ?_⟩
    refine ⟨_, rfl, _, _, _, _, true, rfl, .ty "str", .base (.str _), kit_ty (by decide +kernel), true, rfl, iteF ?_⟩
    refine ⟨_, rfl, a, _, rfl, .inr (SqT.of ha), _, rfl, it, _, _, rfl, rfl, T.kg _ _ ch_it, rfl, _, rfl, iteNS rfl ?_⟩
    refine ⟨_, rfl, rfl, _, rfl, iteTb (by decide +kernel) ?_⟩
    refine ⟨_, rfl, a, _, _, _, rfl, rfl, SqT.of ha, rfl, _, _, _, _, true, rfl, .ty "tuple", .base (.tup hb), kit_ty (by decide +kernel), true, rfl, iteT ?_⟩
    exact ⟨_, rfl, a, _, _, _, rfl, rfl, SqT.of ha, rfl, _, _, _, _, true, rfl, .ty "tuple", .base (.tup hc), kit_ty (by decide +kernel), q⟩
theorem wd_in (w : Wd) : inV (V.str w.s) [V.str "lock", V.str "unlock"] = false := by cases w <;> decide +kernel
theorem lk_in (b : Bool) : inV (V.str (lockS b)) [V.str "lock", V.str "unlock"] = true := by cases b <;> decide +kernel
theorem ch_in : inV (V.str "choose") [V.str "lock", V.str "unlock"] = false := by decide +kernel
theorem lk_tk (b : Bool) : decide (V.str (lockS b) = V.str "take") = false := by cases b <;> decide +kernel
theorem wd_tk (w : Wd) : decide (V.str w.s = V.str "take") = decide (w = .take) := by cases w <;> decide +kernel
theorem scFO : FnScope ["statement", "place", "earlier", "held", "word"] ["statement", "place", "earlier", "held"] (defScope sFault) := ⟨rfl, rfl, rfl, by decide +kernel, rfl, by decide +kernel, by decide +kernel⟩
theorem ok_fault {f fF fN : Addr} {fd fdF fdN : FuncData} (F : Fun K "fault_of" "fault_of" sFault f fd) (B : Bl mg) (T : Txt K w mg CS CK it)
    (GF : FnOk P w K mg base CX0 1 fF fdF ["statement"] spForm) (bF : Binds K fdF ["statement"] []) (kF : PySem.W.keepIn K (.ref fF) = true) (mF : mg "has_form" = some (.ref fF))
    (GN : FnOk P w K mg base CX0 1 fN fdN ["value"] spIsName) (bN : Binds K fdN ["value"] []) (kN : PySem.W.keepIn K (.ref fN) = true) (mN : mg "is_name" = some (.ref fN)) :
    FnOk P w K mg base CX0 2 f fd ["statement", "place", "earlier", "held"] spFault := by
  refine F.ok scFO (fun vs H Q E h => ?_) (fun cdv A outer s H vs Q E hr h => ?_)
  · obtain ⟨v, u, e, h, s, d, p, rfl, _⟩ := h
    rfl
  obtain ⟨v, u, e, h, s, d, p, rfl, hs, hu, hp, e8, ok, q⟩ := h
  obtain ⟨t1, g1⟩ := T.mSt
  obtain ⟨t2, g2⟩ := T.mNe
  obtain ⟨t3, g3⟩ := T.mHe
  refine ⟨_, pss_cons (ps_if (pt_cmpR op_eq (pv 2) (pe_glob (v := .int 8) (by rfl) g1 ⟨_, rfl⟩) (nomark _)) (pss_one (ps_ret pe_str)) pss_nil)
    (pss_cons (ps_if (pt_not (pt_val (pe_call GF hr rfl mF kF bF .nil pass0 (pa_cons (pv 0) pa_nil)))) (pss_one (ps_ret pe_str)) pss_nil)
    (pss_cons (ps_set (i := 4) scFO.nd rfl (Or.inl rfl) (pe_ix ix_tup (pv 0) pe_int (fun _ _ => rfl)))
    (pss_cons (ps_if (PW.pt (pw_and (pt_cmpR op_eq (pv 4) pe_str (nomark _)) (pw_and1 (pt_cmpR op_eq (pe_op op_fdivN (pe_callB call_len_seq (by rfl) B.len PySem.boot_len (pa_cons (pv 1) pa_nil)) pe_int) (pe_glob (v := .int 2) (by rfl) g2 ⟨_, rfl⟩) (nomark _))))) (pss_one (ps_ret pe_str)) pss_nil)
    (pss_cons (ps_if (PW.pt (pw_and (pt_cmpR op_in_seq (pv 4) (pe_tup (pa_cons pe_str (pa_cons pe_str pa_nil))) (by rfl)) (pw_and1 (pt_not (pt_val (pe_call GN hr rfl mN kN bN .nil pass0 (pa_cons (pe_ix ix_tup (pv 0) pe_int (fun _ _ => rfl)) pa_nil))))))) (pss_one (ps_ret pe_str)) pss_nil)
    (pss_cons (ps_if (PW.pt (pw_and (pt_cmpR op_eq (pv 4) pe_str (nomark _)) (pw_and1 (pt_cmpR op_eq (pv 3) (pe_glob (v := .int 3) (by rfl) g3 ⟨_, rfl⟩) (nomark _))))) (pss_one (ps_ret pe_str)) pss_nil)
    (pss_one (ps_ret pe_non))))))), ?_⟩
  have ne8 : decide (V.int e = V.int 8) = false := decide_eq_false (fun z => e8 (by injection z))
  refine ⟨_, rfl, rfl, _, rfl, iteFb ne8 ?_⟩
  refine ⟨_, rfl, v, s, rfl, hs, true, rfl, iteF ?_⟩
  cases s with
  | one wd =>
    rw [Stm.at] at hs
    obtain ⟨a, rfl, ha⟩ := hs
    rw [Stm.ok] at ok
    refine ⟨_, rfl, a, _, _, _, rfl, rfl, SqT.of ha, rfl, ?_⟩
    refine ⟨_, rfl, rfl, _, rfl, iteFb (wd_ne wd) ?_⟩
    refine ⟨_, rfl, (by show 2 ≤ sizeLine; decide), fun t ht => ⟨t, _, rfl, .inr (SqT.of upd_same), rfl, rfl, _, rfl, iteFb (wd_in wd) ?_⟩⟩
    refine ⟨_, rfl, rfl, _, rfl, ?_⟩
    rw [wd_tk]
    by_cases c : wd = .take
    · refine iteTb (decide_eq_true c) ⟨_, rfl, rfl, _, rfl, iteFb (decide_eq_false (fun z => ok c (by injection z))) (q _ (same_new ht _))⟩
    · exact iteFb (decide_eq_false c) (q _ (same_new ht _))
  | nam b z =>
    rw [Stm.at] at hs
    obtain ⟨a, rfl, ha⟩ := hs
    rw [Stm.ok] at ok
    refine ⟨_, rfl, a, _, _, _, rfl, rfl, SqT.of ha, rfl, ?_⟩
    refine ⟨_, rfl, rfl, _, rfl, iteFb (lk_ne b) ?_⟩
    refine ⟨_, rfl, (by show 2 ≤ sizeLine; decide), fun t ht => ⟨t, _, rfl, .inr (SqT.of upd_same), rfl, rfl, _, rfl, iteTb (lk_in b) ?_⟩⟩
    refine ⟨_, rfl, a, _, _, _, rfl, rfl, SqT.of ((same_new ht _) a _ ha), rfl, z, rfl, Nat.le_trans ok.2.1 (by decide), fun H2 s2 => ⟨_, rfl, ?_⟩⟩
    rw [nameB_of ok]
    refine iteF ⟨_, rfl, rfl, _, rfl, iteFb (lk_tk b) (q _ ((same_new ht _).trans s2))⟩
  | ch y n =>
    rw [Stm.at] at hs
    obtain ⟨a, b, c, xs, ys, rfl, ha, hb, _, hc, _⟩ := hs
    rw [Stm.ok] at ok
    refine ⟨_, rfl, a, _, _, _, rfl, rfl, SqT.of ha, rfl, ?_⟩
    refine ⟨_, rfl, rfl, _, rfl, iteTb (by decide +kernel) ?_⟩
    refine ⟨_, rfl, u, _, rfl, .inr (SqT.of hu), _, _, rfl, rfl, ⟨by decide, by decide⟩, rfl, _, rfl, ?_⟩
    have e1 : ((p.length : Nat) : Int).fdiv 2 = d := by
      rw [hp, Int.fdiv_eq_ediv_of_nonneg _ (by decide)]; omega
    refine iteFb ?_ ?_
    · show decide (V.int (((p.length : Nat) : Int).fdiv 2) = V.int 2) = false
      rw [e1]
      exact decide_eq_false (fun z => by injection z with z; omega)
    · refine ⟨_, rfl, (by show 2 ≤ sizeLine; decide), fun t ht => ⟨t, _, rfl, .inr (SqT.of upd_same), rfl, rfl, _, rfl, iteFb ch_in ?_⟩⟩
      exact ⟨_, rfl, rfl, _, rfl, iteFb (by decide +kernel) (q _ (same_new ht _))⟩
end
end Tk
set_option maxRecDepth 100000
namespace Tk
open PySem L2
def CkE (CK : Addr) (H : Hp) (c dd : Addr) (W : List (Pl × Stm)) : Prop := (∃ dx, H c = some (.ins CK dx [("found", .ref dd)])) ∧ ∃ kvs, H dd = some (.dT kvs) ∧ FRel H kvs W
theorem CkE.keep {CK : Addr} {H H' : Hp} {c dd : Addr} {W : List (Pl × Stm)} (x : CkE CK H c dd W) (s : Same H H') : CkE CK H' c dd W := by
  obtain ⟨⟨dx, h1⟩, kvs, h2, h3⟩ := x
  exact ⟨⟨dx, s _ _ h1⟩, kvs, s _ _ h2, h3.keep (TK.of_same s)⟩
theorem Kp.tkD {dd : Addr} {H H' : Hp} {kvs : List (List Key × V)} (k : Kp dd H H') (hp : H dd = some (.dT kvs)) : TK H H' := fun a xs h => k a _ h (ne_of h hp (by intro z; cases z))
abbrev psKB : List Str := ["self", "branch", "above", "held"]
abbrev psKS : List Str := ["self", "statement", "place", "held"]
def spKInit (CK : Addr) : Sp := fun vs H Q _ => ∃ c dx : Addr, vs = [.ref c] ∧ H c = some (.ins CK dx []) ∧ ∀ (dd : Addr) (H' : Hp), H dd = none → CkE CK H' c dd [] → (∀ b o, H b = some o → b ≠ c → H' b = some o) → Q .non H'
def spKS (CK : Addr) (m : Nat) : Sp := fun vs H Q _ => ∃ (c dd u : Addr) (v : V) (h : Int) (s : Stm) (d : Nat) (p : Pl) (W : List (Pl × Stm)), vs = [.ref c, v, .ref u, .int h] ∧ d + m = 3 ∧ d ≤ 2 ∧ CkE CK H c dd W ∧ s.at H v ∧ H u = some (.tup (p.map V.int)) ∧
  p.length = 2 * d + 1 ∧ s.ok d h ∧ W.length + s.cnt ≤ 8 ∧ (∀ q, lk W (p ++ q) = none) ∧ ∀ H', CkE CK H' c dd (W ++ s.walk p) → Kp dd H H' → Q (.int (s.held h)) H'
def spKB (CK : Addr) (m : Nat) : Sp := fun vs H Q _ => ∃ (c dd t u : Addr) (xs : List V) (h : Int) (B : List Stm) (d : Nat) (p : Pl) (W : List (Pl × Stm)), vs = [.ref c, .ref t, .ref u, .int h] ∧ d + m = 3 ∧ d ≤ 2 ∧ CkE CK H c dd W ∧ H t = some (.tup xs) ∧ atAll H xs B ∧ H u = some (.tup (p.map V.int)) ∧
  p.length = 2 * d ∧ okAll d B h ∧ W.length + cntAll B ≤ 8 ∧ (∀ j q, lk W (p ++ j :: q) = none) ∧ ∀ H', CkE CK H' c dd (W ++ walkAll B p 0) → Kp dd H H' → Q (.int (heldAll B h)) H'
theorem small {n : Nat} (h : n ≤ 1000) : n ≤ sizeLine := Nat.le_of_lt (small1000 h)
section
variable {P : Program} {w : World} {K : PySem.W.Frag} {mg : Str → Option Value} {base : Heap} {CS CK it : Addr}
theorem scKI : FnScope ["self"] ["self"] (defScope sKInit) := ⟨rfl, rfl, rfl, by decide +kernel, rfl, by decide +kernel, by decide +kernel⟩
theorem ok_kinit {f : Addr} {fd : FuncData} (F : Fun K "__init__" "Check.__init__" sKInit f fd) (T : Txt K w mg CS CK it) : FnOk P w K mg base CX0 1 f fd ["self"] (spKInit CK) := by
  refine F.ok scKI (fun vs H Q E h => ?_) (fun cdv A outer s H vs Q E hr h => ?_)
  · obtain ⟨c, dx, rfl, _⟩ := h
    rfl
  obtain ⟨c, dx, rfl, hc, q⟩ := h
  refine ⟨_, pss_one (ps_fld (pv 0) pe_dnewT rfl), ?_⟩
  intro dd hd
  have n : c ≠ dd := ne_of_none hc hd
  refine ⟨_, rfl, c, CK, dx, [], rfl, (by rw [upd_ne n]; exact hc), T.clK, T.kF, (by show 0 < 1000; decide), ?_⟩
  refine q dd _ hd ⟨⟨dx, upd_same⟩, [], by rw [upd_ne n.symm, upd_same], trivial⟩ fun b o e hb => ?_
  rw [upd_ne hb, upd_ne (ne_of_none e hd)]
  exact e
/-- above + (index,) : what follows gets the new place -/
theorem cat_one {H : Hp} {u : Addr} {p : Pl} {j : Int} {X : V → Hp → Prop} (hu : H u = some (.tup (p.map V.int))) (hp : p.length ≤ 10) (k : ∀ y H', H' y = some (.tup ((p ++ [j]).map V.int)) → Same H H' → X (.ref y) H') :
    ∀ t, H t = none → rCatA K (.ref u) (.ref t) (L2.upd H t (.tup [.int j])) X := by
  intro t ht
  have s1 := same_new ht (.tup [.int j])
  refine ⟨u, t, _, _, rfl, rfl, SqT.of (s1 _ _ hu), SqT.of upd_same, small (by simp; omega), (fun e => ?_), (fun _ e => nomatch e), fun _ _ z hz => ?_⟩
  · refine k t _ ?_ s1
    have e' : p = [] := List.map_eq_nil_iff.mp e
    rw [upd_same, e']; rfl
  · refine k z _ ?_ (s1.trans (same_new hz _))
    rw [upd_same, List.map_append]; rfl
theorem scKB : FnScope ["self", "branch", "above", "held", "index", "statement"] psKB (defScope sKBr) := ⟨rfl, rfl, rfl, by decide +kernel, rfl, by decide +kernel, by decide +kernel⟩
theorem ok_kbr {m n : Nat} {f fS : Addr} {fd fdS : FuncData} (F : Fun K "check_branch" "Check.check_branch" sKBr f fd) (T : Txt K w mg CS CK it) (GS : FnOk P w K mg base CX0 n fS fdS psKS (spKS CK m)) (bS : Binds K fdS psKS []) (mS : Meth K CK "check_statement" fS) :
    FnOk P w K mg base CX0 (n + 1) f fd psKB (spKB CK m) := by
  refine F.ok scKB (fun vs H Q E h => ?_) (fun cdv A outer s H vs Q E hr h => ?_)
  · obtain ⟨c, dd, t, u, xs, h, B, d, p, W, rfl, _⟩ := h
    rfl
  obtain ⟨c, dd, t, u, xs, h, B, d, p, W, rfl, hd3, hd2, C, ht, hB, hu, hp, ok, hn, hW, q⟩ := h
  refine ⟨_, pss_cons (ps_for PassesOwn.never rfl (pi_enumT rfl T.enum (pa_cons (pv 1) pa_nil)) (pg_tup rfl (pgs_cons (pg_name (i := 4) scKB.nd rfl (.inl rfl)) (pgs_cons (pg_name (i := 5) scKB.nd rfl (.inl rfl)) pgs_nil)))
      (pss_one (ps_set (i := 3) scKB.nd rfl (Or.inl rfl) (pe_meth (pv 0) T.clK mS GS hr bS .nil pass0 (pa_cons (pv 5) (pa_cons (pe_op op_catA (pv 2) (pe_tup (pa_cons (pv 4) pa_nil))) (pa_cons (pv 3) pa_nil)))))))
    (pss_one (ps_ret (pv 3))), ?_⟩
  have hl := atAll_len hB
  have hb8 : B.length ≤ 8 := Nat.le_trans (len_le_cnt B) (by omega)
  refine ⟨_, rfl, t, xs, rfl, SqT.of ht, for_enumT (xs := xs) (fun i σ H2 => ∃ v4 v5 : Option V, σ = [some (.ref c), some (.ref t), some (.ref u), some (.int (heldAll (B.take i) h)), v4, v5] ∧ i ≤ B.length ∧ CkE CK H2 c dd (W ++ walkAll (B.take i) p 0) ∧ Kp dd H H2) ?_ ?_ ?_ ?_⟩
  · exact ⟨none, none, by rw [List.take_zero, heldAll]; rfl, Nat.zero_le _, by rw [List.take_zero, walkAll, List.append_nil]; exact C, Kp.refl _ _⟩
  · rintro i σ H2 _ ⟨v4, v5, rfl, _, C2, k2⟩
    obtain ⟨_, kvs, hk, _⟩ := C
    exact SqT.of (k2.tkD hk _ _ ht)
  · rintro i x Tp σ H2 hx ⟨v4, v5, rfl, hi, C2, k2⟩ hT
    obtain ⟨_, kvs, hk, _⟩ := id C
    have tk := k2.tkD hk
    have lt : i < B.length := by have := (List.getElem?_eq_some_iff.mp hx).1; omega
    have hs : B[i]? = some B[i] := List.getElem?_eq_getElem lt
    obtain ⟨v, hv, sv⟩ := atAll_get hB hs
    have exv : x = v := Option.some.inj (hx.symm.trans hv)
    subst exv
    have s1 := same_new hT (.tup [.int (i : Nat), x])
    have et : B.take (i + 1) = B.take i ++ [B[i]] := by rw [List.take_add_one, hs]; rfl
    have okB : okAll d (B.take i) h ∧ B[i].ok d (heldAll (B.take i) h) := by
      have z : B = B.take i ++ (B[i] :: B.drop (i + 1)) := by rw [← List.drop_eq_getElem_cons lt, List.take_append_drop]
      have app : ∀ (X Y : List Stm) (h : Int), okAll d (X ++ Y) h → okAll d X h ∧ okAll d Y (heldAll X h) := by
        intro X
        induction X with
        | nil => intro Y h g; exact ⟨by rw [okAll]; trivial, by rw [heldAll]; exact g⟩
        | cons a r ih =>
          intro Y h g
          have g' : okAll d (a :: (r ++ Y)) h := g
          rw [okAll] at g'
          obtain ⟨g1, g2⟩ := ih Y _ g'.2
          exact ⟨by rw [okAll]; exact ⟨g'.1, g1⟩, by rw [heldAll]; exact g2⟩
      rw [z] at ok
      obtain ⟨o1, o2⟩ := app _ _ _ ok
      rw [okAll] at o2
      exact ⟨o1, o2.1⟩
    refine ⟨Tp, _, rfl, SqT.of upd_same, rfl, _, _, rfl, _, _, rfl, rfl, ?_⟩
    obtain ⟨⟨dx, hc⟩, _⟩ := C2.keep s1
    refine ⟨_, rfl, c, dx, _, rfl, hc, rfl, _, rfl, _, rfl, _, rfl, (by show 1 ≤ sizeLine; decide), ?_⟩
    refine fun t2 ht2 => cat_one (p := p) (j := (i : Nat)) (s1 _ _ (tk _ _ hu)) (by omega) (fun y H3 hy s3 => ?_) t2 ht2
    have s13 := s1.trans s3
    have cn : cntAll (B.take i) + B[i].cnt ≤ cntAll B := by
      have z : B = B.take i ++ (B[i] :: B.drop (i + 1)) := by rw [← List.drop_eq_getElem_cons lt, List.take_append_drop]
      have z2 := congrArg cntAll z
      rw [cntAll_app, cntAll] at z2
      omega
    refine ⟨_, rfl, c, dd, y, x, _, B[i], d, p ++ [((i : Nat) : Int)], _, rfl, hd3, hd2, C2.keep s13, Stm.at_keep (tk.trans (TK.of_same s13)) _ _ sv, hy, by rw [List.length_append, hp]; rfl, okB.2, ?_, ?_, fun H4 C4 k4 => ?_⟩
    · rw [List.length_append, walkAll_len]; omega
    · intro q'
      have e : (p ++ [((i : Nat) : Int)]) ++ q' = p ++ ((i : Nat) : Int) :: q' := by simp
      rw [e, lk_app, hW, walkAll_lk]
      have z : nth (B.take i) (((i : Nat) : Int) - ((0 : Nat) : Int)) = none := by
        unfold nth
        rw [if_pos (by omega), List.getElem?_eq_none (by rw [List.length_take]; omega)]
      rw [z]; rfl
    · refine ⟨some (.int (i : Nat)), some x, ?_, lt, ?_, (k2.trans (Kp.of_same s13)).trans k4⟩
      · rw [et, heldAll_snoc]; rfl
      · rw [et, walkAll_snoc]
        have e : 0 + (B.take i).length = i := by rw [List.length_take]; omega
        rw [e, ← List.append_assoc]
        exact C4
  · rintro σ H2 ⟨v4, v5, rfl, hi, C2, k2⟩
    rw [hl, List.take_length] at C2
    refine ⟨_, rfl, ?_⟩
    rw [hl, List.take_length]
    exact q H2 C2 k2
theorem wd_lv (w : Wd) : inV (V.str w.s) [V.str "commit", V.str "rollback", V.str "leave"] = decide (w = .commit ∨ w = .rollback ∨ w = .leave) := by cases w <;> decide +kernel
theorem lk_lv (b : Bool) : inV (V.str (lockS b)) [V.str "commit", V.str "rollback", V.str "leave"] = false := by cases b <;> decide +kernel
def heldS (z : Str) (h : Int) : Int := if z = "take" then h + 1 else if inV (V.str z) [V.str "commit", V.str "rollback", V.str "leave"] = true then 0 else h
theorem heldS_wd (w : Wd) (h : Int) : heldS w.s h = w.held h := by
  unfold heldS
  rw [wd_lv]
  cases w <;> first | rfl | (rw [if_neg (by decide +kernel)]; rfl)
theorem heldS_lk (b : Bool) (h : Int) : heldS (lockS b) h = h := by
  unfold heldS
  rw [lk_lv]
  cases b <;> (rw [if_neg (by decide +kernel)]; rfl)
def spHeld : Sp := fun vs H Q _ => ∃ (z : Str) (h : Int), vs = [.str z, .int h] ∧ ∀ H', Same H H' → Q (.int (heldS z h)) H'
theorem scHA : FnScope ["word", "held"] ["word", "held"] (defScope sHeld) := ⟨rfl, rfl, rfl, by decide +kernel, rfl, by decide +kernel, by decide +kernel⟩
theorem ok_held {f : Addr} {fd : FuncData} (F : Fun K "held_after" "held_after" sHeld f fd) : FnOk P w K mg base CX0 1 f fd ["word", "held"] spHeld := by
  refine F.ok scHA (fun vs H Q E h => ?_) (fun cdv A outer s H vs Q E hr h => ?_)
  · obtain ⟨z, h, rfl, _⟩ := h
    rfl
  obtain ⟨z, h, rfl, q⟩ := h
  refine ⟨_, pss_cons (ps_if (pt_cmpR op_eq (pv 0) pe_str (nomark _)) (pss_one (ps_ret (pe_op op_add (pv 1) pe_int))) pss_nil)
    (pss_one (ps_ret (pe_ifExp (pt_cmpR op_in_seq (pv 0) (pe_tup (pa_cons pe_str (pa_cons pe_str (pa_cons pe_str pa_nil)))) (by rfl)) pe_int (pv 1)))), ?_⟩
  refine ⟨_, rfl, rfl, _, rfl, ?_⟩
  by_cases ct : z = "take"
  · subst ct
    exact iteTb (decide_eq_true rfl) ⟨_, rfl, _, _, rfl, rfl, by have := q H (Same.refl H); rwa [show heldS "take" h = h + 1 from rfl] at this⟩
  · refine iteFb (decide_eq_false (fun e => ct (V.str.inj e))) ?_
    refine ⟨_, rfl, (by show 3 ≤ sizeLine; decide), fun t htn => ⟨t, _, rfl, .inr (SqT.of upd_same), rfl, rfl, _, rfl, ?_⟩⟩
    have fin := q _ (same_new htn (.tup [.str "commit", .str "rollback", .str "leave"]))
    unfold heldS at fin
    rw [if_neg ct] at fin
    show if (inV (V.str z) [V.str "commit", V.str "rollback", V.str "leave"]) = true then _ else _
    by_cases c : inV (V.str z) [V.str "commit", V.str "rollback", V.str "leave"] = true
    · rw [if_pos c] at fin
      exact iteTb c fin
    · rw [if_neg c] at fin
      exact iteFb (by simpa using c) ⟨_, rfl, fin⟩
theorem scKS : FnScope ["self", "statement", "place", "held", "why", "yes", "no"] psKS (defScope sKSt) := ⟨rfl, rfl, rfl, by decide +kernel, rfl, by decide +kernel, by decide +kernel⟩
theorem ok_kst {m n : Nat} {f fB fF fH : Addr} {fd fdB fdF fdH : FuncData} (hn : 2 ≤ n) (F : Fun K "check_statement" "Check.check_statement" sKSt f fd) (B : Bl mg) (T : Txt K w mg CS CK it) (GB : FnOk P w K mg base CX0 n fB fdB psKB (spKB CK m)) (bB : Binds K fdB psKB []) (mB : Meth K CK "check_branch" fB)
    (GF : FnOk P w K mg base CX0 2 fF fdF ["statement", "place", "earlier", "held"] spFault) (bF : Binds K fdF ["statement", "place", "earlier", "held"] []) (kF : PySem.W.keepIn K (.ref fF) = true) (mF : mg "fault_of" = some (.ref fF))
    (GH : FnOk P w K mg base CX0 1 fH fdH ["word", "held"] spHeld) (bH : Binds K fdH ["word", "held"] []) (kH : PySem.W.keepIn K (.ref fH) = true) (mH : mg "held_after" = some (.ref fH)) :
    FnOk P w K mg base CX0 (n + 1) f fd psKS (spKS CK (m + 1)) := by
  refine F.ok scKS (fun vs H Q E h => ?_) (fun cdv A outer s H vs Q E hr h => ?_)
  · obtain ⟨c, dd, u, v, h, s, d, p, W, rfl, _⟩ := h
    rfl
  obtain ⟨c, dd, u, v, h, s, d, p, W, rfl, hd3, hd2, C, hs, hu, hp, ok, hn8, hW, q⟩ := h
  have hu' := hu_of hr
  have hr2 : Room 2 _ := hr.mono hn
  have hr1 : Room 1 _ := hr2.mono (by decide)
  refine ⟨_, pss_cons (ps_set (i := 4) scKS.nd rfl (Or.inl rfl) (pe_call GF hr2 rfl mF kF bF .nil pass0 (pa_cons (pv 1) (pa_cons (pv 2) (pa_cons (pe_callB call_len_dT (by rfl) B.len PySem.boot_len (pa_cons (pe_fld (pv 0) rfl) pa_nil)) (pa_cons (pv 3) pa_nil))))))
    (pss_cons (ps_if (pt_cmpR op_notN (pv 4) pe_non (nomark _)) (pss_one ps_never) pss_nil)
    (pss_cons (ps_dput hu' (pe_fld (pv 0) rfl) (pv 2) (pv 1) rfl)
    (pss_cons (ps_if (pt_cmpR op_eq (pe_ix ix_tup (pv 1) pe_int (fun _ _ => rfl)) pe_str (nomark _))
      (pss_cons (ps_set (i := 5) scKS.nd rfl (Or.inl rfl) (pe_meth (pv 0) T.clK mB GB hr bB .nil pass0 (pa_cons (pe_ix ix_tup (pv 1) pe_int (fun _ _ => rfl)) (pa_cons (pe_op op_catA (pv 2) (pe_tup (pa_cons pe_int pa_nil))) (pa_cons (pv 3) pa_nil)))))
      (pss_cons (ps_set (i := 6) scKS.nd rfl (Or.inl rfl) (pe_meth (pv 0) T.clK mB GB hr bB .nil pass0 (pa_cons (pe_ix ix_tup (pv 1) pe_int (fun _ _ => rfl)) (pa_cons (pe_op op_catA (pv 2) (pe_tup (pa_cons pe_int pa_nil))) (pa_cons (pv 3) pa_nil)))))
      (pss_one (ps_ret (pe_callB (call_max2 rfl) (by rfl) B.max (by decide +kernel) (pa_cons (pv 5) (pa_cons (pv 6) pa_nil))))))) pss_nil)
    (pss_one (ps_ret (pe_call GH hr1 rfl mH kH bH .nil pass0 (pa_cons (pe_ix ix_tup (pv 1) pe_int (fun _ _ => rfl)) (pa_cons (pv 3) pa_nil)))))))), ?_⟩
  obtain ⟨⟨dx, hc⟩, kvs, hk, fr⟩ := id C
  have wl := fr.len
  have sp := cnt_pos s
  refine ⟨_, rfl, _, rfl, _, rfl, c, CK, dx, _, _, rfl, hc, T.clK, T.kF, rfl, dd, kvs, rfl, hk, _, rfl, v, u, _, h, s, d, _, rfl, hs, hu, by rw [List.length_map]; exact hp, by omega, ok, fun H1 s1 => ?_⟩
  refine ⟨_, rfl, rfl, _, rfl, iteF ?_⟩
  have ekv : (key p).map kV = p.map V.int := key_kV p
  have nodd : c ≠ dd := ne_of (s1 _ _ hc) (s1 _ _ hk) (by intro z; cases z)
  refine ⟨_, rfl, _, rfl, c, CK, dx, _, _, rfl, s1 _ _ hc, T.clK, T.kF, rfl, _, rfl, dd, _, rfl, DPut.t (k := key p) (s1 _ _ hk) (by rw [ekv]; exact s1 _ _ hu) (small1000 (by omega)), ?_⟩
  have non : valV kvs (key p) = none := (fr.val p).1 (by have := hW []; rwa [List.append_nil] at this)
  rw [putK_new _ non]
  have k2 : Kp dd H (L2.upd H1 dd (.dT (kvs ++ [(key p, v)]))) := (Kp.of_same s1).trans Kp.upd
  have tk2 : TK H (L2.upd H1 dd (.dT (kvs ++ [(key p, v)]))) := k2.tkD hk
  have C2 : CkE CK (L2.upd H1 dd (.dT (kvs ++ [(key p, v)]))) c dd (W ++ [(p, s)]) := ⟨⟨dx, by rw [upd_ne nodd]; exact s1 _ _ hc⟩, _, upd_same, FRel.snoc (Stm.at_keep tk2 _ _ hs) (fr.keep tk2)⟩
  generalize L2.upd H1 dd (.dT (kvs ++ [(key p, v)])) = H2 at k2 tk2 C2 ⊢
  have hs2 := Stm.at_keep tk2 _ _ hs
  have hu2 := tk2 _ _ hu
  cases s with
  | one wd =>
    rw [Stm.at] at hs2
    obtain ⟨a, rfl, ha⟩ := hs2
    have ew : (Stm.one wd).walk p = [(p, .one wd)] := by rw [Stm.walk]
    have eh : (Stm.one wd).held h = wd.held h := by rw [Stm.held]
    rw [ew, eh] at q
    refine ⟨_, rfl, a, _, _, _, rfl, rfl, SqT.of ha, rfl, ?_⟩
    refine ⟨rfl, _, rfl, iteFb (wd_ne wd) ?_⟩
    refine ⟨_, rfl, a, _, _, _, rfl, rfl, SqT.of ha, rfl, _, rfl, _, _, rfl, fun H3 s3 => ?_⟩
    rw [heldS_wd]
    exact q _ (C2.keep s3) (k2.trans (Kp.of_same s3))
  | nam b z =>
    rw [Stm.at] at hs2
    obtain ⟨a, rfl, ha⟩ := hs2
    have ew : (Stm.nam b z).walk p = [(p, .nam b z)] := by rw [Stm.walk]
    have eh : (Stm.nam b z).held h = h := by rw [Stm.held]
    rw [ew, eh] at q
    refine ⟨_, rfl, a, _, _, _, rfl, rfl, SqT.of ha, rfl, ?_⟩
    refine ⟨rfl, _, rfl, iteFb (lk_ne b) ?_⟩
    refine ⟨_, rfl, a, _, _, _, rfl, rfl, SqT.of ha, rfl, _, rfl, _, _, rfl, fun H3 s3 => ?_⟩
    rw [heldS_lk]
    exact q _ (C2.keep s3) (k2.trans (Kp.of_same s3))
  | ch y n' =>
    rw [Stm.at] at hs2
    obtain ⟨a, b1, b2, xs, ys, rfl, ha, hb1, aty, hb2, atn⟩ := hs2
    have ew : (Stm.ch y n').walk p = (p, .ch y n') :: (walkAll y (p ++ [0]) 0 ++ walkAll n' (p ++ [1]) 0) := by rw [Stm.walk]
    have eh : (Stm.ch y n').held h = max (heldAll y h) (heldAll n' h) := by rw [Stm.held]
    have ec : (Stm.ch y n').cnt = 1 + cntAll y + cntAll n' := by rw [Stm.cnt]
    rw [ew, eh] at q
    rw [ec] at hn8
    rw [Stm.ok] at ok
    refine ⟨_, rfl, a, _, _, _, rfl, rfl, SqT.of ha, rfl, ?_⟩
    refine ⟨rfl, _, rfl, iteTb (by decide +kernel) ?_⟩
    obtain ⟨dx2, hc2⟩ := C2.1
    have kvd : ∃ kv2, H2 dd = some (.dT kv2) := let ⟨_, x, y, _⟩ := C2; ⟨x, y⟩
    obtain ⟨kv2, hk2⟩ := kvd
    refine ⟨_, rfl, c, dx2, _, rfl, hc2, rfl, _, rfl, a, _, _, _, rfl, rfl, SqT.of ha, rfl, _, rfl, (by show 1 ≤ sizeLine; decide), ?_⟩
    refine fun t2 ht2 => cat_one (p := p) (j := 0) hu2 (by omega) (fun y1 H3 hy1 s3 => ?_) t2 ht2
    have tk3 := TK.of_same s3
    refine ⟨_, rfl, c, dd, b1, y1, xs, h, y, d + 1, p ++ [0], W ++ [(p, .ch y n')], rfl, by omega, by omega, C2.keep s3, s3 _ _ hb1, atAll_keep tk3 _ _ aty, hy1, by rw [List.length_append, hp]; show 2 * d + 1 + 1 = _; omega, ok.2.1, by rw [List.length_append]; show W.length + 1 + cntAll y ≤ 8; omega, ?_, fun H4 C4 k4 => ?_⟩
    · intro j q'
      have e : (p ++ [(0 : Int)]) ++ j :: q' = p ++ ((0 : Int) :: j :: q') := by simp
      rw [lk_app, e, hW, lk, if_neg (fun z => by have := congrArg List.length z; simp at this), lk]; rfl
    have tk4 : TK H3 H4 := k4.tkD (s3 _ _ hk2)
    have tk34 := tk3.trans tk4
    obtain ⟨dx4, hc4⟩ := C4.1
    refine ⟨_, rfl, c, dx4, _, rfl, hc4, rfl, _, rfl, a, _, _, _, rfl, rfl, SqT.of (tk34 _ _ ha), rfl, _, rfl, (by show 1 ≤ sizeLine; decide), ?_⟩
    refine fun t5 ht5 => cat_one (p := p) (j := 1) (tk34 _ _ hu2) (by omega) (fun y2 H5 hy2 s5 => ?_) t5 ht5
    have tk5 := tk34.trans (TK.of_same s5)
    refine ⟨_, rfl, c, dd, b2, y2, ys, h, n', d + 1, p ++ [1], _, rfl, by omega, by omega, C4.keep s5, tk5 _ _ hb2, atAll_keep tk5 _ _ atn, hy2, by rw [List.length_append, hp]; show 2 * d + 1 + 1 = _; omega, ok.2.2, by rw [List.length_append, List.length_append, walkAll_len]; show W.length + 1 + cntAll y + cntAll n' ≤ 8; omega, ?_, fun H6 C6 k6 => ?_⟩
    · intro j q'
      have e : (p ++ [(1 : Int)]) ++ j :: q' = p ++ ((1 : Int) :: j :: q') := by simp
      have z := walkAll_none y (p ++ [0]) 0 (p ++ ((1 : Int) :: j :: q')) (fun j' q'' => pre_ne (by decide) _)
      rw [lk_app, lk_app, e, z, hW, lk, if_neg (fun z => by have := congrArg List.length z; simp at this), lk]; rfl
    refine ⟨_, rfl, _, rfl, _, _, rfl, ?_⟩
    show Q (.int (if heldAll n' h > heldAll y h then heldAll n' h else heldAll y h)) H6
    rw [max_if]
    refine q H6 ?_ ((((k2.trans (Kp.of_same s3)).trans k4).trans (Kp.of_same s5)).trans k6)
    have e : W ++ (p, Stm.ch y n') :: (walkAll y (p ++ [0]) 0 ++ walkAll n' (p ++ [1]) 0) = W ++ [(p, .ch y n')] ++ walkAll y (p ++ [0]) 0 ++ walkAll n' (p ++ [1]) 0 := by simp
    rw [e]
    exact C6
end
end Tk
set_option maxRecDepth 100000
namespace Tk
open PySem L2
/-! ## a Script -/
theorem k1 : ¬ (("statements" : Str) = "found") := by decide +kernel
theorem k2' : ¬ (("statements" : Str) = "places") := by decide +kernel
theorem k3 : ¬ (("found" : Str) = "places") := by decide +kernel
def flds (t dd pl : Addr) : List (Str × V) := [("statements", .ref t), ("found", .ref dd), ("places", .ref pl)]
theorem flds_put (t dd pl : Addr) : putF "places" (.ref pl) (putF "found" (.ref dd) (putF "statements" (.ref t) [])) = flds t dd pl := by
  simp only [putF, if_neg k1, if_neg k2', if_neg k3]
  rfl
theorem flds_st (t dd pl : Addr) : (flds t dd pl).lookup ("statements" : Str) = some (.ref t) := by
  rw [← flds_put, lookup_putF, if_neg (by decide +kernel), lookup_putF, if_neg (by decide +kernel), lookup_putF, if_pos rfl]
theorem flds_fo (t dd pl : Addr) : (flds t dd pl).lookup ("found" : Str) = some (.ref dd) := by
  rw [← flds_put, lookup_putF, if_neg (by decide +kernel), lookup_putF, if_pos rfl]
theorem flds_pl (t dd pl : Addr) : (flds t dd pl).lookup ("places" : Str) = some (.ref pl) := by
  rw [← flds_put, lookup_putF, if_pos rfl]
theorem flds_no (t dd pl : Addr) {m : Str} (h1 : ¬ m = "statements") (h2 : ¬ m = "found") (h3 : ¬ m = "places") : (flds t dd pl).lookup m = none := by
  rw [← flds_put, lookup_putF, if_neg h3, lookup_putF, if_neg h2, lookup_putF, if_neg h1]; rfl
/-- x is the Script of the statements S, which stand at t -/
structure Sc (CS : Addr) (H : Hp) (x t : Addr) (S : List Stm) : Prop where
  ex : ∃ dx dd pl bs kvs xs, H x = some (.ins CS dx (flds t dd pl)) ∧ H t = some (.tup xs) ∧ atAll H xs S ∧ H dd = some (.dT kvs) ∧ FRel H kvs (walkAll S [] 0) ∧ H pl = some (.tup (bs.map V.ref)) ∧ IsKeys H kvs bs
  ne : S ≠ []
  ok : okAll 0 S 0
  few : cntAll S ≤ 8
theorem keys_keep {H H' : Hp} {kvs : List (List Key × V)} {bs : List Addr} (k : TK H H') (h : IsKeys H kvs bs) : IsKeys H' kvs bs := by
  unfold IsKeys at h ⊢
  exact L2.Paired.mapP h fun a b q => k _ _ q
theorem Sc.keep {CS : Addr} {H H' : Hp} {x t : Addr} {S : List Stm} (h : Sc CS H x t S) (s : Same H H') : Sc CS H' x t S := by
  obtain ⟨⟨dx, dd, pl, bs, kvs, xs, h1, h2, h3, h4, h5, h6, h7⟩, a, b, c⟩ := h
  have tk := TK.of_same s
  exact ⟨⟨dx, dd, pl, bs, kvs, xs, s _ _ h1, s _ _ h2, atAll_keep tk _ _ h3, s _ _ h4, h5.keep tk, s _ _ h6, keys_keep tk h7⟩, a, b, c⟩
theorem Sc.kp {CS p : Addr} {H H' : Hp} {x t : Addr} {S : List Stm} {ys : List V} (h : Sc CS H x t S) (s : Kp p H H') (hp : H p = some (.lst ys)) : Sc CS H' x t S := by
  obtain ⟨⟨dx, dd, pl, bs, kvs, xs, h1, h2, h3, h4, h5, h6, h7⟩, a, b, c⟩ := h
  have tk := s.tk hp
  exact ⟨⟨dx, dd, pl, bs, kvs, xs, s _ _ h1 (ne_of h1 hp (by intro z; cases z)), tk _ _ h2, atAll_keep tk _ _ h3, s _ _ h4 (ne_of h4 hp (by intro z; cases z)), h5.keep tk, tk _ _ h6, keys_keep tk h7⟩, a, b, c⟩
/-- values by their kinds -/
inductive Kd (H : Hp) : V → String → Prop
  | non : Kd H .non "NoneType"
  | bl (b : Bool) : Kd H (.bl b) "bool"
  | int (i : Int) : Kd H (.int i) "int"
  | str (z : Str) : Kd H (.str z) "str"
  | lst {a : Addr} {xs : List V} (e : H a = some (.lst xs)) : Kd H (.ref a) "list"
  | tup {a : Addr} {xs : List V} (e : H a = some (.tup xs)) : Kd H (.ref a) "tuple"
  | dK {a : Addr} {kvs : List (Key × V)} (e : H a = some (.dK kvs)) : Kd H (.ref a) "dict"
theorem Kd.ty {K : PySem.W.Frag} {H : Hp} {v : V} {T : String} (k : Kd H v T) : TyX K H v (.type T) := by
  cases k with
  | non => exact .base .non
  | bl b => exact .base (.bl b)
  | int i => exact .base (.int i)
  | str z => exact .base (.str z)
  | lst e => exact .base (.lst e)
  | tup e => exact .base (.tup e)
  | dK e => exact .base (.dK e)
theorem Kd.keep {H H' : Hp} {v : V} {T : String} (s : Same H H') (k : Kd H v T) : Kd H' v T := by
  cases k with
  | non => exact .non
  | bl b => exact .bl b
  | int i => exact .int i
  | str z => exact .str z
  | lst e => exact .lst (s _ _ e)
  | tup e => exact .tup (s _ _ e)
  | dK e => exact .dK (s _ _ e)
def intB : V → Bool
  | .int _ => true
  | _ => false
theorem Kd.intB {H : Hp} {v : V} {T : String} (k : Kd H v T) : ∃ b1 b2, kitB T "int" = some b1 ∧ kitB T "bool" = some b2 ∧ (b1 && !b2) = Tk.intB v := by
  cases k with
  | non => exact ⟨false, false, by decide +kernel, by decide +kernel, rfl⟩
  | bl b => exact ⟨true, true, by decide +kernel, by decide +kernel, rfl⟩
  | int i => exact ⟨true, false, by decide +kernel, by decide +kernel, rfl⟩
  | str z => exact ⟨false, false, by decide +kernel, by decide +kernel, rfl⟩
  | lst e => exact ⟨false, false, by decide +kernel, by decide +kernel, rfl⟩
  | tup e => exact ⟨false, false, by decide +kernel, by decide +kernel, rfl⟩
  | dK e => exact ⟨false, false, by decide +kernel, by decide +kernel, rfl⟩
def spSInit (CS : Addr) : Sp := fun vs H Q _ => ∃ (x t dx : Addr) (xs : List V) (S : List Stm), vs = [.ref x, .ref t] ∧ H x = some (.ins CS dx []) ∧ H t = some (.tup xs) ∧ atAll H xs S ∧ S ≠ [] ∧ okAll 0 S 0 ∧ cntAll S ≤ 8 ∧
  ∀ H', Sc CS H' x t S → Kp x H H' → Q .non H'
def spHas (CS : Addr) : Sp := fun vs H Q _ => ∃ (x t : Addr) (v : V) (S : List Stm), vs = [.ref x, v] ∧ Sc CS H x t S ∧
  ((∃ T, Kd H v T ∧ kitB T "tuple" = some false ∧ Q (.bl false) H) ∨
   ∃ (u : Addr) (xs : List V), v = .ref u ∧ H u = some (.tup xs) ∧ xs.length ≤ 100 ∧ (∀ y ∈ xs, ∃ T, Kd H y T) ∧ (xs.all intB = false → ∀ H', Same H H' → Q (.bl false) H') ∧ (∀ p, xs = p.map V.int → ∀ H', Same H H' → Q (.bl (look S p).isSome) H'))
/-- a place that is there -/
def spGet (CS : Addr) : Sp := fun vs H Q _ => ∃ (x t u : Addr) (S : List Stm) (p : Pl) (s : Stm), vs = [.ref x, .ref u] ∧ Sc CS H x t S ∧ H u = some (.tup (p.map V.int)) ∧ p.length ≤ 100 ∧ look S p = some s ∧
  ∀ (v : V) (H' : Hp), Same H H' → s.at H' v → Q v H'
def spSLen (CS : Addr) : Sp := fun vs H Q _ => ∃ (x t : Addr) (S : List Stm), vs = [.ref x] ∧ Sc CS H x t S ∧ Q (.int (cntAll S : Nat)) H
section
variable {P : Program} {w : World} {K : PySem.W.Frag} {mg : Str → Option Value} {base : Heap} {CS CK it : Addr}
theorem scSI : FnScope ["self", "statements", "check"] ["self", "statements"] (defScope sSInit) := ⟨rfl, rfl, rfl, by decide +kernel, rfl, by decide +kernel, by decide +kernel⟩
theorem ok_sinit {f fI fB : Addr} {fd fdI fdB : FuncData} (F : Fun K "__init__" "Script.__init__" sSInit f fd) (B : Bl mg) (T : Txt K w mg CS CK it) (M : Mk K CK fI) (GI : FnOk P w K mg base CX0 1 fI fdI ["self"] (spKInit CK)) (bI : Binds K fdI ["self"] [])
    (GB : FnOk P w K mg base CX0 8 fB fdB psKB (spKB CK 3)) (bB : Binds K fdB psKB []) (mB : Meth K CK "check_branch" fB) : FnOk P w K mg base CX0 9 f fd ["self", "statements"] (spSInit CS) := by
  refine F.ok scSI (fun vs H Q E h => ?_) (fun cdv A outer s H vs Q E hr h => ?_)
  · obtain ⟨x, t, dx, xs, S, rfl, _⟩ := h
    rfl
  obtain ⟨x, t, dx, xs, S, rfl, hx, ht, hS, ne, ok, few, q⟩ := h
  have hr2 : Room 2 _ := hr.mono (by decide)
  refine ⟨_, pss_cons (ps_if (pt_not (pt_val (pe_callB call_isi (by rfl) T.isi (by decide +kernel) (pa_cons (pv 1) (pa_cons (pe_bltn (v := .ty "tuple") (by rfl) B.tuple (by decide +kernel) rfl) pa_nil))))) (pss_one ps_never) pss_nil)
    (pss_cons (ps_if (pt_not (pt_truth (pv 1) (by intro _; rfl))) (pss_one ps_never) pss_nil)
    (pss_cons (ps_set (i := 2) scSI.nd rfl (Or.inl rfl) (pe_make0 M GI hr2 rfl T.mgK bI .nil pass0))
    (pss_cons (ps_expr (pe_meth (pv 2) T.clK mB GB hr bB .nil pass0 (pa_cons (pv 1) (pa_cons (pe_tup pa_nil) (pa_cons pe_int pa_nil)))))
    (pss_cons (ps_fld (pv 0) (pv 1) rfl)
    (pss_cons (ps_fld (pv 0) (pe_fld (pv 2) rfl) rfl)
    (pss_one (ps_fld (pv 0) (pe_callTy call_tuple_of (by rfl) B.tuple (by decide +kernel) (pa_cons (pe_callTy (call_list_dT rfl) (by rfl) T.list (by decide +kernel) (pa_cons (pe_fld (pv 0) rfl) pa_nil)) pa_nil)) rfl))))))), ?_⟩
  refine ⟨_, rfl, _, _, _, _, true, rfl, .ty "tuple", .base (.tup ht), kit_ty (by decide +kernel), true, rfl, iteF ?_⟩
  have nx : xs.isEmpty = false := by
    have hl := atAll_len hS
    cases xs with
    | nil => exact absurd (List.length_eq_zero_iff.mp hl.symm) ne
    | cons _ _ => rfl
  refine ⟨_, rfl, true, .inr (.inl ⟨_, SqT.of ht, by rw [nx]; rfl⟩), iteF ?_⟩
  intro c dc nc ndc ndcc
  refine ⟨c, dc, rfl, upd_same, fun dd H1 hdd C k1 => ⟨rfl, ?_⟩⟩
  have s0 : Same H (L2.upd (L2.upd H dc (.own c)) c (.ins CK dc [])) := fun b o e => by
    rw [upd_ne (ne_of_none e nc), upd_ne (ne_of_none e ndc)]; exact e
  have s1 : Same H H1 := fun b o e => k1 b o (s0 b o e) (ne_of_none e nc)
  have hdd0 : H dd = none := s0.free hdd
  obtain ⟨⟨dxc, hc1⟩, kvs0, hk0, _⟩ := id C
  refine ⟨_, rfl, c, dxc, _, rfl, hc1, rfl, _, rfl, (by show 0 ≤ sizeLine; decide), fun e he => ?_⟩
  have s2 := s1.trans (same_new he (.tup []))
  have s12 := same_new he (.tup [])
  refine ⟨c, dd, t, e, xs, 0, S, 0, [], [], rfl, rfl, by decide, C.keep s12, s2 _ _ ht, atAll_keep (TK.of_same s2) _ _ hS, upd_same, rfl, ok, by show 0 + cntAll S ≤ 8; omega, fun j q' => rfl, fun H3 C3 k3 => ?_⟩
  have k03 : Kp dd H H3 := (Kp.of_same s2).trans k3
  have s3 : Same H H3 := fun b o e => k03 b o e (ne_of_none e hdd0)
  obtain ⟨⟨dx3, hc3⟩, kvs, hk3, fr3⟩ := C3
  have nxc : x ≠ c := ne_of_none hx nc
  have nxd : x ≠ dd := ne_of_none hx hdd0
  refine ⟨_, rfl, _, rfl, x, CS, dx, [], rfl, s3 _ _ hx, T.clS, T.nS, (by show 0 < 1000; decide), ?_⟩
  refine ⟨_, rfl, c, CK, dx3, _, _, rfl, by rw [upd_ne nxc.symm]; exact hc3, T.clK, T.kF, rfl, _, rfl, x, CS, dx, _, rfl, upd_same, T.clS, T.nF, (by show 1 < 1000; decide), ?_⟩
  have hk5 : ∀ o1 o2, (L2.upd (L2.upd H3 x o1) x o2) dd = some (.dT kvs) := fun o1 o2 => by rw [upd_ne nxd.symm, upd_ne nxd.symm]; exact hk3
  refine ⟨_, rfl, x, CS, dx, _, _, rfl, upd_same, T.clS, T.nF, (by rw [lookup_putF, if_pos rfl]), dd, kvs, rfl, .inl (hk5 _ _), fun l bs hl hkeys => ?_⟩
  refine ⟨l, _, rfl, .inl ⟨SqL.of upd_same, fun pl hpl => ?_⟩⟩
  have nxl : x ≠ l := ne_of_none upd_same hl
  have nxp : x ≠ pl := ne_of_none (H := L2.upd (L2.upd (L2.upd H3 x _) x _) l _) (by rw [upd_ne nxl]; exact upd_same) hpl
  refine ⟨_, rfl, x, CS, dx, _, rfl, by rw [upd_ne nxp, upd_ne nxl]; exact upd_same, T.clS, T.nP, (by show 2 < 1000; decide), ?_⟩
  rw [flds_put]
  have kx : Kp x H3 (L2.upd (L2.upd (L2.upd (L2.upd (L2.upd H3 x (.ins CS dx (putF "statements" (.ref t) []))) x (.ins CS dx (putF "found" (.ref dd) (putF "statements" (.ref t) [])))) l (.lst (bs.map V.ref))) pl (.tup (bs.map V.ref))) x (.ins CS dx (flds t dd pl))) := by
    intro b o e nb
    have eb : (L2.upd (L2.upd H3 x (.ins CS dx (putF "statements" (.ref t) []))) x (.ins CS dx (putF "found" (.ref dd) (putF "statements" (.ref t) [])))) b = some o := by rw [upd_ne nb, upd_ne nb]; exact e
    have el : (L2.upd (L2.upd (L2.upd H3 x (.ins CS dx (putF "statements" (.ref t) []))) x (.ins CS dx (putF "found" (.ref dd) (putF "statements" (.ref t) [])))) l (.lst (bs.map V.ref))) b = some o := by rw [upd_ne (ne_of_none eb hl)]; exact eb
    rw [upd_ne nb, upd_ne (ne_of_none el hpl)]
    exact el
  have tkx : TK H3 _ := fun b ys e => kx b _ e (ne_of e (s3 _ _ hx) (by intro z; cases z))
  refine q _ ⟨⟨dx, dd, pl, bs, kvs, xs, upd_same, tkx _ _ (s3 _ _ ht), atAll_keep (TK.trans (TK.of_same s3) tkx) _ _ hS, kx _ _ hk3 nxd.symm, FRel.keep tkx fr3, ?_, ?_⟩, ne, ok, few⟩ ((Kp.of_same s3).trans kx)
  · rw [upd_ne nxp.symm, upd_same]
  · refine L2.Paired.mapP hkeys fun a b e => ?_
    have nbx : b ≠ x := fun z => by rw [z, upd_same] at e; cases e
    rw [upd_ne nbx, upd_ne nbx] at e
    exact kx b _ e nbx
theorem keys_len {H : Hp} : ∀ {kvs : List (List Key × V)} {bs : List Addr}, IsKeys H kvs bs → kvs.length = bs.length
  | _, _, h => PySem.Paired.length h
theorem scSL : FnScope ["self"] ["self"] (defScope sSLen) := ⟨rfl, rfl, rfl, by decide +kernel, rfl, by decide +kernel, by decide +kernel⟩
theorem ok_slen {f : Addr} {fd : FuncData} (F : Fun K "__len__" "Script.__len__" sSLen f fd) (B : Bl mg) (T : Txt K w mg CS CK it) : FnOk P w K mg base CX0 1 f fd ["self"] (spSLen CS) := by
  refine F.ok scSL (fun vs H Q E h => ?_) (fun cdv A outer s H vs Q E hr h => ?_)
  · obtain ⟨x, t, S, rfl, _⟩ := h
    rfl
  obtain ⟨x, t, S, rfl, ⟨⟨dx, dd, pl, bs, kvs, xs, h1, h2, h3, h4, h5, h6, h7⟩, _⟩, q⟩ := h
  refine ⟨_, pss_one (ps_ret (pe_callB call_len_seq (by rfl) B.len PySem.boot_len (pa_cons (pe_fld (pv 0) rfl) pa_nil))), ?_⟩
  have e : (((bs.map V.ref).length : Nat) : Int) = ((cntAll S : Nat) : Int) := by
    rw [List.length_map, ← keys_len h7, h5.len, walkAll_len]
  refine ⟨_, rfl, x, CS, dx, _, _, rfl, h1, T.clS, T.nP, flds_pl _ _ _, pl, _, rfl, .inr (SqT.of h6), ?_⟩
  rw [e]
  exact q
theorem all_ints : ∀ {xs : List V}, xs.all intB = true → ∃ p : Pl, xs = p.map V.int
  | [], _ => ⟨[], rfl⟩
  | x :: r, h => by
    rw [List.all_cons, Bool.and_eq_true] at h
    obtain ⟨p, e⟩ := all_ints h.2
    match x, h.1 with
    | .int i, _ => exact ⟨i :: p, by rw [e]; rfl⟩
theorem Sc.val {H : Hp} {x t : Addr} {S : List Stm} {p : Pl} {kvs : List (List Key × V)} (h5 : FRel H kvs (walkAll S [] 0)) : (look S p = none → valV kvs (key p) = none) ∧ (∀ s, look S p = some s → ∃ v, valV kvs (key p) = some v ∧ s.at H v) := by
  have z := h5.val p
  rw [look_lk] at z
  exact z
theorem scSH : FnScope ["self", "place", "item"] ["self", "place"] (defScope sSHas) := ⟨rfl, rfl, rfl, by decide +kernel, rfl, by decide +kernel, by decide +kernel⟩
theorem ok_shas {f fI : Addr} {fd fdI : FuncData} (F : Fun K "__contains__" "Script.__contains__" sSHas f fd) (B : Bl mg) (T : Txt K w mg CS CK it)
    (GI : FnOk P w K mg base CX0 1 fI fdI ["value"] (spIsInt K)) (bI : Binds K fdI ["value"] []) (kI : PySem.W.keepIn K (.ref fI) = true) (mI : mg "is_integer" = some (.ref fI)) : FnOk P w K mg base CX0 2 f fd ["self", "place"] (spHas CS) := by
  refine F.ok scSH (fun vs H Q E h => ?_) (fun cdv A outer s H vs Q E hr h => ?_)
  · obtain ⟨x, t, v, S, rfl, _⟩ := h
    rfl
  obtain ⟨x, t, v, S, rfl, C, hv⟩ := h
  have hu' := hu_of hr
  refine ⟨_, pss_cons (ps_if (PW.pt (pw_or (pt_not (pt_val (pe_callB call_isi (by rfl) T.isi (by decide +kernel) (pa_cons (pv 1) (pa_cons (pe_bltn (v := .ty "tuple") (by rfl) B.tuple (by decide +kernel) rfl) pa_nil)))))
      (pw_or1 (pt_not (pt_val (pe_callB (cr_all rfl) (by rfl) T.all (by decide +kernel) (pa_cons
        (pe_lc (own := [("item", 2)]) (g := gName 2) (tt := tYes) rfl scSH.nd (pi_tup (pv 1)) (blkOk_by (own := [("item", 2)]) (N := ["self", "place", "item"]) (sc := defScope sSHas) (by decide +kernel))
          (fun _ _ _ _ _ => pg_name (i := 2) scSH.nd rfl (Or.inl rfl)) (fun _ _ _ _ _ => pts_nil)
          (fun _ _ _ _ _ => pe_call GI hr rfl mI kI bI .nil pass0 (pa_cons (pv 2) pa_nil))) pa_nil))))))) (pss_one (ps_ret pe_bl)) pss_nil)
    (pss_one (ps_ret (pe_cmp (pc_din hu' (pv 1) (pe_fld (pv 0) rfl)) rfl))), ?_⟩
  rcases hv with ⟨T', kd, kt, q⟩ | ⟨u, xs, rfl, hu, h100, kds, q1, q2⟩
  · exact ⟨_, rfl, _, _, _, _, false, rfl, .ty "tuple", kd.ty, kit_ty kt, false, rfl, iteT (iteT q)⟩
  · refine ⟨_, rfl, _, _, _, _, true, rfl, .ty "tuple", .base (.tup hu), kit_ty (by decide +kernel), true, rfl, iteF ?_⟩
    refine ⟨_, rfl, u, rfl, ⟨_, SqT.of hu⟩, fun D hD => ?_⟩
    refine lc_tup (K := K) (a := u) (xs := xs) (fun i H7 => H7 D = some (.lst (((xs.take i).map intB).map V.bl)) ∧ Same H H7) ⟨upd_same, same_new hD _⟩ (fun i H7 _ z => SqT.of (z.2 _ _ hu)) ?_ ?_
    · rintro i y H7 hy ⟨h1, h2⟩
      refine ⟨rfl, ?_⟩
      unfold tYes
      dsimp only
      rw [if_pos rfl]
      obtain ⟨T', kd⟩ := kds y (List.mem_of_getElem? hy)
      obtain ⟨b1, b2, e1, e2, e3⟩ := kd.intB
      have lt : i < xs.length := (List.getElem?_eq_some_iff.mp hy).1
      refine ⟨_, rfl, y, T', b1, b2, rfl, (kd.keep h2).ty, e1, e2, _, h1, small1000 (by simp; omega), ?_, ?_⟩
      · rw [upd_same, List.take_add_one, hy, e3]
        simp
      · intro b o e
        rw [upd_ne (ne_of_none e hD)]
        exact h2 b o e
    · rintro H7 ⟨h1, h2⟩
      refine ⟨D, _, rfl, SqL.of h1, ?_⟩
      rw [List.take_length]
      have ea : (xs.map intB).all id = xs.all intB := by rw [List.all_map]; rfl
      rw [ea]
      cases ec : xs.all intB with
      | false => exact ⟨_, rfl, iteT (q1 ec H7 h2)⟩
      | true =>
        obtain ⟨p, rfl⟩ := all_ints ec
        obtain ⟨⟨dx, dd, pl, bs, kvs, ys, g1, g2, g3, g4, g5, g6, g7⟩, _⟩ := C.keep h2
        have z := Sc.val (x := x) (t := t) (p := p) g5
        have hg : DGet H7 dd (.ref u) (valV kvs (key p)) := DGet.t g4 (by rw [key_kV]; exact h2 _ _ hu)
        refine ⟨_, rfl, iteF ⟨_, rfl, _, rfl, x, CS, dx, _, _, rfl, g1, T.clS, T.nF, flds_fo _ _ _, dd, _, rfl, hg, ?_⟩⟩
        have e : (valV kvs (key p)).isSome = (look S p).isSome := by
          cases el : look S p with
          | none => rw [z.1 el]; rfl
          | some s =>
            obtain ⟨v, ev, _⟩ := z.2 s el
            rw [ev]; rfl
        rw [e]
        exact q2 p rfl H7 h2
theorem scSG : FnScope ["self", "place"] ["self", "place"] (defScope sSGet) := ⟨rfl, rfl, rfl, by decide +kernel, rfl, by decide +kernel, by decide +kernel⟩
theorem ok_sget {f fH : Addr} {fd fdH : FuncData} (F : Fun K "__getitem__" "Script.__getitem__" sSGet f fd) (T : Txt K w mg CS CK it)
    (GH : FnOk P w K mg base CX0 2 fH fdH ["self", "place"] (spHas CS)) (bH : Binds K fdH ["self", "place"] []) (mH : OwnM K CS "__contains__" fH) : FnOk P w K mg base CX0 3 f fd ["self", "place"] (spGet CS) := by
  refine F.ok scSG (fun vs H Q E h => ?_) (fun cdv A outer s H vs Q E hr h => ?_)
  · obtain ⟨x, t, u, S, p, s, rfl, _⟩ := h
    rfl
  obtain ⟨x, t, u, S, p, st, rfl, C, hu, h100, hl, q⟩ := h
  have hu' := hu_of hr
  refine ⟨_, pss_cons (ps_if (pt_cmpR (op_notInOwn mH GH hr bH pass0) (pv 1) (pv 0) (by rfl)) (pss_one ps_never) pss_nil)
    (pss_one (ps_ret (pe_dget hu' (pe_fld (pv 0) rfl) (pv 1) (fun _ _ => rfl)))), ?_⟩
  obtain ⟨⟨dx, dd, pl, bs, kvs, ys, g1, g2, g3, g4, g5, g6, g7⟩, _⟩ := id C
  refine ⟨_, rfl, _, rfl, x, dx, _, rfl, g1, x, t, .ref u, S, rfl, C, .inr ⟨u, _, rfl, hu, by rw [List.length_map]; exact h100, ?_, ?_, ?_⟩⟩
  · intro y hy
    obtain ⟨i, _, rfl⟩ := List.mem_map.mp hy
    exact ⟨_, .int i⟩
  · intro e
    have : (p.map V.int).all intB = true := by rw [List.all_map]; exact List.all_eq_true.mpr fun _ _ => rfl
    rw [this] at e; cases e
  · intro p' e H' s1
    have ep : p = p' := by
      have inj : ∀ {a b : Pl}, a.map V.int = b.map V.int → a = b := by
        intro a
        induction a with
        | nil => intro b e; cases b with
          | nil => rfl
          | cons _ _ => cases e
        | cons i r ih => intro b e; cases b with
          | nil => cases e
          | cons j r' =>
            rw [List.map_cons, List.map_cons] at e
            injection e with e1 e2
            injection e1 with e1
            rw [e1, ih e2]
      exact inj e
    subst ep
    rw [hl]
    refine ⟨true, rfl, _, rfl, iteF ?_⟩
    obtain ⟨⟨dx, dd, pl, bs, kvs, ys, g1, g2, g3, g4, g5, g6, g7⟩, _⟩ := C.keep s1
    obtain ⟨v, ev, hv⟩ := (Sc.val (x := x) (t := t) (p := p) g5).2 st hl
    have hg : DGet H' dd (.ref u) (valV kvs (key p)) := DGet.t g4 (by rw [key_kV]; exact s1 _ _ hu)
    rw [ev] at hg
    exact ⟨_, rfl, x, CS, dx, _, _, rfl, g1, T.clS, T.nF, flds_fo _ _ _, _, rfl, dd, v, rfl, hg, q v H' s1 hv⟩
end
end Tk
set_option maxRecDepth 100000
namespace L2
open PySem PySem.Spec PyProof.Rows
/-! ### a class's own methods, where an error may come out -/
section
variable {X : Cx} {CX : CXT} {k n : Nat} {C f : Addr} {fd : FuncData} {ps : List Str} {sp : Sp} {E : St → XK}
theorem tk_runS {A : Around} {pins : List (Addr × Obj)} {σ : St} {H : Hp} {s : Shared} {Q : VK} {us : List Value} {vs : List V} (sb : Sub X k A) (F : FnOk X.prog X.w X.K X.mg X.base CX k f fd ps sp) (hb : Binds X.K fd ps []) (hx : PassesAt CX X σ (E σ))
    (I : Inv X pins σ H s) (r : Vals vs us) (h : sp vs H Q (E σ)) : wpAny (model X.prog X.w) A (call (.ref f) us) (EP X pins σ Q) X.xe s := by
  have e := I.env0
  have e0 : Env0 X.prog X.w X.K X.mg X.base A X.stack s H := ⟨by rw [sb.fr]; exact e.frames, e.mod, e.bs, e.bsz, e.funs, e.frf, e.hok, e.bare⟩
  have hl : us.length = ps.length := r.length.symm.trans (F.len _ _ _ _ h)
  have bd := hb s us I.kIn (by simpa using hl)
  refine wpAny_call (codeAny_mono (F.run A X.stack s H ⟨us, []⟩ us vs Q (E σ) sb.room e0 (by simpa using bd) r h) fun res s' hq => ?_)
  match res, hq with
  | .error e, hq => exact hx pins H s e s' I hq
  | .ok (.ret u), hq => exact I.after hq
/-- o[i] by the class's own __getitem__, which may raise -/
def tIxS (C : Addr) (sp : Sp) (E : St → XK) (ta tb : TE) : TE := fun σ H Q => ta σ H fun x H1 => tb σ H1 fun y H2 => rOwn2 C sp (E σ) x y H2 Q
theorem ix_ownS {value slice : Expr} (M : OwnM X.K C "__getitem__" f) (hf : PySem.W.fnIn X.K f = true) (F : FnOk X.prog X.w X.K X.mg X.base CX k f fd ps sp) (hr : Room (k + 1) X.A) (hb : Binds X.K fd ps []) (hx : ∀ σ, PassesAt CX X σ (E σ))
    {a b : Expr} {ta tb : TE} {pos : Pos} (ha : PE X a ta) (hb2 : PE X b tb) (hs : ∀ o i, subscripted b true o i = runValue (.builtin "lifetime.subscript" ⟨[o, i], []⟩)) : PE X (.Subscript a b pos) (tIxS C sp E ta tb) := by
  refine ⟨fun pins s σ H Q I h => ?_⟩
  refine Subscript_ (binT ha hb2 I h fun v u s2 x y H2 I2 rx ry q => ?_)
  obtain ⟨p, dx, fs, rfl, hp, q⟩ := q
  obtain rfl : v = Value.ref p := rx
  obtain ⟨ox, od, J⟩ := ownInst I2 hp
  obtain ⟨m, hF⟩ := I2.fr
  refine PySem.W.sub_K hF I2.ok.mod.kin J M.at_ hf M.fn ?_ (hs _ _)
  exact tk_runS ⟨hr.in1, rfl⟩ F hb (hx σ) I2 (.cons (show RelV (.ref p) (.ref p) from rfl) (.cons ry .nil)) q
end
/-! ### an error class with one field -/
structure Ecl (K : PySem.W.Frag) (mg : Str → Option Value) (nm f : Str) (C fI : Addr) : Prop where
  gC : mg nm = some (.ref C)
  ox : OexC K C
  iC : PySem.W.findIn K (.ref C) "__init__" = some (some (.ref fI))
  tI : PySem.W.typeIn K (.ref fI) = some (.type "function")
  noF : PySem.W.findIn K (.ref C) f = some none
  xf : XfC K C
  cl : (PySem.W.clsIn K C).isSome = true
  ha : PySem.W.findIn K (.ref C) "__class__" = some (some (.builtin "object.__class__"))
  hn : PySem.W.specialIn K (.builtin "object.__class__") "__get__" = some (some (.builtin "getset_descriptor.__get__"))
  ht : PySem.W.takesIn K (.builtin "object.__class__") = some true
  hm : PySem.W.mroIn K C (.type "object") = some true
  te : PySem.W.exmOne K (.ref C) (.ref C) = some true
/-- what such an __init__ promises -/
def spEI (C : Addr) (f : Str) : Sp := fun vs H Q _ => ∃ (a : Addr) (v : V), vs = [.ref a, v] ∧ H a = some (exo a C none) ∧ ∀ dx, H dx = none → dx ≠ a → Q .non (upd (upd H dx (exd dx [(f, v)])) a (exo a C (some dx)))
/-- raise C(e) -/
theorem ps_raise1 {X : Cx} {W : WX} {nm f : Str} {C fI : Addr} {fd : FuncData} {ps : List Str} {e : Expr} {es : List Expr} {ta : TA} {p pos ppos : Pos} (hc : X.calm = true) (tk : Takes X W) (T : Ecl X.K X.mg nm f C fI) (F1 : FnOk X.prog X.w X.K X.mg X.base CX0 1 fI fd ps (spEI C f)) (hr : Room 2 X.A) (hb : Binds X.K fd ps [])
    (hg : Gl X nm) (ha : PA X (e :: es) ta) (hdb : (nm == ("__debug__" : Str)) = false := by decide) (he : starEach (e :: es) X.env = (false, eval e X.env) :: starEach es X.env := by rfl) (hpl : (backTo pos (starEach es X.env)).any (·.1) = false := by rfl) :
    PS X (.Raise (some (.Call (.Name nm p) (e :: es) [] pos)) none ppos) (fun _ σ H => tMkO C (spEI C f) [] ta σ H fun cls d H' => W cls d σ H') :=
  ps_raise (pos := ppos) hc tk (pmk_oex T.ox T.iC T.tI F1 hr hb .nil pass0 hg T.gC ha hdb he hpl)
theorem made1 {C : Addr} {f : Str} {v : V} {H1 : Hp} {Q : XK} (q : ∀ d, H1 d = none → Q (.ref C) (some d) (upd H1 d (.xd [(f, v)]))) : [v].length ≤ 1000 ∧ ∀ a, H1 a = none → spEI C f (.ref a :: ([v] ++ [])) (upd H1 a (exo a C none))
    (fun v H2 => v = .non ∧ ∃ (d : Addr) (fs : List (Str × V)), H2 a = some (exo a C (some d)) ∧ H2 d = some (exd d fs) ∧ H1 d = none ∧ Q (.ref C) (some d) (upd (del H2 a) d (.xd fs))) (fun _ _ _ => False) := by
  refine ⟨(by show 1 ≤ 1000; decide), fun a ha => ⟨a, v, rfl, upd_same, fun dx hd ne => ⟨rfl, dx, _, upd_same, by rw [upd_ne ne, upd_same], by rw [upd_ne ne] at hd; exact hd, ?_⟩⟩⟩
  have hd' : H1 dx = none := by rw [upd_ne ne] at hd; exact hd
  have e : upd (del (upd (upd (upd H1 a (exo a C none)) dx (exd dx [(f, v)])) a (exo a C (some dx))) a) dx (.xd [(f, v)]) = upd H1 dx (.xd [(f, v)]) := by
    funext b
    by_cases h1 : b = dx
    · rw [h1, upd_same, upd_same]
    · rw [upd_ne h1, upd_ne h1]
      by_cases h2 : b = a
      · rw [h2, del_same, ha]
      · rw [del_ne h2, upd_ne h2, upd_ne h1, upd_ne h2]
  rw [e]
  exact q dx hd'
/-- isinstance(e, c), e the caught error with its dict -/
def rIsX (K : PySem.W.Frag) (a : Addr) (cls : Value) (d : Option Addr) (D : Addr) : List V → Hp → VK → Prop := fun xs H Q => ∃ (c : V) (cv : Value) (b : Bool) (dd : Addr) (fs : List (Str × V)), cls = .ref D ∧ d = some dd ∧ H dd = some (.xd fs) ∧ xs = [.ref a, c] ∧ (∀ u, RelV c u → u = cv) ∧ PySem.W.kitOne K (.ref D) cv = some b ∧ Q (.bl b) H
theorem call_isX {X : Cx} {a D : Addr} {cls : Value} {d : Option Addr} {nm f : Str} {fI : Addr} {mg : Str → Option Value} {oe : Obj} {pn : List (Addr × Obj)} (T : Ecl X.K mg nm f D fI) (hz : Zc cls d oe) (hf : ∃ vs, oe.data = .fields vs) :
    CallR (X.suite a ((a, oe) :: pn)) (.builtin "isinstance") (rIsX X.K a cls d D) := by
  rintro pins s σ H xs us Q I r ⟨c, cv, b, dd, fs, rfl, rfl, ea, rfl, hcv, e, q⟩
  obtain ⟨u1, u2, rfl, r1, r2⟩ : ∃ u1 u2, us = [u1, u2] ∧ RelV (.ref a) u1 ∧ RelV c u2 := by
    cases r with
    | cons p1 t1 => cases t1 with
      | cons p2 t2 => cases t2; exact ⟨_, _, rfl, p1, p2⟩
  obtain rfl : u1 = Value.ref a := r1
  rw [hcv u2 r2]
  have own := (I.pin (a, oe) (List.mem_append_left _ List.mem_cons_self)).1
  obtain ⟨vs, isF⟩ := hf
  obtain ⟨mA, named, _⟩ := show ObjOk X.prog X.w H s.heap dd (.xd fs) from I.hok dd _ ea
  obtain ⟨od, at_, _⟩ := lookIn_ns named
  have J : PySem.W.InstAt s.heap a oe D (some od) := by
    refine ⟨own, hz.1, ?_, by rw [hz.2]; exact at_⟩
    unfold PySem.W.notCls
    rw [isF] <;> rfl
  have kit := PySem.W.kitx_exc (x := a) (ox := oe) (od := some od) T.cl T.xf.ga T.xf.gg T.xf.exC T.ha T.hn T.ht T.hm
  exact PySem.W.kia_one kit I.kIn J e (fun z => nomatch z) fun tk => ⟨.bl b, H, I.kept (t' := tk) fun _ _ z => z, rfl, q⟩
/-- x == x, for data and for empty dicts -/
def Slf (K : PySem.W.Frag) (H : Hp) (v : V) : Prop := (∃ d, Dp K H v d ∧ SeqAt.shaped d = true ∧ PyData.eqv d d = true) ∨ ∃ a, v = .ref a ∧ H a = some (.dK [])
def rSlf (K : PySem.W.Frag) : R2 := fun x y H Q => x = y ∧ Slf K H x ∧ Q (.bl true) H
theorem op_slf {X : Cx} (hu : X.A.units + 64 < cLine) : OpR X (compareOp .Eq) (rSlf X.K) := by
  intro pins s σ H x y v u Q I rx ry h
  obtain ⟨rfl, h, q⟩ := h
  rcases h with ⟨d, h1, h2, h3⟩ | ⟨a, rfl, h⟩
  · exact op_eqD hu pins s σ H x x v u Q I rx ry ⟨d, d, h1, h1, h2, h2, by rw [h3]; exact q⟩
  · exact op_eqV hu pins s σ H _ _ v u Q I rx ry ⟨1, by decide, .inr ⟨a, a, [], [], rfl, rfl, h, h, rfl, fun p hp => nomatch hp⟩, q⟩
end L2
namespace Tk
open PySem L2
/-- what is no place of the script S -/
def NoPl (H : Hp) (S : List Stm) (v : V) : Prop := (∃ T, Kd H v T ∧ kitB T "tuple" = some false) ∨ ∃ u xs, v = .ref u ∧ H u = some (.tup xs) ∧ xs.length ≤ 100 ∧ (∀ y ∈ xs, ∃ T, Kd H y T) ∧ ∀ p, xs = p.map V.int → look S p = none
theorem NoPl.keep {H H' : Hp} {S : List Stm} {v : V} (s : Same H H') (h : NoPl H S v) : NoPl H' S v := by
  rcases h with ⟨T, k, e⟩ | ⟨u, xs, rfl, h1, h2, h3, h4⟩
  · exact .inl ⟨T, k.keep s, e⟩
  · exact .inr ⟨u, xs, rfl, s _ _ h1, h2, fun y hy => (h3 y hy).imp fun _ k => k.keep s, h4⟩
/-- script[place], there or not -/
def spGetX (CS CN : Addr) : Sp := fun vs H Q E => ∃ (x t : Addr) (v : V) (S : List Stm), vs = [.ref x, v] ∧ Sc CS H x t S ∧
  ((∃ (u : Addr) (p : Pl) (s : Stm), v = .ref u ∧ H u = some (.tup (p.map V.int)) ∧ p.length ≤ 100 ∧ look S p = some s ∧ ∀ (w : V) (H' : Hp), Same H H' → s.at H' w → Q w H') ∨
   (NoPl H S v ∧ ∀ (d : Addr) (H' : Hp), Same H H' → H d = none → H' d = some (.xd [("place", v)]) → E (.ref CN) (some d) H'))
abbrev sNPInit : Stmt := inClass (top 4) 0
section
variable {P : Program} {w : World} {K : PySem.W.Frag} {mg : Str → Option Value} {base : Heap} {CS CK it CN : Addr}
theorem scNP : FnScope ["self", "place"] ["self", "place"] (defScope sNPInit) := ⟨rfl, rfl, rfl, by decide +kernel, rfl, by decide +kernel, by decide +kernel⟩
theorem ok_npi {f : Addr} {fd : FuncData} (F : Fun K "__init__" "NoPlace.__init__" sNPInit f fd) (T : Ecl K mg "NoPlace" "place" CN f) : FnOk P w K mg base CX0 1 f fd ["self", "place"] (spEI CN "place") := by
  refine F.ok scNP (fun vs H Q E h => ?_) (fun cdv A outer s H vs Q E hr h => ?_)
  · obtain ⟨a, v, rfl, _⟩ := h
    rfl
  obtain ⟨a, v, rfl, ha, q⟩ := h
  refine ⟨_, pss_one (ps_ost (pv 0) (pv 1) rfl), ?_⟩
  exact ⟨_, rfl, _, rfl, a, CN, rfl, T.ox, T.noF, .inl ⟨ha, fun dx h1 h2 => q dx h1 h2⟩⟩
theorem map_int_inj : ∀ {a b : Pl}, a.map V.int = b.map V.int → a = b
  | [], [], _ => rfl
  | [], _ :: _, e => by cases e
  | _ :: _, [], e => by cases e
  | i :: r, j :: r', e => by
    rw [List.map_cons, List.map_cons] at e
    injection e with e1 e2
    injection e1 with e1
    rw [e1, map_int_inj e2]
theorem ok_sgetX {f fH fI : Addr} {fd fdH fdI : FuncData} (F : Fun K "__getitem__" "Script.__getitem__" sSGet f fd) (T : Txt K w mg CS CK it) (TN : Ecl K mg "NoPlace" "place" CN fI)
    (GI : FnOk P w K mg base CX0 1 fI fdI ["self", "place"] (spEI CN "place")) (bI : Binds K fdI ["self", "place"] [])
    (GH : FnOk P w K mg base CX0 2 fH fdH ["self", "place"] (spHas CS)) (bH : Binds K fdH ["self", "place"] []) (mH : OwnM K CS "__contains__" fH) : FnOk P w K mg base (L2.CX P w) 3 f fd ["self", "place"] (spGetX CS CN) := by
  refine F.okX scSG (fun vs H Q E h => ?_) (fun cdv A outer s H vs Q E hr h => ?_)
  · obtain ⟨x, t, v, S, rfl, _⟩ := h
    rfl
  obtain ⟨x, t, v, S, rfl, C, hv⟩ := h
  have hu' := hu_of hr
  refine ⟨_, pss_cons (ps_if (pt_cmpR (op_notInOwn mH GH hr bH pass0) (pv 1) (pv 0) (by rfl)) (pss_one (ps_raise1 rfl (takes_of rfl rfl rfl rfl) TN GI hr bI rfl (pa_cons (pv 1) pa_nil))) pss_nil)
    (pss_one (ps_ret (pe_dget hu' (pe_fld (pv 0) rfl) (pv 1) (fun _ _ => rfl)))), ?_⟩
  have has : ∀ H', Same H H' → Sc CS H' x t S := fun H' s => C.keep s
  obtain ⟨⟨dx, dd, pl, bs, kvs, ys, g1, g2, g3, g4, g5, g6, g7⟩, _⟩ := id C
  refine ⟨_, rfl, _, rfl, x, dx, _, rfl, g1, x, t, v, S, rfl, C, ?_⟩
  rcases hv with ⟨u, p, st, rfl, hu, h100, hl, q⟩ | ⟨np, q⟩
  · refine .inr ⟨u, _, rfl, hu, by rw [List.length_map]; exact h100, ?_, ?_, ?_⟩
    · intro y hy
      obtain ⟨i, _, rfl⟩ := List.mem_map.mp hy
      exact ⟨_, .int i⟩
    · intro e
      have : (p.map V.int).all intB = true := by rw [List.all_map]; exact List.all_eq_true.mpr fun _ _ => rfl
      rw [this] at e; cases e
    · intro p' e H' s1
      have ep : p = p' := map_int_inj e
      subst ep
      rw [hl]
      refine ⟨true, rfl, _, rfl, iteF ?_⟩
      obtain ⟨⟨dx, dd, pl, bs, kvs, ys, g1, g2, g3, g4, g5, g6, g7⟩, _⟩ := C.keep s1
      obtain ⟨v, ev, hv⟩ := (Sc.val (x := x) (t := t) (p := p) g5).2 st hl
      have hg : DGet H' dd (.ref u) (valV kvs (key p)) := DGet.t g4 (by rw [key_kV]; exact s1 _ _ hu)
      rw [ev] at hg
      exact ⟨_, rfl, x, CS, dx, _, _, rfl, g1, T.clS, T.nF, flds_fo _ _ _, _, rfl, dd, v, rfl, hg, q v H' s1 hv⟩
  · rcases np with ⟨T', kd, e⟩ | ⟨u, xs, rfl, hu, h100, kds, no⟩
    · exact .inl ⟨T', kd, e, ⟨false, rfl, _, rfl, iteT ⟨_, rfl, made1 fun d hd => q d _ ((show Same H H from fun _ _ e => e).trans (same_new hd _)) ((show Same H H from fun _ _ e => e).free hd) upd_same⟩⟩⟩
    · refine .inr ⟨u, xs, rfl, hu, h100, kds, fun e H' s1 => ⟨false, rfl, _, rfl, iteT ⟨_, rfl, made1 fun d hd => q d _ (s1.trans (same_new hd _)) (s1.free hd) upd_same⟩⟩, fun p e H' s1 => ?_⟩
      rw [no p e]
      exact ⟨false, rfl, _, rfl, iteT ⟨_, rfl, made1 fun d hd => q d _ (s1.trans (same_new hd _)) (s1.free hd) upd_same⟩⟩
end
end Tk
set_option maxRecDepth 100000
namespace Tk
open PySem L2
/-! ## values of any kind that may stand for statements -/
inductive Dv
  | non
  | bl (b : Bool)
  | int (i : Int)
  | str (z : Str)
  | lst
  | dct
  | tup (ds : List Dv)
def words9 : List Str := ["take", "commit", "rollback", "drop", "leave", "lock", "unlock", "choose", "takes"]
mutual
def Dv.at : Hp → V → Dv → Prop
  | _, v, .non => v = .non
  | _, v, .bl b => v = .bl b
  | _, v, .int i => v = .int i
  | _, v, .str z => v = .str z ∧ z.length ≤ 100
  | H, v, .lst => ∃ a xs, v = .ref a ∧ H a = some (.lst xs)
  | H, v, .dct => ∃ a, v = .ref a ∧ H a = some (.dK [])
  | H, v, .tup ds => ∃ a xs, v = .ref a ∧ H a = some (.tup xs) ∧ ds.length ≤ 30 ∧ (∀ z r, ds = .str z :: r → z ∈ words9) ∧ atL H xs ds
def atL : Hp → List V → List Dv → Prop
  | _, xs, [] => xs = []
  | H, xs, d :: ds => ∃ v vs, xs = v :: vs ∧ d.at H v ∧ atL H vs ds
end
/-- kinds stay -/
structure VK (H H' : Hp) : Prop where
  tup : ∀ a xs, H a = some (.tup xs) → H' a = some (.tup xs)
  lst : ∀ a xs, H a = some (.lst xs) → ∃ ys, H' a = some (.lst ys)
  dct : ∀ a, H a = some (.dK []) → H' a = some (.dK [])
theorem VK.refl (H : Hp) : VK H H := ⟨fun _ _ e => e, fun _ _ e => ⟨_, e⟩, fun _ e => e⟩
theorem VK.trans {H H1 H2 : Hp} (x : VK H H1) (y : VK H1 H2) : VK H H2 := ⟨fun a xs e => y.tup _ _ (x.tup _ _ e), fun a xs e => let ⟨_, e1⟩ := x.lst _ _ e; y.lst _ _ e1, fun a e => y.dct _ (x.dct _ e)⟩
theorem VK.same {H H' : Hp} (s : Same H H') : VK H H' := ⟨fun _ _ e => s _ _ e, fun _ _ e => ⟨_, s _ _ e⟩, fun _ e => s _ _ e⟩
theorem VK.kl {p : Addr} {H H' : Hp} {xs ys : List V} (k : Kp p H H') (hp : H p = some (.lst xs)) (hp' : H' p = some (.lst ys)) : VK H H' := by
  refine ⟨fun a zs e => k _ _ e (ne_of e hp (by intro z; cases z)), fun a zs e => ?_, fun a e => k _ _ e (ne_of e hp (by intro z; cases z))⟩
  by_cases c : a = p
  · exact ⟨ys, c ▸ hp'⟩
  · exact ⟨zs, k _ _ e c⟩
theorem VK.kd {p : Addr} {H H' : Hp} {kvs : List (List Key × V)} (k : Kp p H H') (hp : H p = some (.dT kvs)) : VK H H' :=
  ⟨fun a zs e => k _ _ e (ne_of e hp (by intro z; cases z)), fun a zs e => ⟨_, k _ _ e (ne_of e hp (by intro z; cases z))⟩, fun a e => k _ _ e (ne_of e hp (by intro z; cases z))⟩
theorem VK.ki {p C dx : Addr} {fs : List (Str × V)} {H H' : Hp} (k : Kp p H H') (hp : H p = some (.ins C dx fs)) : VK H H' :=
  ⟨fun a zs e => k _ _ e (ne_of e hp (by intro z; cases z)), fun a zs e => ⟨_, k _ _ e (ne_of e hp (by intro z; cases z))⟩, fun a e => k _ _ e (ne_of e hp (by intro z; cases z))⟩
theorem VK.pool {p : Addr} {H H' : Hp} (k : Kp p H H') (hp : PoolAt H p) (hp' : PoolAt H' p) : VK H H' := by
  obtain ⟨_, _, _, e⟩ := hp
  obtain ⟨_, _, _, e'⟩ := hp'
  exact VK.kl k e e'
mutual
theorem Dv.keep {H H' : Hp} (k : VK H H') : ∀ (d : Dv) (v : V), d.at H v → d.at H' v
  | .non, v, h => by rw [Dv.at] at h ⊢; exact h
  | .bl b, v, h => by rw [Dv.at] at h ⊢; exact h
  | .int i, v, h => by rw [Dv.at] at h ⊢; exact h
  | .str z, v, h => by rw [Dv.at] at h ⊢; exact h
  | .lst, v, h => by
    rw [Dv.at] at h ⊢
    obtain ⟨a, xs, e, h⟩ := h
    obtain ⟨ys, h'⟩ := k.lst _ _ h
    exact ⟨a, ys, e, h'⟩
  | .dct, v, h => by
    rw [Dv.at] at h ⊢
    obtain ⟨a, e, h⟩ := h
    exact ⟨a, e, k.dct _ h⟩
  | .tup ds, v, h => by
    rw [Dv.at] at h ⊢
    obtain ⟨a, xs, e, h1, h2, h3, h4⟩ := h
    exact ⟨a, xs, e, k.tup _ _ h1, h2, h3, atL_keep k ds xs h4⟩
theorem atL_keep {H H' : Hp} (k : VK H H') : ∀ (ds : List Dv) (xs : List V), atL H xs ds → atL H' xs ds
  | [], xs, h => by rw [atL] at h ⊢; exact h
  | d :: r, xs, h => by
    rw [atL] at h ⊢
    obtain ⟨v, vs, e, h1, h2⟩ := h
    exact ⟨v, vs, e, Dv.keep k d v h1, atL_keep k r vs h2⟩
end
theorem atL_len {H : Hp} : ∀ {ds : List Dv} {xs : List V}, atL H xs ds → xs.length = ds.length
  | [], xs, h => by rw [atL] at h; rw [h]; rfl
  | d :: r, xs, h => by
    rw [atL] at h
    obtain ⟨v, vs, rfl, _, h2⟩ := h
    rw [List.length_cons, List.length_cons, atL_len h2]
theorem atL_get {H : Hp} : ∀ {ds : List Dv} {xs : List V} {i : Nat} {d : Dv}, atL H xs ds → ds[i]? = some d → ∃ v, xs[i]? = some v ∧ d.at H v
  | [], _, i, d, _, e => by cases e
  | a :: r, xs, i, d, h, e => by
    rw [atL] at h
    obtain ⟨v, vs, rfl, h1, h2⟩ := h
    cases i with
    | zero => exact ⟨v, rfl, (Option.some.inj e) ▸ h1⟩
    | succ i =>
      obtain ⟨w', a', b'⟩ := atL_get (i := i) h2 e
      exact ⟨w', a', b'⟩
theorem atL_app {H : Hp} : ∀ {ds es : List Dv} {xs ys : List V}, atL H xs ds → atL H ys es → atL H (xs ++ ys) (ds ++ es)
  | [], es, xs, ys, h1, h2 => by rw [atL] at h1; rw [h1]; exact h2
  | d :: r, es, xs, ys, h1, h2 => by
    rw [atL] at h1
    obtain ⟨v, vs, rfl, a, b⟩ := h1
    show atL H (v :: (vs ++ ys)) (d :: (r ++ es))
    rw [atL]
    exact ⟨v, _, rfl, a, atL_app b h2⟩
theorem atL_take {H : Hp} : ∀ {ds : List Dv} {xs : List V} (n : Nat), atL H xs ds → atL H (xs.take n) (ds.take n)
  | [], xs, n, h => by rw [atL] at h; rw [h, List.take_nil, List.take_nil, atL]
  | d :: r, xs, 0, h => by rw [List.take_zero, List.take_zero, atL]
  | d :: r, xs, n + 1, h => by
    rw [atL] at h
    obtain ⟨v, vs, rfl, a, b⟩ := h
    rw [List.take_succ_cons, List.take_succ_cons, atL]
    exact ⟨v, _, rfl, a, atL_take n b⟩
theorem atL_drop {H : Hp} : ∀ {ds : List Dv} {xs : List V} (n : Nat), atL H xs ds → atL H (xs.drop n) (ds.drop n)
  | [], xs, n, h => by rw [atL] at h; rw [h, List.drop_nil, List.drop_nil, atL]
  | d :: r, xs, 0, h => h
  | d :: r, xs, n + 1, h => by
    rw [atL] at h
    obtain ⟨v, vs, rfl, a, b⟩ := h
    exact atL_drop n b
theorem atL_one {H : Hp} {v : V} {d : Dv} (h : d.at H v) : atL H [v] [d] := by rw [atL]; exact ⟨v, [], rfl, h, by rw [atL]⟩
def isTup : Dv → Bool
  | .tup _ => true
  | _ => false
def isStr : Dv → Bool
  | .str _ => true
  | _ => false
theorem Dv.kd {H : Hp} {v : V} {d : Dv} (h : d.at H v) : ∃ T, Kd H v T ∧ kitB T "tuple" = some (isTup d) ∧ kitB T "str" = some (isStr d) := by
  cases d with
  | non => rw [Dv.at] at h; subst h; exact ⟨_, .non, (show kitB "NoneType" "tuple" = some false by decide +kernel), (show kitB "NoneType" "str" = some false by decide +kernel)⟩
  | bl b => rw [Dv.at] at h; subst h; exact ⟨_, .bl b, (show kitB "bool" "tuple" = some false by decide +kernel), (show kitB "bool" "str" = some false by decide +kernel)⟩
  | int i => rw [Dv.at] at h; subst h; exact ⟨_, .int i, (show kitB "int" "tuple" = some false by decide +kernel), (show kitB "int" "str" = some false by decide +kernel)⟩
  | str z => rw [Dv.at] at h; obtain ⟨rfl, _⟩ := h; exact ⟨_, .str z, (show kitB "str" "tuple" = some false by decide +kernel), (show kitB "str" "str" = some true by decide +kernel)⟩
  | lst => rw [Dv.at] at h; obtain ⟨a, xs, rfl, h⟩ := h; exact ⟨_, .lst h, (show kitB "list" "tuple" = some false by decide +kernel), (show kitB "list" "str" = some false by decide +kernel)⟩
  | dct => rw [Dv.at] at h; obtain ⟨a, rfl, h⟩ := h; exact ⟨_, .dK h, (show kitB "dict" "tuple" = some false by decide +kernel), (show kitB "dict" "str" = some false by decide +kernel)⟩
  | tup ds => rw [Dv.at] at h; obtain ⟨a, xs, rfl, h, _⟩ := h; exact ⟨_, .tup h, (show kitB "tuple" "tuple" = some true by decide +kernel), (show kitB "tuple" "str" = some false by decide +kernel)⟩
/-! ### what a value is as a statement -/
inductive Sh
  | bad
  | one (w : Wd)
  | nam (b : Bool) (x : Dv)
  | ch (y n : List Dv)
def wdOf (z : Str) : Option Wd := if z = "take" then some .take else if z = "commit" then some .commit else if z = "rollback" then some .rollback else if z = "drop" then some .drop else if z = "leave" then some .leave else none
def shape : Dv → Sh
  | .tup [.str z] => match wdOf z with
    | some w => .one w
    | none => .bad
  | .tup [.str z, x] => if z = "lock" then .nam true x else if z = "unlock" then .nam false x else .bad
  | .tup [.str z, .tup y, .tup n] => if z = "choose" then .ch y n else .bad
  | _ => .bad
def formB (v : Dv) : Bool := match shape v with
  | .bad => false
  | _ => true
def nameD : Dv → Bool
  | .str z => nameB z
  | _ => false
def faultD (n d : Nat) (h : Int) (v : Dv) : Option Str := if n = 8 then some "size" else match shape v with
  | .bad => some "form"
  | .one w => if w = .take ∧ h = 3 then some "full" else none
  | .nam _ x => if nameD x = true then none else some "name"
  | .ch _ _ => if d = 2 then some "nested" else none
abbrev Rs := Sum (Pl × Str) (Nat × Int)
def loopB (f : Dv → Pl → Nat → Int → Rs) : List Dv → Pl → Nat → Nat → Int → Rs
  | [], _, _, n, h => .inr (n, h)
  | v :: r, p, i, n, h => match f v (p ++ [(i : Int)]) n h with
    | .inl e => .inl e
    | .inr (n', h') => loopB f r p (i + 1) n' h'
def chkV (d : Nat) (f : List Dv → Pl → Nat → Int → Rs) (v : Dv) (p : Pl) (n : Nat) (h : Int) : Rs := match faultD n d h v with
  | some w => .inl (p, w)
  | none => match shape v with
    | .bad => .inr (n + 1, h)
    | .one w => .inr (n + 1, w.held h)
    | .nam _ _ => .inr (n + 1, h)
    | .ch y no => match f y (p ++ [0]) (n + 1) h with
      | .inl e => .inl e
      | .inr (n1, h1) => match f no (p ++ [1]) n1 h with
        | .inl e => .inl e
        | .inr (n2, h2) => .inr (n2, max h1 h2)
/-- the statements of a branch inside of 3 - m chooses -/
def chkB : Nat → List Dv → Pl → Nat → Int → Rs
  | 0 => fun _ _ n h => .inr (n, h)
  | m + 1 => fun B p n h => loopB (chkV (2 - m) (chkB m)) B p 0 n h
def dueD : Dv → Option (Pl × Str)
  | .tup [] => some ([], "size")
  | .tup ds => match chkB 3 ds [] 0 0 with
    | .inl e => some e
    | .inr _ => none
  | _ => some ([], "form")
/-- the shapes as they stand -/
theorem shape_one {v : Dv} {w : Wd} (h : shape v = .one w) : v = .tup [.str w.s] := by
  unfold shape at h
  split at h
  · rename_i z
    unfold wdOf at h
    by_cases c1 : z = "take"
    · rw [if_pos c1] at h; cases h; rw [c1]; rfl
    rw [if_neg c1] at h
    by_cases c2 : z = "commit"
    · rw [if_pos c2] at h; cases h; rw [c2]; rfl
    rw [if_neg c2] at h
    by_cases c3 : z = "rollback"
    · rw [if_pos c3] at h; cases h; rw [c3]; rfl
    rw [if_neg c3] at h
    by_cases c4 : z = "drop"
    · rw [if_pos c4] at h; cases h; rw [c4]; rfl
    rw [if_neg c4] at h
    by_cases c5 : z = "leave"
    · rw [if_pos c5] at h; cases h; rw [c5]; rfl
    · rw [if_neg c5] at h; cases h
  · split at h
    · cases h
    · split at h <;> cases h
  · split at h <;> cases h
  · cases h
theorem shape_nam {v : Dv} {b : Bool} {x : Dv} (h : shape v = .nam b x) : v = .tup [.str (lockS b), x] := by
  unfold shape at h
  split at h
  · split at h <;> cases h
  · split at h
    · rename_i c; cases h; rw [c]; rfl
    · split at h
      · rename_i c; cases h; rw [c]; rfl
      · cases h
  · split at h <;> cases h
  · cases h
theorem shape_ch {v : Dv} {y n : List Dv} (h : shape v = .ch y n) : v = .tup [.str "choose", .tup y, .tup n] := by
  unfold shape at h
  split at h
  · split at h <;> cases h
  · split at h
    · cases h
    · split at h <;> cases h
  · split at h
    · rename_i c; cases h; rw [c]
    · cases h
  · cases h
end Tk
set_option maxRecDepth 100000
namespace L2
open PySem PySem.Spec PyProof.Rows
/-! ### .get of a written dict, there or not -/
def tKGetN (K : PySem.W.Frag) (w : World) (td ty : TE) : TE := fun σ H Q => td σ H fun x H1 => ty σ H1 fun y H2 => ∃ a z, x = .ref a ∧ y = .str z ∧ ((∃ v, KG K w a z v ∧ Q v H2) ∨ (KMiss K w a z ∧ Q .non H2))
theorem pe_kgetN {X : Cx} {o e : Expr} {td ty : TE} {apos cpos : Pos} (ho : PE X o td) (he : PE X e ty) (hd : ∀ σ H Q, td σ H Q → td σ H fun x H1 => (∃ a oc es n, x = V.ref a ∧ X.K.lookup a = some oc ∧ oc = ⟨.type "dict", none, .dict es n, #[]⟩) ∧ Q x H1) (m : M1 X o "get" apos e cpos) :
    PE X (.Call (.Attribute o "get" apos) [e] [] cpos) (tKGetN X.K X.w td ty) := by
  refine ⟨fun pins s σ H Q I h => ?_⟩
  refine wpAny_Call_method m.base m.few m.line PySem.F.plainAttrs_dict PySem.F.slot_dict_get PySem.F.type_dict_get (thn (ho.run pins s σ H _ I (hd _ _ _ h)) fun u s1 q0 => ?_)
  obtain ⟨x, H1, I1, rx, ⟨a, oc, es, n, rfl, lk, rfl⟩, q1⟩ := q0
  obtain rfl : u = Value.ref a := rx
  have ga := I1.kIn _ _ lk
  refine ⟨⟨_, ga, rfl⟩, fun b q => by cases q; exact ⟨_, ga, rfl⟩, ?_⟩
  rw [m.trees]
  refine Calls.callWith_builtin rfl (Calls.evalArgs_plain (Calls.spliced_cons (thn (he.run pins s1 σ H1 _ I1 q1) fun iv s2 q2 => Calls.spliced_nil ?_)))
  obtain ⟨y, H2, I2, ry, a', z, ea, rfl, alt⟩ := q2
  cases ea
  obtain ⟨t, rfl⟩ := ry
  rcases alt with ⟨v, ⟨⟨es', n', u0, hl, hk, e1, ru⟩, hs⟩, q2⟩ | ⟨⟨es', n', hl, hk, hs, e1⟩, q2⟩
  · have mo := PySem.W.mapOf_K (prog := X.prog) (w := X.w) I2.kIn hl hk
    refine call_meetsIn PySem.F.slot_dict_get mo.typeIs PySem.F.entry_dict_get (PySem.F.args_dict_get_2 _ _) (meets_dict_get (strKind X.prog X.w) a (strKind_is X.prog X.w z t) hs) ⟨_, mo, ?_⟩
    rw [PySem.W.find_K hl e1]
    exact ⟨v, H2, I2.tok _, ru, q2⟩
  · have mo := PySem.W.mapOf_K (prog := X.prog) (w := X.w) I2.kIn hl hk
    refine call_meetsIn PySem.F.slot_dict_get mo.typeIs PySem.F.entry_dict_get (PySem.F.args_dict_get_2 _ _) (meets_dict_get (strKind X.prog X.w) a (strKind_is X.prog X.w z t) hs) ⟨_, mo, ?_⟩
    rw [PySem.W.find_K hl e1]
    exact ⟨.non, H2, I2.tok _, rfl, q2⟩
end L2
namespace Tk
open PySem L2
theorem form_len {z : Str} {r : List Dv} (h : formB (.tup (.str z :: r)) = true) : (z, ((r.length + 1 : Nat) : Int)) ∈ items8 := by
  unfold formB at h
  cases e : shape (.tup (.str z :: r)) with
  | bad => rw [e] at h; cases h
  | one w =>
    have := shape_one e
    injection this with this
    injection this with e1 e2
    injection e1 with e1
    subst e2; subst e1
    exact wd_it w
  | nam b x =>
    have := shape_nam e
    injection this with this
    injection this with e1 e2
    injection e1 with e1
    subst e2; subst e1
    exact lk_it b
  | ch y n =>
    have := shape_ch e
    injection this with this
    injection this with e1 e2
    injection e1 with e1
    subst e2; subst e1
    exact ch_it
theorem wdOf_s (w : Wd) : wdOf w.s = some w := by cases w <;> decide +kernel
theorem shape_one' (w : Wd) : shape (.tup [.str w.s]) = .one w := by
  show (match wdOf w.s with | some w => Sh.one w | none => .bad) = _
  rw [wdOf_s]
theorem shape_nam' (b : Bool) (x : Dv) : shape (.tup [.str (lockS b), x]) = .nam b x := by
  show (if lockS b = "lock" then Sh.nam true x else if lockS b = "unlock" then .nam false x else .bad) = _
  cases b with
  | true => exact if_pos (show lockS true = "lock" from rfl)
  | false => exact (if_neg (show ¬ lockS false = "lock" by decide +kernel)).trans (if_pos (show lockS false = "unlock" from rfl))
theorem shape_ch' (y n : List Dv) : shape (.tup [.str "choose", .tup y, .tup n]) = .ch y n := by
  show (if (("choose" : Str) = "choose") then Sh.ch y n else .bad) = _
  rw [if_pos rfl]
theorem form_ch (a b : Dv) : formB (.tup [.str "choose", a, b]) = (isTup a && isTup b) := by
  cases a <;> cases b <;> first | rfl | (unfold formB; rw [shape_ch']; rfl)
/-- a word is one of the eight, or takes -/
inductive W9 : Str → Prop
  | one (w : Wd) : W9 w.s
  | nam (b : Bool) : W9 (lockS b)
  | ch : W9 "choose"
  | no : W9 "takes"
theorem w9_of {z : Str} (h : z ∈ words9) : W9 z := by
  simp only [words9, List.mem_cons, List.not_mem_nil, or_false] at h
  rcases h with rfl | rfl | rfl | rfl | rfl | rfl | rfl | rfl | rfl
  · exact .one .take
  · exact .one .commit
  · exact .one .rollback
  · exact .one .drop
  · exact .one .leave
  · exact .nam true
  · exact .nam false
  · exact .ch
  · exact .no
theorem w9_alt {z : Str} (h : W9 z) : z = "takes" ∨ z = "choose" ∨ ∃ m : Int, (z, m) ∈ items8 ∧ decide (V.str z = V.str "choose") = false ∧ ∀ r : List Dv, ((r.length + 1 : Nat) : Int) = m → formB (.tup (.str z :: r)) = true := by
  cases h with
  | one wd =>
    refine .inr (.inr ⟨1, wd_it wd, wd_ne wd, fun r e => ?_⟩)
    have : r = [] := List.length_eq_zero_iff.mp (by omega)
    subst this
    unfold formB; rw [shape_one']
  | nam b =>
    refine .inr (.inr ⟨2, lk_it b, lk_ne b, fun r e => ?_⟩)
    match r, e with
    | [x], _ => unfold formB; rw [shape_nam']
    | [], e => exact absurd e (by decide)
    | _ :: _ :: _, e => simp at e; omega
  | no => exact .inl rfl
  | ch => exact .inr (.inl rfl)
theorem takes_no (n : Int) : ((("takes" : Str), n) ∈ items8) → False := by
  intro h
  simp only [items8, List.mem_cons, List.not_mem_nil, or_false, Prod.mk.injEq] at h
  rcases h with h | h | h | h | h | h | h | h <;> exact absurd h.1 (by decide +kernel)
theorem it_uniq {z : Str} {m n : Int} (h1 : (z, m) ∈ items8) (h2 : (z, n) ∈ items8) : m = n := by
  simp only [items8, List.mem_cons, List.not_mem_nil, or_false, Prod.mk.injEq] at h1 h2
  rcases h1 with ⟨rfl, rfl⟩ | ⟨rfl, rfl⟩ | ⟨rfl, rfl⟩ | ⟨rfl, rfl⟩ | ⟨rfl, rfl⟩ | ⟨rfl, rfl⟩ | ⟨rfl, rfl⟩ | ⟨rfl, rfl⟩ <;>
  rcases h2 with ⟨h, rfl⟩ | ⟨h, rfl⟩ | ⟨h, rfl⟩ | ⟨h, rfl⟩ | ⟨h, rfl⟩ | ⟨h, rfl⟩ | ⟨h, rfl⟩ | ⟨h, rfl⟩ <;> first | rfl | exact absurd h (by decide +kernel)
def spFormD : Sp := fun vs H Q _ => ∃ (v : V) (d : Dv), vs = [v] ∧ d.at H v ∧ Q (.bl (formB d)) H
def spNameD : Sp := fun vs H Q _ => ∃ (v : V) (d : Dv), vs = [v] ∧ d.at H v ∧ ∀ H', Same H H' → Q (.bl (nameD d)) H'
def spFaultD : Sp := fun vs H Q _ => ∃ (v : V) (u : Addr) (n : Nat) (h : Int) (x : Dv) (d : Nat) (p : List V), vs = [v, .ref u, .int (n : Nat), .int h] ∧ x.at H v ∧ H u = some (.tup p) ∧ p.length = 2 * d + 1 ∧
  ∀ H', Same H H' → Q (match faultD n d h x with | some z => .str z | none => .non) H'
section
variable {P : Program} {w : World} {K : PySem.W.Frag} {mg : Str → Option Value} {base : Heap} {CS CK it : Addr}
theorem ok_formD {f : Addr} {fd : FuncData} (F : Fun K "has_form" "has_form" sForm f fd) (B : Bl mg) (T : Txt K w mg CS CK it) (no : KMiss K w it "takes") : FnOk P w K mg base CX0 1 f fd ["statement"] spFormD := by
  refine F.ok scHF (fun vs H Q E h => ?_) (fun cdv A outer s H vs Q E hr h => ?_)
  · obtain ⟨v, s, rfl, _⟩ := h
    rfl
  obtain ⟨v, d, rfl, hd, q⟩ := h
  obtain ⟨es, n, lkI⟩ := T.lkI
  refine ⟨_, pss_cons (ps_if (PW.pt (pw_or (pt_not (pt_val (pe_callB call_isi (by rfl) T.isi (by decide +kernel) (pa_cons (pv 0) (pa_cons (pe_bltn (v := .ty "tuple") (by rfl) B.tuple (by decide +kernel) rfl) pa_nil)))))
      (pw_or1 (pt_not (pt_truth (pv 0) (by intro _; rfl)))))) (pss_one (ps_ret pe_bl)) pss_nil)
    (pss_cons (ps_set (i := 1) scHF.nd rfl (Or.inl rfl) (pe_ix ix_tup (pv 0) pe_int (fun _ _ => rfl)))
    (pss_cons (ps_if (PW.pt (pw_or (pt_not (pt_val (pe_callB call_isi (by rfl) T.isi (by decide +kernel) (pa_cons (pv 1) (pa_cons (pe_bltn (v := .ty "str") (by rfl) T.str (by decide +kernel) rfl) pa_nil)))))
      (pw_or1 (pt_cmpR op_ne (pe_callB call_len_seq (by rfl) B.len PySem.boot_len (pa_cons (pv 0) pa_nil)) (pe_kgetN (pe_glob (v := .ref it) (by rfl) T.mIt rfl) (pv 1) (fun σ H Q h => ⟨⟨it, _, es, n, rfl, lkI, rfl⟩, h⟩) ⟨rfl, rfl, rfl, rfl⟩) (nomark _))))) (pss_one (ps_ret pe_bl)) pss_nil)
    (pss_cons (ps_if (pt_cmpR op_eq (pv 1) pe_str (nomark _)) (pss_one (ps_ret (pe_and (pe_callB call_isi (by rfl) T.isi (by decide +kernel) (pa_cons (pe_ix ix_tup (pv 0) pe_int (fun _ _ => rfl)) (pa_cons (pe_bltn (v := .ty "tuple") (by rfl) B.tuple (by decide +kernel) rfl) pa_nil)))
        (pe_one (pe_callB call_isi (by rfl) T.isi (by decide +kernel) (pa_cons (pe_ix ix_tup (pv 0) pe_int (fun _ _ => rfl)) (pa_cons (pe_bltn (v := .ty "tuple") (by rfl) B.tuple (by decide +kernel) rfl) pa_nil))))))) pss_nil)
    (pss_one (ps_ret pe_bl))))), ?_⟩
  obtain ⟨T0, k0, e0, _⟩ := Dv.kd hd
  by_cases it0 : isTup d = true
  rotate_left
  · have it1 : isTup d = false := Bool.eq_false_iff.mpr it0
    rw [it1] at e0
    refine ⟨_, rfl, _, _, _, _, false, rfl, .ty "tuple", k0.ty, kit_ty e0, false, rfl, iteT ?_⟩
    have ef : formB d = false := by cases d <;> first | rfl | cases it1
    rw [ef] at q
    exact q
  rw [it0] at e0
  cases d with
  | tup ds =>
    rw [Dv.at] at hd
    obtain ⟨a, xs, rfl, ha, l30, hw, hs⟩ := hd
    refine ⟨_, rfl, _, _, _, _, true, rfl, .ty "tuple", .base (.tup ha), kit_ty (by decide +kernel), true, rfl, iteF ?_⟩
    cases ds with
    | nil =>
      rw [atL] at hs
      subst hs
      exact ⟨_, rfl, false, .inr (.inl ⟨_, SqT.of ha, rfl⟩), iteT q⟩
    | cons x r =>
      rw [atL] at hs
      obtain ⟨v0, vs, rfl, h0, hr0⟩ := hs
      have lr := atL_len hr0
      refine ⟨_, rfl, true, .inr (.inl ⟨_, SqT.of ha, rfl⟩), iteF ?_⟩
      refine ⟨_, rfl, a, _, _, _, rfl, rfl, SqT.of ha, (show atI (v0 :: vs) ((0 : Nat) : Int) = some v0 from atI_nat rfl), ?_⟩
      obtain ⟨T1, k1, _, e1⟩ := Dv.kd h0
      by_cases is0 : isStr x = true
      rotate_left
      · have is1 : isStr x = false := Bool.eq_false_iff.mpr is0
        rw [is1] at e1
        refine ⟨_, rfl, _, _, _, _, false, rfl, .ty "str", k1.ty, kit_ty e1, false, rfl, iteT ?_⟩
        have ef : formB (.tup (x :: r)) = false := by cases x <;> first | rfl | cases is1
        rw [ef] at q
        exact q
      cases x with
      | str z =>
        rw [Dv.at] at h0
        obtain ⟨rfl, z100⟩ := h0
        refine ⟨_, rfl, _, _, _, _, true, rfl, .ty "str", .base (.str _), kit_ty (by decide +kernel), true, rfl, iteF ?_⟩
        have w9 := w9_of (hw z r rfl)
        have len_ : (((V.str z :: vs).length : Nat) : Int) = ((r.length + 1 : Nat) : Int) := by rw [List.length_cons, lr]
        rcases w9_alt w9 with rfl | rfl | ⟨m, hm, hc, hf⟩
        · have ef : formB (.tup (.str "takes" :: r)) = false := Bool.eq_false_iff.mpr fun e => takes_no _ (form_len e)
          rw [ef] at q
          refine ⟨_, rfl, a, _, rfl, .inr (SqT.of ha), _, rfl, it, _, rfl, rfl, .inr ⟨no, rfl, _, rfl, ?_⟩⟩
          exact iteT q
        · refine ⟨_, rfl, a, _, rfl, .inr (SqT.of ha), _, rfl, it, _, rfl, rfl, .inl ⟨_, T.kg _ _ ch_it, rfl, _, rfl, ?_⟩⟩
          rw [len_]
          by_cases c : ((r.length + 1 : Nat) : Int) = 3
          rotate_left
          · have ef : formB (.tup (.str "choose" :: r)) = false := Bool.eq_false_iff.mpr fun e => c (it_uniq (form_len e) ch_it)
            rw [ef] at q
            rw [decide_eq_false (fun e => c (by injection e))]
            exact iteT q
          · refine iteNS (by rw [c]) ?_
            match r, c with
            | [x1, x2], _ =>
              rw [atL] at hr0
              obtain ⟨v1, vs1, rfl, h1, hr1⟩ := hr0
              rw [atL] at hr1
              obtain ⟨v2, vs2, rfl, h2, hr2⟩ := hr1
              rw [atL] at hr2
              subst hr2
              rw [form_ch] at q
              obtain ⟨Ta, ka, ea, _⟩ := Dv.kd h1
              obtain ⟨Tb, kb, eb, _⟩ := Dv.kd h2
              refine ⟨_, rfl, rfl, _, rfl, iteTb (by decide +kernel) ?_⟩
              refine ⟨_, rfl, a, _, _, _, rfl, rfl, SqT.of ha, rfl, _, _, _, _, isTup x1, rfl, .ty "tuple", ka.ty, kit_ty ea, _, rfl, ?_⟩
              cases c1 : isTup x1 with
              | false => rw [c1] at q; exact iteF q
              | true =>
                rw [c1, Bool.true_and] at q
                exact iteT ⟨_, rfl, a, _, _, _, rfl, rfl, SqT.of ha, rfl, _, _, _, _, isTup x2, rfl, .ty "tuple", kb.ty, kit_ty eb, q⟩
            | [], c => exact absurd c (by decide)
            | [_], c => simp at c
            | _ :: _ :: _ :: _, c => simp at c; omega
        · refine ⟨_, rfl, a, _, rfl, .inr (SqT.of ha), _, rfl, it, z, rfl, rfl, .inl ⟨_, T.kg _ _ hm, rfl, _, rfl, ?_⟩⟩
          rw [len_]
          by_cases c : ((r.length + 1 : Nat) : Int) = m
          · rw [hf r c] at q
            refine iteNS (by rw [c]) ?_
            exact ⟨_, rfl, rfl, _, rfl, iteFb hc q⟩
          · have ef : formB (.tup (.str z :: r)) = false := Bool.eq_false_iff.mpr fun e => c (it_uniq (form_len e) hm)
            rw [ef] at q
            rw [decide_eq_false (fun e => c (by injection e))]
            exact iteT q
      | _ => cases is0
  | _ => cases it0
end
end Tk
set_option maxRecDepth 100000
namespace Tk
open PySem L2
theorem fnok_or {P : Program} {w : World} {K : PySem.W.Frag} {mg : Str → Option Value} {base : Heap} {CX : CXT} {k : Nat} {f : Addr} {fd : FuncData} {ps : List Str} {sp1 sp2 sp3 : Sp} (F1 : FnOk P w K mg base CX k f fd ps sp1) (F2 : FnOk P w K mg base CX k f fd ps sp2)
    (h : ∀ vs H Q E, sp3 vs H Q E → sp1 vs H Q E ∨ sp2 vs H Q E) : FnOk P w K mg base CX k f fd ps sp3 :=
  ⟨fun vs H Q E z => (h vs H Q E z).elim (F1.len vs H Q E) (F2.len vs H Q E), fun A outer s H args us vs Q E a b c d z => (h vs H Q E z).elim (F1.run A outer s H args us vs Q E a b c d) (F2.run A outer s H args us vs Q E a b c d)⟩
def spNoStr : Sp := fun vs H Q _ => ∃ (v : V) (d : Dv), vs = [v] ∧ d.at H v ∧ isStr d = false ∧ Q (.bl false) H
section
variable {P : Program} {w : World} {K : PySem.W.Frag} {mg : Str → Option Value} {base : Heap} {CS CK it : Addr}
theorem ok_noStr {f : Addr} {fd : FuncData} (F : Fun K "is_name" "is_name" sIsName f fd) (B : Bl mg) (T : Txt K w mg CS CK it) : FnOk P w K mg base CX0 1 f fd ["value"] spNoStr := by
  refine F.ok scIN (fun vs H Q E h => ?_) (fun cdv A outer s H vs Q E hr h => ?_)
  · obtain ⟨z, d, rfl, _⟩ := h
    rfl
  obtain ⟨v, d, rfl, hd, hs, q⟩ := h
  obtain ⟨tl, gl⟩ := T.long
  refine ⟨_, pss_cons (ps_if (PW.pt (pw_or (pt_not (pt_val (pe_callB call_isi (by rfl) T.isi (by decide +kernel) (pa_cons (pv 0) (pa_cons (pe_bltn (v := .ty "str") (by rfl) T.str (by decide +kernel) rfl) pa_nil)))))
      (pw_or1 (pt_not (pt_chain op_le op_le pe_int (pe_callB call_len_str (by rfl) B.len PySem.boot_len (pa_cons (pv 0) pa_nil)) (pe_glob (v := .int 8) (by rfl) gl ⟨_, rfl⟩)))))) (pss_one (ps_ret pe_bl)) pss_nil)
    (pss_one (ps_ret (pe_callB (cr_all rfl) (by rfl) T.all (by decide +kernel) (pa_cons
      (pe_lc (own := [("letter", 1)]) (g := gName 1) (tt := tYes) rfl scIN.nd (pi_str (pv 0)) (blkOk_by (own := [("letter", 1)]) (N := ["value", "letter"]) (sc := defScope sIsName) (by decide +kernel))
        (fun _ _ _ _ _ => pg_name (i := 1) scIN.nd rfl (Or.inl rfl)) (fun _ _ _ _ _ => pts_nil)
        (fun _ _ _ _ _ => pe_chain op_le_str op_le_str pe_str (pv 1) pe_str)) pa_nil)))), ?_⟩
  obtain ⟨T0, k0, _, e0⟩ := Dv.kd hd
  rw [hs] at e0
  exact ⟨_, rfl, _, _, _, _, false, rfl, .ty "str", k0.ty, kit_ty e0, false, rfl, iteT q⟩
theorem ok_nameD {f : Addr} {fd : FuncData} (F : Fun K "is_name" "is_name" sIsName f fd) (B : Bl mg) (T : Txt K w mg CS CK it) : FnOk P w K mg base CX0 1 f fd ["value"] spNameD := by
  refine fnok_or (ok_isname F B T) (ok_noStr F B T) fun vs H Q E h => ?_
  obtain ⟨v, d, rfl, hd, q⟩ := h
  cases hs : isStr d with
  | false =>
    refine .inr ⟨v, d, rfl, hd, hs, ?_⟩
    have e : nameD d = false := by cases d <;> first | rfl | cases hs
    rw [← e]; exact q H (Same.refl H)
  | true =>
    cases d with
    | str z =>
      rw [Dv.at] at hd
      obtain ⟨rfl, l⟩ := hd
      exact .inl ⟨z, rfl, l, fun H' s => q H' s⟩
    | _ => cases hs
theorem ok_faultD {f fF fN : Addr} {fd fdF fdN : FuncData} (F : Fun K "fault_of" "fault_of" sFault f fd) (B : Bl mg) (T : Txt K w mg CS CK it)
    (GF : FnOk P w K mg base CX0 1 fF fdF ["statement"] spFormD) (bF : Binds K fdF ["statement"] []) (kF : PySem.W.keepIn K (.ref fF) = true) (mF : mg "has_form" = some (.ref fF))
    (GN : FnOk P w K mg base CX0 1 fN fdN ["value"] spNameD) (bN : Binds K fdN ["value"] []) (kN : PySem.W.keepIn K (.ref fN) = true) (mN : mg "is_name" = some (.ref fN)) :
    FnOk P w K mg base CX0 2 f fd ["statement", "place", "earlier", "held"] spFaultD := by
  refine F.ok scFO (fun vs H Q E h => ?_) (fun cdv A outer s H vs Q E hr h => ?_)
  · obtain ⟨v, u, e, h, s, d, p, rfl, _⟩ := h
    rfl
  obtain ⟨v, u, n, h, x, d, p, rfl, hx, hu, hp, q⟩ := h
  obtain ⟨t1, g1⟩ := T.mSt
  obtain ⟨t2, g2⟩ := T.mNe
  obtain ⟨t3, g3⟩ := T.mHe
  refine ⟨_, pss_cons (ps_if (pt_cmpR op_eq (pv 2) (pe_glob (v := .int 8) (by rfl) g1 ⟨_, rfl⟩) (nomark _)) (pss_one (ps_ret pe_str)) pss_nil)
    (pss_cons (ps_if (pt_not (pt_val (pe_call GF hr rfl mF kF bF .nil pass0 (pa_cons (pv 0) pa_nil)))) (pss_one (ps_ret pe_str)) pss_nil)
    (pss_cons (ps_set (i := 4) scFO.nd rfl (Or.inl rfl) (pe_ix ix_tup (pv 0) pe_int (fun _ _ => rfl)))
    (pss_cons (ps_if (PW.pt (pw_and (pt_cmpR op_eq (pv 4) pe_str (nomark _)) (pw_and1 (pt_cmpR op_eq (pe_op op_fdivN (pe_callB call_len_seq (by rfl) B.len PySem.boot_len (pa_cons (pv 1) pa_nil)) pe_int) (pe_glob (v := .int 2) (by rfl) g2 ⟨_, rfl⟩) (nomark _))))) (pss_one (ps_ret pe_str)) pss_nil)
    (pss_cons (ps_if (PW.pt (pw_and (pt_cmpR op_in_seq (pv 4) (pe_tup (pa_cons pe_str (pa_cons pe_str pa_nil))) (by rfl)) (pw_and1 (pt_not (pt_val (pe_call GN hr rfl mN kN bN .nil pass0 (pa_cons (pe_ix ix_tup (pv 0) pe_int (fun _ _ => rfl)) pa_nil))))))) (pss_one (ps_ret pe_str)) pss_nil)
    (pss_cons (ps_if (PW.pt (pw_and (pt_cmpR op_eq (pv 4) pe_str (nomark _)) (pw_and1 (pt_cmpR op_eq (pv 3) (pe_glob (v := .int 3) (by rfl) g3 ⟨_, rfl⟩) (nomark _))))) (pss_one (ps_ret pe_str)) pss_nil)
    (pss_one (ps_ret pe_non))))))), ?_⟩
  by_cases c8 : n = 8
  · have e : faultD n d h x = some ("size" : Str) := by unfold faultD; rw [if_pos c8]
    rw [e] at q
    exact ⟨_, rfl, rfl, _, rfl, iteTb (decide_eq_true (by rw [c8]; rfl)) (q H (Same.refl H))⟩
  have ne8 : decide (V.int (n : Nat) = V.int 8) = false := decide_eq_false (fun z => c8 (by injection z with z; omega))
  refine ⟨_, rfl, rfl, _, rfl, iteFb ne8 ?_⟩
  refine ⟨_, rfl, v, x, rfl, hx, _, rfl, ?_⟩
  have fe : faultD n d h x = (match shape x with
      | .bad => some ("form" : Str)
      | .one w => if w = .take ∧ h = 3 then some ("full" : Str) else none
      | .nam _ x => if nameD x = true then none else some ("name" : Str)
      | .ch _ _ => if d = 2 then some ("nested" : Str) else none) := by unfold faultD; rw [if_neg c8] <;> cases shape x <;> rfl
  rw [fe] at q
  unfold formB
  cases sh : shape x with
  | bad =>
    rw [sh] at q
    exact iteT (q H (Same.refl H))
  | one wd =>
    rw [sh] at q
    obtain rfl := shape_one sh
    rw [Dv.at] at hx
    obtain ⟨a, xs, rfl, ha, _, _, hs⟩ := hx
    rw [atL] at hs
    obtain ⟨v0, vs, rfl, h0, hr0⟩ := hs
    rw [Dv.at] at h0
    obtain ⟨rfl, _⟩ := h0
    rw [atL] at hr0
    subst hr0
    refine iteF ?_
    refine ⟨_, rfl, a, _, _, _, rfl, rfl, SqT.of ha, rfl, ?_⟩
    refine ⟨_, rfl, rfl, _, rfl, iteFb (wd_ne wd) ?_⟩
    refine ⟨_, rfl, (by show 2 ≤ sizeLine; decide), fun t ht => ⟨t, _, rfl, .inr (SqT.of upd_same), rfl, rfl, _, rfl, iteFb (wd_in wd) ?_⟩⟩
    refine ⟨_, rfl, rfl, _, rfl, ?_⟩
    rw [wd_tk]
    by_cases c : wd = .take
    · refine iteTb (decide_eq_true c) ⟨_, rfl, rfl, _, rfl, ?_⟩
      by_cases c3 : h = 3
      · dsimp only at q
        rw [if_pos ⟨c, c3⟩] at q
        exact iteTb (decide_eq_true (by rw [c3])) (q _ (same_new ht _))
      · dsimp only at q
        rw [if_neg (fun z => c3 z.2)] at q
        exact iteFb (decide_eq_false (fun z => c3 (by injection z))) (q _ (same_new ht _))
    · dsimp only at q
      rw [if_neg (fun z => c z.1)] at q
      exact iteFb (decide_eq_false c) (q _ (same_new ht _))
  | nam b y =>
    rw [sh] at q
    obtain rfl := shape_nam sh
    rw [Dv.at] at hx
    obtain ⟨a, xs, rfl, ha, _, _, hs⟩ := hx
    rw [atL] at hs
    obtain ⟨v0, vs, rfl, h0, hr0⟩ := hs
    rw [Dv.at] at h0
    obtain ⟨rfl, _⟩ := h0
    rw [atL] at hr0
    obtain ⟨v1, vs, rfl, h1, hr1⟩ := hr0
    rw [atL] at hr1
    subst hr1
    refine iteF ?_
    refine ⟨_, rfl, a, _, _, _, rfl, rfl, SqT.of ha, rfl, ?_⟩
    refine ⟨_, rfl, rfl, _, rfl, iteFb (lk_ne b) ?_⟩
    refine ⟨_, rfl, (by show 2 ≤ sizeLine; decide), fun t ht => ⟨t, _, rfl, .inr (SqT.of upd_same), rfl, rfl, _, rfl, iteTb (lk_in b) ?_⟩⟩
    have st := same_new ht (.tup [.str "lock", .str "unlock"])
    refine ⟨_, rfl, a, _, _, _, rfl, rfl, SqT.of (st a _ ha), rfl, v1, y, rfl, Dv.keep (VK.same st) _ _ h1, fun H2 s2 => ⟨_, rfl, ?_⟩⟩
    dsimp only at q
    cases hn : nameD y with
    | true =>
      rw [if_pos hn] at q
      exact iteF ⟨_, rfl, rfl, _, rfl, iteFb (lk_tk b) (q _ (st.trans s2))⟩
    | false =>
      rw [if_neg (by rw [hn]; decide)] at q
      exact iteT (q _ (st.trans s2))
  | ch y no =>
    rw [sh] at q
    obtain rfl := shape_ch sh
    rw [Dv.at] at hx
    obtain ⟨a, xs, rfl, ha, _, _, hs⟩ := hx
    rw [atL] at hs
    obtain ⟨v0, vs, rfl, h0, hr0⟩ := hs
    rw [Dv.at] at h0
    obtain ⟨rfl, _⟩ := h0
    rw [atL] at hr0
    obtain ⟨v1, vs, rfl, h1, hr1⟩ := hr0
    rw [atL] at hr1
    obtain ⟨v2, vs, rfl, h2, hr2⟩ := hr1
    rw [atL] at hr2
    subst hr2
    refine iteF ?_
    refine ⟨_, rfl, a, _, _, _, rfl, rfl, SqT.of ha, rfl, ?_⟩
    refine ⟨_, rfl, rfl, _, rfl, iteTb (by decide +kernel) ?_⟩
    refine ⟨_, rfl, u, _, rfl, .inr (SqT.of hu), _, _, rfl, rfl, ⟨by decide, by decide⟩, rfl, _, rfl, ?_⟩
    have e1 : ((p.length : Nat) : Int).fdiv 2 = d := by
      rw [hp, Int.fdiv_eq_ediv_of_nonneg _ (by decide)]; omega
    dsimp only at q
    by_cases c2 : d = 2
    · rw [if_pos c2] at q
      refine iteTb ?_ (q H (Same.refl H))
      show decide (V.int (((p.length : Nat) : Int).fdiv 2) = V.int 2) = true
      rw [e1, c2]
      exact decide_eq_true rfl
    · rw [if_neg c2] at q
      refine iteFb ?_ ?_
      · show decide (V.int (((p.length : Nat) : Int).fdiv 2) = V.int 2) = false
        rw [e1]
        exact decide_eq_false (fun z => by injection z with z; omega)
      · refine ⟨_, rfl, (by show 2 ≤ sizeLine; decide), fun t ht => ⟨t, _, rfl, .inr (SqT.of upd_same), rfl, rfl, _, rfl, iteFb ch_in ?_⟩⟩
        exact ⟨_, rfl, rfl, _, rfl, iteFb (by decide +kernel) (q _ (same_new ht _))⟩
end
end Tk
set_option maxRecDepth 100000
namespace L2
open PySem PySem.Spec PyProof.Rows
/-- what an __init__(self, place, why) of an error class promises -/
def spEI2 (C : Addr) : Sp := fun vs H Q _ => ∃ (a : Addr) (v w : V), vs = [.ref a, v, w] ∧ H a = some (exo a C none) ∧ ∀ dx, H dx = none → dx ≠ a → Q .non (upd (upd (upd H dx (exd dx [("place", v)])) a (exo a C (some dx))) dx (exd dx [("why", w), ("place", v)]))
theorem ps_raise2 {X : Cx} {W : WX} {nm f : Str} {C fI : Addr} {fd : FuncData} {ps : List Str} {e : Expr} {es : List Expr} {ta : TA} {p pos ppos : Pos} (hc : X.calm = true) (tk : Takes X W) (T : Ecl X.K X.mg nm f C fI) (F1 : FnOk X.prog X.w X.K X.mg X.base CX0 1 fI fd ps (spEI2 C)) (hr : Room 2 X.A) (hb : Binds X.K fd ps [])
    (hg : Gl X nm) (ha : PA X (e :: es) ta) (hdb : (nm == ("__debug__" : Str)) = false := by decide) (he : starEach (e :: es) X.env = (false, eval e X.env) :: starEach es X.env := by rfl) (hpl : (backTo pos (starEach es X.env)).any (·.1) = false := by rfl) :
    PS X (.Raise (some (.Call (.Name nm p) (e :: es) [] pos)) none ppos) (fun _ σ H => tMkO C (spEI2 C) [] ta σ H fun cls d H' => W cls d σ H') :=
  ps_raise (pos := ppos) hc tk (pmk_oex T.ox T.iC T.tI F1 hr hb .nil pass0 hg T.gC ha hdb he hpl)
theorem made2 {C : Addr} {v w : V} {H1 : Hp} {Q : XK} (q : ∀ d, H1 d = none → Q (.ref C) (some d) (upd H1 d (.xd [("why", w), ("place", v)]))) : [v, w].length ≤ 1000 ∧ ∀ a, H1 a = none → spEI2 C (.ref a :: ([v, w] ++ [])) (upd H1 a (exo a C none))
    (fun v H2 => v = .non ∧ ∃ (d : Addr) (fs : List (Str × V)), H2 a = some (exo a C (some d)) ∧ H2 d = some (exd d fs) ∧ H1 d = none ∧ Q (.ref C) (some d) (upd (del H2 a) d (.xd fs))) (fun _ _ _ => False) := by
  refine ⟨(by show 2 ≤ 1000; decide), fun a ha => ⟨a, v, w, rfl, upd_same, fun dx hd ne => ⟨rfl, dx, _, (by rw [upd_ne ne.symm, upd_same]), upd_same, by rw [upd_ne ne] at hd; exact hd, ?_⟩⟩⟩
  have hd' : H1 dx = none := by rw [upd_ne ne] at hd; exact hd
  have e : upd (del (upd (upd (upd (upd H1 a (exo a C none)) dx (exd dx [("place", v)])) a (exo a C (some dx))) dx (exd dx [("why", w), ("place", v)])) a) dx (.xd [("why", w), ("place", v)]) = upd H1 dx (.xd [("why", w), ("place", v)]) := by
    funext b
    by_cases h1 : b = dx
    · rw [h1, upd_same, upd_same]
    · rw [upd_ne h1, upd_ne h1]
      by_cases h2 : b = a
      · rw [h2, del_same, ha]
      · rw [del_ne h2, upd_ne h1, upd_ne h2, upd_ne h1, upd_ne h2]
  rw [e]
  exact q dx hd'
end L2
namespace Tk
open PySem L2
abbrev sBSInit : Stmt := inClass (top 3) 0
/-- a check in work: the places that it has found good -/
def CkD (CK : Addr) (H : Hp) (c dd : Addr) (W : List Pl) : Prop := (∃ dx, H c = some (.ins CK dx [("found", .ref dd)])) ∧ ∃ kvs : List (List Key × V), H dd = some (.dT kvs) ∧ kvs.map Prod.fst = W.map key
theorem CkD.keep {CK : Addr} {H H' : Hp} {c dd : Addr} {W : List Pl} (x : CkD CK H c dd W) (s : Same H H') : CkD CK H' c dd W := by
  obtain ⟨⟨dx, h1⟩, kvs, h2, h3⟩ := x
  exact ⟨⟨dx, s _ _ h1⟩, kvs, s _ _ h2, h3⟩
theorem valV_no {k : List Key} : ∀ {kvs : List (List Key × V)}, k ∉ kvs.map Prod.fst → valV kvs k = none
  | [], _ => rfl
  | (a, v) :: r, h => by
    rw [List.map_cons, List.mem_cons, not_or] at h
    rw [valV_neg (fun e : a = k => h.1 e.symm)]
    exact valV_no h.2
/-- an error of a bad script at e -/
def Thrown (CB : Addr) (E : XK) (H : Hp) (rel : Hp → Prop) (e : Pl × Str) : Prop := ∀ (dx w : Addr) (H' : Hp), rel H' → H dx = none → H' dx = some (.xd [("why", .str e.2), ("place", .ref w)]) → H' w = some (.tup (e.1.map V.int)) → E (.ref CB) (some dx) H'
def spKSx (CB CK : Addr) (m : Nat) : Sp := fun vs H Q E => ∃ (c dd u : Addr) (v : V) (h : Int) (x : Dv) (d : Nat) (p : Pl) (W : List Pl), vs = [.ref c, v, .ref u, .int h] ∧ d + (m + 1) = 3 ∧ CkD CK H c dd W ∧ x.at H v ∧ H u = some (.tup (p.map V.int)) ∧
  p.length = 2 * d + 1 ∧ W.length ≤ 8 ∧ (∀ q ∈ W, ∀ r, q ≠ p ++ r) ∧
  (∀ n' h', chkV d (chkB m) x p W.length h = .inr (n', h') → ∀ H' N, CkD CK H' c dd (W ++ N) → (W ++ N).length = n' → n' ≤ 8 → (∀ q ∈ N, ∃ r, q = p ++ r) → Kp dd H H' → Q (.int h') H') ∧
  ∀ e, chkV d (chkB m) x p W.length h = .inl e → Thrown CB E H (Kp dd H) e
def spKBx (CB CK : Addr) (m : Nat) : Sp := fun vs H Q E => ∃ (c dd t u : Addr) (xs : List V) (h : Int) (B : List Dv) (d : Nat) (p : Pl) (W : List Pl), vs = [.ref c, .ref t, .ref u, .int h] ∧ d + m = 3 ∧ d ≤ 2 ∧ CkD CK H c dd W ∧ H t = some (.tup xs) ∧ atL H xs B ∧ H u = some (.tup (p.map V.int)) ∧
  p.length = 2 * d ∧ W.length ≤ 8 ∧ B.length ≤ 30 ∧ (∀ q ∈ W, ∀ j r, q ≠ p ++ j :: r) ∧
  (∀ n' h', chkB m B p W.length h = .inr (n', h') → ∀ H' N, CkD CK H' c dd (W ++ N) → (W ++ N).length = n' → n' ≤ 8 → (∀ q ∈ N, ∃ j r, q = p ++ j :: r) → Kp dd H H' → Q (.int h') H') ∧
  ∀ e, chkB m B p W.length h = .inl e → Thrown CB E H (Kp dd H) e
section
variable {P : Program} {w : World} {K : PySem.W.Frag} {mg : Str → Option Value} {base : Heap} {CS CK it CB : Addr}
theorem scBS : FnScope ["self", "place", "why"] ["self", "place", "why"] (defScope sBSInit) := ⟨rfl, rfl, rfl, by decide +kernel, rfl, by decide +kernel, by decide +kernel⟩
theorem ok_bsi {f : Addr} {fd : FuncData} (F : Fun K "__init__" "BadScript.__init__" sBSInit f fd) (T : Ecl K mg "BadScript" "place" CB f) (no : PySem.W.findIn K (.ref CB) "why" = some none) : FnOk P w K mg base CX0 1 f fd ["self", "place", "why"] (spEI2 CB) := by
  refine F.ok scBS (fun vs H Q E h => ?_) (fun cdv A outer s H vs Q E hr h => ?_)
  · obtain ⟨a, v, x, rfl, _⟩ := h
    rfl
  obtain ⟨a, v, x, rfl, ha, q⟩ := h
  refine ⟨_, pss_cons (ps_ost (pv 0) (pv 1) rfl) (pss_one (ps_ost (pv 0) (pv 2) rfl)), ?_⟩
  refine ⟨_, rfl, _, rfl, a, CB, rfl, T.ox, T.noF, .inl ⟨ha, fun dx h1 h2 => ?_⟩⟩
  refine ⟨_, rfl, _, rfl, a, CB, rfl, T.ox, no, .inr ⟨dx, _, upd_same, (by rw [upd_ne h2, upd_same]), (by show 1 ≤ 900; decide), ?_⟩⟩
  exact q dx h1 h2
end
end Tk
set_option maxRecDepth 100000
namespace L2
open PySem PySem.Spec PyProof.Rows
section
variable {X : Cx} {CX : CXT} {k : Nat} {f C : Addr} {fd : FuncData} {ps : List Str} {sp : Sp} {E : St → XK} {m : Str} {pos apos : Pos} {e o : Expr} {es : List Expr} {ta : TE} {t : TA}
/-- o.m(e, ..), where an error may come out, as the wish at these slots says -/
def tMethXS (C : Addr) (m : Str) (sp : Sp) (E : St → XK) (ta : TE) (t : TA) : TE := fun σ H Q => ta σ H fun x H1 => ∃ a dx fs, x = .ref a ∧ H1 a = some (.ins C dx fs) ∧ fs.lookup m = none ∧ t σ H1 fun vs H2 => sp (x :: vs) H2 Q (E σ)
abbrev mcall (X : Cx) (o : Expr) (m : Str) (apos pos : Pos) (es : List Expr) (pl : Sem Bool) : Sem Value := (do let ov ← eval o X.env; standAt apos.atName; let (g, one) ← holding [ov] (getMethod ov m pl); callWith pos g one (backTo pos (starEach es X.env)) (backToKw pos (keywordEach [] X.env)))
theorem pe_methXS {pl : Sem Bool} (he : PE X o ta) (c : Cls X.K C) (hm : Meth X.K C m f) (F : FnOk X.prog X.w X.K X.mg X.base CX k f fd ps sp) (hr : Room k X.A) (hb : Binds X.K fd ps []) (hx : ∀ σ, PassesAt CX X σ (E σ)) (ha : PA X (e :: es) t)
    (ht : eval (.Call (.Attribute o m apos) (e :: es) [] pos) X.env = mcall X o m apos pos (e :: es) pl := by rfl) (h1 : starEach (e :: es) X.env = (false, eval e X.env) :: starEach es X.env := by rfl) (h2 : (backTo pos (starEach es X.env)).any (·.1) = false := by rfl) :
    PE X (.Call (.Attribute o m apos) (e :: es) [] pos) (tMethXS C m sp E ta t) := by
  constructor
  intro pins s σ H Q I h
  refine PySem.W.methodCall_KW (pl := pl) (thn (he.run pins s σ H _ I h) fun u s1 q => ?_) ht
  obtain ⟨_, H1, I1, ru, a, dx, fs, rfl, ea, l, q⟩ := q
  have eu : u = Value.ref a := ru
  subst eu
  refine getmeth_ok I1 ea c hm l (PySem.W.callWith_K (first := [.ref a]) (h₀ := X.base) I.ok.mod.kin hm.kp (thn (ha.run pos pins s1 σ H1 _ I1 q) fun us s2 q2 => ?_) h1 h2)
  obtain ⟨vs, H2, I2, r, q2⟩ := q2
  exact ⟨I2.kIn, run_fnS (us := .ref a :: us) (vs := .ref a :: vs) F hr hb (hx σ) I2 (.cons rfl r) q2⟩
end
end L2
set_option maxRecDepth 100000
namespace Tk
open PySem L2
theorem loopB_app (f : Dv → Pl → Nat → Int → Rs) (p : Pl) : ∀ (A B : List Dv) (i n : Nat) (h : Int), loopB f (A ++ B) p i n h = match loopB f A p i n h with
    | .inl e => .inl e
    | .inr (n', h') => loopB f B p (i + A.length) n' h'
  | [], B, i, n, h => by
    rw [List.nil_append, loopB]; rfl
  | v :: A, B, i, n, h => by
    rw [List.cons_append, loopB, loopB]
    cases f v (p ++ [(i : Int)]) n h with
    | inl e => rfl
    | inr r =>
      obtain ⟨n', h'⟩ := r
      show loopB f (A ++ B) p (i + 1) n' h' = _
      rw [loopB_app f p A B (i + 1) n' h']
      have e : i + 1 + A.length = i + (v :: A).length := by rw [List.length_cons]; omega
      rw [e]
theorem Thrown.of {CB : Addr} {E : XK} {H H2 : Hp} {rel rel2 : Hp → Prop} {e : Pl × Str} (t : Thrown CB E H rel e) (r : ∀ H', rel2 H' → rel H') (f : ∀ d, H2 d = none → H d = none) : Thrown CB E H2 rel2 e := fun dx w H' h1 h2 h3 h4 => t dx w H' (r _ h1) (f _ h2) h3 h4
theorem Kp.free {p : Addr} {H H' : Hp} {o : HO} (k : Kp p H H') (hp : H' p = some o) : ∀ d, H' d = none → H d = none := fun d hd => by
  cases e : H d with
  | none => rfl
  | some u =>
    by_cases c : d = p
    · rw [c, hp] at hd; cases hd
    · rw [k _ _ e c] at hd; cases hd
section
variable {P : Program} {w : World} {K : PySem.W.Frag} {mg : Str → Option Value} {base : Heap} {CS CK it CB : Addr}
theorem ok_kbrx {m n : Nat} {f fS : Addr} {fd fdS : FuncData} (F : Fun K "check_branch" "Check.check_branch" sKBr f fd) (T : Txt K w mg CS CK it) (GS : FnOk P w K mg base (L2.CX P w) n fS fdS psKS (spKSx CB CK m)) (bS : Binds K fdS psKS []) (mS : Meth K CK "check_statement" fS) :
    FnOk P w K mg base (L2.CX P w) (n + 1) f fd psKB (spKBx CB CK (m + 1)) := by
  refine F.okX scKB (fun vs H Q E h => ?_) (fun cdv A outer s H vs Q E hr h => ?_)
  · obtain ⟨c, dd, t, u, xs, h, B, d, p, W, rfl, _⟩ := h
    rfl
  obtain ⟨c, dd, t, u, xs, h, B, d, p, W, rfl, hd3, hd2, C, ht, hB, hu, hp, hn, l30, hW, qs, qe⟩ := h
  refine ⟨_, pss_cons (ps_for (passes_of rfl) rfl (pi_enumT rfl T.enum (pa_cons (pv 1) pa_nil)) (pg_tup rfl (pgs_cons (pg_name (i := 4) scKB.nd rfl (.inl rfl)) (pgs_cons (pg_name (i := 5) scKB.nd rfl (.inl rfl)) pgs_nil)))
      (pss_one (ps_set (i := 3) scKB.nd rfl (Or.inl rfl) (pe_methXS (pv 0) T.clK mS GS hr bS (fun σ => passAt (takes_of rfl rfl rfl rfl) σ) (pa_cons (pv 5) (pa_cons (pe_op op_catA (pv 2) (pe_tup (pa_cons (pv 4) pa_nil))) (pa_cons (pv 3) pa_nil)))))))
    (pss_one (ps_ret (pv 3))), ?_⟩
  have hl := atL_len hB
  obtain ⟨_, kvs, hk, _⟩ := id C
  have ed : 2 - m = d := by omega
  have hchk : chkB (m + 1) B p W.length h = loopB (chkV d (chkB m)) B p 0 W.length h := by rw [← ed]; rfl
  rw [hchk] at qs qe
  refine ⟨_, rfl, t, xs, rfl, SqT.of ht, for_enumT (xs := xs) (fun i σ H2 => ∃ (v4 v5 : Option V) (n' : Nat) (h' : Int) (N : List Pl), σ = [some (.ref c), some (.ref t), some (.ref u), some (.int h'), v4, v5] ∧ i ≤ B.length ∧ loopB (chkV d (chkB m)) (B.take i) p 0 W.length h = .inr (n', h') ∧
    CkD CK H2 c dd (W ++ N) ∧ (W ++ N).length = n' ∧ n' ≤ 8 ∧ (∀ q ∈ N, ∃ (j : Nat) (r : Pl), j < i ∧ q = p ++ ((j : Nat) : Int) :: r) ∧ Kp dd H H2) ?_ ?_ ?_ ?_⟩
  · exact ⟨none, none, W.length, h, [], rfl, Nat.zero_le _, by rw [List.take_zero, loopB], by rw [List.append_nil]; exact C, by rw [List.append_nil], hn, (fun q z => nomatch z), Kp.refl _ _⟩
  · rintro i σ H2 _ ⟨v4, v5, n', h', N, rfl, _, _, C2, _, _, _, k2⟩
    exact SqT.of (k2.tkD hk _ _ ht)
  · rintro i x Tp σ H2 hx ⟨v4, v5, n', h', N, rfl, hi, hloop, C2, ln, n8, hN, k2⟩ hT
    have vk := VK.kd k2 hk
    have lt : i < B.length := by have := (List.getElem?_eq_some_iff.mp hx).1; omega
    have hs : B[i]? = some B[i] := List.getElem?_eq_getElem lt
    obtain ⟨v, hv, sv⟩ := atL_get hB hs
    have exv : x = v := Option.some.inj (hx.symm.trans hv)
    subst exv
    have s1 := same_new hT (.tup [.int (i : Nat), x])
    have et : B.take (i + 1) = B.take i ++ [B[i]] := by rw [List.take_add_one, hs]; rfl
    have li : (B.take i).length = i := by rw [List.length_take]; omega
    refine ⟨Tp, _, rfl, SqT.of upd_same, rfl, _, _, rfl, _, _, rfl, rfl, ?_⟩
    obtain ⟨⟨dx, hc⟩, kv2, hk2, _⟩ := C2.keep s1
    refine ⟨_, rfl, c, dx, _, rfl, hc, rfl, _, rfl, _, rfl, _, rfl, (by show 1 ≤ sizeLine; decide), ?_⟩
    refine fun t2 ht2 => cat_one (p := p) (j := (i : Nat)) (s1 _ _ (vk.tup _ _ hu)) (by omega) (fun y H3 hy s3 => ?_) t2 ht2
    have s13 := s1.trans s3
    have k23 : Kp dd H H3 := k2.trans (Kp.of_same s13)
    have step : loopB (chkV d (chkB m)) (B.take (i + 1)) p 0 W.length h = (match chkV d (chkB m) B[i] (p ++ [((i : Nat) : Int)]) n' h' with
        | .inl e => .inl e
        | .inr (n2, h2) => .inr (n2, h2)) := by
      rw [et, loopB_app, hloop]
      show loopB (chkV d (chkB m)) [B[i]] p (0 + (B.take i).length) n' h' = _
      rw [li, Nat.zero_add, loopB]
      cases chkV d (chkB m) B[i] (p ++ [((i : Nat) : Int)]) n' h' with
      | inl e => rfl
      | inr r => obtain ⟨_, _⟩ := r; rfl
    refine ⟨_, rfl, c, dd, y, x, h', B[i], d, p ++ [((i : Nat) : Int)], W ++ N, rfl, by omega, C2.keep s13, Dv.keep (vk.trans (VK.same s13)) _ _ sv, hy, by rw [List.length_append, hp]; rfl, by omega, ?_, fun n2 h2 e2 H4 N2 C4 l4 n4 hN2 k4 => ?_, fun e he => ?_⟩
    · intro q hq r e
      have e' : q = p ++ ((i : Nat) : Int) :: r := by rw [e]; simp
      rcases List.mem_append.mp hq with hq | hq
      · exact hW q hq _ _ e'
      · obtain ⟨j, r', hj, ej⟩ := hN q hq
        rw [ej] at e'
        have := List.append_cancel_left e'
        injection this with e1 _
        omega
    · rw [ln] at e2
      refine ⟨some (.int (i : Nat)), some x, n2, h2, N ++ N2, rfl, lt, by rw [step, e2], by rw [← List.append_assoc]; exact C4, by rw [← List.append_assoc]; exact l4, n4, fun q hq => ?_, k23.trans k4⟩
      rcases List.mem_append.mp hq with hq | hq
      · obtain ⟨j, r', hj, ej⟩ := hN q hq
        exact ⟨j, r', by omega, ej⟩
      · obtain ⟨r, e⟩ := hN2 q hq
        exact ⟨i, r, by omega, by rw [e]; simp⟩
    · rw [ln] at he
      have whole : loopB (chkV d (chkB m)) B p 0 W.length h = .inl e := by
        have z : B = B.take (i + 1) ++ B.drop (i + 1) := (List.take_append_drop _ _).symm
        rw [z, loopB_app, step, he]
      refine (qe e whole).of (fun H' r => k23.trans r) ?_
      exact k23.free (s3 _ _ hk2)
  · rintro σ H2 ⟨v4, v5, n', h', N, rfl, hi, hloop, C2, ln, n8, hN, k2⟩
    rw [hl, List.take_length] at hloop
    refine ⟨_, rfl, ?_⟩
    exact qs n' h' hloop H2 N C2 ln n8 (fun q hq => let ⟨j, r, _, e⟩ := hN q hq; ⟨_, r, e⟩) k2
end
end Tk
set_option maxRecDepth 100000
namespace Tk
open PySem L2
theorem fault_none {n d : Nat} {h : Int} {x : Dv} (e : faultD n d h x = none) : n ≠ 8 ∧ shape x ≠ .bad ∧ (∀ y no, shape x = .ch y no → d ≠ 2) := by
  unfold faultD at e
  by_cases c : n = 8
  · rw [if_pos c] at e; cases e
  rw [if_neg c] at e
  refine ⟨c, fun s => ?_, fun y no s hd => ?_⟩
  · rw [s] at e; cases e
  · rw [s] at e
    dsimp only at e
    rw [if_pos hd] at e; cases e
section
variable {P : Program} {w : World} {K : PySem.W.Frag} {mg : Str → Option Value} {base : Heap} {CS CK it CB : Addr}
theorem ok_kstx {m n : Nat} {f fB fF fI fH : Addr} {fd fdB fdF fdI fdH : FuncData} (hn : 2 ≤ n) (F : Fun K "check_statement" "Check.check_statement" sKSt f fd) (B : Bl mg) (T : Txt K w mg CS CK it) (TB : Ecl K mg "BadScript" "place" CB fI)
    (GI : FnOk P w K mg base CX0 1 fI fdI ["self", "place", "why"] (spEI2 CB)) (bI : Binds K fdI ["self", "place", "why"] [])
    (GB : FnOk P w K mg base (L2.CX P w) n fB fdB psKB (spKBx CB CK m)) (bB : Binds K fdB psKB []) (mB : Meth K CK "check_branch" fB)
    (GF : FnOk P w K mg base CX0 2 fF fdF ["statement", "place", "earlier", "held"] spFaultD) (bF : Binds K fdF ["statement", "place", "earlier", "held"] []) (kF : PySem.W.keepIn K (.ref fF) = true) (mF : mg "fault_of" = some (.ref fF))
    (GH : FnOk P w K mg base CX0 1 fH fdH ["word", "held"] spHeld) (bH : Binds K fdH ["word", "held"] []) (kH : PySem.W.keepIn K (.ref fH) = true) (mH : mg "held_after" = some (.ref fH)) :
    FnOk P w K mg base (L2.CX P w) (n + 1) f fd psKS (spKSx CB CK m) := by
  refine F.okX scKS (fun vs H Q E h => ?_) (fun cdv A outer s H vs Q E hr h => ?_)
  · obtain ⟨c, dd, u, v, h, s, d, p, W, rfl, _⟩ := h
    rfl
  obtain ⟨c, dd, u, v, h, x, d, p, W, rfl, hd3, C, hx, hu, hp, hn8, hW, qs, qe⟩ := h
  have hu' := hu_of hr
  have hr2 : Room 2 _ := hr.mono hn
  have hr1 : Room 1 _ := hr2.mono (by decide)
  refine ⟨_, pss_cons (ps_set (i := 4) scKS.nd rfl (Or.inl rfl) (pe_call GF hr2 rfl mF kF bF .nil pass0 (pa_cons (pv 1) (pa_cons (pv 2) (pa_cons (pe_callB call_len_dT (by rfl) B.len PySem.boot_len (pa_cons (pe_fld (pv 0) rfl) pa_nil)) (pa_cons (pv 3) pa_nil))))))
    (pss_cons (ps_if (pt_cmpR op_notN (pv 4) pe_non (nomark _)) (pss_one (ps_raise2 rfl (takes_of rfl rfl rfl rfl) TB GI hr2 bI rfl (pa_cons (pv 2) (pa_cons (pv 4) pa_nil)))) pss_nil)
    (pss_cons (ps_dput hu' (pe_fld (pv 0) rfl) (pv 2) (pv 1) rfl)
    (pss_cons (ps_if (pt_cmpR op_eq (pe_ix ix_tup (pv 1) pe_int (fun _ _ => rfl)) pe_str (nomark _))
      (pss_cons (ps_set (i := 5) scKS.nd rfl (Or.inl rfl) (pe_methXS (pv 0) T.clK mB GB hr bB (fun σ => passAt (takes_of rfl rfl rfl rfl) σ) (pa_cons (pe_ix ix_tup (pv 1) pe_int (fun _ _ => rfl)) (pa_cons (pe_op op_catA (pv 2) (pe_tup (pa_cons pe_int pa_nil))) (pa_cons (pv 3) pa_nil)))))
      (pss_cons (ps_set (i := 6) scKS.nd rfl (Or.inl rfl) (pe_methXS (pv 0) T.clK mB GB hr bB (fun σ => passAt (takes_of rfl rfl rfl rfl) σ) (pa_cons (pe_ix ix_tup (pv 1) pe_int (fun _ _ => rfl)) (pa_cons (pe_op op_catA (pv 2) (pe_tup (pa_cons pe_int pa_nil))) (pa_cons (pv 3) pa_nil)))))
      (pss_one (ps_ret (pe_callB (call_max2 rfl) (by rfl) B.max (by decide +kernel) (pa_cons (pv 5) (pa_cons (pv 6) pa_nil))))))) pss_nil)
    (pss_one (ps_ret (pe_call GH hr1 rfl mH kH bH .nil pass0 (pa_cons (pe_ix ix_tup (pv 1) pe_int (fun _ _ => rfl)) (pa_cons (pv 3) pa_nil)))))))), ?_⟩
  obtain ⟨⟨dx, hc⟩, kvs, hk, hks⟩ := id C
  have wl : kvs.length = W.length := by have := congrArg List.length hks; rwa [List.length_map, List.length_map] at this
  refine ⟨_, rfl, _, rfl, _, rfl, c, CK, dx, _, _, rfl, hc, T.clK, T.kF, rfl, dd, kvs, rfl, hk, _, rfl, v, u, kvs.length, h, x, d, _, rfl, hx, hu, by rw [List.length_map]; exact hp, fun H1 s1 => ?_⟩
  rw [wl]
  cases hf : faultD W.length d h x with
  | some z =>
    have ce : chkV d (chkB m) x p W.length h = .inl (p, z) := by unfold chkV; rw [hf]
    refine ⟨_, rfl, rfl, _, rfl, iteT ⟨_, rfl, _, rfl, made2 fun d2 hd2 => ?_⟩⟩
    exact qe _ ce d2 u _ ((Kp.of_same s1).trans (Kp.of_same (same_new hd2 _))) (s1.free hd2) upd_same ((same_new hd2 _) _ _ (s1 _ _ hu))
  | none =>
  obtain ⟨ne8, nbad, nch⟩ := fault_none hf
  have ck : chkV d (chkB m) x p W.length h = (match shape x with
    | .bad => .inr (W.length + 1, h)
    | .one w => .inr (W.length + 1, w.held h)
    | .nam _ _ => .inr (W.length + 1, h)
    | .ch y no => match chkB m y (p ++ [0]) (W.length + 1) h with
      | .inl e => .inl e
      | .inr (n1, h1) => match chkB m no (p ++ [1]) n1 h with
        | .inl e => .inl e
        | .inr (n2, h2) => .inr (n2, max h1 h2)) := by unfold chkV; rw [hf] <;> cases shape x <;> rfl
  refine ⟨_, rfl, rfl, _, rfl, iteF ?_⟩
  have ekv : (key p).map kV = p.map V.int := key_kV p
  have nodd : c ≠ dd := ne_of (s1 _ _ hc) (s1 _ _ hk) (by intro z; cases z)
  refine ⟨_, rfl, _, rfl, c, CK, dx, _, _, rfl, s1 _ _ hc, T.clK, T.kF, rfl, _, rfl, dd, _, rfl, DPut.t (k := key p) (s1 _ _ hk) (by rw [ekv]; exact s1 _ _ hu) (small1000 (by omega)), ?_⟩
  have non : valV kvs (key p) = none := valV_no (by
    rw [hks]
    intro hm
    obtain ⟨q', hq, e⟩ := List.mem_map.mp hm
    exact hW q' hq [] (by rw [List.append_nil]; exact key_inj e))
  rw [putK_new _ non]
  have k2 : Kp dd H (L2.upd H1 dd (.dT (kvs ++ [(key p, v)]))) := (Kp.of_same s1).trans Kp.upd
  have vk2 := VK.kd k2 hk
  have C2 : CkD CK (L2.upd H1 dd (.dT (kvs ++ [(key p, v)]))) c dd (W ++ [p]) := ⟨⟨dx, by rw [upd_ne nodd]; exact s1 _ _ hc⟩, _, upd_same, by rw [List.map_append, List.map_append, hks]; rfl⟩
  have hk2 : (L2.upd H1 dd (.dT (kvs ++ [(key p, v)]))) dd = some (.dT (kvs ++ [(key p, v)])) := upd_same
  generalize L2.upd H1 dd (.dT (kvs ++ [(key p, v)])) = H2 at k2 vk2 C2 hk2 ⊢
  have hx2 := Dv.keep vk2 _ _ hx
  have hu2 := vk2.tup _ _ hu
  have lW : (W ++ [p]).length = W.length + 1 := by simp
  have one_ : ∀ q ∈ [p], ∃ r, q = p ++ r := fun q hq => ⟨[], by rw [List.mem_singleton.mp hq]; simp⟩
  cases sh : shape x with
  | bad => exact absurd sh nbad
  | one wd =>
    rw [sh] at ck
    obtain rfl := shape_one sh
    rw [Dv.at] at hx2
    obtain ⟨a, xs, rfl, ha, _, _, hs⟩ := hx2
    rw [atL] at hs
    obtain ⟨v0, vs, rfl, h0, hr0⟩ := hs
    rw [Dv.at] at h0
    obtain ⟨rfl, _⟩ := h0
    rw [atL] at hr0
    subst hr0
    refine ⟨_, rfl, a, _, _, _, rfl, rfl, SqT.of ha, rfl, ?_⟩
    refine ⟨rfl, _, rfl, iteFb (wd_ne wd) ?_⟩
    refine ⟨_, rfl, a, _, _, _, rfl, rfl, SqT.of ha, rfl, _, rfl, _, _, rfl, fun H3 s3 => ?_⟩
    rw [heldS_wd]
    exact qs _ _ ck _ [p] (C2.keep s3) lW (by omega) one_ (k2.trans (Kp.of_same s3))
  | nam b y =>
    rw [sh] at ck
    obtain rfl := shape_nam sh
    rw [Dv.at] at hx2
    obtain ⟨a, xs, rfl, ha, _, _, hs⟩ := hx2
    rw [atL] at hs
    obtain ⟨v0, vs, rfl, h0, hr0⟩ := hs
    rw [Dv.at] at h0
    obtain ⟨rfl, _⟩ := h0
    rw [atL] at hr0
    obtain ⟨v1, vs, rfl, h1, hr1⟩ := hr0
    rw [atL] at hr1
    subst hr1
    refine ⟨_, rfl, a, _, _, _, rfl, rfl, SqT.of ha, rfl, ?_⟩
    refine ⟨rfl, _, rfl, iteFb (lk_ne b) ?_⟩
    refine ⟨_, rfl, a, _, _, _, rfl, rfl, SqT.of ha, rfl, _, rfl, _, _, rfl, fun H3 s3 => ?_⟩
    rw [heldS_lk]
    exact qs _ _ ck _ [p] (C2.keep s3) lW (by omega) one_ (k2.trans (Kp.of_same s3))
  | ch y no =>
    rw [sh] at ck
    have d2 := nch y no sh
    obtain rfl := shape_ch sh
    rw [Dv.at] at hx2
    obtain ⟨a, xs, rfl, ha, _, _, hs⟩ := hx2
    rw [atL] at hs
    obtain ⟨v0, vs, rfl, h0, hr0⟩ := hs
    rw [Dv.at] at h0
    obtain ⟨rfl, _⟩ := h0
    rw [atL] at hr0
    obtain ⟨v1, vs, rfl, h1, hr1⟩ := hr0
    rw [atL] at hr1
    obtain ⟨v2, vs, rfl, h2, hr2⟩ := hr1
    rw [atL] at hr2
    subst hr2
    rw [Dv.at] at h1 h2
    obtain ⟨b1, ys, rfl, hb1, ly, _, aty⟩ := h1
    obtain ⟨b2, ns, rfl, hb2, ln, _, atn⟩ := h2
    refine ⟨_, rfl, a, _, _, _, rfl, rfl, SqT.of ha, rfl, ?_⟩
    refine ⟨rfl, _, rfl, iteTb (by decide +kernel) ?_⟩
    obtain ⟨dx2, hc2⟩ := C2.1
    refine ⟨_, rfl, c, dx2, _, rfl, hc2, rfl, _, rfl, a, _, _, _, rfl, rfl, SqT.of ha, rfl, _, rfl, (by show 1 ≤ sizeLine; decide), ?_⟩
    refine fun t2 ht2 => cat_one (p := p) (j := 0) hu2 (by omega) (fun y1 H3 hy1 s3 => ?_) t2 ht2
    have vk3 := VK.same s3
    have k3 := k2.trans (Kp.of_same s3)
    dsimp only at ck
    refine ⟨_, rfl, c, dd, b1, y1, ys, h, y, d + 1, p ++ [0], W ++ [p], rfl, by omega, by omega, C2.keep s3, s3 _ _ hb1, atL_keep vk3 _ _ aty, hy1, by rw [List.length_append, hp]; show 2 * d + 1 + 1 = _; omega, by omega, ly, ?_, fun n1 h1 e1 H4 N1 C4 l4 n4 hN1 k4 => ?_, fun e he => ?_⟩
    · intro q hq j r e
      rcases List.mem_append.mp hq with hq | hq
      · exact hW q hq (0 :: j :: r) (by rw [e]; simp)
      · rw [List.mem_singleton.mp hq] at e
        have := congrArg List.length e
        simp at this
    rotate_left
    · rw [lW] at he
      rw [he] at ck
      exact (qe e ck).of (fun H' r => k3.trans r) (k3.free (s3 _ _ hk2))
    rw [lW] at e1
    rw [e1] at ck
    dsimp only at ck
    have hk3 := s3 _ _ hk2
    have vk4 : VK H3 H4 := VK.kd k4 hk3
    have vk34 := vk3.trans vk4
    obtain ⟨⟨dx4, hc4⟩, kvs4, hk4, _⟩ := id C4
    refine ⟨_, rfl, c, dx4, _, rfl, hc4, rfl, _, rfl, a, _, _, _, rfl, rfl, SqT.of (vk34.tup _ _ ha), rfl, _, rfl, (by show 1 ≤ sizeLine; decide), ?_⟩
    refine fun t5 ht5 => cat_one (p := p) (j := 1) (vk34.tup _ _ hu2) (by omega) (fun y2 H5 hy2 s5 => ?_) t5 ht5
    have vk5 := vk34.trans (VK.same s5)
    have k5 := (k3.trans k4).trans (Kp.of_same s5)
    refine ⟨_, rfl, c, dd, b2, y2, ns, h, no, d + 1, p ++ [1], _, rfl, by omega, by omega, C4.keep s5, vk5.tup _ _ hb2, atL_keep vk5 _ _ atn, hy2, by rw [List.length_append, hp]; show 2 * d + 1 + 1 = _; omega, by omega, ln, ?_, fun n2 h2 e2 H6 N2 C6 l6 n6 hN2 k6 => ?_, fun e he => ?_⟩
    · intro q hq j r e
      rcases List.mem_append.mp hq with hq | hq
      · rcases List.mem_append.mp hq with hq | hq
        · exact hW q hq (1 :: j :: r) (by rw [e]; simp)
        · rw [List.mem_singleton.mp hq] at e
          have := congrArg List.length e
          simp at this
      · obtain ⟨j', r', ej⟩ := hN1 q hq
        rw [ej, List.append_assoc, List.append_assoc] at e
        have := List.append_cancel_left e
        injection this with e1 _
        exact absurd e1 (by decide)
    rotate_left
    · rw [l4] at he
      rw [he] at ck
      exact (qe e ck).of (fun H' r => k5.trans r) (k5.free (s5 _ _ hk4))
    rw [l4] at e2
    rw [e2] at ck
    dsimp only at ck
    refine ⟨_, rfl, _, rfl, _, _, rfl, ?_⟩
    show Q (.int (if h2 > h1 then h2 else h1)) H6
    rw [max_if]
    have ap : W ++ [p] ++ N1 ++ N2 = W ++ (p :: (N1 ++ N2)) := by simp
    refine qs _ _ ck H6 (p :: (N1 ++ N2)) (by rw [← ap]; exact C6) (by rw [← ap]; exact l6) n6 (fun q hq => ?_) (k5.trans k6)
    rcases List.mem_cons.mp hq with rfl | hq
    · exact ⟨[], by simp⟩
    · rcases List.mem_append.mp hq with hq | hq
      · obtain ⟨j, r, e⟩ := hN1 q hq
        exact ⟨0 :: j :: r, by rw [e]; simp⟩
      · obtain ⟨j, r, e⟩ := hN2 q hq
        exact ⟨1 :: j :: r, by rw [e]; simp⟩
end
end Tk
set_option maxRecDepth 100000
namespace Tk
open PySem L2
def spSIx (CS CB : Addr) : Sp := fun vs H Q E => ∃ (x dx : Addr) (v : V) (d : Dv), vs = [.ref x, v] ∧ H x = some (.ins CS dx []) ∧ d.at H v ∧
  (dueD d = none → ∀ (t dd pl : Addr) (H' : Hp), v = .ref t → H' x = some (.ins CS dx (flds t dd pl)) → Kp x H H' → Q .non H') ∧ ∀ e, dueD d = some e → Thrown CB E H (Same H) e
theorem due_tup {x : Dv} {r : List Dv} : dueD (.tup (x :: r)) = match chkB 3 (x :: r) [] 0 0 with
    | .inl e => some e
    | .inr _ => none := rfl
section
variable {P : Program} {w : World} {K : PySem.W.Frag} {mg : Str → Option Value} {base : Heap} {CS CK it CB : Addr}
theorem ok_sinitx {f fI fB fX : Addr} {fd fdI fdB fdX : FuncData} (F : Fun K "__init__" "Script.__init__" sSInit f fd) (B : Bl mg) (T : Txt K w mg CS CK it) (TB : Ecl K mg "BadScript" "place" CB fX)
    (GX : FnOk P w K mg base CX0 1 fX fdX ["self", "place", "why"] (spEI2 CB)) (bX : Binds K fdX ["self", "place", "why"] [])
    (M : Mk K CK fI) (GI : FnOk P w K mg base CX0 1 fI fdI ["self"] (spKInit CK)) (bI : Binds K fdI ["self"] [])
    (GB : FnOk P w K mg base (L2.CX P w) 8 fB fdB psKB (spKBx CB CK 3)) (bB : Binds K fdB psKB []) (mB : Meth K CK "check_branch" fB) : FnOk P w K mg base (L2.CX P w) 9 f fd ["self", "statements"] (spSIx CS CB) := by
  refine F.okX scSI (fun vs H Q E h => ?_) (fun cdv A outer s H vs Q E hr h => ?_)
  · obtain ⟨x, dx, v, d, rfl, _⟩ := h
    rfl
  obtain ⟨x, dx, v, d, rfl, hx, hd, qs, qe⟩ := h
  have hr2 : Room 2 _ := hr.mono (by decide)
  refine ⟨_, pss_cons (ps_if (pt_not (pt_val (pe_callB call_isi (by rfl) T.isi (by decide +kernel) (pa_cons (pv 1) (pa_cons (pe_bltn (v := .ty "tuple") (by rfl) B.tuple (by decide +kernel) rfl) pa_nil))))) (pss_one (ps_raise2 rfl (takes_of rfl rfl rfl rfl) TB GX hr2 bX rfl (pa_cons (pe_tup pa_nil) (pa_cons pe_str pa_nil)))) pss_nil)
    (pss_cons (ps_if (pt_not (pt_truth (pv 1) (by intro _; rfl))) (pss_one (ps_raise2 rfl (takes_of rfl rfl rfl rfl) TB GX hr2 bX rfl (pa_cons (pe_tup pa_nil) (pa_cons pe_str pa_nil)))) pss_nil)
    (pss_cons (ps_set (i := 2) scSI.nd rfl (Or.inl rfl) (pe_make0 M GI hr2 rfl T.mgK bI .nil pass0))
    (pss_cons (ps_expr (pe_methXS (pv 2) T.clK mB GB hr bB (fun σ => passAt (takes_of rfl rfl rfl rfl) σ) (pa_cons (pv 1) (pa_cons (pe_tup pa_nil) (pa_cons pe_int pa_nil)))))
    (pss_cons (ps_fld (pv 0) (pv 1) rfl)
    (pss_cons (ps_fld (pv 0) (pe_fld (pv 2) rfl) rfl)
    (pss_one (ps_fld (pv 0) (pe_callTy call_tuple_of (by rfl) B.tuple (by decide +kernel) (pa_cons (pe_callTy (call_list_dT rfl) (by rfl) T.list (by decide +kernel) (pa_cons (pe_fld (pv 0) rfl) pa_nil)) pa_nil)) rfl))))))), ?_⟩
  obtain ⟨T0, k0, e0, _⟩ := Dv.kd hd
  have thrown : ∀ z : Str, dueD d = some ([], z) → (0 : Nat) ≤ sizeLine ∧ ∀ e, H e = none → ([V.ref e, .str z].length ≤ 1000 ∧ _) := fun z hz => ⟨by decide, fun e he => made2 (C := CB) (v := .ref e) (w := .str z) (H1 := L2.upd H e (.tup [])) (Q := E) fun d2 hd2 => by
    have s1 := same_new he (.tup [])
    have s2 := same_new hd2 (.xd [("why", .str z), ("place", .ref e)])
    exact qe _ hz d2 e _ (s1.trans s2) (s1.free hd2) upd_same (s2 _ _ upd_same)⟩
  cases it0 : isTup d with
  | false =>
    rw [it0] at e0
    have due : dueD d = some ([], ("form" : Str)) := by cases d <;> first | rfl | cases it0
    exact ⟨_, rfl, _, _, _, _, false, rfl, .ty "tuple", k0.ty, kit_ty e0, false, rfl, iteT (thrown _ due)⟩
  | true =>
  cases d with
  | tup ds =>
    rw [Dv.at] at hd
    obtain ⟨t, xs, rfl, ht, l30, _, hS⟩ := hd
    refine ⟨_, rfl, _, _, _, _, true, rfl, .ty "tuple", .base (.tup ht), kit_ty (by decide +kernel), true, rfl, iteF ?_⟩
    cases ds with
    | nil =>
      rw [atL] at hS
      subst hS
      exact ⟨_, rfl, false, .inr (.inl ⟨_, SqT.of ht, rfl⟩), iteT (thrown _ rfl)⟩
    | cons x0 r0 =>
      have nx : xs.isEmpty = false := by
        have hl := atL_len hS
        cases xs with
        | nil => cases hl
        | cons _ _ => rfl
      rw [due_tup] at qs qe
      refine ⟨_, rfl, true, .inr (.inl ⟨_, SqT.of ht, by rw [nx]; rfl⟩), iteF ?_⟩
      intro c dc nc ndc ndcc
      refine ⟨c, dc, rfl, upd_same, fun dd H1 hdd C k1 => ⟨rfl, ?_⟩⟩
      have s0 : Same H (L2.upd (L2.upd H dc (.own c)) c (.ins CK dc [])) := fun b o e => by
        rw [upd_ne (ne_of_none e nc), upd_ne (ne_of_none e ndc)]; exact e
      have s1 : Same H H1 := fun b o e => k1 b o (s0 b o e) (ne_of_none e nc)
      have hdd0 : H dd = none := s0.free hdd
      obtain ⟨⟨dxc, hc1⟩, kvs0, hk0, fr0⟩ := id C
      have ek0 : kvs0 = [] := by
        cases kvs0 with
        | nil => rfl
        | cons a b => exact fr0.elim
      subst ek0
      have C0 : CkD CK H1 c dd [] := ⟨⟨dxc, hc1⟩, [], hk0, rfl⟩
      refine ⟨_, rfl, c, dxc, _, rfl, hc1, rfl, _, rfl, (by show 0 ≤ sizeLine; decide), fun e he => ?_⟩
      have s2 := s1.trans (same_new he (.tup []))
      have s12 := same_new he (.tup [])
      refine ⟨c, dd, t, e, xs, 0, x0 :: r0, 0, [], [], rfl, rfl, by decide, C0.keep s12, s2 _ _ ht, atL_keep (VK.same s2) _ _ hS, upd_same, rfl, by decide, l30, (fun q z => nomatch z), fun n' h' ek H3 N C3 l3 n8 hN k3 => ?_, fun ee he2 => ?_⟩
      rotate_left
      · have he3 : chkB 3 (x0 :: r0) [] 0 0 = .inl ee := he2
        rw [he3] at qe
        have k03 : Kp dd H (L2.upd H1 e (.tup [])) := Kp.of_same s2
        refine (qe ee rfl).of (fun H' k b o eb => ?_) (fun d hd => s2.free hd)
        exact k b o (s2 b o eb) (ne_of_none eb hdd0)
      have ek3 : chkB 3 (x0 :: r0) [] 0 0 = .inr (n', h') := ek
      rw [ek3] at qs
      have k03 : Kp dd H H3 := (Kp.of_same s2).trans k3
      have s3 : Same H H3 := fun b o e => k03 b o e (ne_of_none e hdd0)
      obtain ⟨⟨dx3, hc3⟩, kvs, hk3, fr3⟩ := C3
      have nxc : x ≠ c := ne_of_none hx nc
      have nxd : x ≠ dd := ne_of_none hx hdd0
      refine ⟨_, rfl, _, rfl, x, CS, dx, [], rfl, s3 _ _ hx, T.clS, T.nS, (by show 0 < 1000; decide), ?_⟩
      refine ⟨_, rfl, c, CK, dx3, _, _, rfl, by rw [upd_ne nxc.symm]; exact hc3, T.clK, T.kF, rfl, _, rfl, x, CS, dx, _, rfl, upd_same, T.clS, T.nF, (by show 1 < 1000; decide), ?_⟩
      have hk5 : ∀ o1 o2, (L2.upd (L2.upd H3 x o1) x o2) dd = some (.dT kvs) := fun o1 o2 => by rw [upd_ne nxd.symm, upd_ne nxd.symm]; exact hk3
      refine ⟨_, rfl, x, CS, dx, _, _, rfl, upd_same, T.clS, T.nF, (by rw [lookup_putF, if_pos rfl]), dd, kvs, rfl, .inl (hk5 _ _), fun l bs hl hkeys => ?_⟩
      refine ⟨l, _, rfl, .inl ⟨SqL.of upd_same, fun pl hpl => ?_⟩⟩
      have nxl : x ≠ l := ne_of_none upd_same hl
      have nxp : x ≠ pl := ne_of_none (H := L2.upd (L2.upd (L2.upd H3 x _) x _) l _) (by rw [upd_ne nxl]; exact upd_same) hpl
      refine ⟨_, rfl, x, CS, dx, _, rfl, by rw [upd_ne nxp, upd_ne nxl]; exact upd_same, T.clS, T.nP, (by show 2 < 1000; decide), ?_⟩
      rw [flds_put]
      have kx : Kp x H3 (L2.upd (L2.upd (L2.upd (L2.upd (L2.upd H3 x (.ins CS dx (putF "statements" (.ref t) []))) x (.ins CS dx (putF "found" (.ref dd) (putF "statements" (.ref t) [])))) l (.lst (bs.map V.ref))) pl (.tup (bs.map V.ref))) x (.ins CS dx (flds t dd pl))) := by
        intro b o e nb
        have eb : (L2.upd (L2.upd H3 x (.ins CS dx (putF "statements" (.ref t) []))) x (.ins CS dx (putF "found" (.ref dd) (putF "statements" (.ref t) [])))) b = some o := by rw [upd_ne nb, upd_ne nb]; exact e
        have el : (L2.upd (L2.upd (L2.upd H3 x (.ins CS dx (putF "statements" (.ref t) []))) x (.ins CS dx (putF "found" (.ref dd) (putF "statements" (.ref t) [])))) l (.lst (bs.map V.ref))) b = some o := by rw [upd_ne (ne_of_none eb hl)]; exact eb
        rw [upd_ne nb, upd_ne (ne_of_none el hpl)]
        exact el
      exact qs rfl t dd pl _ rfl upd_same ((Kp.of_same s3).trans kx)
  | _ => cases it0
end
end Tk
set_option maxRecDepth 100000
namespace Tk
open PySem L2
/-! ## the law's own reading -/
abbrev sLName : Stmt := top 27
abbrev sLForm : Stmt := top 28
abbrev sLFault : Stmt := top 29
theorem alpha_codes : ("abcdefghijklmnopqrstuvwxyz" : Str).cps.toList = [97, 98, 99, 100, 101, 102, 103, 104, 105, 106, 107, 108, 109, 110, 111, 112, 113, 114, 115, 116, 117, 118, 119, 120, 121, 122] := by decide +kernel
theorem alpha_mem (c : Nat) : decide (c ∈ ("abcdefghijklmnopqrstuvwxyz" : Str).cps.toList) = (decide (97 ≤ c) && decide (c ≤ 122)) := by
  rw [alpha_codes, ← Bool.decide_and]
  refine decide_eq_decide.mpr ?_
  simp only [List.mem_cons, List.not_mem_nil, or_false]
  omega
section
variable {P : Program} {w : World} {K : PySem.W.Frag} {mg : Str → Option Value} {base : Heap} {CS CK it CB : Addr}
theorem scLN : FnScope ["_law_value", "_law_sign"] ["_law_value"] (defScope sLName) := ⟨rfl, rfl, rfl, by decide +kernel, rfl, by decide +kernel, by decide +kernel⟩
theorem ok_lname {f : Addr} {fd : FuncData} (F : Fun K "_law_name" "_law_name" sLName f fd) (B : Bl mg) (T : Txt K w mg CS CK it) : FnOk P w K mg base CX0 1 f fd ["_law_value"] spNameD := by
  refine F.ok scLN (fun vs H Q E h => ?_) (fun cdv A outer s H vs Q E hr h => ?_)
  · obtain ⟨v, d, rfl, _⟩ := h
    rfl
  obtain ⟨v, d, rfl, hd, q⟩ := h
  have nd := scLN.nd
  refine ⟨_, (pss_cons (ps_if (PW.pt (pw_or (pt_not (pt_val (pe_callB call_isi (by rfl) T.isi (by decide +kernel) (pa_cons (pv 0) (pa_cons (pe_bltn (v := .ty "str") (by rfl) T.str (by decide +kernel) rfl) pa_nil))))) (pw_or (pt_cmpR op_lt (pe_callB call_len_str (by rfl) B.len PySem.boot_len (pa_cons (pv 0) pa_nil)) (pe_int) (nomark _)) (pw_or1 (pt_cmpR op_gt (pe_callB call_len_str (by rfl) B.len PySem.boot_len (pa_cons (pv 0) pa_nil)) (pe_int) (nomark _)))))) (pss_one (ps_ret pe_bl)) pss_nil)
 (pss_cons (ps_for PassesOwn.never rfl (pi_str (pv 0)) (pg_name (i := 1) nd rfl (Or.inl rfl)) (pss_one (ps_if (pt_cmpR op_notIn_sign (pv 1) (pe_str) (by rfl)) (pss_one (ps_ret pe_bl)) pss_nil)))
 (pss_one (ps_ret pe_bl)))), ?_⟩
  obtain ⟨T0, k0, _, e0⟩ := Dv.kd hd
  have fin : ∀ b : Bool, nameD d = b → Q (.bl b) H := fun b e => e ▸ q H (Same.refl H)
  cases hs : isStr d with
  | false =>
    rw [hs] at e0
    exact ⟨_, rfl, _, _, _, _, false, rfl, .ty "str", k0.ty, kit_ty e0, false, rfl, iteT (fin false (by cases d <;> first | rfl | cases hs))⟩
  | true =>
  cases d with
  | str z =>
    rw [Dv.at] at hd
    obtain ⟨rfl, l⟩ := hd
    have hsz : z.length ≤ sizeLine := Nat.le_of_lt (small1000 (by omega))
    have fin' : ∀ b : Bool, nameB z = b → Q (.bl b) H := fin
    refine ⟨_, rfl, _, _, _, _, true, rfl, .ty "str", .base (.str _), kit_ty (by decide +kernel), true, rfl, iteF ?_⟩
    refine ⟨_, rfl, z, rfl, hsz, _, _, rfl, rfl, _, rfl, ?_⟩
    by_cases c1 : 1 ≤ z.length
    rotate_left
    · exact iteTb (decide_eq_true (by omega)) (fin' false (by unfold nameB; rw [decide_eq_false c1]; simp))
    refine iteFb (decide_eq_false (by omega)) ?_
    refine ⟨_, rfl, z, rfl, hsz, _, _, rfl, rfl, _, rfl, ?_⟩
    by_cases c2 : z.length ≤ 8
    rotate_left
    · exact iteTb (decide_eq_true (by omega)) (fin' false (by unfold nameB; rw [decide_eq_false c2]; simp))
    refine iteFb (decide_eq_false (by omega)) ?_
    refine ⟨_, rfl, z, rfl, ?_⟩
    refine for_it walk_str (fun i σ H2 => ∃ v1 : Option V, σ = [some (.str z), v1] ∧ H2 = H ∧ ((z.cps.toList.take i).all fun c => decide (97 ≤ c) && decide (c ≤ 122)) = true) ?_ (fun _ _ _ _ _ => trivial) ?_ ?_
    · exact ⟨none, rfl, rfl, rfl⟩
    · rintro i x σ H2 H' hi ⟨v1, rfl, rfl, hall⟩ ⟨rfl, c, hc, rfl⟩
      have ez : z.cps.toList[i]? = some c := by simpa using hc
      refine ⟨_, rfl, c, _, rfl, rfl, _, rfl, ?_⟩
      rw [alpha_mem]
      cases cc : (decide (97 ≤ c) && decide (c ≤ 122)) with
      | true =>
        refine iteF ⟨_, rfl, rfl, ?_⟩
        rw [List.take_add_one, ez]
        simp only [Option.toList_some, List.all_append, List.all_cons, List.all_nil, Bool.and_true]
        rw [hall, cc]; rfl
      | false =>
        refine iteT (fin' false ?_)
        unfold nameB
        have : (z.cps.toList.all fun c => decide (97 ≤ c) && decide (c ≤ 122)) = false := by
          rw [Bool.eq_false_iff]
          intro h
          have := List.all_eq_true.mp h c (List.mem_of_getElem? ez)
          rw [cc] at this; cases this
        rw [this, Bool.and_false]
    · rintro σ H2 ⟨v1, rfl, rfl, hall⟩
      refine fin' true ?_
      unfold nameB
      rw [List.take_of_length_le (by simp)] at hall
      rw [decide_eq_true c1, decide_eq_true c2, hall]; rfl
  | _ => cases hs
theorem scLF : FnScope ["_law_value"] ["_law_value"] (defScope sLForm) := ⟨rfl, rfl, rfl, by decide +kernel, rfl, by decide +kernel, by decide +kernel⟩
theorem in5 (wd : Wd) : inV (V.str wd.s) [V.str "take", .str "commit", .str "rollback", .str "drop", .str "leave"] = true := by cases wd <;> decide +kernel
theorem in5n (b : Bool) : inV (V.str (lockS b)) [V.str "take", .str "commit", .str "rollback", .str "drop", .str "leave"] = false := by cases b <;> decide +kernel
theorem ok_lform {f : Addr} {fd : FuncData} (F : Fun K "_law_form" "_law_form" sLForm f fd) (B : Bl mg) (T : Txt K w mg CS CK it) : FnOk P w K mg base CX0 1 f fd ["_law_value"] (fun vs H Q _ => ∃ (v : V) (d : Dv), vs = [v] ∧ d.at H v ∧ ∀ H', Same H H' → Q (.bl (formB d)) H') := by
  refine F.ok scLF (fun vs H Q E h => ?_) (fun cdv A outer s H vs Q E hr h => ?_)
  · obtain ⟨v, d, rfl, _⟩ := h
    rfl
  obtain ⟨v, d, rfl, hd, q⟩ := h
  have nd := scLF.nd
  refine ⟨_, (pss_cons (ps_if (PW.pt (pw_or (pt_not (pt_val (pe_callB call_isi (by rfl) T.isi (by decide +kernel) (pa_cons (pv 0) (pa_cons (pe_bltn (v := .ty "tuple") (by rfl) B.tuple (by decide +kernel) rfl) pa_nil))))) (pw_or (pt_cmpR op_eq (pe_callB call_len_seq (by rfl) B.len PySem.boot_len (pa_cons (pv 0) pa_nil)) (pe_int) (nomark _)) (pw_or1 (pt_not (pt_val (pe_callB call_isi (by rfl) T.isi (by decide +kernel) (pa_cons (pe_ix ix_tup (pv 0) (pe_int) (fun _ _ => rfl)) (pa_cons (pe_bltn (v := .ty "str") (by rfl) T.str (by decide +kernel) rfl) pa_nil))))))))) (pss_one (ps_ret pe_bl)) pss_nil)
 (pss_cons (ps_if (pt_cmpR op_in_seq (pe_ix ix_tup (pv 0) (pe_int) (fun _ _ => rfl)) (pe_lst (pa_cons (pe_str) (pa_cons (pe_str) (pa_cons (pe_str) (pa_cons (pe_str) (pa_cons (pe_str) pa_nil)))))) (by rfl)) (pss_one (ps_ret (pe_cmpR op_eq (pe_callB call_len_seq (by rfl) B.len PySem.boot_len (pa_cons (pv 0) pa_nil)) (pe_int) (nomark _)))) pss_nil)
 (pss_cons (ps_if (pt_cmpR op_in_seq (pe_ix ix_tup (pv 0) (pe_int) (fun _ _ => rfl)) (pe_lst (pa_cons (pe_str) (pa_cons (pe_str) pa_nil))) (by rfl)) (pss_one (ps_ret (pe_cmpR op_eq (pe_callB call_len_seq (by rfl) B.len PySem.boot_len (pa_cons (pv 0) pa_nil)) (pe_int) (nomark _)))) pss_nil)
 (pss_cons (ps_if (PW.pt (pw_or (pt_cmpR op_ne (pe_ix ix_tup (pv 0) (pe_int) (fun _ _ => rfl)) (pe_str) (nomark _)) (pw_or1 (pt_cmpR op_ne (pe_callB call_len_seq (by rfl) B.len PySem.boot_len (pa_cons (pv 0) pa_nil)) (pe_int) (nomark _))))) (pss_one (ps_ret pe_bl)) pss_nil)
 (pss_one (ps_ret (pe_and (pe_callB call_isi (by rfl) T.isi (by decide +kernel) (pa_cons (pe_ix ix_tup (pv 0) (pe_int) (fun _ _ => rfl)) (pa_cons (pe_bltn (v := .ty "tuple") (by rfl) B.tuple (by decide +kernel) rfl) pa_nil))) (pe_one (pe_callB call_isi (by rfl) T.isi (by decide +kernel) (pa_cons (pe_ix ix_tup (pv 0) (pe_int) (fun _ _ => rfl)) (pa_cons (pe_bltn (v := .ty "tuple") (by rfl) B.tuple (by decide +kernel) rfl) pa_nil))))))))))), ?_⟩
  obtain ⟨T0, k0, e0, _⟩ := Dv.kd hd
  have fin : ∀ b : Bool, formB d = b → ∀ H', Same H H' → Q (.bl b) H' := fun b e H' s => e ▸ q H' s
  cases it0 : isTup d with
  | false =>
    rw [it0] at e0
    exact ⟨_, rfl, _, _, _, _, false, rfl, .ty "tuple", k0.ty, kit_ty e0, false, rfl, iteT (fin false (by cases d <;> first | rfl | cases it0) H (Same.refl H))⟩
  | true =>
  cases d with
  | tup ds =>
    rw [Dv.at] at hd
    obtain ⟨a, xs, rfl, ha, l30, hw, hs⟩ := hd
    have lx := atL_len hs
    refine ⟨_, rfl, _, _, _, _, true, rfl, .ty "tuple", .base (.tup ha), kit_ty (by decide +kernel), true, rfl, iteF ?_⟩
    refine ⟨_, rfl, a, xs, rfl, .inr (SqT.of ha), rfl, _, rfl, ?_⟩
    cases ds with
    | nil =>
      rw [atL] at hs
      subst hs
      exact iteTb (decide_eq_true rfl) (fin false rfl H (Same.refl H))
    | cons x r =>
      rw [atL] at hs
      obtain ⟨v0, vs, rfl, h0, hr0⟩ := hs
      have lr := atL_len hr0
      have e0' : atI (v0 :: vs) ((0 : Nat) : Int) = some v0 := atI_nat rfl
      refine iteFb (decide_eq_false fun e => by injection e with e; rw [List.length_cons] at e; omega) ?_
      obtain ⟨T1, k1, _, e1⟩ := Dv.kd h0
      cases is0 : isStr x with
      | false =>
        rw [is0] at e1
        exact ⟨_, rfl, a, _, _, _, rfl, rfl, SqT.of ha, e0', _, _, _, _, false, rfl, .ty "str", k1.ty, kit_ty e1, false, rfl, iteT (fin false (by cases x <;> first | rfl | cases is0) H (Same.refl H))⟩
      | true =>
      cases x with
      | str z =>
        rw [Dv.at] at h0
        obtain ⟨rfl, z100⟩ := h0
        refine ⟨_, rfl, a, _, _, _, rfl, rfl, SqT.of ha, e0', _, _, _, _, true, rfl, .ty "str", .base (.str _), kit_ty (by decide +kernel), true, rfl, iteF ?_⟩
        have w9 := w9_of (hw z r rfl)
        have len_ : (((V.str z :: vs).length : Nat) : Int) = ((r.length + 1 : Nat) : Int) := by rw [List.length_cons, lr]
        have lenV : ∀ (m : Int) (H' : Hp), Same H H' → (z, m) ∈ items8 → (((r.length + 1 : Nat) : Int) = m → formB (.tup (.str z :: r)) = true) → Q (.bl (decide (V.int ((V.str z :: vs).length : Nat) = V.int m))) H' := fun m H' s hm hf => by
          rw [len_]
          by_cases c : ((r.length + 1 : Nat) : Int) = m
          · rw [decide_eq_true (by rw [c])]
            exact fin true (hf c) H' s
          · rw [decide_eq_false (fun e => c (by injection e))]
            exact fin false (Bool.eq_false_iff.mpr fun e => c (it_uniq (form_len e) hm)) H' s
        refine ⟨_, rfl, a, _, _, _, rfl, rfl, SqT.of ha, e0', (by show 5 ≤ sizeLine; decide), fun t1 h1 => ⟨t1, _, rfl, .inl (SqL.of upd_same), rfl, rfl, _, rfl, ?_⟩⟩
        have s1 := same_new h1 (.lst [.str "take", .str "commit", .str "rollback", .str "drop", .str "leave"])
        show if inV (V.str z) [V.str "take", .str "commit", .str "rollback", .str "drop", .str "leave"] = true then _ else _
        rcases w9 with ⟨wd⟩ | ⟨b⟩ | _ | _
        · refine iteTb (in5 wd) ⟨_, rfl, a, _, rfl, .inr (SqT.of (s1 _ _ ha)), rfl, lenV 1 _ s1 (wd_it wd) fun e => ?_⟩
          have : r = [] := List.length_eq_zero_iff.mp (by omega)
          subst this
          unfold formB; rw [shape_one']
        · refine iteFb (in5n b) ?_
          refine ⟨_, rfl, a, _, _, _, rfl, rfl, SqT.of (s1 _ _ ha), e0', (by show 2 ≤ sizeLine; decide), fun t2 h2 => ⟨t2, _, rfl, .inl (SqL.of upd_same), rfl, rfl, _, rfl, ?_⟩⟩
          have s2 := s1.trans (same_new h2 (.lst [.str "lock", .str "unlock"]))
          refine iteTb (lk_in b) ⟨_, rfl, a, _, rfl, .inr (SqT.of (s2 _ _ ha)), rfl, lenV 2 _ s2 (lk_it b) fun e => ?_⟩
          match r, e with
          | [x], _ => unfold formB; rw [shape_nam']
          | [], e => exact absurd e (by decide)
          | _ :: _ :: _, e => simp at e; omega
        · refine iteFb (by decide +kernel) ?_
          refine ⟨_, rfl, a, _, _, _, rfl, rfl, SqT.of (s1 _ _ ha), e0', (by show 2 ≤ sizeLine; decide), fun t2 h2 => ⟨t2, _, rfl, .inl (SqL.of upd_same), rfl, rfl, _, rfl, ?_⟩⟩
          have s2 := s1.trans (same_new h2 (.lst [.str "lock", .str "unlock"]))
          refine iteFb (by decide +kernel) ?_
          refine ⟨_, rfl, a, _, _, _, rfl, rfl, SqT.of (s2 _ _ ha), e0', rfl, _, rfl, iteFb (by decide +kernel) ?_⟩
          refine ⟨_, rfl, a, _, rfl, .inr (SqT.of (s2 _ _ ha)), rfl, _, rfl, ?_⟩
          rw [len_]
          by_cases c : ((r.length + 1 : Nat) : Int) = 3
          rotate_left
          · rw [decide_eq_false (fun e => c (by injection e))]
            exact iteT (fin false (Bool.eq_false_iff.mpr fun e => c (it_uniq (form_len e) ch_it)) _ s2)
          · refine iteNS (by rw [c]) ?_
            match r, c with
            | [x1, x2], _ =>
              rw [atL] at hr0
              obtain ⟨v1, vs1, rfl, h1', hr1⟩ := hr0
              rw [atL] at hr1
              obtain ⟨v2, vs2, rfl, h2', hr2⟩ := hr1
              rw [atL] at hr2
              subst hr2
              obtain ⟨Ta, ka, ea, _⟩ := Dv.kd h1'
              obtain ⟨Tb, kb, eb, _⟩ := Dv.kd h2'
              refine ⟨_, rfl, a, _, _, _, rfl, rfl, SqT.of (s2 _ _ ha), rfl, _, _, _, _, isTup x1, rfl, .ty "tuple", (ka.keep s2).ty, kit_ty ea, _, rfl, ?_⟩
              cases c1 : isTup x1 with
              | false => exact iteF (fin false (by rw [form_ch, c1]; rfl) _ s2)
              | true =>
                refine iteT ⟨_, rfl, a, _, _, _, rfl, rfl, SqT.of (s2 _ _ ha), rfl, _, _, _, _, isTup x2, rfl, .ty "tuple", (kb.keep s2).ty, kit_ty eb, fin _ (by rw [form_ch, c1]; rfl) _ s2⟩
            | [], c => exact absurd c (by decide)
            | [_], c => simp at c
            | _ :: _ :: _ :: _, c => simp at c; omega
        · refine iteFb (by decide +kernel) ?_
          refine ⟨_, rfl, a, _, _, _, rfl, rfl, SqT.of (s1 _ _ ha), e0', (by show 2 ≤ sizeLine; decide), fun t2 h2 => ⟨t2, _, rfl, .inl (SqL.of upd_same), rfl, rfl, _, rfl, ?_⟩⟩
          have s2 := s1.trans (same_new h2 (.lst [.str "lock", .str "unlock"]))
          refine iteFb (by decide +kernel) ?_
          refine ⟨_, rfl, a, _, _, _, rfl, rfl, SqT.of (s2 _ _ ha), e0', rfl, _, rfl, iteTb (by decide +kernel) ?_⟩
          exact fin false (Bool.eq_false_iff.mpr fun e => takes_no _ (form_len e)) _ s2
      | _ => cases is0
  | _ => cases it0
end
end Tk
set_option maxRecDepth 100000
namespace Tk
open PySem L2
abbrev sLRead : Stmt := top 30
def spLForm : Sp := fun vs H Q _ => ∃ (v : V) (d : Dv), vs = [v] ∧ d.at H v ∧ ∀ H', Same H H' → Q (.bl (formB d)) H'
def spLFault : Sp := fun vs H Q _ => ∃ (v : V) (b : Addr) (x : Dv) (d n : Nat) (h : Int), vs = [v, .int (d : Nat), .ref b] ∧ x.at H v ∧ H b = some (.lst [.int (n : Nat), .int h]) ∧ d ≤ 2 ∧ ∀ H', Same H H' → Q (match faultD n d h x with | some z => .str z | none => .non) H'
abbrev psR : List Str := ["_law_branch_here", "_law_prefix", "_law_depth", "_law_box"]
abbrev nsR : List Str := ["_law_branch_here", "_law_prefix", "_law_depth", "_law_box", "_law_index", "_law_place", "_law_why", "_law_word", "_law_before", "_law_fault_here", "_law_after"]
/-- what a reading tells -/
def Told (b : Addr) (H : Hp) (Q : L2.VK) : Rs → Prop
  | .inl e => ∀ (z u : Addr) (ys : List V) (H' : Hp), Kp b H H' → H' b = some (.lst ys) → H' z = some (.tup [.ref u, .str e.2]) → H' u = some (.tup (e.1.map V.int)) → Q (.ref z) H'
  | .inr r => ∀ H' : Hp, Kp b H H' → H' b = some (.lst [.int (r.1 : Nat), .int r.2]) → Q .non H'
def spRead (m : Nat) : Sp := fun vs H Q _ => ∃ (t u b : Addr) (xs : List V) (B : List Dv) (d : Nat) (p : Pl) (n : Nat) (h : Int), vs = [.ref t, .ref u, .int (d : Nat), .ref b] ∧ d + m = 3 ∧ d ≤ 2 ∧ H t = some (.tup xs) ∧ atL H xs B ∧ B.length ≤ 30 ∧ H u = some (.tup (p.map V.int)) ∧ p.length ≤ 2 * d ∧ H b = some (.lst [.int (n : Nat), .int h]) ∧
  Told b H Q (chkB m B p n h)
theorem Told.of {b : Addr} {H H2 : Hp} {Q : L2.VK} {r : Rs} (t : Told b H Q r) (k : Kp b H H2) : Told b H2 Q r := by
  cases r with
  | inl e => exact fun z u ys H' k2 => t z u ys H' (k.trans k2)
  | inr e => exact fun H' k2 => t H' (k.trans k2)
section
variable {P : Program} {w : World} {K : PySem.W.Frag} {mg : Str → Option Value} {base : Heap} {CS CK it CB : Addr}
theorem scLFa : FnScope ["_law_value", "_law_depth", "_law_box"] ["_law_value", "_law_depth", "_law_box"] (defScope sLFault) := ⟨rfl, rfl, rfl, by decide +kernel, rfl, by decide +kernel, by decide +kernel⟩
theorem ok_lfault {f fF fN : Addr} {fd fdF fdN : FuncData} (F : Fun K "_law_fault" "_law_fault" sLFault f fd) (B : Bl mg) (T : Txt K w mg CS CK it)
    (GF : FnOk P w K mg base CX0 1 fF fdF ["_law_value"] spLForm) (bF : Binds K fdF ["_law_value"] []) (kF : PySem.W.keepIn K (.ref fF) = true) (mF : mg "_law_form" = some (.ref fF))
    (GN : FnOk P w K mg base CX0 1 fN fdN ["_law_value"] spNameD) (bN : Binds K fdN ["_law_value"] []) (kN : PySem.W.keepIn K (.ref fN) = true) (mN : mg "_law_name" = some (.ref fN)) :
    FnOk P w K mg base CX0 2 f fd ["_law_value", "_law_depth", "_law_box"] spLFault := by
  refine F.ok scLFa (fun vs H Q E h => ?_) (fun cdv A outer s H vs Q E hr h => ?_)
  · obtain ⟨v, b, x, d, n, h, rfl, _⟩ := h
    rfl
  obtain ⟨v, b, x, d, n, h, rfl, hx, hb, d2, q⟩ := h
  have nd := scLFa.nd
  refine ⟨_, (pss_cons (ps_if (pt_cmpR op_eq (pe_ix ix_list (pv 2) (pe_int) (fun _ _ => rfl)) (pe_int) (nomark _)) (pss_one (ps_ret (pe_str))) pss_nil)
 (pss_cons (ps_if (pt_not (pt_val (pe_call GF hr rfl mF kF bF .nil pass0 (pa_cons (pv 0) pa_nil)))) (pss_one (ps_ret (pe_str))) pss_nil)
 (pss_cons (ps_if (PW.pt (pw_and (pt_cmpR op_eq (pe_ix ix_tup (pv 0) (pe_int) (fun _ _ => rfl)) (pe_str) (nomark _)) (pw_and1 (pt_cmpR op_ge (pv 1) (pe_int) (nomark _))))) (pss_one (ps_ret (pe_str))) pss_nil)
 (pss_cons (ps_if (PW.pt (pw_and (pt_cmpR op_in_seq (pe_ix ix_tup (pv 0) (pe_int) (fun _ _ => rfl)) (pe_lst (pa_cons (pe_str) (pa_cons (pe_str) pa_nil))) (by rfl)) (pw_and1 (pt_not (pt_val (pe_call GN hr rfl mN kN bN .nil pass0 (pa_cons (pe_ix ix_tup (pv 0) (pe_int) (fun _ _ => rfl)) pa_nil))))))) (pss_one (ps_ret (pe_str))) pss_nil)
 (pss_cons (ps_if (PW.pt (pw_and (pt_cmpR op_eq (pe_ix ix_tup (pv 0) (pe_int) (fun _ _ => rfl)) (pe_str) (nomark _)) (pw_and1 (pt_cmpR op_eq (pe_ix ix_list (pv 2) (pe_int) (fun _ _ => rfl)) (pe_int) (nomark _))))) (pss_one (ps_ret (pe_str))) pss_nil)
 (pss_one (ps_ret (pe_non)))))))), ?_⟩
  refine ⟨_, rfl, b, _, _, _, rfl, rfl, SqL.of hb, rfl, rfl, _, rfl, ?_⟩
  by_cases c8 : n = 8
  · have e : faultD n d h x = some ("size" : Str) := by unfold faultD; rw [if_pos c8]
    rw [e] at q
    exact iteTb (decide_eq_true (by rw [c8]; rfl)) (q H (Same.refl H))
  refine iteFb (decide_eq_false (fun z => c8 (by injection z with z; omega))) ?_
  refine ⟨_, rfl, v, x, rfl, hx, fun H1 s1 => ⟨_, rfl, ?_⟩⟩
  have fe : faultD n d h x = (match shape x with
      | .bad => some ("form" : Str)
      | .one w => if w = .take ∧ h = 3 then some ("full" : Str) else none
      | .nam _ x => if nameD x = true then none else some ("name" : Str)
      | .ch _ _ => if d = 2 then some ("nested" : Str) else none) := by unfold faultD; rw [if_neg c8] <;> cases shape x <;> rfl
  rw [fe] at q
  unfold formB
  have hb1 := s1 _ _ hb
  have hx1 := Dv.keep (VK.same s1) _ _ hx
  cases sh : shape x with
  | bad =>
    rw [sh] at q
    exact iteT (q H1 s1)
  | one wd =>
    rw [sh] at q
    obtain rfl := shape_one sh
    rw [Dv.at] at hx1
    obtain ⟨a, xs, rfl, ha, _, _, hs⟩ := hx1
    rw [atL] at hs
    obtain ⟨v0, vs, rfl, h0, hr0⟩ := hs
    rw [Dv.at] at h0
    obtain ⟨rfl, _⟩ := h0
    rw [atL] at hr0
    subst hr0
    refine iteF ?_
    refine ⟨_, rfl, a, _, _, _, rfl, rfl, SqT.of ha, rfl, rfl, _, rfl, iteFb (wd_ne wd) ?_⟩
    refine ⟨_, rfl, a, _, _, _, rfl, rfl, SqT.of ha, rfl, (by show 2 ≤ sizeLine; decide), fun t ht => ⟨t, _, rfl, .inl (SqL.of upd_same), rfl, rfl, _, rfl, iteFb (wd_in wd) ?_⟩⟩
    have st := same_new ht (.lst [.str "lock", .str "unlock"])
    refine ⟨_, rfl, a, _, _, _, rfl, rfl, SqT.of (st a _ ha), rfl, rfl, _, rfl, ?_⟩
    rw [wd_tk]
    by_cases c : wd = .take
    · refine iteTb (decide_eq_true c) ⟨_, rfl, b, _, _, _, rfl, rfl, SqL.of (st b _ hb1), rfl, rfl, _, rfl, ?_⟩
      dsimp only at q
      by_cases c3 : h = 3
      · rw [if_pos ⟨c, c3⟩] at q
        exact iteTb (decide_eq_true (by rw [c3])) (q _ (s1.trans st))
      · rw [if_neg (fun z => c3 z.2)] at q
        exact iteFb (decide_eq_false (fun z => c3 (by injection z))) (q _ (s1.trans st))
    · dsimp only at q
      rw [if_neg (fun z => c z.1)] at q
      exact iteFb (decide_eq_false c) (q _ (s1.trans st))
  | nam bb y =>
    rw [sh] at q
    obtain rfl := shape_nam sh
    rw [Dv.at] at hx1
    obtain ⟨a, xs, rfl, ha, _, _, hs⟩ := hx1
    rw [atL] at hs
    obtain ⟨v0, vs, rfl, h0, hr0⟩ := hs
    rw [Dv.at] at h0
    obtain ⟨rfl, _⟩ := h0
    rw [atL] at hr0
    obtain ⟨v1, vs, rfl, h1, hr1⟩ := hr0
    rw [atL] at hr1
    subst hr1
    refine iteF ?_
    refine ⟨_, rfl, a, _, _, _, rfl, rfl, SqT.of ha, rfl, rfl, _, rfl, iteFb (lk_ne bb) ?_⟩
    refine ⟨_, rfl, a, _, _, _, rfl, rfl, SqT.of ha, rfl, (by show 2 ≤ sizeLine; decide), fun t ht => ⟨t, _, rfl, .inl (SqL.of upd_same), rfl, rfl, _, rfl, iteTb (lk_in bb) ?_⟩⟩
    have st := same_new ht (.lst [.str "lock", .str "unlock"])
    refine ⟨_, rfl, a, _, _, _, rfl, rfl, SqT.of (st a _ ha), rfl, v1, y, rfl, Dv.keep (VK.same st) _ _ h1, fun H2 s2 => ⟨_, rfl, ?_⟩⟩
    dsimp only at q
    cases hn : nameD y with
    | true =>
      rw [if_pos hn] at q
      refine iteF ⟨_, rfl, a, _, _, _, rfl, rfl, SqT.of ((st.trans s2) a _ ha), rfl, rfl, _, rfl, iteFb (lk_tk bb) (q _ (s1.trans (st.trans s2)))⟩
    | false =>
      rw [if_neg (by rw [hn]; decide)] at q
      exact iteT (q _ (s1.trans (st.trans s2)))
  | ch y no =>
    rw [sh] at q
    obtain rfl := shape_ch sh
    rw [Dv.at] at hx1
    obtain ⟨a, xs, rfl, ha, _, _, hs⟩ := hx1
    rw [atL] at hs
    obtain ⟨v0, vs, rfl, h0, hr0⟩ := hs
    rw [Dv.at] at h0
    obtain ⟨rfl, _⟩ := h0
    rw [atL] at hr0
    obtain ⟨v1, vs, rfl, h1, hr1⟩ := hr0
    rw [atL] at hr1
    obtain ⟨v2, vs, rfl, h2, hr2⟩ := hr1
    rw [atL] at hr2
    subst hr2
    refine iteF ?_
    refine ⟨_, rfl, a, _, _, _, rfl, rfl, SqT.of ha, rfl, rfl, _, rfl, iteTb (by decide +kernel) ?_⟩
    refine ⟨_, rfl, _, _, rfl, rfl, _, rfl, ?_⟩
    dsimp only at q
    by_cases c2 : d = 2
    · rw [if_pos c2] at q
      exact iteTb (decide_eq_true (by omega)) (q H1 s1)
    · rw [if_neg c2] at q
      refine iteFb (decide_eq_false (by omega)) ?_
      refine ⟨_, rfl, a, _, _, _, rfl, rfl, SqT.of ha, rfl, (by show 2 ≤ sizeLine; decide), fun t ht => ⟨t, _, rfl, .inl (SqL.of upd_same), rfl, rfl, _, rfl, iteFb ch_in ?_⟩⟩
      have st := same_new ht (.lst [.str "lock", .str "unlock"])
      exact ⟨_, rfl, a, _, _, _, rfl, rfl, SqT.of (st a _ ha), rfl, rfl, _, rfl, iteFb (by decide +kernel) (q _ (s1.trans st))⟩
theorem scRd : FnScope nsR psR (defScope sLRead) := ⟨rfl, rfl, rfl, by decide +kernel, rfl, by decide +kernel, by decide +kernel⟩
theorem ok_read {m : Nat} {f fF : Addr} {fd fdF : FuncData} (F : Fun K "_law_read" "_law_read" sLRead f fd) (B : Bl mg) (T : Txt K w mg CS CK it)
    (GF : FnOk P w K mg base CX0 2 fF fdF ["_law_value", "_law_depth", "_law_box"] spLFault) (bF : Binds K fdF ["_law_value", "_law_depth", "_law_box"] []) (kF : PySem.W.keepIn K (.ref fF) = true) (mF : mg "_law_fault" = some (.ref fF))
    (GR : FnOk P w K mg base CX0 (2 + m) f fd psR (spRead m)) (bR : Binds K fd psR []) (mR : mg "_law_read" = some (.ref f)) : FnOk P w K mg base CX0 (2 + m + 1) f fd psR (spRead (m + 1)) := by
  have kR := F.kp
  refine F.ok scRd (fun vs H Q E h => ?_) (fun cdv A outer s H vs Q E hr h => ?_)
  · obtain ⟨t, u, b, xs, B, d, p, n, h, rfl, _⟩ := h
    rfl
  obtain ⟨t, u, b, xs, S, d, p, n, h, rfl, hd3, hd2, ht, hS, l30, hu, hp, hb, q⟩ := h
  have nd := scRd.nd
  have hr2 : Room 2 _ := hr.mono (by omega)
  have ed : 2 - m = d := by omega
  refine ⟨_, (pss_cons (ps_for PassesOwn.never rfl (pi_range1 rfl B.range (pa_cons (pe_callB call_len_seq (by rfl) B.len PySem.boot_len (pa_cons (pv 0) pa_nil)) pa_nil)) (pg_name (i := 4) nd rfl (Or.inl rfl)) (pss_cons (ps_set (i := 5) nd rfl (Or.inl rfl) (pe_op op_catA (pv 1) (pe_tup (pa_cons (pv 4) pa_nil))))
 (pss_cons (ps_set (i := 6) nd rfl (Or.inl rfl) (pe_call GF hr2 rfl mF kF bF .nil pass0 (pa_cons (pe_ix ix_tup (pv 0) (pv 4) (fun _ _ => rfl)) (pa_cons (pv 2) (pa_cons (pv 3) pa_nil)))))
 (pss_cons (ps_if (pt_cmpR op_notN (pv 6) (pe_non) (nomark _)) (pss_one (ps_ret (pe_tup (pa_cons (pv 5) (pa_cons (pv 6) pa_nil))))) pss_nil)
 (pss_cons (ps_asg (pe_op op_add (pe_ix ix_list (pv 3) (pe_int) (fun _ _ => rfl)) (pe_int)) (pg_sub (pv 3) (pe_int) set_list))
 (pss_cons (ps_set (i := 7) nd rfl (Or.inl rfl) (pe_ix ix_tup (pe_ix ix_tup (pv 0) (pv 4) (fun _ _ => rfl)) (pe_int) (fun _ _ => rfl)))
 (pss_one (ps_if (pt_cmpR op_eq (pv 7) (pe_str) (nomark _)) (pss_cons (ps_set (i := 8) nd rfl (Or.inl rfl) (pe_ix ix_list (pv 3) (pe_int) (fun _ _ => rfl)))
 (pss_cons (ps_set (i := 9) nd rfl (Or.inl rfl) (pe_call GR hr rfl mR kR bR .nil pass0 (pa_cons (pe_ix ix_tup (pe_ix ix_tup (pv 0) (pv 4) (fun _ _ => rfl)) (pe_int) (fun _ _ => rfl)) (pa_cons (pe_op op_catA (pv 5) (pe_tup (pa_cons (pe_int) pa_nil))) (pa_cons (pe_op op_add (pv 2) (pe_int)) (pa_cons (pv 3) pa_nil))))))
 (pss_cons (ps_if (pt_cmpR op_notN (pv 9) (pe_non) (nomark _)) (pss_one (ps_ret (pv 9))) pss_nil)
 (pss_cons (ps_set (i := 10) nd rfl (Or.inl rfl) (pe_ix ix_list (pv 3) (pe_int) (fun _ _ => rfl)))
 (pss_cons (ps_asg (pv 8) (pg_sub (pv 3) (pe_int) set_list))
 (pss_cons (ps_set (i := 9) nd rfl (Or.inl rfl) (pe_call GR hr rfl mR kR bR .nil pass0 (pa_cons (pe_ix ix_tup (pe_ix ix_tup (pv 0) (pv 4) (fun _ _ => rfl)) (pe_int) (fun _ _ => rfl)) (pa_cons (pe_op op_catA (pv 5) (pe_tup (pa_cons (pe_int) pa_nil))) (pa_cons (pe_op op_add (pv 2) (pe_int)) (pa_cons (pv 3) pa_nil))))))
 (pss_cons (ps_if (pt_cmpR op_notN (pv 9) (pe_non) (nomark _)) (pss_one (ps_ret (pv 9))) pss_nil)
 (pss_one (ps_asg (pe_callB (call_max2 rfl) (by rfl) B.max (by decide +kernel) (pa_cons (pv 10) (pa_cons (pe_ix ix_list (pv 3) (pe_int) (fun _ _ => rfl)) pa_nil))) (pg_sub (pv 3) (pe_int) set_list)))))))))) (pss_one (ps_if (pt_cmpR op_eq (pv 7) (pe_str) (nomark _)) (pss_one (ps_asg (pe_op op_add (pe_ix ix_list (pv 3) (pe_int) (fun _ _ => rfl)) (pe_int)) (pg_sub (pv 3) (pe_int) set_list))) (pss_one (ps_if (pt_cmpR op_in_seq (pv 7) (pe_lst (pa_cons (pe_str) (pa_cons (pe_str) (pa_cons (pe_str) pa_nil)))) (by rfl)) (pss_one (ps_asg (pe_int) (pg_sub (pv 3) (pe_int) set_list))) pss_nil))))))))))))
 (pss_one (ps_ret (pe_non)))), ?_⟩
  have hl := atL_len hS
  have hchk : chkB (m + 1) S p n h = loopB (chkV d (chkB m)) S p 0 n h := by rw [← ed]; rfl
  rw [hchk] at q
  refine ⟨_, rfl, t, xs, rfl, .inr (SqT.of ht), _, rfl, by omega, by omega, ?_⟩
  refine for_range (lo := 0) (n := xs.length) (fun i σ H2 => ∃ (v4 v5 v6 v7 v8 v9 v10 : Option V) (n' : Nat) (h' : Int), σ = [some (.ref t), some (.ref u), some (.int (d : Nat)), some (.ref b), v4, v5, v6, v7, v8, v9, v10] ∧ loopB (chkV d (chkB m)) (S.take i) p 0 n h = .inr (n', h') ∧
    H2 b = some (.lst [.int (n' : Nat), .int h']) ∧ Kp b H H2) ?_ ?_ ?_
  · exact ⟨none, none, none, none, none, none, none, n, h, rfl, by rw [List.take_zero, loopB], hb, Kp.refl _ _⟩
  · rintro i σ H2 hi ⟨v4, v5, v6, v7, v8, v9, v10, n', h', rfl, hloop, hb2, k2⟩
    have vk2 := VK.kl k2 hb hb2
    have lt : i < S.length := by omega
    have hs : S[i]? = some S[i] := List.getElem?_eq_getElem lt
    obtain ⟨v, hv, sv⟩ := atL_get hS hs
    have et : S.take (i + 1) = S.take i ++ [S[i]] := by rw [List.take_add_one, hs]; rfl
    have li : (S.take i).length = i := by rw [List.length_take]; omega
    have step : loopB (chkV d (chkB m)) (S.take (i + 1)) p 0 n h = (match chkV d (chkB m) S[i] (p ++ [((i : Nat) : Int)]) n' h' with
        | .inl e => .inl e
        | .inr (n2, h2) => .inr (n2, h2)) := by
      rw [et, loopB_app, hloop]
      show loopB (chkV d (chkB m)) [S[i]] p (0 + (S.take i).length) n' h' = _
      rw [li, Nat.zero_add, loopB]
      cases chkV d (chkB m) S[i] (p ++ [((i : Nat) : Int)]) n' h' with
      | inl e => rfl
      | inr r => obtain ⟨_, _⟩ := r; rfl
    have whole : ∀ e, chkV d (chkB m) S[i] (p ++ [((i : Nat) : Int)]) n' h' = .inl e → Told b H Q (.inl e) := fun e he => by
      have w : loopB (chkV d (chkB m)) S p 0 n h = .inl e := by
        have z : S = S.take (i + 1) ++ S.drop (i + 1) := (List.take_append_drop _ _).symm
        rw [z, loopB_app, step, he]
      rw [w] at q; exact q
    have e0 : (0 : Int) + ((i : Nat) : Int) = ((i : Nat) : Int) := by omega
    refine ⟨_, rfl, _, rfl, (by show 1 ≤ sizeLine; decide), fun t1 ht1 => ?_⟩
    refine cat_one (p := p) (j := (0 : Int) + (i : Nat)) (vk2.tup _ _ hu) (by omega) (fun y H3 hy s3 => ?_) t1 ht1
    rw [e0] at hy
    have ati : atI xs ((0 : Int) + ((i : Nat) : Int)) = some v := by rw [e0]; exact atI_nat hv
    have vk3 := vk2.trans (VK.same s3)
    have k3 := k2.trans (Kp.of_same s3)
    have hb3 := s3 _ _ hb2
    refine ⟨_, rfl, _, rfl, t, xs, _, v, rfl, rfl, SqT.of (vk3.tup _ _ ht), ati, _, rfl, _, rfl, v, b, S[i], d, n', h', rfl, Dv.keep vk3 _ _ sv, hb3, hd2, fun H4 s4 => ?_⟩
    have hb4 := s4 _ _ hb3
    have k4 := k3.trans (Kp.of_same s4)
    have hy4 := s4 _ _ hy
    have vk4 := vk3.trans (VK.same s4)
    cases hf : faultD n' d h' S[i] with
    | some z =>
      have ce : chkV d (chkB m) S[i] (p ++ [((i : Nat) : Int)]) n' h' = .inl (p ++ [((i : Nat) : Int)], z) := by unfold chkV; rw [hf]
      refine ⟨_, rfl, rfl, _, rfl, iteT ⟨_, rfl, _, rfl, (by show 2 ≤ sizeLine; decide), fun z2 hz2 => ?_⟩⟩
      have s5 := same_new hz2 (.tup [.ref y, .str z])
      exact whole _ ce z2 y _ _ (k4.trans (Kp.of_same s5)) (s5 _ _ hb4) upd_same (s5 _ _ hy4)
    | none =>
    obtain ⟨ne8, nbad, nch⟩ := fault_none hf
    have ck : chkV d (chkB m) S[i] (p ++ [((i : Nat) : Int)]) n' h' = (match shape S[i] with
      | .bad => .inr (n' + 1, h')
      | .one w => .inr (n' + 1, w.held h')
      | .nam _ _ => .inr (n' + 1, h')
      | .ch y no => match chkB m y (p ++ [((i : Nat) : Int)] ++ [0]) (n' + 1) h' with
        | .inl e => .inl e
        | .inr (n1, h1) => match chkB m no (p ++ [((i : Nat) : Int)] ++ [1]) n1 h' with
          | .inl e => .inl e
          | .inr (n2, h2) => .inr (n2, max h1 h2)) := by unfold chkV; rw [hf] <;> cases shape S[i] <;> rfl
    refine ⟨_, rfl, rfl, _, rfl, iteF ?_⟩
    refine ⟨_, rfl, b, _, _, _, rfl, rfl, SqL.of hb4, rfl, _, _, rfl, rfl, _, rfl, b, _, _, _, rfl, rfl, hb4, rfl, ?_⟩
    have k5 : Kp b H (L2.upd H4 b (.lst [.int ((n' + 1 : Nat) : Int), .int h'])) := k4.trans Kp.upd
    have hb5 : (L2.upd H4 b (.lst [.int ((n' + 1 : Nat) : Int), .int h'])) b = some (.lst [.int ((n' + 1 : Nat) : Int), .int h']) := upd_same
    have vk5 := VK.kl k5 hb hb5
    have sv5 := Dv.keep vk5 _ _ sv
    have ht5 := vk5.tup _ _ ht
    have hy5 : (L2.upd H4 b (.lst [.int ((n' + 1 : Nat) : Int), .int h'])) y = some (.tup ((p ++ [((i : Nat) : Int)]).map V.int)) := by
      rw [upd_ne (ne_of hy4 hb4 (by intro z; cases z))]; exact hy4
    have tail : ∀ (n2 : Nat) (h2 : Int), chkV d (chkB m) S[i] (p ++ [((i : Nat) : Int)]) n' h' = .inr (n2, h2) → loopB (chkV d (chkB m)) (S.take (i + 1)) p 0 n h = .inr (n2, h2) := fun n2 h2 e => by rw [step, e]
    cases sh : shape S[i] with
    | bad => exact absurd sh nbad
    | one wd =>
      rw [sh] at ck
      have es := shape_one sh
      rw [es, Dv.at] at sv5
      obtain ⟨a, ys, rfl, ha, _, _, hss⟩ := sv5
      rw [atL] at hss
      obtain ⟨v0, vs, rfl, h0, hr0⟩ := hss
      rw [Dv.at] at h0
      obtain ⟨rfl, _⟩ := h0
      rw [atL] at hr0
      subst hr0
      refine ⟨_, rfl, _, rfl, t, xs, _, .ref a, rfl, rfl, SqT.of ht5, ati, a, _, _, _, rfl, rfl, SqT.of ha, rfl, ?_⟩
      refine ⟨_, rfl, rfl, _, rfl, iteFb (wd_ne wd) ?_⟩
      refine ⟨_, rfl, rfl, _, rfl, ?_⟩
      rw [wd_tk]
      by_cases ct : wd = .take
      · subst ct
        refine iteTb (decide_eq_true rfl) ⟨_, rfl, b, _, _, _, rfl, rfl, SqL.of hb5, rfl, _, _, rfl, rfl, _, rfl, b, _, _, _, rfl, rfl, hb5, rfl, ?_⟩
        exact ⟨_, _, _, _, _, _, _, n' + 1, h' + 1, rfl, tail _ _ ck, upd_same, k5.trans Kp.upd⟩
      · refine iteFb (decide_eq_false ct) ?_
        refine ⟨_, rfl, (by show 3 ≤ sizeLine; decide), fun t6 ht6 => ⟨t6, _, rfl, .inl (SqL.of upd_same), rfl, rfl, _, rfl, ?_⟩⟩
        have s6 := same_new ht6 (.lst [.str "commit", .str "rollback", .str "leave"])
        show if (inV (V.str wd.s) [V.str "commit", V.str "rollback", V.str "leave"]) = true then _ else _
        rw [wd_lv]
        by_cases cl : wd = .commit ∨ wd = .rollback ∨ wd = .leave
        · refine iteTb (decide_eq_true cl) ⟨_, rfl, b, _, _, _, rfl, rfl, s6 _ _ hb5, rfl, ?_⟩
          have e0' : wd.held h' = 0 := by rcases cl with rfl | rfl | rfl <;> rfl
          dsimp only at ck
          rw [e0'] at ck
          exact ⟨_, _, _, _, _, _, _, n' + 1, 0, rfl, tail _ _ ck, upd_same, (k5.trans (Kp.of_same s6)).trans Kp.upd⟩
        · refine iteFb (decide_eq_false cl) ?_
          have e0' : wd.held h' = h' := by cases wd <;> first | rfl | exact absurd rfl ct | exact absurd (by simp) cl
          dsimp only at ck
          rw [e0'] at ck
          exact ⟨_, _, _, _, _, _, _, n' + 1, h', rfl, tail _ _ ck, s6 _ _ hb5, k5.trans (Kp.of_same s6)⟩
    | nam bb y' =>
      rw [sh] at ck
      have es := shape_nam sh
      rw [es, Dv.at] at sv5
      obtain ⟨a, ys, rfl, ha, _, _, hss⟩ := sv5
      rw [atL] at hss
      obtain ⟨v0, vs, rfl, h0, hr0⟩ := hss
      rw [Dv.at] at h0
      obtain ⟨rfl, _⟩ := h0
      rw [atL] at hr0
      obtain ⟨v1, vs, rfl, h1, hr1⟩ := hr0
      rw [atL] at hr1
      subst hr1
      refine ⟨_, rfl, _, rfl, t, xs, _, .ref a, rfl, rfl, SqT.of ht5, ati, a, _, _, _, rfl, rfl, SqT.of ha, rfl, ?_⟩
      refine ⟨_, rfl, rfl, _, rfl, iteFb (lk_ne bb) ?_⟩
      refine ⟨_, rfl, rfl, _, rfl, iteFb (lk_tk bb) ?_⟩
      refine ⟨_, rfl, (by show 3 ≤ sizeLine; decide), fun t6 ht6 => ⟨t6, _, rfl, .inl (SqL.of upd_same), rfl, rfl, _, rfl, iteFb (lk_lv bb) ?_⟩⟩
      have s6 := same_new ht6 (.lst [.str "commit", .str "rollback", .str "leave"])
      exact ⟨_, _, _, _, _, _, _, n' + 1, h', rfl, tail _ _ ck, s6 _ _ hb5, k5.trans (Kp.of_same s6)⟩
    | ch yy no =>
      rw [sh] at ck
      have d2 := nch yy no sh
      have es := shape_ch sh
      rw [es, Dv.at] at sv5
      obtain ⟨a, ys, rfl, ha, _, _, hss⟩ := sv5
      rw [atL] at hss
      obtain ⟨v0, vs, rfl, h0, hr0⟩ := hss
      rw [Dv.at] at h0
      obtain ⟨rfl, _⟩ := h0
      rw [atL] at hr0
      obtain ⟨v1, vs, rfl, h1, hr1⟩ := hr0
      rw [atL] at hr1
      obtain ⟨v2, vs, rfl, h2, hr2⟩ := hr1
      rw [atL] at hr2
      subst hr2
      rw [Dv.at] at h1 h2
      obtain ⟨b1, zs, rfl, hb1, ly, _, aty⟩ := h1
      obtain ⟨b2, ns, rfl, hb2', ln, _, atn⟩ := h2
      dsimp only at ck
      refine ⟨_, rfl, _, rfl, t, xs, _, .ref a, rfl, rfl, SqT.of ht5, ati, a, _, _, _, rfl, rfl, SqT.of ha, rfl, ?_⟩
      refine ⟨_, rfl, rfl, _, rfl, iteTb (by decide +kernel) ?_⟩
      refine ⟨_, rfl, b, _, _, _, rfl, rfl, SqL.of hb5, rfl, ?_⟩
      refine ⟨_, rfl, _, rfl, t, xs, _, .ref a, rfl, rfl, SqT.of ht5, ati, a, _, _, _, rfl, rfl, SqT.of ha, rfl, ?_⟩
      refine ⟨_, rfl, (by show 1 ≤ sizeLine; decide), fun t6 ht6 => ?_⟩
      refine cat_one (p := p ++ [((i : Nat) : Int)]) (j := 0) hy5 (by simp; omega) (fun y1 H7 hy1 s7 => ?_) t6 ht6
      have hb7 := s7 _ _ hb5
      have vk7 := VK.same s7
      have k7 := k5.trans (Kp.of_same s7)
      refine ⟨_, rfl, _, _, rfl, rfl, _, rfl, b1, y1, b, zs, yy, d + 1, p ++ [((i : Nat) : Int)] ++ [0], n' + 1, h', rfl, by omega, by omega, s7 _ _ hb1, atL_keep vk7 _ _ aty, ly, hy1, by simp; omega, hb7, ?_⟩
      cases c1 : chkB m yy (p ++ [((i : Nat) : Int)] ++ [0]) (n' + 1) h' with
      | inl e =>
        rw [c1] at ck
        intro z u2 ys2 H8 k8 hb8 hz hu2
        exact ⟨_, rfl, rfl, _, rfl, iteT ⟨_, rfl, whole e ck z u2 ys2 H8 (k7.trans k8) hb8 hz hu2⟩⟩
      | inr r =>
      obtain ⟨n1, h1⟩ := r
      rw [c1] at ck
      dsimp only at ck
      intro H8 k8 hb8
      dsimp only at hb8
      refine ⟨_, rfl, rfl, _, rfl, iteF ?_⟩
      refine ⟨_, rfl, b, _, _, _, rfl, rfl, SqL.of hb8, rfl, ?_⟩
      refine ⟨_, rfl, _, rfl, b, _, _, _, rfl, rfl, hb8, rfl, ?_⟩
      have k9 : Kp b H (L2.upd H8 b (.lst [.int (n1 : Nat), .int h'])) := (k7.trans k8).trans Kp.upd
      have hb9 : (L2.upd H8 b (.lst [.int (n1 : Nat), .int h'])) b = some (.lst [.int (n1 : Nat), .int h']) := upd_same
      have vk79 : VK H7 (L2.upd H8 b (.lst [.int (n1 : Nat), .int h'])) := VK.kl (k8.trans Kp.upd) hb7 hb9
      have vk59 := vk7.trans vk79
      refine ⟨_, rfl, _, rfl, t, xs, _, .ref a, rfl, rfl, SqT.of (vk59.tup _ _ ht5), ati, a, _, _, _, rfl, rfl, SqT.of (vk59.tup _ _ ha), rfl, ?_⟩
      refine ⟨_, rfl, (by show 1 ≤ sizeLine; decide), fun t8 ht8 => ?_⟩
      refine cat_one (p := p ++ [((i : Nat) : Int)]) (j := 1) (vk59.tup _ _ hy5) (by simp; omega) (fun y2 H10 hy2 s10 => ?_) t8 ht8
      have vk10 := vk59.trans (VK.same s10)
      have hb10 := s10 _ _ hb9
      have k10 := k9.trans (Kp.of_same s10)
      refine ⟨_, rfl, _, _, rfl, rfl, _, rfl, b2, y2, b, ns, no, d + 1, p ++ [((i : Nat) : Int)] ++ [1], n1, h', rfl, by omega, by omega, vk10.tup _ _ hb2', atL_keep vk10 _ _ atn, ln, hy2, by simp; omega, hb10, ?_⟩
      cases c2 : chkB m no (p ++ [((i : Nat) : Int)] ++ [1]) n1 h' with
      | inl e =>
        rw [c2] at ck
        intro z u2 ys2 H11 k11 hb11 hz hu2
        exact ⟨_, rfl, rfl, _, rfl, iteT ⟨_, rfl, whole e ck z u2 ys2 H11 (k10.trans k11) hb11 hz hu2⟩⟩
      | inr r =>
      obtain ⟨n2, h2⟩ := r
      rw [c2] at ck
      dsimp only at ck
      intro H11 k11 hb11
      dsimp only at hb11
      refine ⟨_, rfl, rfl, _, rfl, iteF ?_⟩
      refine ⟨_, rfl, _, rfl, b, _, _, _, rfl, rfl, SqL.of hb11, rfl, _, _, rfl, ?_⟩
      refine ⟨_, rfl, b, _, _, _, rfl, rfl, hb11, rfl, ?_⟩
      refine ⟨_, _, _, _, _, _, _, n2, max h1 h2, rfl, tail _ _ ck, ?_, (k10.trans k11).trans Kp.upd⟩
      rw [upd_same, ← max_if]
      rfl
  · rintro σ H2 ⟨v4, v5, v6, v7, v8, v9, v10, n', h', rfl, hloop, hb2, k2⟩
    rw [hl, List.take_length] at hloop
    rw [hloop] at q
    exact q H2 k2 hb2
end
end Tk
set_option maxRecDepth 100000
namespace L2
open PySem PySem.Spec PyProof.Rows
/-- a != b, two tuples of the very same items -/
def rNeS (K : PySem.W.Frag) : R2 := fun x y H Q => ∃ (a b : Addr) (xs : List V), x = .ref a ∧ y = .ref b ∧ SqT K H a xs ∧ SqT K H b xs ∧ (∀ v ∈ xs, flatB v = true ∨ ∃ c, v = .ref c) ∧ Q (.bl false) H
theorem same_items {A : Around} {s : Shared} {xs : List V} : ∀ {us ws : List Value}, Vals xs us → Vals xs ws → (∀ v ∈ xs, flatB v = true ∨ ∃ c, v = .ref c) → ∀ j (h1 : j < us.length) (h2 : j < ws.length), SeqAt.EqAt A s us[j] ws[j] true := by
  induction xs with
  | nil => intro us ws r1 r2 hf j h1 h2; cases r1; exact absurd h1 (Nat.not_lt_zero j)
  | cons x r ih =>
    intro us ws r1 r2 hf j h1 h2
    cases r1 with
    | cons a1 b1 =>
      cases r2 with
      | cons a2 b2 =>
        cases j with
        | zero =>
          rcases hf x List.mem_cons_self with f | ⟨c, rfl⟩
          · exact eqAt_same a1 a2 f
          · cases (show _ = Value.ref c from a1)
            cases (show _ = Value.ref c from a2)
            exact SeqAt.EqAt.same _
        | succ j => exact ih b1 b2 (fun v m => hf v (List.mem_cons_of_mem _ m)) j (Nat.lt_of_succ_lt_succ h1) (Nat.lt_of_succ_lt_succ h2)
theorem op_neS {X : Cx} (hu : X.A.units < cLine) : OpR X (compareOp .NotEq) (rNeS X.K) := by
  intro pins s σ H x y v u Q I rx ry h
  obtain ⟨a, b, xs, rfl, rfl, ha, hb, hf, q⟩ := h
  obtain rfl : v = Value.ref a := rx
  obtain rfl : u = Value.ref b := ry
  obtain ⟨us, r1, p1, _⟩ := I.tuple ha
  obtain ⟨ws, r2, p2, _⟩ := I.tuple hb
  have hl : us.length = ws.length := by rw [← r1.length, ← r2.length]
  have z := SeqAt.RcNeAt.tuples (A := X.A) (s := s) (e := fun _ => true) (l := a) (b := b) (items := us.toArray) (items2 := ws.toArray) p1 p2 hu (fun j h1 h2 => by
    have k := same_items (A := X.A.in1) (s := s) r1 r2 hf j (by simpa using h1) (by simpa using h2)
    simpa using k)
  have e : (!((List.range (min us.toArray.size ws.toArray.size)).all (fun _ => true) && us.toArray.size == ws.toArray.size)) = false := by
    rw [show ((List.range (min us.toArray.size ws.toArray.size)).all fun _ => true) = true from List.all_eq_true.mpr fun _ _ => rfl]
    simp [hl]
  rw [e] at z
  exact z X.prog X.w _ _ ⟨.bl false, H, I, rfl, q⟩
/-! ### C(e, ..) where an error may come out of its __init__, as the wish at these slots says -/
def tMakeS (C : Addr) (sp : Sp) (E : St → XK) (t : TA) : TE := fun σ H Q => t σ H fun vs H1 => ∀ x dx, H1 x = none → H1 dx = none → dx ≠ x → sp (.ref x :: vs) (upd (upd H1 dx (.own x)) x (.ins C dx [])) (fun v H2 => v = .non ∧ Q (.ref x) H2) (E σ)
theorem pe_makeS {X : Cx} {CX : CXT} {k : Nat} {C f : Addr} {fd : FuncData} {ps : List Str} {sp : Sp} {E : St → XK} {x : Str} {p pos : Pos} {e : Expr} {es : List Expr} {t : TA} (M : Mk X.K C f) (F : FnOk X.prog X.w X.K X.mg X.base CX k f fd ps sp) (hr : Room (k + 1) X.A) (hg : Gl X x) (hm : X.mg x = some (.ref C)) (hb : Binds X.K fd ps []) (hx : ∀ σ, PassesAt CX X σ (E σ))
    (ha : PA X (e :: es) t) (hdb : (x == ("__debug__" : Str)) = false := by decide) (he : starEach (e :: es) X.env = (false, eval e X.env) :: starEach es X.env := by rfl) (hpl : (backTo pos (starEach es X.env)).any (·.1) = false := by rfl) :
    PE X (.Call (.Name x p) (e :: es) [] pos) (tMakeS C sp E t) := by
  constructor
  intro pins s σ H Q I h
  refine wpAny_Call_Name_kw (ld_glob I hg hm ?_ hdb)
  refine PySem.W.callWith_K (h₀ := X.base) I.ok.mod.kin M.kp (thn (ha.run pos pins s σ H _ I h) fun us s1 z => ?_) he hpl
  obtain ⟨vs, H1, J, r, q⟩ := z
  refine ⟨J.kIn, ?_⟩
  have q1 := q (s1.heap.objs.size + 1) s1.heap.objs.size (J.hok.fresh (Nat.le_succ _)) (J.hok.fresh (Nat.le_refl _)) (Nat.ne_of_lt (Nat.lt_succ_self _))
  have J2 := Inv.made (C := C) J
  have rr : Vals (V.ref (s1.heap.objs.size + 1) :: vs) (Value.ref (s1.heap.objs.size + 1) :: us) := .cons rfl r
  have hl : (Value.ref (s1.heap.objs.size + 1) :: us ++ []).length = ps.length := by
    rw [List.append_nil, ← rr.length]; exact F.len _ _ _ _ q1
  have bd := hb _ (Value.ref (s1.heap.objs.size + 1) :: us) J2.kIn hl
  rw [List.append_nil] at bd
  refine wpAny_call (make_map (f := f) J.kIn M.makes M.init (beq_iff_eq.mp M.fn) (codeAny_mono (F.run _ X.stack _ _ ⟨Value.ref (s1.heap.objs.size + 1) :: us, []⟩ _ _ _ (E σ) (hr.make C us []) (J2.env0.make C us []) bd rr q1) fun res s' hq => ?_))
  match res, hq with
  | .error err, hq => exact hx σ pins _ _ err s' J2 hq
  | .ok (.ret u), hq =>
    obtain ⟨v, H', J3, rv, ev, q3⟩ := J2.after hq
    subst ev
    exact ⟨rv, ⟨V.ref (s1.heap.objs.size + 1), H', J3, rfl, q3⟩⟩
end L2
set_option maxRecDepth 100000
namespace Tk
open PySem L2
abbrev sLDue : Stmt := top 31
abbrev sLTold : Stmt := top 32
/-- what is told of a value: the first fault, or nothing -/
def Says (H : Hp) (Q : L2.VK) : Option (Pl × Str) → Prop
  | none => ∀ H' : Hp, Same H H' → Q .non H'
  | some e => ∀ (z u : Addr) (H' : Hp), Same H H' → H' z = some (.tup [.ref u, .str e.2]) → H' u = some (.tup (e.1.map V.int)) → Q (.ref z) H'
def spSays : Sp := fun vs H Q _ => ∃ (v : V) (d : Dv), vs = [v] ∧ d.at H v ∧ Says H Q (dueD d)
theorem at_flat {H : Hp} : ∀ {ds : List Dv} {xs : List V}, atL H xs ds → ∀ v ∈ xs, flatB v = true ∨ ∃ c, v = .ref c
  | [], xs, h, v, hv => by rw [atL] at h; rw [h] at hv; cases hv
  | d :: r, xs, h, v, hv => by
    rw [atL] at h
    obtain ⟨v0, vs, rfl, h0, hr⟩ := h
    rcases List.mem_cons.mp hv with rfl | hv
    · cases d with
      | non => rw [Dv.at] at h0; subst h0; exact .inl rfl
      | bl b => rw [Dv.at] at h0; subst h0; exact .inl rfl
      | int i => rw [Dv.at] at h0; subst h0; exact .inl rfl
      | str z => rw [Dv.at] at h0; obtain ⟨rfl, _⟩ := h0; exact .inl rfl
      | lst => rw [Dv.at] at h0; obtain ⟨a, ys, rfl, _⟩ := h0; exact .inr ⟨_, rfl⟩
      | dct => rw [Dv.at] at h0; obtain ⟨a, rfl, _⟩ := h0; exact .inr ⟨_, rfl⟩
      | tup es => rw [Dv.at] at h0; obtain ⟨a, ys, rfl, _⟩ := h0; exact .inr ⟨_, rfl⟩
    · exact at_flat hr v hv
section
variable {P : Program} {w : World} {K : PySem.W.Frag} {mg : Str → Option Value} {base : Heap} {CS CK it CB CN CT : Addr}
theorem scDu : FnScope ["_law_statements"] ["_law_statements"] (defScope sLDue) := ⟨rfl, rfl, rfl, by decide +kernel, rfl, by decide +kernel, by decide +kernel⟩
theorem ok_ldue {f fR : Addr} {fd fdR : FuncData} (F : Fun K "_law_due" "_law_due" sLDue f fd) (B : Bl mg) (T : Txt K w mg CS CK it)
    (GR : FnOk P w K mg base CX0 5 fR fdR psR (spRead 3)) (bR : Binds K fdR psR []) (kR : PySem.W.keepIn K (.ref fR) = true) (mR : mg "_law_read" = some (.ref fR)) : FnOk P w K mg base CX0 6 f fd ["_law_statements"] spSays := by
  refine F.ok scDu (fun vs H Q E h => ?_) (fun cdv A outer s H vs Q E hr h => ?_)
  · obtain ⟨v, d, rfl, _⟩ := h
    rfl
  obtain ⟨v, d, rfl, hd, q⟩ := h
  refine ⟨_, (pss_cons (ps_if (pt_not (pt_val (pe_callB call_isi (by rfl) T.isi (by decide +kernel) (pa_cons (pv 0) (pa_cons (pe_bltn (v := .ty "tuple") (by rfl) B.tuple (by decide +kernel) rfl) pa_nil))))) (pss_one (ps_ret (pe_tup (pa_cons (pe_tup pa_nil) (pa_cons (pe_str) pa_nil))))) pss_nil)
 (pss_cons (ps_if (pt_cmpR op_eq (pe_callB call_len_seq (by rfl) B.len PySem.boot_len (pa_cons (pv 0) pa_nil)) (pe_int) (nomark _)) (pss_one (ps_ret (pe_tup (pa_cons (pe_tup pa_nil) (pa_cons (pe_str) pa_nil))))) pss_nil)
 (pss_one (ps_ret (pe_call GR hr rfl mR kR bR .nil pass0 (pa_cons (pv 0) (pa_cons (pe_tup pa_nil) (pa_cons (pe_int) (pa_cons (pe_lst (pa_cons (pe_int) (pa_cons (pe_int) pa_nil))) pa_nil))))))))), ?_⟩
  obtain ⟨T0, k0, e0, _⟩ := Dv.kd hd
  have pair : ∀ z : Str, dueD d = some ([], z) → ∀ u, H u = none → ∀ y, (L2.upd H u (.tup [])) y = none → Q (.ref y) (L2.upd (L2.upd H u (.tup [])) y (.tup [.ref u, .str z])) := fun z hz u hu y hy => by
    rw [hz] at q
    have s1 := same_new hu (.tup [])
    have s2 := same_new hy (.tup [.ref u, .str z])
    exact q y u _ (s1.trans s2) upd_same (s2 _ _ upd_same)
  cases it0 : isTup d with
  | false =>
    rw [it0] at e0
    have due : dueD d = some ([], ("form" : Str)) := by cases d <;> first | rfl | cases it0
    exact ⟨_, rfl, _, _, _, _, false, rfl, .ty "tuple", k0.ty, kit_ty e0, false, rfl, iteT ⟨(by show 0 ≤ sizeLine; decide), fun u hu => ⟨(by show 2 ≤ sizeLine; decide), fun y hy => pair _ due u hu y hy⟩⟩⟩
  | true =>
  cases d with
  | tup ds =>
    rw [Dv.at] at hd
    obtain ⟨t, xs, rfl, ht, l30, _, hS⟩ := hd
    refine ⟨_, rfl, _, _, _, _, true, rfl, .ty "tuple", .base (.tup ht), kit_ty (by decide +kernel), true, rfl, iteF ?_⟩
    refine ⟨_, rfl, t, xs, rfl, .inr (SqT.of ht), rfl, _, rfl, ?_⟩
    have hl := atL_len hS
    cases ds with
    | nil =>
      rw [atL] at hS
      subst hS
      exact iteTb (decide_eq_true rfl) ⟨(by show 0 ≤ sizeLine; decide), fun u hu => ⟨(by show 2 ≤ sizeLine; decide), fun y hy => pair _ rfl u hu y hy⟩⟩
    | cons x0 r0 =>
      refine iteFb (decide_eq_false fun e => by injection e with e; rw [hl, List.length_cons] at e; omega) ?_
      rw [due_tup] at q
      refine ⟨_, rfl, (by show 0 ≤ sizeLine; decide), fun u hu => ⟨(by show 2 ≤ sizeLine; decide), fun b hb => ?_⟩⟩
      have s1 := same_new hu (.tup [])
      have s2 := same_new hb (.lst [.int 0, .int 0])
      have s12 := s1.trans s2
      have nb : ∀ c o, H c = some o → c ≠ b := fun c o e => ne_of_none (s1 _ _ e) hb
      refine ⟨t, u, b, xs, x0 :: r0, 0, [], 0, 0, rfl, rfl, by decide, s12 _ _ ht, atL_keep (VK.same s12) _ _ hS, l30, s2 _ _ upd_same, by decide, upd_same, ?_⟩
      cases hc : chkB 3 (x0 :: r0) [] 0 0 with
      | inl e =>
        rw [hc] at q
        exact fun z u2 ys H' k hb' hz hu2 => q z u2 H' (fun c o e => k _ _ (s12 _ _ e) (nb _ _ e)) hz hu2
      | inr e =>
        rw [hc] at q
        exact fun H' k hb' => q H' (fun c o e => k _ _ (s12 _ _ e) (nb _ _ e))
  | _ => cases it0
theorem scTd : FnScope ["_law_statements", "_law_made", "e"] ["_law_statements"] (defScope sLTold) := ⟨rfl, rfl, rfl, by decide +kernel, rfl, by decide +kernel, by decide +kernel⟩
theorem ok_ltold {f fI fX : Addr} {fd fdI : FuncData} (F : Fun K "_law_told" "_law_told" sLTold f fd) (B : Bl mg) (T : Txt K w mg CS CK it) (TB : Ecl K mg "BadScript" "place" CB fX) (noW : PySem.W.findIn K (.ref CB) "why" = some none)
    (mT : mg "TakeError" = some (.ref CT)) (mV : mg "ValueError" = none) (mN : mg "NoPlace" = some (.ref CN)) (k1 : PySem.W.kitOne K (.ref CB) (.ref CT) = some true) (k2 : PySem.W.kitOne K (.ref CB) (.type "ValueError") = some true) (k3 : PySem.W.kitOne K (.ref CB) (.ref CN) = some false)
    (M : Mk K CS fI) (GI : FnOk P w K mg base (L2.CX P w) 9 fI fdI ["self", "statements"] (spSIx CS CB)) (bI : Binds K fdI ["self", "statements"] []) : FnOk P w K mg base CX0 11 f fd ["_law_statements"] spSays := by
  refine F.ok scTd (fun vs H Q E h => ?_) (fun cdv A outer s H vs Q E hr h => ?_)
  · obtain ⟨v, d, rfl, _⟩ := h
    rfl
  obtain ⟨v, d, rfl, hd, q⟩ := h
  have nd := scTd.nd
  have hu0 : _ < cLine := Nat.lt_of_succ_lt (hu_of hr)
  refine ⟨_, (pss_cons (ps_try_as (i := 2) rfl rfl scTd.nd rfl rfl ⟨rfl, by decide, .inl TB.gC⟩ takes0 (fun W pn xe tk _ => pss_one (ps_set (i := 1) nd rfl (Or.inl rfl) (pe_makeS M GI hr rfl T.mgS bI (fun σ => passAt tk σ) (pa_cons (pv 0) pa_nil)))) (fun a oe cls d pn hz hf => (pss_cons (ps_if (PW.pt (pw_or (pt_not (pt_val (pe_callB (call_isX TB hz hf) (by rfl) T.isi (by decide +kernel) (pa_cons (pv 2) (pa_cons (pe_glob (v := .ref CT) (by rfl) mT rfl) pa_nil))))) (pw_or (pt_not (pt_val (pe_callB (call_isX TB hz hf) (by rfl) T.isi (by decide +kernel) (pa_cons (pv 2) (pa_cons (pe_bltn (v := .ty "ValueError") (by rfl) mV (by decide +kernel) rfl) pa_nil))))) (pw_or1 (pt_val (pe_callB (call_isX TB hz hf) (by rfl) T.isi (by decide +kernel) (pa_cons (pv 2) (pa_cons (pe_glob (v := .ref CN) (by rfl) mN rfl) pa_nil)))))))) (pss_one (ps_ret (pe_str))) pss_nil)
 (pss_one (ps_ret (pe_tup (pa_cons (pe_xf TB.xf TB.noF hz hf (pv 2)) (pa_cons (pe_xf TB.xf noW hz hf (pv 2)) pa_nil))))))))
 (pss_cons (ps_if (pt_cmpR (op_neS hu0) (pe_fld (pv 1) rfl) (pv 0) (nomark _)) (pss_one (ps_ret (pe_str))) pss_nil)
 (pss_one (ps_ret (pe_non))))), ?_⟩
  refine ⟨_, rfl, fun x dx nx ndx nex => ?_⟩
  have sx : Same H (L2.upd (L2.upd H dx (.own x)) x (.ins CS dx [])) := fun c o e => by
    rw [upd_ne (ne_of_none e nx), upd_ne (ne_of_none e ndx)]; exact e
  refine ⟨x, dx, v, d, rfl, upd_same, Dv.keep (VK.same sx) _ _ hd, fun due t dd pl H' ev hx' k => ?_, fun e due d2 u H' r hd2 hx' hu' => ?_⟩
  · subst ev
    rw [due] at q
    have s1 : Same H H' := fun c o e => k _ _ (sx _ _ e) (ne_of_none e nx)
    refine ⟨rfl, ?_⟩
    cases d with
    | tup ds =>
      rw [Dv.at] at hd
      obtain ⟨t', xs, et, ht, _, _, hS⟩ := hd
      cases et
      exact ⟨_, rfl, x, CS, dx, _, _, rfl, hx', T.clS, T.nS, flds_st _ _ _, _, rfl, t, t, xs, rfl, rfl, SqT.of (s1 _ _ ht), SqT.of (s1 _ _ ht), at_flat hS, _, rfl, iteF (q H' s1)⟩
    | _ => cases due
  · rw [due] at q
    have s1 : Same H H' := fun c o e => r _ _ (sx _ _ e)
    refine ⟨true, TB.te, fun _ a ha => ?_, fun z => nomatch z⟩
    refine ⟨_, rfl, .ref CT, _, true, d2, _, rfl, rfl, hx', rfl, (fun u z => z), k1, true, rfl, iteF ?_⟩
    refine ⟨_, rfl, .ty "ValueError", _, true, d2, _, rfl, rfl, hx', rfl, (fun u z => z), k2, true, rfl, iteF ?_⟩
    refine ⟨_, rfl, .ref CN, _, false, d2, _, rfl, rfl, hx', rfl, (fun u z => z), k3, false, rfl, iteF ?_⟩
    have l1 : ([("why", V.str e.2), ("place", V.ref u)] : List (Str × V)).lookup ("place" : Str) = some (.ref u) := by
      rw [List.lookup_cons, show (("place" : Str) == "why") = false by decide +kernel]
      rw [List.lookup_cons, show (("place" : Str) == "place") = true by decide +kernel]
    have l2 : ([("why", V.str e.2), ("place", V.ref u)] : List (Str × V)).lookup ("why" : Str) = some (.str e.2) := by
      rw [List.lookup_cons, show (("why" : Str) == "why") = true by decide +kernel]
    refine ⟨_, rfl, rfl, rfl, d2, _, _, rfl, hx', l1, _, rfl, rfl, rfl, d2, _, _, rfl, hx', l2, (by show 2 ≤ sizeLine; decide), fun z hz => ?_⟩
    have s2 := same_new hz (.tup [.ref u, .str e.2])
    exact q z u _ (s1.trans s2) upd_same (s2 _ _ hu')
end
end Tk
set_option maxRecDepth 100000
namespace Tk
open PySem L2
/-! ## the law's drawn statements -/
def Simp (d : Dv) : Prop := (∃ w : Wd, d = .tup [.str w.s]) ∨ ∃ (b : Bool) (z : Str), d = .tup [.str (lockS b), .str z]
def GenS : Nat → Dv → Prop
  | 0, d => Simp d
  | m + 1, d => Simp d ∨ ∃ y n, d = .tup [.str "choose", .tup y, .tup n] ∧ (∀ x ∈ y, GenS m x) ∧ (∀ x ∈ n, GenS m x) ∧ y.length ≤ 9 ∧ n.length ≤ 9
theorem GenS.simp {m : Nat} {d : Dv} (h : Simp d) : GenS m d := by
  cases m with
  | zero => exact h
  | succ m => exact .inl h
theorem w9_wd (w : Wd) : w.s ∈ words9 := by cases w <;> simp [words9, Wd.s]
theorem w9_lk (b : Bool) : lockS b ∈ words9 := by cases b <;> simp [words9, lockS]
theorem w9_ch : ("choose" : Str) ∈ words9 := by simp [words9]
theorem str_at {H : Hp} {z : Str} (l : z.length ≤ 100) : Dv.at H (.str z) (.str z) := by rw [Dv.at]; exact ⟨rfl, l⟩
theorem wd_len (w : Wd) : w.s.length ≤ 100 := by cases w <;> decide +kernel
theorem lk_len (b : Bool) : (lockS b).length ≤ 100 := by cases b <;> decide +kernel
theorem atL_nil {H : Hp} : atL H [] [] := by rw [atL]
theorem atL_cons {H : Hp} {v : V} {vs : List V} {d : Dv} {ds : List Dv} (h : d.at H v) (t : atL H vs ds) : atL H (v :: vs) (d :: ds) := by rw [atL]; exact ⟨v, vs, rfl, h, t⟩
theorem tup_at {H : Hp} {a : Addr} {xs : List V} {ds : List Dv} (h : H a = some (.tup xs)) (l : ds.length ≤ 30) (w : ∀ z r, ds = .str z :: r → z ∈ words9) (t : atL H xs ds) : Dv.at H (.ref a) (.tup ds) := by rw [Dv.at]; exact ⟨a, xs, rfl, h, l, w, t⟩
/-- a tuple that begins with a word -/
theorem wtup_at {H : Hp} {a : Addr} {z : Str} {xs : List V} {ds : List Dv} (h : H a = some (.tup (.str z :: xs))) (hz : z ∈ words9) (lz : z.length ≤ 100) (l : ds.length ≤ 29) (t : atL H xs ds) : Dv.at H (.ref a) (.tup (.str z :: ds)) :=
  tup_at h (by rw [List.length_cons]; omega) (fun z' r e => by injection e with e1 e2; injection e1 with e1; rw [← e1]; exact hz) (atL_cons (str_at lz) t)
theorem one_at {H : Hp} {a : Addr} {w : Wd} (h : H a = some (.tup [.str w.s])) : Dv.at H (.ref a) (.tup [.str w.s]) := wtup_at h (w9_wd w) (wd_len w) (by decide) atL_nil
theorem nam_at {H : Hp} {a : Addr} {b : Bool} {z : Str} (h : H a = some (.tup [.str (lockS b), .str z])) (l : z.length ≤ 100) : Dv.at H (.ref a) (.tup [.str (lockS b), .str z]) := wtup_at h (w9_lk b) (lk_len b) (by show 1 ≤ 29; decide) (atL_cons (str_at l) atL_nil)
theorem names_get {H : Hp} {q : Addr} {r : Int} (h : NamesAt H q) (r0 : 0 ≤ r) (r3 : r < 3) : ∃ (xs : List V) (n : Str), H q = some (.lst xs) ∧ atI xs r = some (.str n) ∧ IsName n := by
  obtain ⟨x, y, z, e, hx, hy, hz⟩ := h
  have : r = 0 ∨ r = 1 ∨ r = 2 := by omega
  rcases this with rfl | rfl | rfl
  · exact ⟨_, x, e, rfl, hx⟩
  · exact ⟨_, y, e, rfl, hy⟩
  · exact ⟨_, z, e, rfl, hz⟩
theorem NamesAt.kp {H H' : Hp} {p q : Addr} (h : NamesAt H q) (k : Kp p H H') (n : q ≠ p) : NamesAt H' q := by
  obtain ⟨x, y, z, e, hh⟩ := h
  exact ⟨x, y, z, k _ _ e n, hh⟩
theorem PoolAt.same {H H' : Hp} {p : Addr} (h : PoolAt H p) (s : Same H H') : PoolAt H' p := by
  obtain ⟨x, y, z, e⟩ := h
  exact ⟨x, y, z, s _ _ e⟩
def spSimp : Sp := fun vs H Q _ => ∃ (p q : Addr), vs = [.ref p, .ref q] ∧ PoolAt H p ∧ NamesAt H q ∧ q ≠ p ∧ ∀ (v : V) (d : Dv) (H' : Hp), Simp d → d.at H' v → Kp p H H' → PoolAt H' p → Q v H'
abbrev psG : List Str := ["_law_pool_here", "_law_names_here", "_law_length", "_law_depth"]
abbrev nsG : List Str := ["_law_pool_here", "_law_names_here", "_law_length", "_law_depth", "_law_rows", "_law_k", "_law_yes", "_law_no"]
def spGen (m : Nat) : Sp := fun vs H Q _ => ∃ (p q : Addr) (n : Int) (d : Nat), vs = [.ref p, .ref q, .int n, .int (d : Nat)] ∧ d + m = 4 ∧ d ≤ 3 ∧ PoolAt H p ∧ NamesAt H q ∧ q ≠ p ∧ 0 ≤ n ∧ n ≤ 9 ∧
  ∀ (t : Addr) (xs : List V) (ds : List Dv) (H' : Hp), H' t = some (.tup xs) → atL H' xs ds → (∀ x ∈ ds, GenS (m - 1) x) → (ds.length : Int) = n → Kp p H H' → PoolAt H' p → Q (.ref t) H'
theorem gen_tup {m : Nat} {x : Dv} (h : GenS m x) : ∃ z r, x = .tup (.str z :: r) := by
  have si : Simp x → ∃ z r, x = .tup (.str z :: r) := fun h => by
    rcases h with ⟨w, rfl⟩ | ⟨b, z, rfl⟩
    · exact ⟨_, _, rfl⟩
    · exact ⟨_, _, rfl⟩
  cases m with
  | zero => exact si h
  | succ m =>
    rcases h with h | ⟨y, n, rfl, _⟩
    · exact si h
    · exact ⟨_, _, rfl⟩
/-- a tuple of drawn statements -/
theorem gtup_at {H : Hp} {a : Addr} {m : Nat} {xs : List V} {ds : List Dv} (h : H a = some (.tup xs)) (l : ds.length ≤ 30) (g : ∀ x ∈ ds, GenS m x) (t : atL H xs ds) : Dv.at H (.ref a) (.tup ds) :=
  tup_at h l (fun z r e => by
    obtain ⟨z', r', e'⟩ := gen_tup (g (.str z) (by rw [e]; exact List.mem_cons_self))
    cases e') t
section
variable {P : Program} {w : World} {K : PySem.W.Frag} {mg : Str → Option Value} {base : Heap} {CS CK it CB : Addr}
theorem scSp : FnScope ["_law_pool_here", "_law_names_here", "_law_pick"] ["_law_pool_here", "_law_names_here"] (defScope sSimple) := ⟨rfl, rfl, rfl, by decide +kernel, rfl, by decide +kernel, by decide +kernel⟩
theorem ok_simp {f fD : Addr} {fd fdD : FuncData} (F : Fun K "_law_simple" "_law_simple" sSimple f fd) (B : Bl mg) (GD : FnOk P w K mg base CX0 1 fD fdD ["_law_pool_here", "_law_amount"] spDraw) (bD : Binds K fdD ["_law_pool_here", "_law_amount"] []) (kD : PySem.W.keepIn K (.ref fD) = true) (mD : mg "_law_draw" = some (.ref fD)) :
    FnOk P w K mg base CX0 2 f fd ["_law_pool_here", "_law_names_here"] spSimp := by
  refine F.ok scSp (fun vs H Q E h => ?_) (fun cdv A outer s H vs Q E hr h => ?_)
  · obtain ⟨p, q, rfl, _⟩ := h
    rfl
  obtain ⟨p, q, rfl, hp, hq, nqp, z⟩ := h
  have hr1 := hr
  have nd := scSp.nd
  refine ⟨_, (pss_cons (ps_set (i := 2) nd rfl (Or.inl rfl) (pe_call GD hr1 rfl mD kD bD .nil pass0 (pa_cons (pv 0) (pa_cons (pe_int) pa_nil))))
 (pss_cons (ps_if (pt_cmpR op_lt (pv 2) (pe_int) (nomark _)) (pss_one (ps_ret (pe_tup (pa_cons (pe_str) pa_nil)))) pss_nil)
 (pss_cons (ps_if (pt_cmpR op_eq (pv 2) (pe_int) (nomark _)) (pss_one (ps_ret (pe_tup (pa_cons (pe_str) (pa_cons (pe_ix ix_list (pv 1) (pe_call GD hr1 rfl mD kD bD .nil pass0 (pa_cons (pv 0) (pa_cons (pe_int) pa_nil))) (fun _ _ => rfl)) pa_nil))))) pss_nil)
 (pss_cons (ps_if (pt_cmpR op_eq (pv 2) (pe_int) (nomark _)) (pss_one (ps_ret (pe_tup (pa_cons (pe_str) (pa_cons (pe_ix ix_list (pv 1) (pe_call GD hr1 rfl mD kD bD .nil pass0 (pa_cons (pv 0) (pa_cons (pe_int) pa_nil))) (fun _ _ => rfl)) pa_nil))))) pss_nil)
 (pss_one (ps_ret (pe_ix ix_list (pe_lst (pa_cons (pe_tup (pa_cons (pe_str) pa_nil)) (pa_cons (pe_tup (pa_cons (pe_str) pa_nil)) (pa_cons (pe_tup (pa_cons (pe_str) pa_nil)) (pa_cons (pe_tup (pa_cons (pe_str) pa_nil)) (pa_cons (pe_tup (pa_cons (pe_str) pa_nil)) pa_nil)))))) (pe_op op_sub (pv 2) (pe_int)) (fun _ _ => rfl)))))))), ?_⟩
  refine ⟨_, rfl, p, 12, rfl, hp, by decide, by decide, fun r H1 r0 r1 k1 hp1 => ?_⟩
  have hq1 := hq.kp k1 nqp
  refine ⟨_, rfl, _, _, rfl, rfl, _, rfl, ?_⟩
  refine ite2 (fun c => ?_) (fun c => ?_)
  · refine ⟨(by show 1 ≤ sizeLine; decide), fun t ht => ?_⟩
    have s2 := same_new ht (.tup [.str "take"])
    exact z _ (.tup [.str Wd.take.s]) _ (.inl ⟨.take, rfl⟩) (one_at (w := .take) upd_same) (k1.trans (Kp.of_same s2)) (hp1.same s2)
  have nam : ∀ (bb : Bool), (tRet (tTup (tCons (tC (.str (lockS bb))) (tCons (tOp (rIxL K) (tVar 1) (tCall spDraw [] E0 (tCons (tVar 0) (tCons (tC (.int 3)) tNil)))) tNil)))) { nx := fun _ H' => Q .non H', rt := Q } [some (.ref p), some (.ref q), some (.int r)] H1 := by
    intro bb
    refine ⟨_, rfl, _, rfl, p, 3, rfl, hp1, by decide, by decide, fun r2 H2 r20 r21 k2 hp2 => ?_⟩
    obtain ⟨xs, n, hq2, hat, hn⟩ := names_get (hq1.kp k2 nqp) r20 r21
    refine ⟨q, xs, _, _, rfl, rfl, SqL.of hq2, hat, (by show 2 ≤ sizeLine; decide), fun t ht => ?_⟩
    have s3 := same_new ht (.tup [.str (lockS bb), .str n])
    exact z _ (.tup [.str (lockS bb), .str n]) _ (.inr ⟨bb, n, rfl⟩) (nam_at upd_same (Nat.le_trans hn.2.1 (by decide))) ((k1.trans k2).trans (Kp.of_same s3)) (hp2.same s3)
  refine ⟨_, rfl, rfl, _, rfl, ?_⟩
  refine ite2 (fun _ => nam true) (fun c5 => ?_)
  refine ⟨_, rfl, rfl, _, rfl, ?_⟩
  refine ite2 (fun _ => nam false) (fun c6 => ?_)
  have hr7 : 7 ≤ r := by
    have a1 : ¬ r < 5 := fun e => c (decide_eq_true e)
    have a2 : ¬ r = 5 := fun e => c5 (decide_eq_true (by rw [e]))
    have a3 : ¬ r = 6 := fun e => c6 (decide_eq_true (by rw [e]))
    omega
  refine ⟨(by show 1 ≤ sizeLine; decide), fun a1 h1 => ⟨(by show 1 ≤ sizeLine; decide), fun a2 h2 => ⟨(by show 1 ≤ sizeLine; decide), fun a3 h3 => ⟨(by show 1 ≤ sizeLine; decide), fun a4 h4 => ⟨(by show 1 ≤ sizeLine; decide), fun a5 h5 => ⟨(by show 5 ≤ sizeLine; decide), fun L hL => ?_⟩⟩⟩⟩⟩⟩
  have t1 := same_new h1 (.tup [.str "commit"])
  have t2 := same_new h2 (.tup [.str "rollback"])
  have t3 := same_new h3 (.tup [.str "drop"])
  have t4 := same_new h4 (.tup [.str "leave"])
  have t5 := same_new h5 (.tup [.str "commit"])
  have tL := same_new hL (.lst [.ref a1, .ref a2, .ref a3, .ref a4, .ref a5])
  have u5 := t5.trans tL
  have u4 := t4.trans u5
  have u3 := t3.trans u4
  have u2 := t2.trans u3
  have u1 := t1.trans u2
  have m1 := u2 _ _ (upd_same (H := H1) (a := a1) (o := .tup [.str "commit"]))
  have m2 := u3 a2 (.tup [.str "rollback"]) upd_same
  have m3 := u4 a3 (.tup [.str "drop"]) upd_same
  have m4 := u5 a4 (.tup [.str "leave"]) upd_same
  have m5 := tL a5 (.tup [.str "commit"]) upd_same
  have fin : ∀ {H9 : Hp} (s9 : Same H1 H9) (a : Addr) (wd : Wd), H9 a = some (.tup [.str wd.s]) → Q (.ref a) H9 := fun s9 a wd hm =>
    z (.ref a) (.tup [.str wd.s]) _ (.inl ⟨wd, rfl⟩) (one_at hm) (k1.trans (Kp.of_same s9)) (hp1.same s9)
  have five : r = 7 ∨ r = 8 ∨ r = 9 ∨ r = 10 ∨ r = 11 := by omega
  rcases five with rfl | rfl | rfl | rfl | rfl
  · exact ⟨_, rfl, _, _, rfl, rfl, L, _, _, .ref a1, rfl, rfl, SqL.of upd_same, rfl, fin u1 a1 .commit m1⟩
  · exact ⟨_, rfl, _, _, rfl, rfl, L, _, _, .ref a2, rfl, rfl, SqL.of upd_same, rfl, fin u1 a2 .rollback m2⟩
  · exact ⟨_, rfl, _, _, rfl, rfl, L, _, _, .ref a3, rfl, rfl, SqL.of upd_same, rfl, fin u1 a3 .drop m3⟩
  · exact ⟨_, rfl, _, _, rfl, rfl, L, _, _, .ref a4, rfl, rfl, SqL.of upd_same, rfl, fin u1 a4 .leave m4⟩
  · exact ⟨_, rfl, _, _, rfl, rfl, L, _, _, .ref a5, rfl, rfl, SqL.of upd_same, rfl, fin u1 a5 .commit m5⟩
def GenI (p q R : Addr) (n : Int) (d m : Nat) (H : Hp) (i : Nat) (σ : St) (H2 : Hp) : Prop := ∃ (ds : List Dv) (xs : List V) (v5 v6 v7 : Option V), σ = [some (.ref p), some (.ref q), some (.int n), some (.int (d : Nat)), some (.ref R), v5, v6, v7] ∧
  H2 R = some (.lst xs) ∧ atL H2 xs ds ∧ (∀ x ∈ ds, GenS m x) ∧ ds.length = i ∧ PoolAt H2 p ∧ Kp p H H2
theorem scGn : FnScope nsG psG (defScope sBranch) := ⟨rfl, rfl, rfl, by decide +kernel, rfl, by decide +kernel, by decide +kernel⟩
theorem ok_gen {m : Nat} {f fD fS : Addr} {fd fdD fdS : FuncData} (F : Fun K "_law_branch" "_law_branch" sBranch f fd) (B : Bl mg) (GD : FnOk P w K mg base CX0 1 fD fdD ["_law_pool_here", "_law_amount"] spDraw) (bD : Binds K fdD ["_law_pool_here", "_law_amount"] []) (kD : PySem.W.keepIn K (.ref fD) = true) (mD : mg "_law_draw" = some (.ref fD))
    (GS : FnOk P w K mg base CX0 2 fS fdS ["_law_pool_here", "_law_names_here"] spSimp) (bS : Binds K fdS ["_law_pool_here", "_law_names_here"] []) (kS : PySem.W.keepIn K (.ref fS) = true) (mS : mg "_law_simple" = some (.ref fS))
    (GB : FnOk P w K mg base CX0 (2 + m) f fd psG (spGen m)) (bB : Binds K fd psG []) (mB : mg "_law_branch" = some (.ref f)) : FnOk P w K mg base CX0 (2 + m + 1) f fd psG (spGen (m + 1)) := by
  have kB := F.kp
  refine F.ok scGn (fun vs H Q E h => ?_) (fun cdv A outer s H vs Q E hr h => ?_)
  · obtain ⟨p, q, n, d, rfl, _⟩ := h
    rfl
  obtain ⟨p, q, n, d, rfl, hd4, hd3, hp, hq, nqp, n0, n9, z⟩ := h
  have hr1 : Room 1 _ := hr.mono (by omega)
  have hr2 : Room 2 _ := hr.mono (by omega)
  have nd := scGn.nd
  refine ⟨_, (pss_cons (ps_set (i := 4) nd rfl (Or.inl rfl) (pe_lst pa_nil))
 (pss_cons (ps_for PassesOwn.never rfl (pi_range1 rfl B.range (pa_cons (pv 2) pa_nil)) (pg_name (i := 5) nd rfl (Or.inl rfl)) (pss_one (ps_if (PW.pt (pw_and (pt_cmpR op_lt (pv 3) (pe_int) (nomark _)) (pw_and1 (pt_cmpR op_eq (pe_call GD hr1 rfl mD kD bD .nil pass0 (pa_cons (pv 0) (pa_cons (pe_int) pa_nil))) (pe_int) (nomark _))))) (pss_cons (ps_set (i := 6) nd rfl (Or.inl rfl) (pe_call GB hr rfl mB kB bB .nil pass0 (pa_cons (pv 0) (pa_cons (pv 1) (pa_cons (pe_call GD hr1 rfl mD kD bD .nil pass0 (pa_cons (pv 0) (pa_cons (pe_int) pa_nil))) (pa_cons (pe_op op_add (pv 3) (pe_int)) pa_nil))))))
 (pss_cons (ps_set (i := 7) nd rfl (Or.inl rfl) (pe_call GB hr rfl mB kB bB .nil pass0 (pa_cons (pv 0) (pa_cons (pv 1) (pa_cons (pe_call GD hr1 rfl mD kD bD .nil pass0 (pa_cons (pv 0) (pa_cons (pe_int) pa_nil))) (pa_cons (pe_op op_add (pv 3) (pe_int)) pa_nil))))))
 (pss_one (ps_expr (pe_bm PySem.F.plainAttrs_list PySem.F.slot_list_append PySem.F.type_list_append mt_append (pv 4) (pa_cons (pe_tup (pa_cons (pe_str) (pa_cons (pv 6) (pa_cons (pv 7) pa_nil)))) pa_nil)))))) (pss_one (ps_expr (pe_bm PySem.F.plainAttrs_list PySem.F.slot_list_append PySem.F.type_list_append mt_append (pv 4) (pa_cons (pe_call GS hr2 rfl mS kS bS .nil pass0 (pa_cons (pv 0) (pa_cons (pv 1) pa_nil))) pa_nil)))))))
 (pss_one (ps_ret (pe_callTy call_tuple_of (by rfl) B.tuple (by decide +kernel) (pa_cons (pv 4) pa_nil)))))), ?_⟩
  refine ⟨(by show 0 ≤ sizeLine; decide), fun R hR => ?_⟩
  have nRp : R ≠ p := by obtain ⟨_, _, _, e⟩ := hp; exact (ne_of_none e hR).symm
  have nRq : R ≠ q := by obtain ⟨_, _, _, e, _⟩ := hq; exact (ne_of_none e hR).symm
  have sR := same_new hR (.lst [])
  refine ⟨_, rfl, n, rfl, by omega, by omega, ?_⟩
  -- what holds at turn i: K2 keeps all but the pool and the rows
  refine for_range (lo := 0) (n := n.toNat) (GenI p q R n d m H) ?_ ?_ ?_
  · exact ⟨[], [], none, none, none, rfl, upd_same, atL_nil, (fun x h => nomatch h), rfl, hp.same sR, Kp.of_same sR⟩
  · rintro i σ H2 hi ⟨ds, xs, v5, v6, v7, rfl, hx, hS, gS, lS, hp2, k2⟩
    have hq2 := hq.kp k2 nqp
    have lx := atL_len hS
    have small : xs.length < sizeLine := small1000 (by omega)
    -- a row is added
    have addR : ∀ (H4 : Hp) (v : V) (x : Dv), GenS m x → x.at H4 v → Kp p H2 H4 → PoolAt H4 p → ∃ (ds' : List Dv) (xs' : List V), (L2.upd H4 R (.lst (xs ++ [v]))) R = some (.lst xs') ∧ atL (L2.upd H4 R (.lst (xs ++ [v]))) xs' ds' ∧ (∀ x ∈ ds', GenS m x) ∧ ds'.length = i + 1 ∧ PoolAt (L2.upd H4 R (.lst (xs ++ [v]))) p ∧ Kp p H (L2.upd H4 R (.lst (xs ++ [v]))) := by
      intro H4 v x gx hx4 k4 hp4
      have hR4 : H4 R = some (.lst xs) := k4 _ _ hx nRp
      have kR : Kp R H4 (L2.upd H4 R (.lst (xs ++ [v]))) := Kp.upd
      have vkR : VK H4 (L2.upd H4 R (.lst (xs ++ [v]))) := VK.kl kR hR4 upd_same
      have vk4 : VK H2 H4 := VK.pool k4 hp2 hp4
      refine ⟨ds ++ [x], xs ++ [v], upd_same, atL_app (atL_keep (vk4.trans vkR) _ _ hS) (atL_one (Dv.keep vkR _ _ hx4)), fun y hy => ?_, by rw [List.length_append, lS]; rfl, ?_, fun b o e nb => ?_⟩
      · rcases List.mem_append.mp hy with hy | hy
        · exact gS y hy
        · rw [List.mem_singleton.mp hy]; exact gx
      · obtain ⟨a1, a2, a3, e⟩ := hp4
        exact ⟨a1, a2, a3, by rw [upd_ne nRp.symm]; exact e⟩
      · rw [upd_ne (ne_of_none e hR)]
        exact (k2.trans k4) _ _ e nb
    have plain : ∀ (H3 : Hp) (w5 w6 w7 : Option V), Kp p H2 H3 → PoolAt H3 p → (tDrop (tBM K "list" rAppend (tVar 4) (tCons (tCall spSimp [] E0 (tCons (tVar 0) (tCons (tVar 1) tNil))) tNil))) { nx := GenI p q R n d m H (i + 1), rt := Q } [some (.ref p), some (.ref q), some (.int n), some (.int (d : Nat)), some (.ref R), w5, w6, w7] H3 := by
      intro H3 w5 w6 w7 k3 hp3
      have h3R : H3 R = some (.lst xs) := k3 _ _ hx nRp
      refine ⟨_, rfl, .inl ⟨rfl, _, .inl (.inl h3R)⟩, _, rfl, _, rfl, p, q, rfl, hp3, hq2.kp k3 nqp, nqp, fun v x H4 sx hx4 k4 hp4 => ?_⟩
      obtain ⟨ds', xs', a1, a2, a3, a4, a5, a6⟩ := addR H4 v x (GenS.simp sx) hx4 (k3.trans k4) hp4
      exact ⟨R, xs, v, rfl, rfl, k4 _ _ h3R nRp, small, ⟨ds', xs', _, _, _, rfl, a1, a2, a3, a4, a5, a6⟩⟩
    refine ⟨_, rfl, _, _, rfl, rfl, _, rfl, ?_⟩
    refine ite2 (fun c => ?_) (fun c => plain H2 _ _ _ (Kp.refl _ _) hp2)
    have cd : d ≤ 2 := by have := of_decide_eq_true c; omega
    refine ⟨_, rfl, p, 4, rfl, hp2, by decide, by decide, fun r H3 r0 r1 k3 hp3 => ⟨rfl, _, rfl, ?_⟩⟩
    refine ite2 (fun c' => ?_) (fun c' => plain H3 _ _ _ k3 hp3)
    have hq3 := hq2.kp k3 nqp
    obtain ⟨m', rfl⟩ : ∃ m', m = m' + 1 := ⟨m - 1, by omega⟩
    refine ⟨_, rfl, _, rfl, _, rfl, p, 3, rfl, hp3, by decide, by decide, fun ry H4 ry0 ry1 k4 hp4 => ?_⟩
    refine ⟨_, rfl, _, _, rfl, rfl, p, q, ry, d + 1, rfl, by omega, by omega, hp4, hq3.kp k4 nqp, nqp, by omega, by omega, fun ty ys dy H5 hty aty gy ly k5 hp5 => ?_⟩
    have hq5 := (hq3.kp k4 nqp).kp k5 nqp
    refine ⟨_, rfl, _, rfl, _, rfl, p, 3, rfl, hp5, by decide, by decide, fun rn H6 rn0 rn1 k6 hp6 => ?_⟩
    refine ⟨_, rfl, _, _, rfl, rfl, p, q, rn, d + 1, rfl, by omega, by omega, hp6, hq5.kp k6 nqp, nqp, by omega, by omega, fun tn ns dn H7 htn atn gn ln k7 hp7 => ?_⟩
    have k27 := (((k3.trans k4).trans k5).trans k6).trans k7
    have vk57 : VK H5 H7 := (VK.pool k6 hp5 hp6).trans (VK.pool k7 hp6 hp7)
    have h7R : H7 R = some (.lst xs) := k27 _ _ hx nRp
    refine ⟨_, rfl, .inl ⟨rfl, _, .inl (.inl h7R)⟩, _, rfl, _, rfl, (by show 3 ≤ sizeLine; decide), fun t ht => ?_⟩
    have st := same_new ht (.tup [.str "choose", .ref ty, .ref tn])
    have vkt := VK.same st
    have ya : Dv.at (L2.upd H7 t (.tup [.str "choose", .ref ty, .ref tn])) (.ref ty) (.tup dy) := gtup_at ((vk57.trans vkt).tup _ _ hty) (by omega) gy (atL_keep (vk57.trans vkt) _ _ aty)
    have na : Dv.at (L2.upd H7 t (.tup [.str "choose", .ref ty, .ref tn])) (.ref tn) (.tup dn) := gtup_at (vkt.tup _ _ htn) (by omega) gn (atL_keep vkt _ _ atn)
    obtain ⟨ds', xs', a1, a2, a3, a4, a5, a6⟩ := addR _ (.ref t) (.tup [.str "choose", .tup dy, .tup dn]) (.inr ⟨dy, dn, rfl, gy, gn, by omega, by omega⟩) (wtup_at upd_same w9_ch (by decide +kernel) (by show 2 ≤ 29; decide) (atL_cons ya (atL_cons na atL_nil))) (k27.trans (Kp.of_same st)) (hp7.same st)
    exact ⟨R, xs, .ref t, rfl, rfl, st _ _ h7R, small, ⟨ds', xs', _, _, _, rfl, a1, a2, a3, a4, a5, a6⟩⟩
  · rintro σ H2 ⟨ds, xs, v5, v6, v7, rfl, hx, hS, gS, lS, hp2, k2⟩
    refine ⟨_, rfl, R, xs, rfl, .inl ⟨SqL.of hx, fun t ht => ?_⟩⟩
    have st := same_new ht (.tup xs)
    exact z t xs ds _ upd_same (atL_keep (VK.same st) _ _ hS) gS (by rw [lS]; omega) (k2.trans (Kp.of_same st)) (hp2.same st)
end
end Tk
set_option maxRecDepth 100000
namespace Tk
open PySem L2
abbrev sBad : Stmt := top 25
abbrev sPut : Stmt := top 26
def BadOk (d : Dv) : Prop := ∀ z, d = .str z → z ∈ words9
theorem e_at {H : Hp} {a : Addr} (h : H a = some (.tup [])) : Dv.at H (.ref a) (.tup []) := tup_at h (by decide) (fun z r e => by cases e) atL_nil
theorem lst_at {H : Hp} {a : Addr} {xs : List V} (h : H a = some (.lst xs)) : Dv.at H (.ref a) .lst := by rw [Dv.at]; exact ⟨a, xs, rfl, h⟩
theorem dct_at {H : Hp} {a : Addr} (h : H a = some (.dK [])) : Dv.at H (.ref a) .dct := by rw [Dv.at]; exact ⟨a, rfl, h⟩
theorem int_at {H : Hp} (i : Int) : Dv.at H (.int i) (.int i) := by rw [Dv.at]
theorem bl_at {H : Hp} (b : Bool) : Dv.at H (.bl b) (.bl b) := by rw [Dv.at]
theorem non_at {H : Hp} : Dv.at H .non .non := by rw [Dv.at]
theorem bad1 {H : Hp} {x : Str} (lx : x.length ≤ 8) {a1 a2 a3i a3y a3n a3 a4 a5 a8 : Addr} (m_a1 : H a1 = some (HO.tup [.str "take"])) (m_a2 : H a2 = some (HO.tup [.str "commit"])) (m_a3i : H a3i = some (HO.tup [.str "take"])) (m_a3y : H a3y = some (HO.tup [.ref a3i])) (m_a3n : H a3n = some (HO.tup [])) (m_a3 : H a3 = some (HO.tup [.str "choose", .ref a3y, .ref a3n])) (m_a4 : H a4 = some (HO.tup [.str "lock", .str x])) (m_a5 : H a5 = some (HO.tup [])) (m_a8 : H a8 = some (HO.lst [.str "take"])) : ∃ ds, atL H [V.ref a1, .ref a2, .ref a3, .ref a4, .ref a5, .non, .str "take", .ref a8, .int 0] ds ∧ ds.length = 9 ∧ ∀ d ∈ ds, BadOk d := by
  refine ⟨_, atL_cons (one_at (w := .take) m_a1) (atL_cons (one_at (w := .commit) m_a2) (atL_cons (wtup_at m_a3 (show ("choose" : Str) ∈ words9 by simp [words9]) (show ("choose" : Str).length ≤ 100 by decide +kernel) (by simp) (atL_cons (tup_at m_a3y (by simp) (fun z r e => by cases e) (atL_cons (one_at (w := .take) m_a3i) atL_nil)) (atL_cons (e_at m_a3n) atL_nil))) (atL_cons (nam_at (b := true) m_a4 (Nat.le_trans lx (by decide))) (atL_cons (e_at m_a5) (atL_cons (non_at) (atL_cons (str_at (z := "take") (by decide +kernel)) (atL_cons (lst_at m_a8) (atL_cons (int_at 0) (atL_nil))))))))), rfl, ?_⟩
  intro d hd
  simp only [List.mem_cons, List.not_mem_nil, or_false] at hd
  rcases hd with rfl | rfl | rfl | rfl | rfl | rfl | rfl | rfl | rfl <;> intro z e <;> first | (injection e with e; rw [← e]; simp [words9]; done) | cases e
theorem bad2 {H : Hp} {x : Str} (lx : x.length ≤ 8) {b1 b2 b3 b4 b5 : Addr} (m_b1 : H b1 = some (HO.tup [.str "take", .str x])) (m_b2 : H b2 = some (HO.tup [.str "lock"])) (m_b3 : H b3 = some (HO.tup [.str "lock", .str ""])) (m_b4 : H b4 = some (HO.tup [.str "unlock", .str (x ++ "abcdefgh")])) (m_b5 : H b5 = some (HO.tup [.str "lock", .str "a b"])) : ∃ ds, atL H [V.ref b1, .ref b2, .ref b3, .ref b4, .ref b5] ds ∧ ds.length = 5 ∧ ∀ d ∈ ds, BadOk d := by
  refine ⟨_, atL_cons (wtup_at m_b1 (show ("take" : Str) ∈ words9 by simp [words9]) (show ("take" : Str).length ≤ 100 by decide +kernel) (by simp) (atL_cons (str_at (Nat.le_trans lx (by decide))) atL_nil)) (atL_cons (wtup_at m_b2 (show ("lock" : Str) ∈ words9 by simp [words9]) (show ("lock" : Str).length ≤ 100 by decide +kernel) (by simp) (atL_nil)) (atL_cons (nam_at (b := true) m_b3 (by decide +kernel)) (atL_cons (nam_at (b := false) m_b4 (by rw [len_app]; have h8 : ("abcdefgh" : Str).length = 8 := (by decide +kernel); omega)) (atL_cons (nam_at (b := true) m_b5 (by decide +kernel)) (atL_nil))))), rfl, ?_⟩
  intro d hd
  simp only [List.mem_cons, List.not_mem_nil, or_false] at hd
  rcases hd with rfl | rfl | rfl | rfl | rfl <;> intro z e <;> first | (injection e with e; rw [← e]; simp [words9]; done) | cases e
theorem bad3 {H : Hp} {x : Str} (lx : x.length ≤ 8) {c1 c2 c3 c4n c4 c5l c5n c5 : Addr} (m_c1 : H c1 = some (HO.tup [.str "lock", .str "Ab"])) (m_c2 : H c2 = some (HO.tup [.str "unlock", .non])) (m_c3 : H c3 = some (HO.tup [.str "lock", .int 7])) (m_c4n : H c4n = some (HO.tup [])) (m_c4 : H c4 = some (HO.tup [.str "choose", .ref c4n])) (m_c5l : H c5l = some (HO.lst [])) (m_c5n : H c5n = some (HO.tup [])) (m_c5 : H c5 = some (HO.tup [.str "choose", .ref c5l, .ref c5n])) : ∃ ds, atL H [V.ref c1, .ref c2, .ref c3, .ref c4, .ref c5] ds ∧ ds.length = 5 ∧ ∀ d ∈ ds, BadOk d := by
  refine ⟨_, atL_cons (nam_at (b := true) m_c1 (by decide +kernel)) (atL_cons (wtup_at m_c2 (show ("unlock" : Str) ∈ words9 by simp [words9]) (show ("unlock" : Str).length ≤ 100 by decide +kernel) (by simp) (atL_cons non_at atL_nil)) (atL_cons (wtup_at m_c3 (show ("lock" : Str) ∈ words9 by simp [words9]) (show ("lock" : Str).length ≤ 100 by decide +kernel) (by simp) (atL_cons (int_at 7) atL_nil)) (atL_cons (wtup_at m_c4 (show ("choose" : Str) ∈ words9 by simp [words9]) (show ("choose" : Str).length ≤ 100 by decide +kernel) (by simp) (atL_cons (e_at m_c4n) atL_nil)) (atL_cons (wtup_at m_c5 (show ("choose" : Str) ∈ words9 by simp [words9]) (show ("choose" : Str).length ≤ 100 by decide +kernel) (by simp) (atL_cons (lst_at m_c5l) (atL_cons (e_at m_c5n) atL_nil))) (atL_nil))))), rfl, ?_⟩
  intro d hd
  simp only [List.mem_cons, List.not_mem_nil, or_false] at hd
  rcases hd with rfl | rfl | rfl | rfl | rfl <;> intro z e <;> first | (injection e with e; rw [← e]; simp [words9]; done) | cases e
theorem bad4 {H : Hp} {x : Str} (lx : x.length ≤ 8) {d1n d1 d2 d3 d4l d4 d5d d5 d6i d6 : Addr} (m_d1n : H d1n = some (HO.tup [])) (m_d1 : H d1 = some (HO.tup [.str "choose", .ref d1n, .non])) (m_d2 : H d2 = some (HO.tup [.str "takes"])) (m_d3 : H d3 = some (HO.tup [.bl true])) (m_d4l : H d4l = some (HO.lst [])) (m_d4 : H d4 = some (HO.tup [.ref d4l])) (m_d5d : H d5d = some (HO.dK [])) (m_d5 : H d5 = some (HO.tup [.ref d5d, .int 1])) (m_d6i : H d6i = some (HO.tup [.str "take"])) (m_d6 : H d6 = some (HO.tup [.ref d6i])) : ∃ ds, atL H [V.ref d1, .ref d2, .ref d3, .ref d4, .ref d5, .ref d6] ds ∧ ds.length = 6 ∧ ∀ d ∈ ds, BadOk d := by
  refine ⟨_, atL_cons (wtup_at m_d1 (show ("choose" : Str) ∈ words9 by simp [words9]) (show ("choose" : Str).length ≤ 100 by decide +kernel) (by simp) (atL_cons (e_at m_d1n) (atL_cons non_at atL_nil))) (atL_cons (wtup_at m_d2 (show ("takes" : Str) ∈ words9 by simp [words9]) (show ("takes" : Str).length ≤ 100 by decide +kernel) (by simp) (atL_nil)) (atL_cons (tup_at m_d3 (by simp) (fun z r e => by cases e) (atL_cons (bl_at true) atL_nil)) (atL_cons (tup_at m_d4 (by simp) (fun z r e => by cases e) (atL_cons (lst_at m_d4l) atL_nil)) (atL_cons (tup_at m_d5 (by simp) (fun z r e => by cases e) (atL_cons (dct_at m_d5d) (atL_cons (int_at 1) atL_nil))) (atL_cons (tup_at m_d6 (by simp) (fun z r e => by cases e) (atL_cons (one_at (w := .take) m_d6i) atL_nil)) (atL_nil)))))), rfl, ?_⟩
  intro d hd
  simp only [List.mem_cons, List.not_mem_nil, or_false] at hd
  rcases hd with rfl | rfl | rfl | rfl | rfl | rfl <;> intro z e <;> first | (injection e with e; rw [← e]; simp [words9]; done) | cases e
def spBad : Sp := fun vs H Q _ => ∃ (p q : Addr), vs = [.ref p, .ref q] ∧ PoolAt H p ∧ NamesAt H q ∧ q ≠ p ∧ ∀ (v : V) (d : Dv) (H' : Hp), d.at H' v → BadOk d → Kp p H H' → PoolAt H' p → Q v H'
section
variable {P : Program} {w : World} {K : PySem.W.Frag} {mg : Str → Option Value} {base : Heap} {CS CK it CB : Addr}
theorem scBd : FnScope ["_law_pool_here", "_law_names_here", "_law_word", "_law_values"] ["_law_pool_here", "_law_names_here"] (defScope sBad) := ⟨rfl, rfl, rfl, by decide +kernel, rfl, by decide +kernel, by decide +kernel⟩
theorem ok_bad {f fD : Addr} {fd fdD : FuncData} (F : Fun K "_law_bad" "_law_bad" sBad f fd) (B : Bl mg) (GD : FnOk P w K mg base CX0 1 fD fdD ["_law_pool_here", "_law_amount"] spDraw) (bD : Binds K fdD ["_law_pool_here", "_law_amount"] []) (kD : PySem.W.keepIn K (.ref fD) = true) (mD : mg "_law_draw" = some (.ref fD)) :
    FnOk P w K mg base CX0 2 f fd ["_law_pool_here", "_law_names_here"] spBad := by
  refine F.ok scBd (fun vs H Q E h => ?_) (fun cdv A outer s H vs Q E hr h => ?_)
  · obtain ⟨p, q, rfl, _⟩ := h
    rfl
  obtain ⟨p, q, rfl, hp, hq, nqp, z⟩ := h
  have hr1 := hr
  have nd := scBd.nd
  refine ⟨_, (pss_cons (ps_set (i := 2) nd rfl (Or.inl rfl) (pe_ix ix_list (pv 1) (pe_int) (fun _ _ => rfl)))
 (pss_cons (ps_set (i := 3) nd rfl (Or.inl rfl) (pe_lst (pa_cons (pe_tup (pa_cons (pe_str) pa_nil)) (pa_cons (pe_tup (pa_cons (pe_str) pa_nil)) (pa_cons (pe_tup (pa_cons (pe_str) (pa_cons (pe_tup (pa_cons (pe_tup (pa_cons (pe_str) pa_nil)) pa_nil)) (pa_cons (pe_tup pa_nil) pa_nil)))) (pa_cons (pe_tup (pa_cons (pe_str) (pa_cons (pv 2) pa_nil))) (pa_cons (pe_tup pa_nil) (pa_cons (pe_non) (pa_cons (pe_str) (pa_cons (pe_lst (pa_cons (pe_str) pa_nil)) (pa_cons (pe_int) pa_nil)))))))))))
 (pss_cons (ps_set (i := 3) nd rfl (Or.inl rfl) (pe_op op_cat (pv 3) (pe_lst (pa_cons (pe_tup (pa_cons (pe_str) (pa_cons (pv 2) pa_nil))) (pa_cons (pe_tup (pa_cons (pe_str) pa_nil)) (pa_cons (pe_tup (pa_cons (pe_str) (pa_cons (pe_str) pa_nil))) (pa_cons (pe_tup (pa_cons (pe_str) (pa_cons (pe_op op_add_str (pv 2) pe_str) pa_nil))) (pa_cons (pe_tup (pa_cons (pe_str) (pa_cons (pe_str) pa_nil))) pa_nil))))))))
 (pss_cons (ps_set (i := 3) nd rfl (Or.inl rfl) (pe_op op_cat (pv 3) (pe_lst (pa_cons (pe_tup (pa_cons (pe_str) (pa_cons (pe_str) pa_nil))) (pa_cons (pe_tup (pa_cons (pe_str) (pa_cons (pe_non) pa_nil))) (pa_cons (pe_tup (pa_cons (pe_str) (pa_cons (pe_int) pa_nil))) (pa_cons (pe_tup (pa_cons (pe_str) (pa_cons (pe_tup pa_nil) pa_nil))) (pa_cons (pe_tup (pa_cons (pe_str) (pa_cons (pe_lst pa_nil) (pa_cons (pe_tup pa_nil) pa_nil)))) pa_nil))))))))
 (pss_cons (ps_set (i := 3) nd rfl (Or.inl rfl) (pe_op op_cat (pv 3) (pe_lst (pa_cons (pe_tup (pa_cons (pe_str) (pa_cons (pe_tup pa_nil) (pa_cons (pe_non) pa_nil)))) (pa_cons (pe_tup (pa_cons (pe_str) pa_nil)) (pa_cons (pe_tup (pa_cons (pe_bl) pa_nil)) (pa_cons (pe_tup (pa_cons (pe_lst pa_nil) pa_nil)) (pa_cons (pe_tup (pa_cons (pe_dnewK) (pa_cons (pe_int) pa_nil))) (pa_cons (pe_tup (pa_cons (pe_tup (pa_cons (pe_str) pa_nil)) pa_nil)) pa_nil)))))))))
 (pss_one (ps_ret (pe_ix ix_list (pv 3) (pe_call GD hr1 rfl mD kD bD .nil pass0 (pa_cons (pv 0) (pa_cons (pe_callB call_len_seq (by rfl) B.len PySem.boot_len (pa_cons (pv 3) pa_nil)) pa_nil))) (fun _ _ => rfl))))))))), ?_⟩
  obtain ⟨x, x2, x3, hq0, hx, _⟩ := id hq
  refine ⟨_, rfl, q, _, _, .str x, rfl, rfl, SqL.of hq0, rfl, ?_⟩
  have h8 : ("abcdefgh" : Str).length = 8 := by decide +kernel
  have hx9 : x.length + ("abcdefgh" : Str).length ≤ sizeLine := by
    have := hx.2.1
    exact small (by omega)
  have lx := hx.2.1
  refine ⟨(by show 1 ≤ sizeLine; decide), fun a1 h_a1 => ⟨(by show 1 ≤ sizeLine; decide), fun a2 h_a2 => ⟨(by show 1 ≤ sizeLine; decide), fun a3i h_a3i => ⟨(by show 1 ≤ sizeLine; decide), fun a3y h_a3y => ⟨(by show 0 ≤ sizeLine; decide), fun a3n h_a3n => ⟨(by show 3 ≤ sizeLine; decide), fun a3 h_a3 => ⟨_, rfl, (by show 2 ≤ sizeLine; decide), fun a4 h_a4 => ⟨(by show 0 ≤ sizeLine; decide), fun a5 h_a5 => ⟨(by show 1 ≤ sizeLine; decide), fun a8 h_a8 => ⟨(by show 9 ≤ sizeLine; decide), fun L1 h_L1 => ?_⟩⟩⟩⟩⟩⟩⟩⟩⟩⟩
  have t_a1 := same_new h_a1 (HO.tup [.str "take"])
  have t_a2 := same_new h_a2 (HO.tup [.str "commit"])
  have t_a3i := same_new h_a3i (HO.tup [.str "take"])
  have t_a3y := same_new h_a3y (HO.tup [.ref a3i])
  have t_a3n := same_new h_a3n (HO.tup [])
  have t_a3 := same_new h_a3 (HO.tup [.str "choose", .ref a3y, .ref a3n])
  have t_a4 := same_new h_a4 (HO.tup [.str "lock", .str x])
  have t_a5 := same_new h_a5 (HO.tup [])
  have t_a8 := same_new h_a8 (HO.lst [.str "take"])
  have t_L1 := same_new h_L1 (HO.lst [.ref a1, .ref a2, .ref a3, .ref a4, .ref a5, .non, .str "take", .ref a8, .int 0])
  have u_L1 := t_L1
  have u_a8 := t_a8.trans u_L1
  have u_a5 := t_a5.trans u_a8
  have u_a4 := t_a4.trans u_a5
  have u_a3 := t_a3.trans u_a4
  have u_a3n := t_a3n.trans u_a3
  have u_a3y := t_a3y.trans u_a3n
  have u_a3i := t_a3i.trans u_a3y
  have u_a2 := t_a2.trans u_a3i
  have u_a1 := t_a1.trans u_a2
  have m_a1 := u_a2 a1 (HO.tup [.str "take"]) upd_same
  have m_a2 := u_a3i a2 (HO.tup [.str "commit"]) upd_same
  have m_a3i := u_a3y a3i (HO.tup [.str "take"]) upd_same
  have m_a3y := u_a3n a3y (HO.tup [.ref a3i]) upd_same
  have m_a3n := u_a3 a3n (HO.tup []) upd_same
  have m_a3 := u_a4 a3 (HO.tup [.str "choose", .ref a3y, .ref a3n]) upd_same
  have m_a4 := u_a5 a4 (HO.tup [.str "lock", .str x]) upd_same
  have m_a5 := u_a8 a5 (HO.tup []) upd_same
  have m_a8 := u_L1 a8 (HO.lst [.str "take"]) upd_same
  obtain ⟨ds1, at1, l1, ok1⟩ := bad1 lx m_a1 m_a2 m_a3i m_a3y m_a3n m_a3 m_a4 m_a5 m_a8
  have s1 := u_a1
  refine ⟨_, rfl, _, rfl, (by show 2 ≤ sizeLine; decide), fun b1 h_b1 => ⟨(by show 1 ≤ sizeLine; decide), fun b2 h_b2 => ⟨(by show 2 ≤ sizeLine; decide), fun b3 h_b3 => ⟨_, rfl, x, _, rfl, rfl, hx9, (by show 2 ≤ sizeLine; decide), fun b4 h_b4 => ⟨(by show 2 ≤ sizeLine; decide), fun b5 h_b5 => ⟨(by show 5 ≤ sizeLine; decide), fun L2 h_L2 => ?_⟩⟩⟩⟩⟩⟩
  have t_b1 := same_new h_b1 (HO.tup [.str "take", .str x])
  have t_b2 := same_new h_b2 (HO.tup [.str "lock"])
  have t_b3 := same_new h_b3 (HO.tup [.str "lock", .str ""])
  have t_b4 := same_new h_b4 (HO.tup [.str "unlock", .str (x ++ "abcdefgh")])
  have t_b5 := same_new h_b5 (HO.tup [.str "lock", .str "a b"])
  have t_L2 := same_new h_L2 (HO.lst [.ref b1, .ref b2, .ref b3, .ref b4, .ref b5])
  have u_L2 := t_L2
  have u_b5 := t_b5.trans u_L2
  have u_b4 := t_b4.trans u_b5
  have u_b3 := t_b3.trans u_b4
  have u_b2 := t_b2.trans u_b3
  have u_b1 := t_b1.trans u_b2
  have m_b1 := u_b2 b1 (HO.tup [.str "take", .str x]) upd_same
  have m_b2 := u_b3 b2 (HO.tup [.str "lock"]) upd_same
  have m_b3 := u_b4 b3 (HO.tup [.str "lock", .str ""]) upd_same
  have m_b4 := u_b5 b4 (HO.tup [.str "unlock", .str (x ++ "abcdefgh")]) upd_same
  have m_b5 := u_L2 b5 (HO.tup [.str "lock", .str "a b"]) upd_same
  obtain ⟨ds2, at2, l2, ok2⟩ := bad2 lx m_b1 m_b2 m_b3 m_b4 m_b5
  refine ⟨L1, L2, _, _, rfl, rfl, u_b1 _ _ upd_same, upd_same, (by show 14 ≤ sizeLine; decide), fun M2 h_M2 => ?_⟩
  have t_M2 := same_new h_M2 (HO.lst ([.ref a1, .ref a2, .ref a3, .ref a4, .ref a5, .non, .str "take", .ref a8, .int 0] ++ [.ref b1, .ref b2, .ref b3, .ref b4, .ref b5]))
  have v2 := u_b1.trans t_M2
  have at12 := atL_app (atL_keep (VK.same v2) _ _ at1) (atL_keep (VK.same t_M2) _ _ at2)
  have s2 := s1.trans v2
  refine ⟨_, rfl, (by show 2 ≤ sizeLine; decide), fun c1 h_c1 => ⟨(by show 2 ≤ sizeLine; decide), fun c2 h_c2 => ⟨(by show 2 ≤ sizeLine; decide), fun c3 h_c3 => ⟨(by show 0 ≤ sizeLine; decide), fun c4n h_c4n => ⟨(by show 2 ≤ sizeLine; decide), fun c4 h_c4 => ⟨(by show 0 ≤ sizeLine; decide), fun c5l h_c5l => ⟨(by show 0 ≤ sizeLine; decide), fun c5n h_c5n => ⟨(by show 3 ≤ sizeLine; decide), fun c5 h_c5 => ⟨(by show 5 ≤ sizeLine; decide), fun L3 h_L3 => ?_⟩⟩⟩⟩⟩⟩⟩⟩⟩
  have t_c1 := same_new h_c1 (HO.tup [.str "lock", .str "Ab"])
  have t_c2 := same_new h_c2 (HO.tup [.str "unlock", .non])
  have t_c3 := same_new h_c3 (HO.tup [.str "lock", .int 7])
  have t_c4n := same_new h_c4n (HO.tup [])
  have t_c4 := same_new h_c4 (HO.tup [.str "choose", .ref c4n])
  have t_c5l := same_new h_c5l (HO.lst [])
  have t_c5n := same_new h_c5n (HO.tup [])
  have t_c5 := same_new h_c5 (HO.tup [.str "choose", .ref c5l, .ref c5n])
  have t_L3 := same_new h_L3 (HO.lst [.ref c1, .ref c2, .ref c3, .ref c4, .ref c5])
  have u_L3 := t_L3
  have u_c5 := t_c5.trans u_L3
  have u_c5n := t_c5n.trans u_c5
  have u_c5l := t_c5l.trans u_c5n
  have u_c4 := t_c4.trans u_c5l
  have u_c4n := t_c4n.trans u_c4
  have u_c3 := t_c3.trans u_c4n
  have u_c2 := t_c2.trans u_c3
  have u_c1 := t_c1.trans u_c2
  have m_c1 := u_c2 c1 (HO.tup [.str "lock", .str "Ab"]) upd_same
  have m_c2 := u_c3 c2 (HO.tup [.str "unlock", .non]) upd_same
  have m_c3 := u_c4n c3 (HO.tup [.str "lock", .int 7]) upd_same
  have m_c4n := u_c4 c4n (HO.tup []) upd_same
  have m_c4 := u_c5l c4 (HO.tup [.str "choose", .ref c4n]) upd_same
  have m_c5l := u_c5n c5l (HO.lst []) upd_same
  have m_c5n := u_c5 c5n (HO.tup []) upd_same
  have m_c5 := u_L3 c5 (HO.tup [.str "choose", .ref c5l, .ref c5n]) upd_same
  obtain ⟨ds3, at3, l3, ok3⟩ := bad3 lx m_c1 m_c2 m_c3 m_c4n m_c4 m_c5l m_c5n m_c5
  refine ⟨M2, L3, _, _, rfl, rfl, u_c1 _ _ upd_same, upd_same, (by show 19 ≤ sizeLine; decide), fun M3 h_M3 => ?_⟩
  have t_M3 := same_new h_M3 (HO.lst ([.ref a1, .ref a2, .ref a3, .ref a4, .ref a5, .non, .str "take", .ref a8, .int 0, .ref b1, .ref b2, .ref b3, .ref b4, .ref b5] ++ [.ref c1, .ref c2, .ref c3, .ref c4, .ref c5]))
  have v3 := u_c1.trans t_M3
  have at13 := atL_app (atL_keep (VK.same v3) _ _ at12) (atL_keep (VK.same t_M3) _ _ at3)
  have s3 := s2.trans v3
  refine ⟨_, rfl, (by show 0 ≤ sizeLine; decide), fun d1n h_d1n => ⟨(by show 3 ≤ sizeLine; decide), fun d1 h_d1 => ⟨(by show 1 ≤ sizeLine; decide), fun d2 h_d2 => ⟨(by show 1 ≤ sizeLine; decide), fun d3 h_d3 => ⟨(by show 0 ≤ sizeLine; decide), fun d4l h_d4l => ⟨(by show 1 ≤ sizeLine; decide), fun d4 h_d4 => fun d5d h_d5d => ⟨(by show 2 ≤ sizeLine; decide), fun d5 h_d5 => ⟨(by show 1 ≤ sizeLine; decide), fun d6i h_d6i => ⟨(by show 1 ≤ sizeLine; decide), fun d6 h_d6 => ⟨(by show 6 ≤ sizeLine; decide), fun L4 h_L4 => ?_⟩⟩⟩⟩⟩⟩⟩⟩⟩⟩
  have t_d1n := same_new h_d1n (HO.tup [])
  have t_d1 := same_new h_d1 (HO.tup [.str "choose", .ref d1n, .non])
  have t_d2 := same_new h_d2 (HO.tup [.str "takes"])
  have t_d3 := same_new h_d3 (HO.tup [.bl true])
  have t_d4l := same_new h_d4l (HO.lst [])
  have t_d4 := same_new h_d4 (HO.tup [.ref d4l])
  have t_d5d := same_new h_d5d (HO.dK [])
  have t_d5 := same_new h_d5 (HO.tup [.ref d5d, .int 1])
  have t_d6i := same_new h_d6i (HO.tup [.str "take"])
  have t_d6 := same_new h_d6 (HO.tup [.ref d6i])
  have t_L4 := same_new h_L4 (HO.lst [.ref d1, .ref d2, .ref d3, .ref d4, .ref d5, .ref d6])
  have u_L4 := t_L4
  have u_d6 := t_d6.trans u_L4
  have u_d6i := t_d6i.trans u_d6
  have u_d5 := t_d5.trans u_d6i
  have u_d5d := t_d5d.trans u_d5
  have u_d4 := t_d4.trans u_d5d
  have u_d4l := t_d4l.trans u_d4
  have u_d3 := t_d3.trans u_d4l
  have u_d2 := t_d2.trans u_d3
  have u_d1 := t_d1.trans u_d2
  have u_d1n := t_d1n.trans u_d1
  have m_d1n := u_d1 d1n (HO.tup []) upd_same
  have m_d1 := u_d2 d1 (HO.tup [.str "choose", .ref d1n, .non]) upd_same
  have m_d2 := u_d3 d2 (HO.tup [.str "takes"]) upd_same
  have m_d3 := u_d4l d3 (HO.tup [.bl true]) upd_same
  have m_d4l := u_d4 d4l (HO.lst []) upd_same
  have m_d4 := u_d5d d4 (HO.tup [.ref d4l]) upd_same
  have m_d5d := u_d5 d5d (HO.dK []) upd_same
  have m_d5 := u_d6i d5 (HO.tup [.ref d5d, .int 1]) upd_same
  have m_d6i := u_d6 d6i (HO.tup [.str "take"]) upd_same
  have m_d6 := u_L4 d6 (HO.tup [.ref d6i]) upd_same
  obtain ⟨ds4, at4, l4, ok4⟩ := bad4 lx m_d1n m_d1 m_d2 m_d3 m_d4l m_d4 m_d5d m_d5 m_d6i m_d6
  refine ⟨M3, L4, _, _, rfl, rfl, u_d1n _ _ upd_same, upd_same, (by show 25 ≤ sizeLine; decide), fun M4 h_M4 => ?_⟩
  have t_M4 := same_new h_M4 (HO.lst ([.ref a1, .ref a2, .ref a3, .ref a4, .ref a5, .non, .str "take", .ref a8, .int 0, .ref b1, .ref b2, .ref b3, .ref b4, .ref b5, .ref c1, .ref c2, .ref c3, .ref c4, .ref c5] ++ [.ref d1, .ref d2, .ref d3, .ref d4, .ref d5, .ref d6]))
  have v4 := u_d1n.trans t_M4
  have at14 := atL_app (atL_keep (VK.same v4) _ _ at13) (atL_keep (VK.same t_M4) _ _ at4)
  have s4 := s3.trans v4
  have lds : (ds1 ++ ds2 ++ ds3 ++ ds4).length = 25 := by simp only [List.length_append]; omega
  have okd : ∀ d ∈ ds1 ++ ds2 ++ ds3 ++ ds4, BadOk d := fun d hd => by
    rcases List.mem_append.mp hd with hd | hd
    · rcases List.mem_append.mp hd with hd | hd
      · rcases List.mem_append.mp hd with hd | hd
        · exact ok1 d hd
        · exact ok2 d hd
      · exact ok3 d hd
    · exact ok4 d hd
  have hpf := hp.same s4
  refine ⟨_, rfl, _, rfl, _, rfl, M4, _, rfl, .inl (SqL.of upd_same), p, 25, rfl, hpf, by decide, by decide, fun r Hr r0 r25 kr hpr => ?_⟩
  have npM : M4 ≠ p := by
    obtain ⟨_, _, _, e⟩ := hpf
    exact fun c => by rw [c, upd_same] at e; cases e
  have vkr := VK.pool kr hpf hpr
  have atr := atL_keep vkr _ _ at14
  have hMr := kr M4 _ upd_same npM
  have er : r = ((r.toNat : Nat) : Int) := by omega
  have lt : r.toNat < (ds1 ++ ds2 ++ ds3 ++ ds4).length := by omega
  obtain ⟨v, hv, dv⟩ := atL_get (i := r.toNat) atr (List.getElem?_eq_getElem lt)
  have ea := atI_nat hv
  rw [← er] at ea
  refine ⟨M4, _, r, v, rfl, rfl, SqL.of hMr, ea, ?_⟩
  exact z v _ Hr dv (okd _ (List.getElem_mem lt)) ((Kp.of_same s4).trans kr) hpr
end
end Tk
set_option maxRecDepth 100000
namespace Tk
open PySem L2
abbrev psP : List Str := ["_law_branch_here", "_law_at", "_law_bad_here"]
abbrev nsP : List Str := ["_law_branch_here", "_law_at", "_law_bad_here", "_law_index", "_law_inner", "_law_changed"]
def spPut (k : Nat) : Sp := fun vs H Q _ => ∃ (t : Addr) (xs : List V) (ds : List Dv) (c : Int) (v : V) (d : Dv) (m : Nat), vs = [.ref t, .int c, v] ∧ m < k ∧ H t = some (.tup xs) ∧ atL H xs ds ∧ (∀ x ∈ ds, GenS m x) ∧ ds.length ≤ 9 ∧ 0 ≤ c ∧ c < 1073741824 ∧ d.at H v ∧ BadOk d ∧
  ∀ (t' : Addr) (xs' : List V) (ds' : List Dv) (H' : Hp), Same H H' → H' t' = some (.tup xs') → atL H' xs' ds' → ds'.length ≤ 19 → (∀ x ∈ ds', BadOk x) → Q (.ref t') H'
theorem gen_ok {m : Nat} {x : Dv} (h : GenS m x) : BadOk x := fun z e => by
  obtain ⟨z', r, e'⟩ := gen_tup h
  rw [e'] at e; cases e
theorem sl_at {K : PySem.W.Frag} {H : Hp} {u : Addr} {xs : List V} {ds : List Dv} {lo hi : Option Int} {X : L2.VK} (hu : H u = some (.tup xs)) (ha : atL H xs ds)
    (k : ∀ (y : Addr) (xs' : List V) (ds' : List Dv) (H' : Hp), H' y = some (.tup xs') → atL H' xs' ds' → ds'.length ≤ ds.length → (∀ d ∈ ds', d ∈ ds) → Same H H' → X (.ref y) H') : rSlA K (.ref u) lo hi H X := by
  refine ⟨u, xs, rfl, SqT.of hu, fun _ => k u xs ds H hu ha (Nat.le_refl _) (fun d h => h) (Same.refl H), fun _ z hz => ?_⟩
  have s1 := same_new hz (.tup (cutV xs lo hi))
  refine k z _ ((ds.drop (HT.sIx xs.length 0 lo)).take (HT.sIx xs.length xs.length hi - HT.sIx xs.length 0 lo)) _ upd_same (atL_keep (VK.same s1) _ _ ?_) (by rw [List.length_take, List.length_drop]; omega) (fun d hd => List.mem_of_mem_drop (List.mem_of_mem_take hd)) s1
  unfold cutV
  exact atL_take _ (atL_drop _ ha)
theorem cat_at {K : PySem.W.Frag} {H : Hp} {a b : Addr} {xs ys : List V} {X : L2.VK} (ha : H a = some (.tup xs)) (hb : H b = some (.tup ys)) (l : xs.length + ys.length ≤ 1000)
    (k : ∀ (y : Addr) (H' : Hp), H' y = some (.tup (xs ++ ys)) → Same H H' → X (.ref y) H') : rCatA K (.ref a) (.ref b) H X := by
  refine ⟨a, b, xs, ys, rfl, rfl, SqT.of ha, SqT.of hb, small l, (fun e => k b H (by rw [hb, e]; rfl) (Same.refl H)), (fun _ e => k a H (by rw [ha, e, List.append_nil]) (Same.refl H)), fun _ _ z hz => k z _ upd_same (same_new hz _)⟩
section
variable {P : Program} {w : World} {K : PySem.W.Frag} {mg : Str → Option Value} {base : Heap} {CS CK it CB : Addr}
theorem scPt : FnScope nsP psP (defScope sPut) := ⟨rfl, rfl, rfl, by decide +kernel, rfl, by decide +kernel, by decide +kernel⟩
theorem ok_put {k : Nat} {f : Addr} {fd : FuncData} (F : Fun K "_law_put" "_law_put" sPut f fd) (B : Bl mg) (GP : FnOk P w K mg base CX0 (1 + k) f fd psP (spPut k)) (bP : Binds K fd psP []) (mP : mg "_law_put" = some (.ref f)) : FnOk P w K mg base CX0 (1 + k + 1) f fd psP (spPut (k + 1)) := by
  have kP := F.kp
  refine F.ok scPt (fun vs H Q E h => ?_) (fun cdv A outer s H vs Q E hr h => ?_)
  · obtain ⟨t, xs, ds, c, v, d, m, rfl, _⟩ := h
    rfl
  obtain ⟨t, xs, ds, c, v, d, m, rfl, hm, ht, hS, gS, l9, c0, c1, hd, bd, q⟩ := h
  have nd := scPt.nd
  refine ⟨_, (pss_cons (ps_set (i := 3) nd rfl (Or.inl rfl) (pe_op op_modN (pe_callTy call_int1 (by rfl) B.int (by decide +kernel) (pa_cons (pv 1) pa_nil)) (pe_op op_add (pe_callB call_len_seq (by rfl) B.len PySem.boot_len (pa_cons (pv 0) pa_nil)) (pe_int))))
 (pss_cons (ps_if (PW.pt (pw_and (pt_cmpR op_lt (pv 3) (pe_callB call_len_seq (by rfl) B.len PySem.boot_len (pa_cons (pv 0) pa_nil)) (nomark _)) (pw_and (pt_cmpR op_eq (pe_ix ix_tup (pe_ix ix_tup (pv 0) (pv 3) (fun _ _ => rfl)) (pe_int) (fun _ _ => rfl)) (pe_str) (nomark _)) (pw_and1 (pt_cmpR op_lt (pe_op op_modN (pe_callTy call_int1 (by rfl) B.int (by decide +kernel) (pa_cons (pe_op op_fdivN (pv 1) (pe_int)) pa_nil)) (pe_int)) (pe_int) (nomark _)))))) (pss_cons (ps_set (i := 4) nd rfl (Or.inl rfl) (pe_call GP hr rfl mP kP bP .nil pass0 (pa_cons (pe_ix ix_tup (pe_ix ix_tup (pv 0) (pv 3) (fun _ _ => rfl)) (pe_op op_add (pe_int) (pe_op op_modN (pe_callTy call_int1 (by rfl) B.int (by decide +kernel) (pa_cons (pe_op op_fdivN (pv 1) (pe_int)) pa_nil)) (pe_int))) (fun _ _ => rfl)) (pa_cons (pe_op op_fdivN (pv 1) (pe_int)) (pa_cons (pv 2) pa_nil)))))
 (pss_cons (ps_if (pt_cmpR op_eq (pe_op op_modN (pe_callTy call_int1 (by rfl) B.int (by decide +kernel) (pa_cons (pe_op op_fdivN (pv 1) (pe_int)) pa_nil)) (pe_int)) (pe_int) (nomark _)) (pss_one (ps_set (i := 5) nd rfl (Or.inl rfl) (pe_tup (pa_cons (pe_str) (pa_cons (pv 4) (pa_cons (pe_ix ix_tup (pe_ix ix_tup (pv 0) (pv 3) (fun _ _ => rfl)) (pe_int) (fun _ _ => rfl)) pa_nil)))))) (pss_one (ps_set (i := 5) nd rfl (Or.inl rfl) (pe_tup (pa_cons (pe_str) (pa_cons (pe_ix ix_tup (pe_ix ix_tup (pv 0) (pv 3) (fun _ _ => rfl)) (pe_int) (fun _ _ => rfl)) (pa_cons (pv 4) pa_nil)))))))
 (pss_one (ps_ret (pe_op op_catA (pe_op op_catA (pe_slice sl_tupA (pv 0) po_none (po_some (pv 3))) (pe_tup (pa_cons (pv 5) pa_nil))) (pe_slice sl_tupA (pv 0) (po_some (pe_op op_add (pv 3) (pe_int))) po_none)))))) pss_nil)
 (pss_one (ps_ret (pe_op op_catA (pe_op op_catA (pe_slice sl_tupA (pv 0) po_none (po_some (pv 3))) (pe_tup (pa_cons (pv 2) pa_nil))) (pe_slice sl_tupA (pv 0) (po_some (pe_op op_add (pv 3) (pe_int))) po_none)))))), ?_⟩
  have lx := atL_len hS
  have n0 : (0 : Int) < ((xs.length : Nat) : Int) + 1 := by omega
  refine ⟨_, rfl, .inl ⟨_, rfl, _, rfl, t, xs, rfl, .inr (SqT.of ht), _, _, rfl, rfl, _, _, rfl, rfl, (by show ((xs.length : Nat) : Int) + 1 ≠ 0; omega), ?_⟩⟩
  have fm := fmod_ok (a := c) n0
  dsimp only
  generalize c.fmod (((xs.length : Nat) : Int) + 1) = ix at fm ⊢
  refine ⟨_, rfl, _, rfl, t, xs, rfl, .inr (SqT.of ht), _, _, rfl, rfl, _, rfl, ?_⟩
  have s0 : Same H H := Same.refl H
  refine ite2 (fun ci => ?_) (fun ci => ?_)
  rotate_left
  · refine ⟨_, rfl, _, rfl, _, rfl, sl_at (s0 _ _ ht) (atL_keep (VK.same s0) _ _ hS) fun y1 xs1 ds1 Ha hy1 at1 l1 m1 sa => ?_⟩
    refine ⟨_, rfl, (by show 1 ≤ sizeLine; decide), fun z1 hz1 => ?_⟩
    have sb := same_new hz1 (.tup [v])
    have lx1 := atL_len at1
    refine cat_at (sb _ _ hy1) upd_same (by show xs1.length + 1 ≤ 1000; omega) fun y2 Hc hy2 sc => ?_
    refine ⟨_, rfl, _, rfl, _, _, rfl, rfl, _, rfl, ?_⟩
    dsimp only [tNoPart]
    have sac := (sa.trans sb).trans sc
    have s1c := s0.trans sac
    refine sl_at (s1c _ _ ht) (atL_keep (VK.same s1c) _ _ hS) fun y3 xs3 ds3 Hd hy3 at3 l3 m3 sd => ?_
    have lx3 := atL_len at3
    refine cat_at (sd _ _ hy2) hy3 (by rw [List.length_append]; show xs1.length + 1 + xs3.length ≤ 1000; omega) fun y4 He hy4 se => ?_
    have vk1 := VK.same (((sb.trans sc).trans sd).trans se)
    have vkx := VK.same ((sac.trans sd).trans se)
    refine q y4 _ (ds1 ++ [d] ++ ds3) He ((s1c.trans sd).trans se) hy4 (atL_app (atL_app (atL_keep vk1 _ _ at1) (atL_one (Dv.keep vkx _ _ hd))) (atL_keep (VK.same se) _ _ at3)) (by simp only [List.length_append, List.length_cons, List.length_nil]; omega) fun y hy => ?_
    rcases List.mem_append.mp hy with hy | hy
    · rcases List.mem_append.mp hy with hy | hy
      · exact gen_ok (gS y (m1 y hy))
      · rw [List.mem_singleton.mp hy]; exact bd
    · exact gen_ok (gS y (m3 y hy))
  have hi : ix < ((xs.length : Nat) : Int) := of_decide_eq_true ci
  have lt : ix.toNat < ds.length := by omega
  have eix : ix = ((ix.toNat : Nat) : Int) := by omega
  have hs : ds[ix.toNat]? = some ds[ix.toNat] := List.getElem?_eq_getElem lt
  obtain ⟨vi, hvi, sv⟩ := atL_get hS hs
  have ati : atI xs ix = some vi := by rw [eix]; exact atI_nat hvi
  have gi := gS _ (List.getElem_mem lt)
  generalize ds[ix.toNat] = di at sv gi
  obtain ⟨z0, r0, edi⟩ := gen_tup gi
  have sv0 := sv
  rw [edi, Dv.at] at sv0
  obtain ⟨a, ys, rfl, ha, _, _, hss⟩ := sv0
  rw [atL] at hss
  obtain ⟨v0, vs, rfl, h0, hr0⟩ := hss
  rw [Dv.at] at h0
  obtain ⟨rfl, _⟩ := h0
  refine ⟨_, rfl, _, rfl, t, xs, ix, .ref a, rfl, rfl, SqT.of ht, ati, a, _, _, _, rfl, rfl, SqT.of ha, (show atI (V.str z0 :: vs) ((0 : Nat) : Int) = some (.str z0) from atI_nat rfl), rfl, _, rfl, ?_⟩
  refine ite2 (fun cz => ?_) (fun cz => ?_)
  rotate_left
  · refine ⟨_, rfl, _, rfl, _, rfl, sl_at (s0 _ _ ht) (atL_keep (VK.same s0) _ _ hS) fun y1 xs1 ds1 Ha hy1 at1 l1 m1 sa => ?_⟩
    refine ⟨_, rfl, (by show 1 ≤ sizeLine; decide), fun z1 hz1 => ?_⟩
    have sb := same_new hz1 (.tup [v])
    have lx1 := atL_len at1
    refine cat_at (sb _ _ hy1) upd_same (by show xs1.length + 1 ≤ 1000; omega) fun y2 Hc hy2 sc => ?_
    refine ⟨_, rfl, _, rfl, _, _, rfl, rfl, _, rfl, ?_⟩
    dsimp only [tNoPart]
    have sac := (sa.trans sb).trans sc
    have s1c := s0.trans sac
    refine sl_at (s1c _ _ ht) (atL_keep (VK.same s1c) _ _ hS) fun y3 xs3 ds3 Hd hy3 at3 l3 m3 sd => ?_
    have lx3 := atL_len at3
    refine cat_at (sd _ _ hy2) hy3 (by rw [List.length_append]; show xs1.length + 1 + xs3.length ≤ 1000; omega) fun y4 He hy4 se => ?_
    have vk1 := VK.same (((sb.trans sc).trans sd).trans se)
    have vkx := VK.same ((sac.trans sd).trans se)
    refine q y4 _ (ds1 ++ [d] ++ ds3) He ((s1c.trans sd).trans se) hy4 (atL_app (atL_app (atL_keep vk1 _ _ at1) (atL_one (Dv.keep vkx _ _ hd))) (atL_keep (VK.same se) _ _ at3)) (by simp only [List.length_append, List.length_cons, List.length_nil]; omega) fun y hy => ?_
    rcases List.mem_append.mp hy with hy | hy
    · rcases List.mem_append.mp hy with hy | hy
      · exact gen_ok (gS y (m1 y hy))
      · rw [List.mem_singleton.mp hy]; exact bd
    · exact gen_ok (gS y (m3 y hy))
  have ez : z0 = "choose" := by
    have := of_decide_eq_true cz
    injection this
  have f9 : ∀ z : Int, 0 ≤ z.fmod 3 ∧ z.fmod 3 < 3 := fun z => fmod_ok (by decide)
  refine ⟨_, rfl, _, _, rfl, rfl, ⟨by decide, by decide⟩, .inl ⟨_, rfl, _, _, rfl, rfl, (by show (3 : Int) ≠ 0; decide), ?_⟩⟩
  dsimp only
  have f3 := f9 (c.fdiv 9)
  refine ⟨_, _, rfl, rfl, _, rfl, ?_⟩
  refine ite2 (fun ck => ?_) (fun ck => ?_)
  rotate_left
  · refine ⟨_, rfl, _, rfl, _, rfl, sl_at (s0 _ _ ht) (atL_keep (VK.same s0) _ _ hS) fun y1 xs1 ds1 Ha hy1 at1 l1 m1 sa => ?_⟩
    refine ⟨_, rfl, (by show 1 ≤ sizeLine; decide), fun z1 hz1 => ?_⟩
    have sb := same_new hz1 (.tup [v])
    have lx1 := atL_len at1
    refine cat_at (sb _ _ hy1) upd_same (by show xs1.length + 1 ≤ 1000; omega) fun y2 Hc hy2 sc => ?_
    refine ⟨_, rfl, _, rfl, _, _, rfl, rfl, _, rfl, ?_⟩
    dsimp only [tNoPart]
    have sac := (sa.trans sb).trans sc
    have s1c := s0.trans sac
    refine sl_at (s1c _ _ ht) (atL_keep (VK.same s1c) _ _ hS) fun y3 xs3 ds3 Hd hy3 at3 l3 m3 sd => ?_
    have lx3 := atL_len at3
    refine cat_at (sd _ _ hy2) hy3 (by rw [List.length_append]; show xs1.length + 1 + xs3.length ≤ 1000; omega) fun y4 He hy4 se => ?_
    have vk1 := VK.same (((sb.trans sc).trans sd).trans se)
    have vkx := VK.same ((sac.trans sd).trans se)
    refine q y4 _ (ds1 ++ [d] ++ ds3) He ((s1c.trans sd).trans se) hy4 (atL_app (atL_app (atL_keep vk1 _ _ at1) (atL_one (Dv.keep vkx _ _ hd))) (atL_keep (VK.same se) _ _ at3)) (by simp only [List.length_append, List.length_cons, List.length_nil]; omega) fun y hy => ?_
    rcases List.mem_append.mp hy with hy | hy
    · rcases List.mem_append.mp hy with hy | hy
      · exact gen_ok (gS y (m1 y hy))
      · rw [List.mem_singleton.mp hy]; exact bd
    · exact gen_ok (gS y (m3 y hy))
  have ck2 : (c.fdiv 9).fmod 3 < 2 := of_decide_eq_true ck
  -- the branches of the choose
  obtain ⟨y, no, m', rfl, er0, gy, gn, ly, ln⟩ : ∃ y no m', m = m' + 1 ∧ r0 = [.tup y, .tup no] ∧ (∀ x ∈ y, GenS m' x) ∧ (∀ x ∈ no, GenS m' x) ∧ y.length ≤ 9 ∧ no.length ≤ 9 := by
    have si : ¬ Simp di := fun h => by
      rw [edi, ez] at h
      rcases h with ⟨w, e⟩ | ⟨b, z, e⟩
      · injection e with e
        injection e with e _
        injection e with e
        have := wd_ne w
        rw [← e] at this
        exact absurd this (by decide +kernel)
      · injection e with e
        injection e with e _
        injection e with e
        have := lk_ne b
        rw [← e] at this
        exact absurd this (by decide +kernel)
    cases m with
    | zero => exact absurd gi si
    | succ m' =>
      rcases gi with h | ⟨y, no, e, h1, h2, h3, h4⟩
      · exact absurd h si
      · rw [edi] at e
        injection e with e
        injection e with _ e
        exact ⟨y, no, m', rfl, e, h1, h2, h3, h4⟩
  subst er0
  subst ez
  rw [atL] at hr0
  obtain ⟨v1, vs1, rfl, h1, hr1⟩ := hr0
  rw [atL] at hr1
  obtain ⟨v2, vs2, rfl, h2, hr2⟩ := hr1
  rw [atL] at hr2
  subst hr2
  have h1' := h1
  have h2' := h2
  rw [Dv.at] at h1 h2
  obtain ⟨b1, zs, rfl, hb1, _, _, aty⟩ := h1
  obtain ⟨b2, ns, rfl, hb2, _, _, atn⟩ := h2
  have two : (c.fdiv 9).fmod 3 = 0 ∨ (c.fdiv 9).fmod 3 = 1 := by omega
  have c27 : 0 ≤ c.fdiv 27 ∧ c.fdiv 27 < 1073741824 := by
    rw [Int.fdiv_eq_ediv_of_nonneg _ (by decide)]
    omega
  rcases two with e3 | e3
  · refine ⟨_, rfl, _, rfl, t, xs, ix, .ref a, rfl, rfl, SqT.of ht, ati, _, rfl, _, _, rfl, rfl, ⟨by decide, by decide⟩, .inl ⟨_, rfl, _, _, rfl, rfl, (by show (3 : Int) ≠ 0; decide), _, _, rfl, rfl, a, _, _, .ref b1, rfl, rfl, SqT.of ha, (by show atI [V.str "choose", V.ref b1, V.ref b2] (1 + (c.fdiv 9).fmod 3) = some (.ref b1); rw [e3]; rfl), ?_⟩⟩
    refine ⟨_, rfl, _, _, rfl, rfl, ⟨by decide, by decide⟩, _, rfl, b1, zs, y, c.fdiv 27, v, d, m', rfl, by omega, hb1, aty, gy, ly, c27.1, c27.2, hd, bd, fun t' xs' ds' H' s' ht' at' l' ok' => ?_⟩
    refine ⟨_, rfl, _, _, rfl, rfl, ⟨by decide, by decide⟩, .inl ⟨_, rfl, _, _, rfl, rfl, (by show (3 : Int) ≠ 0; decide), ?_⟩⟩
    refine ⟨rfl, _, rfl, iteTb (decide_eq_true (by show V.int ((c.fdiv 9).fmod 3) = V.int 0; rw [e3])) ?_⟩
    refine ⟨_, rfl, _, rfl, _, rfl, t, xs, ix, .ref a, rfl, rfl, SqT.of (s' _ _ ht), ati, a, _, _, .ref b2, rfl, rfl, SqT.of (s' _ _ ha), rfl, (by show 3 ≤ sizeLine; decide), fun t5 ht5 => ?_⟩
    have s5 := same_new ht5 (.tup [.str "choose", .ref t', .ref b2])
    have s15 := s'.trans s5
    have tup5 : Dv.at (L2.upd H' t5 (.tup [.str "choose", .ref t', .ref b2])) (.ref t5) (.tup [.str "choose", .tup ds', .tup no]) := wtup_at upd_same w9_ch (by decide +kernel) (by show 2 ≤ 29; decide) (atL_cons (tup_at (s5 _ _ ht') (by omega) (fun z r e => ok' (.str z) (by rw [e]; exact List.mem_cons_self) z rfl) (atL_keep (VK.same s5) _ _ at')) (atL_cons (Dv.keep (VK.same s15) _ _ h2') atL_nil))
    have bok : BadOk (.tup [.str "choose", .tup ds', .tup no]) := fun z e => by cases e
    refine ⟨_, rfl, _, rfl, _, rfl, sl_at (s15 _ _ ht) (atL_keep (VK.same s15) _ _ hS) fun y1 xs1 ds1 Ha hy1 at1 l1 m1 sa => ?_⟩
    refine ⟨_, rfl, (by show 1 ≤ sizeLine; decide), fun z1 hz1 => ?_⟩
    have sb := same_new hz1 (.tup [.ref t5])
    have lx1 := atL_len at1
    refine cat_at (sb _ _ hy1) upd_same (by show xs1.length + 1 ≤ 1000; omega) fun y2 Hc hy2 sc => ?_
    refine ⟨_, rfl, _, rfl, _, _, rfl, rfl, _, rfl, ?_⟩
    dsimp only [tNoPart]
    have sac := (sa.trans sb).trans sc
    have s1c := s15.trans sac
    refine sl_at (s1c _ _ ht) (atL_keep (VK.same s1c) _ _ hS) fun y3 xs3 ds3 Hd hy3 at3 l3 m3 sd => ?_
    have lx3 := atL_len at3
    refine cat_at (sd _ _ hy2) hy3 (by rw [List.length_append]; show xs1.length + 1 + xs3.length ≤ 1000; omega) fun y4 He hy4 se => ?_
    have vk1 := VK.same (((sb.trans sc).trans sd).trans se)
    have vkx := VK.same ((sac.trans sd).trans se)
    refine q y4 _ (ds1 ++ [(.tup [.str "choose", .tup ds', .tup no])] ++ ds3) He ((s1c.trans sd).trans se) hy4 (atL_app (atL_app (atL_keep vk1 _ _ at1) (atL_one (Dv.keep vkx _ _ tup5))) (atL_keep (VK.same se) _ _ at3)) (by simp only [List.length_append, List.length_cons, List.length_nil]; omega) fun y hy => ?_
    rcases List.mem_append.mp hy with hy | hy
    · rcases List.mem_append.mp hy with hy | hy
      · exact gen_ok (gS y (m1 y hy))
      · rw [List.mem_singleton.mp hy]; exact bok
    · exact gen_ok (gS y (m3 y hy))
  · refine ⟨_, rfl, _, rfl, t, xs, ix, .ref a, rfl, rfl, SqT.of ht, ati, _, rfl, _, _, rfl, rfl, ⟨by decide, by decide⟩, .inl ⟨_, rfl, _, _, rfl, rfl, (by show (3 : Int) ≠ 0; decide), _, _, rfl, rfl, a, _, _, .ref b2, rfl, rfl, SqT.of ha, (by show atI [V.str "choose", V.ref b1, V.ref b2] (1 + (c.fdiv 9).fmod 3) = some (.ref b2); rw [e3]; rfl), ?_⟩⟩
    refine ⟨_, rfl, _, _, rfl, rfl, ⟨by decide, by decide⟩, _, rfl, b2, ns, no, c.fdiv 27, v, d, m', rfl, by omega, hb2, atn, gn, ln, c27.1, c27.2, hd, bd, fun t' xs' ds' H' s' ht' at' l' ok' => ?_⟩
    refine ⟨_, rfl, _, _, rfl, rfl, ⟨by decide, by decide⟩, .inl ⟨_, rfl, _, _, rfl, rfl, (by show (3 : Int) ≠ 0; decide), ?_⟩⟩
    refine ⟨rfl, _, rfl, iteFb (decide_eq_false (by show ¬ V.int ((c.fdiv 9).fmod 3) = V.int 0; rw [e3]; decide +kernel)) ?_⟩
    refine ⟨_, rfl, _, rfl, t, xs, ix, .ref a, rfl, rfl, SqT.of (s' _ _ ht), ati, a, _, _, .ref b1, rfl, rfl, SqT.of (s' _ _ ha), rfl, _, rfl, (by show 3 ≤ sizeLine; decide), fun t5 ht5 => ?_⟩
    have s5 := same_new ht5 (.tup [.str "choose", .ref b1, .ref t'])
    have s15 := s'.trans s5
    have tup5 : Dv.at (L2.upd H' t5 (.tup [.str "choose", .ref b1, .ref t'])) (.ref t5) (.tup [.str "choose", .tup y, .tup ds']) := wtup_at upd_same w9_ch (by decide +kernel) (by show 2 ≤ 29; decide) (atL_cons (Dv.keep (VK.same s15) _ _ h1') (atL_cons (tup_at (s5 _ _ ht') (by omega) (fun z r e => ok' (.str z) (by rw [e]; exact List.mem_cons_self) z rfl) (atL_keep (VK.same s5) _ _ at')) atL_nil))
    have bok : BadOk (.tup [.str "choose", .tup y, .tup ds']) := fun z e => by cases e
    refine ⟨_, rfl, _, rfl, _, rfl, sl_at (s15 _ _ ht) (atL_keep (VK.same s15) _ _ hS) fun y1 xs1 ds1 Ha hy1 at1 l1 m1 sa => ?_⟩
    refine ⟨_, rfl, (by show 1 ≤ sizeLine; decide), fun z1 hz1 => ?_⟩
    have sb := same_new hz1 (.tup [.ref t5])
    have lx1 := atL_len at1
    refine cat_at (sb _ _ hy1) upd_same (by show xs1.length + 1 ≤ 1000; omega) fun y2 Hc hy2 sc => ?_
    refine ⟨_, rfl, _, rfl, _, _, rfl, rfl, _, rfl, ?_⟩
    dsimp only [tNoPart]
    have sac := (sa.trans sb).trans sc
    have s1c := s15.trans sac
    refine sl_at (s1c _ _ ht) (atL_keep (VK.same s1c) _ _ hS) fun y3 xs3 ds3 Hd hy3 at3 l3 m3 sd => ?_
    have lx3 := atL_len at3
    refine cat_at (sd _ _ hy2) hy3 (by rw [List.length_append]; show xs1.length + 1 + xs3.length ≤ 1000; omega) fun y4 He hy4 se => ?_
    have vk1 := VK.same (((sb.trans sc).trans sd).trans se)
    have vkx := VK.same ((sac.trans sd).trans se)
    refine q y4 _ (ds1 ++ [(.tup [.str "choose", .tup y, .tup ds'])] ++ ds3) He ((s1c.trans sd).trans se) hy4 (atL_app (atL_app (atL_keep vk1 _ _ at1) (atL_one (Dv.keep vkx _ _ tup5))) (atL_keep (VK.same se) _ _ at3)) (by simp only [List.length_append, List.length_cons, List.length_nil]; omega) fun y hy => ?_
    rcases List.mem_append.mp hy with hy | hy
    · rcases List.mem_append.mp hy with hy | hy
      · exact gen_ok (gS y (m1 y hy))
      · rw [List.mem_singleton.mp hy]; exact bok
    · exact gen_ok (gS y (m3 y hy))
end
end Tk
set_option maxRecDepth 100000
namespace Tk
open PySem L2
/-! ## the law -/
def Rsn (z : Str) : Prop := z = "size" ∨ z = "form" ∨ z = "full" ∨ z = "name" ∨ z = "nested"
theorem fault_rsn {n d : Nat} {h : Int} {x : Dv} {z : Str} (e : faultD n d h x = some z) : Rsn z := by
  unfold faultD at e
  by_cases c : n = 8
  · rw [if_pos c] at e
    exact .inl (Option.some.inj e).symm
  rw [if_neg c] at e
  cases sh : shape x with
  | bad => rw [sh] at e; exact .inr (.inl (Option.some.inj e).symm)
  | one w =>
    rw [sh] at e
    dsimp only at e
    split at e
    · exact .inr (.inr (.inl (Option.some.inj e).symm))
    · cases e
  | nam b y =>
    rw [sh] at e
    dsimp only at e
    split at e
    · cases e
    · exact .inr (.inr (.inr (.inl (Option.some.inj e).symm)))
  | ch y no =>
    rw [sh] at e
    dsimp only at e
    split at e
    · exact .inr (.inr (.inr (.inr (Option.some.inj e).symm)))
    · cases e
theorem chkV_rsn {d : Nat} {f : List Dv → Pl → Nat → Int → Rs} (hf : ∀ B p n h e, f B p n h = .inl e → Rsn e.2) {x : Dv} {p : Pl} {n : Nat} {h : Int} {e : Pl × Str} (he : chkV d f x p n h = .inl e) : Rsn e.2 := by
  unfold chkV at he
  cases fa : faultD n d h x with
  | some z =>
    rw [fa] at he
    injection he with he
    rw [← he]
    exact fault_rsn fa
  | none =>
    rw [fa] at he
    dsimp only at he
    cases sh : shape x with
    | bad => rw [sh] at he; cases he
    | one w => rw [sh] at he; cases he
    | nam b y => rw [sh] at he; cases he
    | ch y no =>
      rw [sh] at he
      dsimp only at he
      cases c1 : f y (p ++ [0]) (n + 1) h with
      | inl e1 =>
        rw [c1] at he
        injection he with he
        rw [← he]
        exact hf _ _ _ _ _ c1
      | inr r =>
        obtain ⟨n1, h1⟩ := r
        rw [c1] at he
        dsimp only at he
        cases c2 : f no (p ++ [1]) n1 h with
        | inl e1 =>
          rw [c2] at he
          injection he with he
          rw [← he]
          exact hf _ _ _ _ _ c2
        | inr r =>
          obtain ⟨n2, h2⟩ := r
          rw [c2] at he
          cases he
theorem loopB_rsn {f : Dv → Pl → Nat → Int → Rs} (hf : ∀ x p n h e, f x p n h = .inl e → Rsn e.2) : ∀ {B : List Dv} {p : Pl} {i n : Nat} {h : Int} {e : Pl × Str}, loopB f B p i n h = .inl e → Rsn e.2
  | [], p, i, n, h, e, he => by rw [loopB] at he; cases he
  | x :: r, p, i, n, h, e, he => by
    rw [loopB] at he
    cases c : f x (p ++ [(i : Int)]) n h with
    | inl e1 =>
      rw [c] at he
      injection he with he
      rw [← he]
      exact hf _ _ _ _ _ c
    | inr rr =>
      obtain ⟨n1, h1⟩ := rr
      rw [c] at he
      exact loopB_rsn hf he
theorem chkB_rsn : ∀ (m : Nat) (B : List Dv) (p : Pl) (n : Nat) (h : Int) (e : Pl × Str), chkB m B p n h = .inl e → Rsn e.2
  | 0, B, p, n, h, e, he => by cases he
  | m + 1, B, p, n, h, e, he => loopB_rsn (fun x p n h e z => chkV_rsn (chkB_rsn m) z) (show loopB (chkV (2 - m) (chkB m)) B p 0 n h = .inl e from he)
theorem due_rsn {d : Dv} {e : Pl × Str} (h : dueD d = some e) : Rsn e.2 := by
  have form : some (([], "form") : Pl × Str) = some e → Rsn e.2 := fun z => by rw [← Option.some.inj z]; exact .inr (.inl rfl)
  cases d with
  | tup ds =>
    cases ds with
    | nil =>
      have h' : some (([], "size") : Pl × Str) = some e := h
      rw [← Option.some.inj h']
      exact .inl rfl
    | cons x r =>
      rw [due_tup] at h
      cases c : chkB 3 (x :: r) [] 0 0 with
      | inl e1 =>
        rw [c] at h
        rw [← Option.some.inj h]
        exact chkB_rsn _ _ _ _ _ _ c
      | inr rr => rw [c] at h; cases h
  | _ => exact form h
theorem ints_lay : ∀ p : Pl, PyData.canLayAll0 (p.map PyData.int) = true
  | [] => by simp [PyData.canLayAll0]
  | i :: p => by simp [PyData.canLayAll0, PyData.canLay0, ints_lay p]
theorem ints_depth : ∀ p : Pl, PyData.depthAll (p.map PyData.int) ≤ 1
  | [] => by simp [PyData.depthAll]
  | i :: p => by
    have h := ints_depth p
    simp only [List.map_cons, PyData.depthAll, PyData.depth]
    omega
theorem ints_dp {K : PySem.W.Frag} {H : Hp} : ∀ p : Pl, DpAll K H (p.map V.int) (p.map PyData.int)
  | [] => .nil
  | i :: p => .cons (.int i) (ints_dp p)
/-- a fault as data -/
def eD (e : Pl × Str) : PyData := .tuple [.tuple (e.1.map PyData.int), .str e.2]
theorem eD_lay {e : Pl × Str} (h : Rsn e.2) : (eD e).canLay0 = true := by
  have s : (PyData.str e.2).canLay0 = true := by
    rcases h with h | h | h | h | h <;> rw [h] <;> decide +kernel
  unfold eD
  simp only [PyData.canLay0, PyData.canLayAll0] at s ⊢
  rw [s, ints_lay]; rfl
theorem eD_sh {e : Pl × Str} (h : Rsn e.2) : SeqAt.shaped (eD e) = true := by
  have d : (eD e).depth ≤ 64 := by
    have := ints_depth e.1
    simp only [eD, PyData.depth, PyData.depthAll]
    omega
  unfold SeqAt.shaped
  rw [eD_lay h, decide_eq_true d]; rfl
def spLaw2 (K : PySem.W.Frag) : Sp := fun vs H Q _ => ∃ (a : Addr) (ns : List Int), vs = [.ref a] ∧ SqL K H a (ns.map V.int) ∧ ns.length ≤ 63 ∧ ∀ H', Q (.bl true) H'
abbrev nsW : List Str := ["_law_script", "_law_value", "_law_k", "_law_pool_here", "_law_spoiled", "_law_at", "_law_names_here", "_law_bad_here", "_law_statements"]
section
variable {P : Program} {w : World} {K : PySem.W.Frag} {mg : Str → Option Value} {base : Heap} {CS CK it CB : Addr}
theorem scW : FnScope nsW ["_law_script"] (defScope sLaw) := ⟨rfl, rfl, rfl, by decide +kernel, rfl, by decide +kernel, by decide +kernel⟩
theorem ok_law2 {f fP fD fN fA fG fQ fO fU : Addr} {fd fdP fdD fdN fdA fdG fdQ fdO fdU : FuncData} (F : Fun K "law" "law" sLaw f fd) (B : Bl mg) (T : Txt K w mg CS CK it)
    (GP : FnOk P w K mg base CX0 1 fP fdP ["_law_script", "_law_k"] (spPool K)) (bP : Binds K fdP ["_law_script", "_law_k"] []) (kP : PySem.W.keepIn K (.ref fP) = true) (mP : mg "_law_pool" = some (.ref fP))
    (GD : FnOk P w K mg base CX0 1 fD fdD ["_law_pool_here", "_law_amount"] spDraw) (bD : Binds K fdD ["_law_pool_here", "_law_amount"] []) (kD : PySem.W.keepIn K (.ref fD) = true) (mD : mg "_law_draw" = some (.ref fD))
    (GN : FnOk P w K mg base CX0 2 fN fdN ["_law_pool_here"] spNames) (bN : Binds K fdN ["_law_pool_here"] []) (kN : PySem.W.keepIn K (.ref fN) = true) (mN : mg "_law_names" = some (.ref fN))
    (GA : FnOk P w K mg base CX0 2 fA fdA ["_law_pool_here", "_law_names_here"] spBad) (bA : Binds K fdA ["_law_pool_here", "_law_names_here"] []) (kA : PySem.W.keepIn K (.ref fA) = true) (mA : mg "_law_bad" = some (.ref fA))
    (GG : FnOk P w K mg base CX0 6 fG fdG psG (spGen 4)) (bG : Binds K fdG psG []) (kG : PySem.W.keepIn K (.ref fG) = true) (mG : mg "_law_branch" = some (.ref fG))
    (GQ : FnOk P w K mg base CX0 5 fQ fdQ psP (spPut 4)) (bQ : Binds K fdQ psP []) (kQ : PySem.W.keepIn K (.ref fQ) = true) (mQ : mg "_law_put" = some (.ref fQ))
    (GO : FnOk P w K mg base CX0 11 fO fdO ["_law_statements"] spSays) (bO : Binds K fdO ["_law_statements"] []) (kO : PySem.W.keepIn K (.ref fO) = true) (mO : mg "_law_told" = some (.ref fO))
    (GU : FnOk P w K mg base CX0 6 fU fdU ["_law_statements"] spSays) (bU : Binds K fdU ["_law_statements"] []) (kU : PySem.W.keepIn K (.ref fU) = true) (mU : mg "_law_due" = some (.ref fU)) :
    FnOk P w K mg base CX0 12 f fd ["_law_script"] (spLaw2 K) := by
  refine F.ok scW (fun vs H Q E h => ?_) (fun cdv A outer s H vs Q E hr h => ?_)
  · obtain ⟨a, ns, rfl, _⟩ := h
    rfl
  obtain ⟨a, ns, rfl, hS, h63, q⟩ := h
  have hu64 : _ + 64 < cLine := Nat.lt_of_le_of_lt (Nat.add_le_add_left (by decide : 64 ≤ 16 * 11 + 200) _) (by have := hr.un; rwa [Nat.add_assoc] at this)
  have hr1 : Room 1 _ := hr.mono (by decide)
  have hr2 : Room 2 _ := hr.mono (by decide)
  have hr5 : Room 5 _ := hr.mono (by decide)
  have hr6 : Room 6 _ := hr.mono (by decide)
  have hr11 := hr
  have nd := scW.nd
  refine ⟨_, (pss_cons (ps_for PassesOwn.never rfl (pi_list (pe_lst (pa_cons (pe_non) (pa_cons (pe_str) (pa_cons (pe_lst (pa_cons (pe_tup (pa_cons (pe_str) pa_nil)) pa_nil)) (pa_cons (pe_int) (pa_cons (pe_tup pa_nil) (pa_cons (pe_tup (pa_cons (pe_tup (pa_cons (pe_str) pa_nil)) pa_nil)) pa_nil)))))))) (pg_name (i := 1) nd rfl (Or.inl rfl)) (pss_one (ps_if (pt_cmpR (op_neD hu64) (pe_call GO hr11 rfl mO kO bO .nil pass0 (pa_cons (pv 1) pa_nil)) (pe_call GU hr6 rfl mU kU bU .nil pass0 (pa_cons (pv 1) pa_nil)) (nomark _)) (pss_one (ps_ret pe_bl)) pss_nil)))
 (pss_cons (ps_for PassesOwn.never rfl (pi_range1 rfl B.range (pa_cons (pe_callB (call_max2 rfl) (by rfl) B.max (by decide +kernel) (pa_cons (pe_int) (pa_cons (pe_callB call_len_seq (by rfl) B.len PySem.boot_len (pa_cons (pv 0) pa_nil)) pa_nil))) pa_nil)) (pg_name (i := 2) nd rfl (Or.inl rfl)) (pss_cons (ps_set (i := 3) nd rfl (Or.inl rfl) (pe_call GP hr1 rfl mP kP bP .nil pass0 (pa_cons (pv 0) (pa_cons (pv 2) pa_nil))))
 (pss_cons (ps_set (i := 4) nd rfl (Or.inl rfl) (pe_cmpR op_gt (pe_call GD hr1 rfl mD kD bD .nil pass0 (pa_cons (pv 3) (pa_cons (pe_int) pa_nil))) (pe_int) (nomark _)))
 (pss_cons (ps_set (i := 5) nd rfl (Or.inl rfl) (pe_call GD hr1 rfl mD kD bD .nil pass0 (pa_cons (pv 3) (pa_cons (pe_op op_pow pe_int pe_int) pa_nil))))
 (pss_cons (ps_set (i := 6) nd rfl (Or.inl rfl) (pe_call GN hr2 rfl mN kN bN .nil pass0 (pa_cons (pv 3) pa_nil)))
 (pss_cons (ps_set (i := 7) nd rfl (Or.inl rfl) (pe_call GA hr2 rfl mA kA bA .nil pass0 (pa_cons (pv 3) (pa_cons (pv 6) pa_nil))))
 (pss_cons (ps_set (i := 8) nd rfl (Or.inl rfl) (pe_call GG hr6 rfl mG kG bG .nil pass0 (pa_cons (pv 3) (pa_cons (pv 6) (pa_cons (pe_op op_add (pe_int) (pe_call GD hr1 rfl mD kD bD .nil pass0 (pa_cons (pv 3) (pa_cons (pe_int) pa_nil)))) (pa_cons (pe_int) pa_nil))))))
 (pss_cons (ps_if (pt_val (pv 4)) (pss_one (ps_set (i := 8) nd rfl (Or.inl rfl) (pe_call GQ hr5 rfl mQ kQ bQ .nil pass0 (pa_cons (pv 8) (pa_cons (pv 5) (pa_cons (pv 7) pa_nil)))))) pss_nil)
 (pss_one (ps_if (pt_cmpR (op_neD hu64) (pe_call GO hr11 rfl mO kO bO .nil pass0 (pa_cons (pv 8) pa_nil)) (pe_call GU hr6 rfl mU kU bU .nil pass0 (pa_cons (pv 8) pa_nil)) (nomark _)) (pss_one (ps_ret pe_bl)) pss_nil))))))))))
 (pss_one (ps_ret pe_bl)))), ?_⟩
  -- values of other kinds
  refine ⟨(by show 1 ≤ sizeLine; decide), fun a1 h1 => ⟨(by show 1 ≤ sizeLine; decide), fun a2 h2 => ⟨(by show 0 ≤ sizeLine; decide), fun a3 h3 => ⟨(by show 1 ≤ sizeLine; decide), fun a4 h4 => ⟨(by show 1 ≤ sizeLine; decide), fun a5 h5 => ⟨(by show 6 ≤ sizeLine; decide), fun A h6 => ?_⟩⟩⟩⟩⟩⟩
  have t1 := same_new h1 (.tup [.str "take"])
  have t2 := same_new h2 (.lst [.ref a1])
  have t3 := same_new h3 (.tup [])
  have t4 := same_new h4 (.tup [.str "take"])
  have t5 := same_new h5 (.tup [.ref a4])
  have t6 := same_new h6 (.lst [.non, .str "take", .ref a2, .int 0, .ref a3, .ref a5])
  have u5 := t5.trans t6
  have u4 := t4.trans u5
  have u3 := t3.trans u4
  have u2 := t2.trans u3
  have u1 := t1.trans u2
  have all0 := atL_cons non_at (atL_cons (str_at (z := "take") (by decide +kernel)) (atL_cons (lst_at (u3 a2 (.lst [.ref a1]) upd_same)) (atL_cons (int_at 0) (atL_cons (e_at (u4 a3 (.tup []) upd_same)) (atL_cons (tup_at (t6 a5 (.tup [.ref a4]) upd_same) (by simp) (fun z r e => by cases e) (atL_cons (one_at (w := .take) (u5 a4 (.tup [.str "take"]) upd_same)) atL_nil)) atL_nil)))))
  refine ⟨A, rfl, ⟨_, SqL.of upd_same⟩, for_list (K := K) (a := A) (xs := [.non, .str "take", .ref a2, .int 0, .ref a3, .ref a5]) (fun j σ H2 => ∃ v1 : Option V, σ = [some (.ref a), v1, none, none, none, none, none, none, none] ∧ Same H H2 ∧ H2 A = some (.lst [.non, .str "take", .ref a2, .int 0, .ref a3, .ref a5]) ∧
    atL H2 [.non, .str "take", .ref a2, .int 0, .ref a3, .ref a5] [.non, .str "take", .lst, .int 0, .tup [], .tup [.tup [.str Wd.take.s]]]) ?_ ?_ ?_ ?_⟩
  · exact ⟨_, rfl, u1, upd_same, all0⟩
  · rintro j σ H2 _ ⟨v1, rfl, _, hA, _⟩
    exact SqL.of hA
  · rintro j v σ H2 hv ⟨v1, rfl, s2, hA, at2⟩
    have lt : j < 6 := (List.getElem?_eq_some_iff.mp hv).1
    obtain ⟨d, ed⟩ : ∃ d, [Dv.non, .str "take", .lst, .int 0, .tup [], .tup [.tup [.str Wd.take.s]]][j]? = some d := ⟨_, List.getElem?_eq_getElem lt⟩
    obtain ⟨v', hv', hd⟩ := atL_get at2 ed
    obtain rfl : v' = v := Option.some.inj (hv'.symm.trans hv)
    refine ⟨_, rfl, v', d, rfl, hd, ?_⟩
    cases hdue : dueD (d) with
    | none =>
      intro H81 s81
      refine ⟨_, rfl, v', d, rfl, Dv.keep (VK.same s81) _ _ hd, ?_⟩
      rw [hdue]
      intro H82 s82
      exact ⟨.none, .none, .non, .non, rfl, rfl, _, rfl, iteF ⟨_, rfl, s2.trans (s81.trans s82), (s81.trans s82) _ _ hA, atL_keep (VK.same (s81.trans s82)) _ _ at2⟩⟩
    | some e =>
      intro z81 u81 H81 s81 hz81 hu81
      refine ⟨_, rfl, v', d, rfl, Dv.keep (VK.same s81) _ _ hd, ?_⟩
      rw [hdue]
      intro z82 u82 H82 s82 hz82 hu82
      have rs := due_rsn hdue
      refine ⟨eD e, eD e, .tup (SqT.of (s82 _ _ hz81)) (.cons (.tup (SqT.of (s82 _ _ hu81)) (ints_dp e.1)) (.cons (.str _) .nil)), .tup (SqT.of hz82) (.cons (.tup (SqT.of hu82) (ints_dp e.1)) (.cons (.str _) .nil)), eD_sh rs, eD_sh rs, _, rfl, ?_⟩
      rw [SeqAt.eqv_refl _ (eD_lay rs)]
      exact iteF ⟨_, rfl, s2.trans (s81.trans s82), (s81.trans s82) _ _ hA, atL_keep (VK.same (s81.trans s82)) _ _ at2⟩
  rintro σ H2 ⟨v1, rfl, s2, _, _⟩
  have hl0 : (ns.map V.int).length = ns.length := List.length_map _
  have bnd : (if ((ns.map V.int).length : Int) > 1 then ((ns.map V.int).length : Int) else 1) ≤ 63 ∧ 1 ≤ (if ((ns.map V.int).length : Int) > 1 then ((ns.map V.int).length : Int) else 1) := by
    rw [hl0]
    split <;> omega
  refine ⟨_, rfl, a, _, rfl, .inl (s2.seq hS), _, _, rfl, _, rfl, by omega, by omega, ?_⟩
  refine for_range (lo := 0) (fun i σ H2 => ∃ v1 v2 v3 v4 v5 v6 v7 v8 : Option V, σ = [some (.ref a), v1, v2, v3, v4, v5, v6, v7, v8] ∧ Same H H2) ⟨v1, none, none, none, none, none, none, none, rfl, s2⟩ ?_ ?_
  rotate_left
  · rintro σ H2 ⟨_, _, _, _, _, _, _, _, rfl, _⟩
    exact q H2
  clear s2 v1
  rintro i σ H2 hi ⟨v1, v2, v3, v4, v5, v6, v7, v8, rfl, s2⟩
  refine ⟨_, rfl, _, rfl, a, ns, _, rfl, s2.seq hS, by omega, fun p H3 hp s3 P3 => ?_⟩
  have hp0 : H p = none := s2.free hp
  refine ⟨_, rfl, p, 4, rfl, P3, by decide, by decide, fun r4 H4 _ _ k4 P4 => ?_⟩
  refine ⟨_, _, rfl, rfl, _, rfl, _, _, rfl, rfl, ⟨by decide, by decide, by decide⟩, p, _, rfl, P4, by decide +kernel, by decide +kernel, fun at5 H5 a5 b5 k5 P5 => ?_⟩
  refine ⟨_, rfl, p, rfl, P5, fun nq H6 hq k6 P6 N6 => ?_⟩
  have npq : nq ≠ p := by obtain ⟨_, _, _, z⟩ := P5; exact (ne_of_none z hq).symm
  refine ⟨_, rfl, _, rfl, p, nq, rfl, P6, N6, npq, fun vb db H7 hvb okb k7 P7 => ?_⟩
  have N7 := N6.kp k7 npq
  refine ⟨_, rfl, _, rfl, _, rfl, p, 9, rfl, P7, by decide, by decide, fun r8 H8 a8 b8 k8 P8 => ?_⟩
  have N8 := N7.kp k8 npq
  refine ⟨_, _, rfl, rfl, p, nq, 1 + r8, 0, rfl, rfl, by decide, P8, N8, npq, by omega, by omega, fun t xs ds H9 ht hS9 gS9 l9 k9 P9 => ?_⟩
  have base9 : Same H H9 := fun c o e => by
    have n : c ≠ p := ne_of_none e hp0
    exact k9 _ _ (k8 _ _ (k7 _ _ (k6 _ _ (k5 _ _ (k4 _ _ (s3 _ _ (s2 _ _ e)) n) n) n) n) n) n
  have hvb9 := Dv.keep ((VK.pool k8 P7 P8).trans (VK.pool k9 P8 P9)) _ _ hvb
  have l10 : ds.length ≤ 9 := by omega
  cases c4 : decide (0 < r4) with
  | false =>
    refine ⟨_, rfl, false, congrArg V.bl c4, iteF ?_⟩
    have s28 := base9
    have hd8 : Dv.at H9 (.ref t) (.tup ds) := gtup_at ht (by omega) gS9 hS9
    refine ⟨_, rfl, V.ref t, Dv.tup ds, rfl, hd8, ?_⟩
    cases hdue : dueD (Dv.tup ds) with
    | none =>
      intro H81 s81
      refine ⟨_, rfl, V.ref t, Dv.tup ds, rfl, Dv.keep (VK.same s81) _ _ hd8, ?_⟩
      rw [hdue]
      intro H82 s82
      exact ⟨.none, .none, .non, .non, rfl, rfl, _, rfl, iteF ⟨_, _, _, _, _, _, _, _, rfl, s28.trans (s81.trans s82)⟩⟩
    | some e =>
      intro z81 u81 H81 s81 hz81 hu81
      refine ⟨_, rfl, V.ref t, Dv.tup ds, rfl, Dv.keep (VK.same s81) _ _ hd8, ?_⟩
      rw [hdue]
      intro z82 u82 H82 s82 hz82 hu82
      have rs := due_rsn hdue
      refine ⟨eD e, eD e, .tup (SqT.of (s82 _ _ hz81)) (.cons (.tup (SqT.of (s82 _ _ hu81)) (ints_dp e.1)) (.cons (.str _) .nil)), .tup (SqT.of hz82) (.cons (.tup (SqT.of hu82) (ints_dp e.1)) (.cons (.str _) .nil)), eD_sh rs, eD_sh rs, _, rfl, ?_⟩
      rw [SeqAt.eqv_refl _ (eD_lay rs)]
      exact iteF ⟨_, _, _, _, _, _, _, _, rfl, s28.trans (s81.trans s82)⟩
  | true =>
    refine ⟨_, rfl, true, congrArg V.bl c4, iteT ?_⟩
    refine ⟨_, rfl, _, rfl, _, rfl, t, xs, ds, at5, vb, db, 3, rfl, by decide, ht, hS9, gS9, l10, a5, Int.lt_of_lt_of_le b5 (by decide +kernel), hvb9, okb, fun t' xs' ds' H10 s10 ht' hS' l19 ok' => ?_⟩
    have s28 := base9.trans s10
    have hd8 : Dv.at H10 (.ref t') (.tup ds') := tup_at ht' (by omega) (fun z r e => ok' (.str z) (by rw [e]; exact List.mem_cons_self) z rfl) hS'
    refine ⟨_, rfl, V.ref t', Dv.tup ds', rfl, hd8, ?_⟩
    cases hdue : dueD (Dv.tup ds') with
    | none =>
      intro H81 s81
      refine ⟨_, rfl, V.ref t', Dv.tup ds', rfl, Dv.keep (VK.same s81) _ _ hd8, ?_⟩
      rw [hdue]
      intro H82 s82
      exact ⟨.none, .none, .non, .non, rfl, rfl, _, rfl, iteF ⟨_, _, _, _, _, _, _, _, rfl, s28.trans (s81.trans s82)⟩⟩
    | some e =>
      intro z81 u81 H81 s81 hz81 hu81
      refine ⟨_, rfl, V.ref t', Dv.tup ds', rfl, Dv.keep (VK.same s81) _ _ hd8, ?_⟩
      rw [hdue]
      intro z82 u82 H82 s82 hz82 hu82
      have rs := due_rsn hdue
      refine ⟨eD e, eD e, .tup (SqT.of (s82 _ _ hz81)) (.cons (.tup (SqT.of (s82 _ _ hu81)) (ints_dp e.1)) (.cons (.str _) .nil)), .tup (SqT.of hz82) (.cons (.tup (SqT.of hu82) (ints_dp e.1)) (.cons (.str _) .nil)), eD_sh rs, eD_sh rs, _, rfl, ?_⟩
      rw [SeqAt.eqv_refl _ (eD_lay rs)]
      exact iteF ⟨_, _, _, _, _, _, _, _, rfl, s28.trans (s81.trans s82)⟩
end
end Tk
set_option maxRecDepth 100000
namespace Tk
open PySem L2 PyProof.Rows
theorem gens {P : Program} {w : World} {K : PySem.W.Frag} {mg : Str → Option Value} {base : Heap} {f fD fS : Addr} {fd fdD fdS : FuncData} (F : Fun K "_law_branch" "_law_branch" sBranch f fd) (B : Bl mg) (GD : FnOk P w K mg base CX0 1 fD fdD ["_law_pool_here", "_law_amount"] spDraw) (bD : Binds K fdD ["_law_pool_here", "_law_amount"] []) (kD : PySem.W.keepIn K (.ref fD) = true) (mD : mg "_law_draw" = some (.ref fD))
    (GS : FnOk P w K mg base CX0 2 fS fdS ["_law_pool_here", "_law_names_here"] spSimp) (bS : Binds K fdS ["_law_pool_here", "_law_names_here"] []) (kS : PySem.W.keepIn K (.ref fS) = true) (mS : mg "_law_simple" = some (.ref fS)) (bB : Binds K fd psG []) (mB : mg "_law_branch" = some (.ref f)) : ∀ m : Nat, FnOk P w K mg base CX0 (2 + m) f fd psG (spGen m)
  | 0 => by
    have no : ∀ vs H Q E, ¬ spGen 0 vs H Q E := fun vs H Q E h => by
      obtain ⟨_, _, _, d, _, e, d3, _⟩ := h
      omega
    exact ⟨fun vs H Q E h => absurd h (no vs H Q E), fun A outer s H args us vs Q E _ _ _ _ h => absurd h (no vs H Q E)⟩
  | m + 1 => ok_gen F B GD bD kD mD GS bS kS mS (gens F B GD bD kD mD GS bS kS mS bB mB m) bB mB
theorem puts {P : Program} {w : World} {K : PySem.W.Frag} {mg : Str → Option Value} {base : Heap} {f : Addr} {fd : FuncData} (F : Fun K "_law_put" "_law_put" sPut f fd) (B : Bl mg) (bP : Binds K fd psP []) (mP : mg "_law_put" = some (.ref f)) : ∀ k : Nat, FnOk P w K mg base CX0 (1 + k) f fd psP (spPut k)
  | 0 => by
    have no : ∀ vs H Q E, ¬ spPut 0 vs H Q E := fun vs H Q E h => by
      obtain ⟨_, _, _, _, _, _, m, _, e, _⟩ := h
      omega
    exact ⟨fun vs H Q E h => absurd h (no vs H Q E), fun A outer s H args us vs Q E _ _ _ _ h => absurd h (no vs H Q E)⟩
  | k + 1 => ok_put F B (puts F B bP mP k) bP mP
theorem reads {P : Program} {w : World} {K : PySem.W.Frag} {mg : Str → Option Value} {base : Heap} {CS CK it : Addr} {f fF : Addr} {fd fdF : FuncData} (F : Fun K "_law_read" "_law_read" sLRead f fd) (B : Bl mg) (T : Txt K w mg CS CK it)
    (GF : FnOk P w K mg base CX0 2 fF fdF ["_law_value", "_law_depth", "_law_box"] spLFault) (bF : Binds K fdF ["_law_value", "_law_depth", "_law_box"] []) (kF : PySem.W.keepIn K (.ref fF) = true) (mF : mg "_law_fault" = some (.ref fF)) (bR : Binds K fd psR []) (mR : mg "_law_read" = some (.ref f)) : ∀ m : Nat, FnOk P w K mg base CX0 (2 + m) f fd psR (spRead m)
  | 0 => by
    have no : ∀ vs H Q E, ¬ spRead 0 vs H Q E := fun vs H Q E h => by
      obtain ⟨_, _, _, _, _, d, _, _, _, _, e, d2, _⟩ := h
      omega
    exact ⟨fun vs H Q E h => absurd h (no vs H Q E), fun A outer s H args us vs Q E _ _ _ _ h => absurd h (no vs H Q E)⟩
  | m + 1 => ok_read F B T GF bF kF mF (reads F B T GF bF kF mF bR mR m) bR mR
theorem checkx {P : Program} {w : World} {K : PySem.W.Frag} {mg : Str → Option Value} {base : Heap} {CS CK it CB : Addr} {fB fS fF fI fH : Addr} {fdB fdS fdF fdI fdH : FuncData} (FB : Fun K "check_branch" "Check.check_branch" sKBr fB fdB) (FS : Fun K "check_statement" "Check.check_statement" sKSt fS fdS) (B : Bl mg) (T : Txt K w mg CS CK it) (TB : Ecl K mg "BadScript" "place" CB fI)
    (GI : FnOk P w K mg base CX0 1 fI fdI ["self", "place", "why"] (spEI2 CB)) (bI : Binds K fdI ["self", "place", "why"] []) (bB : Binds K fdB psKB []) (mB : Meth K CK "check_branch" fB) (bS : Binds K fdS psKS []) (mS : Meth K CK "check_statement" fS)
    (GF : FnOk P w K mg base CX0 2 fF fdF ["statement", "place", "earlier", "held"] spFaultD) (bF : Binds K fdF ["statement", "place", "earlier", "held"] []) (kF : PySem.W.keepIn K (.ref fF) = true) (mF : mg "fault_of" = some (.ref fF)) (GH : FnOk P w K mg base CX0 1 fH fdH ["word", "held"] spHeld) (bH : Binds K fdH ["word", "held"] []) (kH : PySem.W.keepIn K (.ref fH) = true) (mH : mg "held_after" = some (.ref fH)) : ∀ m : Nat, FnOk P w K mg base (L2.CX P w) (2 + 2 * m) fB fdB psKB (spKBx CB CK m)
  | 0 => by
    have no : ∀ vs H Q E, ¬ spKBx CB CK 0 vs H Q E := fun vs H Q E h => by
      obtain ⟨_, _, _, _, _, _, _, d, _, _, _, e, d2, _⟩ := h
      omega
    exact ⟨fun vs H Q E h => absurd h (no vs H Q E), fun A outer s H args us vs Q E _ _ _ _ h => absurd h (no vs H Q E)⟩
  | m + 1 => ok_kbrx FB T (ok_kstx (n := 2 + 2 * m) (Nat.le_add_right 2 _) FS B T TB GI bI (checkx FB FS B T TB GI bI bB mB bS mS GF bF kF mF GH bH kH mH m) bB mB GF bF kF mF GH bH kH mH) bS mS
theorem kit_ty1 {K : PySem.W.Frag} {D : Addr} {t : String} {b : Bool} (s : PySem.W.subIn K (.ref D) (.type t) = some b) (ht : PySem.W.kitOne K (.ref D) (.type t) = PySem.W.subIn K (.ref D) (.type t)) : PySem.W.kitOne K (.ref D) (.type t) = some b := ht.trans s
theorem kit_ref {K : PySem.W.Frag} {D C : Addr} {b : Bool} (hne : (Value.ref D == Value.ref C) = false) (ic : PySem.W.isClsIn K C = true) (tC : PySem.W.typeIn K (.ref C) = some (.type "type")) (s : PySem.W.subIn K (.ref D) (.ref C) = some b) : PySem.W.kitOne K (.ref D) (.ref C) = some b := by
  have e1 : (PySem.W.clsIn K C).isSome = true := ic
  unfold PySem.W.kitOne
  rw [hne, if_neg (by decide)]
  show (if ((PySem.W.clsIn K C).isSome && PySem.W.typeIn K (.ref C) == some (.type "type")) = true then PySem.W.subIn K (.ref D) (.ref C) else none) = some b
  rw [e1, tC, if_pos (show (true && some (Value.type "type") == some (Value.type "type")) = true from by rw [beq_self_eq_true]; rfl)]
  exact s
theorem ve_ok {CT : Addr} : PySem.HandSPX.refsVE [.ref CT, .type "ValueError", .type "Exception", .type "BaseException", .type "object"] = true := by
  show PySem.HandSPX.refsVE [.type "ValueError", .type "Exception", .type "BaseException", .type "object"] = true
  decide +kernel

theorem all_mk {l : PySem.W.OpenLaw} {w : World} {K : PySem.W.Frag} {h : Heap} {mg : Str → Option Value} {fa CS CK CB CN CT it f_isName f_fault f_form f_held f_pool f_draw f_names f_simple f_branch f_bad f_put f_lname f_lform f_lfault f_read f_due f_told f_law f_sinit f_kinit f_kbr f_kst f_bsi : Addr} (X : K.In h) (G : h.Ns mainGlobals mg) (hfa : mg "law" = some (.ref fa))
    {nmCB qCB : Str} {NCB : Addr} {bsCB sbCB : List Value} {snCB : List Str} {abCB : Bool} {coCB : Option Bool} {ddCB : Option Addr} {m0CB m1CB m2CB m3CB m5CB : Option Value}
    {od_isName an_isName : Option Addr} {sl_isName : Array (Option Value)} {oc_isName kV_isName dc_isName pm_isName cd_isName ct_isName : Value}
    {od_fault an_fault : Option Addr} {sl_fault : Array (Option Value)} {oc_fault kV_fault dc_fault pm_fault cd_fault ct_fault : Value}
    {od_form an_form : Option Addr} {sl_form : Array (Option Value)} {oc_form kV_form dc_form pm_form cd_form ct_form : Value}
    {od_held an_held : Option Addr} {sl_held : Array (Option Value)} {oc_held kV_held dc_held pm_held cd_held ct_held : Value}
    {od_pool an_pool : Option Addr} {sl_pool : Array (Option Value)} {oc_pool kV_pool dc_pool pm_pool cd_pool ct_pool : Value}
    {od_draw an_draw : Option Addr} {sl_draw : Array (Option Value)} {oc_draw kV_draw dc_draw pm_draw cd_draw ct_draw : Value}
    {od_names an_names : Option Addr} {sl_names : Array (Option Value)} {oc_names kV_names dc_names pm_names cd_names ct_names : Value}
    {od_simple an_simple : Option Addr} {sl_simple : Array (Option Value)} {oc_simple kV_simple dc_simple pm_simple cd_simple ct_simple : Value}
    {od_branch an_branch : Option Addr} {sl_branch : Array (Option Value)} {oc_branch kV_branch dc_branch pm_branch cd_branch ct_branch : Value}
    {od_bad an_bad : Option Addr} {sl_bad : Array (Option Value)} {oc_bad kV_bad dc_bad pm_bad cd_bad ct_bad : Value}
    {od_put an_put : Option Addr} {sl_put : Array (Option Value)} {oc_put kV_put dc_put pm_put cd_put ct_put : Value}
    {od_lname an_lname : Option Addr} {sl_lname : Array (Option Value)} {oc_lname kV_lname dc_lname pm_lname cd_lname ct_lname : Value}
    {od_lform an_lform : Option Addr} {sl_lform : Array (Option Value)} {oc_lform kV_lform dc_lform pm_lform cd_lform ct_lform : Value}
    {od_lfault an_lfault : Option Addr} {sl_lfault : Array (Option Value)} {oc_lfault kV_lfault dc_lfault pm_lfault cd_lfault ct_lfault : Value}
    {od_read an_read : Option Addr} {sl_read : Array (Option Value)} {oc_read kV_read dc_read pm_read cd_read ct_read : Value}
    {od_due an_due : Option Addr} {sl_due : Array (Option Value)} {oc_due kV_due dc_due pm_due cd_due ct_due : Value}
    {od_told an_told : Option Addr} {sl_told : Array (Option Value)} {oc_told kV_told dc_told pm_told cd_told ct_told : Value}
    {od_law an_law : Option Addr} {sl_law : Array (Option Value)} {oc_law kV_law dc_law pm_law cd_law ct_law : Value}
    {od_sinit an_sinit : Option Addr} {sl_sinit : Array (Option Value)} {oc_sinit kV_sinit dc_sinit pm_sinit cd_sinit ct_sinit : Value}
    {od_kinit an_kinit : Option Addr} {sl_kinit : Array (Option Value)} {oc_kinit kV_kinit dc_kinit pm_kinit cd_kinit ct_kinit : Value}
    {od_kbr an_kbr : Option Addr} {sl_kbr : Array (Option Value)} {oc_kbr kV_kbr dc_kbr pm_kbr cd_kbr ct_kbr : Value}
    {od_kst an_kst : Option Addr} {sl_kst : Array (Option Value)} {oc_kst kV_kst dc_kst pm_kst cd_kst ct_kst : Value}
    {od_bsi an_bsi : Option Addr} {sl_bsi : Array (Option Value)} {oc_bsi kV_bsi dc_bsi pm_bsi cd_bsi ct_bsi : Value}
    {esI : Array DictEntry} {nI : Nat} {t_LONGEST_NAME t_MOST_STATEMENTS t_MOST_HELD t_MOST_NESTED t_take t_commit t_rollback t_drop t_leave t_lock t_unlock t_choose : Tok}
    (aCS : PySem.W.nsIn K mainGlobals "Script" = some (some (.ref CS)))
    (aCK : PySem.W.nsIn K mainGlobals "Check" = some (some (.ref CK)))
    (aCB : PySem.W.nsIn K mainGlobals "BadScript" = some (some (.ref CB)))
    (aCN : PySem.W.nsIn K mainGlobals "NoPlace" = some (some (.ref CN)))
    (aCT : PySem.W.nsIn K mainGlobals "TakeError" = some (some (.ref CT)))
    (pgCS : PySem.W.plainGet K CS Str.empty = true)
    (hdCS : PySem.W.hasDictIn K CS = true)
    (poCS : PySem.W.plainOver K CS = true)
    (saCS : PySem.W.findIn K (.ref CS) "__setattr__" = some (some (.builtin "object.__setattr__")))
    (mkCS : PySem.W.makesIn K CS = true)
    (kcCS : PySem.W.keepIn K (.ref CS) = true)
    (pgCK : PySem.W.plainGet K CK Str.empty = true)
    (hdCK : PySem.W.hasDictIn K CK = true)
    (poCK : PySem.W.plainOver K CK = true)
    (saCK : PySem.W.findIn K (.ref CK) "__setattr__" = some (some (.builtin "object.__setattr__")))
    (mkCK : PySem.W.makesIn K CK = true)
    (kcCK : PySem.W.keepIn K (.ref CK) = true)
    (nCSstatements : PySem.W.findIn K (.ref CS) "statements" = some none)
    (nCSfound : PySem.W.findIn K (.ref CS) "found" = some none)
    (nCSplaces : PySem.W.findIn K (.ref CS) "places" = some none)
    (nCKfound : PySem.W.findIn K (.ref CK) "found" = some none)
    (cn : PySem.W.specialIn K (.builtin "object.__class__") "__get__" = some (some (.builtin "getset_descriptor.__get__")))
    (ct : PySem.W.takesIn K (.builtin "object.__class__") = some true)
    (xCB : K.lookup CB = some (excClassObj nmCB qCB CB NCB bsCB [.ref CT, .type "ValueError", .type "Exception", .type "BaseException", .type "object"] true snCB sbCB abCB coCB ddCB m0CB m1CB m2CB m3CB m5CB "ValueError.__new__"))
    (saCB : PySem.W.findIn K (.ref CB) "__setattr__" = some (some (.builtin "object.__setattr__")))
    (gaCB : PySem.W.findIn K (.ref CB) "__getattribute__" = some (some (.builtin "BaseException.__getattribute__")))
    (ggCB : PySem.W.findIn K (.ref CB) "__getattr__" = some none)
    (nfCB : PySem.W.findIn K (.ref CB) "place" = some none)
    (eCB : PySem.W.subIn K (.ref CB) (.type "BaseException") = some true)
    (tCB : PySem.W.typeIn K (.ref CB) = some (.type "type"))
    (hCB : PySem.W.hasDictIn K CB = true)
    (kcCB : PySem.W.keepIn K (.ref CB) = true)
    (caCB : PySem.W.findIn K (.ref CB) "__class__" = some (some (.builtin "object.__class__")))
    (obCB : PySem.W.mroIn K CB (.type "object") = some true)
    (iCB : PySem.W.isClsIn K CB = true)
    (nfw : PySem.W.findIn K (.ref CB) "why" = some none)
    (iCT : PySem.W.isClsIn K CT = true)
    (tCT : PySem.W.typeIn K (.ref CT) = some (.type "type"))
    (iCN : PySem.W.isClsIn K CN = true)
    (tCN : PySem.W.typeIn K (.ref CN) = some (.type "type"))
    (sCBCB : PySem.W.subIn K (.ref CB) (.ref CB) = some true)
    (sCBCT : PySem.W.subIn K (.ref CB) (.ref CT) = some true)
    (sCBCN : PySem.W.subIn K (.ref CB) (.ref CN) = some false)
    (sVE : PySem.W.subIn K (.ref CB) (.type "ValueError") = some true)
    (dCBCT : (Value.ref CB == Value.ref CT) = false)
    (dCBCN : (Value.ref CB == Value.ref CN) = false)
    (a_isName : PySem.W.nsIn K mainGlobals "is_name" = some (some (.ref f_isName)))
    (l_isName : K.lookup f_isName = some ⟨oc_isName, od_isName, .func (PySem.W.fnOf "is_name" "is_name" (defArgs sIsName) (defBody sIsName) (defScope sIsName) .none kV_isName dc_isName pm_isName an_isName cd_isName ct_isName), sl_isName⟩)
    (c_isName : PySem.W.codeIn K cd_isName "is_name" = true)
    (k_isName : PySem.W.keepIn K (.ref f_isName) = true)
    (a_fault : PySem.W.nsIn K mainGlobals "fault_of" = some (some (.ref f_fault)))
    (l_fault : K.lookup f_fault = some ⟨oc_fault, od_fault, .func (PySem.W.fnOf "fault_of" "fault_of" (defArgs sFault) (defBody sFault) (defScope sFault) .none kV_fault dc_fault pm_fault an_fault cd_fault ct_fault), sl_fault⟩)
    (c_fault : PySem.W.codeIn K cd_fault "fault_of" = true)
    (k_fault : PySem.W.keepIn K (.ref f_fault) = true)
    (a_form : PySem.W.nsIn K mainGlobals "has_form" = some (some (.ref f_form)))
    (l_form : K.lookup f_form = some ⟨oc_form, od_form, .func (PySem.W.fnOf "has_form" "has_form" (defArgs sForm) (defBody sForm) (defScope sForm) .none kV_form dc_form pm_form an_form cd_form ct_form), sl_form⟩)
    (c_form : PySem.W.codeIn K cd_form "has_form" = true)
    (k_form : PySem.W.keepIn K (.ref f_form) = true)
    (a_held : PySem.W.nsIn K mainGlobals "held_after" = some (some (.ref f_held)))
    (l_held : K.lookup f_held = some ⟨oc_held, od_held, .func (PySem.W.fnOf "held_after" "held_after" (defArgs sHeld) (defBody sHeld) (defScope sHeld) .none kV_held dc_held pm_held an_held cd_held ct_held), sl_held⟩)
    (c_held : PySem.W.codeIn K cd_held "held_after" = true)
    (k_held : PySem.W.keepIn K (.ref f_held) = true)
    (a_pool : PySem.W.nsIn K mainGlobals "_law_pool" = some (some (.ref f_pool)))
    (l_pool : K.lookup f_pool = some ⟨oc_pool, od_pool, .func (PySem.W.fnOf "_law_pool" "_law_pool" (defArgs sPool) (defBody sPool) (defScope sPool) .none kV_pool dc_pool pm_pool an_pool cd_pool ct_pool), sl_pool⟩)
    (c_pool : PySem.W.codeIn K cd_pool "_law_pool" = true)
    (k_pool : PySem.W.keepIn K (.ref f_pool) = true)
    (a_draw : PySem.W.nsIn K mainGlobals "_law_draw" = some (some (.ref f_draw)))
    (l_draw : K.lookup f_draw = some ⟨oc_draw, od_draw, .func (PySem.W.fnOf "_law_draw" "_law_draw" (defArgs sDraw) (defBody sDraw) (defScope sDraw) .none kV_draw dc_draw pm_draw an_draw cd_draw ct_draw), sl_draw⟩)
    (c_draw : PySem.W.codeIn K cd_draw "_law_draw" = true)
    (k_draw : PySem.W.keepIn K (.ref f_draw) = true)
    (a_names : PySem.W.nsIn K mainGlobals "_law_names" = some (some (.ref f_names)))
    (l_names : K.lookup f_names = some ⟨oc_names, od_names, .func (PySem.W.fnOf "_law_names" "_law_names" (defArgs sNames) (defBody sNames) (defScope sNames) .none kV_names dc_names pm_names an_names cd_names ct_names), sl_names⟩)
    (c_names : PySem.W.codeIn K cd_names "_law_names" = true)
    (k_names : PySem.W.keepIn K (.ref f_names) = true)
    (a_simple : PySem.W.nsIn K mainGlobals "_law_simple" = some (some (.ref f_simple)))
    (l_simple : K.lookup f_simple = some ⟨oc_simple, od_simple, .func (PySem.W.fnOf "_law_simple" "_law_simple" (defArgs sSimple) (defBody sSimple) (defScope sSimple) .none kV_simple dc_simple pm_simple an_simple cd_simple ct_simple), sl_simple⟩)
    (c_simple : PySem.W.codeIn K cd_simple "_law_simple" = true)
    (k_simple : PySem.W.keepIn K (.ref f_simple) = true)
    (a_branch : PySem.W.nsIn K mainGlobals "_law_branch" = some (some (.ref f_branch)))
    (l_branch : K.lookup f_branch = some ⟨oc_branch, od_branch, .func (PySem.W.fnOf "_law_branch" "_law_branch" (defArgs sBranch) (defBody sBranch) (defScope sBranch) .none kV_branch dc_branch pm_branch an_branch cd_branch ct_branch), sl_branch⟩)
    (c_branch : PySem.W.codeIn K cd_branch "_law_branch" = true)
    (k_branch : PySem.W.keepIn K (.ref f_branch) = true)
    (a_bad : PySem.W.nsIn K mainGlobals "_law_bad" = some (some (.ref f_bad)))
    (l_bad : K.lookup f_bad = some ⟨oc_bad, od_bad, .func (PySem.W.fnOf "_law_bad" "_law_bad" (defArgs sBad) (defBody sBad) (defScope sBad) .none kV_bad dc_bad pm_bad an_bad cd_bad ct_bad), sl_bad⟩)
    (c_bad : PySem.W.codeIn K cd_bad "_law_bad" = true)
    (k_bad : PySem.W.keepIn K (.ref f_bad) = true)
    (a_put : PySem.W.nsIn K mainGlobals "_law_put" = some (some (.ref f_put)))
    (l_put : K.lookup f_put = some ⟨oc_put, od_put, .func (PySem.W.fnOf "_law_put" "_law_put" (defArgs sPut) (defBody sPut) (defScope sPut) .none kV_put dc_put pm_put an_put cd_put ct_put), sl_put⟩)
    (c_put : PySem.W.codeIn K cd_put "_law_put" = true)
    (k_put : PySem.W.keepIn K (.ref f_put) = true)
    (a_lname : PySem.W.nsIn K mainGlobals "_law_name" = some (some (.ref f_lname)))
    (l_lname : K.lookup f_lname = some ⟨oc_lname, od_lname, .func (PySem.W.fnOf "_law_name" "_law_name" (defArgs sLName) (defBody sLName) (defScope sLName) .none kV_lname dc_lname pm_lname an_lname cd_lname ct_lname), sl_lname⟩)
    (c_lname : PySem.W.codeIn K cd_lname "_law_name" = true)
    (k_lname : PySem.W.keepIn K (.ref f_lname) = true)
    (a_lform : PySem.W.nsIn K mainGlobals "_law_form" = some (some (.ref f_lform)))
    (l_lform : K.lookup f_lform = some ⟨oc_lform, od_lform, .func (PySem.W.fnOf "_law_form" "_law_form" (defArgs sLForm) (defBody sLForm) (defScope sLForm) .none kV_lform dc_lform pm_lform an_lform cd_lform ct_lform), sl_lform⟩)
    (c_lform : PySem.W.codeIn K cd_lform "_law_form" = true)
    (k_lform : PySem.W.keepIn K (.ref f_lform) = true)
    (a_lfault : PySem.W.nsIn K mainGlobals "_law_fault" = some (some (.ref f_lfault)))
    (l_lfault : K.lookup f_lfault = some ⟨oc_lfault, od_lfault, .func (PySem.W.fnOf "_law_fault" "_law_fault" (defArgs sLFault) (defBody sLFault) (defScope sLFault) .none kV_lfault dc_lfault pm_lfault an_lfault cd_lfault ct_lfault), sl_lfault⟩)
    (c_lfault : PySem.W.codeIn K cd_lfault "_law_fault" = true)
    (k_lfault : PySem.W.keepIn K (.ref f_lfault) = true)
    (a_read : PySem.W.nsIn K mainGlobals "_law_read" = some (some (.ref f_read)))
    (l_read : K.lookup f_read = some ⟨oc_read, od_read, .func (PySem.W.fnOf "_law_read" "_law_read" (defArgs sLRead) (defBody sLRead) (defScope sLRead) .none kV_read dc_read pm_read an_read cd_read ct_read), sl_read⟩)
    (c_read : PySem.W.codeIn K cd_read "_law_read" = true)
    (k_read : PySem.W.keepIn K (.ref f_read) = true)
    (a_due : PySem.W.nsIn K mainGlobals "_law_due" = some (some (.ref f_due)))
    (l_due : K.lookup f_due = some ⟨oc_due, od_due, .func (PySem.W.fnOf "_law_due" "_law_due" (defArgs sLDue) (defBody sLDue) (defScope sLDue) .none kV_due dc_due pm_due an_due cd_due ct_due), sl_due⟩)
    (c_due : PySem.W.codeIn K cd_due "_law_due" = true)
    (k_due : PySem.W.keepIn K (.ref f_due) = true)
    (a_told : PySem.W.nsIn K mainGlobals "_law_told" = some (some (.ref f_told)))
    (l_told : K.lookup f_told = some ⟨oc_told, od_told, .func (PySem.W.fnOf "_law_told" "_law_told" (defArgs sLTold) (defBody sLTold) (defScope sLTold) .none kV_told dc_told pm_told an_told cd_told ct_told), sl_told⟩)
    (c_told : PySem.W.codeIn K cd_told "_law_told" = true)
    (k_told : PySem.W.keepIn K (.ref f_told) = true)
    (a_law : PySem.W.nsIn K mainGlobals "law" = some (some (.ref f_law)))
    (l_law : K.lookup f_law = some ⟨oc_law, od_law, .func (PySem.W.fnOf "law" "law" (defArgs sLaw) (defBody sLaw) (defScope sLaw) .none kV_law dc_law pm_law an_law cd_law ct_law), sl_law⟩)
    (c_law : PySem.W.codeIn K cd_law "law" = true)
    (k_law : PySem.W.keepIn K (.ref f_law) = true)
    (a_sinit : PySem.W.findIn K (.ref CS) "__init__" = some (some (.ref f_sinit)))
    (i_sinit : PySem.W.isFn K (.ref f_sinit) = true)
    (l_sinit : K.lookup f_sinit = some ⟨oc_sinit, od_sinit, .func (PySem.W.fnOf "__init__" "Script.__init__" (defArgs sSInit) (defBody sSInit) (defScope sSInit) .none kV_sinit dc_sinit pm_sinit an_sinit cd_sinit ct_sinit), sl_sinit⟩)
    (c_sinit : PySem.W.codeIn K cd_sinit "Script.__init__" = true)
    (k_sinit : PySem.W.keepIn K (.ref f_sinit) = true)
    (a_kinit : PySem.W.findIn K (.ref CK) "__init__" = some (some (.ref f_kinit)))
    (i_kinit : PySem.W.isFn K (.ref f_kinit) = true)
    (l_kinit : K.lookup f_kinit = some ⟨oc_kinit, od_kinit, .func (PySem.W.fnOf "__init__" "Check.__init__" (defArgs sKInit) (defBody sKInit) (defScope sKInit) .none kV_kinit dc_kinit pm_kinit an_kinit cd_kinit ct_kinit), sl_kinit⟩)
    (c_kinit : PySem.W.codeIn K cd_kinit "Check.__init__" = true)
    (k_kinit : PySem.W.keepIn K (.ref f_kinit) = true)
    (a_kbr : PySem.W.findIn K (.ref CK) "check_branch" = some (some (.ref f_kbr)))
    (i_kbr : PySem.W.isFn K (.ref f_kbr) = true)
    (l_kbr : K.lookup f_kbr = some ⟨oc_kbr, od_kbr, .func (PySem.W.fnOf "check_branch" "Check.check_branch" (defArgs sKBr) (defBody sKBr) (defScope sKBr) .none kV_kbr dc_kbr pm_kbr an_kbr cd_kbr ct_kbr), sl_kbr⟩)
    (c_kbr : PySem.W.codeIn K cd_kbr "Check.check_branch" = true)
    (k_kbr : PySem.W.keepIn K (.ref f_kbr) = true)
    (a_kst : PySem.W.findIn K (.ref CK) "check_statement" = some (some (.ref f_kst)))
    (i_kst : PySem.W.isFn K (.ref f_kst) = true)
    (l_kst : K.lookup f_kst = some ⟨oc_kst, od_kst, .func (PySem.W.fnOf "check_statement" "Check.check_statement" (defArgs sKSt) (defBody sKSt) (defScope sKSt) .none kV_kst dc_kst pm_kst an_kst cd_kst ct_kst), sl_kst⟩)
    (c_kst : PySem.W.codeIn K cd_kst "Check.check_statement" = true)
    (k_kst : PySem.W.keepIn K (.ref f_kst) = true)
    (a_bsi : PySem.W.findIn K (.ref CB) "__init__" = some (some (.ref f_bsi)))
    (i_bsi : PySem.W.typeIn K (.ref f_bsi) = some (.type "function"))
    (l_bsi : K.lookup f_bsi = some ⟨oc_bsi, od_bsi, .func (PySem.W.fnOf "__init__" "BadScript.__init__" (defArgs sBSInit) (defBody sBSInit) (defScope sBSInit) .none kV_bsi dc_bsi pm_bsi an_bsi cd_bsi ct_bsi), sl_bsi⟩)
    (c_bsi : PySem.W.codeIn K cd_bsi "BadScript.__init__" = true)
    (k_bsi : PySem.W.keepIn K (.ref f_bsi) = true)
    (z_ValueError : PySem.W.nsIn K mainGlobals "ValueError" = some none)
    (z_len : PySem.W.nsIn K mainGlobals "len" = some none)
    (z_int : PySem.W.nsIn K mainGlobals "int" = some none)
    (z_max : PySem.W.nsIn K mainGlobals "max" = some none)
    (z_range : PySem.W.nsIn K mainGlobals "range" = some none)
    (z_tuple : PySem.W.nsIn K mainGlobals "tuple" = some none)
    (z_isinstance : PySem.W.nsIn K mainGlobals "isinstance" = some none)
    (z_all : PySem.W.nsIn K mainGlobals "all" = some none)
    (z_list : PySem.W.nsIn K mainGlobals "list" = some none)
    (z_enumerate : PySem.W.nsIn K mainGlobals "enumerate" = some none)
    (z_str : PySem.W.nsIn K mainGlobals "str" = some none)
    (z_bool : PySem.W.nsIn K mainGlobals "bool" = some none)
    (v_LONGEST_NAME : PySem.W.nsIn K mainGlobals "LONGEST_NAME" = some (some (.int 8 t_LONGEST_NAME)))
    (v_MOST_STATEMENTS : PySem.W.nsIn K mainGlobals "MOST_STATEMENTS" = some (some (.int 8 t_MOST_STATEMENTS)))
    (v_MOST_HELD : PySem.W.nsIn K mainGlobals "MOST_HELD" = some (some (.int 3 t_MOST_HELD)))
    (v_MOST_NESTED : PySem.W.nsIn K mainGlobals "MOST_NESTED" = some (some (.int 2 t_MOST_NESTED)))
    (aI : PySem.W.nsIn K mainGlobals "ITEMS" = some (some (.ref it)))
    (lI : K.lookup it = some ⟨.type "dict", none, .dict esI nI, #[]⟩)
    (kI : PySem.W.KeysLit w.params esI.toList)
    (sI : (it == sysModules) = false)
    (e_take : PySem.W.nsIn K it "take" = some (some (.int 1 t_take)))
    (e_commit : PySem.W.nsIn K it "commit" = some (some (.int 1 t_commit)))
    (e_rollback : PySem.W.nsIn K it "rollback" = some (some (.int 1 t_rollback)))
    (e_drop : PySem.W.nsIn K it "drop" = some (some (.int 1 t_drop)))
    (e_leave : PySem.W.nsIn K it "leave" = some (some (.int 1 t_leave)))
    (e_lock : PySem.W.nsIn K it "lock" = some (some (.int 2 t_lock)))
    (e_unlock : PySem.W.nsIn K it "unlock" = some (some (.int 2 t_unlock)))
    (e_choose : PySem.W.nsIn K it "choose" = some (some (.int 3 t_choose)))
    (e_takes : PySem.W.nsIn K it "takes" = some none)
    : ∃ fd : FuncData, (∀ (s : Shared) (v : Value), BindsTo s fd ⟨[v], []⟩ [("_law_script", v)]) ∧ ∀ base : Heap, K.In base → base.Ns mainGlobals mg → FnOk l.prog w K mg base CX0 12 fa fd ["_law_script"] (spLaw2 K) := by
  have e := hfa.symm.trans (PySem.W.mg_of X G a_law)
  cases e
  have B : Bl mg := ⟨PySem.W.mg_none_of X G z_len, PySem.W.mg_none_of X G z_int, PySem.W.mg_none_of X G z_max, PySem.W.mg_none_of X G z_range, PySem.W.mg_none_of X G z_tuple⟩
  have kg : ∀ z n, (z, n) ∈ items8 → KG K w it z (.int n) := by
    intro z n hm
    simp only [items8, List.mem_cons, List.not_mem_nil, or_false, Prod.mk.injEq] at hm
    rcases hm with ⟨rfl, rfl⟩ | ⟨rfl, rfl⟩ | ⟨rfl, rfl⟩ | ⟨rfl, rfl⟩ | ⟨rfl, rfl⟩ | ⟨rfl, rfl⟩ | ⟨rfl, rfl⟩ | ⟨rfl, rfl⟩
    · exact ⟨⟨_, _, _, lI, kI, e_take, ⟨_, rfl⟩⟩, sI⟩
    · exact ⟨⟨_, _, _, lI, kI, e_commit, ⟨_, rfl⟩⟩, sI⟩
    · exact ⟨⟨_, _, _, lI, kI, e_rollback, ⟨_, rfl⟩⟩, sI⟩
    · exact ⟨⟨_, _, _, lI, kI, e_drop, ⟨_, rfl⟩⟩, sI⟩
    · exact ⟨⟨_, _, _, lI, kI, e_leave, ⟨_, rfl⟩⟩, sI⟩
    · exact ⟨⟨_, _, _, lI, kI, e_lock, ⟨_, rfl⟩⟩, sI⟩
    · exact ⟨⟨_, _, _, lI, kI, e_unlock, ⟨_, rfl⟩⟩, sI⟩
    · exact ⟨⟨_, _, _, lI, kI, e_choose, ⟨_, rfl⟩⟩, sI⟩
  have T : Txt K w mg CS CK it := ⟨PySem.W.mg_none_of X G z_isinstance, PySem.W.mg_none_of X G z_all, PySem.W.mg_none_of X G z_list, PySem.W.mg_none_of X G z_enumerate, PySem.W.mg_none_of X G z_str, PySem.W.mg_none_of X G z_bool,
    ⟨_, PySem.W.mg_of X G v_LONGEST_NAME⟩, ⟨_, PySem.W.mg_of X G v_MOST_STATEMENTS⟩, ⟨_, PySem.W.mg_of X G v_MOST_HELD⟩, ⟨_, PySem.W.mg_of X G v_MOST_NESTED⟩, PySem.W.mg_of X G aI, ⟨_, _, lI⟩, kg,
    ⟨pgCS, hdCS, poCS, saCS⟩, ⟨pgCK, hdCK, poCK, saCK⟩, PySem.W.mg_of X G aCS, PySem.W.mg_of X G aCK, nCSstatements, nCSfound, nCSplaces, nCKfound⟩
  have E_CB : Ecl K mg "BadScript" "place" CB f_bsi := ⟨PySem.W.mg_of X G aCB, ⟨⟨_, _, _, _, _, _, _, _, _, _, _, _, _, _, _, xCB, ve_ok⟩, saCB, eCB, tCB, kcCB⟩, a_bsi, i_bsi, nfCB, ⟨gaCB, ggCB, eCB, hCB⟩, iCB, caCB, cn, ct, obCB, PySem.W.exm_ref eCB hCB tCB sCBCB⟩
  have R1 : PySem.W.kitOne K (.ref CB) (.ref CT) = some true := kit_ref dCBCT iCT tCT sCBCT
  have R2 : PySem.W.kitOne K (.ref CB) (.type "ValueError") = some true := kit_ty1 sVE rfl
  have R3 : PySem.W.kitOne K (.ref CB) (.ref CN) = some false := kit_ref dCBCN iCN tCN sCBCN
  have noT : KMiss K w it "takes" := ⟨_, _, lI, kI, sI, e_takes⟩
  have F_isName := fun_mk (st := sIsName) l_isName c_isName k_isName
  have b_isName := F_isName.binds (ps := ["value"]) fun _ _ _ _ _ _ us hl => match us, hl with | [_], _ => rfl
  have m_isName := PySem.W.mg_of X G a_isName
  have F_fault := fun_mk (st := sFault) l_fault c_fault k_fault
  have b_fault := F_fault.binds (ps := ["statement", "place", "earlier", "held"]) fun _ _ _ _ _ _ us hl => match us, hl with | [_, _, _, _], _ => rfl
  have m_fault := PySem.W.mg_of X G a_fault
  have F_form := fun_mk (st := sForm) l_form c_form k_form
  have b_form := F_form.binds (ps := ["statement"]) fun _ _ _ _ _ _ us hl => match us, hl with | [_], _ => rfl
  have m_form := PySem.W.mg_of X G a_form
  have F_held := fun_mk (st := sHeld) l_held c_held k_held
  have b_held := F_held.binds (ps := ["word", "held"]) fun _ _ _ _ _ _ us hl => match us, hl with | [_, _], _ => rfl
  have m_held := PySem.W.mg_of X G a_held
  have F_pool := fun_mk (st := sPool) l_pool c_pool k_pool
  have b_pool := F_pool.binds (ps := ["_law_script", "_law_k"]) fun _ _ _ _ _ _ us hl => match us, hl with | [_, _], _ => rfl
  have m_pool := PySem.W.mg_of X G a_pool
  have F_draw := fun_mk (st := sDraw) l_draw c_draw k_draw
  have b_draw := F_draw.binds (ps := ["_law_pool_here", "_law_amount"]) fun _ _ _ _ _ _ us hl => match us, hl with | [_, _], _ => rfl
  have m_draw := PySem.W.mg_of X G a_draw
  have F_names := fun_mk (st := sNames) l_names c_names k_names
  have b_names := F_names.binds (ps := ["_law_pool_here"]) fun _ _ _ _ _ _ us hl => match us, hl with | [_], _ => rfl
  have m_names := PySem.W.mg_of X G a_names
  have F_simple := fun_mk (st := sSimple) l_simple c_simple k_simple
  have b_simple := F_simple.binds (ps := ["_law_pool_here", "_law_names_here"]) fun _ _ _ _ _ _ us hl => match us, hl with | [_, _], _ => rfl
  have m_simple := PySem.W.mg_of X G a_simple
  have F_branch := fun_mk (st := sBranch) l_branch c_branch k_branch
  have b_branch := F_branch.binds (ps := ["_law_pool_here", "_law_names_here", "_law_length", "_law_depth"]) fun _ _ _ _ _ _ us hl => match us, hl with | [_, _, _, _], _ => rfl
  have m_branch := PySem.W.mg_of X G a_branch
  have F_bad := fun_mk (st := sBad) l_bad c_bad k_bad
  have b_bad := F_bad.binds (ps := ["_law_pool_here", "_law_names_here"]) fun _ _ _ _ _ _ us hl => match us, hl with | [_, _], _ => rfl
  have m_bad := PySem.W.mg_of X G a_bad
  have F_put := fun_mk (st := sPut) l_put c_put k_put
  have b_put := F_put.binds (ps := ["_law_branch_here", "_law_at", "_law_bad_here"]) fun _ _ _ _ _ _ us hl => match us, hl with | [_, _, _], _ => rfl
  have m_put := PySem.W.mg_of X G a_put
  have F_lname := fun_mk (st := sLName) l_lname c_lname k_lname
  have b_lname := F_lname.binds (ps := ["_law_value"]) fun _ _ _ _ _ _ us hl => match us, hl with | [_], _ => rfl
  have m_lname := PySem.W.mg_of X G a_lname
  have F_lform := fun_mk (st := sLForm) l_lform c_lform k_lform
  have b_lform := F_lform.binds (ps := ["_law_value"]) fun _ _ _ _ _ _ us hl => match us, hl with | [_], _ => rfl
  have m_lform := PySem.W.mg_of X G a_lform
  have F_lfault := fun_mk (st := sLFault) l_lfault c_lfault k_lfault
  have b_lfault := F_lfault.binds (ps := ["_law_value", "_law_depth", "_law_box"]) fun _ _ _ _ _ _ us hl => match us, hl with | [_, _, _], _ => rfl
  have m_lfault := PySem.W.mg_of X G a_lfault
  have F_read := fun_mk (st := sLRead) l_read c_read k_read
  have b_read := F_read.binds (ps := ["_law_branch_here", "_law_prefix", "_law_depth", "_law_box"]) fun _ _ _ _ _ _ us hl => match us, hl with | [_, _, _, _], _ => rfl
  have m_read := PySem.W.mg_of X G a_read
  have F_due := fun_mk (st := sLDue) l_due c_due k_due
  have b_due := F_due.binds (ps := ["_law_statements"]) fun _ _ _ _ _ _ us hl => match us, hl with | [_], _ => rfl
  have m_due := PySem.W.mg_of X G a_due
  have F_told := fun_mk (st := sLTold) l_told c_told k_told
  have b_told := F_told.binds (ps := ["_law_statements"]) fun _ _ _ _ _ _ us hl => match us, hl with | [_], _ => rfl
  have m_told := PySem.W.mg_of X G a_told
  have F_law := fun_mk (st := sLaw) l_law c_law k_law
  have m_law := PySem.W.mg_of X G a_law
  have F_sinit := fun_mk (st := sSInit) l_sinit c_sinit k_sinit
  have b_sinit := F_sinit.binds (ps := ["self", "statements"]) fun _ _ _ _ _ _ us hl => match us, hl with | [_, _], _ => rfl
  have F_kinit := fun_mk (st := sKInit) l_kinit c_kinit k_kinit
  have b_kinit := F_kinit.binds (ps := ["self"]) fun _ _ _ _ _ _ us hl => match us, hl with | [_], _ => rfl
  have F_kbr := fun_mk (st := sKBr) l_kbr c_kbr k_kbr
  have b_kbr := F_kbr.binds (ps := ["self", "branch", "above", "held"]) fun _ _ _ _ _ _ us hl => match us, hl with | [_, _, _, _], _ => rfl
  have F_kst := fun_mk (st := sKSt) l_kst c_kst k_kst
  have b_kst := F_kst.binds (ps := ["self", "statement", "place", "held"]) fun _ _ _ _ _ _ us hl => match us, hl with | [_, _, _, _], _ => rfl
  have F_bsi := fun_mk (st := sBSInit) l_bsi c_bsi k_bsi
  have b_bsi := F_bsi.binds (ps := ["self", "place", "why"]) fun _ _ _ _ _ _ us hl => match us, hl with | [_, _, _], _ => rfl
  refine ⟨PySem.W.fnOf "law" "law" (defArgs sLaw) (defBody sLaw) (defScope sLaw) .none kV_law dc_law pm_law an_law cd_law ct_law, fun s v => .of_eq rfl, fun base _ _ => ?_⟩
  have Gnm := ok_nameD (P := l.prog) (w := w) (base := base) F_isName B T
  have Gfo := ok_formD (P := l.prog) (w := w) (base := base) F_form B T noT
  have Gfa := ok_faultD F_fault B T Gfo b_form k_form m_form Gnm b_isName k_isName m_isName
  have Gbs := ok_bsi (P := l.prog) (w := w) (mg := mg) (base := base) F_bsi E_CB nfw
  have Gpo := ok_pool (P := l.prog) (w := w) (base := base) F_pool B
  have Gdr := ok_draw (P := l.prog) (w := w) (base := base) F_draw B
  have Gna := ok_names F_names B Gdr b_draw k_draw m_draw
  have Gsi := ok_simp F_simple B Gdr b_draw k_draw m_draw
  have Gbr := gens F_branch B Gdr b_draw k_draw m_draw Gsi b_simple k_simple m_simple b_branch m_branch 4
  have Gba := ok_bad F_bad B Gdr b_draw k_draw m_draw
  have Gpu := puts (P := l.prog) (w := w) (base := base) F_put B b_put m_put 4
  have Gki := ok_kinit (P := l.prog) (w := w) (base := base) F_kinit T
  have Ghd := ok_held (P := l.prog) (w := w) (mg := mg) (base := base) F_held
  have Gkb := checkx F_kbr F_kst B T E_CB Gbs b_bsi b_kbr ⟨a_kbr, i_kbr, k_kbr⟩ b_kst ⟨a_kst, i_kst, k_kst⟩ Gfa b_fault k_fault m_fault Ghd b_held k_held m_held 3
  have Gin := ok_sinitx F_sinit B T E_CB Gbs b_bsi ⟨mkCK, a_kinit, i_kinit, kcCK⟩ Gki b_kinit Gkb b_kbr ⟨a_kbr, i_kbr, k_kbr⟩
  have Gln := ok_lname (P := l.prog) (w := w) (base := base) F_lname B T
  have Glf := ok_lform (P := l.prog) (w := w) (base := base) F_lform B T
  have Glt := ok_lfault F_lfault B T Glf b_lform k_lform m_lform Gln b_lname k_lname m_lname
  have Grd := reads F_read B T Glt b_lfault k_lfault m_lfault b_read m_read 3
  have Gdu := ok_ldue F_due B T Grd b_read k_read m_read
  have Gto := ok_ltold F_told B T E_CB nfw (PySem.W.mg_of X G aCT) (PySem.W.mg_none_of X G z_ValueError) (PySem.W.mg_of X G aCN) R1 R2 R3 ⟨mkCS, a_sinit, i_sinit, kcCS⟩ Gin b_sinit
  exact ok_law2 F_law B T Gpo b_pool k_pool m_pool Gdr b_draw k_draw m_draw Gna b_names k_names m_names Gba b_bad k_bad m_bad Gbr b_branch k_branch m_branch Gpu b_put k_put m_put Gto b_told k_told m_told Gdu b_due k_due m_due
theorem walk {l : PySem.W.OpenLaw} {q : Program} {loose : List Str} {XP : (Str → Option Value) → Heap → Prop} {YP : World → Heap → Prop} {d : DefRec} {K : Params → PySem.W.Frag} (hn : l.most = some 63) (hdf : d.params.defaults = [])
    (hY : ∀ (w : World) (h : Heap), YP w h → (K w.params).In h)
    (F : ∀ (w : World) (mg : Str → Option Value) (fa : Addr) (h : Heap), (K w.params).In h → h.Ns mainGlobals mg → mg d.name = some (.ref fa) →
      ∃ fd : FuncData, (∀ (s : Shared) (u : Value), BindsTo s fd ⟨[u], []⟩ [("_law_script", u)]) ∧ ∀ base : Heap, (K w.params).In base → base.Ns mainGlobals mg → FnOk l.prog w (K w.params) mg base CX0 12 fa fd ["_law_script"] (spLaw2 (K w.params))) :
    PySem.W.WalkO q loose XP YP l.row.toRowW d [] (fun f vs => PySem.call f vs) :=
  L2.walk_of (n := 63) (k := 12) (x := "_law_script") (CX := fun _ => CX0) (sp := fun w => spLaw2 (K w.params)) hn (by decide) hdf ⟨rfl, by decide, by decide⟩ hY F (fun _ _ a ns hl _ hS => ⟨a, ns, rfl, hS, hl, fun _ => rfl⟩) fun _ _ _ _ _ z => z
end Tk
open PySem PySem.W PyProof.Rows
set_option maxRecDepth 100000 in
set_option maxHeartbeats 0 in
theorem PySem.Challenge.cw_takenahead_k02_script_refused_holds : PySem.Challenge.rw_takenahead_k02_script_refused.Holds := by
  w_on; o_law; k_head; (case hw => w_witness2)
  k_fill
  refine Tk.walk (l := PySem.Challenge.rw_takenahead_k02_script_refused) rfl rfl (fun w h Y => PySem.W.kIn_of Y) ?F
  case F =>
    intro w mg fa h KX G hmg
    refine' Tk.all_mk KX G hmg ?aCS ?aCK ?aCB ?aCN ?aCT ?pgCS ?hdCS ?poCS ?saCS ?mkCS ?kcCS ?pgCK ?hdCK ?poCK ?saCK ?mkCK ?kcCK ?nCSstatements ?nCSfound ?nCSplaces ?nCKfound ?cn ?ct ?xCB ?saCB ?gaCB ?ggCB ?nfCB ?eCB ?tCB ?hCB ?kcCB ?caCB ?obCB ?iCB ?nfw ?iCT ?tCT ?iCN ?tCN ?sCBCB ?sCBCT ?sCBCN ?sVE ?dCBCT ?dCBCN ?a_isName ?l_isName ?c_isName ?k_isName ?a_fault ?l_fault ?c_fault ?k_fault ?a_form ?l_form ?c_form ?k_form ?a_held ?l_held ?c_held ?k_held ?a_pool ?l_pool ?c_pool ?k_pool ?a_draw ?l_draw ?c_draw ?k_draw ?a_names ?l_names ?c_names ?k_names ?a_simple ?l_simple ?c_simple ?k_simple ?a_branch ?l_branch ?c_branch ?k_branch ?a_bad ?l_bad ?c_bad ?k_bad ?a_put ?l_put ?c_put ?k_put ?a_lname ?l_lname ?c_lname ?k_lname ?a_lform ?l_lform ?c_lform ?k_lform ?a_lfault ?l_lfault ?c_lfault ?k_lfault ?a_read ?l_read ?c_read ?k_read ?a_due ?l_due ?c_due ?k_due ?a_told ?l_told ?c_told ?k_told ?a_law ?l_law ?c_law ?k_law ?a_sinit ?i_sinit ?l_sinit ?c_sinit ?k_sinit ?a_kinit ?i_kinit ?l_kinit ?c_kinit ?k_kinit ?a_kbr ?i_kbr ?l_kbr ?c_kbr ?k_kbr ?a_kst ?i_kst ?l_kst ?c_kst ?k_kst ?a_bsi ?i_bsi ?l_bsi ?c_bsi ?k_bsi ?z_ValueError ?z_len ?z_int ?z_max ?z_range ?z_tuple ?z_isinstance ?z_all ?z_list ?z_enumerate ?z_str ?z_bool ?v_LONGEST_NAME ?v_MOST_STATEMENTS ?v_MOST_HELD ?v_MOST_NESTED ?aI ?lI ?kI ?sI ?e_take ?e_commit ?e_rollback ?e_drop ?e_leave ?e_lock ?e_unlock ?e_choose ?e_takes
    (case aCS => k_is)
    (case aCK => k_is)
    (case aCB => k_is)
    (case aCN => k_is)
    (case aCT => k_is)
    (case pgCS => k_is)
    (case hdCS => k_is)
    (case poCS => k_is)
    (case saCS => k_is)
    (case mkCS => k_is)
    (case kcCS => k_is)
    (case pgCK => k_is)
    (case hdCK => k_is)
    (case poCK => k_is)
    (case saCK => k_is)
    (case mkCK => k_is)
    (case kcCK => k_is)
    (case nCSstatements => k_is)
    (case nCSfound => k_is)
    (case nCSplaces => k_is)
    (case nCKfound => k_is)
    (case cn => k_is)
    (case ct => k_is)
    (case xCB => k_is)
    (case saCB => k_is)
    (case gaCB => k_is)
    (case ggCB => k_is)
    (case nfCB => k_is)
    (case eCB => k_is)
    (case tCB => k_is)
    (case hCB => k_is)
    (case kcCB => k_is)
    (case caCB => k_is)
    (case obCB => k_is)
    (case iCB => k_is)
    (case nfw => k_is)
    (case iCT => k_is)
    (case tCT => k_is)
    (case iCN => k_is)
    (case tCN => k_is)
    (case sCBCB => k_is)
    (case sCBCT => k_is)
    (case sCBCN => k_is)
    (case sVE => k_is)
    (case dCBCT => first | rfl | decide)
    (case dCBCN => first | rfl | decide)
    (case a_isName => k_is)
    (case l_isName => k_is)
    (case c_isName => k_is)
    (case k_isName => k_is)
    (case a_fault => k_is)
    (case l_fault => k_is)
    (case c_fault => k_is)
    (case k_fault => k_is)
    (case a_form => k_is)
    (case l_form => k_is)
    (case c_form => k_is)
    (case k_form => k_is)
    (case a_held => k_is)
    (case l_held => k_is)
    (case c_held => k_is)
    (case k_held => k_is)
    (case a_pool => k_is)
    (case l_pool => k_is)
    (case c_pool => k_is)
    (case k_pool => k_is)
    (case a_draw => k_is)
    (case l_draw => k_is)
    (case c_draw => k_is)
    (case k_draw => k_is)
    (case a_names => k_is)
    (case l_names => k_is)
    (case c_names => k_is)
    (case k_names => k_is)
    (case a_simple => k_is)
    (case l_simple => k_is)
    (case c_simple => k_is)
    (case k_simple => k_is)
    (case a_branch => k_is)
    (case l_branch => k_is)
    (case c_branch => k_is)
    (case k_branch => k_is)
    (case a_bad => k_is)
    (case l_bad => k_is)
    (case c_bad => k_is)
    (case k_bad => k_is)
    (case a_put => k_is)
    (case l_put => k_is)
    (case c_put => k_is)
    (case k_put => k_is)
    (case a_lname => k_is)
    (case l_lname => k_is)
    (case c_lname => k_is)
    (case k_lname => k_is)
    (case a_lform => k_is)
    (case l_lform => k_is)
    (case c_lform => k_is)
    (case k_lform => k_is)
    (case a_lfault => k_is)
    (case l_lfault => k_is)
    (case c_lfault => k_is)
    (case k_lfault => k_is)
    (case a_read => k_is)
    (case l_read => k_is)
    (case c_read => k_is)
    (case k_read => k_is)
    (case a_due => k_is)
    (case l_due => k_is)
    (case c_due => k_is)
    (case k_due => k_is)
    (case a_told => k_is)
    (case l_told => k_is)
    (case c_told => k_is)
    (case k_told => k_is)
    (case a_law => k_is)
    (case l_law => k_is)
    (case c_law => k_is)
    (case k_law => k_is)
    (case a_sinit => k_is)
    (case i_sinit => k_is)
    (case l_sinit => k_is)
    (case c_sinit => k_is)
    (case k_sinit => k_is)
    (case a_kinit => k_is)
    (case i_kinit => k_is)
    (case l_kinit => k_is)
    (case c_kinit => k_is)
    (case k_kinit => k_is)
    (case a_kbr => k_is)
    (case i_kbr => k_is)
    (case l_kbr => k_is)
    (case c_kbr => k_is)
    (case k_kbr => k_is)
    (case a_kst => k_is)
    (case i_kst => k_is)
    (case l_kst => k_is)
    (case c_kst => k_is)
    (case k_kst => k_is)
    (case a_bsi => k_is)
    (case i_bsi => k_is)
    (case l_bsi => k_is)
    (case c_bsi => k_is)
    (case k_bsi => k_is)
    (case z_ValueError => k_is)
    (case z_len => k_is)
    (case z_int => k_is)
    (case z_max => k_is)
    (case z_range => k_is)
    (case z_tuple => k_is)
    (case z_isinstance => k_is)
    (case z_all => k_is)
    (case z_list => k_is)
    (case z_enumerate => k_is)
    (case z_str => k_is)
    (case z_bool => k_is)
    (case v_LONGEST_NAME => k_is)
    (case v_MOST_STATEMENTS => k_is)
    (case v_MOST_HELD => k_is)
    (case v_MOST_NESTED => k_is)
    (case aI => k_is)
    (case lI => k_is)
    (case kI => (repeat (first | exact trivial | refine ⟨⟨_, _, rfl, rfl⟩, ?_⟩)))
    (case sI => first | rfl | decide)
    (case e_take => k_is)
    (case e_commit => k_is)
    (case e_rollback => k_is)
    (case e_drop => k_is)
    (case e_leave => k_is)
    (case e_lock => k_is)
    (case e_unlock => k_is)
    (case e_choose => k_is)
    (case e_takes => k_is)
