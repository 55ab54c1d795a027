import PyProof.Rows.All
import Wide.All
import OpenK.AllK
import Wide.FinOn
import HandS.ForMost
import HandS.TupAny
import HandS.TupLen
import HandS.TupLe
import HandS.Conv
import HandS.IsInst
import HandS.More
import HandS.OwnEq
import KE.GoesMore
import HandS.ExcInit
import HandS.ExcOwn
import HandS.ExcField
import HandS.ExcIs
import HandS.WordsExc
import HandS.DeepEq
import KE.KExcIs
import HandS.Wide
import HandS.Codes
import HandS.Comp
import HandS.Text
import HandS.FStr
import PyProof.StrBlock2
import HandS.Walk
import PySem.Challenge.RW_takenahead_k77_whole_schedules_are_read
set_option Elab.async false
set_option linter.all false
set_option maxRecDepth 100000
namespace Tk
open PySem L2
/-! ## heaps -/
/-- all but what stands at p is as it was -/
def Kp (p : Addr) (H H' : Hp) : Prop := ∀ b o, H b = some o → b ≠ p → H' b = some o
theorem Kp.refl (p : Addr) (H : Hp) : Kp p H H := fun _ _ e _ => e
theorem Kp.trans {p : Addr} {H H1 H2 : Hp} (a : Kp p H H1) (b : Kp p H1 H2) : Kp p H H2 := fun c o e n => b c o (a c o e n) n
theorem Kp.upd {p : Addr} {H : Hp} {o : HO} : Kp p H (L2.upd H p o) := fun c u e n => by rw [upd_ne n]; exact e
theorem Kp.new {p q : Addr} {H H' : Hp} {o : HO} (a : Kp p H H') (n : H' q = none) : Kp p H (L2.upd H' q o) := fun c u e m => by
  rw [upd_ne (ne_of_none (a c u e m) n)]; exact a c u e m
theorem Kp.of_same {p : Addr} {H H' : Hp} (a : Same H H') : Kp p H H' := fun c o e _ => a c o e
theorem same_new {H : Hp} {p : Addr} (h : H p = none) (o : HO) : Same H (L2.upd H p o) := fun b u q => by rw [upd_ne (ne_of_none q h)]; exact q
/-- the pool: three whole numbers -/
def PoolAt (H : Hp) (p : Addr) : Prop := ∃ a b c : Int, H p = some (.lst [.int a, .int b, .int c])
theorem Kp.tup {p q : Addr} {H H' : Hp} {xs : List V} {ys : List V} (k : Kp p H H') (hp : H p = some (.lst ys)) (h : H q = some (.tup xs)) : H' q = some (.tup xs) :=
  k q _ h (ne_of h hp (by intro z; cases z))
/-! ## numbers -/
theorem fmod_ok {a n : Int} (h : 0 < n) : 0 ≤ a.fmod n ∧ a.fmod n < n := ⟨Int.fmod_nonneg_of_pos a h, Int.fmod_lt_of_pos a h⟩
/-! ## texts -/
def Low (z : Str) : Prop := ∀ c ∈ z.cps.toList, 97 ≤ c ∧ c ≤ 122
def IsName (z : Str) : Prop := 1 ≤ z.length ∧ z.length ≤ 8 ∧ Low z
abbrev alpha : Str := "abcdefghijklmnopqrstuvwxyz"
theorem alpha_all : ∀ n : Fin 26, atI alpha.cps.toList ((n.val : Nat) : Int) = some (97 + n.val) := by decide +kernel
theorem alpha_at {i : Int} (h0 : 0 ≤ i) (h1 : i < 26) : ∃ c, atI alpha.cps.toList i = some c ∧ 97 ≤ c ∧ c ≤ 122 := by
  have e : i = ((i.toNat : Nat) : Int) := by omega
  have q := alpha_all ⟨i.toNat, by omega⟩
  rw [e]
  exact ⟨_, q, by simp, by simp; omega⟩
theorem low_nil : Low ("" : Str) := fun c h => by cases h
theorem low_app {x y : Str} (a : Low x) (b : Low y) : Low (x ++ y) := fun c h => by
  have h' : c ∈ (x.cps ++ y.cps).toList := h
  rw [Array.toList_append] at h'
  rcases List.mem_append.mp h' with q | q
  · exact a c q
  · exact b c q
theorem low_one {c : Nat} (h : 97 ≤ c ∧ c ≤ 122) : Low ⟨#[c]⟩ := fun d q => by
  have e : d = c := by simpa using q
  rw [e]; exact h
theorem low_cut {x : Str} (a : Low x) (lo hi : Option Int) : Low (cutS x lo hi) := fun c h => by
  have h' : c ∈ ((x.cps.toList.drop (HT.sIx x.length 0 lo)).take (HT.sIx x.length x.length hi - HT.sIx x.length 0 lo)) := by simpa [cutS] using h
  exact a c (List.mem_of_mem_drop (List.mem_of_mem_take h'))
theorem len_app (x y : Str) : (x ++ y).length = x.length + y.length := by
  show (x.cps ++ y.cps).size = _
  rw [Array.size_append]; rfl
theorem len_one (c : Nat) : (⟨#[c]⟩ : Str).length = 1 := rfl
theorem len_cut_lo (x : Str) (k : Nat) (h : k ≤ x.length) : (cutS x none (some (k : Int))).length = k := by
  have e : x.cps.toList.length = x.length := by simp [Str.length]
  show (((x.cps.toList.drop (HT.sIx x.length 0 none)).take (HT.sIx x.length x.length (some (k : Int)) - HT.sIx x.length 0 none)).toArray).size = k
  rw [HT.sIx_nat, HT.sIx_none, List.size_toArray, List.length_take, List.length_drop, e]
  omega
theorem len_cut_hi (x : Str) (k : Nat) (h : k ≤ x.length) : (cutS x (some (k : Int)) none).length = x.length - k := by
  have e : x.cps.toList.length = x.length := by simp [Str.length]
  show (((x.cps.toList.drop (HT.sIx x.length 0 (some (k : Int)))).take (HT.sIx x.length x.length none - HT.sIx x.length 0 (some (k : Int)))).toArray).size = _
  rw [HT.sIx_nat, HT.sIx_none, List.size_toArray, List.length_take, List.length_drop, e]
  omega
theorem isName_mk {b : Str} {c : Nat} {k : Int} (hb : Low b) (hl : b.length ≤ 7) (hc : 97 ≤ c ∧ c ≤ 122) (h0 : 0 ≤ k) (h1 : k ≤ b.length) :
    IsName (cutS b none (some k) ++ ⟨#[c]⟩ ++ cutS b (some k) none) := by
  obtain ⟨n, rfl⟩ : ∃ n : Nat, k = (n : Int) := ⟨k.toNat, by omega⟩
  have hn : n ≤ b.length := by omega
  refine ⟨?_, ?_, low_app (low_app (low_cut hb _ _) (low_one hc)) (low_cut hb _ _)⟩
  · rw [len_app, len_app, len_one]; omega
  · rw [len_app, len_app, len_one, len_cut_lo b n hn, len_cut_hi b n hn]; omega
/-- the list of the three names -/
def NamesAt (H : Hp) (q : Addr) : Prop := ∃ x y z : Str, H q = some (.lst [.str x, .str y, .str z]) ∧ IsName x ∧ IsName y ∧ IsName z
/-! ## statements -/
inductive Wd | take | commit | rollback | drop | leave
  deriving DecidableEq
def Wd.s : Wd → Str
  | .take => "take" | .commit => "commit" | .rollback => "rollback" | .drop => "drop" | .leave => "leave"
def Wd.held : Wd → Int → Int
  | .take, h => h + 1 | .commit, _ => 0 | .rollback, _ => 0 | .leave, _ => 0 | .drop, h => h
/-- lock (true), unlock -/
def lockS (b : Bool) : Str := if b then "lock" else "unlock"
inductive Stm
  | one (w : Wd)
  | nam (b : Bool) (n : Str)
  | ch (y n : List Stm)
mutual
def Stm.d : Stm → PyData
  | .one w => .tuple [.str w.s]
  | .nam b n => .tuple [.str (lockS b), .str n]
  | .ch y n => .tuple [.str "choose", .tuple (dAll y), .tuple (dAll n)]
def dAll : List Stm → List PyData
  | [] => []
  | s :: r => s.d :: dAll r
end
mutual
def Stm.cnt : Stm → Nat
  | .one _ => 1
  | .nam _ _ => 1
  | .ch y n => 1 + cntAll y + cntAll n
def cntAll : List Stm → Nat
  | [] => 0
  | s :: r => s.cnt + cntAll r
end
mutual
def Stm.held : Stm → Int → Int
  | .one w, h => w.held h
  | .nam _ _, h => h
  | .ch y n, h => max (heldAll y h) (heldAll n h)
def heldAll : List Stm → Int → Int
  | [], h => h
  | s :: r, h => heldAll r (s.held h)
end
mutual
/-- s is a good statement inside of d chooses, when h numbers are held -/
def Stm.ok : Nat → Stm → Int → Prop
  | _, .one w, h => w = .take → h ≠ 3
  | _, .nam _ n, _ => IsName n
  | d, .ch y n, h => d < 2 ∧ okAll (d + 1) y h ∧ okAll (d + 1) n h
def okAll : Nat → List Stm → Int → Prop
  | _, [], _ => True
  | d, s :: r, h => s.ok d h ∧ okAll d r (s.held h)
end
mutual
/-- the value v is the statement s -/
def Stm.at : Hp → V → Stm → Prop
  | H, v, .one w => ∃ a, v = .ref a ∧ H a = some (.tup [.str w.s])
  | H, v, .nam b n => ∃ a, v = .ref a ∧ H a = some (.tup [.str (lockS b), .str n])
  | H, v, .ch y n => ∃ a b c xs ys, v = .ref a ∧ H a = some (.tup [.str "choose", .ref b, .ref c]) ∧ H b = some (.tup xs) ∧ atAll H xs y ∧ H c = some (.tup ys) ∧ atAll H ys n
def atAll : Hp → List V → List Stm → Prop
  | _, xs, [] => xs = []
  | H, xs, s :: r => ∃ v vs, xs = v :: vs ∧ s.at H v ∧ atAll H vs r
end
/-- tuples stay -/
def TK (H H' : Hp) : Prop := ∀ a xs, H a = some (.tup xs) → H' a = some (.tup xs)
theorem TK.refl (H : Hp) : TK H H := fun _ _ h => h
theorem TK.trans {H H1 H2 : Hp} (a : TK H H1) (b : TK H1 H2) : TK H H2 := fun c o h => b c o (a c o h)
theorem TK.of_same {H H' : Hp} (s : Same H H') : TK H H' := fun a xs h => s a _ h
theorem Kp.tk {p : Addr} {H H' : Hp} {ys : List V} (k : Kp p H H') (hp : H p = some (.lst ys)) : TK H H' := fun a xs h => k.tup hp h
mutual
theorem Stm.at_keep {H H' : Hp} (k : TK H H') : ∀ (s : Stm) (v : V), s.at H v → s.at H' v
  | .one w, v, h => by
    unfold Stm.at at h ⊢
    obtain ⟨a, e, h⟩ := h
    exact ⟨a, e, k _ _ h⟩
  | .nam b n, v, h => by
    unfold Stm.at at h ⊢
    obtain ⟨a, e, h⟩ := h
    exact ⟨a, e, k _ _ h⟩
  | .ch y n, v, h => by
    unfold Stm.at at h ⊢
    obtain ⟨a, b, c, xs, ys, e, h1, h2, h3, h4, h5⟩ := h
    exact ⟨a, b, c, xs, ys, e, k _ _ h1, k _ _ h2, atAll_keep k y xs h3, k _ _ h4, atAll_keep k n ys h5⟩
theorem atAll_keep {H H' : Hp} (k : TK H H') : ∀ (B : List Stm) (xs : List V), atAll H xs B → atAll H' xs B
  | [], xs, h => h
  | s :: r, xs, h => by
    unfold atAll at h ⊢
    obtain ⟨v, vs, e, h1, h2⟩ := h
    exact ⟨v, vs, e, Stm.at_keep k s v h1, atAll_keep k r vs h2⟩
end
theorem atAll_len {H : Hp} : ∀ {B : List Stm} {xs : List V}, atAll H xs B → xs.length = B.length
  | [], xs, h => by unfold atAll at h; rw [h]; rfl
  | s :: r, xs, h => by
    unfold atAll at h
    obtain ⟨v, vs, e, h1, h2⟩ := h
    rw [e, List.length_cons, List.length_cons, atAll_len h2]
theorem atAll_get {H : Hp} : ∀ {B : List Stm} {xs : List V} {i : Nat} {s : Stm}, atAll H xs B → B[i]? = some s → ∃ v, xs[i]? = some v ∧ s.at H v
  | [], xs, i, s, h, e => by simp at e
  | t :: r, xs, 0, s, h, e => by
    unfold atAll at h
    obtain ⟨v, vs, e1, h1, h2⟩ := h
    have e2 : t = s := Option.some.inj e
    exact ⟨v, by rw [e1]; rfl, e2 ▸ h1⟩
  | t :: r, xs, i + 1, s, h, e => by
    unfold atAll at h
    obtain ⟨v, vs, e1, h1, h2⟩ := h
    obtain ⟨u, h3, h4⟩ := atAll_get (i := i) (s := s) h2 e
    exact ⟨u, by rw [e1]; exact h3, h4⟩
theorem atAll_app {H : Hp} : ∀ {B C : List Stm} {xs ys : List V}, atAll H xs B → atAll H ys C → atAll H (xs ++ ys) (B ++ C)
  | [], C, xs, ys, h, g => by unfold atAll at h; rw [h]; exact g
  | s :: r, C, xs, ys, h, g => by
    unfold atAll at h
    obtain ⟨v, vs, e, h1, h2⟩ := h
    rw [e]
    show atAll H (v :: (vs ++ ys)) (s :: (r ++ C))
    unfold atAll
    exact ⟨v, vs ++ ys, rfl, h1, atAll_app h2 g⟩
theorem atAll_one {H : Hp} {s : Stm} {v : V} (h : s.at H v) : atAll H [v] [s] := by
  unfold atAll
  exact ⟨v, [], rfl, h, by unfold atAll; rfl⟩
theorem atAll_drop {H : Hp} : ∀ {B : List Stm} {xs : List V} (n : Nat), atAll H xs B → atAll H (xs.drop n) (B.drop n)
  | B, xs, 0, h => h
  | [], xs, n + 1, h => by unfold atAll at h; rw [h]; rfl
  | s :: r, xs, n + 1, h => by
    unfold atAll at h
    obtain ⟨v, vs, e, h1, h2⟩ := h
    rw [e]
    exact atAll_drop n h2
theorem heldAll_app : ∀ (B C : List Stm) (h : Int), heldAll (B ++ C) h = heldAll C (heldAll B h)
  | [], C, h => rfl
  | s :: r, C, h => by
    show heldAll (s :: (r ++ C)) h = heldAll C (heldAll (s :: r) h)
    rw [heldAll, heldAll]
    exact heldAll_app r C _
theorem okAll_app : ∀ (d : Nat) (B C : List Stm) (h : Int), okAll d B h → okAll d C (heldAll B h) → okAll d (B ++ C) h
  | d, [], C, h, _, g => by rw [heldAll] at g; exact g
  | d, s :: r, C, h, f, g => by
    rw [okAll] at f
    rw [heldAll] at g
    show okAll d (s :: (r ++ C)) h
    rw [okAll]
    exact ⟨f.1, okAll_app d r C _ f.2 g⟩
theorem cntAll_app : ∀ (B C : List Stm), cntAll (B ++ C) = cntAll B + cntAll C
  | [], C => by rw [cntAll]; simp
  | s :: r, C => by
    show cntAll (s :: (r ++ C)) = _
    rw [cntAll, cntAll, cntAll_app r C]; omega
theorem cnt_pos (s : Stm) : 1 ≤ s.cnt := by
  cases s <;> rw [Stm.cnt] <;> omega
theorem len_le_cnt : ∀ (B : List Stm), B.length ≤ cntAll B
  | [] => Nat.zero_le _
  | s :: r => by
    have := cnt_pos s
    have := len_le_cnt r
    rw [cntAll, List.length_cons]; omega
/-! ## what the draws stand on: the pool p, the box b (what is left, what is held), the names q -/
def BoxAt (H : Hp) (b : Addr) (k h : Int) : Prop := H b = some (.lst [.int k, .int h, .int 3])
structure Dr (H : Hp) (p b q : Addr) (k h : Int) : Prop where
  pool : PoolAt H p
  box : BoxAt H b k h
  names : NamesAt H q
  npb : p ≠ b
  npq : p ≠ q
  nbq : b ≠ q
def K2 (p b : Addr) (H H' : Hp) : Prop := ∀ a o, H a = some o → a ≠ p → a ≠ b → H' a = some o
theorem K2.refl (p b : Addr) (H : Hp) : K2 p b H H := fun _ _ e _ _ => e
theorem K2.trans {p b : Addr} {H H1 H2 : Hp} (x : K2 p b H H1) (y : K2 p b H1 H2) : K2 p b H H2 := fun c o e n m => y c o (x c o e n m) n m
theorem Kp.k2 {p b : Addr} {H H' : Hp} (k : Kp p H H') : K2 p b H H' := fun a o e n _ => k a o e n
theorem K2.upd {p b : Addr} {H : Hp} {o : HO} : K2 p b H (L2.upd H b o) := fun a u e _ n => by rw [upd_ne n]; exact e
theorem K2.new {p b q : Addr} {H H' : Hp} {o : HO} (k : K2 p b H H') (n : H' q = none) : K2 p b H (L2.upd H' q o) := fun c u e m m' => by
  rw [upd_ne (ne_of_none (k c u e m m') n)]; exact k c u e m m'
theorem Dr.tk {H H' : Hp} {p b q : Addr} {k h : Int} (D : Dr H p b q k h) (x : K2 p b H H') : TK H H' := fun a xs e => by
  obtain ⟨_, _, _, hp⟩ := D.pool
  exact x a _ e (ne_of e hp (by intro z; cases z)) (ne_of e D.box (by intro z; cases z))
theorem Dr.draw {H H' : Hp} {p b q : Addr} {k h : Int} (D : Dr H p b q k h) (x : Kp p H H') (y : PoolAt H' p) : Dr H' p b q k h := by
  obtain ⟨a1, a2, a3, hq, n1, n2, n3⟩ := D.names
  exact ⟨y, x b _ D.box D.npb.symm, ⟨a1, a2, a3, x q _ hq D.npq.symm, n1, n2, n3⟩, D.npb, D.npq, D.nbq⟩
theorem Dr.put {H : Hp} {p b q : Addr} {k h k' h' : Int} (D : Dr H p b q k h) : Dr (L2.upd H b (.lst [.int k', .int h', .int 3])) p b q k' h' := by
  obtain ⟨a1, a2, a3, hq, n1, n2, n3⟩ := D.names
  obtain ⟨x, y, z, hp⟩ := D.pool
  exact ⟨⟨x, y, z, by rw [upd_ne D.npb]; exact hp⟩, upd_same, ⟨a1, a2, a3, by rw [upd_ne D.nbq.symm]; exact hq, n1, n2, n3⟩, D.npb, D.npq, D.nbq⟩
theorem Dr.new {H : Hp} {p b q a : Addr} {o : HO} {k h : Int} (D : Dr H p b q k h) (n : H a = none) : Dr (L2.upd H a o) p b q k h := by
  obtain ⟨a1, a2, a3, hq, n1, n2, n3⟩ := D.names
  obtain ⟨x, y, z, hp⟩ := D.pool
  exact ⟨⟨x, y, z, by rw [upd_ne (ne_of_none hp n)]; exact hp⟩, by unfold BoxAt; rw [upd_ne (ne_of_none D.box n)]; exact D.box, ⟨a1, a2, a3, by rw [upd_ne (ne_of_none hq n)]; exact hq, n1, n2, n3⟩, D.npb, D.npq, D.nbq⟩
theorem names_at {H : Hp} {q : Addr} (h : NamesAt H q) {r : Int} (r0 : 0 ≤ r) (r1 : r < 3) : ∃ xs n, H q = some (.lst xs) ∧ atI xs r = some (.str n) ∧ IsName n := by
  obtain ⟨a1, a2, a3, hq, n1, n2, n3⟩ := h
  have e : r = 0 ∨ r = 1 ∨ r = 2 := by omega
  rcases e with rfl | rfl | rfl
  · exact ⟨_, a1, hq, rfl, n1⟩
  · exact ⟨_, a2, hq, rfl, n2⟩
  · exact ⟨_, a3, hq, rfl, n3⟩
end Tk
set_option maxRecDepth 100000
/-! Own rules: enumerate over a tuple; .get of a written dict; o[i], x in o, len(o) by the text's own methods. -/
namespace PySem
section
variable {prog : Program} {w : World} {A : Around} {E : Value → Shared → Prop} {s : Shared}
abbrev tkE (j : Addr) : Obj := { cls := .type "enumerate", data := .fields #[.none, .bool false, .ref j, rawInt 0, .none, .none] }
theorem tk_new {v : Value} {o : Obj} {T : Heap → Prop} (B : Begins v o T) :
    Meets (Builtin.«enumerate.__new__» ⟨[.type "enumerate", v], []⟩) (fun _ R s => T s.heap ∧ R (.ok (.ret (.ref (s.heap.push o).objs.size))) { s with heap := (s.heap.push o).push (tkE s.heap.objs.size) }) :=
  .of_wp fun prog w A R s h => by
    obtain ⟨hp, g, d, tk, os⟩ := s
    obtain ⟨h1, h⟩ := h
    have hz := sub_enumerate
    have it1 : ∀ {A' : Around} {E' : Value → Shared → Prop} {Q' : Value → Shared → Prop}, Q' (.ref hp.objs.size) ⟨hp.push o, g, d, tk, os⟩ → wpAny (model prog w) A' (pyIter v) Q' E' ⟨hp, g, d, tk, os⟩ := fun z => B.iter prog w _ _ ⟨hp, g, d, tk, os⟩ _ h1 z
    wp_walk using it1
    refine wpAny_stack_any fun _ => wpAny_pure ?_
    split
    · rename_i c _ _ _ _ _
      cases (c == Value.type "enumerate") <;> (wp_walk using it1; exact ⟨_, rfl, h⟩)
    · wp_walk using it1
      exact ⟨_, rfl, h⟩
theorem tk_enum {v : Value} {o : Obj} {T : Heap → Prop} {Q : Value → Shared → Prop} (B : Begins v o T) (h1 : T s.heap)
    (h : ∀ h', IsEnum h' (s.heap.objs.size + 1) s.heap.objs.size 0 .none → h'.get? s.heap.objs.size = some o → (∀ b u, s.heap.get? b = some u → h'.get? b = some u) → Q (.ref (s.heap.objs.size + 1)) { s with heap := h' }) :
    wpAny (model prog w) A (call (.type "enumerate") [v]) Q E s := by
  have z1 : (s.heap.push o).objs.size = s.heap.objs.size + 1 := Heap.size_push ..
  refine callType_new F.called_enumerate (by decide) (F.typeCall_enumerate_1 _) (F.newCall_enumerate_1 _) (fun obj => F.args_object_init_2 obj _) F.entry_enumerate_new (tk_new B) (And.intro h1 ?_)
  show _ ∧ _
  rw [z1]
  have q : ((s.heap.push o).push (tkE s.heap.objs.size)).get? (s.heap.push o).objs.size = some (tkE s.heap.objs.size) := Heap.get?_push_size _ rfl
  rw [z1] at q
  exact And.intro ⟨_, q, rfl⟩ (h _ q (Heap.get?_push_of_some _ (Heap.get?_push_size _ B.free)) fun b u y => Heap.get?_push_of_some _ (Heap.get?_push_of_some _ y))
end
end PySem
namespace L2
open PySem PySem.Spec PyProof.Rows
/-- the tuple at a, each item in a new pair with its number -/
def IteT (K : PySem.W.Frag) (a : Addr) : It where
  go := fun i H => ∃ (xs : List V) (x : V), SqT K H a xs ∧ xs[i]? = some x
  yld := fun i H v H' => ∃ T x, v = .ref T ∧ H T = none ∧ H' = upd H T (.tup [.int (i : Nat), x]) ∧ ∀ xs, SqT K H a xs → xs[i]? = some x
  stop := fun i H => ∃ xs : List V, SqT K H a xs ∧ xs.length = i
theorem tk_turn {P : Program} {w : World} {K : PySem.W.Frag} {elts : List Expr} {kk : Nat} {tp : Pos} (a e j : Addr) (n1 : a ≠ j) (n2 : e ≠ a) (n3 : e ≠ j) :
    Turn P w K (.Tuple elts kk tp) (IteT K a) [e, j] e (fun i h => (∃ old, IsEnum h e j ((i : Nat) : Int) old) ∧ h.IsTupleIter j a i) := by
  have two : ∀ b, b ∈ [e, j] → b = e ∨ b = j := fun b hb => by simpa using hb
  refine { mem := by simp, obj := ?_, keep := ?_, item := ?_, done := ?_, self := fun A i s Q E st h => wpAny_pyIter_enum st.1.choose_spec h }
  · intro i h st b hb
    obtain ⟨⟨old, he⟩, ⟨o, ho, _, hd⟩⟩ := st
    rcases two b hb with rfl | rfl
    · exact ⟨_, he, fun v q => nomatch q⟩
    · exact ⟨o, ho, fun v q => by rw [hd] at q; cases q⟩
  · intro i h h' st k
    obtain ⟨⟨old, he⟩, hi⟩ := st
    exact ⟨⟨old, k e (by simp) _ he⟩, hi.at fun o q => k j (by simp) o q⟩
  · intro X hP hw hK hc i pins s σ H E I hf st hg
    subst hP hw hK
    obtain ⟨⟨old, he⟩, hj⟩ := st
    obtain ⟨xs, x, hq, hx⟩ := hg
    obtain ⟨its, rv, p, hz⟩ := I.tuple hq
    obtain ⟨u, hu, ru⟩ := rv.get hx
    have szE : e < s.heap.objs.size := Heap.lt_size he
    have szJ : j < s.heap.objs.size := by obtain ⟨_, q, _⟩ := hj; exact Heap.lt_size q
    have hu2 : its.toArray[i]? = some u := by simpa using hu
    have hlt : i < its.toArray.size := by
      rcases Nat.lt_or_ge i its.toArray.size with z | z
      · exact z
      · rw [Array.getElem?_eq_none z] at hu2; cases hu2
    refine wpAny_pyNext_enum_itemD (Draws.tuple (show X.A.in1.handled = none from I.ok.hd hc) j a n1 its.toArray) he ⟨hj, p⟩ hlt n3 (fun z => by
      rcases List.mem_cons.mp z with z | z
      · exact n3 z
      · exact n2 (by simpa using z)) (fun y h' tk py ho st' hT hsz hk => ?_)
    have ey : y = u := Option.some.inj (py.symm.trans hu2)
    subst ey
    refine ⟨_, rfl, wpAny_letOwnedTupleGo_enum (s := { s with heap := h', toks := tk + 1 }) ho fun h'' he' sb => ?_⟩
    have gT : h''.get? s.heap.objs.size = some { cls := .type "tuple", data := .seq #[.int i tk, y] } := (sb.2 _ (Nat.ne_of_gt szE)).trans hT
    have nw : ObjOk X.prog X.w (upd H s.heap.objs.size (.tup [.int (i : Nat), x])) h'' s.heap.objs.size (.tup [.int (i : Nat), x]) :=
      ⟨by show 2 ≤ sizeLine; decide, [.int i tk, y], .cons ⟨_, rfl⟩ (.cons ru .nil), _, gT, rfl, _, rfl⟩
    have I1 : Inv X pins σ (upd H s.heap.objs.size (.tup [.int (i : Nat), x])) { s with heap := h'', toks := tk + 1 } :=
      I.turnedNew (ch := [e, j]) (fun b ob hb q => (sb.2 b fun z => hb (by simp [z])).trans (hk b ob (fun z => hb (by simp [z])) (fun z => hb (by simp [z])) q)) hf (Nat.le_refl _) nw
    refine ⟨.ref s.heap.objs.size, _, I1, rfl, ⟨_, x, rfl, I.hok.fresh (Nat.le_refl _), rfl, fun ys hy => by rw [I.tuple_inj hy hq]; exact hx⟩, ⟨⟨y, ?_⟩, st'.1.at fun o q => (sb.2 j n3.symm).trans q⟩, fun b hb => ?_⟩
    · have e1 : (i : Int) + 1 = ((i + 1 : Nat) : Int) := by omega
      rw [← e1]
      exact he'
    · have lb : b < s.heap.objs.size := by
        rcases two b hb with rfl | rfl
        · exact szE
        · exact szJ
      rw [upd_ne (Nat.ne_of_lt lb)]
      exact (hf b hb).1
  · intro X hP hw hK hc i pins s σ H E I hf st hg
    subst hP hw hK
    obtain ⟨⟨old, he⟩, hj⟩ := st
    obtain ⟨xs, hq, hx⟩ := hg
    obtain ⟨its, rv, p, hz⟩ := I.tuple hq
    obtain ⟨f0, f1, f2, f3, f4, f5⟩ := hf j (by simp)
    have hl : i = its.toArray.size := by rw [List.size_toArray, ← rv.length]; exact hx.symm
    subst hl
    exact wpAny_pyNext_enum_endD (Draws.tuple (show X.A.in1.handled = none from I.ok.hd hc) j a n1 its.toArray) he ⟨hj, p⟩ fun h' eb => ⟨rfl, I.turned (t' := s.toks) (fun b o hb q => eb b o hb q) f0 f1 f3 f4 f5⟩
/-- for i, x in enumerate(t), t a tuple -/
def iEnumT (K : PySem.W.Frag) (ta : TA) : TI := fun σ H R => ta σ H fun vs H1 => ∃ a xs, vs = [.ref a] ∧ SqT K H1 a xs ∧ R (IteT K a) H1
theorem pi_enumT {X : Cx} {e : Expr} {ta : TA} {p pos tp : Pos} {elts : List Expr} {kk : Nat} (hg : Gl X "enumerate") (hm : X.mg "enumerate" = none) (ha : PA X [e] ta) (hs : starEach [e] X.env = [(false, eval e X.env)] := by rfl) :
    PI X (.Tuple elts kk tp) (.Call (.Name "enumerate" p) [e] [] pos) (iEnumT X.K ta) := by
  refine ⟨fun pins s σ H R I h => ?_⟩
  refine Call_ (ld_blt I hg hm boot_enumerate (PyProof.Rows.callWith_type1 (thn (ha.run pos pins s σ H _ I h) fun us s1 q0 => ?_) hs rfl))
  obtain ⟨vs, H1, I1, r1, a, xs, ex, hq, q⟩ := q0
  subst ex
  cases r1 with
  | cons r rr =>
    cases rr
    cases r
    obtain ⟨its, rv, p', hz⟩ := I1.tuple hq
    have la : a < s1.heap.objs.size := by obtain ⟨_, z, _⟩ := p'; exact Heap.lt_size z
    refine tk_enum (begins_tuple a its.toArray) p' fun h' he hit hk => wpAny_pyIter_enum he ?_
    have I2 : Inv X pins σ H1 { s1 with heap := h' } := I1.kept (t' := s1.toks) hk
    refine ⟨s1.heap.objs.size + 1, [s1.heap.objs.size + 1, s1.heap.objs.size], _, _, H1, rfl, I2, tk_turn a (s1.heap.objs.size + 1) s1.heap.objs.size (Nat.ne_of_lt la) (Nat.ne_of_gt (Nat.lt_succ_of_lt la)) (Nat.succ_ne_self _), ⟨⟨.none, he⟩, ⟨_, hit, rfl, rfl⟩⟩, fun b hb => ?_, q⟩
    have two : b = s1.heap.objs.size + 1 ∨ b = s1.heap.objs.size := by simpa using hb
    have le : s1.heap.objs.size ≤ b := two.elim (fun z => z ▸ Nat.le_succ _) (fun z => z ▸ Nat.le_refl _)
    exact I1.fpOk le (I1.hok.fresh le)
/-- the reading of such a loop -/
theorem for_enumT {K : PySem.W.Frag} {a : Addr} {xs : List V} {g : TG} {tb : TS} {D : Ends} {σ : St} {H : Hp} (Pv : Nat → St → Hp → Prop) (h0 : Pv 0 σ H) (hl : ∀ i σ H, i ≤ xs.length → Pv i σ H → SqT K H a xs)
    (hs : ∀ i x T σ H, xs[i]? = some x → Pv i σ H → H T = none → g (.ref T) σ (upd H T (.tup [.int (i : Nat), x])) fun σ2 H2 => tb { D with nx := Pv (i + 1), ct := Pv (i + 1), bk := D.nx } σ2 H2) (hd : ∀ σ H, Pv xs.length σ H → D.nx σ H) :
    ∃ W : Nat → Nat → St → Hp → Prop, (∃ m, W 0 m σ H) ∧ ∀ i m σ H, W i m σ H → ((IteT K a).stop i H ∧ D.nx σ H) ∨ ((IteT K a).go i H ∧ ∃ N : St → Hp → Prop, (∀ σ' H', N σ' H' → ∃ m', m' < m ∧ W (i + 1) m' σ' H') ∧
      ∀ x H', (IteT K a).yld i H x H' → g x σ H' fun σ2 H2 => tb { D with nx := N, ct := N, bk := D.nx } σ2 H2) := by
  refine ⟨fun i m σ H => m = xs.length - i ∧ i ≤ xs.length ∧ Pv i σ H, ⟨xs.length, by simp, Nat.zero_le _, h0⟩, ?_⟩
  rintro i m σ H ⟨rfl, hi, p⟩
  have q := hl i σ H hi p
  by_cases lt : i < xs.length
  · refine .inr ⟨⟨xs, xs[i], q, by simp [lt]⟩, Pv (i + 1), fun σ' H' p' => ⟨xs.length - (i + 1), by omega, rfl, lt, p'⟩, ?_⟩
    rintro x H' ⟨T, y, rfl, hT, rfl, hy⟩
    exact hs i y T σ H (hy xs q) p hT
  · have e : i = xs.length := by omega
    exact .inl ⟨⟨xs, q, e.symm⟩, hd σ H (e ▸ p)⟩
/-! ### the text's own methods by signs -/
section
variable {X : Cx} {CX : CXT} {k n : Nat} {C f : Addr} {fd : FuncData} {ps : List Str} {sp : Sp} {E : XK}
/-- a def called somewhere below the running body -/
theorem tk_run {A : Around} {pins : List (Addr × Obj)} {σ : St} {H : Hp} {s : Shared} {Q : VK} {us : List Value} {vs : List V} (sb : Sub X k A) (F : FnOk X.prog X.w X.K X.mg X.base CX k f fd ps sp) (hb : Binds X.K fd ps []) (hx : Passes CX X E)
    (I : Inv X pins σ H s) (r : Vals vs us) (h : sp vs H Q E) : wpAny (model X.prog X.w) A (call (.ref f) us) (EP X pins σ Q) X.xe s := by
  have e := I.env0
  have e0 : Env0 X.prog X.w X.K X.mg X.base A X.stack s H := ⟨by rw [sb.fr]; exact e.frames, e.mod, e.bs, e.bsz, e.funs, e.frf, e.hok, e.bare⟩
  have hl : us.length = ps.length := r.length.symm.trans (F.len _ _ _ _ h)
  have bd := hb s us I.kIn (by simpa using hl)
  refine wpAny_call (codeAny_mono (F.run A X.stack s H ⟨us, []⟩ us vs Q E sb.room e0 (by simpa using bd) r h) fun res s' hq => ?_)
  match res, hq with
  | .error e, hq => exact hx pins σ H s e s' I hq
  | .ok (.ret u), hq => exact I.after hq
/-- what stands in the class C as the method m -/
structure OwnM (K : PySem.W.Frag) (C : Addr) (m : Str) (f : Addr) : Prop where
  at_ : PySem.W.findIn K (.ref C) m = some (some (.ref f))
  fn : PySem.W.isFn K (.ref f) = true
theorem ownInst {pins : List (Addr × Obj)} {σ : St} {H : Hp} {s : Shared} {a dx : Addr} {fs : List (Str × V)} (I : Inv X pins σ H s) (ha : H a = some (.ins C dx fs)) : ∃ ox od, PySem.W.InstAt s.heap a ox C od := by
  obtain ⟨mA, J, _⟩ := ins_get I.hok ha
  obtain ⟨od, J, _⟩ := J.look
  exact ⟨_, _, J⟩
def rOwn2 (C : Addr) (sp : Sp) (E : XK) : R2 := fun x y H Q => ∃ a dx fs, x = .ref a ∧ H a = some (.ins C dx fs) ∧ sp [.ref a, y] H Q E
/-- o[i] by the class's own __getitem__ -/
theorem ix_own {value slice : Expr} (M : OwnM X.K C "__getitem__" f) (hf : PySem.W.fnIn X.K f = true) (F : FnOk X.prog X.w X.K X.mg X.base CX k f fd ps sp) (hr : Room (k + 1) X.A) (hb : Binds X.K fd ps []) (hx : Passes CX X E)
    {a b : Expr} {ta tb : TE} {pos : Pos} (ha : PE X a ta) (hb2 : PE X b tb) (hs : ∀ o i, subscripted b true o i = runValue (.builtin "lifetime.subscript" ⟨[o, i], []⟩)) : PE X (.Subscript a b pos) (tOp (rOwn2 C sp E) ta tb) := by
  refine ⟨fun pins s σ H Q I h => ?_⟩
  refine Subscript_ (binT ha hb2 I h fun v u s2 x y H2 I2 rx ry q => ?_)
  obtain ⟨p, dx, fs, rfl, hp, q⟩ := q
  obtain rfl : v = Value.ref p := rx
  obtain ⟨ox, od, J⟩ := ownInst I2 hp
  obtain ⟨m, hF⟩ := I2.fr
  refine PySem.W.sub_K hF I2.ok.mod.kin J M.at_ hf M.fn ?_ (hs _ _)
  exact tk_run ⟨hr.in1, rfl⟩ F hb hx I2 (.cons (show RelV (.ref p) (.ref p) from rfl) (.cons ry .nil)) q
def rOwnIn (C : Addr) (sp : Sp) (E : XK) (neg : Bool) : R2 := fun y x H Q => ∃ a dx fs, x = .ref a ∧ H a = some (.ins C dx fs) ∧ sp [.ref a, y] H (fun v H' => ∃ c, v = .bl c ∧ Q (.bl (if neg then !c else c)) H') E
/-- y in o by the class's own __contains__ -/
theorem op_inOwn (M : OwnM X.K C "__contains__" f) (F : FnOk X.prog X.w X.K X.mg X.base CX k f fd ps sp) (hr : Room k X.A) (hb : Binds X.K fd ps []) (hx : Passes CX X E) : OpR X (compareOp .In) (rOwnIn C sp E false) := by
  intro pins s σ H y x u v Q I ry rx h
  obtain ⟨p, dx, fs, rfl, hp, q⟩ := h
  obtain rfl : v = Value.ref p := rx
  obtain ⟨ox, od, J⟩ := ownInst I hp
  obtain ⟨m, hF⟩ := I.fr
  refine PySem.W.in_K hF I.ok.mod.kin J M.at_ M.fn (thn (tk_run ⟨hr, rfl⟩ F hb hx I (.cons (show RelV (.ref p) (.ref p) from rfl) (.cons ry .nil)) q) fun r s' hq => ?_)
  obtain ⟨z, H', I', rz, c, rfl, q'⟩ := hq
  cases rz
  exact wpAny_truthy_bool ⟨.bl c, H', I', rfl, q'⟩
theorem op_notInOwn (M : OwnM X.K C "__contains__" f) (F : FnOk X.prog X.w X.K X.mg X.base CX k f fd ps sp) (hr : Room k X.A) (hb : Binds X.K fd ps []) (hx : Passes CX X E) : OpR X (compareOp .NotIn) (rOwnIn C sp E true) := by
  intro pins s σ H y x u v Q I ry rx h
  obtain ⟨p, dx, fs, rfl, hp, q⟩ := h
  obtain rfl : v = Value.ref p := rx
  obtain ⟨ox, od, J⟩ := ownInst I hp
  obtain ⟨m, hF⟩ := I.fr
  refine PySem.W.notIn_K hF I.ok.mod.kin J M.at_ M.fn (thn (tk_run ⟨hr, rfl⟩ F hb hx I (.cons (show RelV (.ref p) (.ref p) from rfl) (.cons ry .nil)) q) fun r s' hq => ?_)
  obtain ⟨z, H', I', rz, c, rfl, q'⟩ := hq
  cases rz
  exact wpAny_truthy_bool ⟨.bl (!c), H', I', rfl, q'⟩
/-- len(o) by the class's own __len__ -/
theorem call_lenOwn (M : OwnM X.K C "__len__" f) (F : FnOk X.prog X.w X.K X.mg X.base CX k f fd ps sp) (hr : Room (k + 1) X.A) (hb : Binds X.K fd ps []) (hx : Passes CX X E) :
    CallR X (.builtin "len") (fun xs H Q => ∃ a dx fs, xs = [.ref a] ∧ H a = some (.ins C dx fs) ∧ sp [.ref a] H (fun v H' => ∃ i : Int, v = .int i ∧ 0 ≤ i ∧ i < 2 ^ 63 ∧ Q v H') E) := by
  intro pins s σ H xs us Q I r h
  obtain ⟨p, dx, fs, rfl, hp, q⟩ := h
  obtain ⟨u, rfl, rx⟩ := vals1 r
  obtain rfl : u = Value.ref p := rx
  obtain ⟨ox, od, J⟩ := ownInst I hp
  obtain ⟨m, hF⟩ := I.fr
  refine PySem.W.len_K hF I.ok.mod.kin J M.at_ M.fn (thn (tk_run ⟨hr.in1, rfl⟩ F hb hx I (.cons (show RelV (.ref p) (.ref p) from rfl) .nil) q) fun r s' hq => ?_)
  obtain ⟨z, H', I', rz, i, rfl, i0, i1, q'⟩ := hq
  obtain ⟨t, rfl⟩ := rz
  refine ⟨⟨i0, i1⟩, ⟨.int i, H', I'.tok _, ⟨_, rfl⟩, q'⟩⟩
end
/-! ### .get of a written dict -/
def KG (K : PySem.W.Frag) (w : World) (a : Addr) (x : Str) (v : V) : Prop := KDct K w a x v ∧ (a == sysModules) = false
def tKGet (K : PySem.W.Frag) (w : World) (td ty : TE) : TE := fun σ H Q => td σ H fun x H1 => ty σ H1 fun y H2 => ∃ a z v, x = .ref a ∧ y = .str z ∧ KG K w a z v ∧ Q v H2
theorem pe_kget {X : Cx} {o e : Expr} {td ty : TE} {apos cpos : Pos} (ho : PE X o td) (he : PE X e ty) (hd : ∀ σ H Q, td σ H Q → td σ H fun x H1 => (∃ a oc es n, x = V.ref a ∧ X.K.lookup a = some oc ∧ oc = ⟨.type "dict", none, .dict es n, #[]⟩) ∧ Q x H1) (m : M1 X o "get" apos e cpos) :
    PE X (.Call (.Attribute o "get" apos) [e] [] cpos) (tKGet X.K X.w td ty) := by
  refine ⟨fun pins s σ H Q I h => ?_⟩
  refine wpAny_Call_method m.base m.few m.line PySem.F.plainAttrs_dict PySem.F.slot_dict_get PySem.F.type_dict_get (thn (ho.run pins s σ H _ I (hd _ _ _ h)) fun u s1 q0 => ?_)
  obtain ⟨x, H1, I1, rx, ⟨a, oc, es, n, rfl, lk, rfl⟩, q1⟩ := q0
  obtain rfl : u = Value.ref a := rx
  have ga := I1.kIn _ _ lk
  refine ⟨⟨_, ga, rfl⟩, fun b q => by cases q; exact ⟨_, ga, rfl⟩, ?_⟩
  rw [m.trees]
  refine Calls.callWith_builtin rfl (Calls.evalArgs_plain (Calls.spliced_cons (thn (he.run pins s1 σ H1 _ I1 q1) fun iv s2 q2 => Calls.spliced_nil ?_)))
  obtain ⟨y, H2, I2, ry, a', z, v, ea, rfl, ⟨⟨es', n', u0, hl, hk, e1, ru⟩, hs⟩, q2⟩ := q2
  cases ea
  obtain ⟨t, rfl⟩ := ry
  have mo := PySem.W.mapOf_K (prog := X.prog) (w := X.w) I2.kIn hl hk
  refine call_meetsIn PySem.F.slot_dict_get mo.typeIs PySem.F.entry_dict_get (PySem.F.args_dict_get_2 _ _) (meets_dict_get (strKind X.prog X.w) a (strKind_is X.prog X.w z t) hs) ⟨_, mo, ?_⟩
  rw [PySem.W.find_K hl e1]
  exact ⟨v, H2, I2.tok _, ru, q2⟩
end L2
set_option maxRecDepth 100000
namespace L2
open PySem PySem.Spec PyProof.Rows
/-! ### a class's own methods, where an error may come out -/
section
variable {X : Cx} {CX : CXT} {k n : Nat} {C f : Addr} {fd : FuncData} {ps : List Str} {sp : Sp} {E : St → XK}
theorem tk_runS {A : Around} {pins : List (Addr × Obj)} {σ : St} {H : Hp} {s : Shared} {Q : VK} {us : List Value} {vs : List V} (sb : Sub X k A) (F : FnOk X.prog X.w X.K X.mg X.base CX k f fd ps sp) (hb : Binds X.K fd ps []) (hx : PassesAt CX X σ (E σ))
    (I : Inv X pins σ H s) (r : Vals vs us) (h : sp vs H Q (E σ)) : wpAny (model X.prog X.w) A (call (.ref f) us) (EP X pins σ Q) X.xe s := by
  have e := I.env0
  have e0 : Env0 X.prog X.w X.K X.mg X.base A X.stack s H := ⟨by rw [sb.fr]; exact e.frames, e.mod, e.bs, e.bsz, e.funs, e.frf, e.hok, e.bare⟩
  have hl : us.length = ps.length := r.length.symm.trans (F.len _ _ _ _ h)
  have bd := hb s us I.kIn (by simpa using hl)
  refine wpAny_call (codeAny_mono (F.run A X.stack s H ⟨us, []⟩ us vs Q (E σ) sb.room e0 (by simpa using bd) r h) fun res s' hq => ?_)
  match res, hq with
  | .error e, hq => exact hx pins H s e s' I hq
  | .ok (.ret u), hq => exact I.after hq
/-- o[i] by the class's own __getitem__, which may raise -/
def tIxS (C : Addr) (sp : Sp) (E : St → XK) (ta tb : TE) : TE := fun σ H Q => ta σ H fun x H1 => tb σ H1 fun y H2 => rOwn2 C sp (E σ) x y H2 Q
theorem ix_ownS {value slice : Expr} (M : OwnM X.K C "__getitem__" f) (hf : PySem.W.fnIn X.K f = true) (F : FnOk X.prog X.w X.K X.mg X.base CX k f fd ps sp) (hr : Room (k + 1) X.A) (hb : Binds X.K fd ps []) (hx : ∀ σ, PassesAt CX X σ (E σ))
    {a b : Expr} {ta tb : TE} {pos : Pos} (ha : PE X a ta) (hb2 : PE X b tb) (hs : ∀ o i, subscripted b true o i = runValue (.builtin "lifetime.subscript" ⟨[o, i], []⟩)) : PE X (.Subscript a b pos) (tIxS C sp E ta tb) := by
  refine ⟨fun pins s σ H Q I h => ?_⟩
  refine Subscript_ (binT ha hb2 I h fun v u s2 x y H2 I2 rx ry q => ?_)
  obtain ⟨p, dx, fs, rfl, hp, q⟩ := q
  obtain rfl : v = Value.ref p := rx
  obtain ⟨ox, od, J⟩ := ownInst I2 hp
  obtain ⟨m, hF⟩ := I2.fr
  refine PySem.W.sub_K hF I2.ok.mod.kin J M.at_ hf M.fn ?_ (hs _ _)
  exact tk_runS ⟨hr.in1, rfl⟩ F hb (hx σ) I2 (.cons (show RelV (.ref p) (.ref p) from rfl) (.cons ry .nil)) q
end
/-! ### an error class with one field -/
structure Ecl (K : PySem.W.Frag) (mg : Str → Option Value) (nm f : Str) (C fI : Addr) : Prop where
  gC : mg nm = some (.ref C)
  ox : OexC K C
  iC : PySem.W.findIn K (.ref C) "__init__" = some (some (.ref fI))
  tI : PySem.W.typeIn K (.ref fI) = some (.type "function")
  noF : PySem.W.findIn K (.ref C) f = some none
  xf : XfC K C
  cl : (PySem.W.clsIn K C).isSome = true
  ha : PySem.W.findIn K (.ref C) "__class__" = some (some (.builtin "object.__class__"))
  hn : PySem.W.specialIn K (.builtin "object.__class__") "__get__" = some (some (.builtin "getset_descriptor.__get__"))
  ht : PySem.W.takesIn K (.builtin "object.__class__") = some true
  hm : PySem.W.mroIn K C (.type "object") = some true
  te : PySem.W.exmOne K (.ref C) (.ref C) = some true
/-- what such an __init__ promises -/
def spEI (C : Addr) (f : Str) : Sp := fun vs H Q _ => ∃ (a : Addr) (v : V), vs = [.ref a, v] ∧ H a = some (exo a C none) ∧ ∀ dx, H dx = none → dx ≠ a → Q .non (upd (upd H dx (exd dx [(f, v)])) a (exo a C (some dx)))
/-- raise C(e) -/
theorem ps_raise1 {X : Cx} {W : WX} {nm f : Str} {C fI : Addr} {fd : FuncData} {ps : List Str} {e : Expr} {es : List Expr} {ta : TA} {p pos ppos : Pos} (hc : X.calm = true) (tk : Takes X W) (T : Ecl X.K X.mg nm f C fI) (F1 : FnOk X.prog X.w X.K X.mg X.base CX0 1 fI fd ps (spEI C f)) (hr : Room 2 X.A) (hb : Binds X.K fd ps [])
    (hg : Gl X nm) (ha : PA X (e :: es) ta) (hdb : (nm == ("__debug__" : Str)) = false := by decide) (he : starEach (e :: es) X.env = (false, eval e X.env) :: starEach es X.env := by rfl) (hpl : (backTo pos (starEach es X.env)).any (·.1) = false := by rfl) :
    PS X (.Raise (some (.Call (.Name nm p) (e :: es) [] pos)) none ppos) (fun _ σ H => tMkO C (spEI C f) [] ta σ H fun cls d H' => W cls d σ H') :=
  ps_raise (pos := ppos) hc tk (pmk_oex T.ox T.iC T.tI F1 hr hb .nil pass0 hg T.gC ha hdb he hpl)
theorem made1 {C : Addr} {f : Str} {v : V} {H1 : Hp} {Q : XK} (q : ∀ d, H1 d = none → Q (.ref C) (some d) (upd H1 d (.xd [(f, v)]))) : [v].length ≤ 1000 ∧ ∀ a, H1 a = none → spEI C f (.ref a :: ([v] ++ [])) (upd H1 a (exo a C none))
    (fun v H2 => v = .non ∧ ∃ (d : Addr) (fs : List (Str × V)), H2 a = some (exo a C (some d)) ∧ H2 d = some (exd d fs) ∧ H1 d = none ∧ Q (.ref C) (some d) (upd (del H2 a) d (.xd fs))) (fun _ _ _ => False) := by
  refine ⟨(by show 1 ≤ 1000; decide), fun a ha => ⟨a, v, rfl, upd_same, fun dx hd ne => ⟨rfl, dx, _, upd_same, by rw [upd_ne ne, upd_same], by rw [upd_ne ne] at hd; exact hd, ?_⟩⟩⟩
  have hd' : H1 dx = none := by rw [upd_ne ne] at hd; exact hd
  have e : upd (del (upd (upd (upd H1 a (exo a C none)) dx (exd dx [(f, v)])) a (exo a C (some dx))) a) dx (.xd [(f, v)]) = upd H1 dx (.xd [(f, v)]) := by
    funext b
    by_cases h1 : b = dx
    · rw [h1, upd_same, upd_same]
    · rw [upd_ne h1, upd_ne h1]
      by_cases h2 : b = a
      · rw [h2, del_same, ha]
      · rw [del_ne h2, upd_ne h2, upd_ne h1, upd_ne h2]
  rw [e]
  exact q dx hd'
/-- isinstance(e, c), e the caught error with its dict -/
def rIsX (K : PySem.W.Frag) (a : Addr) (cls : Value) (d : Option Addr) (D : Addr) : List V → Hp → VK → Prop := fun xs H Q => ∃ (c : V) (cv : Value) (b : Bool) (dd : Addr) (fs : List (Str × V)), cls = .ref D ∧ d = some dd ∧ H dd = some (.xd fs) ∧ xs = [.ref a, c] ∧ (∀ u, RelV c u → u = cv) ∧ PySem.W.kitOne K (.ref D) cv = some b ∧ Q (.bl b) H
theorem call_isX {X : Cx} {a D : Addr} {cls : Value} {d : Option Addr} {nm f : Str} {fI : Addr} {mg : Str → Option Value} {oe : Obj} {pn : List (Addr × Obj)} (T : Ecl X.K mg nm f D fI) (hz : Zc cls d oe) (hf : ∃ vs, oe.data = .fields vs) :
    CallR (X.suite a ((a, oe) :: pn)) (.builtin "isinstance") (rIsX X.K a cls d D) := by
  rintro pins s σ H xs us Q I r ⟨c, cv, b, dd, fs, rfl, rfl, ea, rfl, hcv, e, q⟩
  obtain ⟨u1, u2, rfl, r1, r2⟩ : ∃ u1 u2, us = [u1, u2] ∧ RelV (.ref a) u1 ∧ RelV c u2 := by
    cases r with
    | cons p1 t1 => cases t1 with
      | cons p2 t2 => cases t2; exact ⟨_, _, rfl, p1, p2⟩
  obtain rfl : u1 = Value.ref a := r1
  rw [hcv u2 r2]
  have own := (I.pin (a, oe) (List.mem_append_left _ List.mem_cons_self)).1
  obtain ⟨vs, isF⟩ := hf
  obtain ⟨mA, named, _⟩ := show ObjOk X.prog X.w H s.heap dd (.xd fs) from I.hok dd _ ea
  obtain ⟨od, at_, _⟩ := lookIn_ns named
  have J : PySem.W.InstAt s.heap a oe D (some od) := by
    refine ⟨own, hz.1, ?_, by rw [hz.2]; exact at_⟩
    unfold PySem.W.notCls
    rw [isF] <;> rfl
  have kit := PySem.W.kitx_exc (x := a) (ox := oe) (od := some od) T.cl T.xf.ga T.xf.gg T.xf.exC T.ha T.hn T.ht T.hm
  exact PySem.W.kia_one kit I.kIn J e (fun z => nomatch z) fun tk => ⟨.bl b, H, I.kept (t' := tk) fun _ _ z => z, rfl, q⟩
/-- x == x, for data and for empty dicts -/
def Slf (K : PySem.W.Frag) (H : Hp) (v : V) : Prop := (∃ d, Dp K H v d ∧ SeqAt.shaped d = true ∧ PyData.eqv d d = true) ∨ ∃ a, v = .ref a ∧ H a = some (.dK [])
def rSlf (K : PySem.W.Frag) : R2 := fun x y H Q => x = y ∧ Slf K H x ∧ Q (.bl true) H
theorem op_slf {X : Cx} (hu : X.A.units + 64 < cLine) : OpR X (compareOp .Eq) (rSlf X.K) := by
  intro pins s σ H x y v u Q I rx ry h
  obtain ⟨rfl, h, q⟩ := h
  rcases h with ⟨d, h1, h2, h3⟩ | ⟨a, rfl, h⟩
  · exact op_eqD hu pins s σ H x x v u Q I rx ry ⟨d, d, h1, h1, h2, h2, by rw [h3]; exact q⟩
  · exact op_eqV hu pins s σ H _ _ v u Q I rx ry ⟨1, by decide, .inr ⟨a, a, [], [], rfl, rfl, h, h, rfl, fun p hp => nomatch hp⟩, q⟩
end L2
set_option maxRecDepth 100000
namespace Tk
open PySem L2
def top (i : Nat) : Stmt := PySem.Challenge.pw_takenahead_k77_whole_schedules_are_read.main.body.getD i (.Pass ⟨0, 0, 0, 0⟩)
abbrev sBox : Stmt := top 10
abbrev sPick : Stmt := top 11
/-- the built-in names that the program reads -/
structure Bl (mg : Str → Option Value) : Prop where
  len : mg "len" = none
  int : mg "int" = none
theorem iteFb {c : Bool} {A B : Prop} (e : c = false) (h : B) : if c = true then A else B := by rw [e]; exact iteF h
theorem iteTb {c : Bool} {A B : Prop} (e : c = true) (h : A) : if c = true then A else B := by rw [e]; exact iteT h
def spBox (K : PySem.W.Frag) : Sp := fun vs H Q _ => ∃ (a : Addr) (ns : List Int) (k : Int), vs = [.ref a, .int k] ∧ SqL K H a (ns.map V.int) ∧ 0 ≤ k ∧
  ∀ (p : Addr) (H' : Hp), H p = none → Same H H' → PoolAt H' p → Q (.ref p) H'
def spPick : Sp := fun vs H Q _ => ∃ (p : Addr) (n : Int), vs = [.ref p, .int n] ∧ PoolAt H p ∧ 0 < n ∧ n.natAbs.log2 < 9000 ∧
  ∀ (r : Int) (H' : Hp), 0 ≤ r → r < n → Kp p H H' → PoolAt H' p → Q (.int r) H'
section
variable {P : Program} {w : World} {K : PySem.W.Frag} {mg : Str → Option Value} {base : Heap}
theorem scBox : FnScope ["_law_script", "_law_k", "_law_cell"] ["_law_script", "_law_k"] (defScope sBox) := ⟨rfl, rfl, rfl, by decide +kernel, rfl, by decide +kernel, by decide +kernel⟩
theorem ok_box {f : Addr} {fd : FuncData} (F : Fun K "_law_box" "_law_box" sBox f fd) (B : Bl mg) : FnOk P w K mg base CX0 1 f fd ["_law_script", "_law_k"] (spBox K) := by
  refine F.ok scBox (fun vs H Q E h => ?_) (fun cdv A outer s H vs Q E hr h => ?_)
  · obtain ⟨a, ns, k, rfl, _⟩ := h
    rfl
  obtain ⟨a, ns, k, rfl, hS, h0, q⟩ := h
  refine ⟨_, pss_cons (ps_set (i := 2) scBox.nd rfl (Or.inl rfl) pe_int)
    (pss_cons (ps_if (pt_cmpR op_lt (pv 1) (pe_callB call_len_seq (by rfl) B.len PySem.boot_len (pa_cons (pv 0) pa_nil)) (nomark _))
      (pss_one (ps_set (i := 2) scBox.nd rfl (Or.inl rfl) (pe_callTy call_int1 (by rfl) B.int (by decide +kernel) (pa_cons (pe_ix ix_list (pv 0) (pv 1) (fun _ _ => rfl)) pa_nil)))) pss_nil)
    (pss_cons (ps_if (pt_cmpR op_ge (pv 2) (pe_op op_pow pe_int pe_int) (nomark _))
      (pss_one (ps_ret (pe_lst (pa_cons (pe_op op_sub (pv 2) (pe_op op_pow pe_int pe_int)) (pa_cons (pe_op op_add (pe_op op_modN (pe_callTy call_int1 (by rfl) B.int (by decide +kernel) (pa_cons (pv 2) pa_nil)) pe_int) (pv 1)) (pa_cons pe_int pa_nil)))))) pss_nil)
    (pss_one (ps_ret (pe_lst (pa_cons pe_int (pa_cons (pe_op op_add (pe_op op_modN (pe_callTy call_int1 (by rfl) B.int (by decide +kernel) (pa_cons (pv 2) pa_nil)) pe_int) (pe_op op_mul pe_int (pv 1))) (pa_cons pe_int pa_nil)))))))), ?_⟩
  refine ⟨_, rfl, _, rfl, a, _, rfl, .inl hS, _, _, rfl, rfl, _, rfl, ?_⟩
  have fin : ∀ xs : List V, (∃ x y z : Int, xs = [.int x, .int y, .int z]) → ∀ (l : Addr), H l = none → Q (.ref l) (L2.upd H l (.lst xs)) := by
    rintro xs ⟨x, y, z, rfl⟩ l hl
    exact q l _ hl (same_new hl _) ⟨_, _, _, upd_same⟩
  refine ite2 (fun c => ?_) (fun c => ?_)
  · have c' : k < (((ns.map V.int).length : Nat) : Int) := of_decide_eq_true c
    rw [List.length_map] at c'
    have hk : k.toNat < ns.length := by omega
    have ek : k = ((k.toNat : Nat) : Int) := by omega
    have q1 : atI (ns.map V.int) ((k.toNat : Nat) : Int) = some (.int ns[k.toNat]) := atI_nat (by rw [List.getElem?_map, List.getElem?_eq_getElem hk] <;> rfl)
    rw [← ek] at q1
    refine ⟨_, rfl, _, rfl, a, _, _, _, rfl, rfl, hS, q1, .inl ⟨_, rfl, ?_⟩⟩
    refine ⟨_, rfl, _, _, rfl, rfl, ⟨by decide, by decide, by decide⟩, _, _, rfl, rfl, _, rfl, ite2 (fun c => ?_) (fun c => ?_)⟩
    · refine ⟨_, rfl, _, _, rfl, rfl, ⟨by decide, by decide, by decide⟩, _, _, rfl, rfl, _, rfl, .inl ⟨_, rfl, _, _, rfl, rfl, (by show (2147483629:Int) ≠ 0; decide), _, rfl, _, _, rfl, rfl, (by show 3 ≤ sizeLine; decide), fun l hl => fin _ ⟨_, _, _, rfl⟩ l hl⟩⟩
    · refine ⟨_, rfl, .inl ⟨_, rfl, _, _, rfl, rfl, (by show (2147483629:Int) ≠ 0; decide), _, rfl, _, _, rfl, rfl, .inl ⟨by decide, by decide⟩, _, _, rfl, rfl, (by show 3 ≤ sizeLine; decide), fun l hl => fin _ ⟨_, _, _, rfl⟩ l hl⟩⟩
  · refine ⟨_, rfl, _, _, rfl, rfl, ⟨by decide, by decide, by decide⟩, _, _, rfl, rfl, _, rfl, ite2 (fun c => ?_) (fun c => ?_)⟩
    · refine ⟨_, rfl, _, _, rfl, rfl, ⟨by decide, by decide, by decide⟩, _, _, rfl, rfl, _, rfl, .inl ⟨_, rfl, _, _, rfl, rfl, (by show (2147483629:Int) ≠ 0; decide), _, rfl, _, _, rfl, rfl, (by show 3 ≤ sizeLine; decide), fun l hl => fin _ ⟨_, _, _, rfl⟩ l hl⟩⟩
    · refine ⟨_, rfl, .inl ⟨_, rfl, _, _, rfl, rfl, (by show (2147483629:Int) ≠ 0; decide), _, rfl, _, _, rfl, rfl, .inl ⟨by decide, by decide⟩, _, _, rfl, rfl, (by show 3 ≤ sizeLine; decide), fun l hl => fin _ ⟨_, _, _, rfl⟩ l hl⟩⟩
theorem scPick : FnScope ["_law_box_here", "_law_size", "_law_digit", "_law_number"] ["_law_box_here", "_law_size"] (defScope sPick) := ⟨rfl, rfl, rfl, by decide +kernel, rfl, by decide +kernel, by decide +kernel⟩
theorem ok_pick {f : Addr} {fd : FuncData} (F : Fun K "_law_pick" "_law_pick" sPick f fd) (B : Bl mg) : FnOk P w K mg base CX0 1 f fd ["_law_box_here", "_law_size"] spPick := by
  refine F.ok scPick (fun vs H Q E h => ?_) (fun cdv A outer s H vs Q E hr h => ?_)
  · obtain ⟨p, n, rfl, _⟩ := h
    rfl
  obtain ⟨p, n, rfl, ⟨a, b, c0, hp⟩, n0, n1, q⟩ := h
  refine ⟨_, pss_cons (ps_if (pt_cmpR op_gt (pe_ix ix_list (pv 0) pe_int (fun _ _ => rfl)) pe_int (nomark _))
      (pss_cons (ps_set (i := 2) scPick.nd rfl (Or.inl rfl) (pe_op op_modN (pe_callTy call_int1 (by rfl) B.int (by decide +kernel) (pa_cons (pe_ix ix_list (pv 0) pe_int (fun _ _ => rfl)) pa_nil)) (pv 1)))
      (pss_cons (ps_asg (pe_op op_fdivW (pe_ix ix_list (pv 0) pe_int (fun _ _ => rfl)) (pv 1)) (pg_sub (pv 0) pe_int set_list))
      (pss_one (ps_ret (pv 2))))) pss_nil)
    (pss_cons (ps_asg (pe_op op_add (pe_ix ix_list (pv 0) pe_int (fun _ _ => rfl)) pe_int) (pg_sub (pv 0) pe_int set_list))
    (pss_cons (ps_set (i := 3) scPick.nd rfl (Or.inl rfl) (pe_op op_modN (pe_callTy call_int1 (by rfl) B.int (by decide +kernel) (pa_cons
        (pe_op op_mul (pe_op op_add (pe_op op_add (pe_ix ix_list (pv 0) pe_int (fun _ _ => rfl)) (pe_op op_mul pe_int (pe_ix ix_list (pv 0) pe_int (fun _ _ => rfl)))) pe_int) pe_int) pa_nil)) pe_int))
    (pss_cons (ps_set (i := 3) scPick.nd rfl (Or.inl rfl) (pe_op op_modN (pe_callTy call_int1 (by rfl) B.int (by decide +kernel) (pa_cons
        (pe_op op_mul (pv 3) (pe_op op_add (pe_op op_fdivN (pv 3) pe_int) pe_int)) pa_nil)) pe_int))
    (pss_cons (ps_set (i := 3) scPick.nd rfl (Or.inl rfl) (pe_op op_modN (pe_callTy call_int1 (by rfl) B.int (by decide +kernel) (pa_cons
        (pe_op op_mul (pv 3) (pe_op op_add (pe_op op_fdivN (pv 3) pe_int) pe_int)) pa_nil)) pe_int))
    (pss_one (ps_ret (pe_op op_modN (pe_callTy call_int1 (by rfl) B.int (by decide +kernel) (pa_cons (pe_op op_fdivN (pv 3) pe_int) pa_nil)) (pv 1)))))))), ?_⟩
  refine ⟨_, rfl, p, _, _, _, rfl, rfl, SqL.of hp, rfl, _, _, rfl, rfl, _, rfl, ?_⟩
  refine ite2 (fun c => ?_) (fun c => ?_)
  · refine ⟨_, rfl, p, _, _, _, rfl, rfl, SqL.of hp, rfl, .inl ⟨_, rfl, _, rfl, _, _, rfl, rfl, by omega, ?_⟩⟩
    refine ⟨_, rfl, p, _, _, _, rfl, rfl, SqL.of hp, rfl, _, rfl, _, _, rfl, rfl, ⟨n0, n1⟩, _, rfl, p, _, _, _, rfl, rfl, hp, rfl, ?_⟩
    exact ⟨_, rfl, q _ _ (fmod_ok n0).1 (fmod_ok n0).2 Kp.upd ⟨_, _, _, upd_same⟩⟩
  · refine ⟨_, rfl, p, _, _, _, rfl, rfl, SqL.of hp, rfl, _, _, rfl, rfl, _, rfl, p, _, _, _, rfl, rfl, hp, rfl, ?_⟩
    refine ⟨_, rfl, p, _, _, _, rfl, rfl, SqL.of upd_same, rfl, _, rfl, p, _, _, _, rfl, rfl, SqL.of upd_same, rfl, _, _, rfl, rfl, .inl ⟨by decide, by decide⟩, _, _, rfl, rfl, _, _, rfl, rfl,
      _, _, rfl, rfl, .inr ⟨by decide, by decide⟩, .inl ⟨_, rfl, _, _, rfl, rfl, (by show (2147483647:Int) ≠ 0; decide), ?_⟩⟩
    have r1 := fmod_ok (a := (b + 7919 * (c0 + 1) + 1) * 48271) (n := 2147483647) (by decide)
    refine ⟨_, rfl, _, rfl, _, _, rfl, rfl, ⟨by decide, by decide⟩, _, _, rfl, rfl, _, _, rfl, rfl, .inl ⟨by omega, by omega⟩, .inl ⟨_, rfl, _, _, rfl, rfl, (by show (2147483647:Int) ≠ 0; decide), ?_⟩⟩
    have r2 := fmod_ok (a := (((b + 7919 * (c0 + 1) + 1) * 48271).fmod 2147483647) * ((((b + 7919 * (c0 + 1) + 1) * 48271).fmod 2147483647).fdiv 1009 + 69621)) (n := 2147483647) (by decide)
    refine ⟨_, rfl, _, rfl, _, _, rfl, rfl, ⟨by decide, by decide⟩, _, _, rfl, rfl, _, _, rfl, rfl, .inl ⟨by omega, by omega⟩, .inl ⟨_, rfl, _, _, rfl, rfl, (by show (2147483399:Int) ≠ 0; decide), ?_⟩⟩
    refine ⟨_, rfl, _, _, rfl, rfl, ⟨by decide, by decide⟩, .inl ⟨_, rfl, _, rfl, _, _, rfl, rfl, by omega, ?_⟩⟩
    exact q _ _ (fmod_ok n0).1 (fmod_ok n0).2 Kp.upd ⟨_, _, _, upd_same⟩
end
end Tk
set_option maxRecDepth 100000
namespace Tk
open PySem L2
/-- values by their kinds -/
inductive Kd (H : Hp) : V → String → Prop
  | non : Kd H .non "NoneType"
  | bl (b : Bool) : Kd H (.bl b) "bool"
  | int (i : Int) : Kd H (.int i) "int"
  | str (z : Str) : Kd H (.str z) "str"
  | lst {a : Addr} {xs : List V} (e : H a = some (.lst xs)) : Kd H (.ref a) "list"
  | tup {a : Addr} {xs : List V} (e : H a = some (.tup xs)) : Kd H (.ref a) "tuple"
  | dK {a : Addr} {kvs : List (Key × V)} (e : H a = some (.dK kvs)) : Kd H (.ref a) "dict"
theorem Kd.ty {K : PySem.W.Frag} {H : Hp} {v : V} {T : String} (k : Kd H v T) : TyX K H v (.type T) := by
  cases k with
  | non => exact .base .non
  | bl b => exact .base (.bl b)
  | int i => exact .base (.int i)
  | str z => exact .base (.str z)
  | lst e => exact .base (.lst e)
  | tup e => exact .base (.tup e)
  | dK e => exact .base (.dK e)
theorem Kd.keep {H H' : Hp} {v : V} {T : String} (s : Same H H') (k : Kd H v T) : Kd H' v T := by
  cases k with
  | non => exact .non
  | bl b => exact .bl b
  | int i => exact .int i
  | str z => exact .str z
  | lst e => exact .lst (s _ _ e)
  | tup e => exact .tup (s _ _ e)
  | dK e => exact .dK (s _ _ e)
def intB : V → Bool
  | .int _ => true
  | _ => false
theorem Kd.intB {H : Hp} {v : V} {T : String} (k : Kd H v T) : ∃ b1 b2, kitB T "int" = some b1 ∧ kitB T "bool" = some b2 ∧ (b1 && !b2) = Tk.intB v := by
  cases k with
  | non => exact ⟨false, false, by decide +kernel, by decide +kernel, rfl⟩
  | bl b => exact ⟨true, true, by decide +kernel, by decide +kernel, rfl⟩
  | int i => exact ⟨true, false, by decide +kernel, by decide +kernel, rfl⟩
  | str z => exact ⟨false, false, by decide +kernel, by decide +kernel, rfl⟩
  | lst e => exact ⟨false, false, by decide +kernel, by decide +kernel, rfl⟩
  | tup e => exact ⟨false, false, by decide +kernel, by decide +kernel, rfl⟩
  | dK e => exact ⟨false, false, by decide +kernel, by decide +kernel, rfl⟩
structure Bi (mg : Str → Option Value) : Prop where
  isi : mg "isinstance" = none
  int : mg "int" = none
  str : mg "str" = none
  enum : mg "enumerate" = none
  list : mg "list" = none
end Tk
set_option maxRecDepth 100000
namespace L2
open PySem PySem.Spec PyProof.Rows
/-- text * int -/
theorem op_mul_str {X : Cx} : OpR X (binaryOp .Mult) (fun x y H Q => ∃ i n, x = .str i ∧ y = .int n ∧ MulOk i n ∧ Q (.str (Txt.mul i n)) H) := by
  intro pins s σ H x y v u Q I rx ry h
  obtain ⟨i, n, rfl, rfl, hz, q⟩ := h
  obtain ⟨t, rfl⟩ := rx
  obtain ⟨t', rfl⟩ := ry
  exact SB.mul hz (fun t' tk => ⟨.str (Txt.mul i n), H, I.tok _, ⟨_, rfl⟩, q⟩)
end L2
namespace Tk
open PySem L2 TL
abbrev sWrite : Stmt := top 6
abbrev sWord : Stmt := top 7
def wd : Nat → Str
  | 0 => "0" | 1 => "0n" | 2 => "1" | 3 => "1n" | 4 => "2" | 5 => "2n" | _ => "crash"
def stV (d : Nat) : List V := if d = 6 then [.str "crash"] else [.int ((d / 2 : Nat) : Int), .int ((d % 2 : Nat) : Int)]
def stD (d : Nat) : List PyData := if d = 6 then [.str "crash"] else [.int ((d / 2 : Nat) : Int), .int ((d % 2 : Nat) : Int)]
/-- a tuple of the written part -/
def Wt (K : PySem.W.Frag) (t : Addr) (xs : List V) : Prop := ∃ (o : Obj) (its : Array Value) (n : Nat), K.lookup t = some o ∧ o.cls = .type "tuple" ∧ o.data = .seq its n ∧ its.size ≤ sizeLine ∧ Vals xs its.toList
def Tp (K : PySem.W.Frag) (H : Hp) (t : Addr) (xs : List V) : Prop := H t = some (.tup xs) ∨ Wt K t xs
theorem Tp.sq {K : PySem.W.Frag} {H : Hp} {t : Addr} {xs : List V} (h : Tp K H t xs) : SqT K H t xs := h.elim SqT.of .inr
theorem Tp.ty {K : PySem.W.Frag} {H : Hp} {t : Addr} {xs : List V} (h : Tp K H t xs) : TyX K H (.ref t) (.type "tuple") := by
  rcases h with h | ⟨o, _, _, e, c, _⟩
  · exact .base (.tup h)
  · exact .kTuple e c
theorem Tp.tk {K : PySem.W.Frag} {H H' : Hp} {t : Addr} {xs : List V} (k : TK H H') (h : Tp K H t xs) : Tp K H' t xs := h.imp (k t xs) id
/-- values that are the steps by these digits -/
inductive Ms (K : PySem.W.Frag) (H : Hp) : List V → List Nat → Prop
  | nil : Ms K H [] []
  | cons {t : Addr} {d : Nat} {vs : List V} {ds : List Nat} (h : d < 7) (e : Tp K H t (stV d)) (r : Ms K H vs ds) : Ms K H (.ref t :: vs) (d :: ds)
section
variable {K : PySem.W.Frag} {H H' : Hp} {vs ws : List V} {ds es : List Nat}
theorem Ms.tk (k : TK H H') (h : Ms K H vs ds) : Ms K H' vs ds := by
  induction h with
  | nil => exact .nil
  | cons h e _ ih => exact .cons h (e.tk k) ih
theorem Ms.len (h : Ms K H vs ds) : vs.length = ds.length := by
  induction h with
  | nil => rfl
  | cons _ _ _ ih => rw [List.length_cons, List.length_cons, ih]
theorem Ms.app (h : Ms K H vs ds) (g : Ms K H ws es) : Ms K H (vs ++ ws) (ds ++ es) := by
  induction h with
  | nil => exact g
  | cons h e _ ih => exact .cons h e ih
theorem Ms.snoc {t : Addr} {d : Nat} (h : Ms K H vs ds) (hd : d < 7) (e : Tp K H t (stV d)) : Ms K H (vs ++ [.ref t]) (ds ++ [d]) := h.app (.cons hd e .nil)
theorem Ms.at {v : V} : ∀ {vs : List V} {ds : List Nat} {i : Nat}, Ms K H vs ds → vs[i]? = some v → ∃ t d, v = .ref t ∧ ds[i]? = some d ∧ d < 7 ∧ Tp K H t (stV d)
  | _, _, 0, .cons h e _, q => ⟨_, _, (Option.some.inj q).symm, rfl, h, e⟩
  | _, _, i + 1, .cons _ _ r, q => Ms.at (i := i) r q
theorem Ms.low (h : Ms K H vs ds) : ∀ d ∈ ds, d < 7 := by
  induction h with
  | nil => exact fun d h => nomatch h
  | cons h _ _ ih => exact fun d hd => (List.mem_cons.mp hd).elim (fun e => e ▸ h) (ih d)
theorem st_dp {t : Addr} {d : Nat} (h : SqT K H t (stV d)) : Dp K H (.ref t) (.tuple (stD d)) := by
  refine .tup h ?_
  unfold stV stD
  by_cases c : d = 6
  · rw [if_pos c, if_pos c]; exact .cons (.str _) .nil
  · rw [if_neg c, if_neg c]; exact .cons (.int _) (.cons (.int _) .nil)
theorem Ms.dp (h : Ms K H vs ds) : DpAll K H vs (ds.map fun d => .tuple (stD d)) := by
  induction h with
  | nil => exact .nil
  | cons h e _ ih => exact .cons (st_dp e.sq) ih
end
theorem st_lay (d : Nat) : PyData.canLay0 (.tuple (stD d)) = true := by
  unfold stD
  by_cases c : d = 6
  · rw [if_pos c]; decide +kernel
  · rw [if_neg c]; rfl
theorem st_deep (d : Nat) : PyData.depth (.tuple (stD d)) ≤ 1 := by
  unfold stD
  by_cases c : d = 6
  · rw [if_pos c]; decide +kernel
  · rw [if_neg c]
    show PyData.depthAll [.int _, .int _] + 1 ≤ 1
    rw [PyData.depthAll, PyData.depthAll, PyData.depthAll]
    show max 0 (max 0 0) + 1 ≤ 1
    decide
theorem sts_lay : ∀ ds : List Nat, PyData.canLayAll0 (ds.map fun d => .tuple (stD d)) = true
  | [] => rfl
  | d :: ds => by
    rw [List.map_cons, PyData.canLayAll0, st_lay, sts_lay ds]; rfl
theorem sts_deep : ∀ ds : List Nat, PyData.depthAll (ds.map fun d => .tuple (stD d)) ≤ 1
  | [] => by rw [List.map_nil, PyData.depthAll]; decide
  | d :: ds => by
    rw [List.map_cons, PyData.depthAll]
    exact Nat.max_le.mpr ⟨st_deep d, sts_deep ds⟩
def msD (ds : List Nat) : PyData := .list (ds.map fun d => .tuple (stD d))
theorem ms_lay (ds : List Nat) : PyData.canLay0 (msD ds) = true := by
  show PyData.canLayAll0 _ = true
  exact sts_lay ds
theorem ms_shaped (ds : List Nat) : SeqAt.shaped (msD ds) = true := by
  unfold SeqAt.shaped
  rw [ms_lay]
  refine decide_eq_true ?_
  show PyData.depthAll _ + 1 ≤ 64
  have := sts_deep ds
  omega
theorem ms_refl (ds : List Nat) : PyData.eqv (msD ds) (msD ds) = true := SeqAt.eqv_refl _ (ms_lay ds)
theorem st_shaped (d : Nat) : SeqAt.shaped (.tuple (stD d)) = true := by
  unfold SeqAt.shaped
  rw [st_lay]
  have := st_deep d
  exact decide_eq_true (by omega)
def spWord (K : PySem.W.Frag) : Sp := fun vs H Q _ => ∃ (t : Addr) (d : Nat), vs = [.ref t] ∧ SqT K H t (stV d) ∧ d < 7 ∧ Q (.str (wd d)) H
/-- the constant CRASH -/
structure Cr (K : PySem.W.Frag) (mg : Str → Option Value) (c : Addr) : Prop where
  mC : mg "CRASH" = some (.ref c)
  at_ : Wt K c (stV 6)
section
variable {P : Program} {w : World} {K : PySem.W.Frag} {mg : Str → Option Value} {base : Heap} {c : Addr}
theorem scWo : FnScope ["step", "session", "answer"] ["step"] (defScope sWord) := ⟨rfl, rfl, rfl, by decide +kernel, rfl, by decide +kernel, by decide +kernel⟩
theorem ok_word {f : Addr} {fd : FuncData} (F : Fun K "word_of" "word_of" sWord f fd) (T : Bi mg) (C : Cr K mg c) : FnOk P w K mg base CX0 1 f fd ["step"] (spWord K) := by
  refine F.ok scWo (fun vs H Q E h => ?_) (fun cdv A outer s H vs Q E hr h => ?_)
  · obtain ⟨t, d, rfl, _⟩ := h
    rfl
  obtain ⟨t, d, rfl, ht, hd, q⟩ := h
  refine ⟨_, pss_cons (ps_if (pt_cmpR (op_eqD hr.units) (pv 0) (pe_glob (v := .ref c) (by rfl) C.mC rfl) (nomark _)) (pss_one (ps_ret pe_str)) pss_nil)
    (pss_cons (ps_asg (pv 0) (pg_tup (by rfl) (pgs_cons (pg_name (i := 1) scWo.nd rfl (.inl rfl)) (pgs_cons (pg_name (i := 2) scWo.nd rfl (.inl rfl)) pgs_nil))))
    (pss_one (ps_ret (pe_ifExp (pt_cmpR op_eq (pv 2) pe_int (nomark _)) (pe_joined (.cons (pe_fmt (pv 1)) (.cons pe_str .nil))) (pe_callTy call_str_int (by rfl) T.str (by decide +kernel) (pa_cons (pv 1) pa_nil)))))), ?_⟩
  refine ⟨_, rfl, .tuple (stD d), .tuple (stD 6), st_dp ht, st_dp (.inr C.at_), st_shaped d, st_shaped 6, _, rfl, ?_⟩
  have : d = 6 ∨ d = 0 ∨ d = 1 ∨ d = 2 ∨ d = 3 ∨ d = 4 ∨ d = 5 := by omega
  rcases this with rfl | rfl | rfl | rfl | rfl | rfl | rfl
  · exact iteTb (by decide +kernel) q
  · refine iteFb (by decide +kernel) ⟨_, rfl, t, _, rfl, ht, rfl, _, _, rfl, _, _, rfl, rfl, ?_⟩
    exact ⟨_, rfl, rfl, _, rfl, iteFb (by decide +kernel) ⟨_, rfl, _, rfl, by decide +kernel, q⟩⟩
  · refine iteFb (by decide +kernel) ⟨_, rfl, t, _, rfl, ht, rfl, _, _, rfl, _, _, rfl, rfl, ?_⟩
    exact ⟨_, rfl, rfl, _, rfl, iteTb (by decide +kernel) ⟨_, rfl, .inr ⟨_, rfl, by decide +kernel, _, rfl, by decide +kernel, _, rfl, by decide +kernel, q⟩⟩⟩
  · refine iteFb (by decide +kernel) ⟨_, rfl, t, _, rfl, ht, rfl, _, _, rfl, _, _, rfl, rfl, ?_⟩
    exact ⟨_, rfl, rfl, _, rfl, iteFb (by decide +kernel) ⟨_, rfl, _, rfl, by decide +kernel, q⟩⟩
  · refine iteFb (by decide +kernel) ⟨_, rfl, t, _, rfl, ht, rfl, _, _, rfl, _, _, rfl, rfl, ?_⟩
    exact ⟨_, rfl, rfl, _, rfl, iteTb (by decide +kernel) ⟨_, rfl, .inr ⟨_, rfl, by decide +kernel, _, rfl, by decide +kernel, _, rfl, by decide +kernel, q⟩⟩⟩
  · refine iteFb (by decide +kernel) ⟨_, rfl, t, _, rfl, ht, rfl, _, _, rfl, _, _, rfl, rfl, ?_⟩
    exact ⟨_, rfl, rfl, _, rfl, iteFb (by decide +kernel) ⟨_, rfl, _, rfl, by decide +kernel, q⟩⟩
  · refine iteFb (by decide +kernel) ⟨_, rfl, t, _, rfl, ht, rfl, _, _, rfl, _, _, rfl, rfl, ?_⟩
    exact ⟨_, rfl, rfl, _, rfl, iteTb (by decide +kernel) ⟨_, rfl, .inr ⟨_, rfl, by decide +kernel, _, rfl, by decide +kernel, _, rfl, by decide +kernel, q⟩⟩⟩
end
end Tk
set_option maxRecDepth 100000
namespace Tk
open PySem L2 TL
theorem wd_len : ∀ d : Nat, (tl (wd d)).length ≤ 5
  | 0 => by decide +kernel | 1 => by decide +kernel | 2 => by decide +kernel | 3 => by decide +kernel | 4 => by decide +kernel | 5 => by decide +kernel | _ + 6 => by
    show (tl ("crash" : Str)).length ≤ 5
    decide +kernel
theorem tl_sp : tl (" " : Str) = [32] := by decide +kernel
theorem str_len (z : Str) : z.length = (tl z).length := by simp [tl, Str.length]
theorem str_ext {x y : Str} (h : tl x = tl y) : x = y := by
  rw [← mk_tl x, ← mk_tl y, h]
theorem join_tl (ps : List Str) : tl (Txt.join " " ps) = joinL [32] (ps.map tl) := by rw [join_eq, tl_join, tl_sp]
theorem join_len {n : Nat} : ∀ (ps : List (List Nat)), (∀ p ∈ ps, p.length ≤ n) → (joinL [32] ps).length ≤ ps.length * (n + 1)
  | [], _ => Nat.zero_le _
  | [p], h => by
    have := h p (by simp)
    show p.length ≤ _
    rw [List.length_singleton]; omega
  | p :: q :: r, h => by
    have h1 := h p (by simp)
    have h2 := join_len (q :: r) fun x hx => h x (List.mem_cons_of_mem _ hx)
    show (p ++ ([32] ++ joinL [32] (q :: r))).length ≤ _
    rw [List.length_append, List.length_append, List.length_singleton, List.length_cons, Nat.succ_mul]
    omega
theorem sum_le {n : Nat} : ∀ (l : List Str), (∀ x ∈ l, x.length ≤ n) → (l.map (·.length)).sum ≤ l.length * n
  | [], _ => Nat.zero_le _
  | x :: r, h => by
    have h1 := h x List.mem_cons_self
    have h2 := sum_le r fun y hy => h y (List.mem_cons_of_mem _ hy)
    rw [List.map_cons, List.sum_cons, List.length_cons, Nat.succ_mul]
    omega
theorem wds_ok {ds : List Nat} (h : ds.length ≤ 130) : ((ds.map wd).map (·.length)).sum + (ds.map wd).length * (" " : Str).length ≤ 16777216 ∧ (Txt.join " " (ds.map wd)).length ≤ 780 := by
  constructor
  · have := sum_le (n := 5) (ds.map wd) fun x hx => by
      obtain ⟨d, _, rfl⟩ := List.mem_map.mp hx
      rw [str_len]; exact wd_len d
    have e : (" " : Str).length = 1 := by decide +kernel
    rw [e]
    rw [List.length_map] at this ⊢
    omega
  · rw [str_len, join_tl]
    have := join_len (n := 5) ((ds.map wd).map tl) fun p hp => by
      obtain ⟨x, hx, rfl⟩ := List.mem_map.mp hp
      obtain ⟨d, _, rfl⟩ := List.mem_map.mp hx
      exact wd_len d
    rw [List.length_map, List.length_map] at this
    omega
theorem tk_put {H : Hp} {a : Addr} {xs : List V} (n : H a = some (.lst xs)) (o : HO) : TK H (L2.upd H a o) := fun b ys e => by rw [upd_ne (ne_of e n (by intro z; cases z))]; exact e
theorem tk_new {H : Hp} {a : Addr} (n : H a = none) (o : HO) : TK H (L2.upd H a o) := TK.of_same (same_new n o)
/-- at a: a list of the steps by ds -/
structure Mv (K : PySem.W.Frag) (H : Hp) (a : Addr) (us : List V) (ds : List Nat) : Prop where
  at_ : H a = some (.lst us)
  ms : Ms K H us ds
theorem Mv.same {K : PySem.W.Frag} {H H' : Hp} {a : Addr} {us : List V} {ds : List Nat} (s : Same H H') (h : Mv K H a us ds) : Mv K H' a us ds := ⟨s _ _ h.at_, h.ms.tk (TK.of_same s)⟩
def spWrite (K : PySem.W.Frag) : Sp := fun vs H Q _ => ∃ (a : Addr) (us : List V) (ds : List Nat), vs = [.ref a] ∧ Mv K H a us ds ∧ ds.length ≤ 130 ∧ ∀ H', Same H H' → Q (.str (Txt.join " " (ds.map wd))) H'
section
variable {P : Program} {w : World} {K : PySem.W.Frag} {mg : Str → Option Value} {base : Heap}
theorem scWr : FnScope ["schedule", "step"] ["schedule"] (defScope sWrite) := ⟨rfl, rfl, rfl, by decide +kernel, rfl, by decide +kernel, by decide +kernel⟩
theorem ok_write {f fW : Addr} {fd fdW : FuncData} (F : Fun K "write_schedule" "write_schedule" sWrite f fd) (GW : FnOk P w K mg base CX0 1 fW fdW ["step"] (spWord K)) (bW : Binds K fdW ["step"] []) (kW : PySem.W.keepIn K (.ref fW) = true) (mW : mg "word_of" = some (.ref fW)) :
    FnOk P w K mg base CX0 2 f fd ["schedule"] (spWrite K) := by
  refine F.ok scWr (fun vs H Q E h => ?_) (fun cdv A outer s H vs Q E hr h => ?_)
  · obtain ⟨a, us, ds, rfl, _⟩ := h
    rfl
  obtain ⟨a, us, ds, rfl, hm, hl, q⟩ := h
  refine ⟨_, pss_one (ps_ret (pe_join pe_str (pe_lc (own := [("step", 1)]) (g := gName 1) (tt := tYes) rfl scWr.nd (pi_list (pv 0)) (blkOk_by (own := [("step", 1)]) (N := ["schedule", "step"]) (sc := defScope sWrite) (by decide +kernel))
    (fun _ _ _ _ _ => pg_name (i := 1) scWr.nd rfl (Or.inl rfl)) (fun _ _ _ _ _ => pts_nil) (fun _ _ _ _ _ => pe_call GW hr rfl mW kW bW .nil pass0 (pa_cons (pv 1) pa_nil))))), ?_⟩
  refine ⟨⟨_, rfl⟩, _, rfl, a, rfl, ⟨_, SqL.of hm.at_⟩, fun D hD => ?_⟩
  refine lc_list (K := K) (a := a) (xs := us) (fun i H1 => i ≤ us.length ∧ H1 D = some (.lst (((ds.map wd).take i).map V.str)) ∧ Same H H1) ⟨Nat.zero_le _, upd_same, same_new hD _⟩ ?_ ?_ ?_
  · rintro i H1 hi ⟨_, _, s1⟩
    exact SqL.of (s1 _ _ hm.at_)
  · rintro i v H1 hv ⟨_, h2, s1⟩
    obtain ⟨t, d, rfl, ed, hd, ht⟩ := hm.ms.at hv
    have hi : i < us.length := (List.getElem?_eq_some_iff.mp hv).1
    refine ⟨rfl, ?_⟩
    unfold tYes
    dsimp only
    rw [if_pos rfl]
    refine ⟨_, rfl, t, d, rfl, (ht.tk (TK.of_same s1)).sq, hd, _, h2, ?_, hi, ?_, ?_⟩
    · have e : us.length = ds.length := hm.ms.len
      have : (1000 : Nat) < sizeLine := by decide
      rw [List.length_map, List.length_take, List.length_map]
      omega
    · rw [upd_same, List.take_add_one, List.getElem?_map, ed, List.map_append]
      rfl
    · intro b o e
      rw [upd_ne (ne_of_none e hD)]; exact s1 _ _ e
  · rintro H1 ⟨_, h2, s1⟩
    rw [hm.ms.len, ← List.length_map (f := wd), List.take_length] at h2
    exact ⟨_, D, _, rfl, rfl, .inl (SqL.of h2), (wds_ok hl).1, q H1 s1⟩
end
end Tk
set_option maxRecDepth 100000
namespace L2
open PySem PySem.Spec PyProof.Rows
/-- the reading of for i, x in enumerate(xs), xs a list -/
theorem for_enumL {K : PySem.W.Frag} {a : Addr} {xs : List V} {g : TG} {tb : TS} {D : Ends} {σ : St} {H : Hp} (Pv : Nat → St → Hp → Prop) (h0 : Pv 0 σ H) (hl : ∀ i σ H, i ≤ xs.length → Pv i σ H → SqL K H a xs)
    (hs : ∀ i x T σ H, xs[i]? = some x → Pv i σ H → H T = none → g (.ref T) σ (upd H T (.tup [.int (i : Nat), x])) fun σ2 H2 => tb { D with nx := Pv (i + 1), ct := Pv (i + 1), bk := D.nx } σ2 H2) (hd : ∀ σ H, Pv xs.length σ H → D.nx σ H) :
    ∃ W : Nat → Nat → St → Hp → Prop, (∃ m, W 0 m σ H) ∧ ∀ i m σ H, W i m σ H → ((Ite K a).stop i H ∧ D.nx σ H) ∨ ((Ite K a).go i H ∧ ∃ N : St → Hp → Prop, (∀ σ' H', N σ' H' → ∃ m', m' < m ∧ W (i + 1) m' σ' H') ∧
      ∀ x H', (Ite K a).yld i H x H' → g x σ H' fun σ2 H2 => tb { D with nx := N, ct := N, bk := D.nx } σ2 H2) := by
  refine ⟨fun i m σ H => m = xs.length - i ∧ i ≤ xs.length ∧ Pv i σ H, ⟨xs.length, by simp, Nat.zero_le _, h0⟩, ?_⟩
  rintro i m σ H ⟨rfl, hi, p⟩
  have q := hl i σ H hi p
  by_cases lt : i < xs.length
  · refine .inr ⟨⟨xs, xs[i], q, by simp [lt]⟩, Pv (i + 1), fun σ' H' p' => ⟨xs.length - (i + 1), by omega, rfl, lt, p'⟩, ?_⟩
    rintro x H' ⟨T, y, rfl, hT, rfl, hy⟩
    exact hs i y T σ H (hy xs q) p hT
  · have e : i = xs.length := by omega
    exact .inl ⟨⟨xs, q, by omega⟩, hd σ H (e ▸ p)⟩
end L2
namespace Tk
open PySem L2 TL
abbrev sRead : Stmt := top 8
/-- what a text is split into -/
def parts (z : Str) : List Str := if z.length = 0 then [] else Txt.split z " "
theorem joinL_ne : ∀ (ps : List (List Nat)), (2 ≤ ps.length ∨ ∃ p ∈ ps, p ≠ []) → joinL [32] ps ≠ []
  | [], h => by rcases h with h | ⟨p, h, _⟩ <;> simp at h
  | [p], h => by
    rcases h with h | ⟨x, h, n⟩
    · simp at h
    · rw [List.mem_singleton.mp h] at n; exact n
  | p :: q :: r, _ => by
    show p ++ ([32] ++ joinL [32] (q :: r)) ≠ []
    simp
/-- a text read from the words that it is joined of -/
theorem parts_join {z : Str} {ps : List Str} (e : tl z = joinL [32] (ps.map tl)) (h1 : ∀ p ∈ ps, 32 ∉ tl p) (h2 : 2 ≤ ps.length ∨ ∃ p ∈ ps, tl p ≠ []) : parts z = ps := by
  have ez : z = Txt.join " " ps := str_ext (by rw [e, join_tl])
  have ne : joinL [32] (ps.map tl) ≠ [] := joinL_ne _ (by
    rcases h2 with h | ⟨p, h, n⟩
    · exact .inl (by rw [List.length_map]; exact h)
    · exact .inr ⟨tl p, List.mem_map.mpr ⟨p, h, rfl⟩, n⟩)
  have l0 : ¬ z.length = 0 := by
    rw [str_len, e]
    intro h
    exact ne (List.eq_nil_of_length_eq_zero h)
  unfold parts
  rw [if_neg l0, ez]
  refine split_join (S := []) tl_sp (by decide +kernel) ?_ h1
  rintro rfl
  rcases h2 with h | ⟨p, h, _⟩ <;> simp at h
theorem parts_nil {z : Str} (e : tl z = []) : parts z = [] := by
  unfold parts
  rw [if_pos (by rw [str_len, e]; rfl)]
theorem plen (z : Str) (hz : z.length ≤ 10000) : (parts z).length ≤ 10002 := by
  unfold parts
  split
  · exact Nat.zero_le _
  · have := PyProof.Rows.split_le z " "
    omega

/-- the dict of the words: what the top has made -/
structure Wd7 (K : PySem.W.Frag) (w : World) (mg : Str → Option Value) (it : Addr) (es : Array DictEntry) (n : Nat) : Prop where
  mI : mg "STEP_OF" = some (.ref it)
  kd : KDict K w it es n
  some_ : ∀ d, d < 7 → ∃ a, PySem.W.nsIn K it (wd d) = some (some (.ref a)) ∧ Wt K a (stV d)
theorem wd_sp : ∀ d : Nat, 32 ∉ tl (wd d) ∧ tl (wd d) ≠ []
  | 0 => by decide +kernel | 1 => by decide +kernel | 2 => by decide +kernel | 3 => by decide +kernel | 4 => by decide +kernel | 5 => by decide +kernel | _ + 6 => by
    show 32 ∉ tl ("crash" : Str) ∧ tl ("crash" : Str) ≠ []
    decide +kernel
theorem parts_wds (ds : List Nat) : parts (Txt.join " " (ds.map wd)) = ds.map wd := by
  cases ds with
  | nil => exact parts_nil (by rw [join_tl]; rfl)
  | cons d ds =>
    refine parts_join (join_tl _) (fun p hp => ?_) (.inr ⟨wd d, by simp, (wd_sp d).2⟩)
    obtain ⟨x, _, rfl⟩ := List.mem_map.mp hp
    exact (wd_sp x).1
def spRead (K : PySem.W.Frag) : Sp := fun vs H Q _ => ∃ (ds : List Nat), vs = [.str (Txt.join " " (ds.map wd))] ∧ ds.length ≤ 130 ∧ (∀ d ∈ ds, d < 7) ∧
  ∀ (a : Addr) (H' : Hp) (us : List V), H a = none → Same H H' → Mv K H' a us ds → Q (.ref a) H'
section
variable {P : Program} {w : World} {K : PySem.W.Frag} {mg : Str → Option Value} {base : Heap} {it : Addr} {es : Array DictEntry} {n : Nat}
theorem scRe : FnScope ["text", "schedule", "index", "word"] ["text"] (defScope sRead) := ⟨rfl, rfl, rfl, by decide +kernel, rfl, by decide +kernel, by decide +kernel⟩
theorem ok_read {f : Addr} {fd : FuncData} (F : Fun K "read_schedule" "read_schedule" sRead f fd) (B : Bi mg) (D : Wd7 K w mg it es n) :
    FnOk P w K mg base CX0 1 f fd ["text"] (spRead K) := by
  refine F.ok scRe (fun vs H Q E h => ?_) (fun cdv A outer s H vs Q E hr h => ?_)
  · obtain ⟨v, rfl, _⟩ := h
    rfl
  obtain ⟨ds, rfl, hl, lo, q⟩ := h
  refine ⟨_, pss_cons (ps_if (pt_not (pt_val (pe_callB call_isi (by rfl) B.isi (by decide +kernel) (pa_cons (pv 0) (pa_cons (pe_bltn (v := .ty "str") (by rfl) B.str (by decide +kernel) rfl) pa_nil))))) (pss_one ps_never) pss_nil)
    (pss_cons (ps_set (i := 1) scRe.nd rfl (Or.inl rfl) (pe_lst pa_nil))
    (pss_cons (ps_for PassesOwn.never rfl (pi_enum rfl B.enum (pa_cons (pe_ifExp (pt_truth (pv 0) (by intro _; rfl)) (pe_split (pv 0) pe_str) (pe_lst pa_nil)) pa_nil))
        (pg_tup rfl (pgs_cons (pg_name (i := 2) scRe.nd rfl (.inl rfl)) (pgs_cons (pg_name (i := 3) scRe.nd rfl (.inl rfl)) pgs_nil)))
        (pss_cons (ps_if (pt_cmpR (op_notIn_kd D.kd) (pv 3) (pe_glob (v := .ref it) (by rfl) D.mI rfl) (by rfl)) (pss_one ps_never) pss_nil)
        (pss_one (ps_expr (pe_bm PySem.F.plainAttrs_list PySem.F.slot_list_append PySem.F.type_list_append mt_append (pv 1) (pa_cons (pe_ix ix_kdict (pe_glob (v := .ref it) (by rfl) D.mI rfl) (pv 3) (fun _ _ => rfl)) pa_nil))))))
    (pss_one (ps_ret (pv 1))))), ?_⟩
  have pw := parts_wds ds
  have hz := (wds_ok hl).2
  generalize Txt.join " " (ds.map wd) = z at pw hz ⊢
  refine ⟨_, rfl, .str z, _, _, _, true, rfl, .ty "str", .base (.str z), kit_ty (by decide +kernel), true, rfl, iteF ?_⟩
  refine ⟨Nat.zero_le _, fun S hS => ?_⟩
  have hsz : z.length ≤ sizeLine := by have : (10000 : Nat) ≤ sizeLine := (by decide); omega
  have hS1 : (L2.upd H S (.lst [])) S = some (.lst []) := upd_same
  refine ⟨_, rfl, _, ⟨hsz, rfl⟩, ?_⟩
  by_cases c : z.length = 0
  · refine iteFb (by rw [c]; rfl) ⟨Nat.zero_le _, fun L hL => ?_⟩
    · have eP : ([] : List V) = (ds.map wd).map V.str := by rw [← pw]; unfold parts; rw [if_pos c]; rfl
      have nSL : S ≠ L := ne_of_none hS1 hL
      have sL : Same H (L2.upd (L2.upd H S (.lst [])) L (.lst ([]))) := (same_new hS _).trans (same_new hL _)
      have hL2 : (L2.upd (L2.upd H S (.lst [])) L (.lst ([]))) L = some (.lst ((ds.map wd).map V.str)) := by rw [← eP]; exact upd_same
      have hS2 : (L2.upd (L2.upd H S (.lst [])) L (.lst ([]))) S = some (.lst []) := by rw [upd_ne nSL]; exact hS1
      generalize L2.upd (L2.upd H S (.lst [])) L (.lst ([])) = H2 at sL hL2 hS2 ⊢
      refine ⟨L, _, rfl, SqL.of hL2, for_enumL (xs := (ds.map wd).map V.str) (fun i σ H3 => ∃ (us : List V) (v2 v3 : Option V), σ = [some (.str z), some (.ref S), v2, v3] ∧ H3 S = some (.lst us) ∧ Ms K H3 us (ds.take i) ∧ H3 L = some (.lst ((ds.map wd).map V.str)) ∧ Same H H3 ∧ i ≤ ds.length) ?_ ?_ ?_ ?_⟩
      · exact ⟨[], _, _, rfl, hS2, .nil, hL2, sL, Nat.zero_le _⟩
      · rintro i σ H3 hi ⟨us, v2, v3, rfl, h1, h2, h3, h4⟩
        exact SqL.of h3
      · rintro i x Tu σ H3 hx ⟨us, v2, v3, rfl, h1, h2, h3, h4, _⟩ hT
        have hi : i < ds.length := by have := (List.getElem?_eq_some_iff.mp hx).1; rwa [List.length_map, List.length_map] at this
        have ex : x = .str (wd ds[i]) := by
          rw [List.getElem?_map, List.getElem?_map, List.getElem?_eq_getElem hi] at hx
          exact (Option.some.inj hx).symm
        subst ex
        have sT : Same H (L2.upd H3 Tu (.tup [.int (i : Nat), .str (wd ds[i])])) := h4.trans (same_new hT _)
        have h1T : (L2.upd H3 Tu (.tup [.int (i : Nat), .str (wd ds[i])])) S = some (.lst us) := (same_new hT _) _ _ h1
        have h3T : (L2.upd H3 Tu (.tup [.int (i : Nat), .str (wd ds[i])])) L = some (.lst ((ds.map wd).map V.str)) := (same_new hT _) _ _ h3
        have m3 : Ms K (L2.upd H3 Tu (.tup [.int (i : Nat), .str (wd ds[i])])) us (ds.take i) := h2.tk (tk_new hT _)
        refine ⟨Tu, _, rfl, SqT.of upd_same, rfl, _, _, rfl, _, _, rfl, rfl, ?_⟩
        have ck := lo _ (List.getElem_mem hi)
        obtain ⟨u, hu, au⟩ := D.some_ _ ck
        refine ⟨_, rfl, _, _, rfl, rfl, hu, _, rfl, iteF ?_⟩
        have lu := m3.len
        rw [List.length_take] at lu
        refine ⟨_, rfl, .inl ⟨rfl, _, SqL.of h1T⟩, _, rfl, it, _, .ref u, rfl, rfl, ⟨_, _, _, D.kd.at_, D.kd.lit, hu, rfl⟩, S, _, _, rfl, rfl, h1T, ?_, ?_⟩
        · have : (20000 : Nat) < sizeLine := (by decide); omega
        · refine ⟨us ++ [.ref u], _, _, rfl, upd_same, ?_, by rw [upd_ne nSL.symm]; exact h3T, fun b o e => ?_, hi⟩
          · rw [List.take_add_one, List.getElem?_eq_getElem hi]
            exact (m3.tk (tk_put h1T _)).snoc ck (.inr au)
          · rw [upd_ne (ne_of_none e hS)]; exact sT _ _ e
      · rintro σ H3 ⟨us, v2, v3, rfl, h1, h2, h3, h4, _⟩
        rw [List.length_map, List.length_map, List.take_length] at h2
        exact ⟨_, rfl, q S H3 us hS h4 ⟨h1, h2⟩⟩
  · refine iteTb (by simpa using c) ⟨_, rfl, ⟨_, rfl⟩, _, _, rfl, rfl, by decide +kernel, (by have : (20000 : Nat) ≤ sizeLine := (by decide); omega), fun L hL => ?_⟩
    · have eP : (Txt.split z " ").map V.str = (ds.map wd).map V.str := by rw [← pw]; unfold parts; rw [if_neg c]
      have nSL : S ≠ L := ne_of_none hS1 hL
      have sL : Same H (L2.upd (L2.upd H S (.lst [])) L (.lst ((Txt.split z " ").map V.str))) := (same_new hS _).trans (same_new hL _)
      have hL2 : (L2.upd (L2.upd H S (.lst [])) L (.lst ((Txt.split z " ").map V.str))) L = some (.lst ((ds.map wd).map V.str)) := by rw [← eP]; exact upd_same
      have hS2 : (L2.upd (L2.upd H S (.lst [])) L (.lst ((Txt.split z " ").map V.str))) S = some (.lst []) := by rw [upd_ne nSL]; exact hS1
      generalize L2.upd (L2.upd H S (.lst [])) L (.lst ((Txt.split z " ").map V.str)) = H2 at sL hL2 hS2 ⊢
      refine ⟨L, _, rfl, SqL.of hL2, for_enumL (xs := (ds.map wd).map V.str) (fun i σ H3 => ∃ (us : List V) (v2 v3 : Option V), σ = [some (.str z), some (.ref S), v2, v3] ∧ H3 S = some (.lst us) ∧ Ms K H3 us (ds.take i) ∧ H3 L = some (.lst ((ds.map wd).map V.str)) ∧ Same H H3 ∧ i ≤ ds.length) ?_ ?_ ?_ ?_⟩
      · exact ⟨[], _, _, rfl, hS2, .nil, hL2, sL, Nat.zero_le _⟩
      · rintro i σ H3 hi ⟨us, v2, v3, rfl, h1, h2, h3, h4⟩
        exact SqL.of h3
      · rintro i x Tu σ H3 hx ⟨us, v2, v3, rfl, h1, h2, h3, h4, _⟩ hT
        have hi : i < ds.length := by have := (List.getElem?_eq_some_iff.mp hx).1; rwa [List.length_map, List.length_map] at this
        have ex : x = .str (wd ds[i]) := by
          rw [List.getElem?_map, List.getElem?_map, List.getElem?_eq_getElem hi] at hx
          exact (Option.some.inj hx).symm
        subst ex
        have sT : Same H (L2.upd H3 Tu (.tup [.int (i : Nat), .str (wd ds[i])])) := h4.trans (same_new hT _)
        have h1T : (L2.upd H3 Tu (.tup [.int (i : Nat), .str (wd ds[i])])) S = some (.lst us) := (same_new hT _) _ _ h1
        have h3T : (L2.upd H3 Tu (.tup [.int (i : Nat), .str (wd ds[i])])) L = some (.lst ((ds.map wd).map V.str)) := (same_new hT _) _ _ h3
        have m3 : Ms K (L2.upd H3 Tu (.tup [.int (i : Nat), .str (wd ds[i])])) us (ds.take i) := h2.tk (tk_new hT _)
        refine ⟨Tu, _, rfl, SqT.of upd_same, rfl, _, _, rfl, _, _, rfl, rfl, ?_⟩
        have ck := lo _ (List.getElem_mem hi)
        obtain ⟨u, hu, au⟩ := D.some_ _ ck
        refine ⟨_, rfl, _, _, rfl, rfl, hu, _, rfl, iteF ?_⟩
        have lu := m3.len
        rw [List.length_take] at lu
        refine ⟨_, rfl, .inl ⟨rfl, _, SqL.of h1T⟩, _, rfl, it, _, .ref u, rfl, rfl, ⟨_, _, _, D.kd.at_, D.kd.lit, hu, rfl⟩, S, _, _, rfl, rfl, h1T, ?_, ?_⟩
        · have : (20000 : Nat) < sizeLine := (by decide); omega
        · refine ⟨us ++ [.ref u], _, _, rfl, upd_same, ?_, by rw [upd_ne nSL.symm]; exact h3T, fun b o e => ?_, hi⟩
          · rw [List.take_add_one, List.getElem?_eq_getElem hi]
            exact (m3.tk (tk_put h1T _)).snoc ck (.inr au)
          · rw [upd_ne (ne_of_none e hS)]; exact sT _ _ e
      · rintro σ H3 ⟨us, v2, v3, rfl, h1, h2, h3, h4, _⟩
        rw [List.length_map, List.length_map, List.take_length] at h2
        exact ⟨_, rfl, q S H3 us hS h4 ⟨h1, h2⟩⟩
end
end Tk
set_option maxRecDepth 100000
namespace Tk
open PySem L2 TL
abbrev sSteps : Stmt := top 12
abbrev sText : Stmt := top 13
abbrev sSame : Stmt := top 14
theorem same_kp {H0 H1 H2 : Hp} {p : Addr} (s : Same H0 H1) (n : H0 p = none) (k : Kp p H1 H2) : Same H0 H2 := fun b o e => k b o (s b o e) (ne_of_none e n)
theorem pool_ne {H : Hp} {p a : Addr} (h : PoolAt H p) (n : H a = none) : p ≠ a := by
  obtain ⟨_, _, _, e⟩ := h
  intro z; rw [z, n] at e; cases e
theorem PoolAt.same {H H' : Hp} {p : Addr} (s : Same H H') (h : PoolAt H p) : PoolAt H' p := by
  obtain ⟨x, y, z, e⟩ := h
  exact ⟨x, y, z, s _ _ e⟩
theorem PoolAt.put {H : Hp} {p a : Addr} {o : HO} (h : PoolAt H p) (ne : p ≠ a) : PoolAt (L2.upd H a o) p := by
  obtain ⟨x, y, z, e⟩ := h
  exact ⟨x, y, z, by rw [upd_ne ne]; exact e⟩
theorem Kp.tkp {p : Addr} {H H' : Hp} (k : Kp p H H') (h : PoolAt H p) : TK H H' := by
  obtain ⟨x, y, z, e⟩ := h
  exact k.tk e
theorem st_lo : ∀ d : Nat, d < 6 → stV d = [.int ((d : Int).fdiv 2), .int ((d : Int).fmod 2)]
  | 0, _ => rfl | 1, _ => rfl | 2, _ => rfl | 3, _ => rfl | 4, _ => rfl | 5, _ => rfl
  | n + 6, h => absurd h (by omega)
def spSteps (K : PySem.W.Frag) : Sp := fun vs H Q _ => ∃ (a : Addr) (ns : List Int) (k : Int), vs = [.ref a, .int k] ∧ SqL K H a (ns.map V.int) ∧ ns.length ≤ 63 ∧ 0 ≤ k ∧ k ≤ 1 ∧
  ∀ (p : Addr) (H' : Hp) (us : List V) (ds : List Nat), H p = none → Same H H' → Mv K H' p us ds → ds.length ≤ 60 → Q (.ref p) H'
abbrev nsSt : List Str := ["_law_script", "_law_first", "_law_rows", "_law_top", "_law_k", "_law_box_here", "_law_digit"]
section
variable {P : Program} {w : World} {K : PySem.W.Frag} {mg : Str → Option Value} {base : Heap}
theorem scSt : FnScope nsSt ["_law_script", "_law_first"] (defScope sSteps) := ⟨rfl, rfl, rfl, by decide +kernel, rfl, by decide +kernel, by decide +kernel⟩
theorem ok_steps {f fB fP : Addr} {fd fdB fdP : FuncData} (F : Fun K "_law_steps_of" "_law_steps_of" sSteps f fd) (B : Bl mg) (hR : mg "range" = none) (hMin : mg "min" = none) (hMax : mg "max" = none)
    (GB : FnOk P w K mg base CX0 1 fB fdB ["_law_script", "_law_k"] (spBox K)) (bB : Binds K fdB ["_law_script", "_law_k"] []) (kB : PySem.W.keepIn K (.ref fB) = true) (mB : mg "_law_box" = some (.ref fB))
    (GP : FnOk P w K mg base CX0 1 fP fdP ["_law_box_here", "_law_size"] spPick) (bP : Binds K fdP ["_law_box_here", "_law_size"] []) (kP : PySem.W.keepIn K (.ref fP) = true) (mP : mg "_law_pick" = some (.ref fP)) :
    FnOk P w K mg base CX0 2 f fd ["_law_script", "_law_first"] (spSteps K) := by
  refine F.ok scSt (fun vs H Q E h => ?_) (fun cdv A outer s H vs Q E hr h => ?_)
  · obtain ⟨a, ns, k, rfl, _⟩ := h
    rfl
  obtain ⟨a, ns, k, rfl, hS, hn, k0, k1, q⟩ := h
  refine ⟨_, (pss_cons (ps_set (i := 2) scSt.nd rfl (Or.inl rfl) (pe_lst pa_nil))
 (pss_cons (ps_set (i := 3) scSt.nd rfl (Or.inl rfl) (pe_callB (call_min2 rfl) (by rfl) hMin (by decide +kernel) (pa_cons (pe_int) (pa_cons (pe_op op_add (pe_op op_mul (pe_callB (call_max2 rfl) (by rfl) hMax (by decide +kernel) (pa_cons (pe_int) (pa_cons (pe_op op_sub (pe_callB call_len_seq (by rfl) B.len PySem.boot_len (pa_cons (pv 0) pa_nil)) (pv 1)) pa_nil))) (pe_int)) (pe_call GP (hr.mono (by decide)) rfl mP kP bP .nil pass0 (pa_cons (pe_call GB (hr.mono (by decide)) rfl mB kB bB .nil pass0 (pa_cons (pv 0) (pa_cons (pv 1) pa_nil))) (pa_cons (pe_int) pa_nil)))) pa_nil))))
 (pss_cons (ps_for PassesOwn.never rfl (pi_range1 rfl hR (pa_cons (pv 3) pa_nil)) (pg_name (i := 4) scSt.nd rfl (Or.inl rfl)) (C8.pss_cut (ps_if (pt_cmpR op_eq (pe_op op_modN (pv 4) (pe_int)) (pe_int) (nomark _)) (pss_one (ps_set (i := 5) scSt.nd rfl (Or.inl rfl) (pe_call GB (hr.mono (by decide)) rfl mB kB bB .nil pass0 (pa_cons (pv 0) (pa_cons (pe_op op_add (pv 1) (pe_op op_fdivN (pv 4) (pe_int))) pa_nil))))) pss_nil)
 (pss_cons (ps_set (i := 6) scSt.nd rfl (Or.inl rfl) (pe_call GP (hr.mono (by decide)) rfl mP kP bP .nil pass0 (pa_cons (pv 5) (pa_cons (pe_int) pa_nil))))
 (pss_one (ps_if (pt_cmpR op_eq (pv 6) (pe_int) (nomark _)) (pss_one (ps_expr (pe_bm PySem.F.plainAttrs_list PySem.F.slot_list_append PySem.F.type_list_append mt_append (pv 2) (pa_cons (pe_tup (pa_cons (pe_str) pa_nil)) pa_nil)))) (pss_one (ps_expr (pe_bm PySem.F.plainAttrs_list PySem.F.slot_list_append PySem.F.type_list_append mt_append (pv 2) (pa_cons (pe_tup (pa_cons (pe_op op_fdivN (pv 6) (pe_int)) (pa_cons (pe_op op_modN (pv 6) (pe_int)) pa_nil))) pa_nil)))))))))
 (pss_one (ps_ret (pv 2)))))), ?_⟩
  refine ⟨Nat.zero_le _, fun D hD => ?_⟩
  have sD := same_new hD (.lst [])
  have hD1 : (L2.upd H D (.lst [])) D = some (.lst []) := upd_same
  generalize (L2.upd H D (.lst [])) = H1 at sD hD1 ⊢
  refine ⟨_, rfl, a, _, rfl, .inl (sD.seq hS), _, rfl, _, _, rfl, rfl, _, _, rfl, _, _, rfl, rfl, ?_⟩
  have hl : (ns.map V.int).length = ns.length := List.length_map _
  rw [hl]
  refine ⟨.inl ⟨by split <;> omega, by split <;> omega⟩, _, rfl, _, rfl, a, ns, k, rfl, sD.seq hS, k0, fun pb H2 hpb s2 P2 => ?_⟩
  refine ⟨pb, 5, rfl, P2, by decide, by decide +kernel, fun r H3 r0 r1 k3 P3 => ⟨_, _, rfl, rfl, _, _, rfl, ?_⟩⟩
  generalize hT : (if (_ : Int) < 60 then (_ : Int) else 60) = T
  have T0 : 0 ≤ T ∧ T ≤ 60 := by
    subst hT
    constructor
    · split
      · split <;> omega
      · omega
    · split <;> omega
  clear hT
  have s3 := same_kp (sD.trans s2) (sD.free hpb) k3
  have hD3 : H3 D = some (.lst []) := k3 _ _ (s2 _ _ hD1) (ne_of_none hD1 hpb)
  clear s2 k3 P2 P3 sD hD1
  refine ⟨_, rfl, T, rfl, by omega, by omega, ?_⟩
  refine for_range (lo := 0) (n := T.toNat) (fun i σ H4 => ∃ (us : List V) (ds : List Nat) (v4 v5 v6 : Option V), σ = [some (.ref a), some (.int k), some (.ref D), some (.int T), v4, v5, v6] ∧ Mv K H4 D us ds ∧ ds.length = i ∧ i ≤ T.toNat ∧ Same H H4 ∧
      (i = 0 ∨ ∃ b, v5 = some (.ref b) ∧ PoolAt H4 b ∧ b ≠ D ∧ H b = none)) ⟨[], [], _, _, _, rfl, ⟨hD3, .nil⟩, rfl, Nat.zero_le _, s3, .inl rfl⟩ ?_ ?_
  · rintro i σ H4 hi ⟨us, ds, v4, v5, v6, rfl, m4, hl4, _, s4, hb⟩
    refine ⟨fun σ' H' => ∃ b, σ' = [some (.ref a), some (.int k), some (.ref D), some (.int T), some (.int (0 + (i : Int))), some (.ref b), v6] ∧ Mv K H' D us ds ∧ Same H H' ∧ PoolAt H' b ∧ b ≠ D ∧ H b = none, ?_, ?_⟩
    · refine ⟨_, rfl, _, _, rfl, rfl, (by show (2 : Int) ≠ 0; decide), rfl, _, rfl, ite2 (fun c => ?_) (fun c => ?_)⟩
      · refine ⟨_, rfl, _, rfl, _, rfl, _, _, rfl, rfl, ⟨by decide, by decide⟩, _, _, rfl, rfl, a, ns, _, rfl, s4.seq hS, ?_, fun b H5 hb5 s5 P5 => ?_⟩
        · have : (0 : Int) ≤ (0 + (i : Int)).fdiv 2 := Int.fdiv_nonneg (by omega) (by decide)
          omega
        · exact ⟨b, rfl, m4.same s5, s4.trans s5, P5, (ne_of_none m4.at_ hb5).symm, s4.free hb5⟩
      · rcases hb with rfl | ⟨b, rfl, P4, nb, hb⟩
        · exact absurd c (by decide)
        · exact ⟨b, rfl, m4, s4, P4, nb, hb⟩
    rintro σ' H5 ⟨b, rfl, m5, s5, P5, nb, hb⟩
    refine ⟨_, rfl, b, 7, rfl, P5, by decide, by decide +kernel, fun r H6 r0 r1 k6 P6 => ?_⟩
    have m6 : Mv K H6 D us ds := ⟨k6 _ _ m5.at_ nb.symm, m5.ms.tk (k6.tkp P5)⟩
    have s6 := same_kp s5 hb k6
    have lus : us.length < sizeLine := by
      have := m6.ms.len
      have : (1000 : Nat) < sizeLine := by decide
      omega
    obtain ⟨d, rfl⟩ : ∃ d : Nat, r = (d : Int) := ⟨r.toNat, by omega⟩
    have fin : ∀ (t : Addr) (H7 : Hp), Same H6 H7 → H6 t = none → H7 t = some (.tup (stV d)) → d < 7 → ∃ us2 ds2 v4 v5 v6, [some (V.ref a), some (.int k), some (.ref D), some (.int T), some (.int (0 + (i : Int))), some (.ref b), some (.int (d : Int))] = [some (V.ref a), some (.int k), some (.ref D), some (.int T), v4, v5, v6] ∧ Mv K (L2.upd H7 D (.lst (us ++ [.ref t]))) D us2 ds2 ∧ ds2.length = i + 1 ∧ i + 1 ≤ T.toNat ∧ Same H (L2.upd H7 D (.lst (us ++ [.ref t]))) ∧
        (i + 1 = 0 ∨ ∃ b, v5 = some (.ref b) ∧ PoolAt (L2.upd H7 D (.lst (us ++ [.ref t]))) b ∧ b ≠ D ∧ H b = none) := fun t H7 s7 ht h7 hd => by
      have hD7 := s7 _ _ m6.at_
      refine ⟨us ++ [.ref t], ds ++ [d], _, _, _, rfl, ⟨upd_same, (m6.ms.tk (TK.of_same s7) |>.tk (tk_put hD7 _)).snoc hd (.inl ?_)⟩, by rw [List.length_append, hl4]; rfl, by omega, fun b' o e => ?_, .inr ⟨b, rfl, (P6.same s7).put nb, nb, hb⟩⟩
      · rw [upd_ne (ne_of_none m6.at_ ht).symm]; exact h7
      · rw [upd_ne (ne_of_none e hD)]; exact s7 _ _ (s6 _ _ e)
    refine ⟨_, rfl, rfl, _, rfl, ite2 (fun c => ?_) (fun c => ?_)⟩
    · have d6 : d = 6 := by
        have := of_decide_eq_true c
        injection this with h
        omega
      subst d6
      refine ⟨_, rfl, .inl ⟨rfl, _, SqL.of m6.at_⟩, (by show 1 ≤ sizeLine; decide), fun t ht => ?_⟩
      exact ⟨D, us, _, rfl, rfl, (same_new ht _) _ _ m6.at_, lus, fin t _ (same_new ht _) ht upd_same (by decide)⟩
    · have d6 : d < 6 := by
        have : ¬ (V.int (d : Int)) = V.int 6 := fun z => by rw [z] at c; exact absurd c (by decide)
        have h6 : d ≠ 6 := fun z => this (by rw [z]; rfl)
        omega
      refine ⟨_, rfl, .inl ⟨rfl, _, SqL.of m6.at_⟩, _, rfl, _, _, rfl, rfl, ⟨by decide, by decide⟩, _, rfl, _, _, rfl, rfl, (by show (2 : Int) ≠ 0; decide), (by show 2 ≤ sizeLine; decide), fun t ht => ?_⟩
      exact ⟨D, us, _, rfl, rfl, (same_new ht _) _ _ m6.at_, lus, fin t _ (same_new ht _) ht (by rw [st_lo d d6]; exact upd_same) (by omega)⟩
  · rintro σ H4 ⟨us, ds, v4, v5, v6, rfl, m4, hl4, _, s4, hb⟩
    exact ⟨_, rfl, q D H4 us ds hD s4 m4 (by omega)⟩
end
end Tk
set_option maxRecDepth 100000
namespace L2
open PySem
theorem call_isiF {X : Cx} {K : PySem.W.Frag} (e : X.K = K) : CallR X (.builtin "isinstance") (rIsi K) := by
  subst e
  exact call_isi
end L2
namespace Tk
open PySem L2 TL
section
variable {P : Program} {w : World} {K : PySem.W.Frag} {mg : Str → Option Value} {base : Heap}
theorem scTe : FnScope ["_law_moves", "_law_words", "_law_step"] ["_law_moves"] (defScope sText) := ⟨rfl, rfl, rfl, by decide +kernel, rfl, by decide +kernel, by decide +kernel⟩
theorem ok_text {f : Addr} {fd : FuncData} (F : Fun K "_law_text" "_law_text" sText f fd) (B : Bl mg) (T : Bi mg) : FnOk P w K mg base CX0 1 f fd ["_law_moves"] (spWrite K) := by
  refine F.ok scTe (fun vs H Q E h => ?_) (fun cdv A outer s H vs Q E hr h => ?_)
  · obtain ⟨a, us, ds, rfl, _⟩ := h
    rfl
  obtain ⟨a, us, ds, rfl, hm, hl, q⟩ := h
  refine ⟨_, (pss_cons (ps_set (i := 1) scTe.nd rfl (Or.inl rfl) (pe_lst pa_nil))
 (pss_cons (ps_for PassesOwn.never rfl (pi_list (pv 0)) (pg_name (i := 2) scTe.nd rfl (Or.inl rfl)) (pss_one (ps_if (pt_cmpR op_eq (pe_callB call_len_seq (by rfl) B.len PySem.boot_len (pa_cons (pv 2) pa_nil)) (pe_int) (nomark _)) (pss_one (ps_expr (pe_bm PySem.F.plainAttrs_list PySem.F.slot_list_append PySem.F.type_list_append mt_append (pv 1) (pa_cons (pe_str) pa_nil)))) (pss_one (ps_expr (pe_bm PySem.F.plainAttrs_list PySem.F.slot_list_append PySem.F.type_list_append mt_append (pv 1) (pa_cons (pe_op op_add_str (pe_callTy call_str_int (by rfl) T.str (by decide +kernel) (pa_cons (pe_ix ix_tup (pv 2) (pe_int) (fun _ _ => rfl)) pa_nil)) (pe_op op_mul_str pe_str (pe_ix ix_tup (pv 2) (pe_int) (fun _ _ => rfl)))) pa_nil)))))))
 (pss_one (ps_ret (pe_join (pe_str) (pv 1)))))), ?_⟩
  refine ⟨Nat.zero_le _, fun D hD => ?_⟩
  refine ⟨_, rfl, a, rfl, ⟨_, SqL.of ((same_new hD (.lst [])) _ _ hm.at_)⟩, ?_⟩
  refine for_list (K := K) (a := a) (xs := us) (fun i σ H1 => ∃ v2 : Option V, σ = [some (.ref a), some (.ref D), v2] ∧ i ≤ us.length ∧ H1 D = some (.lst (((ds.map wd).take i).map V.str)) ∧ Same H H1) ⟨_, rfl, Nat.zero_le _, upd_same, same_new hD _⟩ ?_ ?_ ?_
  · rintro i σ H1 hi ⟨_, _, _, _, s1⟩
    exact SqL.of (s1 _ _ hm.at_)
  · rintro i v σ H1 hv ⟨v2, rfl, _, h2, s1⟩
    obtain ⟨t, d, rfl, ed, hd, ht⟩ := hm.ms.at hv
    have hi : i < us.length := (List.getElem?_eq_some_iff.mp hv).1
    have ht1 := (ht.tk (TK.of_same s1)).sq
    have sz : (((ds.map wd).take i).map V.str).length < sizeLine := by
      have e : us.length = ds.length := hm.ms.len
      have : (1000 : Nat) < sizeLine := by decide
      rw [List.length_map, List.length_take, List.length_map]
      omega
    have fin : ∀ z : Str, z = wd d → ∃ v2 : Option V, [some (V.ref a), some (.ref D), some (.ref t)] = [some (V.ref a), some (.ref D), v2] ∧ i + 1 ≤ us.length ∧ (L2.upd H1 D (.lst (((ds.map wd).take i).map V.str ++ [.str z]))) D = some (.lst (((ds.map wd).take (i + 1)).map V.str)) ∧ Same H (L2.upd H1 D (.lst (((ds.map wd).take i).map V.str ++ [.str z]))) := by
      rintro z rfl
      refine ⟨_, rfl, hi, ?_, fun b o e => ?_⟩
      · rw [upd_same, List.take_add_one, List.getElem?_map, ed, List.map_append]
        rfl
      · rw [upd_ne (ne_of_none e hD)]; exact s1 _ _ e
    have : d = 6 ∨ d = 0 ∨ d = 1 ∨ d = 2 ∨ d = 3 ∨ d = 4 ∨ d = 5 := by omega
    refine ⟨_, rfl, t, _, rfl, .inr ht1, rfl, _, rfl, ?_⟩
    rcases this with rfl | rfl | rfl | rfl | rfl | rfl | rfl
    · exact iteTb (by decide +kernel) ⟨_, rfl, .inl ⟨rfl, _, SqL.of h2⟩, D, _, _, rfl, rfl, h2, sz, fin _ rfl⟩
    · refine iteFb (by decide +kernel) ⟨_, rfl, .inl ⟨rfl, _, SqL.of h2⟩, _, rfl, t, _, _, _, rfl, rfl, ht1, rfl, _, rfl, by decide +kernel, _, rfl, t, _, _, _, rfl, rfl, ht1, rfl, ?_⟩
      exact ⟨_, _, rfl, rfl, (by unfold MulOk; decide +kernel), _, _, rfl, rfl, by decide +kernel, D, _, _, rfl, rfl, h2, sz, fin _ (by decide +kernel)⟩
    · refine iteFb (by decide +kernel) ⟨_, rfl, .inl ⟨rfl, _, SqL.of h2⟩, _, rfl, t, _, _, _, rfl, rfl, ht1, rfl, _, rfl, by decide +kernel, _, rfl, t, _, _, _, rfl, rfl, ht1, rfl, ?_⟩
      exact ⟨_, _, rfl, rfl, (by unfold MulOk; decide +kernel), _, _, rfl, rfl, by decide +kernel, D, _, _, rfl, rfl, h2, sz, fin _ (by decide +kernel)⟩
    · refine iteFb (by decide +kernel) ⟨_, rfl, .inl ⟨rfl, _, SqL.of h2⟩, _, rfl, t, _, _, _, rfl, rfl, ht1, rfl, _, rfl, by decide +kernel, _, rfl, t, _, _, _, rfl, rfl, ht1, rfl, ?_⟩
      exact ⟨_, _, rfl, rfl, (by unfold MulOk; decide +kernel), _, _, rfl, rfl, by decide +kernel, D, _, _, rfl, rfl, h2, sz, fin _ (by decide +kernel)⟩
    · refine iteFb (by decide +kernel) ⟨_, rfl, .inl ⟨rfl, _, SqL.of h2⟩, _, rfl, t, _, _, _, rfl, rfl, ht1, rfl, _, rfl, by decide +kernel, _, rfl, t, _, _, _, rfl, rfl, ht1, rfl, ?_⟩
      exact ⟨_, _, rfl, rfl, (by unfold MulOk; decide +kernel), _, _, rfl, rfl, by decide +kernel, D, _, _, rfl, rfl, h2, sz, fin _ (by decide +kernel)⟩
    · refine iteFb (by decide +kernel) ⟨_, rfl, .inl ⟨rfl, _, SqL.of h2⟩, _, rfl, t, _, _, _, rfl, rfl, ht1, rfl, _, rfl, by decide +kernel, _, rfl, t, _, _, _, rfl, rfl, ht1, rfl, ?_⟩
      exact ⟨_, _, rfl, rfl, (by unfold MulOk; decide +kernel), _, _, rfl, rfl, by decide +kernel, D, _, _, rfl, rfl, h2, sz, fin _ (by decide +kernel)⟩
    · refine iteFb (by decide +kernel) ⟨_, rfl, .inl ⟨rfl, _, SqL.of h2⟩, _, rfl, t, _, _, _, rfl, rfl, ht1, rfl, _, rfl, by decide +kernel, _, rfl, t, _, _, _, rfl, rfl, ht1, rfl, ?_⟩
      exact ⟨_, _, rfl, rfl, (by unfold MulOk; decide +kernel), _, _, rfl, rfl, by decide +kernel, D, _, _, rfl, rfl, h2, sz, fin _ (by decide +kernel)⟩
  · rintro σ H1 ⟨v2, rfl, _, h2, s1⟩
    rw [hm.ms.len, ← List.length_map (f := wd), List.take_length] at h2
    exact ⟨⟨_, rfl⟩, _, rfl, _, D, _, rfl, rfl, .inl (SqL.of h2), (wds_ok hl).1, q H1 s1⟩
def spSame (K : PySem.W.Frag) : Sp := fun vs H Q _ => ∃ (a b : Addr) (us ws : List V) (ds : List Nat), vs = [.ref a, .ref b] ∧ Mv K H a us ds ∧ Mv K H b ws ds ∧ ds.length ≤ 130 ∧ ∀ H', Same H H' → Q (.bl true) H'
theorem stV_kind (d : Nat) (x : V) (h : x ∈ stV d) : (∃ z, x = .str z) ∨ ∃ n, x = .int n := by
  unfold stV at h
  split at h
  · rw [List.mem_singleton.mp h]; exact .inl ⟨_, rfl⟩
  · rcases List.mem_cons.mp h with rfl | h
    · exact .inr ⟨_, rfl⟩
    · rw [List.mem_singleton.mp h]; exact .inr ⟨_, rfl⟩
theorem any_rep (n : Nat) : (List.replicate n false).any id = false := by
  induction n with
  | zero => rfl
  | succ n ih => rw [List.replicate_succ, List.any_cons, ih]; rfl
abbrev nsSa : List Str := ["_law_told", "_law_moves", "_law_step", "_law_part"]
theorem scSa : FnScope nsSa ["_law_told", "_law_moves"] (defScope sSame) := ⟨rfl, rfl, rfl, by decide +kernel, rfl, by decide +kernel, by decide +kernel⟩
theorem ok_same {f : Addr} {fd : FuncData} (F : Fun K "_law_same" "_law_same" sSame f fd) (T : Bi mg) (hTu : mg "tuple" = none) (hBo : mg "bool" = none) (hAny : mg "any" = none) : FnOk P w K mg base CX0 1 f fd ["_law_told", "_law_moves"] (spSame K) := by
  refine F.ok scSa (fun vs H Q E h => ?_) (fun cdv A outer s H vs Q E hr h => ?_)
  · obtain ⟨a, b, us, ws, ds, rfl, _⟩ := h
    rfl
  obtain ⟨a, b, us, ws, ds, rfl, hm, hw, hl, q⟩ := h
  refine ⟨_, (pss_cons (ps_if (PW.pt (pw_or (pt_not (pt_val (pe_callB call_isi (by rfl) T.isi (by decide +kernel) (pa_cons (pv 0) (pa_cons (pe_bltn (v := .ty "list") (by rfl) T.list (by decide +kernel) rfl) pa_nil))))) (pw_or1 (pt_cmpR (op_neD hr.units) (pv 0) (pv 1) (nomark _))))) (pss_one (ps_never)) pss_nil)
 (pss_cons (ps_for PassesOwn.never rfl (pi_list (pv 0)) (pg_name (i := 2) scSa.nd rfl (Or.inl rfl)) (pss_one (ps_if (PW.pt (pw_or (pt_not (pt_val (pe_callB call_isi (by rfl) T.isi (by decide +kernel) (pa_cons (pv 2) (pa_cons (pe_bltn (v := .ty "tuple") (by rfl) hTu (by decide +kernel) rfl) pa_nil))))) (pw_or1 (pt_val (pe_callB (cr_any rfl) (by rfl) hAny (by decide +kernel) (pa_cons (pe_lc (own := [("_law_part", 3)]) (g := gName 3) (tt := tYes) rfl scSa.nd (pi_tup (pv 2)) (blkOk_by (own := [("_law_part", 3)]) (N := nsSa) (sc := defScope sSame) (by decide +kernel)) (fun _ _ _ _ _ => pg_name (i := 3) scSa.nd rfl (Or.inl rfl)) (fun _ _ _ _ _ => pts_nil) (fun _ _ _ _ _ => pe_callB (call_isiF (K := K) rfl) (by rfl) T.isi (by decide +kernel) (pa_cons (pv 3) (pa_cons (pe_bltn (v := .ty "bool") (by rfl) hBo (by decide +kernel) rfl) pa_nil)))) pa_nil)))))) (pss_one (ps_never)) pss_nil)))
 (pss_one (ps_ret pe_bl)))), ?_⟩
  refine ⟨_, rfl, .ref a, _, _, _, true, rfl, .ty "list", .base (.lst hm.at_), kit_ty (by decide +kernel), true, rfl, iteF ?_⟩
  refine ⟨_, rfl, _, rfl, msD ds, msD ds, .lst (SqL.of hm.at_) hm.ms.dp, .lst (SqL.of hw.at_) hw.ms.dp, ms_shaped ds, ms_shaped ds, _, rfl, iteFb (by rw [ms_refl]; rfl) ?_⟩
  refine ⟨_, rfl, a, rfl, ⟨_, SqL.of hm.at_⟩, ?_⟩
  refine for_list (K := K) (a := a) (xs := us) (fun i σ H1 => ∃ v2 v3 : Option V, σ = [some (.ref a), some (.ref b), v2, v3] ∧ Same H H1) ⟨_, _, rfl, Same.refl H⟩ ?_ ?_ ?_
  · rintro i σ H1 hi ⟨_, _, _, s1⟩
    exact SqL.of (s1 _ _ hm.at_)
  · rintro i v σ H1 hv ⟨v2, v3, rfl, s1⟩
    obtain ⟨t, d, rfl, ed, hd, ht⟩ := hm.ms.at hv
    have ht1 := ht.tk (TK.of_same s1)
    refine ⟨_, rfl, .ref t, _, _, _, true, rfl, .ty "tuple", ht1.ty, kit_ty (by decide +kernel), true, rfl, iteF ?_⟩
    refine ⟨_, rfl, t, rfl, ⟨_, ht1.sq⟩, fun D hD => ?_⟩
    refine lc_tup (K := K) (a := t) (xs := stV d) (fun j H2 => j ≤ 2 ∧ H2 D = some (.lst ((List.replicate j false).map V.bl)) ∧ Same H1 H2) ⟨by decide, upd_same, same_new hD _⟩ ?_ ?_ ?_
    · rintro j H2 hj ⟨_, _, s2⟩
      exact (ht1.tk (TK.of_same s2)).sq
    · rintro j x H2 hx ⟨_, h2, s2⟩
      have hj : j < 2 := by
        have h1 := (List.getElem?_eq_some_iff.mp hx).1
        have h3 : (stV d).length ≤ 2 := by unfold stV; split <;> simp
        omega
      refine ⟨rfl, ?_⟩
      unfold tYes
      dsimp only
      rw [if_pos rfl]
      have fin : ∃ acc, H2 D = some (.lst acc) ∧ acc.length < sizeLine ∧ (j + 1 ≤ 2 ∧ (L2.upd H2 D (.lst (acc ++ [.bl false]))) D = some (.lst ((List.replicate (j + 1) false).map V.bl)) ∧ Same H1 (L2.upd H2 D (.lst (acc ++ [.bl false])))) := by
        refine ⟨_, h2, ?_, hj, ?_, fun b' o e => ?_⟩
        · have : (1000 : Nat) < sizeLine := by decide
          rw [List.length_map, List.length_replicate]; omega
        · rw [upd_same, List.replicate_succ', List.map_append]; rfl
        · rw [upd_ne (ne_of_none e hD)]; exact s2 _ _ e
      rcases stV_kind d x (List.mem_of_getElem? hx) with ⟨z, rfl⟩ | ⟨n, rfl⟩
      · exact ⟨_, rfl, .str z, _, _, _, false, rfl, .ty "bool", .base (.str z), kit_ty (by decide +kernel), fin⟩
      · exact ⟨_, rfl, .int n, _, _, _, false, rfl, .ty "bool", .base (.int n), kit_ty (by decide +kernel), fin⟩
    · rintro H2 ⟨_, h2, s2⟩
      refine ⟨D, _, rfl, SqL.of h2, _, rfl, iteFb (by rw [any_rep]) ?_⟩
      exact ⟨_, _, rfl, s1.trans s2⟩
  · rintro σ H1 ⟨v2, v3, rfl, s1⟩
    exact q H1 s1
end
end Tk
set_option maxRecDepth 100000
namespace Tk
open PySem L2 TL
abbrev sLaw : Stmt := top 15
def spLaw (K : PySem.W.Frag) : Sp := fun vs H Q _ => ∃ (a : Addr) (ns : List Int), vs = [.ref a] ∧ SqL K H a (ns.map V.int) ∧ ns.length ≤ 63 ∧ ∀ H', Q (.bl true) H'
abbrev nsL : List Str := ["_law_script", "_law_one", "_law_two", "_law_moves", "_law_kept", "_law_text_here", "_law_told"]
theorem joinL_cons (p : List Nat) : ∀ {r : List (List Nat)}, r ≠ [] → joinL [32] (p :: r) = p ++ ([32] ++ joinL [32] r)
  | [], h => absurd rfl h
  | _ :: _, _ => rfl
theorem joinL_app {b : List (List Nat)} (hb : b ≠ []) : ∀ {a : List (List Nat)}, a ≠ [] → joinL [32] (a ++ b) = joinL [32] a ++ ([32] ++ joinL [32] b)
  | [], h => absurd rfl h
  | [p], _ => joinL_cons p hb
  | p :: q :: r, _ => by
    rw [List.cons_append, joinL_cons p (by simp), joinL_app hb (a := q :: r) (by simp), joinL_cons p (by simp)]
    simp
theorem jn_app {d e : List Nat} (hd : d ≠ []) (he : e ≠ []) : Txt.join " " ((d ++ e).map wd) = Txt.join " " (d.map wd) ++ " " ++ Txt.join " " (e.map wd) := by
  refine str_ext ?_
  rw [tl_append, tl_append, join_tl, join_tl, join_tl, tl_sp, List.map_append, List.map_append, joinL_app (by simpa using he) (by simpa using hd)]
  simp
theorem jn_nil {d e : List Nat} (h : d = [] ∨ e = []) : Txt.join " " ((d ++ e).map wd) = Txt.join " " (d.map wd) ++ Txt.join " " (e.map wd) := by
  refine str_ext ?_
  rw [tl_append, join_tl, join_tl, join_tl]
  rcases h with rfl | rfl
  · rfl
  · simp [joinL]
section
variable {P : Program} {w : World} {K : PySem.W.Frag} {mg : Str → Option Value} {base : Heap}
theorem scL : FnScope nsL ["_law_script"] (defScope sLaw) := ⟨rfl, rfl, rfl, by decide +kernel, rfl, by decide +kernel, by decide +kernel⟩
theorem ok_law {f fS fT fE fW fR : Addr} {fd fdS fdT fdE fdW fdR : FuncData} (F : Fun K "law" "law" sLaw f fd) (B : Bl mg) (T : Bi mg)
    (GS : FnOk P w K mg base CX0 2 fS fdS ["_law_script", "_law_first"] (spSteps K)) (bS : Binds K fdS ["_law_script", "_law_first"] []) (kS : PySem.W.keepIn K (.ref fS) = true) (mS : mg "_law_steps_of" = some (.ref fS))
    (GT : FnOk P w K mg base CX0 1 fT fdT ["_law_moves"] (spWrite K)) (bT : Binds K fdT ["_law_moves"] []) (kT : PySem.W.keepIn K (.ref fT) = true) (mT : mg "_law_text" = some (.ref fT))
    (GE : FnOk P w K mg base CX0 1 fE fdE ["_law_told", "_law_moves"] (spSame K)) (bE : Binds K fdE ["_law_told", "_law_moves"] []) (kE : PySem.W.keepIn K (.ref fE) = true) (mE : mg "_law_same" = some (.ref fE))
    (GW : FnOk P w K mg base CX0 2 fW fdW ["schedule"] (spWrite K)) (bW : Binds K fdW ["schedule"] []) (kW : PySem.W.keepIn K (.ref fW) = true) (mW : mg "write_schedule" = some (.ref fW))
    (GR : FnOk P w K mg base CX0 1 fR fdR ["text"] (spRead K)) (bR : Binds K fdR ["text"] []) (kR : PySem.W.keepIn K (.ref fR) = true) (mR : mg "read_schedule" = some (.ref fR)) :
    FnOk P w K mg base CX0 4 f fd ["_law_script"] (spLaw K) := by
  refine F.ok scL (fun vs H Q E h => ?_) (fun cdv A outer s H vs Q E hr h => ?_)
  · obtain ⟨a, ns, rfl, _⟩ := h
    rfl
  obtain ⟨a, ns, rfl, hS, hn, q⟩ := h
  refine ⟨_, (pss_cons (ps_set (i := 1) scL.nd rfl (Or.inl rfl) (pe_call GS (hr.mono (by decide)) rfl mS kS bS .nil pass0 (pa_cons (pv 0) (pa_cons (pe_int) pa_nil))))
 (pss_cons (ps_set (i := 2) scL.nd rfl (Or.inl rfl) (pe_call GS (hr.mono (by decide)) rfl mS kS bS .nil pass0 (pa_cons (pv 0) (pa_cons (pe_int) pa_nil))))
 (pss_cons (ps_for PassesOwn.never rfl (pi_list (pe_lst (pa_cons (pv 1) (pa_cons (pv 2) (pa_cons (pe_op op_cat (pv 1) (pv 2)) (pa_cons (pe_lst pa_nil) pa_nil)))))) (pg_name (i := 3) scL.nd rfl (Or.inl rfl)) (pss_cons (ps_set (i := 4) scL.nd rfl (Or.inl rfl) (pe_callTy call_list_of (by rfl) T.list (by decide +kernel) (pa_cons (pv 3) pa_nil)))
 (pss_cons (ps_set (i := 5) scL.nd rfl (Or.inl rfl) (pe_call GW (hr.mono (by decide)) rfl mW kW bW .nil pass0 (pa_cons (pv 3) pa_nil)))
 (pss_cons (ps_if (PW.pt (pw_or (pt_not (pt_val (pe_callB call_isi (by rfl) T.isi (by decide +kernel) (pa_cons (pv 5) (pa_cons (pe_bltn (v := .ty "str") (by rfl) T.str (by decide +kernel) rfl) pa_nil))))) (pw_or (pt_cmpR op_ne (pv 5) (pe_call GT (hr.mono (by decide)) rfl mT kT bT .nil pass0 (pa_cons (pv 4) pa_nil)) (nomark _)) (pw_or1 (pt_cmpR (op_neD hr.units) (pv 3) (pv 4) (nomark _)))))) (pss_one (ps_never)) pss_nil)
 (pss_cons (ps_set (i := 6) scL.nd rfl (Or.inl rfl) (pe_call GR (hr.mono (by decide)) rfl mR kR bR .nil pass0 (pa_cons (pv 5) pa_nil)))
 (pss_cons (ps_if (pt_not (pt_val (pe_call GE (hr.mono (by decide)) rfl mE kE bE .nil pass0 (pa_cons (pv 6) (pa_cons (pv 4) pa_nil))))) (pss_one (ps_never)) pss_nil)
 (pss_cons (ps_expr (pe_bm PySem.F.plainAttrs_list PySem.F.slot_list_append PySem.F.type_list_append mt_append (pv 6) (pa_cons (pe_tup (pa_cons (pe_str) pa_nil)) pa_nil)))
 (pss_one (ps_if (pt_not (pt_val (pe_call GE (hr.mono (by decide)) rfl mE kE bE .nil pass0 (pa_cons (pe_call GR (hr.mono (by decide)) rfl mR kR bR .nil pass0 (pa_cons (pv 5) pa_nil)) (pa_cons (pv 4) pa_nil))))) (pss_one (ps_never)) pss_nil)))))))))
 (pss_cons (ps_if (PW.pt (pw_and (pt_cmpR op_gt (pe_callB call_len_seq (by rfl) B.len PySem.boot_len (pa_cons (pv 1) pa_nil)) (pe_int) (nomark _)) (pw_and1 (pt_cmpR op_gt (pe_callB call_len_seq (by rfl) B.len PySem.boot_len (pa_cons (pv 2) pa_nil)) (pe_int) (nomark _))))) (pss_one (ps_ret (pe_cmpR op_eq (pe_call GW (hr.mono (by decide)) rfl mW kW bW .nil pass0 (pa_cons (pe_op op_cat (pv 1) (pv 2)) pa_nil)) (pe_op op_add_str (pe_op op_add_str (pe_call GW (hr.mono (by decide)) rfl mW kW bW .nil pass0 (pa_cons (pv 1) pa_nil)) pe_str) (pe_call GW (hr.mono (by decide)) rfl mW kW bW .nil pass0 (pa_cons (pv 2) pa_nil))) (nomark _)))) pss_nil)
 (pss_one (ps_ret (pe_cmpR op_eq (pe_call GW (hr.mono (by decide)) rfl mW kW bW .nil pass0 (pa_cons (pe_op op_cat (pv 1) (pv 2)) pa_nil)) (pe_op op_add_str (pe_call GW (hr.mono (by decide)) rfl mW kW bW .nil pass0 (pa_cons (pv 1) pa_nil)) (pe_call GW (hr.mono (by decide)) rfl mW kW bW .nil pass0 (pa_cons (pv 2) pa_nil))) (nomark _)))))))), ?_⟩
  refine ⟨_, rfl, a, ns, 0, rfl, hS, hn, by decide, by decide, fun p1 H1 u1 d1 hp1 s1 m1 l1 => ?_⟩
  refine ⟨_, rfl, a, ns, 1, rfl, s1.seq hS, hn, by decide, by decide, fun p2 H2 u2 d2 hp2 s2 m2 l2 => ?_⟩
  have m1 := m1.same s2
  have big : (10000 : Nat) ≤ sizeLine := by decide
  have e1 := m1.ms.len
  have e2 := m2.ms.len
  refine ⟨_, rfl, _, rfl, _, rfl, _, rfl, p1, p2, u1, u2, rfl, rfl, m1.at_, m2.at_, by omega, fun p3 h3 => ⟨Nat.zero_le _, fun p4 h4 => ⟨(by show 4 ≤ sizeLine; decide), fun p5 h5 => ?_⟩⟩⟩
  have s5 := ((same_new h3 (.lst (u1 ++ u2))).trans (same_new h4 (.lst []))).trans (same_new h5 (.lst [.ref p1, .ref p2, .ref p3, .ref p4]))
  have n34 : p3 ≠ p4 := ne_of_none upd_same h4
  have g3 : Mv K (L2.upd (L2.upd (L2.upd H2 p3 (.lst (u1 ++ u2))) p4 (.lst [])) p5 (.lst [.ref p1, .ref p2, .ref p3, .ref p4])) p3 (u1 ++ u2) (d1 ++ d2) := ⟨(same_new h5 _) _ _ ((same_new h4 _) _ _ upd_same), (m1.ms.app m2.ms).tk (TK.of_same s5)⟩
  have g4 : Mv K (L2.upd (L2.upd (L2.upd H2 p3 (.lst (u1 ++ u2))) p4 (.lst [])) p5 (.lst [.ref p1, .ref p2, .ref p3, .ref p4])) p4 [] [] := ⟨(same_new h5 _) _ _ upd_same, .nil⟩
  have g1 := m1.same s5
  have g2 := m2.same s5
  have g5 : (L2.upd (L2.upd (L2.upd H2 p3 (.lst (u1 ++ u2))) p4 (.lst [])) p5 (.lst [.ref p1, .ref p2, .ref p3, .ref p4])) p5 = some (.lst [.ref p1, .ref p2, .ref p3, .ref p4]) := upd_same
  clear n34 m1 m2 h3 h4 h5 s5 s1 s2 hp1 hp2 hS
  generalize (L2.upd (L2.upd (L2.upd H2 p3 (.lst (u1 ++ u2))) p4 (.lst [])) p5 (.lst [.ref p1, .ref p2, .ref p3, .ref p4])) = H5 at g1 g2 g3 g4 g5 ⊢
  refine ⟨p5, rfl, ⟨_, SqL.of g5⟩, ?_⟩
  have len12 : (d1 ++ d2).length ≤ 130 := by rw [List.length_append]; omega
  refine for_list (K := K) (a := p5) (xs := [.ref p1, .ref p2, .ref p3, .ref p4]) (fun i σ H6 => ∃ v3 v4 v5 v6 : Option V, σ = [some (.ref a), some (.ref p1), some (.ref p2), v3, v4, v5, v6] ∧ Same H5 H6) ⟨_, _, _, _, rfl, Same.refl H5⟩ ?_ ?_ ?_
  · rintro i σ H6 hi ⟨_, _, _, _, _, s6⟩
    exact SqL.of (s6 _ _ g5)
  · rintro i x σ H6 hx ⟨v3, v4, v5, v6, rfl, s6⟩
    obtain ⟨p, us, ds, rfl, m6, l6⟩ : ∃ p us ds, x = .ref p ∧ Mv K H6 p us ds ∧ ds.length ≤ 130 := by
      have := List.mem_of_getElem? hx
      simp only [List.mem_cons, List.not_mem_nil, or_false] at this
      rcases this with rfl | rfl | rfl | rfl
      · exact ⟨_, _, _, rfl, g1.same s6, by omega⟩
      · exact ⟨_, _, _, rfl, g2.same s6, by omega⟩
      · exact ⟨_, _, _, rfl, g3.same s6, len12⟩
      · exact ⟨_, _, _, rfl, g4.same s6, by decide⟩
    clear hx
    refine ⟨_, rfl, p, _, rfl, .inl (SqL.of m6.at_), fun kp hk => ?_⟩
    have s7 := s6.trans (same_new hk (.lst us))
    have m7 := m6.same (same_new hk (.lst us))
    have k7 : Mv K (L2.upd H6 kp (.lst us)) kp us ds := ⟨upd_same, m7.ms⟩
    have npk : p ≠ kp := ne_of_none m6.at_ hk
    generalize (L2.upd H6 kp (.lst us)) = H7 at s7 m7 k7 ⊢
    refine ⟨_, rfl, p, us, ds, rfl, m7, l6, fun H8 s8 => ?_⟩
    have m8 := m7.same s8
    have k8 := k7.same s8
    refine ⟨_, rfl, .str _, _, _, _, true, rfl, .ty "str", .base (.str _), kit_ty (by decide +kernel), true, rfl, iteF ?_⟩
    refine ⟨_, rfl, _, rfl, kp, us, ds, rfl, k8, l6, fun H9 s9 => ⟨rfl, _, rfl, ?_⟩⟩
    have m9 := m8.same s9
    have k9 := k8.same s9
    refine iteFb (by simp) ⟨_, rfl, _, rfl, msD ds, msD ds, .lst (SqL.of m9.at_) m9.ms.dp, .lst (SqL.of k9.at_) k9.ms.dp, ms_shaped ds, ms_shaped ds, _, rfl, iteFb (by rw [ms_refl]; rfl) ?_⟩
    have lo : ∀ d ∈ ds, d < 7 := m9.ms.low
    refine ⟨_, rfl, ds, rfl, l6, lo, fun t Ha ut ht sa ma => ?_⟩
    have ka := k9.same sa
    refine ⟨_, rfl, _, rfl, t, kp, ut, us, ds, rfl, ma, ka, l6, fun Hb sb => ⟨true, rfl, iteF ?_⟩⟩
    have mb := ma.same sb
    have kb := ka.same sb
    have ntk : kp ≠ t := ne_of_none k9.at_ ht
    have sall := (((s7.trans s8).trans s9).trans sa).trans sb
    have ht5 : H5 t = none := ((s7.trans s8).trans s9).free ht
    have lut : ut.length < sizeLine := by
      have := mb.ms.len
      omega
    refine ⟨_, rfl, .inl ⟨rfl, _, SqL.of mb.at_⟩, (by show 1 ≤ sizeLine; decide), fun t1 ht1 => ?_⟩
    have hbt := (same_new ht1 (.tup [.str "crash"])) _ _ mb.at_
    refine ⟨t, ut, _, rfl, rfl, hbt, lut, ?_⟩
    have kc : Mv K (L2.upd (L2.upd Hb t1 (.tup [.str "crash"])) t (.lst (ut ++ [.ref t1]))) kp us ds := ⟨by rw [upd_ne ntk]; exact (same_new ht1 _) _ _ kb.at_, (kb.ms.tk (tk_new ht1 _)).tk (tk_put hbt _)⟩
    have sc : Same H5 (L2.upd (L2.upd Hb t1 (.tup [.str "crash"])) t (.lst (ut ++ [.ref t1]))) := fun b o e => by
      rw [upd_ne (ne_of_none e ht5)]
      exact (same_new ht1 _) _ _ (sall _ _ e)
    generalize (L2.upd (L2.upd Hb t1 (.tup [.str "crash"])) t (.lst (ut ++ [.ref t1]))) = Hc at kc sc ⊢
    refine ⟨_, rfl, ds, rfl, l6, lo, fun t2 Hd ut2 ht2 sd md => ?_⟩
    exact ⟨_, rfl, t2, kp, ut2, us, ds, rfl, md, kc.same sd, l6, fun He se => ⟨true, rfl, iteF ⟨_, _, _, _, rfl, (sc.trans sd).trans se⟩⟩⟩
  · rintro σ H6 ⟨v3, v4, v5, v6, rfl, s6⟩
    have m1 := g1.same s6
    have m2 := g2.same s6
    have fin : ∀ {R : V → Hp → Prop} {x y : Str}, x = y → (∀ H', R (.bl true) H') → ∀ H', R (.bl (decide (V.str x = V.str y))) H' := fun e h H' => by
      rw [decide_eq_true (by rw [e])]
      exact h H'
    have j1 := (wds_ok (ds := d1) (by omega)).2
    have j2 := (wds_ok (ds := d2) (by omega)).2
    refine ⟨_, rfl, p1, _, rfl, .inl (SqL.of m1.at_), _, _, rfl, rfl, _, rfl, ite2 (fun c1 => ?_) (fun c1 => iteF ?_)⟩
    · refine ⟨_, rfl, p2, _, rfl, .inl (SqL.of m2.at_), _, _, rfl, rfl, _, rfl, ite2 (fun c2 => ?_) (fun c2 => ?_)⟩
      · refine ⟨_, rfl, _, rfl, p1, p2, u1, u2, rfl, rfl, m1.at_, m2.at_, by omega, fun pn hpn => ⟨pn, u1 ++ u2, d1 ++ d2, rfl, ⟨upd_same, (m1.ms.app m2.ms).tk (tk_new hpn _)⟩, len12, fun Hx sx0 => ?_⟩⟩
        have sx := (same_new hpn (.lst (u1 ++ u2))).trans sx0
        refine ⟨_, rfl, p1, u1, d1, rfl, m1.same sx, by omega, fun Hy sy => ?_⟩
        refine ⟨_, _, rfl, rfl, (by rw [show (" " : Str).length = 1 from by decide +kernel]; omega), _, rfl, p2, u2, d2, rfl, (m2.same sx).same sy, by omega, fun Hz sz => ?_⟩
        refine ⟨_, _, rfl, rfl, (by rw [len_app, show (" " : Str).length = 1 from by decide +kernel]; omega), rfl, fin (R := Q) (jn_app ?_ ?_) q _⟩
        · intro z
          rw [z] at e1
          rw [e1] at c1
          exact absurd c1 (by decide)
        · intro z
          rw [z] at e2
          rw [e2] at c2
          exact absurd c2 (by decide)
      · refine ⟨_, rfl, _, rfl, p1, p2, u1, u2, rfl, rfl, m1.at_, m2.at_, by omega, fun pn hpn => ⟨pn, u1 ++ u2, d1 ++ d2, rfl, ⟨upd_same, (m1.ms.app m2.ms).tk (tk_new hpn _)⟩, len12, fun Hx sx0 => ?_⟩⟩
        have sx := (same_new hpn (.lst (u1 ++ u2))).trans sx0
        refine ⟨_, rfl, p1, u1, d1, rfl, m1.same sx, by omega, fun Hy sy => ?_⟩
        refine ⟨_, rfl, p2, u2, d2, rfl, (m2.same sx).same sy, by omega, fun Hz sz => ?_⟩
        refine ⟨_, _, rfl, rfl, by omega, rfl, fin (R := Q) (jn_nil (.inr ?_)) q _⟩
        have : ¬ ((0 : Int) < (u2.length : Int)) := fun z => c2 (decide_eq_true z)
        refine List.eq_nil_of_length_eq_zero ?_
        omega
    · refine ⟨_, rfl, _, rfl, p1, p2, u1, u2, rfl, rfl, m1.at_, m2.at_, by omega, fun pn hpn => ⟨pn, u1 ++ u2, d1 ++ d2, rfl, ⟨upd_same, (m1.ms.app m2.ms).tk (tk_new hpn _)⟩, len12, fun Hx sx0 => ?_⟩⟩
      have sx := (same_new hpn (.lst (u1 ++ u2))).trans sx0
      refine ⟨_, rfl, p1, u1, d1, rfl, m1.same sx, by omega, fun Hy sy => ?_⟩
      refine ⟨_, rfl, p2, u2, d2, rfl, (m2.same sx).same sy, by omega, fun Hz sz => ?_⟩
      refine ⟨_, _, rfl, rfl, by omega, rfl, fin (R := Q) (jn_nil (.inl ?_)) q _⟩
      have : ¬ ((0 : Int) < (u1.length : Int)) := fun z => c1 (decide_eq_true z)
      refine List.eq_nil_of_length_eq_zero ?_
      omega
end
end Tk
set_option maxRecDepth 100000
namespace Tk
open PySem L2 PyProof.Rows
theorem kit_ty1 {K : PySem.W.Frag} {D : Addr} {t : String} {b : Bool} (s : PySem.W.subIn K (.ref D) (.type t) = some b) (ht : PySem.W.kitOne K (.ref D) (.type t) = PySem.W.subIn K (.ref D) (.type t)) : PySem.W.kitOne K (.ref D) (.type t) = some b := ht.trans s
theorem kit_ref {K : PySem.W.Frag} {D C : Addr} {b : Bool} (hne : (Value.ref D == Value.ref C) = false) (ic : PySem.W.isClsIn K C = true) (tC : PySem.W.typeIn K (.ref C) = some (.type "type")) (s : PySem.W.subIn K (.ref D) (.ref C) = some b) : PySem.W.kitOne K (.ref D) (.ref C) = some b := by
  have e1 : (PySem.W.clsIn K C).isSome = true := ic
  unfold PySem.W.kitOne
  rw [hne, if_neg (by decide)]
  show (if ((PySem.W.clsIn K C).isSome && PySem.W.typeIn K (.ref C) == some (.type "type")) = true then PySem.W.subIn K (.ref D) (.ref C) else none) = some b
  rw [e1, tC, if_pos (show (true && some (Value.type "type") == some (Value.type "type")) = true from by rw [beq_self_eq_true]; rfl)]
  exact s
theorem ve_ok {CT : Addr} : PySem.HandSPX.refsVE [.ref CT, .type "ValueError", .type "Exception", .type "BaseException", .type "object"] = true := by
  show PySem.HandSPX.refsVE [.type "ValueError", .type "Exception", .type "BaseException", .type "object"] = true
  decide +kernel

theorem all_mk {l : PySem.W.OpenLaw} {w : World} {K : PySem.W.Frag} {h : Heap} {mg : Str → Option Value} {fa  f_word f_write f_read f_box f_pick f_steps f_text f_same f_law it uc u_0 u_1 u_2 u_0n u_1n u_2n : Addr} (X : K.In h) (G : h.Ns mainGlobals mg) (hfa : mg "law" = some (.ref fa))
    {od_word an_word : Option Addr} {sl_word : Array (Option Value)} {oc_word kV_word dc_word pm_word cd_word ct_word : Value}
    {od_write an_write : Option Addr} {sl_write : Array (Option Value)} {oc_write kV_write dc_write pm_write cd_write ct_write : Value}
    {od_read an_read : Option Addr} {sl_read : Array (Option Value)} {oc_read kV_read dc_read pm_read cd_read ct_read : Value}
    {od_box an_box : Option Addr} {sl_box : Array (Option Value)} {oc_box kV_box dc_box pm_box cd_box ct_box : Value}
    {od_pick an_pick : Option Addr} {sl_pick : Array (Option Value)} {oc_pick kV_pick dc_pick pm_pick cd_pick ct_pick : Value}
    {od_steps an_steps : Option Addr} {sl_steps : Array (Option Value)} {oc_steps kV_steps dc_steps pm_steps cd_steps ct_steps : Value}
    {od_text an_text : Option Addr} {sl_text : Array (Option Value)} {oc_text kV_text dc_text pm_text cd_text ct_text : Value}
    {od_same an_same : Option Addr} {sl_same : Array (Option Value)} {oc_same kV_same dc_same pm_same cd_same ct_same : Value}
    {od_law an_law : Option Addr} {sl_law : Array (Option Value)} {oc_law kV_law dc_law pm_law cd_law ct_law : Value}
    {esI : Array DictEntry} {nI : Nat}
    {dd_0 : Option Addr} {it_0 : Array Value} {n_0 : Nat} {so_0 : Array (Option Value)}
    {dd_1 : Option Addr} {it_1 : Array Value} {n_1 : Nat} {so_1 : Array (Option Value)}
    {dd_2 : Option Addr} {it_2 : Array Value} {n_2 : Nat} {so_2 : Array (Option Value)}
    {dd_0n : Option Addr} {it_0n : Array Value} {n_0n : Nat} {so_0n : Array (Option Value)}
    {dd_1n : Option Addr} {it_1n : Array Value} {n_1n : Nat} {so_1n : Array (Option Value)}
    {dd_2n : Option Addr} {it_2n : Array Value} {n_2n : Nat} {so_2n : Array (Option Value)}
    {dd_c : Option Addr} {it_c : Array Value} {n_c : Nat} {so_c : Array (Option Value)}
    (a_word : PySem.W.nsIn K mainGlobals "word_of" = some (some (.ref f_word)))
    (l_word : K.lookup f_word = some ⟨oc_word, od_word, .func (PySem.W.fnOf "word_of" "word_of" (defArgs sWord) (defBody sWord) (defScope sWord) .none kV_word dc_word pm_word an_word cd_word ct_word), sl_word⟩)
    (c_word : PySem.W.codeIn K cd_word "word_of" = true)
    (k_word : PySem.W.keepIn K (.ref f_word) = true)
    (a_write : PySem.W.nsIn K mainGlobals "write_schedule" = some (some (.ref f_write)))
    (l_write : K.lookup f_write = some ⟨oc_write, od_write, .func (PySem.W.fnOf "write_schedule" "write_schedule" (defArgs sWrite) (defBody sWrite) (defScope sWrite) .none kV_write dc_write pm_write an_write cd_write ct_write), sl_write⟩)
    (c_write : PySem.W.codeIn K cd_write "write_schedule" = true)
    (k_write : PySem.W.keepIn K (.ref f_write) = true)
    (a_read : PySem.W.nsIn K mainGlobals "read_schedule" = some (some (.ref f_read)))
    (l_read : K.lookup f_read = some ⟨oc_read, od_read, .func (PySem.W.fnOf "read_schedule" "read_schedule" (defArgs sRead) (defBody sRead) (defScope sRead) .none kV_read dc_read pm_read an_read cd_read ct_read), sl_read⟩)
    (c_read : PySem.W.codeIn K cd_read "read_schedule" = true)
    (k_read : PySem.W.keepIn K (.ref f_read) = true)
    (a_box : PySem.W.nsIn K mainGlobals "_law_box" = some (some (.ref f_box)))
    (l_box : K.lookup f_box = some ⟨oc_box, od_box, .func (PySem.W.fnOf "_law_box" "_law_box" (defArgs sBox) (defBody sBox) (defScope sBox) .none kV_box dc_box pm_box an_box cd_box ct_box), sl_box⟩)
    (c_box : PySem.W.codeIn K cd_box "_law_box" = true)
    (k_box : PySem.W.keepIn K (.ref f_box) = true)
    (a_pick : PySem.W.nsIn K mainGlobals "_law_pick" = some (some (.ref f_pick)))
    (l_pick : K.lookup f_pick = some ⟨oc_pick, od_pick, .func (PySem.W.fnOf "_law_pick" "_law_pick" (defArgs sPick) (defBody sPick) (defScope sPick) .none kV_pick dc_pick pm_pick an_pick cd_pick ct_pick), sl_pick⟩)
    (c_pick : PySem.W.codeIn K cd_pick "_law_pick" = true)
    (k_pick : PySem.W.keepIn K (.ref f_pick) = true)
    (a_steps : PySem.W.nsIn K mainGlobals "_law_steps_of" = some (some (.ref f_steps)))
    (l_steps : K.lookup f_steps = some ⟨oc_steps, od_steps, .func (PySem.W.fnOf "_law_steps_of" "_law_steps_of" (defArgs sSteps) (defBody sSteps) (defScope sSteps) .none kV_steps dc_steps pm_steps an_steps cd_steps ct_steps), sl_steps⟩)
    (c_steps : PySem.W.codeIn K cd_steps "_law_steps_of" = true)
    (k_steps : PySem.W.keepIn K (.ref f_steps) = true)
    (a_text : PySem.W.nsIn K mainGlobals "_law_text" = some (some (.ref f_text)))
    (l_text : K.lookup f_text = some ⟨oc_text, od_text, .func (PySem.W.fnOf "_law_text" "_law_text" (defArgs sText) (defBody sText) (defScope sText) .none kV_text dc_text pm_text an_text cd_text ct_text), sl_text⟩)
    (c_text : PySem.W.codeIn K cd_text "_law_text" = true)
    (k_text : PySem.W.keepIn K (.ref f_text) = true)
    (a_same : PySem.W.nsIn K mainGlobals "_law_same" = some (some (.ref f_same)))
    (l_same : K.lookup f_same = some ⟨oc_same, od_same, .func (PySem.W.fnOf "_law_same" "_law_same" (defArgs sSame) (defBody sSame) (defScope sSame) .none kV_same dc_same pm_same an_same cd_same ct_same), sl_same⟩)
    (c_same : PySem.W.codeIn K cd_same "_law_same" = true)
    (k_same : PySem.W.keepIn K (.ref f_same) = true)
    (a_law : PySem.W.nsIn K mainGlobals "law" = some (some (.ref f_law)))
    (l_law : K.lookup f_law = some ⟨oc_law, od_law, .func (PySem.W.fnOf "law" "law" (defArgs sLaw) (defBody sLaw) (defScope sLaw) .none kV_law dc_law pm_law an_law cd_law ct_law), sl_law⟩)
    (c_law : PySem.W.codeIn K cd_law "law" = true)
    (k_law : PySem.W.keepIn K (.ref f_law) = true)
    (z_len : PySem.W.nsIn K mainGlobals "len" = some none)
    (z_int : PySem.W.nsIn K mainGlobals "int" = some none)
    (z_range : PySem.W.nsIn K mainGlobals "range" = some none)
    (z_list : PySem.W.nsIn K mainGlobals "list" = some none)
    (z_isinstance : PySem.W.nsIn K mainGlobals "isinstance" = some none)
    (z_str : PySem.W.nsIn K mainGlobals "str" = some none)
    (z_enumerate : PySem.W.nsIn K mainGlobals "enumerate" = some none)
    (z_max : PySem.W.nsIn K mainGlobals "max" = some none)
    (z_min : PySem.W.nsIn K mainGlobals "min" = some none)
    (z_tuple : PySem.W.nsIn K mainGlobals "tuple" = some none)
    (z_bool : PySem.W.nsIn K mainGlobals "bool" = some none)
    (z_any : PySem.W.nsIn K mainGlobals "any" = some none)
    (aI : PySem.W.nsIn K mainGlobals "STEP_OF" = some (some (.ref it)))
    (lI : K.lookup it = some ⟨.type "dict", none, .dict esI nI, #[]⟩)
    (kI : PySem.W.KeysLit w.params esI.toList)
    (sI : (it == sysModules) = false)
    (aC : PySem.W.nsIn K mainGlobals "CRASH" = some (some (.ref uc)))
    (e_k0 : PySem.W.nsIn K it "0" = some (some (.ref u_0)))
    (e_k1 : PySem.W.nsIn K it "1" = some (some (.ref u_1)))
    (e_k2 : PySem.W.nsIn K it "2" = some (some (.ref u_2)))
    (e_k0n : PySem.W.nsIn K it "0n" = some (some (.ref u_0n)))
    (e_k1n : PySem.W.nsIn K it "1n" = some (some (.ref u_1n)))
    (e_k2n : PySem.W.nsIn K it "2n" = some (some (.ref u_2n)))
    (e_kc : PySem.W.nsIn K it "crash" = some (some (.ref uc)))
    (t_k0 : K.lookup u_0 = some ⟨.type "tuple", dd_0, .seq it_0 n_0, so_0⟩)
    (v_k0 : it_0.size ≤ sizeLine ∧ Vals (stV 0) it_0.toList)
    (t_k1 : K.lookup u_1 = some ⟨.type "tuple", dd_1, .seq it_1 n_1, so_1⟩)
    (v_k1 : it_1.size ≤ sizeLine ∧ Vals (stV 2) it_1.toList)
    (t_k2 : K.lookup u_2 = some ⟨.type "tuple", dd_2, .seq it_2 n_2, so_2⟩)
    (v_k2 : it_2.size ≤ sizeLine ∧ Vals (stV 4) it_2.toList)
    (t_k0n : K.lookup u_0n = some ⟨.type "tuple", dd_0n, .seq it_0n n_0n, so_0n⟩)
    (v_k0n : it_0n.size ≤ sizeLine ∧ Vals (stV 1) it_0n.toList)
    (t_k1n : K.lookup u_1n = some ⟨.type "tuple", dd_1n, .seq it_1n n_1n, so_1n⟩)
    (v_k1n : it_1n.size ≤ sizeLine ∧ Vals (stV 3) it_1n.toList)
    (t_k2n : K.lookup u_2n = some ⟨.type "tuple", dd_2n, .seq it_2n n_2n, so_2n⟩)
    (v_k2n : it_2n.size ≤ sizeLine ∧ Vals (stV 5) it_2n.toList)
    (t_kc : K.lookup uc = some ⟨.type "tuple", dd_c, .seq it_c n_c, so_c⟩)
    (v_kc : it_c.size ≤ sizeLine ∧ Vals (stV 6) it_c.toList)
    : ∃ fd : FuncData, (∀ (s : Shared) (v : Value), BindsTo s fd ⟨[v], []⟩ [("_law_script", v)]) ∧ ∀ base : Heap, K.In base → base.Ns mainGlobals mg → FnOk l.prog w K mg base CX0 4 fa fd ["_law_script"] (spLaw K) := by
  have e := hfa.symm.trans (PySem.W.mg_of X G a_law)
  cases e
  have B_len := PySem.W.mg_none_of X G z_len
  have B_int := PySem.W.mg_none_of X G z_int
  have B_range := PySem.W.mg_none_of X G z_range
  have B_list := PySem.W.mg_none_of X G z_list
  have B_isinstance := PySem.W.mg_none_of X G z_isinstance
  have B_str := PySem.W.mg_none_of X G z_str
  have B_enumerate := PySem.W.mg_none_of X G z_enumerate
  have B_max := PySem.W.mg_none_of X G z_max
  have B_min := PySem.W.mg_none_of X G z_min
  have B_tuple := PySem.W.mg_none_of X G z_tuple
  have B_bool := PySem.W.mg_none_of X G z_bool
  have B_any := PySem.W.mg_none_of X G z_any
  have F_word := fun_mk (st := sWord) l_word c_word k_word
  have b_word := F_word.binds (ps := ["step"]) fun _ _ _ _ _ _ us hl => match us, hl with | [_], _ => rfl
  have m_word := PySem.W.mg_of X G a_word
  have F_write := fun_mk (st := sWrite) l_write c_write k_write
  have b_write := F_write.binds (ps := ["schedule"]) fun _ _ _ _ _ _ us hl => match us, hl with | [_], _ => rfl
  have m_write := PySem.W.mg_of X G a_write
  have F_read := fun_mk (st := sRead) l_read c_read k_read
  have b_read := F_read.binds (ps := ["text"]) fun _ _ _ _ _ _ us hl => match us, hl with | [_], _ => rfl
  have m_read := PySem.W.mg_of X G a_read
  have F_box := fun_mk (st := sBox) l_box c_box k_box
  have b_box := F_box.binds (ps := ["_law_script", "_law_k"]) fun _ _ _ _ _ _ us hl => match us, hl with | [_, _], _ => rfl
  have m_box := PySem.W.mg_of X G a_box
  have F_pick := fun_mk (st := sPick) l_pick c_pick k_pick
  have b_pick := F_pick.binds (ps := ["_law_box_here", "_law_size"]) fun _ _ _ _ _ _ us hl => match us, hl with | [_, _], _ => rfl
  have m_pick := PySem.W.mg_of X G a_pick
  have F_steps := fun_mk (st := sSteps) l_steps c_steps k_steps
  have b_steps := F_steps.binds (ps := ["_law_script", "_law_first"]) fun _ _ _ _ _ _ us hl => match us, hl with | [_, _], _ => rfl
  have m_steps := PySem.W.mg_of X G a_steps
  have F_text := fun_mk (st := sText) l_text c_text k_text
  have b_text := F_text.binds (ps := ["_law_moves"]) fun _ _ _ _ _ _ us hl => match us, hl with | [_], _ => rfl
  have m_text := PySem.W.mg_of X G a_text
  have F_same := fun_mk (st := sSame) l_same c_same k_same
  have b_same := F_same.binds (ps := ["_law_told", "_law_moves"]) fun _ _ _ _ _ _ us hl => match us, hl with | [_, _], _ => rfl
  have m_same := PySem.W.mg_of X G a_same
  have F_law := fun_mk (st := sLaw) l_law c_law k_law
  have m_law := PySem.W.mg_of X G a_law
  refine ⟨PySem.W.fnOf "law" "law" (defArgs sLaw) (defBody sLaw) (defScope sLaw) .none kV_law dc_law pm_law an_law cd_law ct_law, fun s v => .of_eq rfl, fun base _ _ => ?_⟩
  have B : Bl mg := ⟨B_len, B_int⟩
  have T : Bi mg := ⟨B_isinstance, B_int, B_str, B_enumerate, B_list⟩
  have Cc : Cr K mg uc := ⟨PySem.W.mg_of X G aC, ⟨_, _, _, t_kc, rfl, rfl, v_kc.1, v_kc.2⟩⟩
  have D : Wd7 K w mg it esI nI := ⟨PySem.W.mg_of X G aI, ⟨lI, kI, sI⟩, fun d hd => by
    have : d = 0 ∨ d = 1 ∨ d = 2 ∨ d = 3 ∨ d = 4 ∨ d = 5 ∨ d = 6 := by omega
    rcases this with rfl | rfl | rfl | rfl | rfl | rfl | rfl
    · exact ⟨_, e_k0, _, _, _, t_k0, rfl, rfl, v_k0.1, v_k0.2⟩
    · exact ⟨_, e_k0n, _, _, _, t_k0n, rfl, rfl, v_k0n.1, v_k0n.2⟩
    · exact ⟨_, e_k1, _, _, _, t_k1, rfl, rfl, v_k1.1, v_k1.2⟩
    · exact ⟨_, e_k1n, _, _, _, t_k1n, rfl, rfl, v_k1n.1, v_k1n.2⟩
    · exact ⟨_, e_k2, _, _, _, t_k2, rfl, rfl, v_k2.1, v_k2.2⟩
    · exact ⟨_, e_k2n, _, _, _, t_k2n, rfl, rfl, v_k2n.1, v_k2n.2⟩
    · exact ⟨_, e_kc, _, _, _, t_kc, rfl, rfl, v_kc.1, v_kc.2⟩⟩
  have Gwo := ok_word (P := l.prog) (w := w) (base := base) F_word T Cc
  have Gwr := ok_write F_write Gwo b_word k_word m_word
  have Gre := ok_read (P := l.prog) (base := base) F_read T D
  have Gbo := ok_box (P := l.prog) (w := w) (base := base) F_box B
  have Gpi := ok_pick (P := l.prog) (w := w) (base := base) F_pick B
  have Gst := ok_steps F_steps B B_range B_min B_max Gbo b_box k_box m_box Gpi b_pick k_pick m_pick
  have Gte := ok_text (P := l.prog) (w := w) (base := base) F_text B T
  have Gsa := ok_same (P := l.prog) (w := w) (base := base) F_same T B_tuple B_bool B_any
  exact ok_law F_law B T Gst b_steps k_steps m_steps Gte b_text k_text m_text Gsa b_same k_same m_same Gwr b_write k_write m_write Gre b_read k_read m_read
theorem walk {l : PySem.W.OpenLaw} {q : Program} {loose : List Str} {XP : (Str → Option Value) → Heap → Prop} {YP : World → Heap → Prop} {d : DefRec} {K : Params → PySem.W.Frag} (hn : l.most = some 63) (hdf : d.params.defaults = [])
    (hY : ∀ (w : World) (h : Heap), YP w h → (K w.params).In h)
    (F : ∀ (w : World) (mg : Str → Option Value) (fa : Addr) (h : Heap), (K w.params).In h → h.Ns mainGlobals mg → mg d.name = some (.ref fa) →
      ∃ fd : FuncData, (∀ (s : Shared) (u : Value), BindsTo s fd ⟨[u], []⟩ [("_law_script", u)]) ∧ ∀ base : Heap, (K w.params).In base → base.Ns mainGlobals mg → FnOk l.prog w (K w.params) mg base CX0 4 fa fd ["_law_script"] (spLaw (K w.params))) :
    PySem.W.WalkO q loose XP YP l.row.toRowW d [] (fun f vs => PySem.call f vs) :=
  L2.walk_of (n := 63) (k := 4) (x := "_law_script") (CX := fun _ => CX0) (sp := fun w => spLaw (K w.params)) hn (by decide) hdf ⟨rfl, by decide, by decide⟩ hY F (fun _ _ a ns hl _ hS => ⟨a, ns, rfl, hS, hl, fun _ => rfl⟩) fun _ _ _ _ _ z => z
end Tk
open PySem PySem.W PyProof.Rows
set_option maxRecDepth 100000 in
set_option maxHeartbeats 0 in
theorem PySem.Challenge.cw_takenahead_k77_whole_schedules_are_read_holds : PySem.Challenge.rw_takenahead_k77_whole_schedules_are_read.Holds := by
  w_on; o_law; k_head; (case hw => w_witness2)
  k_fill
  refine Tk.walk (l := PySem.Challenge.rw_takenahead_k77_whole_schedules_are_read) rfl rfl (fun w h Y => PySem.W.kIn_of Y) ?F
  case F =>
    intro w mg fa h KX G hmg
    refine' Tk.all_mk KX G hmg ?a_word ?l_word ?c_word ?k_word ?a_write ?l_write ?c_write ?k_write ?a_read ?l_read ?c_read ?k_read ?a_box ?l_box ?c_box ?k_box ?a_pick ?l_pick ?c_pick ?k_pick ?a_steps ?l_steps ?c_steps ?k_steps ?a_text ?l_text ?c_text ?k_text ?a_same ?l_same ?c_same ?k_same ?a_law ?l_law ?c_law ?k_law ?z_len ?z_int ?z_range ?z_list ?z_isinstance ?z_str ?z_enumerate ?z_max ?z_min ?z_tuple ?z_bool ?z_any ?aI ?lI ?kI ?sI ?aC ?e_k0 ?e_k1 ?e_k2 ?e_k0n ?e_k1n ?e_k2n ?e_kc ?t_k0 ?v_k0 ?t_k1 ?v_k1 ?t_k2 ?v_k2 ?t_k0n ?v_k0n ?t_k1n ?v_k1n ?t_k2n ?v_k2n ?t_kc ?v_kc
    (case a_word => k_is)
    (case l_word => k_is)
    (case c_word => k_is)
    (case k_word => k_is)
    (case a_write => k_is)
    (case l_write => k_is)
    (case c_write => k_is)
    (case k_write => k_is)
    (case a_read => k_is)
    (case l_read => k_is)
    (case c_read => k_is)
    (case k_read => k_is)
    (case a_box => k_is)
    (case l_box => k_is)
    (case c_box => k_is)
    (case k_box => k_is)
    (case a_pick => k_is)
    (case l_pick => k_is)
    (case c_pick => k_is)
    (case k_pick => k_is)
    (case a_steps => k_is)
    (case l_steps => k_is)
    (case c_steps => k_is)
    (case k_steps => k_is)
    (case a_text => k_is)
    (case l_text => k_is)
    (case c_text => k_is)
    (case k_text => k_is)
    (case a_same => k_is)
    (case l_same => k_is)
    (case c_same => k_is)
    (case k_same => k_is)
    (case a_law => k_is)
    (case l_law => k_is)
    (case c_law => k_is)
    (case k_law => k_is)
    (case z_len => k_is)
    (case z_int => k_is)
    (case z_range => k_is)
    (case z_list => k_is)
    (case z_isinstance => k_is)
    (case z_str => k_is)
    (case z_enumerate => k_is)
    (case z_max => k_is)
    (case z_min => k_is)
    (case z_tuple => k_is)
    (case z_bool => k_is)
    (case z_any => k_is)
    (case aI => k_is)
    (case lI => k_is)
    (case kI => (repeat (first | exact trivial | refine ⟨⟨_, _, rfl, rfl⟩, ?_⟩)))
    (case sI => first | rfl | decide)
    (case aC => k_is)
    (case e_k0 => k_is)
    (case e_k1 => k_is)
    (case e_k2 => k_is)
    (case e_k0n => k_is)
    (case e_k1n => k_is)
    (case e_k2n => k_is)
    (case e_kc => k_is)
    (case t_k0 => k_is)
    (case v_k0 => exact ⟨by decide, .cons ⟨_, rfl⟩ (.cons ⟨_, rfl⟩ .nil)⟩)
    (case t_k1 => k_is)
    (case v_k1 => exact ⟨by decide, .cons ⟨_, rfl⟩ (.cons ⟨_, rfl⟩ .nil)⟩)
    (case t_k2 => k_is)
    (case v_k2 => exact ⟨by decide, .cons ⟨_, rfl⟩ (.cons ⟨_, rfl⟩ .nil)⟩)
    (case t_k0n => k_is)
    (case v_k0n => exact ⟨by decide, .cons ⟨_, rfl⟩ (.cons ⟨_, rfl⟩ .nil)⟩)
    (case t_k1n => k_is)
    (case v_k1n => exact ⟨by decide, .cons ⟨_, rfl⟩ (.cons ⟨_, rfl⟩ .nil)⟩)
    (case t_k2n => k_is)
    (case v_k2n => exact ⟨by decide, .cons ⟨_, rfl⟩ (.cons ⟨_, rfl⟩ .nil)⟩)
    (case t_kc => k_is)
    (case v_kc => exact ⟨by decide, .cons ⟨_, rfl⟩ .nil⟩)
