import PyProof.Rows.All
import Wide.All
import OpenK.AllK
import Wide.FinOn
import HandS.ForMost
import HandS.TupAny
import HandS.TupLen
import HandS.TupLe
import HandS.Conv
import HandS.IsInst
import HandS.More
import HandS.OwnEq
import KE.GoesMore
import HandS.Walk
import HandS.Codes
import HandS.Exc
import HandS.MakeKwOnly
import HandS.Strs
import HandS.ExcInit
import HandS.ExcOwn
import HandS.ExcField
import HandS.ExcIs
import HandS.WordsExc
import HandS.DeepEq
import KE.KExcIs
import HandS.Star
import KE.KStar
import KE.DataCmp
import HandS.Zip
import HandS.TupMul
import PySem.Challenge.RW_takenahead_k09_system_values
set_option Elab.async false
set_option linter.all false
set_option maxRecDepth 100000
namespace Tk
open PySem L2
/-! ## heaps -/
/-- all but what stands at p is as it was -/
def Kp (p : Addr) (H H' : Hp) : Prop := ∀ b o, H b = some o → b ≠ p → H' b = some o
theorem Kp.refl (p : Addr) (H : Hp) : Kp p H H := fun _ _ e _ => e
theorem Kp.trans {p : Addr} {H H1 H2 : Hp} (a : Kp p H H1) (b : Kp p H1 H2) : Kp p H H2 := fun c o e n => b c o (a c o e n) n
theorem Kp.upd {p : Addr} {H : Hp} {o : HO} : Kp p H (L2.upd H p o) := fun c u e n => by rw [upd_ne n]; exact e
theorem Kp.new {p q : Addr} {H H' : Hp} {o : HO} (a : Kp p H H') (n : H' q = none) : Kp p H (L2.upd H' q o) := fun c u e m => by
  rw [upd_ne (ne_of_none (a c u e m) n)]; exact a c u e m
theorem Kp.of_same {p : Addr} {H H' : Hp} (a : Same H H') : Kp p H H' := fun c o e _ => a c o e
theorem same_new {H : Hp} {p : Addr} (h : H p = none) (o : HO) : Same H (L2.upd H p o) := fun b u q => by rw [upd_ne (ne_of_none q h)]; exact q
/-- the pool: three whole numbers -/
def PoolAt (H : Hp) (p : Addr) : Prop := ∃ a b c : Int, H p = some (.lst [.int a, .int b, .int c])
theorem Kp.tup {p q : Addr} {H H' : Hp} {xs : List V} {ys : List V} (k : Kp p H H') (hp : H p = some (.lst ys)) (h : H q = some (.tup xs)) : H' q = some (.tup xs) :=
  k q _ h (ne_of h hp (by intro z; cases z))
/-! ## numbers -/
theorem fmod_ok {a n : Int} (h : 0 < n) : 0 ≤ a.fmod n ∧ a.fmod n < n := ⟨Int.fmod_nonneg_of_pos a h, Int.fmod_lt_of_pos a h⟩
/-! ## texts -/
def Low (z : Str) : Prop := ∀ c ∈ z.cps.toList, 97 ≤ c ∧ c ≤ 122
def IsName (z : Str) : Prop := 1 ≤ z.length ∧ z.length ≤ 8 ∧ Low z
abbrev alpha : Str := "abcdefghijklmnopqrstuvwxyz"
theorem alpha_all : ∀ n : Fin 26, atI alpha.cps.toList ((n.val : Nat) : Int) = some (97 + n.val) := by decide +kernel
theorem alpha_at {i : Int} (h0 : 0 ≤ i) (h1 : i < 26) : ∃ c, atI alpha.cps.toList i = some c ∧ 97 ≤ c ∧ c ≤ 122 := by
  have e : i = ((i.toNat : Nat) : Int) := by omega
  have q := alpha_all ⟨i.toNat, by omega⟩
  rw [e]
  exact ⟨_, q, by simp, by simp; omega⟩
theorem low_nil : Low ("" : Str) := fun c h => by cases h
theorem low_app {x y : Str} (a : Low x) (b : Low y) : Low (x ++ y) := fun c h => by
  have h' : c ∈ (x.cps ++ y.cps).toList := h
  rw [Array.toList_append] at h'
  rcases List.mem_append.mp h' with q | q
  · exact a c q
  · exact b c q
theorem low_one {c : Nat} (h : 97 ≤ c ∧ c ≤ 122) : Low ⟨#[c]⟩ := fun d q => by
  have e : d = c := by simpa using q
  rw [e]; exact h
theorem low_cut {x : Str} (a : Low x) (lo hi : Option Int) : Low (cutS x lo hi) := fun c h => by
  have h' : c ∈ ((x.cps.toList.drop (HT.sIx x.length 0 lo)).take (HT.sIx x.length x.length hi - HT.sIx x.length 0 lo)) := by simpa [cutS] using h
  exact a c (List.mem_of_mem_drop (List.mem_of_mem_take h'))
theorem len_app (x y : Str) : (x ++ y).length = x.length + y.length := by
  show (x.cps ++ y.cps).size = _
  rw [Array.size_append]; rfl
theorem len_one (c : Nat) : (⟨#[c]⟩ : Str).length = 1 := rfl
theorem len_cut_lo (x : Str) (k : Nat) (h : k ≤ x.length) : (cutS x none (some (k : Int))).length = k := by
  have e : x.cps.toList.length = x.length := by simp [Str.length]
  show (((x.cps.toList.drop (HT.sIx x.length 0 none)).take (HT.sIx x.length x.length (some (k : Int)) - HT.sIx x.length 0 none)).toArray).size = k
  rw [HT.sIx_nat, HT.sIx_none, List.size_toArray, List.length_take, List.length_drop, e]
  omega
theorem len_cut_hi (x : Str) (k : Nat) (h : k ≤ x.length) : (cutS x (some (k : Int)) none).length = x.length - k := by
  have e : x.cps.toList.length = x.length := by simp [Str.length]
  show (((x.cps.toList.drop (HT.sIx x.length 0 (some (k : Int)))).take (HT.sIx x.length x.length none - HT.sIx x.length 0 (some (k : Int)))).toArray).size = _
  rw [HT.sIx_nat, HT.sIx_none, List.size_toArray, List.length_take, List.length_drop, e]
  omega
theorem isName_mk {b : Str} {c : Nat} {k : Int} (hb : Low b) (hl : b.length ≤ 7) (hc : 97 ≤ c ∧ c ≤ 122) (h0 : 0 ≤ k) (h1 : k ≤ b.length) :
    IsName (cutS b none (some k) ++ ⟨#[c]⟩ ++ cutS b (some k) none) := by
  obtain ⟨n, rfl⟩ : ∃ n : Nat, k = (n : Int) := ⟨k.toNat, by omega⟩
  have hn : n ≤ b.length := by omega
  refine ⟨?_, ?_, low_app (low_app (low_cut hb _ _) (low_one hc)) (low_cut hb _ _)⟩
  · rw [len_app, len_app, len_one]; omega
  · rw [len_app, len_app, len_one, len_cut_lo b n hn, len_cut_hi b n hn]; omega
/-- the list of the three names -/
def NamesAt (H : Hp) (q : Addr) : Prop := ∃ x y z : Str, H q = some (.lst [.str x, .str y, .str z]) ∧ IsName x ∧ IsName y ∧ IsName z
/-! ## statements -/
inductive Wd | take | commit | rollback | drop | leave
  deriving DecidableEq
def Wd.s : Wd → Str
  | .take => "take" | .commit => "commit" | .rollback => "rollback" | .drop => "drop" | .leave => "leave"
def Wd.held : Wd → Int → Int
  | .take, h => h + 1 | .commit, _ => 0 | .rollback, _ => 0 | .leave, _ => 0 | .drop, h => h
/-- lock (true), unlock -/
def lockS (b : Bool) : Str := if b then "lock" else "unlock"
inductive Stm
  | one (w : Wd)
  | nam (b : Bool) (n : Str)
  | ch (y n : List Stm)
mutual
def Stm.d : Stm → PyData
  | .one w => .tuple [.str w.s]
  | .nam b n => .tuple [.str (lockS b), .str n]
  | .ch y n => .tuple [.str "choose", .tuple (dAll y), .tuple (dAll n)]
def dAll : List Stm → List PyData
  | [] => []
  | s :: r => s.d :: dAll r
end
mutual
def Stm.cnt : Stm → Nat
  | .one _ => 1
  | .nam _ _ => 1
  | .ch y n => 1 + cntAll y + cntAll n
def cntAll : List Stm → Nat
  | [] => 0
  | s :: r => s.cnt + cntAll r
end
mutual
def Stm.held : Stm → Int → Int
  | .one w, h => w.held h
  | .nam _ _, h => h
  | .ch y n, h => max (heldAll y h) (heldAll n h)
def heldAll : List Stm → Int → Int
  | [], h => h
  | s :: r, h => heldAll r (s.held h)
end
mutual
/-- s is a good statement inside of d chooses, when h numbers are held -/
def Stm.ok : Nat → Stm → Int → Prop
  | _, .one w, h => w = .take → h ≠ 3
  | _, .nam _ n, _ => IsName n
  | d, .ch y n, h => d < 2 ∧ okAll (d + 1) y h ∧ okAll (d + 1) n h
def okAll : Nat → List Stm → Int → Prop
  | _, [], _ => True
  | d, s :: r, h => s.ok d h ∧ okAll d r (s.held h)
end
mutual
/-- the value v is the statement s -/
def Stm.at : Hp → V → Stm → Prop
  | H, v, .one w => ∃ a, v = .ref a ∧ H a = some (.tup [.str w.s])
  | H, v, .nam b n => ∃ a, v = .ref a ∧ H a = some (.tup [.str (lockS b), .str n])
  | H, v, .ch y n => ∃ a b c xs ys, v = .ref a ∧ H a = some (.tup [.str "choose", .ref b, .ref c]) ∧ H b = some (.tup xs) ∧ atAll H xs y ∧ H c = some (.tup ys) ∧ atAll H ys n
def atAll : Hp → List V → List Stm → Prop
  | _, xs, [] => xs = []
  | H, xs, s :: r => ∃ v vs, xs = v :: vs ∧ s.at H v ∧ atAll H vs r
end
/-- tuples stay -/
def TK (H H' : Hp) : Prop := ∀ a xs, H a = some (.tup xs) → H' a = some (.tup xs)
theorem TK.refl (H : Hp) : TK H H := fun _ _ h => h
theorem TK.trans {H H1 H2 : Hp} (a : TK H H1) (b : TK H1 H2) : TK H H2 := fun c o h => b c o (a c o h)
theorem TK.of_same {H H' : Hp} (s : Same H H') : TK H H' := fun a xs h => s a _ h
theorem Kp.tk {p : Addr} {H H' : Hp} {ys : List V} (k : Kp p H H') (hp : H p = some (.lst ys)) : TK H H' := fun a xs h => k.tup hp h
mutual
theorem Stm.at_keep {H H' : Hp} (k : TK H H') : ∀ (s : Stm) (v : V), s.at H v → s.at H' v
  | .one w, v, h => by
    unfold Stm.at at h ⊢
    obtain ⟨a, e, h⟩ := h
    exact ⟨a, e, k _ _ h⟩
  | .nam b n, v, h => by
    unfold Stm.at at h ⊢
    obtain ⟨a, e, h⟩ := h
    exact ⟨a, e, k _ _ h⟩
  | .ch y n, v, h => by
    unfold Stm.at at h ⊢
    obtain ⟨a, b, c, xs, ys, e, h1, h2, h3, h4, h5⟩ := h
    exact ⟨a, b, c, xs, ys, e, k _ _ h1, k _ _ h2, atAll_keep k y xs h3, k _ _ h4, atAll_keep k n ys h5⟩
theorem atAll_keep {H H' : Hp} (k : TK H H') : ∀ (B : List Stm) (xs : List V), atAll H xs B → atAll H' xs B
  | [], xs, h => h
  | s :: r, xs, h => by
    unfold atAll at h ⊢
    obtain ⟨v, vs, e, h1, h2⟩ := h
    exact ⟨v, vs, e, Stm.at_keep k s v h1, atAll_keep k r vs h2⟩
end
theorem atAll_len {H : Hp} : ∀ {B : List Stm} {xs : List V}, atAll H xs B → xs.length = B.length
  | [], xs, h => by unfold atAll at h; rw [h]; rfl
  | s :: r, xs, h => by
    unfold atAll at h
    obtain ⟨v, vs, e, h1, h2⟩ := h
    rw [e, List.length_cons, List.length_cons, atAll_len h2]
theorem atAll_get {H : Hp} : ∀ {B : List Stm} {xs : List V} {i : Nat} {s : Stm}, atAll H xs B → B[i]? = some s → ∃ v, xs[i]? = some v ∧ s.at H v
  | [], xs, i, s, h, e => by simp at e
  | t :: r, xs, 0, s, h, e => by
    unfold atAll at h
    obtain ⟨v, vs, e1, h1, h2⟩ := h
    have e2 : t = s := Option.some.inj e
    exact ⟨v, by rw [e1]; rfl, e2 ▸ h1⟩
  | t :: r, xs, i + 1, s, h, e => by
    unfold atAll at h
    obtain ⟨v, vs, e1, h1, h2⟩ := h
    obtain ⟨u, h3, h4⟩ := atAll_get (i := i) (s := s) h2 e
    exact ⟨u, by rw [e1]; exact h3, h4⟩
theorem atAll_app {H : Hp} : ∀ {B C : List Stm} {xs ys : List V}, atAll H xs B → atAll H ys C → atAll H (xs ++ ys) (B ++ C)
  | [], C, xs, ys, h, g => by unfold atAll at h; rw [h]; exact g
  | s :: r, C, xs, ys, h, g => by
    unfold atAll at h
    obtain ⟨v, vs, e, h1, h2⟩ := h
    rw [e]
    show atAll H (v :: (vs ++ ys)) (s :: (r ++ C))
    unfold atAll
    exact ⟨v, vs ++ ys, rfl, h1, atAll_app h2 g⟩
theorem atAll_one {H : Hp} {s : Stm} {v : V} (h : s.at H v) : atAll H [v] [s] := by
  unfold atAll
  exact ⟨v, [], rfl, h, by unfold atAll; rfl⟩
theorem atAll_drop {H : Hp} : ∀ {B : List Stm} {xs : List V} (n : Nat), atAll H xs B → atAll H (xs.drop n) (B.drop n)
  | B, xs, 0, h => h
  | [], xs, n + 1, h => by unfold atAll at h; rw [h]; rfl
  | s :: r, xs, n + 1, h => by
    unfold atAll at h
    obtain ⟨v, vs, e, h1, h2⟩ := h
    rw [e]
    exact atAll_drop n h2
theorem heldAll_app : ∀ (B C : List Stm) (h : Int), heldAll (B ++ C) h = heldAll C (heldAll B h)
  | [], C, h => rfl
  | s :: r, C, h => by
    show heldAll (s :: (r ++ C)) h = heldAll C (heldAll (s :: r) h)
    rw [heldAll, heldAll]
    exact heldAll_app r C _
theorem okAll_app : ∀ (d : Nat) (B C : List Stm) (h : Int), okAll d B h → okAll d C (heldAll B h) → okAll d (B ++ C) h
  | d, [], C, h, _, g => by rw [heldAll] at g; exact g
  | d, s :: r, C, h, f, g => by
    rw [okAll] at f
    rw [heldAll] at g
    show okAll d (s :: (r ++ C)) h
    rw [okAll]
    exact ⟨f.1, okAll_app d r C _ f.2 g⟩
theorem cntAll_app : ∀ (B C : List Stm), cntAll (B ++ C) = cntAll B + cntAll C
  | [], C => by rw [cntAll]; simp
  | s :: r, C => by
    show cntAll (s :: (r ++ C)) = _
    rw [cntAll, cntAll, cntAll_app r C]; omega
theorem cnt_pos (s : Stm) : 1 ≤ s.cnt := by
  cases s <;> rw [Stm.cnt] <;> omega
theorem len_le_cnt : ∀ (B : List Stm), B.length ≤ cntAll B
  | [] => Nat.zero_le _
  | s :: r => by
    have := cnt_pos s
    have := len_le_cnt r
    rw [cntAll, List.length_cons]; omega
/-! ## what the draws stand on: the pool p, the box b (what is left, what is held), the names q -/
def BoxAt (H : Hp) (b : Addr) (k h : Int) : Prop := H b = some (.lst [.int k, .int h, .int 3])
structure Dr (H : Hp) (p b q : Addr) (k h : Int) : Prop where
  pool : PoolAt H p
  box : BoxAt H b k h
  names : NamesAt H q
  npb : p ≠ b
  npq : p ≠ q
  nbq : b ≠ q
def K2 (p b : Addr) (H H' : Hp) : Prop := ∀ a o, H a = some o → a ≠ p → a ≠ b → H' a = some o
theorem K2.refl (p b : Addr) (H : Hp) : K2 p b H H := fun _ _ e _ _ => e
theorem K2.trans {p b : Addr} {H H1 H2 : Hp} (x : K2 p b H H1) (y : K2 p b H1 H2) : K2 p b H H2 := fun c o e n m => y c o (x c o e n m) n m
theorem Kp.k2 {p b : Addr} {H H' : Hp} (k : Kp p H H') : K2 p b H H' := fun a o e n _ => k a o e n
theorem K2.upd {p b : Addr} {H : Hp} {o : HO} : K2 p b H (L2.upd H b o) := fun a u e _ n => by rw [upd_ne n]; exact e
theorem K2.new {p b q : Addr} {H H' : Hp} {o : HO} (k : K2 p b H H') (n : H' q = none) : K2 p b H (L2.upd H' q o) := fun c u e m m' => by
  rw [upd_ne (ne_of_none (k c u e m m') n)]; exact k c u e m m'
theorem Dr.tk {H H' : Hp} {p b q : Addr} {k h : Int} (D : Dr H p b q k h) (x : K2 p b H H') : TK H H' := fun a xs e => by
  obtain ⟨_, _, _, hp⟩ := D.pool
  exact x a _ e (ne_of e hp (by intro z; cases z)) (ne_of e D.box (by intro z; cases z))
theorem Dr.draw {H H' : Hp} {p b q : Addr} {k h : Int} (D : Dr H p b q k h) (x : Kp p H H') (y : PoolAt H' p) : Dr H' p b q k h := by
  obtain ⟨a1, a2, a3, hq, n1, n2, n3⟩ := D.names
  exact ⟨y, x b _ D.box D.npb.symm, ⟨a1, a2, a3, x q _ hq D.npq.symm, n1, n2, n3⟩, D.npb, D.npq, D.nbq⟩
theorem Dr.put {H : Hp} {p b q : Addr} {k h k' h' : Int} (D : Dr H p b q k h) : Dr (L2.upd H b (.lst [.int k', .int h', .int 3])) p b q k' h' := by
  obtain ⟨a1, a2, a3, hq, n1, n2, n3⟩ := D.names
  obtain ⟨x, y, z, hp⟩ := D.pool
  exact ⟨⟨x, y, z, by rw [upd_ne D.npb]; exact hp⟩, upd_same, ⟨a1, a2, a3, by rw [upd_ne D.nbq.symm]; exact hq, n1, n2, n3⟩, D.npb, D.npq, D.nbq⟩
theorem Dr.new {H : Hp} {p b q a : Addr} {o : HO} {k h : Int} (D : Dr H p b q k h) (n : H a = none) : Dr (L2.upd H a o) p b q k h := by
  obtain ⟨a1, a2, a3, hq, n1, n2, n3⟩ := D.names
  obtain ⟨x, y, z, hp⟩ := D.pool
  exact ⟨⟨x, y, z, by rw [upd_ne (ne_of_none hp n)]; exact hp⟩, by unfold BoxAt; rw [upd_ne (ne_of_none D.box n)]; exact D.box, ⟨a1, a2, a3, by rw [upd_ne (ne_of_none hq n)]; exact hq, n1, n2, n3⟩, D.npb, D.npq, D.nbq⟩
theorem names_at {H : Hp} {q : Addr} (h : NamesAt H q) {r : Int} (r0 : 0 ≤ r) (r1 : r < 3) : ∃ xs n, H q = some (.lst xs) ∧ atI xs r = some (.str n) ∧ IsName n := by
  obtain ⟨a1, a2, a3, hq, n1, n2, n3⟩ := h
  have e : r = 0 ∨ r = 1 ∨ r = 2 := by omega
  rcases e with rfl | rfl | rfl
  · exact ⟨_, a1, hq, rfl, n1⟩
  · exact ⟨_, a2, hq, rfl, n2⟩
  · exact ⟨_, a3, hq, rfl, n3⟩
end Tk
set_option maxRecDepth 100000
namespace Tk
open PySem L2
def top (i : Nat) : Stmt := PySem.Challenge.pw_takenahead_k09_system_values.main.body.getD i (.Pass ⟨0, 0, 0, 0⟩)
abbrev sPool : Stmt := top 39
abbrev sDraw : Stmt := top 40
abbrev sNames : Stmt := top 41
abbrev sSimple : Stmt := top 999
abbrev sBranch : Stmt := top 999
abbrev sLaw : Stmt := top 50
/-- the built-in names that the program reads -/
structure Bl (mg : Str → Option Value) : Prop where
  len : mg "len" = none
  int : mg "int" = none
  max : mg "max" = none
  range : mg "range" = none
  tuple : mg "tuple" = none
def spPool (K : PySem.W.Frag) : Sp := fun vs H Q _ => ∃ (a : Addr) (ns : List Int) (k : Int), vs = [.ref a, .int k] ∧ SqL K H a (ns.map V.int) ∧ 0 ≤ k ∧
  ∀ (p : Addr) (H' : Hp), H p = none → Same H H' → PoolAt H' p → Q (.ref p) H'
def spDraw : Sp := fun vs H Q _ => ∃ (p : Addr) (n : Int), vs = [.ref p, .int n] ∧ PoolAt H p ∧ 0 < n ∧ n < 1073741824 ∧
  ∀ (r : Int) (H' : Hp), 0 ≤ r → r < n → Kp p H H' → PoolAt H' p → Q (.int r) H'
section
variable {P : Program} {w : World} {K : PySem.W.Frag} {mg : Str → Option Value} {base : Heap}
theorem scPool : FnScope ["_law_script", "_law_k", "_law_cell"] ["_law_script", "_law_k"] (defScope sPool) := ⟨rfl, rfl, rfl, by decide +kernel, rfl, by decide +kernel, by decide +kernel⟩
theorem ok_pool {f : Addr} {fd : FuncData} (F : Fun K "_law_pool" "_law_pool" sPool f fd) (B : Bl mg) : FnOk P w K mg base CX0 1 f fd ["_law_script", "_law_k"] (spPool K) := by
  refine F.ok scPool (fun vs H Q E h => ?_) (fun cdv A outer s H vs Q E hr h => ?_)
  · obtain ⟨a, ns, k, rfl, _⟩ := h
    rfl
  obtain ⟨a, ns, k, rfl, hS, h0, q⟩ := h
  refine ⟨_, pss_cons (ps_set (i := 2) scPool.nd rfl (Or.inl rfl) (pe_op op_add (pv 1) pe_int))
    (pss_cons (ps_if (pt_cmpR op_lt (pv 1) (pe_callB call_len_seq (by rfl) B.len PySem.boot_len (pa_cons (pv 0) pa_nil)) (nomark _))
      (pss_one (ps_set (i := 2) scPool.nd rfl (Or.inl rfl) (pe_callTy call_int1 (by rfl) B.int (by decide +kernel) (pa_cons (pe_ix ix_list (pv 0) (pv 1) (fun _ _ => rfl)) pa_nil)))) pss_nil)
    (pss_one (ps_ret (pe_lst (pa_cons (pe_callB (call_max2 rfl) (by rfl) B.max (by decide +kernel) (pa_cons pe_int (pa_cons (pe_op op_sub (pv 2) (pe_op op_pow pe_int pe_int)) pa_nil)))
      (pa_cons (pe_op op_modN (pe_callTy call_int1 (by rfl) B.int (by decide +kernel) (pa_cons (pv 2) pa_nil)) pe_int) (pa_cons pe_int pa_nil))))))), ?_⟩
  have fin : ∀ c : Int, ((fun (c : Int) => ∀ (l : Addr), H l = none → Q (.ref l) (L2.upd H l (.lst [.int (if c - 10 ^ (18 : Int).toNat > 0 then c - 10 ^ (18 : Int).toNat else 0), .int (c.fmod 2147483647), .int 0]))) c) := by
    intro c l hl
    exact q l _ hl (same_new hl _) ⟨_, _, _, upd_same⟩
  refine ⟨_, rfl, _, _, rfl, rfl, ?_⟩
  refine ⟨_, rfl, _, rfl, a, _, rfl, .inl hS, _, _, rfl, rfl, _, rfl, ?_⟩
  have tail : ∀ c : Int, _ := fun c => fin c
  refine ite2 (fun c => ?_) (fun c => ?_)
  · have c' : k < (((ns.map V.int).length : Nat) : Int) := of_decide_eq_true c
    rw [List.length_map] at c'
    have hk : k.toNat < ns.length := by omega
    have ek : k = ((k.toNat : Nat) : Int) := by omega
    have q1 : atI (ns.map V.int) ((k.toNat : Nat) : Int) = some (.int ns[k.toNat]) := atI_nat (by rw [List.getElem?_map, List.getElem?_eq_getElem hk] <;> rfl)
    rw [← ek] at q1
    refine ⟨_, rfl, _, rfl, a, _, _, _, rfl, rfl, hS, q1, .inl ⟨_, rfl, ?_⟩⟩
    refine ⟨_, rfl, _, _, rfl, rfl, ⟨by decide, by decide, by decide⟩, _, _, rfl, rfl, _, _, rfl, _, rfl, .inl ⟨_, rfl, _, _, rfl, rfl, (by show (2147483647:Int) ≠ 0; decide), ?_⟩⟩
    exact ⟨by show 3 ≤ sizeLine; decide, fun l hl => fin _ l hl⟩
  · refine ⟨_, rfl, _, _, rfl, rfl, ⟨by decide, by decide, by decide⟩, _, _, rfl, rfl, _, _, rfl, _, rfl, .inl ⟨_, rfl, _, _, rfl, rfl, (by show (2147483647:Int) ≠ 0; decide), ?_⟩⟩
    exact ⟨by show 3 ≤ sizeLine; decide, fun l hl => fin _ l hl⟩
theorem scDraw : FnScope ["_law_pool_here", "_law_amount", "_law_digit", "_law_number"] ["_law_pool_here", "_law_amount"] (defScope sDraw) := ⟨rfl, rfl, rfl, by decide +kernel, rfl, by decide +kernel, by decide +kernel⟩
theorem ok_draw {f : Addr} {fd : FuncData} (F : Fun K "_law_draw" "_law_draw" sDraw f fd) (B : Bl mg) : FnOk P w K mg base CX0 1 f fd ["_law_pool_here", "_law_amount"] spDraw := by
  refine F.ok scDraw (fun vs H Q E h => ?_) (fun cdv A outer s H vs Q E hr h => ?_)
  · obtain ⟨p, n, rfl, _⟩ := h
    rfl
  obtain ⟨p, n, rfl, ⟨a, b, c0, hp⟩, n0, n1, q⟩ := h
  refine ⟨_, pss_cons (ps_if (pt_cmpR op_gt (pe_ix ix_list (pv 0) pe_int (fun _ _ => rfl)) pe_int (nomark _))
      (pss_cons (ps_set (i := 2) scDraw.nd rfl (Or.inl rfl) (pe_op op_modN (pe_callTy call_int1 (by rfl) B.int (by decide +kernel) (pa_cons (pe_ix ix_list (pv 0) pe_int (fun _ _ => rfl)) pa_nil)) (pv 1)))
      (pss_cons (ps_asg (pe_op op_fdivN (pe_ix ix_list (pv 0) pe_int (fun _ _ => rfl)) (pv 1)) (pg_sub (pv 0) pe_int set_list))
      (pss_one (ps_ret (pv 2))))) pss_nil)
    (pss_cons (ps_asg (pe_op op_add (pe_ix ix_list (pv 0) pe_int (fun _ _ => rfl)) pe_int) (pg_sub (pv 0) pe_int set_list))
    (pss_cons (ps_set (i := 3) scDraw.nd rfl (Or.inl rfl) (pe_op op_modN (pe_callTy call_int1 (by rfl) B.int (by decide +kernel) (pa_cons
        (pe_op op_mul (pe_op op_add (pe_op op_add (pe_ix ix_list (pv 0) pe_int (fun _ _ => rfl)) (pe_op op_mul pe_int (pe_ix ix_list (pv 0) pe_int (fun _ _ => rfl)))) pe_int) pe_int) pa_nil)) pe_int))
    (pss_cons (ps_set (i := 3) scDraw.nd rfl (Or.inl rfl) (pe_op op_modN (pe_callTy call_int1 (by rfl) B.int (by decide +kernel) (pa_cons
        (pe_op op_mul (pv 3) (pe_op op_add (pe_op op_fdivN (pv 3) pe_int) pe_int)) pa_nil)) pe_int))
    (pss_cons (ps_set (i := 3) scDraw.nd rfl (Or.inl rfl) (pe_op op_modN (pe_callTy call_int1 (by rfl) B.int (by decide +kernel) (pa_cons
        (pe_op op_mul (pv 3) (pe_op op_add (pe_op op_fdivN (pv 3) pe_int) pe_int)) pa_nil)) pe_int))
    (pss_one (ps_ret (pe_op op_modN (pe_callTy call_int1 (by rfl) B.int (by decide +kernel) (pa_cons (pv 3) pa_nil)) (pv 1)))))))), ?_⟩
  refine ⟨_, rfl, p, _, _, _, rfl, rfl, SqL.of hp, rfl, _, _, rfl, rfl, _, rfl, ?_⟩
  refine ite2 (fun c => ?_) (fun c => ?_)
  · refine ⟨_, rfl, p, _, _, _, rfl, rfl, SqL.of hp, rfl, .inl ⟨_, rfl, _, rfl, _, _, rfl, rfl, by omega, ?_⟩⟩
    refine ⟨_, rfl, p, _, _, _, rfl, rfl, SqL.of hp, rfl, _, rfl, _, _, rfl, rfl, ⟨by omega, by omega⟩, _, rfl, p, _, _, _, rfl, rfl, hp, rfl, ?_⟩
    exact ⟨_, rfl, q _ _ (fmod_ok n0).1 (fmod_ok n0).2 Kp.upd ⟨_, _, _, upd_same⟩⟩
  · refine ⟨_, rfl, p, _, _, _, rfl, rfl, SqL.of hp, rfl, _, _, rfl, rfl, _, rfl, p, _, _, _, rfl, rfl, hp, rfl, ?_⟩
    refine ⟨_, rfl, p, _, _, _, rfl, rfl, SqL.of upd_same, rfl, _, rfl, p, _, _, _, rfl, rfl, SqL.of upd_same, rfl, _, _, rfl, rfl, .inl ⟨by decide, by decide⟩, _, _, rfl, rfl, _, _, rfl, rfl,
      _, _, rfl, rfl, .inr ⟨by decide, by decide⟩, .inl ⟨_, rfl, _, _, rfl, rfl, (by show (2147483647:Int) ≠ 0; decide), ?_⟩⟩
    have r1 := fmod_ok (a := (b + 7919 * (c0 + 1) + 1) * 48271) (n := 2147483647) (by decide)
    refine ⟨_, rfl, _, rfl, _, _, rfl, rfl, ⟨by decide, by decide⟩, _, _, rfl, rfl, _, _, rfl, rfl, .inl ⟨by omega, by omega⟩, .inl ⟨_, rfl, _, _, rfl, rfl, (by show (2147483647:Int) ≠ 0; decide), ?_⟩⟩
    have r2 := fmod_ok (a := (((b + 7919 * (c0 + 1) + 1) * 48271).fmod 2147483647) * ((((b + 7919 * (c0 + 1) + 1) * 48271).fmod 2147483647).fdiv 1009 + 69621)) (n := 2147483647) (by decide)
    refine ⟨_, rfl, _, rfl, _, _, rfl, rfl, ⟨by decide, by decide⟩, _, _, rfl, rfl, _, _, rfl, rfl, .inl ⟨by omega, by omega⟩, .inl ⟨_, rfl, _, _, rfl, rfl, (by show (2147483399:Int) ≠ 0; decide), ?_⟩⟩
    refine ⟨_, rfl, .inl ⟨_, rfl, _, rfl, _, _, rfl, rfl, by omega, ?_⟩⟩
    exact q _ _ (fmod_ok n0).1 (fmod_ok n0).2 Kp.upd ⟨_, _, _, upd_same⟩
/-- three names that differ -/
def N3At (H : Hp) (q : Addr) : Prop := ∃ x y z : Str, H q = some (.lst [.str x, .str y, .str z]) ∧ IsName x ∧ IsName y ∧ IsName z ∧ x ≠ y ∧ x ≠ z ∧ y ≠ z
theorem N3At.na {H : Hp} {q : Addr} (h : N3At H q) : NamesAt H q := by
  obtain ⟨x, y, z, a, b, c, d, _⟩ := h
  exact ⟨x, y, z, a, b, c, d⟩
theorem alpha_num : ∀ n : Fin 26, atI alpha.cps.toList ((n.val : Nat) : Int) = some (97 + n.val) := alpha_all
def nmk (b : Str) (k n : Int) : Str := cutS b none (some k) ++ ⟨#[97 + n.toNat]⟩ ++ cutS b (some k) none
theorem nmk_inj {b : Str} {k n m : Int} (n0 : 0 ≤ n) (m0 : 0 ≤ m) (h : nmk b k n = nmk b k m) : n = m := by
  have e := congrArg (fun s : Str => s.cps.toList) h
  have e2 : ∀ i : Int, (nmk b k i).cps.toList = (cutS b none (some k)).cps.toList ++ [97 + i.toNat] ++ (cutS b (some k) none).cps.toList := fun i => by
    show (((cutS b none (some k)).cps ++ #[97 + i.toNat]) ++ (cutS b (some k) none).cps).toList = _
    simp
  simp only [e2] at e
  have e3 := List.append_cancel_left (List.append_cancel_right e)
  injection e3 with e3
  omega
/-- a list of texts that are names -/
def spNames : Sp := fun vs H Q _ => ∃ p : Addr, vs = [.ref p] ∧ PoolAt H p ∧ ∀ (q : Addr) (H' : Hp), H q = none → Kp p H H' → PoolAt H' p → N3At H' q → Q (.ref q) H'
theorem scNames : FnScope ["_law_pool_here", "_law_letters", "_law_base", "_law_k", "_law_at", "_law_first", "_law_signs", "_law_sign"] ["_law_pool_here"] (defScope sNames) := ⟨rfl, rfl, rfl, by decide +kernel, rfl, by decide +kernel, by decide +kernel⟩
theorem ok_names {f fD : Addr} {fd fdD : FuncData} (F : Fun K "_law_names" "_law_names" sNames f fd) (B : Bl mg) (GD : FnOk P w K mg base CX0 1 fD fdD ["_law_pool_here", "_law_amount"] spDraw) (bD : Binds K fdD ["_law_pool_here", "_law_amount"] []) (kD : PySem.W.keepIn K (.ref fD) = true) (mD : mg "_law_draw" = some (.ref fD)) :
    FnOk P w K mg base CX0 2 f fd ["_law_pool_here"] spNames := by
  refine F.ok scNames (fun vs H Q E h => ?_) (fun cdv A outer s H vs Q E hr h => ?_)
  · obtain ⟨p, rfl, _⟩ := h
    rfl
  obtain ⟨p, rfl, hp, q⟩ := h
  refine ⟨_, pss_cons (ps_set (i := 1) scNames.nd rfl (Or.inr rfl) pe_str)
    (pss_cons (ps_set (i := 2) scNames.nd rfl (Or.inr rfl) pe_str)
    (pss_cons (ps_for PassesOwn.never rfl (pi_range1 rfl B.range (pa_cons (pe_call GD hr rfl mD kD bD .nil pass0 (pa_cons (pv 0) (pa_cons pe_int pa_nil))) pa_nil)) (pg_name (i := 3) scNames.nd rfl (Or.inl rfl))
      (pss_one (ps_set (i := 2) scNames.nd rfl (Or.inr rfl) (pe_op op_add_str (pv 2) (pe_ix ix_str (pv 1) (pe_call GD hr rfl mD kD bD .nil pass0 (pa_cons (pv 0) (pa_cons pe_int pa_nil))) (fun _ _ => rfl))))))
    (pss_cons (ps_set (i := 4) scNames.nd rfl (Or.inr rfl) (pe_call GD hr rfl mD kD bD .nil pass0 (pa_cons (pv 0) (pa_cons (pe_op op_add (pe_callB call_len_str (by rfl) B.len PySem.boot_len (pa_cons (pv 2) pa_nil)) pe_int) pa_nil))))
    (pss_cons (ps_set (i := 5) scNames.nd rfl (Or.inl rfl) (pe_call GD hr rfl mD kD bD .nil pass0 (pa_cons (pv 0) (pa_cons pe_int pa_nil))))
    (pss_cons (ps_set (i := 6) scNames.nd rfl (Or.inl rfl) (pe_lst (pa_cons (pv 5)
      (pa_cons (pe_op op_modN (pe_callTy call_int1 (by rfl) B.int (by decide +kernel) (pa_cons (pe_op op_add (pe_op op_add (pv 5) pe_int) (pe_call GD hr rfl mD kD bD .nil pass0 (pa_cons (pv 0) (pa_cons pe_int pa_nil)))) pa_nil)) pe_int)
      (pa_cons (pe_op op_modN (pe_callTy call_int1 (by rfl) B.int (by decide +kernel) (pa_cons (pe_op op_add (pe_op op_add (pv 5) pe_int) (pe_call GD hr rfl mD kD bD .nil pass0 (pa_cons (pv 0) (pa_cons pe_int pa_nil)))) pa_nil)) pe_int) pa_nil)))))
    (pss_one (ps_ret (pe_lc (own := [("_law_sign", 7)]) (g := gName 7) (tt := tYes) rfl scNames.nd (pi_list (pv 6)) (blkOk_by (own := [("_law_sign", 7)]) (N := ["_law_pool_here", "_law_letters", "_law_base", "_law_k", "_law_at", "_law_first", "_law_signs", "_law_sign"]) (sc := defScope sNames) (by decide +kernel))
      (fun _ _ _ _ _ => pg_name (i := 7) scNames.nd rfl (Or.inl rfl)) (fun _ _ _ _ _ => pts_nil)
      (fun _ _ _ _ _ => pe_op op_add_str (pe_op op_add_str (pe_slice sl_str (pv 2) po_none (po_some (pv 4))) (pe_ix ix_str (pv 1) (pv 7) (fun _ _ => rfl))) (pe_slice sl_str (pv 2) (po_some (pv 4)) po_none)))))))))), ?_⟩
  refine ⟨_, rfl, p, 8, rfl, hp, by decide, by decide, fun r H1 r0 r1 k1 hp1 => ⟨r, rfl, by omega, by omega, ?_⟩⟩
  refine for_range (lo := 0) (n := r.toNat) (fun i σ H2 => ∃ (b : Str) (v : Option V), σ = [some (.ref p), some (.str alpha), some (.str b), v, none, none, none, none] ∧ Low b ∧ b.length = i ∧ Kp p H H2 ∧ PoolAt H2 p) ⟨_, _, rfl, low_nil, rfl, k1, hp1⟩ ?_ ?_
  · rintro i σ H2 hi ⟨b, v, rfl, hb, hl, k2, hp2⟩
    refine ⟨_, rfl, _, rfl, _, rfl, p, 26, rfl, hp2, by decide, by decide, fun r2 H3 r20 r21 k3 hp3 => ?_⟩
    obtain ⟨c, hc, hc2⟩ := alpha_at r20 r21
    refine ⟨_, _, c, rfl, rfl, (by show 26 ≤ sizeLine; decide), hc, _, _, rfl, rfl, ?_, ?_⟩
    · show b.length + 1 ≤ sizeLine
      exact Nat.le_of_lt (small1000 (by omega))
    · refine ⟨_, _, rfl, low_app hb (low_one hc2), ?_, k2.trans k3, hp3⟩
      rw [len_app, len_one, hl]
  · rintro σ H2 ⟨b, v, rfl, hb, hl, k2, hp2⟩
    have hl7 : b.length ≤ 7 := by omega
    have hsz : b.length ≤ sizeLine := Nat.le_of_lt (small1000 (by omega))
    refine ⟨_, rfl, _, rfl, _, rfl, hsz, _, _, rfl, rfl, p, _, rfl, hp2, by omega, by omega, fun at_ H3 a0 a1 k3 hp3 => ?_⟩
    refine ⟨_, rfl, p, 26, rfl, hp3, by decide, by decide, fun f1 H4 f0 f1' k4 hp4 => ?_⟩
    refine ⟨_, rfl, _, rfl, _, _, rfl, rfl, _, rfl, p, 12, rfl, hp4, by decide, by decide, fun d1 H5 d0 d1' k5 hp5 => ?_⟩
    refine ⟨_, _, rfl, rfl, .inl ⟨_, rfl, _, _, rfl, rfl, (by show (26:Int) ≠ 0; decide), ?_⟩⟩
    refine ⟨_, rfl, _, _, rfl, rfl, _, rfl, p, 12, rfl, hp5, by decide, by decide, fun d2 H6 d20 d21 k6 hp6 => ?_⟩
    refine ⟨_, _, rfl, rfl, .inl ⟨_, rfl, _, _, rfl, rfl, (by show (26:Int) ≠ 0; decide), ?_⟩⟩
    refine ⟨(by show 3 ≤ sizeLine; decide), fun l hl0 => ?_⟩
    have s1 : ∀ n : Int, 0 ≤ n.fmod 26 ∧ n.fmod 26 < 26 := fun n => fmod_ok (by decide)
    have kAll : Kp p H H6 := ((((k2.trans k3).trans k4).trans k5).trans k6)
    have hpl : H6 p ≠ none := by obtain ⟨_, _, _, z⟩ := hp6; rw [z]; intro z'; cases z'
    have npl : p ≠ l := fun z => hpl (z ▸ hl0)
    refine ⟨_, rfl, l, rfl, ⟨_, SqL.of upd_same⟩, fun D hD => ?_⟩
    have nDl : l ≠ D := ne_of_none upd_same hD
    have hD6 : H6 D = none := by rw [upd_ne nDl.symm] at hD; exact hD
    have npD : p ≠ D := fun z => hpl (z ▸ hD6)
    have hD0 : H D = none := by
      cases e : H D with
      | none => rfl
      | some o =>
        have z := kAll D o e npD.symm
        rw [hD6] at z; cases z
    refine lc_list (K := K) (a := l) (xs := [.int f1, .int ((f1 + 1 + d1).fmod 26), .int ((f1 + 14 + d2).fmod 26)]) (fun i H7 => ∃ acc : List V, H7 D = some (.lst acc) ∧ acc.length = i ∧ (∀ v ∈ acc, ∃ z, v = V.str z ∧ IsName z) ∧ acc = (([f1, (f1 + 1 + d1).fmod 26, (f1 + 14 + d2).fmod 26] : List Int).take i).map (fun n => V.str (nmk b at_ n)) ∧
      H7 l = some (.lst [.int f1, .int ((f1 + 1 + d1).fmod 26), .int ((f1 + 14 + d2).fmod 26)]) ∧ Kp p H H7 ∧ PoolAt H7 p) ?_ ?_ ?_ ?_
    · refine ⟨[], upd_same, rfl, fun v hv => (nomatch hv), rfl, by rw [upd_ne nDl]; exact upd_same, (kAll.new hl0).new hD, ?_⟩
      obtain ⟨a, b', c, z⟩ := hp6
      exact ⟨a, b', c, by rw [upd_ne npD, upd_ne npl]; exact z⟩
    · rintro i H7 hi ⟨acc, h1, h2, h3, _, h4, h5, h6⟩
      exact SqL.of h4
    · rintro i x H7 hx ⟨acc, h1, h2, h3, hacc, h4, h5, h6⟩
      have hi3 : i < 3 := (List.getElem?_eq_some_iff.mp hx).1
      obtain ⟨n, rfl, n0, n1⟩ : ∃ n, x = V.int n ∧ 0 ≤ n ∧ n < 26 := by
        have hm := List.mem_of_getElem? hx
        simp only [List.mem_cons, List.not_mem_nil, or_false] at hm
        rcases hm with e | e | e
        · exact ⟨_, e, f0, f1'⟩
        · exact ⟨_, e, s1 _⟩
        · exact ⟨_, e, s1 _⟩
      have hxi : ([f1, (f1 + 1 + d1).fmod 26, (f1 + 14 + d2).fmod 26] : List Int)[i]? = some n := by
        match i, hi3, hx with
        | 0, _, h => injection h with h; injection h with h; rw [← h]; rfl
        | 1, _, h => injection h with h; injection h with h; rw [← h]; rfl
        | 2, _, h => injection h with h; injection h with h; rw [← h]; rfl
      obtain ⟨c, ec, hc, hc2⟩ : ∃ c, c = 97 + n.toNat ∧ atI alpha.cps.toList n = some c ∧ 97 ≤ c ∧ c ≤ 122 := by
        obtain ⟨k, rfl⟩ : ∃ k : Nat, n = (k : Int) := ⟨n.toNat, by omega⟩
        refine ⟨97 + k, by simp, alpha_num ⟨k, by omega⟩, by omega, by omega⟩
      have hnm := isName_mk (k := at_) hb hl7 hc2 a0 (by omega)
      refine ⟨rfl, ?_⟩
      unfold tYes
      dsimp only
      rw [if_pos rfl]
      refine ⟨_, rfl, _, rfl, _, rfl, _, rfl, hsz, _, rfl, _, rfl, _, _, c, rfl, rfl, (by show 26 ≤ sizeLine; decide), hc, _, _, rfl, rfl, ?_, ?_⟩
      · have z := hnm.2.1
        rw [len_app, len_app] at z
        exact Nat.le_of_lt (small1000 (by omega))
      refine ⟨_, rfl, _, rfl, _, rfl, _, rfl, hsz, _, _, rfl, rfl, ?_, acc, h1, ?_, ?_⟩
      · have z := hnm.2.1
        rw [len_app] at z
        exact Nat.le_of_lt (small1000 (by omega))
      · rw [h2]; exact small1000 (by omega)
      · refine ⟨_, upd_same, by rw [List.length_append, h2]; rfl, fun v hv => ?_, ?_, by rw [upd_ne nDl]; exact h4, ?_, ?_⟩
        · rcases List.mem_append.mp hv with z | z
          · exact h3 v z
          · have e : v = _ := List.mem_singleton.mp z
            exact ⟨_, e, hnm⟩
        · rw [List.take_add_one, hxi, hacc, List.map_append]
          show _ = _ ++ [V.str (nmk b at_ n)]
          rw [ec]; rfl
        · intro b' o e hne
          rw [upd_ne (ne_of_none e hD0)]
          exact h5 b' o e hne
        · obtain ⟨a, b', c', z⟩ := h6
          exact ⟨a, b', c', by rw [upd_ne npD]; exact z⟩
    · rintro H7 ⟨acc, h1, h2, h3, hacc, h4, h5, h6⟩
      refine q D H7 hD0 h5 h6 ?_
      match acc, h2, h3 with
      | [u, v, t], _, h3 =>
        obtain ⟨x, rfl, hx⟩ := h3 u (by simp)
        obtain ⟨y, rfl, hy⟩ := h3 v (by simp)
        obtain ⟨z, rfl, hz⟩ := h3 t (by simp)
        injection hacc with a1 hacc
        injection hacc with a2 hacc
        injection hacc with a3 _
        injection a1 with a1
        injection a2 with a2
        injection a3 with a3
        have m1 := Int.fmod_eq_emod_of_nonneg (f1 + 1 + d1) (show (0:Int) ≤ 26 by decide)
        have m2 := Int.fmod_eq_emod_of_nonneg (f1 + 14 + d2) (show (0:Int) ≤ 26 by decide)
        have g1 := s1 (f1 + 1 + d1)
        have g2 := s1 (f1 + 14 + d2)
        refine ⟨x, y, z, h1, hx, hy, hz, fun e => ?_, fun e => ?_, fun e => ?_⟩
        · rw [a1, a2] at e
          have := nmk_inj f0 g1.1 e
          omega
        · rw [a1, a3] at e
          have := nmk_inj f0 g2.1 e
          omega
        · rw [a2, a3] at e
          have := nmk_inj g1.1 g2.1 e
          omega
theorem max_if (a b : Int) : (if b > a then b else a) = max a b := by
  by_cases h : b > a
  · rw [if_pos h]; omega
  · rw [if_neg h]; omega
theorem heldAll_snoc (S : List Stm) (s : Stm) (h : Int) : heldAll (S ++ [s]) h = s.held (heldAll S h) := by
  rw [heldAll_app, heldAll, heldAll]
theorem cntAll_snoc (S : List Stm) (s : Stm) : cntAll (S ++ [s]) = cntAll S + s.cnt := by
  rw [cntAll_app, cntAll, cntAll]; rfl
theorem okAll_snoc {d : Nat} {S : List Stm} {s : Stm} {h : Int} (a : okAll d S h) (b : s.ok d (heldAll S h)) : okAll d (S ++ [s]) h := by
  refine okAll_app d S [s] h a ?_
  rw [okAll, okAll]
  exact ⟨b, trivial⟩
end
end Tk
set_option maxRecDepth 100000
/-! Own rules: enumerate over a tuple; .get of a written dict; o[i], x in o, len(o) by the text's own methods. -/
namespace PySem
section
variable {prog : Program} {w : World} {A : Around} {E : Value → Shared → Prop} {s : Shared}
abbrev tkE (j : Addr) : Obj := { cls := .type "enumerate", data := .fields #[.none, .bool false, .ref j, rawInt 0, .none, .none] }
theorem tk_new {v : Value} {o : Obj} {T : Heap → Prop} (B : Begins v o T) :
    Meets (Builtin.«enumerate.__new__» ⟨[.type "enumerate", v], []⟩) (fun _ R s => T s.heap ∧ R (.ok (.ret (.ref (s.heap.push o).objs.size))) { s with heap := (s.heap.push o).push (tkE s.heap.objs.size) }) :=
  .of_wp fun prog w A R s h => by
    obtain ⟨hp, g, d, tk, os⟩ := s
    obtain ⟨h1, h⟩ := h
    have hz := sub_enumerate
    have it1 : ∀ {A' : Around} {E' : Value → Shared → Prop} {Q' : Value → Shared → Prop}, Q' (.ref hp.objs.size) ⟨hp.push o, g, d, tk, os⟩ → wpAny (model prog w) A' (pyIter v) Q' E' ⟨hp, g, d, tk, os⟩ := fun z => B.iter prog w _ _ ⟨hp, g, d, tk, os⟩ _ h1 z
    wp_walk using it1
    refine wpAny_stack_any fun _ => wpAny_pure ?_
    split
    · rename_i c _ _ _ _ _
      cases (c == Value.type "enumerate") <;> (wp_walk using it1; exact ⟨_, rfl, h⟩)
    · wp_walk using it1
      exact ⟨_, rfl, h⟩
theorem tk_enum {v : Value} {o : Obj} {T : Heap → Prop} {Q : Value → Shared → Prop} (B : Begins v o T) (h1 : T s.heap)
    (h : ∀ h', IsEnum h' (s.heap.objs.size + 1) s.heap.objs.size 0 .none → h'.get? s.heap.objs.size = some o → (∀ b u, s.heap.get? b = some u → h'.get? b = some u) → Q (.ref (s.heap.objs.size + 1)) { s with heap := h' }) :
    wpAny (model prog w) A (call (.type "enumerate") [v]) Q E s := by
  have z1 : (s.heap.push o).objs.size = s.heap.objs.size + 1 := Heap.size_push ..
  refine callType_new F.called_enumerate (by decide) (F.typeCall_enumerate_1 _) (F.newCall_enumerate_1 _) (fun obj => F.args_object_init_2 obj _) F.entry_enumerate_new (tk_new B) (And.intro h1 ?_)
  show _ ∧ _
  rw [z1]
  have q : ((s.heap.push o).push (tkE s.heap.objs.size)).get? (s.heap.push o).objs.size = some (tkE s.heap.objs.size) := Heap.get?_push_size _ rfl
  rw [z1] at q
  exact And.intro ⟨_, q, rfl⟩ (h _ q (Heap.get?_push_of_some _ (Heap.get?_push_size _ B.free)) fun b u y => Heap.get?_push_of_some _ (Heap.get?_push_of_some _ y))
end
end PySem
namespace L2
open PySem PySem.Spec PyProof.Rows
/-- the tuple at a, each item in a new pair with its number -/
def IteT (K : PySem.W.Frag) (a : Addr) : It where
  go := fun i H => ∃ (xs : List V) (x : V), SqT K H a xs ∧ xs[i]? = some x
  yld := fun i H v H' => ∃ T x, v = .ref T ∧ H T = none ∧ H' = upd H T (.tup [.int (i : Nat), x]) ∧ ∀ xs, SqT K H a xs → xs[i]? = some x
  stop := fun i H => ∃ xs : List V, SqT K H a xs ∧ xs.length = i
theorem tk_turn {P : Program} {w : World} {K : PySem.W.Frag} {elts : List Expr} {kk : Nat} {tp : Pos} (a e j : Addr) (n1 : a ≠ j) (n2 : e ≠ a) (n3 : e ≠ j) :
    Turn P w K (.Tuple elts kk tp) (IteT K a) [e, j] e (fun i h => (∃ old, IsEnum h e j ((i : Nat) : Int) old) ∧ h.IsTupleIter j a i) := by
  have two : ∀ b, b ∈ [e, j] → b = e ∨ b = j := fun b hb => by simpa using hb
  refine { mem := by simp, obj := ?_, keep := ?_, item := ?_, done := ?_, self := fun A i s Q E st h => wpAny_pyIter_enum st.1.choose_spec h }
  · intro i h st b hb
    obtain ⟨⟨old, he⟩, ⟨o, ho, _, hd⟩⟩ := st
    rcases two b hb with rfl | rfl
    · exact ⟨_, he, fun v q => nomatch q⟩
    · exact ⟨o, ho, fun v q => by rw [hd] at q; cases q⟩
  · intro i h h' st k
    obtain ⟨⟨old, he⟩, hi⟩ := st
    exact ⟨⟨old, k e (by simp) _ he⟩, hi.at fun o q => k j (by simp) o q⟩
  · intro X hP hw hK hc i pins s σ H E I hf st hg
    subst hP hw hK
    obtain ⟨⟨old, he⟩, hj⟩ := st
    obtain ⟨xs, x, hq, hx⟩ := hg
    obtain ⟨its, rv, p, hz⟩ := I.tuple hq
    obtain ⟨u, hu, ru⟩ := rv.get hx
    have szE : e < s.heap.objs.size := Heap.lt_size he
    have szJ : j < s.heap.objs.size := by obtain ⟨_, q, _⟩ := hj; exact Heap.lt_size q
    have hu2 : its.toArray[i]? = some u := by simpa using hu
    have hlt : i < its.toArray.size := by
      rcases Nat.lt_or_ge i its.toArray.size with z | z
      · exact z
      · rw [Array.getElem?_eq_none z] at hu2; cases hu2
    refine wpAny_pyNext_enum_itemD (Draws.tuple (show X.A.in1.handled = none from I.ok.hd hc) j a n1 its.toArray) he ⟨hj, p⟩ hlt n3 (fun z => by
      rcases List.mem_cons.mp z with z | z
      · exact n3 z
      · exact n2 (by simpa using z)) (fun y h' tk py ho st' hT hsz hk => ?_)
    have ey : y = u := Option.some.inj (py.symm.trans hu2)
    subst ey
    refine ⟨_, rfl, wpAny_letOwnedTupleGo_enum (s := { s with heap := h', toks := tk + 1 }) ho fun h'' he' sb => ?_⟩
    have gT : h''.get? s.heap.objs.size = some { cls := .type "tuple", data := .seq #[.int i tk, y] } := (sb.2 _ (Nat.ne_of_gt szE)).trans hT
    have nw : ObjOk X.prog X.w (upd H s.heap.objs.size (.tup [.int (i : Nat), x])) h'' s.heap.objs.size (.tup [.int (i : Nat), x]) :=
      ⟨by show 2 ≤ sizeLine; decide, [.int i tk, y], .cons ⟨_, rfl⟩ (.cons ru .nil), _, gT, rfl, _, rfl⟩
    have I1 : Inv X pins σ (upd H s.heap.objs.size (.tup [.int (i : Nat), x])) { s with heap := h'', toks := tk + 1 } :=
      I.turnedNew (ch := [e, j]) (fun b ob hb q => (sb.2 b fun z => hb (by simp [z])).trans (hk b ob (fun z => hb (by simp [z])) (fun z => hb (by simp [z])) q)) hf (Nat.le_refl _) nw
    refine ⟨.ref s.heap.objs.size, _, I1, rfl, ⟨_, x, rfl, I.hok.fresh (Nat.le_refl _), rfl, fun ys hy => by rw [I.tuple_inj hy hq]; exact hx⟩, ⟨⟨y, ?_⟩, st'.1.at fun o q => (sb.2 j n3.symm).trans q⟩, fun b hb => ?_⟩
    · have e1 : (i : Int) + 1 = ((i + 1 : Nat) : Int) := by omega
      rw [← e1]
      exact he'
    · have lb : b < s.heap.objs.size := by
        rcases two b hb with rfl | rfl
        · exact szE
        · exact szJ
      rw [upd_ne (Nat.ne_of_lt lb)]
      exact (hf b hb).1
  · intro X hP hw hK hc i pins s σ H E I hf st hg
    subst hP hw hK
    obtain ⟨⟨old, he⟩, hj⟩ := st
    obtain ⟨xs, hq, hx⟩ := hg
    obtain ⟨its, rv, p, hz⟩ := I.tuple hq
    obtain ⟨f0, f1, f2, f3, f4, f5⟩ := hf j (by simp)
    have hl : i = its.toArray.size := by rw [List.size_toArray, ← rv.length]; exact hx.symm
    subst hl
    exact wpAny_pyNext_enum_endD (Draws.tuple (show X.A.in1.handled = none from I.ok.hd hc) j a n1 its.toArray) he ⟨hj, p⟩ fun h' eb => ⟨rfl, I.turned (t' := s.toks) (fun b o hb q => eb b o hb q) f0 f1 f3 f4 f5⟩
/-- for i, x in enumerate(t), t a tuple -/
def iEnumT (K : PySem.W.Frag) (ta : TA) : TI := fun σ H R => ta σ H fun vs H1 => ∃ a xs, vs = [.ref a] ∧ SqT K H1 a xs ∧ R (IteT K a) H1
theorem pi_enumT {X : Cx} {e : Expr} {ta : TA} {p pos tp : Pos} {elts : List Expr} {kk : Nat} (hg : Gl X "enumerate") (hm : X.mg "enumerate" = none) (ha : PA X [e] ta) (hs : starEach [e] X.env = [(false, eval e X.env)] := by rfl) :
    PI X (.Tuple elts kk tp) (.Call (.Name "enumerate" p) [e] [] pos) (iEnumT X.K ta) := by
  refine ⟨fun pins s σ H R I h => ?_⟩
  refine Call_ (ld_blt I hg hm boot_enumerate (PyProof.Rows.callWith_type1 (thn (ha.run pos pins s σ H _ I h) fun us s1 q0 => ?_) hs rfl))
  obtain ⟨vs, H1, I1, r1, a, xs, ex, hq, q⟩ := q0
  subst ex
  cases r1 with
  | cons r rr =>
    cases rr
    cases r
    obtain ⟨its, rv, p', hz⟩ := I1.tuple hq
    have la : a < s1.heap.objs.size := by obtain ⟨_, z, _⟩ := p'; exact Heap.lt_size z
    refine tk_enum (begins_tuple a its.toArray) p' fun h' he hit hk => wpAny_pyIter_enum he ?_
    have I2 : Inv X pins σ H1 { s1 with heap := h' } := I1.kept (t' := s1.toks) hk
    refine ⟨s1.heap.objs.size + 1, [s1.heap.objs.size + 1, s1.heap.objs.size], _, _, H1, rfl, I2, tk_turn a (s1.heap.objs.size + 1) s1.heap.objs.size (Nat.ne_of_lt la) (Nat.ne_of_gt (Nat.lt_succ_of_lt la)) (Nat.succ_ne_self _), ⟨⟨.none, he⟩, ⟨_, hit, rfl, rfl⟩⟩, fun b hb => ?_, q⟩
    have two : b = s1.heap.objs.size + 1 ∨ b = s1.heap.objs.size := by simpa using hb
    have le : s1.heap.objs.size ≤ b := two.elim (fun z => z ▸ Nat.le_succ _) (fun z => z ▸ Nat.le_refl _)
    exact I1.fpOk le (I1.hok.fresh le)
/-- the reading of such a loop -/
theorem for_enumT {K : PySem.W.Frag} {a : Addr} {xs : List V} {g : TG} {tb : TS} {D : Ends} {σ : St} {H : Hp} (Pv : Nat → St → Hp → Prop) (h0 : Pv 0 σ H) (hl : ∀ i σ H, i ≤ xs.length → Pv i σ H → SqT K H a xs)
    (hs : ∀ i x T σ H, xs[i]? = some x → Pv i σ H → H T = none → g (.ref T) σ (upd H T (.tup [.int (i : Nat), x])) fun σ2 H2 => tb { D with nx := Pv (i + 1), ct := Pv (i + 1), bk := D.nx } σ2 H2) (hd : ∀ σ H, Pv xs.length σ H → D.nx σ H) :
    ∃ W : Nat → Nat → St → Hp → Prop, (∃ m, W 0 m σ H) ∧ ∀ i m σ H, W i m σ H → ((IteT K a).stop i H ∧ D.nx σ H) ∨ ((IteT K a).go i H ∧ ∃ N : St → Hp → Prop, (∀ σ' H', N σ' H' → ∃ m', m' < m ∧ W (i + 1) m' σ' H') ∧
      ∀ x H', (IteT K a).yld i H x H' → g x σ H' fun σ2 H2 => tb { D with nx := N, ct := N, bk := D.nx } σ2 H2) := by
  refine ⟨fun i m σ H => m = xs.length - i ∧ i ≤ xs.length ∧ Pv i σ H, ⟨xs.length, by simp, Nat.zero_le _, h0⟩, ?_⟩
  rintro i m σ H ⟨rfl, hi, p⟩
  have q := hl i σ H hi p
  by_cases lt : i < xs.length
  · refine .inr ⟨⟨xs, xs[i], q, by simp [lt]⟩, Pv (i + 1), fun σ' H' p' => ⟨xs.length - (i + 1), by omega, rfl, lt, p'⟩, ?_⟩
    rintro x H' ⟨T, y, rfl, hT, rfl, hy⟩
    exact hs i y T σ H (hy xs q) p hT
  · have e : i = xs.length := by omega
    exact .inl ⟨⟨xs, q, e.symm⟩, hd σ H (e ▸ p)⟩
/-! ### the text's own methods by signs -/
section
variable {X : Cx} {CX : CXT} {k n : Nat} {C f : Addr} {fd : FuncData} {ps : List Str} {sp : Sp} {E : XK}
/-- a def called somewhere below the running body -/
theorem tk_run {A : Around} {pins : List (Addr × Obj)} {σ : St} {H : Hp} {s : Shared} {Q : VK} {us : List Value} {vs : List V} (sb : Sub X k A) (F : FnOk X.prog X.w X.K X.mg X.base CX k f fd ps sp) (hb : Binds X.K fd ps []) (hx : Passes CX X E)
    (I : Inv X pins σ H s) (r : Vals vs us) (h : sp vs H Q E) : wpAny (model X.prog X.w) A (call (.ref f) us) (EP X pins σ Q) X.xe s := by
  have e := I.env0
  have e0 : Env0 X.prog X.w X.K X.mg X.base A X.stack s H := ⟨by rw [sb.fr]; exact e.frames, e.mod, e.bs, e.bsz, e.funs, e.frf, e.hok, e.bare⟩
  have hl : us.length = ps.length := r.length.symm.trans (F.len _ _ _ _ h)
  have bd := hb s us I.kIn (by simpa using hl)
  refine wpAny_call (codeAny_mono (F.run A X.stack s H ⟨us, []⟩ us vs Q E sb.room e0 (by simpa using bd) r h) fun res s' hq => ?_)
  match res, hq with
  | .error e, hq => exact hx pins σ H s e s' I hq
  | .ok (.ret u), hq => exact I.after hq
/-- what stands in the class C as the method m -/
structure OwnM (K : PySem.W.Frag) (C : Addr) (m : Str) (f : Addr) : Prop where
  at_ : PySem.W.findIn K (.ref C) m = some (some (.ref f))
  fn : PySem.W.isFn K (.ref f) = true
theorem ownInst {pins : List (Addr × Obj)} {σ : St} {H : Hp} {s : Shared} {a dx : Addr} {fs : List (Str × V)} (I : Inv X pins σ H s) (ha : H a = some (.ins C dx fs)) : ∃ ox od, PySem.W.InstAt s.heap a ox C od := by
  obtain ⟨mA, J, _⟩ := ins_get I.hok ha
  obtain ⟨od, J, _⟩ := J.look
  exact ⟨_, _, J⟩
def rOwn2 (C : Addr) (sp : Sp) (E : XK) : R2 := fun x y H Q => ∃ a dx fs, x = .ref a ∧ H a = some (.ins C dx fs) ∧ sp [.ref a, y] H Q E
/-- o[i] by the class's own __getitem__ -/
theorem ix_own {value slice : Expr} (M : OwnM X.K C "__getitem__" f) (hf : PySem.W.fnIn X.K f = true) (F : FnOk X.prog X.w X.K X.mg X.base CX k f fd ps sp) (hr : Room (k + 1) X.A) (hb : Binds X.K fd ps []) (hx : Passes CX X E)
    {a b : Expr} {ta tb : TE} {pos : Pos} (ha : PE X a ta) (hb2 : PE X b tb) (hs : ∀ o i, subscripted b true o i = runValue (.builtin "lifetime.subscript" ⟨[o, i], []⟩)) : PE X (.Subscript a b pos) (tOp (rOwn2 C sp E) ta tb) := by
  refine ⟨fun pins s σ H Q I h => ?_⟩
  refine Subscript_ (binT ha hb2 I h fun v u s2 x y H2 I2 rx ry q => ?_)
  obtain ⟨p, dx, fs, rfl, hp, q⟩ := q
  obtain rfl : v = Value.ref p := rx
  obtain ⟨ox, od, J⟩ := ownInst I2 hp
  obtain ⟨m, hF⟩ := I2.fr
  refine PySem.W.sub_K hF I2.ok.mod.kin J M.at_ hf M.fn ?_ (hs _ _)
  exact tk_run ⟨hr.in1, rfl⟩ F hb hx I2 (.cons (show RelV (.ref p) (.ref p) from rfl) (.cons ry .nil)) q
def rOwnIn (C : Addr) (sp : Sp) (E : XK) (neg : Bool) : R2 := fun y x H Q => ∃ a dx fs, x = .ref a ∧ H a = some (.ins C dx fs) ∧ sp [.ref a, y] H (fun v H' => ∃ c, v = .bl c ∧ Q (.bl (if neg then !c else c)) H') E
/-- y in o by the class's own __contains__ -/
theorem op_inOwn (M : OwnM X.K C "__contains__" f) (F : FnOk X.prog X.w X.K X.mg X.base CX k f fd ps sp) (hr : Room k X.A) (hb : Binds X.K fd ps []) (hx : Passes CX X E) : OpR X (compareOp .In) (rOwnIn C sp E false) := by
  intro pins s σ H y x u v Q I ry rx h
  obtain ⟨p, dx, fs, rfl, hp, q⟩ := h
  obtain rfl : v = Value.ref p := rx
  obtain ⟨ox, od, J⟩ := ownInst I hp
  obtain ⟨m, hF⟩ := I.fr
  refine PySem.W.in_K hF I.ok.mod.kin J M.at_ M.fn (thn (tk_run ⟨hr, rfl⟩ F hb hx I (.cons (show RelV (.ref p) (.ref p) from rfl) (.cons ry .nil)) q) fun r s' hq => ?_)
  obtain ⟨z, H', I', rz, c, rfl, q'⟩ := hq
  cases rz
  exact wpAny_truthy_bool ⟨.bl c, H', I', rfl, q'⟩
theorem op_notInOwn (M : OwnM X.K C "__contains__" f) (F : FnOk X.prog X.w X.K X.mg X.base CX k f fd ps sp) (hr : Room k X.A) (hb : Binds X.K fd ps []) (hx : Passes CX X E) : OpR X (compareOp .NotIn) (rOwnIn C sp E true) := by
  intro pins s σ H y x u v Q I ry rx h
  obtain ⟨p, dx, fs, rfl, hp, q⟩ := h
  obtain rfl : v = Value.ref p := rx
  obtain ⟨ox, od, J⟩ := ownInst I hp
  obtain ⟨m, hF⟩ := I.fr
  refine PySem.W.notIn_K hF I.ok.mod.kin J M.at_ M.fn (thn (tk_run ⟨hr, rfl⟩ F hb hx I (.cons (show RelV (.ref p) (.ref p) from rfl) (.cons ry .nil)) q) fun r s' hq => ?_)
  obtain ⟨z, H', I', rz, c, rfl, q'⟩ := hq
  cases rz
  exact wpAny_truthy_bool ⟨.bl (!c), H', I', rfl, q'⟩
/-- len(o) by the class's own __len__ -/
theorem call_lenOwn (M : OwnM X.K C "__len__" f) (F : FnOk X.prog X.w X.K X.mg X.base CX k f fd ps sp) (hr : Room (k + 1) X.A) (hb : Binds X.K fd ps []) (hx : Passes CX X E) :
    CallR X (.builtin "len") (fun xs H Q => ∃ a dx fs, xs = [.ref a] ∧ H a = some (.ins C dx fs) ∧ sp [.ref a] H (fun v H' => ∃ i : Int, v = .int i ∧ 0 ≤ i ∧ i < 2 ^ 63 ∧ Q v H') E) := by
  intro pins s σ H xs us Q I r h
  obtain ⟨p, dx, fs, rfl, hp, q⟩ := h
  obtain ⟨u, rfl, rx⟩ := vals1 r
  obtain rfl : u = Value.ref p := rx
  obtain ⟨ox, od, J⟩ := ownInst I hp
  obtain ⟨m, hF⟩ := I.fr
  refine PySem.W.len_K hF I.ok.mod.kin J M.at_ M.fn (thn (tk_run ⟨hr.in1, rfl⟩ F hb hx I (.cons (show RelV (.ref p) (.ref p) from rfl) .nil) q) fun r s' hq => ?_)
  obtain ⟨z, H', I', rz, i, rfl, i0, i1, q'⟩ := hq
  obtain ⟨t, rfl⟩ := rz
  refine ⟨⟨i0, i1⟩, ⟨.int i, H', I'.tok _, ⟨_, rfl⟩, q'⟩⟩
end
/-! ### .get of a written dict -/
def KG (K : PySem.W.Frag) (w : World) (a : Addr) (x : Str) (v : V) : Prop := KDct K w a x v ∧ (a == sysModules) = false
def tKGet (K : PySem.W.Frag) (w : World) (td ty : TE) : TE := fun σ H Q => td σ H fun x H1 => ty σ H1 fun y H2 => ∃ a z v, x = .ref a ∧ y = .str z ∧ KG K w a z v ∧ Q v H2
theorem pe_kget {X : Cx} {o e : Expr} {td ty : TE} {apos cpos : Pos} (ho : PE X o td) (he : PE X e ty) (hd : ∀ σ H Q, td σ H Q → td σ H fun x H1 => (∃ a oc es n, x = V.ref a ∧ X.K.lookup a = some oc ∧ oc = ⟨.type "dict", none, .dict es n, #[]⟩) ∧ Q x H1) (m : M1 X o "get" apos e cpos) :
    PE X (.Call (.Attribute o "get" apos) [e] [] cpos) (tKGet X.K X.w td ty) := by
  refine ⟨fun pins s σ H Q I h => ?_⟩
  refine wpAny_Call_method m.base m.few m.line PySem.F.plainAttrs_dict PySem.F.slot_dict_get PySem.F.type_dict_get (thn (ho.run pins s σ H _ I (hd _ _ _ h)) fun u s1 q0 => ?_)
  obtain ⟨x, H1, I1, rx, ⟨a, oc, es, n, rfl, lk, rfl⟩, q1⟩ := q0
  obtain rfl : u = Value.ref a := rx
  have ga := I1.kIn _ _ lk
  refine ⟨⟨_, ga, rfl⟩, fun b q => by cases q; exact ⟨_, ga, rfl⟩, ?_⟩
  rw [m.trees]
  refine Calls.callWith_builtin rfl (Calls.evalArgs_plain (Calls.spliced_cons (thn (he.run pins s1 σ H1 _ I1 q1) fun iv s2 q2 => Calls.spliced_nil ?_)))
  obtain ⟨y, H2, I2, ry, a', z, v, ea, rfl, ⟨⟨es', n', u0, hl, hk, e1, ru⟩, hs⟩, q2⟩ := q2
  cases ea
  obtain ⟨t, rfl⟩ := ry
  have mo := PySem.W.mapOf_K (prog := X.prog) (w := X.w) I2.kIn hl hk
  refine call_meetsIn PySem.F.slot_dict_get mo.typeIs PySem.F.entry_dict_get (PySem.F.args_dict_get_2 _ _) (meets_dict_get (strKind X.prog X.w) a (strKind_is X.prog X.w z t) hs) ⟨_, mo, ?_⟩
  rw [PySem.W.find_K hl e1]
  exact ⟨v, H2, I2.tok _, ru, q2⟩
end L2
namespace Tk
open PySem L2
abbrev Pl := List Int
mutual
/-- the statements at and below the place p, in reading order -/
def Stm.walk : Stm → Pl → List (Pl × Stm)
  | .one w, p => [(p, .one w)]
  | .nam b n, p => [(p, .nam b n)]
  | .ch y n, p => (p, .ch y n) :: (walkAll y (p ++ [0]) 0 ++ walkAll n (p ++ [1]) 0)
def walkAll : List Stm → Pl → Nat → List (Pl × Stm)
  | [], _, _ => []
  | s :: r, p, i => s.walk (p ++ [(i : Int)]) ++ walkAll r p (i + 1)
end
def lk : List (Pl × Stm) → Pl → Option Stm
  | [], _ => none
  | (p, s) :: r, k => if p = k then some s else lk r k
theorem lk_app (k : Pl) : ∀ a b : List (Pl × Stm), lk (a ++ b) k = (lk a k).or (lk b k)
  | [], b => rfl
  | (p, s) :: r, b => by
    show (if p = k then some s else lk (r ++ b) k) = (if p = k then some s else lk r k).or (lk b k)
    by_cases h : p = k
    · rw [if_pos h, if_pos h]; rfl
    · rw [if_neg h, if_neg h, lk_app k r b]
def nth (B : List Stm) (j : Int) : Option Stm := if 0 ≤ j then B[j.toNat]? else none
def sub : Stm → Pl → Option Stm
  | s, [] => some s
  | .ch y n, a :: j :: q => if a = 0 then (nth y j).bind fun t => sub t q else if a = 1 then (nth n j).bind fun t => sub t q else none
  | _, _ => none
def look : List Stm → Pl → Option Stm
  | B, [] => none
  | B, j :: q => (nth B j).bind fun s => sub s q
theorem pre_ne {p q : Pl} {a b : Int} (h : a ≠ b) : ∀ r : Pl, p ++ a :: q ≠ (p ++ [b]) ++ r := fun r e => by
  rw [List.append_assoc] at e
  have := List.append_cancel_left e
  simp at this
  exact h this.1
mutual
theorem walk_none : ∀ (s : Stm) (p k : Pl), (∀ q, k ≠ p ++ q) → lk (s.walk p) k = none
  | .one w, p, k, h => by
    rw [Stm.walk, lk, if_neg (fun e => h [] (by rw [← e]; simp)), lk]
  | .nam b n, p, k, h => by
    rw [Stm.walk, lk, if_neg (fun e => h [] (by rw [← e]; simp)), lk]
  | .ch y n, p, k, h => by
    rw [Stm.walk, lk, if_neg (fun e => h [] (by rw [← e]; simp)), lk_app, walkAll_none y (p ++ [0]) 0 k (fun j q e => h (0 :: j :: q) (by rw [e]; simp)), walkAll_none n (p ++ [1]) 0 k (fun j q e => h (1 :: j :: q) (by rw [e]; simp))]
    rfl
theorem walkAll_none : ∀ (B : List Stm) (p : Pl) (i : Nat) (k : Pl), (∀ j q, k ≠ p ++ j :: q) → lk (walkAll B p i) k = none
  | [], p, i, k, h => by rw [walkAll, lk]
  | s :: r, p, i, k, h => by
    rw [walkAll, lk_app, walk_none s (p ++ [(i : Int)]) k (fun q e => h i q (by rw [e]; simp)), walkAll_none r p (i + 1) k h]
    rfl
end
theorem nth_nil (j : Int) : nth [] j = none := by
  unfold nth
  by_cases h : 0 ≤ j
  · rw [if_pos h]; rfl
  · rw [if_neg h]
theorem nth_zero (s : Stm) (r : List Stm) : nth (s :: r) 0 = some s := rfl
theorem nth_succ (s : Stm) (r : List Stm) (j : Int) (h : j ≠ 0) : nth (s :: r) j = nth r (j - 1) := by
  unfold nth
  by_cases h0 : 0 ≤ j
  · rw [if_pos h0, if_pos (by omega)]
    have e : j.toNat = (j - 1).toNat + 1 := by omega
    rw [e, List.getElem?_cons_succ]
  · rw [if_neg h0, if_neg (by omega)]
mutual
theorem walk_lk : ∀ (s : Stm) (p q : Pl), lk (s.walk p) (p ++ q) = sub s q
  | .one w, p, [] => by rw [Stm.walk, lk, if_pos (by simp), sub]
  | .one w, p, a :: q => by
    rw [Stm.walk, lk, if_neg (fun e => by have := congrArg List.length e; simp at this), lk]
    cases q <;> rfl
  | .nam b n, p, [] => by rw [Stm.walk, lk, if_pos (by simp), sub]
  | .nam b n, p, a :: q => by
    rw [Stm.walk, lk, if_neg (fun e => by have := congrArg List.length e; simp at this), lk]
    cases q <;> rfl
  | .ch y n, p, [] => by rw [Stm.walk, lk, if_pos (by simp), sub]
  | .ch y n, p, [a] => by
    rw [Stm.walk, lk, if_neg (fun e => by have := congrArg List.length e; simp at this), lk_app, walkAll_none, walkAll_none]
    · rfl
    · intro j q e; have := congrArg List.length e; simp at this
    · intro j q e; have := congrArg List.length e; simp at this
  | .ch y n, p, a :: j :: q => by
    rw [Stm.walk, lk, if_neg (fun e => by have := congrArg List.length e; simp at this), lk_app, sub]
    by_cases h0 : a = 0
    · subst h0
      rw [if_pos rfl]
      have e : p ++ (0 : Int) :: j :: q = (p ++ [0]) ++ j :: q := by simp
      have z : lk (walkAll n (p ++ [1]) 0) (p ++ (0 : Int) :: j :: q) = none := walkAll_none n (p ++ [1]) 0 _ (fun j' q' => pre_ne (by decide) _)
      rw [z, e, walkAll_lk y (p ++ [0]) 0 j q]
      simp
    · rw [if_neg h0]
      have z : lk (walkAll y (p ++ [0]) 0) (p ++ a :: j :: q) = none := walkAll_none y (p ++ [0]) 0 _ (fun j' q' => pre_ne h0 _)
      rw [z]
      by_cases h1 : a = 1
      · subst h1
        rw [if_pos rfl]
        have e : p ++ (1 : Int) :: j :: q = (p ++ [1]) ++ j :: q := by simp
        rw [e, walkAll_lk n (p ++ [1]) 0 j q]
        simp
      · rw [if_neg h1]
        have z2 : lk (walkAll n (p ++ [1]) 0) (p ++ a :: j :: q) = none := walkAll_none n (p ++ [1]) 0 _ (fun j' q' => pre_ne h1 _)
        rw [z2]; rfl
theorem walkAll_lk : ∀ (B : List Stm) (p : Pl) (i : Nat) (j : Int) (q : Pl), lk (walkAll B p i) (p ++ j :: q) = (nth B (j - i)).bind fun s => sub s q
  | [], p, i, j, q => by rw [walkAll, lk, nth_nil]; rfl
  | s :: r, p, i, j, q => by
    rw [walkAll, lk_app]
    by_cases h : j = i
    · subst h
      have e : p ++ (i : Int) :: q = (p ++ [(i : Int)]) ++ q := by simp
      have z : lk (walkAll r p (i + 1)) (p ++ (i : Int) :: q) = none ∨ True := .inr trivial
      rw [e, walk_lk s (p ++ [(i : Int)]) q, ← e, walkAll_lk r p (i + 1) i q]
      have e1 : nth (s :: r) ((i : Int) - i) = some s := by rw [Int.sub_self]; rfl
      have e2 : nth r ((i : Int) - ((i + 1 : Nat) : Int)) = none := by unfold nth; rw [if_neg (by omega)]
      rw [e1, e2]
      simp
    · have z : lk (s.walk (p ++ [(i : Int)])) (p ++ j :: q) = none := walk_none s _ _ (fun q' => pre_ne h _)
      rw [z, walkAll_lk r p (i + 1) j q, nth_succ s r (j - i) (by omega)]
      have e : j - ((i + 1 : Nat) : Int) = j - i - 1 := by omega
      rw [e]; rfl
end
theorem look_lk (S : List Stm) : ∀ p : Pl, lk (walkAll S [] 0) p = look S p
  | [] => walkAll_none S [] 0 [] (fun j q e => by cases e)
  | j :: q => by
    have := walkAll_lk S [] 0 j q
    simpa [look] using this
mutual
theorem walk_len : ∀ (s : Stm) (p : Pl), (s.walk p).length = s.cnt
  | .one w, p => by rw [Stm.walk, Stm.cnt]; rfl
  | .nam b n, p => by rw [Stm.walk, Stm.cnt]; rfl
  | .ch y n, p => by
    rw [Stm.walk, Stm.cnt, List.length_cons, List.length_append, walkAll_len y, walkAll_len n]; omega
theorem walkAll_len : ∀ (B : List Stm) (p : Pl) (i : Nat), (walkAll B p i).length = cntAll B
  | [], p, i => by rw [walkAll, cntAll]; rfl
  | s :: r, p, i => by rw [walkAll, cntAll, List.length_append, walk_len s, walkAll_len r]
end
theorem walkAll_snoc : ∀ (B : List Stm) (s : Stm) (p : Pl) (i : Nat), walkAll (B ++ [s]) p i = walkAll B p i ++ s.walk (p ++ [((i + B.length : Nat) : Int)])
  | [], s, p, i => by
    show walkAll [s] p i = walkAll [] p i ++ _
    rw [walkAll, walkAll, walkAll]; simp
  | t :: r, s, p, i => by
    show walkAll (t :: (r ++ [s])) p i = _
    rw [walkAll, walkAll, walkAll_snoc r s p (i + 1), List.append_assoc]
    have e : i + 1 + r.length = i + (t :: r).length := by rw [List.length_cons]; omega
    rw [e]
/-! ## the found statements as a dict -/
def key (p : Pl) : List Key := p.map Sum.inl
theorem key_kV (p : Pl) : (key p).map kV = p.map V.int := by
  unfold key; rw [List.map_map]; rfl
theorem key_inj : ∀ {p q : Pl}, key p = key q → p = q
  | [], [], _ => rfl
  | [], _ :: _, h => by cases h
  | _ :: _, [], h => by cases h
  | a :: p, b :: q, h => by
    have h' : Sum.inl a :: key p = Sum.inl b :: key q := h
    injection h' with h1 h2
    injection h1 with h1
    rw [h1, key_inj h2]
def FRel (H : Hp) : List (List Key × V) → List (Pl × Stm) → Prop
  | [], [] => True
  | (k, v) :: r, (p, s) :: r' => k = key p ∧ s.at H v ∧ FRel H r r'
  | _, _ => False
theorem FRel.len {H : Hp} : ∀ {a : List (List Key × V)} {b : List (Pl × Stm)}, FRel H a b → a.length = b.length
  | [], [], _ => rfl
  | _ :: _, _ :: _, h => by rw [List.length_cons, List.length_cons, FRel.len h.2.2]
  | [], _ :: _, h => h.elim
  | _ :: _, [], h => h.elim
theorem FRel.keep {H H' : Hp} (k : TK H H') : ∀ {a : List (List Key × V)} {b : List (Pl × Stm)}, FRel H a b → FRel H' a b
  | [], [], _ => trivial
  | _ :: _, _ :: _, h => ⟨h.1, Stm.at_keep k _ _ h.2.1, FRel.keep k h.2.2⟩
  | [], _ :: _, h => h.elim
  | _ :: _, [], h => h.elim
theorem FRel.snoc {H : Hp} {p : Pl} {v : V} {s : Stm} (hs : s.at H v) : ∀ {a : List (List Key × V)} {b : List (Pl × Stm)}, FRel H a b → FRel H (a ++ [(key p, v)]) (b ++ [(p, s)])
  | [], [], _ => ⟨rfl, hs, trivial⟩
  | _ :: _, _ :: _, h => ⟨h.1, h.2.1, FRel.snoc hs h.2.2⟩
  | [], _ :: _, h => h.elim
  | _ :: _, [], h => h.elim
theorem FRel.val {H : Hp} (p : Pl) : ∀ {a : List (List Key × V)} {b : List (Pl × Stm)}, FRel H a b → (lk b p = none → valV a (key p) = none) ∧ (∀ s, lk b p = some s → ∃ v, valV a (key p) = some v ∧ s.at H v)
  | [], [], _ => ⟨fun _ => rfl, fun s e => by cases e⟩
  | (k, v) :: r, (q, s) :: r', h => by
    obtain ⟨rfl, h1, h2⟩ := h
    by_cases e : q = p
    · subst e
      rw [lk, if_pos rfl, valV_pos (p := (key q, v)) rfl]
      exact ⟨(fun z => nomatch z), fun t z => ⟨v, rfl, Option.some.inj z ▸ h1⟩⟩
    · rw [lk, if_neg e, valV_neg (p := (key q, v)) (fun z => e (key_inj z))]
      exact FRel.val p h2
  | [], _ :: _, h => h.elim
  | _ :: _, [], h => h.elim
end Tk
set_option maxRecDepth 100000
namespace Tk
open PySem L2
abbrev sIsInt : Stmt := top 10
abbrev sIsName : Stmt := top 12
abbrev sSInit : Stmt := inClass (top 18) 0
abbrev sSLen : Stmt := inClass (top 18) 1
abbrev sSHas : Stmt := inClass (top 18) 2
abbrev sSGet : Stmt := inClass (top 18) 3
abbrev sAfter : Stmt := inClass (top 18) 6
abbrev sBehind : Stmt := inClass (top 18) 7
abbrev sKInit : Stmt := inClass (top 19) 0
abbrev sKBr : Stmt := inClass (top 19) 1
abbrev sKSt : Stmt := inClass (top 19) 2
abbrev sFault : Stmt := top 20
abbrev sForm : Stmt := top 22
abbrev sHeld : Stmt := top 21
def items8 : List (Str × Int) := [("take", 1), ("commit", 1), ("rollback", 1), ("drop", 1), ("leave", 1), ("lock", 2), ("unlock", 2), ("choose", 3)]
/-- what the top has made -/
structure Txt (K : PySem.W.Frag) (w : World) (mg : Str → Option Value) (CS CK it : Addr) : Prop where
  isi : mg "isinstance" = none
  all : mg "all" = none
  list : mg "list" = none
  enum : mg "enumerate" = none
  str : mg "str" = none
  bool : mg "bool" = none
  long : ∃ t, mg "LONGEST_NAME" = some (.int 8 t)
  mSt : ∃ t, mg "MOST_STATEMENTS" = some (.int 8 t)
  mHe : ∃ t, mg "MOST_HELD" = some (.int 3 t)
  mNe : ∃ t, mg "MOST_NESTED" = some (.int 2 t)
  mIt : mg "ITEMS" = some (.ref it)
  lkI : ∃ es n, K.lookup it = some ⟨.type "dict", none, .dict es n, #[]⟩
  kg : ∀ z n, (z, n) ∈ items8 → KG K w it z (.int n)
  clS : Cls K CS
  clK : Cls K CK
  mgS : mg "Script" = some (.ref CS)
  mgK : mg "Check" = some (.ref CK)
  nS : NoAttr K CS "statements"
  nF : NoAttr K CS "found"
  nP : NoAttr K CS "places"
  kF : NoAttr K CK "found"
theorem lt1 (a b : Nat) : ([a] < [b]) ↔ a < b := by
  rw [List.cons_lt_cons_iff]
  simp
theorem iteFb {c : Bool} {A B : Prop} (e : c = false) (h : B) : if c = true then A else B := by rw [e]; exact iteF h
theorem iteTb {c : Bool} {A B : Prop} (e : c = true) (h : A) : if c = true then A else B := by rw [e]; exact iteT h
def nameB (z : Str) : Bool := decide (1 ≤ z.length) && decide (z.length ≤ 8) && z.cps.toList.all fun c => decide (97 ≤ c) && decide (c ≤ 122)
theorem nameB_of {z : Str} (h : IsName z) : nameB z = true := by
  unfold nameB
  rw [decide_eq_true h.1, decide_eq_true h.2.1]
  simp only [Bool.true_and, List.all_eq_true]
  intro c hc
  have q := h.2.2 c hc
  rw [decide_eq_true q.1, decide_eq_true q.2]; rfl
def spIsInt (K : PySem.W.Frag) : Sp := fun vs H Q _ => ∃ (x : V) (T : String) (b1 b2 : Bool), vs = [x] ∧ TyX K H x (.type T) ∧ kitB T "int" = some b1 ∧ kitB T "bool" = some b2 ∧ Q (.bl (b1 && !b2)) H
def spIsName : Sp := fun vs H Q _ => ∃ z : Str, vs = [.str z] ∧ z.length ≤ 100 ∧ ∀ H', Same H H' → Q (.bl (nameB z)) H'
/-- a good statement -/
def spForm : Sp := fun vs H Q _ => ∃ (v : V) (s : Stm), vs = [v] ∧ s.at H v ∧ Q (.bl true) H
def spFault : Sp := fun vs H Q _ => ∃ (v : V) (u : Addr) (e h : Int) (s : Stm) (d : Nat) (p : List V), vs = [v, .ref u, .int e, .int h] ∧ s.at H v ∧ H u = some (.tup p) ∧ p.length = 2 * d + 1 ∧ e ≠ 8 ∧ s.ok d h ∧ ∀ H', Same H H' → Q .non H'
section
variable {P : Program} {w : World} {K : PySem.W.Frag} {mg : Str → Option Value} {base : Heap} {CS CK it : Addr}
theorem scII : FnScope ["value"] ["value"] (defScope sIsInt) := ⟨rfl, rfl, rfl, by decide +kernel, rfl, by decide +kernel, by decide +kernel⟩
theorem ok_isint {f : Addr} {fd : FuncData} (F : Fun K "is_integer" "is_integer" sIsInt f fd) (B : Bl mg) (T : Txt K w mg CS CK it) : FnOk P w K mg base CX0 1 f fd ["value"] (spIsInt K) := by
  refine F.ok scII (fun vs H Q E h => ?_) (fun cdv A outer s H vs Q E hr h => ?_)
  · obtain ⟨x, t, b1, b2, rfl, _⟩ := h
    rfl
  obtain ⟨x, t, b1, b2, rfl, ty, k1, k2, q⟩ := h
  refine ⟨_, pss_one (ps_ret (pe_and (pe_callB call_isi (by rfl) T.isi (by decide +kernel) (pa_cons (pv 0) (pa_cons (pe_bltn (v := .ty "int") (by rfl) B.int (by decide +kernel) rfl) pa_nil)))
    (pe_one (pe_not (pe_callB call_isi (by rfl) T.isi (by decide +kernel) (pa_cons (pv 0) (pa_cons (pe_bltn (v := .ty "bool") (by rfl) T.bool (by decide +kernel) rfl) pa_nil))))))), ?_⟩
  refine ⟨_, rfl, x, _, _, _, b1, rfl, .ty "int", ty, kit_ty k1, b1, rfl, ?_⟩
  cases b1 with
  | false => exact iteF q
  | true => exact iteT ⟨_, rfl, x, _, _, _, b2, rfl, .ty "bool", ty, kit_ty k2, b2, rfl, q⟩
theorem scIN : FnScope ["value", "letter"] ["value"] (defScope sIsName) := ⟨rfl, rfl, rfl, by decide +kernel, rfl, by decide +kernel, by decide +kernel⟩
theorem ok_isname {f : Addr} {fd : FuncData} (F : Fun K "is_name" "is_name" sIsName f fd) (B : Bl mg) (T : Txt K w mg CS CK it) : FnOk P w K mg base CX0 1 f fd ["value"] spIsName := by
  refine F.ok scIN (fun vs H Q E h => ?_) (fun cdv A outer s H vs Q E hr h => ?_)
  · obtain ⟨z, rfl, _⟩ := h
    rfl
  obtain ⟨z, rfl, h100, q⟩ := h
  have hsz : z.length ≤ sizeLine := Nat.le_of_lt (small1000 (by omega))
  obtain ⟨tl, gl⟩ := T.long
  refine ⟨_, pss_cons (ps_if (PW.pt (pw_or (pt_not (pt_val (pe_callB call_isi (by rfl) T.isi (by decide +kernel) (pa_cons (pv 0) (pa_cons (pe_bltn (v := .ty "str") (by rfl) T.str (by decide +kernel) rfl) pa_nil)))))
      (pw_or1 (pt_not (pt_chain op_le op_le pe_int (pe_callB call_len_str (by rfl) B.len PySem.boot_len (pa_cons (pv 0) pa_nil)) (pe_glob (v := .int 8) (by rfl) gl ⟨_, rfl⟩)))))) (pss_one (ps_ret pe_bl)) pss_nil)
    (pss_one (ps_ret (pe_callB (cr_all rfl) (by rfl) T.all (by decide +kernel) (pa_cons
      (pe_lc (own := [("letter", 1)]) (g := gName 1) (tt := tYes) rfl scIN.nd (pi_str (pv 0)) (blkOk_by (own := [("letter", 1)]) (N := ["value", "letter"]) (sc := defScope sIsName) (by decide +kernel))
        (fun _ _ _ _ _ => pg_name (i := 1) scIN.nd rfl (Or.inl rfl)) (fun _ _ _ _ _ => pts_nil)
        (fun _ _ _ _ _ => pe_chain op_le_str op_le_str pe_str (pv 1) pe_str)) pa_nil)))), ?_⟩
  refine ⟨_, rfl, _, _, _, _, true, rfl, .ty "str", .base (.str _), kit_ty (by decide +kernel), true, rfl, iteF ?_⟩
  refine ⟨_, rfl, _, rfl, hsz, _, _, rfl, rfl, _, rfl, ?_⟩
  have ret : ∀ b : Bool, nameB z = b → Q (.bl b) H := fun b e => e ▸ q H (Same.refl H)
  by_cases c1 : 1 ≤ z.length
  · have c1' : decide ((1 : Int) ≤ (z.length : Int)) = true := decide_eq_true (by omega)
    refine iteTb c1' ⟨_, _, rfl, rfl, _, rfl, ?_⟩
    by_cases c2 : z.length ≤ 8
    · have c2' : decide ((z.length : Int) ≤ 8) = true := decide_eq_true (by omega)
      rw [c2']
      refine iteF ?_
      refine ⟨_, rfl, z, rfl, fun D hD => ?_⟩
      refine lc_it walk_str (fun i H7 => H7 D = some (.lst (((z.cps.toList.take i).map fun c => decide (97 ≤ c) && decide (c ≤ 122)).map V.bl)) ∧ Same H H7 ∧ i ≤ z.cps.size) ?_ (fun _ _ _ _ => trivial) ?_ ?_
      · exact ⟨upd_same, same_new hD _, Nat.zero_le _⟩
      · rintro i x H7 H8 hi ⟨h1, h2, h3⟩ ⟨rfl, c, hc, rfl⟩
        refine ⟨rfl, ?_⟩
        unfold tYes
        dsimp only
        rw [if_pos rfl]
        have nx : ∀ b : Bool, (decide (97 ≤ c) && decide (c ≤ 122)) = b → ∃ acc, H8 D = some (.lst acc) ∧ acc.length < sizeLine ∧ (upd H8 D (.lst (acc ++ [.bl b]))) D = some (.lst (((z.cps.toList.take (i + 1)).map fun c => decide (97 ≤ c) && decide (c ≤ 122)).map V.bl)) ∧ Same H (upd H8 D (.lst (acc ++ [.bl b]))) ∧ i + 1 ≤ z.cps.size := by
          intro b e
          have hz : z.cps.size ≤ 8 := c2
          refine ⟨_, h1, small1000 (by simp; omega), ?_, ?_, hi⟩
          · rw [upd_same]
            have ez : z.cps.toList[i]? = some c := by simpa using hc
            rw [List.take_add_one, ez]
            simp [e]
          · intro b' o e'
            rw [upd_ne (ne_of_none e' hD)]
            exact h2 b' o e'
        refine ⟨_, rfl, _, _, rfl, rfl, _, rfl, ?_⟩
        have e1 : (!decide ((⟨#[c]⟩ : Str).cps.toList < ("a" : Str).cps.toList)) = decide (97 ≤ c) := by
          have e0 : ("a" : Str).cps.toList = [97] := by decide +kernel
          rw [e0]
          show (!decide ([c] < [97])) = _
          by_cases k : 97 ≤ c
          · rw [decide_eq_true k, decide_eq_false (fun x => absurd ((lt1 c 97).mp x) (by omega))]; rfl
          · rw [decide_eq_false k, decide_eq_true ((lt1 c 97).mpr (by omega))]; rfl
        have e2 : (!decide (("z" : Str).cps.toList < (⟨#[c]⟩ : Str).cps.toList)) = decide (c ≤ 122) := by
          have e0 : ("z" : Str).cps.toList = [122] := by decide +kernel
          rw [e0]
          show (!decide ([122] < [c])) = _
          by_cases k : c ≤ 122
          · rw [decide_eq_true k, decide_eq_false (fun x => absurd ((lt1 122 c).mp x) (by omega))]; rfl
          · rw [decide_eq_false k, decide_eq_true ((lt1 122 c).mpr (by omega))]; rfl
        rw [e1]
        by_cases k : 97 ≤ c
        · refine iteTb (decide_eq_true k) ⟨_, _, rfl, rfl, ?_⟩
          rw [e2]
          exact nx _ (by rw [decide_eq_true k, Bool.true_and])
        · refine iteFb (decide_eq_false k) ?_
          exact nx _ (by rw [decide_eq_false k, Bool.false_and])
      · rintro H7 ⟨h1, h2, _⟩
        refine ⟨D, _, rfl, SqL.of h1, ?_⟩
        have e : nameB z = ((z.cps.toList.take z.cps.size).map fun c => decide (97 ≤ c) && decide (c ≤ 122)).all id := by
          unfold nameB
          rw [decide_eq_true c1, decide_eq_true c2, List.take_of_length_le (by simp), List.all_map]
          rfl
        rw [← e]
        exact q H7 h2
    · have c2' : decide ((z.length : Int) ≤ 8) = false := decide_eq_false (by omega)
      rw [c2']
      refine iteT ?_
      exact ret false (by unfold nameB; rw [decide_eq_false c2]; simp)
  · have c1' : decide ((1 : Int) ≤ (z.length : Int)) = false := decide_eq_false (by omega)
    refine iteFb c1' ⟨_, rfl, iteT ?_⟩
    exact ret false (by unfold nameB; rw [decide_eq_false c1]; simp)
/-! ### has_form, fault_of -/
theorem wd_ne (w : Wd) : decide (V.str w.s = V.str "choose") = false := by cases w <;> decide +kernel
theorem lk_ne (b : Bool) : decide (V.str (lockS b) = V.str "choose") = false := by cases b <;> decide +kernel
theorem wd_it (w : Wd) : (w.s, (1 : Int)) ∈ items8 := by cases w <;> simp [items8, Wd.s]
theorem lk_it (b : Bool) : (lockS b, (2 : Int)) ∈ items8 := by cases b <;> simp [items8, lockS]
theorem ch_it : (("choose" : Str), (3 : Int)) ∈ items8 := by simp [items8]
theorem scHF : FnScope ["statement", "word"] ["statement"] (defScope sForm) := ⟨rfl, rfl, rfl, by decide +kernel, rfl, by decide +kernel, by decide +kernel⟩
theorem ok_form {f : Addr} {fd : FuncData} (F : Fun K "has_form" "has_form" sForm f fd) (B : Bl mg) (T : Txt K w mg CS CK it) : FnOk P w K mg base CX0 1 f fd ["statement"] spForm := by
  refine F.ok scHF (fun vs H Q E h => ?_) (fun cdv A outer s H vs Q E hr h => ?_)
  · obtain ⟨v, s, rfl, _⟩ := h
    rfl
  obtain ⟨v, s, rfl, hs, q⟩ := h
  obtain ⟨es, n, lkI⟩ := T.lkI
  refine ⟨_, pss_cons (ps_if (PW.pt (pw_or (pt_not (pt_val (pe_callB call_isi (by rfl) T.isi (by decide +kernel) (pa_cons (pv 0) (pa_cons (pe_bltn (v := .ty "tuple") (by rfl) B.tuple (by decide +kernel) rfl) pa_nil)))))
      (pw_or1 (pt_not (pt_truth (pv 0) (by intro _; rfl)))))) (pss_one (ps_ret pe_bl)) pss_nil)
    (pss_cons (ps_set (i := 1) scHF.nd rfl (Or.inl rfl) (pe_ix ix_tup (pv 0) pe_int (fun _ _ => rfl)))
    (pss_cons (ps_if (PW.pt (pw_or (pt_not (pt_val (pe_callB call_isi (by rfl) T.isi (by decide +kernel) (pa_cons (pv 1) (pa_cons (pe_bltn (v := .ty "str") (by rfl) T.str (by decide +kernel) rfl) pa_nil)))))
      (pw_or1 (pt_cmpR op_ne (pe_callB call_len_seq (by rfl) B.len PySem.boot_len (pa_cons (pv 0) pa_nil)) (pe_kget (pe_glob (v := .ref it) (by rfl) T.mIt rfl) (pv 1) (fun σ H Q h => ⟨⟨it, _, es, n, rfl, lkI, rfl⟩, h⟩) ⟨rfl, rfl, rfl, rfl⟩) (nomark _))))) (pss_one (ps_ret pe_bl)) pss_nil)
    (pss_cons (ps_if (pt_cmpR op_eq (pv 1) pe_str (nomark _)) (pss_one (ps_ret (pe_and (pe_callB call_isi (by rfl) T.isi (by decide +kernel) (pa_cons (pe_ix ix_tup (pv 0) pe_int (fun _ _ => rfl)) (pa_cons (pe_bltn (v := .ty "tuple") (by rfl) B.tuple (by decide +kernel) rfl) pa_nil)))
        (pe_one (pe_callB call_isi (by rfl) T.isi (by decide +kernel) (pa_cons (pe_ix ix_tup (pv 0) pe_int (fun _ _ => rfl)) (pa_cons (pe_bltn (v := .ty "tuple") (by rfl) B.tuple (by decide +kernel) rfl) pa_nil))))))) pss_nil)
    (pss_one (ps_ret pe_bl))))), ?_⟩
  cases s with
  | one w =>
    rw [Stm.at] at hs
    obtain ⟨a, rfl, ha⟩ := hs
    refine ⟨_, rfl, _, _, _, _, true, rfl, .ty "tuple", .base (.tup ha), kit_ty (by decide +kernel), true, rfl, iteF ?_⟩
    refine ⟨_, rfl, true, .inr (.inl ⟨_, SqT.of ha, rfl⟩), iteF ?_⟩
    refine ⟨_, rfl, a, _, _, _, rfl, rfl, SqT.of ha, rfl, ?_⟩
    refine ⟨_, rfl, _, _, _, _, true, rfl, .ty "str", .base (.str _), kit_ty (by decide +kernel), true, rfl, iteF ?_⟩
    refine ⟨_, rfl, a, _, rfl, .inr (SqT.of ha), _, rfl, it, _, _, rfl, rfl, T.kg _ _ (wd_it w), rfl, _, rfl, iteNS rfl ?_⟩
    exact ⟨_, rfl, rfl, _, rfl, iteFb (wd_ne w) q⟩
  | nam b z =>
    rw [Stm.at] at hs
    obtain ⟨a, rfl, ha⟩ := hs
    refine ⟨_, rfl, _, _, _, _, true, rfl, .ty "tuple", .base (.tup ha), kit_ty (by decide +kernel), true, rfl, iteF ?_⟩
    refine ⟨_, rfl, true, .inr (.inl ⟨_, SqT.of ha, rfl⟩), iteF ?_⟩
    refine ⟨_, rfl, a, _, _, _, rfl, rfl, SqT.of ha, rfl, ?_⟩
    refine ⟨_, rfl, _, _, _, _, true, rfl, .ty "str", .base (.str _), kit_ty (by decide +kernel), true, rfl, iteF ?_⟩
    refine ⟨_, rfl, a, _, rfl, .inr (SqT.of ha), _, rfl, it, _, _, rfl, rfl, T.kg _ _ (lk_it b), rfl, _, rfl, iteNS rfl ?_⟩
    exact ⟨_, rfl, rfl, _, rfl, iteFb (lk_ne b) q⟩
  | ch y n =>
    rw [Stm.at] at hs
    obtain ⟨a, b, c, xs, ys, rfl, ha, hb, _, hc, _⟩ := hs
    refine ⟨_, rfl, _, _, _, _, true, rfl, .ty "tuple", .base (.tup ha), kit_ty (by decide +kernel), true, rfl, iteF ?_⟩
    refine ⟨_, rfl, true, .inr (.inl ⟨_, SqT.of ha, rfl⟩), iteF ?_⟩
    refine ⟨_, rfl, a, _, _, _, rfl, rfl, SqT.of ha, rfl, ?_⟩
    refine ⟨_, rfl, _, _, _, _, true, rfl, .ty "str", .base (.str _), kit_ty (by decide +kernel), true, rfl, iteF ?_⟩
    refine ⟨_, rfl, a, _, rfl, .inr (SqT.of ha), _, rfl, it, _, _, rfl, rfl, T.kg _ _ ch_it, rfl, _, rfl, iteNS rfl ?_⟩
    refine ⟨_, rfl, rfl, _, rfl, iteTb (by decide +kernel) ?_⟩
    refine ⟨_, rfl, a, _, _, _, rfl, rfl, SqT.of ha, rfl, _, _, _, _, true, rfl, .ty "tuple", .base (.tup hb), kit_ty (by decide +kernel), true, rfl, iteT ?_⟩
    exact ⟨_, rfl, a, _, _, _, rfl, rfl, SqT.of ha, rfl, _, _, _, _, true, rfl, .ty "tuple", .base (.tup hc), kit_ty (by decide +kernel), q⟩
theorem wd_in (w : Wd) : inV (V.str w.s) [V.str "lock", V.str "unlock"] = false := by cases w <;> decide +kernel
theorem lk_in (b : Bool) : inV (V.str (lockS b)) [V.str "lock", V.str "unlock"] = true := by cases b <;> decide +kernel
theorem ch_in : inV (V.str "choose") [V.str "lock", V.str "unlock"] = false := by decide +kernel
theorem lk_tk (b : Bool) : decide (V.str (lockS b) = V.str "take") = false := by cases b <;> decide +kernel
theorem wd_tk (w : Wd) : decide (V.str w.s = V.str "take") = decide (w = .take) := by cases w <;> decide +kernel
theorem scFO : FnScope ["statement", "place", "earlier", "held", "word"] ["statement", "place", "earlier", "held"] (defScope sFault) := ⟨rfl, rfl, rfl, by decide +kernel, rfl, by decide +kernel, by decide +kernel⟩
theorem ok_fault {f fF fN : Addr} {fd fdF fdN : FuncData} (F : Fun K "fault_of" "fault_of" sFault f fd) (B : Bl mg) (T : Txt K w mg CS CK it)
    (GF : FnOk P w K mg base CX0 1 fF fdF ["statement"] spForm) (bF : Binds K fdF ["statement"] []) (kF : PySem.W.keepIn K (.ref fF) = true) (mF : mg "has_form" = some (.ref fF))
    (GN : FnOk P w K mg base CX0 1 fN fdN ["value"] spIsName) (bN : Binds K fdN ["value"] []) (kN : PySem.W.keepIn K (.ref fN) = true) (mN : mg "is_name" = some (.ref fN)) :
    FnOk P w K mg base CX0 2 f fd ["statement", "place", "earlier", "held"] spFault := by
  refine F.ok scFO (fun vs H Q E h => ?_) (fun cdv A outer s H vs Q E hr h => ?_)
  · obtain ⟨v, u, e, h, s, d, p, rfl, _⟩ := h
    rfl
  obtain ⟨v, u, e, h, s, d, p, rfl, hs, hu, hp, e8, ok, q⟩ := h
  obtain ⟨t1, g1⟩ := T.mSt
  obtain ⟨t2, g2⟩ := T.mNe
  obtain ⟨t3, g3⟩ := T.mHe
  refine ⟨_, pss_cons (ps_if (pt_cmpR op_eq (pv 2) (pe_glob (v := .int 8) (by rfl) g1 ⟨_, rfl⟩) (nomark _)) (pss_one (ps_ret pe_str)) pss_nil)
    (pss_cons (ps_if (pt_not (pt_val (pe_call GF hr rfl mF kF bF .nil pass0 (pa_cons (pv 0) pa_nil)))) (pss_one (ps_ret pe_str)) pss_nil)
    (pss_cons (ps_set (i := 4) scFO.nd rfl (Or.inl rfl) (pe_ix ix_tup (pv 0) pe_int (fun _ _ => rfl)))
    (pss_cons (ps_if (PW.pt (pw_and (pt_cmpR op_eq (pv 4) pe_str (nomark _)) (pw_and1 (pt_cmpR op_eq (pe_op op_fdivN (pe_callB call_len_seq (by rfl) B.len PySem.boot_len (pa_cons (pv 1) pa_nil)) pe_int) (pe_glob (v := .int 2) (by rfl) g2 ⟨_, rfl⟩) (nomark _))))) (pss_one (ps_ret pe_str)) pss_nil)
    (pss_cons (ps_if (PW.pt (pw_and (pt_cmpR op_in_seq (pv 4) (pe_tup (pa_cons pe_str (pa_cons pe_str pa_nil))) (by rfl)) (pw_and1 (pt_not (pt_val (pe_call GN hr rfl mN kN bN .nil pass0 (pa_cons (pe_ix ix_tup (pv 0) pe_int (fun _ _ => rfl)) pa_nil))))))) (pss_one (ps_ret pe_str)) pss_nil)
    (pss_cons (ps_if (PW.pt (pw_and (pt_cmpR op_eq (pv 4) pe_str (nomark _)) (pw_and1 (pt_cmpR op_eq (pv 3) (pe_glob (v := .int 3) (by rfl) g3 ⟨_, rfl⟩) (nomark _))))) (pss_one (ps_ret pe_str)) pss_nil)
    (pss_one (ps_ret pe_non))))))), ?_⟩
  have ne8 : decide (V.int e = V.int 8) = false := decide_eq_false (fun z => e8 (by injection z))
  refine ⟨_, rfl, rfl, _, rfl, iteFb ne8 ?_⟩
  refine ⟨_, rfl, v, s, rfl, hs, true, rfl, iteF ?_⟩
  cases s with
  | one wd =>
    rw [Stm.at] at hs
    obtain ⟨a, rfl, ha⟩ := hs
    rw [Stm.ok] at ok
    refine ⟨_, rfl, a, _, _, _, rfl, rfl, SqT.of ha, rfl, ?_⟩
    refine ⟨_, rfl, rfl, _, rfl, iteFb (wd_ne wd) ?_⟩
    refine ⟨_, rfl, (by show 2 ≤ sizeLine; decide), fun t ht => ⟨t, _, rfl, .inr (SqT.of upd_same), rfl, rfl, _, rfl, iteFb (wd_in wd) ?_⟩⟩
    refine ⟨_, rfl, rfl, _, rfl, ?_⟩
    rw [wd_tk]
    by_cases c : wd = .take
    · refine iteTb (decide_eq_true c) ⟨_, rfl, rfl, _, rfl, iteFb (decide_eq_false (fun z => ok c (by injection z))) (q _ (same_new ht _))⟩
    · exact iteFb (decide_eq_false c) (q _ (same_new ht _))
  | nam b z =>
    rw [Stm.at] at hs
    obtain ⟨a, rfl, ha⟩ := hs
    rw [Stm.ok] at ok
    refine ⟨_, rfl, a, _, _, _, rfl, rfl, SqT.of ha, rfl, ?_⟩
    refine ⟨_, rfl, rfl, _, rfl, iteFb (lk_ne b) ?_⟩
    refine ⟨_, rfl, (by show 2 ≤ sizeLine; decide), fun t ht => ⟨t, _, rfl, .inr (SqT.of upd_same), rfl, rfl, _, rfl, iteTb (lk_in b) ?_⟩⟩
    refine ⟨_, rfl, a, _, _, _, rfl, rfl, SqT.of ((same_new ht _) a _ ha), rfl, z, rfl, Nat.le_trans ok.2.1 (by decide), fun H2 s2 => ⟨_, rfl, ?_⟩⟩
    rw [nameB_of ok]
    refine iteF ⟨_, rfl, rfl, _, rfl, iteFb (lk_tk b) (q _ ((same_new ht _).trans s2))⟩
  | ch y n =>
    rw [Stm.at] at hs
    obtain ⟨a, b, c, xs, ys, rfl, ha, hb, _, hc, _⟩ := hs
    rw [Stm.ok] at ok
    refine ⟨_, rfl, a, _, _, _, rfl, rfl, SqT.of ha, rfl, ?_⟩
    refine ⟨_, rfl, rfl, _, rfl, iteTb (by decide +kernel) ?_⟩
    refine ⟨_, rfl, u, _, rfl, .inr (SqT.of hu), _, _, rfl, rfl, ⟨by decide, by decide⟩, rfl, _, rfl, ?_⟩
    have e1 : ((p.length : Nat) : Int).fdiv 2 = d := by
      rw [hp, Int.fdiv_eq_ediv_of_nonneg _ (by decide)]; omega
    refine iteFb ?_ ?_
    · show decide (V.int (((p.length : Nat) : Int).fdiv 2) = V.int 2) = false
      rw [e1]
      exact decide_eq_false (fun z => by injection z with z; omega)
    · refine ⟨_, rfl, (by show 2 ≤ sizeLine; decide), fun t ht => ⟨t, _, rfl, .inr (SqT.of upd_same), rfl, rfl, _, rfl, iteFb ch_in ?_⟩⟩
      exact ⟨_, rfl, rfl, _, rfl, iteFb (by decide +kernel) (q _ (same_new ht _))⟩
end
end Tk
set_option maxRecDepth 100000
namespace Tk
open PySem L2
def CkE (CK : Addr) (H : Hp) (c dd : Addr) (W : List (Pl × Stm)) : Prop := (∃ dx, H c = some (.ins CK dx [("found", .ref dd)])) ∧ ∃ kvs, H dd = some (.dT kvs) ∧ FRel H kvs W
theorem CkE.keep {CK : Addr} {H H' : Hp} {c dd : Addr} {W : List (Pl × Stm)} (x : CkE CK H c dd W) (s : Same H H') : CkE CK H' c dd W := by
  obtain ⟨⟨dx, h1⟩, kvs, h2, h3⟩ := x
  exact ⟨⟨dx, s _ _ h1⟩, kvs, s _ _ h2, h3.keep (TK.of_same s)⟩
theorem Kp.tkD {dd : Addr} {H H' : Hp} {kvs : List (List Key × V)} (k : Kp dd H H') (hp : H dd = some (.dT kvs)) : TK H H' := fun a xs h => k a _ h (ne_of h hp (by intro z; cases z))
abbrev psKB : List Str := ["self", "branch", "above", "held"]
abbrev psKS : List Str := ["self", "statement", "place", "held"]
def spKInit (CK : Addr) : Sp := fun vs H Q _ => ∃ c dx : Addr, vs = [.ref c] ∧ H c = some (.ins CK dx []) ∧ ∀ (dd : Addr) (H' : Hp), H dd = none → CkE CK H' c dd [] → (∀ b o, H b = some o → b ≠ c → H' b = some o) → Q .non H'
def spKS (CK : Addr) (m : Nat) : Sp := fun vs H Q _ => ∃ (c dd u : Addr) (v : V) (h : Int) (s : Stm) (d : Nat) (p : Pl) (W : List (Pl × Stm)), vs = [.ref c, v, .ref u, .int h] ∧ d + m = 3 ∧ d ≤ 2 ∧ CkE CK H c dd W ∧ s.at H v ∧ H u = some (.tup (p.map V.int)) ∧
  p.length = 2 * d + 1 ∧ s.ok d h ∧ W.length + s.cnt ≤ 8 ∧ (∀ q, lk W (p ++ q) = none) ∧ ∀ H', CkE CK H' c dd (W ++ s.walk p) → Kp dd H H' → Q (.int (s.held h)) H'
def spKB (CK : Addr) (m : Nat) : Sp := fun vs H Q _ => ∃ (c dd t u : Addr) (xs : List V) (h : Int) (B : List Stm) (d : Nat) (p : Pl) (W : List (Pl × Stm)), vs = [.ref c, .ref t, .ref u, .int h] ∧ d + m = 3 ∧ d ≤ 2 ∧ CkE CK H c dd W ∧ H t = some (.tup xs) ∧ atAll H xs B ∧ H u = some (.tup (p.map V.int)) ∧
  p.length = 2 * d ∧ okAll d B h ∧ W.length + cntAll B ≤ 8 ∧ (∀ j q, lk W (p ++ j :: q) = none) ∧ ∀ H', CkE CK H' c dd (W ++ walkAll B p 0) → Kp dd H H' → Q (.int (heldAll B h)) H'
theorem small {n : Nat} (h : n ≤ 1000) : n ≤ sizeLine := Nat.le_of_lt (small1000 h)
section
variable {P : Program} {w : World} {K : PySem.W.Frag} {mg : Str → Option Value} {base : Heap} {CS CK it : Addr}
theorem scKI : FnScope ["self"] ["self"] (defScope sKInit) := ⟨rfl, rfl, rfl, by decide +kernel, rfl, by decide +kernel, by decide +kernel⟩
theorem ok_kinit {f : Addr} {fd : FuncData} (F : Fun K "__init__" "Check.__init__" sKInit f fd) (T : Txt K w mg CS CK it) : FnOk P w K mg base CX0 1 f fd ["self"] (spKInit CK) := by
  refine F.ok scKI (fun vs H Q E h => ?_) (fun cdv A outer s H vs Q E hr h => ?_)
  · obtain ⟨c, dx, rfl, _⟩ := h
    rfl
  obtain ⟨c, dx, rfl, hc, q⟩ := h
  refine ⟨_, pss_one (ps_fld (pv 0) pe_dnewT rfl), ?_⟩
  intro dd hd
  have n : c ≠ dd := ne_of_none hc hd
  refine ⟨_, rfl, c, CK, dx, [], rfl, (by rw [upd_ne n]; exact hc), T.clK, T.kF, (by show 0 < 1000; decide), ?_⟩
  refine q dd _ hd ⟨⟨dx, upd_same⟩, [], by rw [upd_ne n.symm, upd_same], trivial⟩ fun b o e hb => ?_
  rw [upd_ne hb, upd_ne (ne_of_none e hd)]
  exact e
/-- above + (index,) : what follows gets the new place -/
theorem cat_one {H : Hp} {u : Addr} {p : Pl} {j : Int} {X : V → Hp → Prop} (hu : H u = some (.tup (p.map V.int))) (hp : p.length ≤ 10) (k : ∀ y H', H' y = some (.tup ((p ++ [j]).map V.int)) → Same H H' → X (.ref y) H') :
    ∀ t, H t = none → rCatA K (.ref u) (.ref t) (L2.upd H t (.tup [.int j])) X := by
  intro t ht
  have s1 := same_new ht (.tup [.int j])
  refine ⟨u, t, _, _, rfl, rfl, SqT.of (s1 _ _ hu), SqT.of upd_same, small (by simp; omega), (fun e => ?_), (fun _ e => nomatch e), fun _ _ z hz => ?_⟩
  · refine k t _ ?_ s1
    have e' : p = [] := List.map_eq_nil_iff.mp e
    rw [upd_same, e']; rfl
  · refine k z _ ?_ (s1.trans (same_new hz _))
    rw [upd_same, List.map_append]; rfl
theorem scKB : FnScope ["self", "branch", "above", "held", "index", "statement"] psKB (defScope sKBr) := ⟨rfl, rfl, rfl, by decide +kernel, rfl, by decide +kernel, by decide +kernel⟩
theorem ok_kbr {m n : Nat} {f fS : Addr} {fd fdS : FuncData} (F : Fun K "check_branch" "Check.check_branch" sKBr f fd) (T : Txt K w mg CS CK it) (GS : FnOk P w K mg base CX0 n fS fdS psKS (spKS CK m)) (bS : Binds K fdS psKS []) (mS : Meth K CK "check_statement" fS) :
    FnOk P w K mg base CX0 (n + 1) f fd psKB (spKB CK m) := by
  refine F.ok scKB (fun vs H Q E h => ?_) (fun cdv A outer s H vs Q E hr h => ?_)
  · obtain ⟨c, dd, t, u, xs, h, B, d, p, W, rfl, _⟩ := h
    rfl
  obtain ⟨c, dd, t, u, xs, h, B, d, p, W, rfl, hd3, hd2, C, ht, hB, hu, hp, ok, hn, hW, q⟩ := h
  refine ⟨_, pss_cons (ps_for PassesOwn.never rfl (pi_enumT rfl T.enum (pa_cons (pv 1) pa_nil)) (pg_tup rfl (pgs_cons (pg_name (i := 4) scKB.nd rfl (.inl rfl)) (pgs_cons (pg_name (i := 5) scKB.nd rfl (.inl rfl)) pgs_nil)))
      (pss_one (ps_set (i := 3) scKB.nd rfl (Or.inl rfl) (pe_meth (pv 0) T.clK mS GS hr bS .nil pass0 (pa_cons (pv 5) (pa_cons (pe_op op_catA (pv 2) (pe_tup (pa_cons (pv 4) pa_nil))) (pa_cons (pv 3) pa_nil)))))))
    (pss_one (ps_ret (pv 3))), ?_⟩
  have hl := atAll_len hB
  have hb8 : B.length ≤ 8 := Nat.le_trans (len_le_cnt B) (by omega)
  refine ⟨_, rfl, t, xs, rfl, SqT.of ht, for_enumT (xs := xs) (fun i σ H2 => ∃ v4 v5 : Option V, σ = [some (.ref c), some (.ref t), some (.ref u), some (.int (heldAll (B.take i) h)), v4, v5] ∧ i ≤ B.length ∧ CkE CK H2 c dd (W ++ walkAll (B.take i) p 0) ∧ Kp dd H H2) ?_ ?_ ?_ ?_⟩
  · exact ⟨none, none, by rw [List.take_zero, heldAll]; rfl, Nat.zero_le _, by rw [List.take_zero, walkAll, List.append_nil]; exact C, Kp.refl _ _⟩
  · rintro i σ H2 _ ⟨v4, v5, rfl, _, C2, k2⟩
    obtain ⟨_, kvs, hk, _⟩ := C
    exact SqT.of (k2.tkD hk _ _ ht)
  · rintro i x Tp σ H2 hx ⟨v4, v5, rfl, hi, C2, k2⟩ hT
    obtain ⟨_, kvs, hk, _⟩ := id C
    have tk := k2.tkD hk
    have lt : i < B.length := by have := (List.getElem?_eq_some_iff.mp hx).1; omega
    have hs : B[i]? = some B[i] := List.getElem?_eq_getElem lt
    obtain ⟨v, hv, sv⟩ := atAll_get hB hs
    have exv : x = v := Option.some.inj (hx.symm.trans hv)
    subst exv
    have s1 := same_new hT (.tup [.int (i : Nat), x])
    have et : B.take (i + 1) = B.take i ++ [B[i]] := by rw [List.take_add_one, hs]; rfl
    have okB : okAll d (B.take i) h ∧ B[i].ok d (heldAll (B.take i) h) := by
      have z : B = B.take i ++ (B[i] :: B.drop (i + 1)) := by rw [← List.drop_eq_getElem_cons lt, List.take_append_drop]
      have app : ∀ (X Y : List Stm) (h : Int), okAll d (X ++ Y) h → okAll d X h ∧ okAll d Y (heldAll X h) := by
        intro X
        induction X with
        | nil => intro Y h g; exact ⟨by rw [okAll]; trivial, by rw [heldAll]; exact g⟩
        | cons a r ih =>
          intro Y h g
          have g' : okAll d (a :: (r ++ Y)) h := g
          rw [okAll] at g'
          obtain ⟨g1, g2⟩ := ih Y _ g'.2
          exact ⟨by rw [okAll]; exact ⟨g'.1, g1⟩, by rw [heldAll]; exact g2⟩
      rw [z] at ok
      obtain ⟨o1, o2⟩ := app _ _ _ ok
      rw [okAll] at o2
      exact ⟨o1, o2.1⟩
    refine ⟨Tp, _, rfl, SqT.of upd_same, rfl, _, _, rfl, _, _, rfl, rfl, ?_⟩
    obtain ⟨⟨dx, hc⟩, _⟩ := C2.keep s1
    refine ⟨_, rfl, c, dx, _, rfl, hc, rfl, _, rfl, _, rfl, _, rfl, (by show 1 ≤ sizeLine; decide), ?_⟩
    refine fun t2 ht2 => cat_one (p := p) (j := (i : Nat)) (s1 _ _ (tk _ _ hu)) (by omega) (fun y H3 hy s3 => ?_) t2 ht2
    have s13 := s1.trans s3
    have cn : cntAll (B.take i) + B[i].cnt ≤ cntAll B := by
      have z : B = B.take i ++ (B[i] :: B.drop (i + 1)) := by rw [← List.drop_eq_getElem_cons lt, List.take_append_drop]
      have z2 := congrArg cntAll z
      rw [cntAll_app, cntAll] at z2
      omega
    refine ⟨_, rfl, c, dd, y, x, _, B[i], d, p ++ [((i : Nat) : Int)], _, rfl, hd3, hd2, C2.keep s13, Stm.at_keep (tk.trans (TK.of_same s13)) _ _ sv, hy, by rw [List.length_append, hp]; rfl, okB.2, ?_, ?_, fun H4 C4 k4 => ?_⟩
    · rw [List.length_append, walkAll_len]; omega
    · intro q'
      have e : (p ++ [((i : Nat) : Int)]) ++ q' = p ++ ((i : Nat) : Int) :: q' := by simp
      rw [e, lk_app, hW, walkAll_lk]
      have z : nth (B.take i) (((i : Nat) : Int) - ((0 : Nat) : Int)) = none := by
        unfold nth
        rw [if_pos (by omega), List.getElem?_eq_none (by rw [List.length_take]; omega)]
      rw [z]; rfl
    · refine ⟨some (.int (i : Nat)), some x, ?_, lt, ?_, (k2.trans (Kp.of_same s13)).trans k4⟩
      · rw [et, heldAll_snoc]; rfl
      · rw [et, walkAll_snoc]
        have e : 0 + (B.take i).length = i := by rw [List.length_take]; omega
        rw [e, ← List.append_assoc]
        exact C4
  · rintro σ H2 ⟨v4, v5, rfl, hi, C2, k2⟩
    rw [hl, List.take_length] at C2
    refine ⟨_, rfl, ?_⟩
    rw [hl, List.take_length]
    exact q H2 C2 k2
theorem wd_lv (w : Wd) : inV (V.str w.s) [V.str "commit", V.str "rollback", V.str "leave"] = decide (w = .commit ∨ w = .rollback ∨ w = .leave) := by cases w <;> decide +kernel
theorem lk_lv (b : Bool) : inV (V.str (lockS b)) [V.str "commit", V.str "rollback", V.str "leave"] = false := by cases b <;> decide +kernel
def heldS (z : Str) (h : Int) : Int := if z = "take" then h + 1 else if inV (V.str z) [V.str "commit", V.str "rollback", V.str "leave"] = true then 0 else h
theorem heldS_wd (w : Wd) (h : Int) : heldS w.s h = w.held h := by
  unfold heldS
  rw [wd_lv]
  cases w <;> first | rfl | (rw [if_neg (by decide +kernel)]; rfl)
theorem heldS_lk (b : Bool) (h : Int) : heldS (lockS b) h = h := by
  unfold heldS
  rw [lk_lv]
  cases b <;> (rw [if_neg (by decide +kernel)]; rfl)
def spHeld : Sp := fun vs H Q _ => ∃ (z : Str) (h : Int), vs = [.str z, .int h] ∧ ∀ H', Same H H' → Q (.int (heldS z h)) H'
theorem scHA : FnScope ["word", "held"] ["word", "held"] (defScope sHeld) := ⟨rfl, rfl, rfl, by decide +kernel, rfl, by decide +kernel, by decide +kernel⟩
theorem ok_held {f : Addr} {fd : FuncData} (F : Fun K "held_after" "held_after" sHeld f fd) : FnOk P w K mg base CX0 1 f fd ["word", "held"] spHeld := by
  refine F.ok scHA (fun vs H Q E h => ?_) (fun cdv A outer s H vs Q E hr h => ?_)
  · obtain ⟨z, h, rfl, _⟩ := h
    rfl
  obtain ⟨z, h, rfl, q⟩ := h
  refine ⟨_, pss_cons (ps_if (pt_cmpR op_eq (pv 0) pe_str (nomark _)) (pss_one (ps_ret (pe_op op_add (pv 1) pe_int))) pss_nil)
    (pss_one (ps_ret (pe_ifExp (pt_cmpR op_in_seq (pv 0) (pe_tup (pa_cons pe_str (pa_cons pe_str (pa_cons pe_str pa_nil)))) (by rfl)) pe_int (pv 1)))), ?_⟩
  refine ⟨_, rfl, rfl, _, rfl, ?_⟩
  by_cases ct : z = "take"
  · subst ct
    exact iteTb (decide_eq_true rfl) ⟨_, rfl, _, _, rfl, rfl, by have := q H (Same.refl H); rwa [show heldS "take" h = h + 1 from rfl] at this⟩
  · refine iteFb (decide_eq_false (fun e => ct (V.str.inj e))) ?_
    refine ⟨_, rfl, (by show 3 ≤ sizeLine; decide), fun t htn => ⟨t, _, rfl, .inr (SqT.of upd_same), rfl, rfl, _, rfl, ?_⟩⟩
    have fin := q _ (same_new htn (.tup [.str "commit", .str "rollback", .str "leave"]))
    unfold heldS at fin
    rw [if_neg ct] at fin
    show if (inV (V.str z) [V.str "commit", V.str "rollback", V.str "leave"]) = true then _ else _
    by_cases c : inV (V.str z) [V.str "commit", V.str "rollback", V.str "leave"] = true
    · rw [if_pos c] at fin
      exact iteTb c fin
    · rw [if_neg c] at fin
      exact iteFb (by simpa using c) ⟨_, rfl, fin⟩
theorem scKS : FnScope ["self", "statement", "place", "held", "why", "yes", "no"] psKS (defScope sKSt) := ⟨rfl, rfl, rfl, by decide +kernel, rfl, by decide +kernel, by decide +kernel⟩
theorem ok_kst {m n : Nat} {f fB fF fH : Addr} {fd fdB fdF fdH : FuncData} (hn : 2 ≤ n) (F : Fun K "check_statement" "Check.check_statement" sKSt f fd) (B : Bl mg) (T : Txt K w mg CS CK it) (GB : FnOk P w K mg base CX0 n fB fdB psKB (spKB CK m)) (bB : Binds K fdB psKB []) (mB : Meth K CK "check_branch" fB)
    (GF : FnOk P w K mg base CX0 2 fF fdF ["statement", "place", "earlier", "held"] spFault) (bF : Binds K fdF ["statement", "place", "earlier", "held"] []) (kF : PySem.W.keepIn K (.ref fF) = true) (mF : mg "fault_of" = some (.ref fF))
    (GH : FnOk P w K mg base CX0 1 fH fdH ["word", "held"] spHeld) (bH : Binds K fdH ["word", "held"] []) (kH : PySem.W.keepIn K (.ref fH) = true) (mH : mg "held_after" = some (.ref fH)) :
    FnOk P w K mg base CX0 (n + 1) f fd psKS (spKS CK (m + 1)) := by
  refine F.ok scKS (fun vs H Q E h => ?_) (fun cdv A outer s H vs Q E hr h => ?_)
  · obtain ⟨c, dd, u, v, h, s, d, p, W, rfl, _⟩ := h
    rfl
  obtain ⟨c, dd, u, v, h, s, d, p, W, rfl, hd3, hd2, C, hs, hu, hp, ok, hn8, hW, q⟩ := h
  have hu' := hu_of hr
  have hr2 : Room 2 _ := hr.mono hn
  have hr1 : Room 1 _ := hr2.mono (by decide)
  refine ⟨_, pss_cons (ps_set (i := 4) scKS.nd rfl (Or.inl rfl) (pe_call GF hr2 rfl mF kF bF .nil pass0 (pa_cons (pv 1) (pa_cons (pv 2) (pa_cons (pe_callB call_len_dT (by rfl) B.len PySem.boot_len (pa_cons (pe_fld (pv 0) rfl) pa_nil)) (pa_cons (pv 3) pa_nil))))))
    (pss_cons (ps_if (pt_cmpR op_notN (pv 4) pe_non (nomark _)) (pss_one ps_never) pss_nil)
    (pss_cons (ps_dput hu' (pe_fld (pv 0) rfl) (pv 2) (pv 1) rfl)
    (pss_cons (ps_if (pt_cmpR op_eq (pe_ix ix_tup (pv 1) pe_int (fun _ _ => rfl)) pe_str (nomark _))
      (pss_cons (ps_set (i := 5) scKS.nd rfl (Or.inl rfl) (pe_meth (pv 0) T.clK mB GB hr bB .nil pass0 (pa_cons (pe_ix ix_tup (pv 1) pe_int (fun _ _ => rfl)) (pa_cons (pe_op op_catA (pv 2) (pe_tup (pa_cons pe_int pa_nil))) (pa_cons (pv 3) pa_nil)))))
      (pss_cons (ps_set (i := 6) scKS.nd rfl (Or.inl rfl) (pe_meth (pv 0) T.clK mB GB hr bB .nil pass0 (pa_cons (pe_ix ix_tup (pv 1) pe_int (fun _ _ => rfl)) (pa_cons (pe_op op_catA (pv 2) (pe_tup (pa_cons pe_int pa_nil))) (pa_cons (pv 3) pa_nil)))))
      (pss_one (ps_ret (pe_callB (call_max2 rfl) (by rfl) B.max (by decide +kernel) (pa_cons (pv 5) (pa_cons (pv 6) pa_nil))))))) pss_nil)
    (pss_one (ps_ret (pe_call GH hr1 rfl mH kH bH .nil pass0 (pa_cons (pe_ix ix_tup (pv 1) pe_int (fun _ _ => rfl)) (pa_cons (pv 3) pa_nil)))))))), ?_⟩
  obtain ⟨⟨dx, hc⟩, kvs, hk, fr⟩ := id C
  have wl := fr.len
  have sp := cnt_pos s
  refine ⟨_, rfl, _, rfl, _, rfl, c, CK, dx, _, _, rfl, hc, T.clK, T.kF, rfl, dd, kvs, rfl, hk, _, rfl, v, u, _, h, s, d, _, rfl, hs, hu, by rw [List.length_map]; exact hp, by omega, ok, fun H1 s1 => ?_⟩
  refine ⟨_, rfl, rfl, _, rfl, iteF ?_⟩
  have ekv : (key p).map kV = p.map V.int := key_kV p
  have nodd : c ≠ dd := ne_of (s1 _ _ hc) (s1 _ _ hk) (by intro z; cases z)
  refine ⟨_, rfl, _, rfl, c, CK, dx, _, _, rfl, s1 _ _ hc, T.clK, T.kF, rfl, _, rfl, dd, _, rfl, DPut.t (k := key p) (s1 _ _ hk) (by rw [ekv]; exact s1 _ _ hu) (small1000 (by omega)), ?_⟩
  have non : valV kvs (key p) = none := (fr.val p).1 (by have := hW []; rwa [List.append_nil] at this)
  rw [putK_new _ non]
  have k2 : Kp dd H (L2.upd H1 dd (.dT (kvs ++ [(key p, v)]))) := (Kp.of_same s1).trans Kp.upd
  have tk2 : TK H (L2.upd H1 dd (.dT (kvs ++ [(key p, v)]))) := k2.tkD hk
  have C2 : CkE CK (L2.upd H1 dd (.dT (kvs ++ [(key p, v)]))) c dd (W ++ [(p, s)]) := ⟨⟨dx, by rw [upd_ne nodd]; exact s1 _ _ hc⟩, _, upd_same, FRel.snoc (Stm.at_keep tk2 _ _ hs) (fr.keep tk2)⟩
  generalize L2.upd H1 dd (.dT (kvs ++ [(key p, v)])) = H2 at k2 tk2 C2 ⊢
  have hs2 := Stm.at_keep tk2 _ _ hs
  have hu2 := tk2 _ _ hu
  cases s with
  | one wd =>
    rw [Stm.at] at hs2
    obtain ⟨a, rfl, ha⟩ := hs2
    have ew : (Stm.one wd).walk p = [(p, .one wd)] := by rw [Stm.walk]
    have eh : (Stm.one wd).held h = wd.held h := by rw [Stm.held]
    rw [ew, eh] at q
    refine ⟨_, rfl, a, _, _, _, rfl, rfl, SqT.of ha, rfl, ?_⟩
    refine ⟨rfl, _, rfl, iteFb (wd_ne wd) ?_⟩
    refine ⟨_, rfl, a, _, _, _, rfl, rfl, SqT.of ha, rfl, _, rfl, _, _, rfl, fun H3 s3 => ?_⟩
    rw [heldS_wd]
    exact q _ (C2.keep s3) (k2.trans (Kp.of_same s3))
  | nam b z =>
    rw [Stm.at] at hs2
    obtain ⟨a, rfl, ha⟩ := hs2
    have ew : (Stm.nam b z).walk p = [(p, .nam b z)] := by rw [Stm.walk]
    have eh : (Stm.nam b z).held h = h := by rw [Stm.held]
    rw [ew, eh] at q
    refine ⟨_, rfl, a, _, _, _, rfl, rfl, SqT.of ha, rfl, ?_⟩
    refine ⟨rfl, _, rfl, iteFb (lk_ne b) ?_⟩
    refine ⟨_, rfl, a, _, _, _, rfl, rfl, SqT.of ha, rfl, _, rfl, _, _, rfl, fun H3 s3 => ?_⟩
    rw [heldS_lk]
    exact q _ (C2.keep s3) (k2.trans (Kp.of_same s3))
  | ch y n' =>
    rw [Stm.at] at hs2
    obtain ⟨a, b1, b2, xs, ys, rfl, ha, hb1, aty, hb2, atn⟩ := hs2
    have ew : (Stm.ch y n').walk p = (p, .ch y n') :: (walkAll y (p ++ [0]) 0 ++ walkAll n' (p ++ [1]) 0) := by rw [Stm.walk]
    have eh : (Stm.ch y n').held h = max (heldAll y h) (heldAll n' h) := by rw [Stm.held]
    have ec : (Stm.ch y n').cnt = 1 + cntAll y + cntAll n' := by rw [Stm.cnt]
    rw [ew, eh] at q
    rw [ec] at hn8
    rw [Stm.ok] at ok
    refine ⟨_, rfl, a, _, _, _, rfl, rfl, SqT.of ha, rfl, ?_⟩
    refine ⟨rfl, _, rfl, iteTb (by decide +kernel) ?_⟩
    obtain ⟨dx2, hc2⟩ := C2.1
    have kvd : ∃ kv2, H2 dd = some (.dT kv2) := let ⟨_, x, y, _⟩ := C2; ⟨x, y⟩
    obtain ⟨kv2, hk2⟩ := kvd
    refine ⟨_, rfl, c, dx2, _, rfl, hc2, rfl, _, rfl, a, _, _, _, rfl, rfl, SqT.of ha, rfl, _, rfl, (by show 1 ≤ sizeLine; decide), ?_⟩
    refine fun t2 ht2 => cat_one (p := p) (j := 0) hu2 (by omega) (fun y1 H3 hy1 s3 => ?_) t2 ht2
    have tk3 := TK.of_same s3
    refine ⟨_, rfl, c, dd, b1, y1, xs, h, y, d + 1, p ++ [0], W ++ [(p, .ch y n')], rfl, by omega, by omega, C2.keep s3, s3 _ _ hb1, atAll_keep tk3 _ _ aty, hy1, by rw [List.length_append, hp]; show 2 * d + 1 + 1 = _; omega, ok.2.1, by rw [List.length_append]; show W.length + 1 + cntAll y ≤ 8; omega, ?_, fun H4 C4 k4 => ?_⟩
    · intro j q'
      have e : (p ++ [(0 : Int)]) ++ j :: q' = p ++ ((0 : Int) :: j :: q') := by simp
      rw [lk_app, e, hW, lk, if_neg (fun z => by have := congrArg List.length z; simp at this), lk]; rfl
    have tk4 : TK H3 H4 := k4.tkD (s3 _ _ hk2)
    have tk34 := tk3.trans tk4
    obtain ⟨dx4, hc4⟩ := C4.1
    refine ⟨_, rfl, c, dx4, _, rfl, hc4, rfl, _, rfl, a, _, _, _, rfl, rfl, SqT.of (tk34 _ _ ha), rfl, _, rfl, (by show 1 ≤ sizeLine; decide), ?_⟩
    refine fun t5 ht5 => cat_one (p := p) (j := 1) (tk34 _ _ hu2) (by omega) (fun y2 H5 hy2 s5 => ?_) t5 ht5
    have tk5 := tk34.trans (TK.of_same s5)
    refine ⟨_, rfl, c, dd, b2, y2, ys, h, n', d + 1, p ++ [1], _, rfl, by omega, by omega, C4.keep s5, tk5 _ _ hb2, atAll_keep tk5 _ _ atn, hy2, by rw [List.length_append, hp]; show 2 * d + 1 + 1 = _; omega, ok.2.2, by rw [List.length_append, List.length_append, walkAll_len]; show W.length + 1 + cntAll y + cntAll n' ≤ 8; omega, ?_, fun H6 C6 k6 => ?_⟩
    · intro j q'
      have e : (p ++ [(1 : Int)]) ++ j :: q' = p ++ ((1 : Int) :: j :: q') := by simp
      have z := walkAll_none y (p ++ [0]) 0 (p ++ ((1 : Int) :: j :: q')) (fun j' q'' => pre_ne (by decide) _)
      rw [lk_app, lk_app, e, z, hW, lk, if_neg (fun z => by have := congrArg List.length z; simp at this), lk]; rfl
    refine ⟨_, rfl, _, rfl, _, _, rfl, ?_⟩
    show Q (.int (if heldAll n' h > heldAll y h then heldAll n' h else heldAll y h)) H6
    rw [max_if]
    refine q H6 ?_ ((((k2.trans (Kp.of_same s3)).trans k4).trans (Kp.of_same s5)).trans k6)
    have e : W ++ (p, Stm.ch y n') :: (walkAll y (p ++ [0]) 0 ++ walkAll n' (p ++ [1]) 0) = W ++ [(p, .ch y n')] ++ walkAll y (p ++ [0]) 0 ++ walkAll n' (p ++ [1]) 0 := by simp
    rw [e]
    exact C6
end
end Tk
namespace Tk
open PySem L2
def br (a : Int) (y n : List Stm) : List Stm := if a = 0 then y else n
/-- R is what follows the statement at p, to the end of the script -/
inductive After : List Stm → Pl → List Stm → Prop
  | here (B : List Stm) (i : Nat) : i < B.length → After B [(i : Int)] (B.drop (i + 1))
  | inn (B : List Stm) (i : Nat) (a : Int) (y n : List Stm) (q : Pl) (R : List Stm) : B[i]? = some (.ch y n) → (a = 0 ∨ a = 1) → After (br a y n) q R → After B ((i : Int) :: a :: q) (R ++ B.drop (i + 1))
theorem nth_nat (B : List Stm) (i : Nat) : nth B (i : Int) = B[i]? := by
  unfold nth
  rw [if_pos (by omega), Int.toNat_natCast]
theorem After.ne {B : List Stm} {p : Pl} {R : List Stm} (h : After B p R) : p ≠ [] := by cases h <;> simp
theorem look_in {B : List Stm} {i : Nat} {a : Int} {y n : List Stm} {q : Pl} (h : B[i]? = some (.ch y n)) (ha : a = 0 ∨ a = 1) (hq : q ≠ []) : look B ((i : Int) :: a :: q) = look (br a y n) q := by
  cases q with
  | nil => exact absurd rfl hq
  | cons j r =>
    rw [look, nth_nat, h]
    show sub (.ch y n) (a :: j :: r) = _
    rw [sub, look]
    rcases ha with rfl | rfl
    · rw [if_pos rfl]; rfl
    · rw [if_neg (by decide), if_pos rfl]; rfl
theorem look_one (B : List Stm) (i : Nat) : look B [(i : Int)] = B[i]? := by
  rw [look, nth_nat]
  cases B[i]? <;> rfl
theorem After.step {S : List Stm} {p : Pl} {R : List Stm} (h : After S p R) : ∃ q j, p = q ++ [j] ∧
    ((∃ s R', look S (q ++ [j + 1]) = some s ∧ R = s :: R' ∧ After S (q ++ [j + 1]) R') ∨
     (look S (q ++ [j + 1]) = none ∧ ((q = [] ∧ R = []) ∨ ∃ q' a, q = q' ++ [a] ∧ q' ≠ [] ∧ After S q' R))) := by
  induction h with
  | here B i hi =>
    refine ⟨[], (i : Int), rfl, ?_⟩
    have e : ([] : Pl) ++ [(i : Int) + 1] = [((i + 1 : Nat) : Int)] := by simp
    rw [e, look_one]
    cases g : B[i + 1]? with
    | none =>
      refine .inr ⟨rfl, .inl ⟨rfl, ?_⟩⟩
      rw [List.drop_eq_nil_of_le]
      exact List.getElem?_eq_none_iff.mp g
    | some s =>
      obtain ⟨lt, e1⟩ := List.getElem?_eq_some_iff.mp g
      exact .inl ⟨s, B.drop (i + 1 + 1), rfl, by rw [List.drop_eq_getElem_cons lt, e1], .here B (i + 1) lt⟩
  | inn B i a y n q R hb ha hq ih =>
    obtain ⟨q0, j, e, ih⟩ := ih
    refine ⟨(i : Int) :: a :: q0, j, by rw [e]; rfl, ?_⟩
    have le : look B (((i : Int) :: a :: q0) ++ [j + 1]) = look (br a y n) (q0 ++ [j + 1]) := look_in hb ha (by simp)
    rw [le]
    rcases ih with ⟨s, R', l, eR, af⟩ | ⟨l, ⟨rfl, eR⟩ | ⟨q', a', eq, nq, af⟩⟩
    · exact .inl ⟨s, R' ++ B.drop (i + 1), l, by rw [eR]; rfl, .inn B i a y n _ R' hb ha af⟩
    · refine .inr ⟨l, .inr ⟨[(i : Int)], a, rfl, by simp, ?_⟩⟩
      rw [eR]
      exact .here B i (List.getElem?_eq_some_iff.mp hb).1
    · refine .inr ⟨l, .inr ⟨(i : Int) :: a :: q', a', by rw [eq]; rfl, by simp, ?_⟩⟩
      exact .inn B i a y n q' R hb ha af
theorem After.down {S : List Stm} {p : Pl} {R : List Stm} {y n : List Stm} {a : Int} (h : After S p R) (ha : a = 0 ∨ a = 1) (hn : br a y n ≠ []) :
    look S p = some (.ch y n) → look S (p ++ [a, 0]) = (br a y n)[0]? ∧ After S (p ++ [a, 0]) ((br a y n).drop 1 ++ R) := by
  have first : After (br a y n) [((0 : Nat) : Int)] ((br a y n).drop (0 + 1)) := .here _ 0 (List.length_pos_iff.mpr hn)
  induction h with
  | here B i hi =>
    intro l
    rw [look_one] at l
    refine ⟨?_, .inn B i a y n [0] _ l ha first⟩
    show look B ((i : Int) :: a :: [((0 : Nat) : Int)]) = _
    rw [look_in l ha (by simp), look_one]
  | inn B i a' y' n' q R hb ha' hq ih =>
    intro l
    rw [look_in hb ha' hq.ne] at l
    obtain ⟨l1, af⟩ := ih l
    refine ⟨?_, ?_⟩
    · show look B ((i : Int) :: a' :: (q ++ [a, 0])) = _
      rw [look_in hb ha' (by simp)]
      exact l1
    · rw [← List.append_assoc]
      exact .inn B i a' y' n' _ _ hb ha' af
theorem After.first {S : List Stm} (h : S ≠ []) : look S [0] = S[0]? ∧ After S [0] (S.drop 1) :=
  ⟨look_one S 0, .here S 0 (List.length_pos_iff.mpr h)⟩
theorem okAll_get : ∀ {d : Nat} {B : List Stm} {h : Int} {i : Nat} {s : Stm}, okAll d B h → B[i]? = some s → ∃ h', s.ok d h'
  | d, [], h, i, s, _, e => by simp at e
  | d, t :: r, h, 0, s, g, e => by
    rw [okAll] at g
    have e' : t = s := Option.some.inj e
    exact ⟨h, e' ▸ g.1⟩
  | d, t :: r, h, i + 1, s, g, e => by
    rw [okAll] at g
    exact okAll_get g.2 (i := i) (s := s) e
theorem After.len {S : List Stm} {p : Pl} {R : List Stm} (h : After S p R) : ∀ (d : Nat) (k : Int), okAll d S k → d ≤ 2 → p.length + 2 * d ≤ 5 := by
  induction h with
  | here B i hi => intro d k _ hd; show 1 + 2 * d ≤ 5; omega
  | inn B i a y n q R hb ha hq ih =>
    intro d k g hd
    obtain ⟨h', o⟩ := okAll_get g hb
    rw [Stm.ok] at o
    have z : q.length + 2 * (d + 1) ≤ 5 := by
      rcases ha with rfl | rfl
      · exact ih (d + 1) h' o.2.1 (by omega)
      · exact ih (d + 1) h' o.2.2 (by omega)
    show q.length + 1 + 1 + 2 * d ≤ 5
    omega
/-! ## greater places -/
def Gt (x y : Pl) : Prop := (∃ q i j r s, x = q ++ i :: r ∧ y = q ++ j :: s ∧ j < i) ∨ ∃ c, x = y ++ c ∧ c ≠ []
theorem lexAt_at (e r : Nat → Bool) (z : Bool) (m : Nat) : ∀ (k i : Nat), i ≤ m → m < i + k → (∀ j, i ≤ j → j < m → e j = true) → e m = false → Ob.lexAt e r z i k = r m
  | 0, i, h1, h2, _, _ => by omega
  | k + 1, i, h1, h2, g, b => by
    rw [Ob.lexAt_succ]
    by_cases c : i = m
    · subst c
      rw [b]; rfl
    · rw [g i (Nat.le_refl i) (by omega), if_pos rfl]
      exact lexAt_at e r z m k (i + 1) (by omega) (by omega) (fun j a b => g j (by omega) b) b
theorem lexAt_all (e r : Nat → Bool) (z : Bool) : ∀ (k i : Nat), (∀ j, i ≤ j → j < i + k → e j = true) → Ob.lexAt e r z i k = z
  | 0, i, _ => rfl
  | k + 1, i, g => by
    rw [Ob.lexAt_succ, g i (Nat.le_refl i) (by omega), if_pos rfl]
    exact lexAt_all e r z k (i + 1) (fun j a b => g j (by omega) (by omega))
theorem gt_not_le {x y : Pl} (h : Gt x y) : Ob.lexAt (fun j => decide (x.getD j 0 = y.getD j 0)) (fun j => decide (x.getD j 0 ≤ y.getD j 0)) (decide (x.length ≤ y.length)) 0 (min x.length y.length) = false := by
  rcases h with ⟨q, i, j, r, s, rfl, rfl, lt⟩ | ⟨c, rfl, hc⟩
  · have g1 : ∀ (t : Int) (u : Pl) (k : Nat), k < q.length → (q ++ t :: u).getD k 0 = q.getD k 0 := fun t u k hk => by
      rw [List.getD_eq_getElem?_getD, List.getD_eq_getElem?_getD, List.getElem?_append_left hk]
    have g2 : ∀ (t : Int) (u : Pl), (q ++ t :: u).getD q.length 0 = t := fun t u => by
      rw [List.getD_eq_getElem?_getD, List.getElem?_append_right (Nat.le_refl _), Nat.sub_self]; rfl
    rw [lexAt_at _ _ _ q.length]
    · show decide ((q ++ i :: r).getD q.length 0 ≤ (q ++ j :: s).getD q.length 0) = false
      rw [g2, g2]; exact decide_eq_false (by omega)
    · exact Nat.zero_le _
    · rw [List.length_append, List.length_append, List.length_cons, List.length_cons]; omega
    · intro k _ hk
      show decide ((q ++ i :: r).getD k 0 = (q ++ j :: s).getD k 0) = true
      rw [g1 _ _ k hk, g1 _ _ k hk]; exact decide_eq_true rfl
    · show decide ((q ++ i :: r).getD q.length 0 = (q ++ j :: s).getD q.length 0) = false
      rw [g2, g2]; exact decide_eq_false (by omega)
  · have hl : 0 < c.length := List.length_pos_iff.mpr hc
    rw [lexAt_all]
    · rw [List.length_append]; exact decide_eq_false (by omega)
    · intro k _ hk
      rw [List.length_append] at hk
      have hk' : k < y.length := by omega
      show decide ((y ++ c).getD k 0 = y.getD k 0) = true
      rw [List.getD_eq_getElem?_getD, List.getD_eq_getElem?_getD, List.getElem?_append_left hk']
      exact decide_eq_true rfl
end Tk
set_option maxRecDepth 100000
namespace Tk
open PySem L2
/-! ## a Script -/
theorem k1 : ¬ (("statements" : Str) = "found") := by decide +kernel
theorem k2' : ¬ (("statements" : Str) = "places") := by decide +kernel
theorem k3 : ¬ (("found" : Str) = "places") := by decide +kernel
def flds (t dd pl : Addr) : List (Str × V) := [("statements", .ref t), ("found", .ref dd), ("places", .ref pl)]
theorem flds_put (t dd pl : Addr) : putF "places" (.ref pl) (putF "found" (.ref dd) (putF "statements" (.ref t) [])) = flds t dd pl := by
  simp only [putF, if_neg k1, if_neg k2', if_neg k3]
  rfl
theorem flds_st (t dd pl : Addr) : (flds t dd pl).lookup ("statements" : Str) = some (.ref t) := by
  rw [← flds_put, lookup_putF, if_neg (by decide +kernel), lookup_putF, if_neg (by decide +kernel), lookup_putF, if_pos rfl]
theorem flds_fo (t dd pl : Addr) : (flds t dd pl).lookup ("found" : Str) = some (.ref dd) := by
  rw [← flds_put, lookup_putF, if_neg (by decide +kernel), lookup_putF, if_pos rfl]
theorem flds_pl (t dd pl : Addr) : (flds t dd pl).lookup ("places" : Str) = some (.ref pl) := by
  rw [← flds_put, lookup_putF, if_pos rfl]
theorem flds_no (t dd pl : Addr) {m : Str} (h1 : ¬ m = "statements") (h2 : ¬ m = "found") (h3 : ¬ m = "places") : (flds t dd pl).lookup m = none := by
  rw [← flds_put, lookup_putF, if_neg h3, lookup_putF, if_neg h2, lookup_putF, if_neg h1]; rfl
/-- x is the Script of the statements S, which stand at t -/
structure Sc (CS : Addr) (H : Hp) (x t : Addr) (S : List Stm) : Prop where
  ex : ∃ dx dd pl bs kvs xs, H x = some (.ins CS dx (flds t dd pl)) ∧ H t = some (.tup xs) ∧ atAll H xs S ∧ H dd = some (.dT kvs) ∧ FRel H kvs (walkAll S [] 0) ∧ H pl = some (.tup (bs.map V.ref)) ∧ IsKeys H kvs bs
  ne : S ≠ []
  ok : okAll 0 S 0
  few : cntAll S ≤ 8
theorem keys_keep {H H' : Hp} {kvs : List (List Key × V)} {bs : List Addr} (k : TK H H') (h : IsKeys H kvs bs) : IsKeys H' kvs bs := by
  unfold IsKeys at h ⊢
  exact L2.Paired.mapP h fun a b q => k _ _ q
theorem Sc.keep {CS : Addr} {H H' : Hp} {x t : Addr} {S : List Stm} (h : Sc CS H x t S) (s : Same H H') : Sc CS H' x t S := by
  obtain ⟨⟨dx, dd, pl, bs, kvs, xs, h1, h2, h3, h4, h5, h6, h7⟩, a, b, c⟩ := h
  have tk := TK.of_same s
  exact ⟨⟨dx, dd, pl, bs, kvs, xs, s _ _ h1, s _ _ h2, atAll_keep tk _ _ h3, s _ _ h4, h5.keep tk, s _ _ h6, keys_keep tk h7⟩, a, b, c⟩
theorem Sc.kp {CS p : Addr} {H H' : Hp} {x t : Addr} {S : List Stm} {ys : List V} (h : Sc CS H x t S) (s : Kp p H H') (hp : H p = some (.lst ys)) : Sc CS H' x t S := by
  obtain ⟨⟨dx, dd, pl, bs, kvs, xs, h1, h2, h3, h4, h5, h6, h7⟩, a, b, c⟩ := h
  have tk := s.tk hp
  exact ⟨⟨dx, dd, pl, bs, kvs, xs, s _ _ h1 (ne_of h1 hp (by intro z; cases z)), tk _ _ h2, atAll_keep tk _ _ h3, s _ _ h4 (ne_of h4 hp (by intro z; cases z)), h5.keep tk, tk _ _ h6, keys_keep tk h7⟩, a, b, c⟩
/-- values by their kinds -/
inductive Kd (H : Hp) : V → String → Prop
  | non : Kd H .non "NoneType"
  | bl (b : Bool) : Kd H (.bl b) "bool"
  | int (i : Int) : Kd H (.int i) "int"
  | str (z : Str) : Kd H (.str z) "str"
  | lst {a : Addr} {xs : List V} (e : H a = some (.lst xs)) : Kd H (.ref a) "list"
  | tup {a : Addr} {xs : List V} (e : H a = some (.tup xs)) : Kd H (.ref a) "tuple"
  | dK {a : Addr} {kvs : List (Key × V)} (e : H a = some (.dK kvs)) : Kd H (.ref a) "dict"
theorem Kd.ty {K : PySem.W.Frag} {H : Hp} {v : V} {T : String} (k : Kd H v T) : TyX K H v (.type T) := by
  cases k with
  | non => exact .base .non
  | bl b => exact .base (.bl b)
  | int i => exact .base (.int i)
  | str z => exact .base (.str z)
  | lst e => exact .base (.lst e)
  | tup e => exact .base (.tup e)
  | dK e => exact .base (.dK e)
theorem Kd.keep {H H' : Hp} {v : V} {T : String} (s : Same H H') (k : Kd H v T) : Kd H' v T := by
  cases k with
  | non => exact .non
  | bl b => exact .bl b
  | int i => exact .int i
  | str z => exact .str z
  | lst e => exact .lst (s _ _ e)
  | tup e => exact .tup (s _ _ e)
  | dK e => exact .dK (s _ _ e)
def intB : V → Bool
  | .int _ => true
  | _ => false
theorem Kd.intB {H : Hp} {v : V} {T : String} (k : Kd H v T) : ∃ b1 b2, kitB T "int" = some b1 ∧ kitB T "bool" = some b2 ∧ (b1 && !b2) = Tk.intB v := by
  cases k with
  | non => exact ⟨false, false, by decide +kernel, by decide +kernel, rfl⟩
  | bl b => exact ⟨true, true, by decide +kernel, by decide +kernel, rfl⟩
  | int i => exact ⟨true, false, by decide +kernel, by decide +kernel, rfl⟩
  | str z => exact ⟨false, false, by decide +kernel, by decide +kernel, rfl⟩
  | lst e => exact ⟨false, false, by decide +kernel, by decide +kernel, rfl⟩
  | tup e => exact ⟨false, false, by decide +kernel, by decide +kernel, rfl⟩
  | dK e => exact ⟨false, false, by decide +kernel, by decide +kernel, rfl⟩
def spSInit (CS : Addr) : Sp := fun vs H Q _ => ∃ (x t dx : Addr) (xs : List V) (S : List Stm), vs = [.ref x, .ref t] ∧ H x = some (.ins CS dx []) ∧ H t = some (.tup xs) ∧ atAll H xs S ∧ S ≠ [] ∧ okAll 0 S 0 ∧ cntAll S ≤ 8 ∧
  ∀ H', Sc CS H' x t S → Kp x H H' → Q .non H'
def spHas (CS : Addr) : Sp := fun vs H Q _ => ∃ (x t : Addr) (v : V) (S : List Stm), vs = [.ref x, v] ∧ Sc CS H x t S ∧
  ((∃ T, Kd H v T ∧ kitB T "tuple" = some false ∧ Q (.bl false) H) ∨
   ∃ (u : Addr) (xs : List V), v = .ref u ∧ H u = some (.tup xs) ∧ xs.length ≤ 100 ∧ (∀ y ∈ xs, ∃ T, Kd H y T) ∧ (xs.all intB = false → ∀ H', Same H H' → Q (.bl false) H') ∧ (∀ p, xs = p.map V.int → ∀ H', Same H H' → Q (.bl (look S p).isSome) H'))
/-- a place that is there -/
def spGet (CS : Addr) : Sp := fun vs H Q _ => ∃ (x t u : Addr) (S : List Stm) (p : Pl) (s : Stm), vs = [.ref x, .ref u] ∧ Sc CS H x t S ∧ H u = some (.tup (p.map V.int)) ∧ p.length ≤ 100 ∧ look S p = some s ∧
  ∀ (v : V) (H' : Hp), Same H H' → s.at H' v → Q v H'
def spSLen (CS : Addr) : Sp := fun vs H Q _ => ∃ (x t : Addr) (S : List Stm), vs = [.ref x] ∧ Sc CS H x t S ∧ Q (.int (cntAll S : Nat)) H
section
variable {P : Program} {w : World} {K : PySem.W.Frag} {mg : Str → Option Value} {base : Heap} {CS CK it : Addr}
theorem scSI : FnScope ["self", "statements", "check"] ["self", "statements"] (defScope sSInit) := ⟨rfl, rfl, rfl, by decide +kernel, rfl, by decide +kernel, by decide +kernel⟩
theorem ok_sinit {f fI fB : Addr} {fd fdI fdB : FuncData} (F : Fun K "__init__" "Script.__init__" sSInit f fd) (B : Bl mg) (T : Txt K w mg CS CK it) (M : Mk K CK fI) (GI : FnOk P w K mg base CX0 1 fI fdI ["self"] (spKInit CK)) (bI : Binds K fdI ["self"] [])
    (GB : FnOk P w K mg base CX0 8 fB fdB psKB (spKB CK 3)) (bB : Binds K fdB psKB []) (mB : Meth K CK "check_branch" fB) : FnOk P w K mg base CX0 9 f fd ["self", "statements"] (spSInit CS) := by
  refine F.ok scSI (fun vs H Q E h => ?_) (fun cdv A outer s H vs Q E hr h => ?_)
  · obtain ⟨x, t, dx, xs, S, rfl, _⟩ := h
    rfl
  obtain ⟨x, t, dx, xs, S, rfl, hx, ht, hS, ne, ok, few, q⟩ := h
  have hr2 : Room 2 _ := hr.mono (by decide)
  refine ⟨_, pss_cons (ps_if (pt_not (pt_val (pe_callB call_isi (by rfl) T.isi (by decide +kernel) (pa_cons (pv 1) (pa_cons (pe_bltn (v := .ty "tuple") (by rfl) B.tuple (by decide +kernel) rfl) pa_nil))))) (pss_one ps_never) pss_nil)
    (pss_cons (ps_if (pt_not (pt_truth (pv 1) (by intro _; rfl))) (pss_one ps_never) pss_nil)
    (pss_cons (ps_set (i := 2) scSI.nd rfl (Or.inl rfl) (pe_make0 M GI hr2 rfl T.mgK bI .nil pass0))
    (pss_cons (ps_expr (pe_meth (pv 2) T.clK mB GB hr bB .nil pass0 (pa_cons (pv 1) (pa_cons (pe_tup pa_nil) (pa_cons pe_int pa_nil)))))
    (pss_cons (ps_fld (pv 0) (pv 1) rfl)
    (pss_cons (ps_fld (pv 0) (pe_fld (pv 2) rfl) rfl)
    (pss_one (ps_fld (pv 0) (pe_callTy call_tuple_of (by rfl) B.tuple (by decide +kernel) (pa_cons (pe_callTy (call_list_dT rfl) (by rfl) T.list (by decide +kernel) (pa_cons (pe_fld (pv 0) rfl) pa_nil)) pa_nil)) rfl))))))), ?_⟩
  refine ⟨_, rfl, _, _, _, _, true, rfl, .ty "tuple", .base (.tup ht), kit_ty (by decide +kernel), true, rfl, iteF ?_⟩
  have nx : xs.isEmpty = false := by
    have hl := atAll_len hS
    cases xs with
    | nil => exact absurd (List.length_eq_zero_iff.mp hl.symm) ne
    | cons _ _ => rfl
  refine ⟨_, rfl, true, .inr (.inl ⟨_, SqT.of ht, by rw [nx]; rfl⟩), iteF ?_⟩
  intro c dc nc ndc ndcc
  refine ⟨c, dc, rfl, upd_same, fun dd H1 hdd C k1 => ⟨rfl, ?_⟩⟩
  have s0 : Same H (L2.upd (L2.upd H dc (.own c)) c (.ins CK dc [])) := fun b o e => by
    rw [upd_ne (ne_of_none e nc), upd_ne (ne_of_none e ndc)]; exact e
  have s1 : Same H H1 := fun b o e => k1 b o (s0 b o e) (ne_of_none e nc)
  have hdd0 : H dd = none := s0.free hdd
  obtain ⟨⟨dxc, hc1⟩, kvs0, hk0, _⟩ := id C
  refine ⟨_, rfl, c, dxc, _, rfl, hc1, rfl, _, rfl, (by show 0 ≤ sizeLine; decide), fun e he => ?_⟩
  have s2 := s1.trans (same_new he (.tup []))
  have s12 := same_new he (.tup [])
  refine ⟨c, dd, t, e, xs, 0, S, 0, [], [], rfl, rfl, by decide, C.keep s12, s2 _ _ ht, atAll_keep (TK.of_same s2) _ _ hS, upd_same, rfl, ok, by show 0 + cntAll S ≤ 8; omega, fun j q' => rfl, fun H3 C3 k3 => ?_⟩
  have k03 : Kp dd H H3 := (Kp.of_same s2).trans k3
  have s3 : Same H H3 := fun b o e => k03 b o e (ne_of_none e hdd0)
  obtain ⟨⟨dx3, hc3⟩, kvs, hk3, fr3⟩ := C3
  have nxc : x ≠ c := ne_of_none hx nc
  have nxd : x ≠ dd := ne_of_none hx hdd0
  refine ⟨_, rfl, _, rfl, x, CS, dx, [], rfl, s3 _ _ hx, T.clS, T.nS, (by show 0 < 1000; decide), ?_⟩
  refine ⟨_, rfl, c, CK, dx3, _, _, rfl, by rw [upd_ne nxc.symm]; exact hc3, T.clK, T.kF, rfl, _, rfl, x, CS, dx, _, rfl, upd_same, T.clS, T.nF, (by show 1 < 1000; decide), ?_⟩
  have hk5 : ∀ o1 o2, (L2.upd (L2.upd H3 x o1) x o2) dd = some (.dT kvs) := fun o1 o2 => by rw [upd_ne nxd.symm, upd_ne nxd.symm]; exact hk3
  refine ⟨_, rfl, x, CS, dx, _, _, rfl, upd_same, T.clS, T.nF, (by rw [lookup_putF, if_pos rfl]), dd, kvs, rfl, .inl (hk5 _ _), fun l bs hl hkeys => ?_⟩
  refine ⟨l, _, rfl, .inl ⟨SqL.of upd_same, fun pl hpl => ?_⟩⟩
  have nxl : x ≠ l := ne_of_none upd_same hl
  have nxp : x ≠ pl := ne_of_none (H := L2.upd (L2.upd (L2.upd H3 x _) x _) l _) (by rw [upd_ne nxl]; exact upd_same) hpl
  refine ⟨_, rfl, x, CS, dx, _, rfl, by rw [upd_ne nxp, upd_ne nxl]; exact upd_same, T.clS, T.nP, (by show 2 < 1000; decide), ?_⟩
  rw [flds_put]
  have kx : Kp x H3 (L2.upd (L2.upd (L2.upd (L2.upd (L2.upd H3 x (.ins CS dx (putF "statements" (.ref t) []))) x (.ins CS dx (putF "found" (.ref dd) (putF "statements" (.ref t) [])))) l (.lst (bs.map V.ref))) pl (.tup (bs.map V.ref))) x (.ins CS dx (flds t dd pl))) := by
    intro b o e nb
    have eb : (L2.upd (L2.upd H3 x (.ins CS dx (putF "statements" (.ref t) []))) x (.ins CS dx (putF "found" (.ref dd) (putF "statements" (.ref t) [])))) b = some o := by rw [upd_ne nb, upd_ne nb]; exact e
    have el : (L2.upd (L2.upd (L2.upd H3 x (.ins CS dx (putF "statements" (.ref t) []))) x (.ins CS dx (putF "found" (.ref dd) (putF "statements" (.ref t) [])))) l (.lst (bs.map V.ref))) b = some o := by rw [upd_ne (ne_of_none eb hl)]; exact eb
    rw [upd_ne nb, upd_ne (ne_of_none el hpl)]
    exact el
  have tkx : TK H3 _ := fun b ys e => kx b _ e (ne_of e (s3 _ _ hx) (by intro z; cases z))
  refine q _ ⟨⟨dx, dd, pl, bs, kvs, xs, upd_same, tkx _ _ (s3 _ _ ht), atAll_keep (TK.trans (TK.of_same s3) tkx) _ _ hS, kx _ _ hk3 nxd.symm, FRel.keep tkx fr3, ?_, ?_⟩, ne, ok, few⟩ ((Kp.of_same s3).trans kx)
  · rw [upd_ne nxp.symm, upd_same]
  · refine L2.Paired.mapP hkeys fun a b e => ?_
    have nbx : b ≠ x := fun z => by rw [z, upd_same] at e; cases e
    rw [upd_ne nbx, upd_ne nbx] at e
    exact kx b _ e nbx
theorem keys_len {H : Hp} : ∀ {kvs : List (List Key × V)} {bs : List Addr}, IsKeys H kvs bs → kvs.length = bs.length
  | _, _, h => PySem.Paired.length h
theorem scSL : FnScope ["self"] ["self"] (defScope sSLen) := ⟨rfl, rfl, rfl, by decide +kernel, rfl, by decide +kernel, by decide +kernel⟩
theorem ok_slen {f : Addr} {fd : FuncData} (F : Fun K "__len__" "Script.__len__" sSLen f fd) (B : Bl mg) (T : Txt K w mg CS CK it) : FnOk P w K mg base CX0 1 f fd ["self"] (spSLen CS) := by
  refine F.ok scSL (fun vs H Q E h => ?_) (fun cdv A outer s H vs Q E hr h => ?_)
  · obtain ⟨x, t, S, rfl, _⟩ := h
    rfl
  obtain ⟨x, t, S, rfl, ⟨⟨dx, dd, pl, bs, kvs, xs, h1, h2, h3, h4, h5, h6, h7⟩, _⟩, q⟩ := h
  refine ⟨_, pss_one (ps_ret (pe_callB call_len_seq (by rfl) B.len PySem.boot_len (pa_cons (pe_fld (pv 0) rfl) pa_nil))), ?_⟩
  have e : (((bs.map V.ref).length : Nat) : Int) = ((cntAll S : Nat) : Int) := by
    rw [List.length_map, ← keys_len h7, h5.len, walkAll_len]
  refine ⟨_, rfl, x, CS, dx, _, _, rfl, h1, T.clS, T.nP, flds_pl _ _ _, pl, _, rfl, .inr (SqT.of h6), ?_⟩
  rw [e]
  exact q
theorem all_ints : ∀ {xs : List V}, xs.all intB = true → ∃ p : Pl, xs = p.map V.int
  | [], _ => ⟨[], rfl⟩
  | x :: r, h => by
    rw [List.all_cons, Bool.and_eq_true] at h
    obtain ⟨p, e⟩ := all_ints h.2
    match x, h.1 with
    | .int i, _ => exact ⟨i :: p, by rw [e]; rfl⟩
theorem Sc.val {H : Hp} {x t : Addr} {S : List Stm} {p : Pl} {kvs : List (List Key × V)} (h5 : FRel H kvs (walkAll S [] 0)) : (look S p = none → valV kvs (key p) = none) ∧ (∀ s, look S p = some s → ∃ v, valV kvs (key p) = some v ∧ s.at H v) := by
  have z := h5.val p
  rw [look_lk] at z
  exact z
theorem scSH : FnScope ["self", "place", "item"] ["self", "place"] (defScope sSHas) := ⟨rfl, rfl, rfl, by decide +kernel, rfl, by decide +kernel, by decide +kernel⟩
theorem ok_shas {f fI : Addr} {fd fdI : FuncData} (F : Fun K "__contains__" "Script.__contains__" sSHas f fd) (B : Bl mg) (T : Txt K w mg CS CK it)
    (GI : FnOk P w K mg base CX0 1 fI fdI ["value"] (spIsInt K)) (bI : Binds K fdI ["value"] []) (kI : PySem.W.keepIn K (.ref fI) = true) (mI : mg "is_integer" = some (.ref fI)) : FnOk P w K mg base CX0 2 f fd ["self", "place"] (spHas CS) := by
  refine F.ok scSH (fun vs H Q E h => ?_) (fun cdv A outer s H vs Q E hr h => ?_)
  · obtain ⟨x, t, v, S, rfl, _⟩ := h
    rfl
  obtain ⟨x, t, v, S, rfl, C, hv⟩ := h
  have hu' := hu_of hr
  refine ⟨_, pss_cons (ps_if (PW.pt (pw_or (pt_not (pt_val (pe_callB call_isi (by rfl) T.isi (by decide +kernel) (pa_cons (pv 1) (pa_cons (pe_bltn (v := .ty "tuple") (by rfl) B.tuple (by decide +kernel) rfl) pa_nil)))))
      (pw_or1 (pt_not (pt_val (pe_callB (cr_all rfl) (by rfl) T.all (by decide +kernel) (pa_cons
        (pe_lc (own := [("item", 2)]) (g := gName 2) (tt := tYes) rfl scSH.nd (pi_tup (pv 1)) (blkOk_by (own := [("item", 2)]) (N := ["self", "place", "item"]) (sc := defScope sSHas) (by decide +kernel))
          (fun _ _ _ _ _ => pg_name (i := 2) scSH.nd rfl (Or.inl rfl)) (fun _ _ _ _ _ => pts_nil)
          (fun _ _ _ _ _ => pe_call GI hr rfl mI kI bI .nil pass0 (pa_cons (pv 2) pa_nil))) pa_nil))))))) (pss_one (ps_ret pe_bl)) pss_nil)
    (pss_one (ps_ret (pe_cmp (pc_din hu' (pv 1) (pe_fld (pv 0) rfl)) rfl))), ?_⟩
  rcases hv with ⟨T', kd, kt, q⟩ | ⟨u, xs, rfl, hu, h100, kds, q1, q2⟩
  · exact ⟨_, rfl, _, _, _, _, false, rfl, .ty "tuple", kd.ty, kit_ty kt, false, rfl, iteT (iteT q)⟩
  · refine ⟨_, rfl, _, _, _, _, true, rfl, .ty "tuple", .base (.tup hu), kit_ty (by decide +kernel), true, rfl, iteF ?_⟩
    refine ⟨_, rfl, u, rfl, ⟨_, SqT.of hu⟩, fun D hD => ?_⟩
    refine lc_tup (K := K) (a := u) (xs := xs) (fun i H7 => H7 D = some (.lst (((xs.take i).map intB).map V.bl)) ∧ Same H H7) ⟨upd_same, same_new hD _⟩ (fun i H7 _ z => SqT.of (z.2 _ _ hu)) ?_ ?_
    · rintro i y H7 hy ⟨h1, h2⟩
      refine ⟨rfl, ?_⟩
      unfold tYes
      dsimp only
      rw [if_pos rfl]
      obtain ⟨T', kd⟩ := kds y (List.mem_of_getElem? hy)
      obtain ⟨b1, b2, e1, e2, e3⟩ := kd.intB
      have lt : i < xs.length := (List.getElem?_eq_some_iff.mp hy).1
      refine ⟨_, rfl, y, T', b1, b2, rfl, (kd.keep h2).ty, e1, e2, _, h1, small1000 (by simp; omega), ?_, ?_⟩
      · rw [upd_same, List.take_add_one, hy, e3]
        simp
      · intro b o e
        rw [upd_ne (ne_of_none e hD)]
        exact h2 b o e
    · rintro H7 ⟨h1, h2⟩
      refine ⟨D, _, rfl, SqL.of h1, ?_⟩
      rw [List.take_length]
      have ea : (xs.map intB).all id = xs.all intB := by rw [List.all_map]; rfl
      rw [ea]
      cases ec : xs.all intB with
      | false => exact ⟨_, rfl, iteT (q1 ec H7 h2)⟩
      | true =>
        obtain ⟨p, rfl⟩ := all_ints ec
        obtain ⟨⟨dx, dd, pl, bs, kvs, ys, g1, g2, g3, g4, g5, g6, g7⟩, _⟩ := C.keep h2
        have z := Sc.val (x := x) (t := t) (p := p) g5
        have hg : DGet H7 dd (.ref u) (valV kvs (key p)) := DGet.t g4 (by rw [key_kV]; exact h2 _ _ hu)
        refine ⟨_, rfl, iteF ⟨_, rfl, _, rfl, x, CS, dx, _, _, rfl, g1, T.clS, T.nF, flds_fo _ _ _, dd, _, rfl, hg, ?_⟩⟩
        have e : (valV kvs (key p)).isSome = (look S p).isSome := by
          cases el : look S p with
          | none => rw [z.1 el]; rfl
          | some s =>
            obtain ⟨v, ev, _⟩ := z.2 s el
            rw [ev]; rfl
        rw [e]
        exact q2 p rfl H7 h2
theorem scSG : FnScope ["self", "place"] ["self", "place"] (defScope sSGet) := ⟨rfl, rfl, rfl, by decide +kernel, rfl, by decide +kernel, by decide +kernel⟩
theorem ok_sget {f fH : Addr} {fd fdH : FuncData} (F : Fun K "__getitem__" "Script.__getitem__" sSGet f fd) (T : Txt K w mg CS CK it)
    (GH : FnOk P w K mg base CX0 2 fH fdH ["self", "place"] (spHas CS)) (bH : Binds K fdH ["self", "place"] []) (mH : OwnM K CS "__contains__" fH) : FnOk P w K mg base CX0 3 f fd ["self", "place"] (spGet CS) := by
  refine F.ok scSG (fun vs H Q E h => ?_) (fun cdv A outer s H vs Q E hr h => ?_)
  · obtain ⟨x, t, u, S, p, s, rfl, _⟩ := h
    rfl
  obtain ⟨x, t, u, S, p, st, rfl, C, hu, h100, hl, q⟩ := h
  have hu' := hu_of hr
  refine ⟨_, pss_cons (ps_if (pt_cmpR (op_notInOwn mH GH hr bH pass0) (pv 1) (pv 0) (by rfl)) (pss_one ps_never) pss_nil)
    (pss_one (ps_ret (pe_dget hu' (pe_fld (pv 0) rfl) (pv 1) (fun _ _ => rfl)))), ?_⟩
  obtain ⟨⟨dx, dd, pl, bs, kvs, ys, g1, g2, g3, g4, g5, g6, g7⟩, _⟩ := id C
  refine ⟨_, rfl, _, rfl, x, dx, _, rfl, g1, x, t, .ref u, S, rfl, C, .inr ⟨u, _, rfl, hu, by rw [List.length_map]; exact h100, ?_, ?_, ?_⟩⟩
  · intro y hy
    obtain ⟨i, _, rfl⟩ := List.mem_map.mp hy
    exact ⟨_, .int i⟩
  · intro e
    have : (p.map V.int).all intB = true := by rw [List.all_map]; exact List.all_eq_true.mpr fun _ _ => rfl
    rw [this] at e; cases e
  · intro p' e H' s1
    have ep : p = p' := by
      have inj : ∀ {a b : Pl}, a.map V.int = b.map V.int → a = b := by
        intro a
        induction a with
        | nil => intro b e; cases b with
          | nil => rfl
          | cons _ _ => cases e
        | cons i r ih => intro b e; cases b with
          | nil => cases e
          | cons j r' =>
            rw [List.map_cons, List.map_cons] at e
            injection e with e1 e2
            injection e1 with e1
            rw [e1, ih e2]
      exact inj e
    subst ep
    rw [hl]
    refine ⟨true, rfl, _, rfl, iteF ?_⟩
    obtain ⟨⟨dx, dd, pl, bs, kvs, ys, g1, g2, g3, g4, g5, g6, g7⟩, _⟩ := C.keep s1
    obtain ⟨v, ev, hv⟩ := (Sc.val (x := x) (t := t) (p := p) g5).2 st hl
    have hg : DGet H' dd (.ref u) (valV kvs (key p)) := DGet.t g4 (by rw [key_kV]; exact s1 _ _ hu)
    rw [ev] at hg
    exact ⟨_, rfl, x, CS, dx, _, _, rfl, g1, T.clS, T.nF, flds_fo _ _ _, _, rfl, dd, v, rfl, hg, q v H' s1 hv⟩
end
end Tk
set_option maxRecDepth 100000
/-! Own rules: a == b and a != b by the class's own __eq__, whatever it answers. -/
namespace PySem
open PySem.W
section
variable {prog : Program} {w : World} {A : Around} {E : Value → Shared → Prop} {s : Shared} {K : Frag} {x C f : Addr} {ox : Obj} {od : Option Obj} {b tb : Value}
theorem tk_neBody {Q : Fin → Shared → Prop} (hu : A.units < cLine) (X : K.In s.heap) (I : InstAt s.heap x ox C od) (he : findIn K (.ref C) "__eq__" = some (some (.ref f))) (hf : isFn K (.ref f) = true)
    (h : wpAny (model prog w) A (call (.ref f) [.ref x, b]) (fun v s' => ∃ c, v = .bool c ∧ Q (.done (.ret (.bool (!c)))) s') E s) : wpAny (model prog w) A (Builtin.«object.__ne__» ⟨[.ref x, b], []⟩) Q E s := by
  have ask : wpAny (model prog w) A (callSpecialIfBound? (.ref x) (Str.ofString "__eq__") [b]) (fun r s' => ∃ c, r = some (.bool c) ∧ Q (.done (.ret (.bool (!c)))) s') E s := by
    refine ifBound_K X I he hf (wpAny_mono h (fun v s' z => ?_) fun _ _ y => y)
    obtain ⟨c, rfl, q⟩ := z
    exact ⟨c, rfl, q⟩
  unfold Builtin.«object.__ne__»
  repeat (first
    | (with_reducible refine wpAny_cRoomFor hu ?_)
    | (refine wpAny_bind (m := callSpecialIfBound? (.ref x) (Str.ofString "__eq__") [b]) (wpAny_mono ask (fun r s' z => by
        obtain ⟨c, rfl, q⟩ := z
        repeat (first | exact q | exact wpAny_pure q | exact wpAny_truthy_bool q | (refine wpAny_bind (m := truthy (.bool _)) (wpAny_truthy_bool ?_)) | wp_step)) fun _ _ y => y))
    | wp_step)
theorem tk_neCall {Q : Value → Shared → Prop} (hu : A.in1.units < cLine) (X : K.In s.heap) (I : InstAt s.heap x ox C od) (hm : mroIn K C (.type "object") = some true) (he : findIn K (.ref C) "__eq__" = some (some (.ref f))) (hf : isFn K (.ref f) = true)
    (h : wpAny (model prog w) A.in1 (call (.ref f) [.ref x, b]) (fun v s' => ∃ c, v = .bool c ∧ Q (.bool (!c)) s') E s) : wpAny (model prog w) A (call (.builtin "object.__ne__") [.ref x, b]) Q E s := by
  refine wpAny_call (codeAny_call_builtin F.cmp_object.ne.plain F.cmpEntry_ne (check_slot F.cmpKind_ne F.cmpSplit_ne (I.type.andThen (looks_mroIn X hm)) (F.cmpArgs_ne _ _) ?_))
  exact tk_neBody hu X I he hf h
theorem tk_neBound {args : List Value} {Q : Option Value → Shared → Prop} (X : K.In s.heap) (I : InstAt s.heap x ox C od) (hn : findIn K (.ref C) "__ne__" = some (some (.builtin "object.__ne__")))
    (h : wpAny (model prog w) A (call (.builtin "object.__ne__") (.ref x :: args)) (fun v => Q (some v)) E s) : wpAny (model prog w) A (callSpecialIfBound? (.ref x) "__ne__" args) Q E s := by
  simp only [callSpecialIfBound?, bindSpecialIfBound?]
  have last : wpAny (model prog w) A (call (.builtin "object.__ne__") ([.ref x] ++ args) >>= fun v => pure (some v)) Q E s := wpAny_bind (wpAny_mono h (fun v s' z => wpAny_pure z) fun _ _ z => z)
  refine wpAny_holding (wpAny_bind (wpAny_bind (wpAny_bind (I.type.here ((looks_findIn X hn).here (wpAny_bind (wpAny_askSetting (wpAny_ite ?_))))))))
  split
  · exact wpAny_bind (wpAny_of_eq (F.cmp_object.ne.bind _) (wpAny_pure (by exact last)))
  · exact wpAny_tryCatch (wpAny_bind (wpAny_of_eq (F.cmp_object.ne.bind _) (wpAny_pure (by exact last))))
theorem tk_ne {Q : Value → Shared → Prop} (hu : A.in1.units < cLine) (hu0 : A.units < cLine) (X : K.In s.heap) (I : InstAt s.heap x ox C od) (hb : Looks (model prog w) s.heap (typeOf b) tb) (hn : notFirst K C tb = true)
    (hne : findIn K (.ref C) "__ne__" = some (some (.builtin "object.__ne__"))) (hm : mroIn K C (.type "object") = some true) (he : findIn K (.ref C) "__eq__" = some (some (.ref f))) (hf : isFn K (.ref f) = true)
    (h : wpAny (model prog w) A.in1 (call (.ref f) [.ref x, b]) (fun v s' => ∃ c, v = .bool c ∧ Q (.bool (!c)) s') E s) : wpAny (model prog w) A (richCompare .NotEq (.ref x) b) Q E s := by
  have one : wpAny (model prog w) A (tryCompare (.ref x) "__ne__" b) (fun r s' => ∃ c, r = some (.bool c) ∧ Q (.bool c) s') E s := by
    unfold tryCompare
    refine wpAny_bind (tk_neBound X I hne (tk_neCall hu X I hm he hf (wpAny_mono h (fun v s' z => ?_) fun _ _ y => y)))
    obtain ⟨c, rfl, q⟩ := z
    exact ⟨c, rfl, wpAny_pure ⟨_, rfl, q⟩⟩
  unfold richCompare
  simp only [oneThing_ref]
  rw [cmpInfo_NotEq]
  dsimp only
  refine wpAny_holding (wpAny_bind (wpAny_cRoomFor hu0 (wpAny_bind (I.type.here (wpAny_bind (hb.here ?_))))))
  have fin : ∀ (r : Option Value) (s' : Shared), (∃ c, r = some (.bool c) ∧ Q (.bool c) s') → ∃ c, r = some (.bool c) ∧ Q (.bool c) s' := fun _ _ z => z
  split
  · rename_i q
    have e : subIn K tb (.ref C) = some false := by
      rcases Bool.or_eq_true_iff.mp hn with e | e
      · exact absurd q (by rw [beq_iff_eq.mp e]; simp)
      · exact beq_iff_eq.mp e
    refine wpAny_bind ((looks_subIn X e).here ?_)
    simp only [Bool.false_eq_true, if_false]
    refine wpAny_bind (wpAny_mono one (fun r s' z => ?_) fun _ _ y => y)
    obtain ⟨c, rfl, q⟩ := z
    exact wpAny_pure q
  · refine wpAny_bind (wpAny_pure ?_)
    simp only [Bool.false_eq_true, if_false]
    refine wpAny_bind (wpAny_mono one (fun r s' z => ?_) fun _ _ y => y)
    obtain ⟨c, rfl, q⟩ := z
    exact wpAny_pure q
end
end PySem
namespace L2
open PySem PySem.Spec PyProof.Rows
/-- what must stand in the class C for == and != by its own __eq__ -/
structure OwnEq (K : PySem.W.Frag) (C f : Addr) : Prop where
  eq : PySem.W.findIn K (.ref C) "__eq__" = some (some (.ref f))
  fn : PySem.W.isFn K (.ref f) = true
  ne : PySem.W.findIn K (.ref C) "__ne__" = some (some (.builtin "object.__ne__"))
  ob : PySem.W.mroIn K C (.type "object") = some true
def rOwnCmp (C : Addr) (sp : Sp) (E : XK) (neg : Bool) : R2 := fun x y H Q => ∃ a b dx dy fs gs, x = .ref a ∧ y = .ref b ∧ H a = some (.ins C dx fs) ∧ H b = some (.ins C dy gs) ∧ sp [.ref a, .ref b] H (fun v H' => ∃ c, v = .bl c ∧ Q (.bl (if neg then !c else c)) H') E
section
variable {X : Cx} {CX : CXT} {k : Nat} {C f : Addr} {fd : FuncData} {ps : List Str} {sp : Sp} {E : XK}
theorem op_eqOwn (O : OwnEq X.K C f) (F : FnOk X.prog X.w X.K X.mg X.base CX k f fd ps sp) (hr : Room k X.A) (hb : Binds X.K fd ps []) (hx : Passes CX X E) : OpR X (compareOp .Eq) (rOwnCmp C sp E false) := by
  intro pins s σ H x y u v Q I rx ry h
  obtain ⟨a, b, dx, dy, fs, gs, rfl, rfl, ha, hb', q⟩ := h
  obtain rfl : u = Value.ref a := rx
  obtain rfl : v = Value.ref b := ry
  obtain ⟨ox, od, J⟩ := ownInst I ha
  obtain ⟨oy, oe, J'⟩ := ownInst I hb'
  obtain ⟨m, hF⟩ := I.fr
  have hu : X.A.units < cLine := Nat.lt_of_le_of_lt (Nat.le_add_right _ (16 * k + 200)) (by have := hr.un; rwa [Nat.add_assoc] at this)
  show wpAny _ _ (richCompare .Eq _ _) _ _ _
  refine PySem.W.cmp_K (op := .Eq) (tb := .ref C) hu hF I.ok.mod.kin J J'.type (by simp [PySem.W.notFirst]) O.eq O.fn (thn (tk_run ⟨hr, rfl⟩ F hb hx I (.cons (show RelV (.ref a) (.ref a) from rfl) (.cons (show RelV (.ref b) (.ref b) from rfl) .nil)) q) fun r s' hq => ?_)
  obtain ⟨z, H', I', rz, c, rfl, q'⟩ := hq
  cases rz
  exact ⟨.bl c, H', I', rfl, q'⟩
theorem op_neOwn (O : OwnEq X.K C f) (F : FnOk X.prog X.w X.K X.mg X.base CX k f fd ps sp) (hr : Room (k + 1) X.A) (hb : Binds X.K fd ps []) (hx : Passes CX X E) : OpR X (compareOp .NotEq) (rOwnCmp C sp E true) := by
  intro pins s σ H x y u v Q I rx ry h
  obtain ⟨a, b, dx, dy, fs, gs, rfl, rfl, ha, hb', q⟩ := h
  obtain rfl : u = Value.ref a := rx
  obtain rfl : v = Value.ref b := ry
  obtain ⟨ox, od, J⟩ := ownInst I ha
  obtain ⟨oy, oe, J'⟩ := ownInst I hb'
  have hu : X.A.units < cLine := Nat.lt_of_le_of_lt (Nat.le_add_right _ (16 * (k + 1) + 200)) (by have := hr.un; rwa [Nat.add_assoc] at this)
  have hu1 : X.A.in1.units < cLine := Nat.lt_of_le_of_lt (Nat.le_add_right _ (16 * k + 200)) (by have := hr.in1.un; rwa [Nat.add_assoc] at this)
  show wpAny _ _ (richCompare .NotEq _ _) _ _ _
  refine tk_ne (tb := .ref C) hu1 hu I.kIn J J'.type (by simp [PySem.W.notFirst]) O.ne O.ob O.eq O.fn (thn (tk_run ⟨hr.in1, rfl⟩ F hb hx I (.cons (show RelV (.ref a) (.ref a) from rfl) (.cons (show RelV (.ref b) (.ref b) from rfl) .nil)) q) fun r s' hq => ?_)
  obtain ⟨z, H', I', rz, c, rfl, q'⟩ := hq
  cases rz
  exact ⟨c, rfl, .bl (!c), H', I', rfl, q'⟩
end
end L2
set_option maxRecDepth 100000
namespace Tk
open PySem L2
/-! ## statements as data, for == -/
theorem low_ok {z : Str} (h : Low z) : PySem.PyData.strOk z = true := by
  unfold PySem.PyData.strOk
  rw [Array.all_eq_true']
  intro c hc
  have := h c (Array.mem_toList_iff.mpr hc)
  exact decide_eq_true (by omega)
mutual
theorem lay_ok : ∀ (s : Stm) (d : Nat) (h : Int), s.ok d h → s.d.canLay0 = true ∧ (d ≤ 2 → s.d.depth ≤ 7 - 2 * d)
  | .one w, d, h, _ => by
    rw [Stm.d]
    refine ⟨?_, fun _ => ?_⟩
    · cases w <;> decide +kernel
    · rw [PyData.depth, PyData.depthAll, PyData.depthAll, PyData.depth]; omega
  | .nam b z, d, h, ok => by
    rw [Stm.ok] at ok
    rw [Stm.d]
    refine ⟨?_, fun _ => ?_⟩
    · rw [PyData.canLay0, PyData.canLayAll0, PyData.canLayAll0, PyData.canLayAll0, PyData.canLay0, PyData.canLay0, low_ok ok.2.2]
      cases b <;> decide +kernel
    · simp only [PyData.depth, PyData.depthAll]; omega
  | .ch y n, d, h, ok => by
    rw [Stm.ok] at ok
    rw [Stm.d]
    have l1 := layAll_ok y (d + 1) h ok.2.1
    have l2 := layAll_ok n (d + 1) h ok.2.2
    refine ⟨?_, fun hd => ?_⟩
    · have cc : (PyData.str "choose").canLay0 = true := by decide +kernel
      simp only [PyData.canLay0, PyData.canLayAll0] at cc ⊢
      rw [cc, l1.1, l2.1]; rfl
    · have e1 := l1.2 (by omega)
      have e2 := l2.2 (by omega)
      simp only [PyData.depth, PyData.depthAll]
      omega
theorem layAll_ok : ∀ (B : List Stm) (d : Nat) (h : Int), okAll d B h → PyData.canLayAll0 (dAll B) = true ∧ (d ≤ 2 → PyData.depthAll (dAll B) ≤ 7 - 2 * d)
  | [], d, h, _ => by
    rw [dAll]
    exact ⟨by rw [PyData.canLayAll0], fun _ => by rw [PyData.depthAll]; omega⟩
  | s :: r, d, h, ok => by
    rw [okAll] at ok
    rw [dAll]
    have l1 := lay_ok s d h ok.1
    have l2 := layAll_ok r d _ ok.2
    refine ⟨?_, fun hd => ?_⟩
    · rw [PyData.canLayAll0, l1.1, l2.1]; rfl
    · have e1 := l1.2 hd
      have e2 := l2.2 hd
      rw [PyData.depthAll]; omega
end
theorem shaped_ok {s : Stm} {d : Nat} {h : Int} (ok : s.ok d h) (hd : d ≤ 2) : SeqAt.shaped s.d = true ∧ PyData.eqv s.d s.d = true := by
  obtain ⟨a, b⟩ := lay_ok s d h ok
  have := b hd
  refine ⟨?_, SeqAt.eqv_refl _ a⟩
  unfold SeqAt.shaped
  rw [a, decide_eq_true (by omega)]; rfl
mutual
theorem dp_of {K : PySem.W.Frag} {H : Hp} : ∀ (s : Stm) (v : V), s.at H v → Dp K H v s.d
  | .one w, v, h => by
    rw [Stm.at] at h
    obtain ⟨a, rfl, h⟩ := h
    rw [Stm.d]
    exact .tup (SqT.of h) (.cons (.str _) .nil)
  | .nam b z, v, h => by
    rw [Stm.at] at h
    obtain ⟨a, rfl, h⟩ := h
    rw [Stm.d]
    exact .tup (SqT.of h) (.cons (.str _) (.cons (.str _) .nil))
  | .ch y n, v, h => by
    rw [Stm.at] at h
    obtain ⟨a, b, c, xs, ys, rfl, h1, h2, h3, h4, h5⟩ := h
    rw [Stm.d]
    exact .tup (SqT.of h1) (.cons (.str _) (.cons (.tup (SqT.of h2) (dpAll_of y xs h3)) (.cons (.tup (SqT.of h4) (dpAll_of n ys h5)) .nil)))
theorem dpAll_of {K : PySem.W.Frag} {H : Hp} : ∀ (B : List Stm) (xs : List V), atAll H xs B → DpAll K H xs (dAll B)
  | [], xs, h => by
    rw [atAll] at h
    rw [h, dAll]
    exact .nil
  | s :: r, xs, h => by
    rw [atAll] at h
    obtain ⟨v, vs, rfl, h1, h2⟩ := h
    rw [dAll]
    exact .cons (dp_of s v h1) (dpAll_of r vs h2)
end
/-- the statements of a script are good ones, wherever they stand -/
theorem After.good {S : List Stm} {p : Pl} {R : List Stm} (h : After S p R) : ∀ (d : Nat) (k : Int) (s : Stm), okAll d S k → d ≤ 2 → look S p = some s → ∃ d' h', s.ok d' h' ∧ d' ≤ 2 := by
  induction h with
  | here B i hi =>
    intro d k s g hd l
    rw [look_one] at l
    obtain ⟨h', o⟩ := okAll_get g l
    exact ⟨d, h', o, hd⟩
  | inn B i a y n q R hb ha hq ih =>
    intro d k s g hd l
    rw [look_in hb ha hq.ne] at l
    obtain ⟨h', o⟩ := okAll_get g hb
    rw [Stm.ok] at o
    rcases ha with rfl | rfl
    · exact ih (d + 1) h' s o.2.1 (by omega) l
    · exact ih (d + 1) h' s o.2.2 (by omega) l
/-- the first place -/
theorem first_key {H : Hp} {S : List Stm} {kvs : List (List Key × V)} {bs : List Addr} (ne : S ≠ []) (fr : FRel H kvs (walkAll S [] 0)) (ik : IsKeys H kvs bs) : ∃ b0, atI (bs.map V.ref) 0 = some (.ref b0) ∧ H b0 = some (.tup (([0] : Pl).map V.int)) := by
  have hd : ∃ s1 r1, walkAll S [] 0 = ([0], s1) :: r1 := by
    cases S with
    | nil => exact absurd rfl ne
    | cons s0 r =>
      rw [walkAll]
      cases s0 <;> (rw [Stm.walk]; exact ⟨_, _, rfl⟩)
  obtain ⟨s1, r1, e⟩ := hd
  rw [e] at fr
  cases kvs with
  | nil => exact fr.elim
  | cons kv r =>
    obtain ⟨k, v⟩ := kv
    obtain ⟨rfl, _, _⟩ := fr
    unfold IsKeys at ik
    cases ik with
    | cons h1 h2 =>
      rename_i b0 bs'
      refine ⟨b0, (show atI (List.map V.ref (b0 :: bs')) ((0 : Nat) : Int) = some (.ref b0) from atI_nat rfl), ?_⟩
      have h1' : H b0 = some (.tup ((key [0]).map kV)) := h1
      rw [key_kV] at h1'
      exact h1'
end Tk
set_option maxRecDepth 100000
namespace Tk
open PySem L2
abbrev sWithin : Stmt := top 11
def spWithin (K : PySem.W.Frag) : Sp := fun vs H Q _ => ∃ (x : V) (T : String) (b1 b2 : Bool) (lo hi : Int), vs = [x, .int lo, .int hi] ∧ TyX K H x (.type T) ∧ kitB T "int" = some b1 ∧ kitB T "bool" = some b2 ∧
  ((b1 && !b2) = false → Q (.bl false) H) ∧ ((b1 && !b2) = true → ∃ i, x = .int i ∧ Q (.bl (decide (lo ≤ i) && decide (i ≤ hi))) H)
section
variable {P : Program} {w : World} {K : PySem.W.Frag} {mg : Str → Option Value} {base : Heap} {CS CK it : Addr}
theorem scWi : FnScope ["value", "low", "high"] ["value", "low", "high"] (defScope sWithin) := ⟨rfl, rfl, rfl, by decide +kernel, rfl, by decide +kernel, by decide +kernel⟩
theorem ok_within {f fI : Addr} {fd fdI : FuncData} (F : Fun K "is_within" "is_within" sWithin f fd) (GI : FnOk P w K mg base CX0 1 fI fdI ["value"] (spIsInt K)) (bI : Binds K fdI ["value"] []) (kI : PySem.W.keepIn K (.ref fI) = true) (mI : mg "is_integer" = some (.ref fI)) :
    FnOk P w K mg base CX0 2 f fd ["value", "low", "high"] (spWithin K) := by
  refine F.ok scWi (fun vs H Q E h => ?_) (fun cdv A outer s H vs Q E hr h => ?_)
  · obtain ⟨x, t, b1, b2, lo, hi, rfl, _⟩ := h
    rfl
  obtain ⟨x, t, b1, b2, lo, hi, rfl, ty, k1, k2, q1, q2⟩ := h
  refine ⟨_, pss_one (ps_ret (pe_and (pe_call GI hr rfl mI kI bI .nil pass0 (pa_cons (pv 0) pa_nil)) (pe_one (pe_chain op_le op_le (pv 1) (pv 0) (pv 2))))), ?_⟩
  refine ⟨_, rfl, x, t, b1, b2, rfl, ty, k1, k2, _, rfl, ?_⟩
  cases e : (b1 && !b2) with
  | false => exact iteF (q1 e)
  | true =>
    obtain ⟨i, rfl, q⟩ := q2 e
    refine iteT ⟨_, rfl, _, rfl, _, _, rfl, rfl, _, rfl, ?_⟩
    by_cases c : lo ≤ i
    · rw [decide_eq_true c, Bool.true_and] at q
      exact iteTb (decide_eq_true c) ⟨_, rfl, _, _, rfl, rfl, q⟩
    · rw [decide_eq_false c, Bool.false_and] at q
      exact iteFb (decide_eq_false c) q
end
end Tk
set_option maxRecDepth 100000
namespace Tk
open PySem L2
abbrev sSEq : Stmt := inClass (top 18) 5
abbrev sDInit : Stmt := inClass (top 30) 0
abbrev sDEq : Stmt := inClass (top 30) 1
abbrev sScriptOf : Stmt := top 32
/-- what the top has made besides -/
structure TxK (K : PySem.W.Frag) (mg : Str → Option Value) (CS CD : Addr) : Prop where
  isS : C8.InsC K CS
  isD : C8.InsC K CD
  mgD : mg "Kind" = some (.ref CD)
  mB : ∃ t, mg "MOST_BLOCK" = some (.int 3 t)
  mM : ∃ t, mg "MOST_SESSIONS" = some (.int 3 t)
  noT : PySem.W.kitOne K (.type "tuple") (.ref CS) = some false
  nN : NoAttr K CD "name"
  nS : NoAttr K CD "script"
  nB : NoAttr K CD "block"
  nM : NoAttr K CD "many"
theorem q1 : ¬ (("name" : Str) = "script") := by decide +kernel
theorem q2 : ¬ (("name" : Str) = "block") := by decide +kernel
theorem q3 : ¬ (("name" : Str) = "many") := by decide +kernel
theorem q4 : ¬ (("script" : Str) = "block") := by decide +kernel
theorem q5 : ¬ (("script" : Str) = "many") := by decide +kernel
theorem q6 : ¬ (("block" : Str) = "many") := by decide +kernel
def fldD (n : Str) (x : Addr) (b m : Int) : List (Str × V) := [("name", .str n), ("script", .ref x), ("block", .int b), ("many", .int m)]
theorem fldD_put (n : Str) (x : Addr) (b m : Int) : putF "many" (.int m) (putF "block" (.int b) (putF "script" (.ref x) (putF "name" (.str n) []))) = fldD n x b m := by
  simp only [putF, if_neg q1, if_neg q2, if_neg q3, if_neg q4, if_neg q5, if_neg q6]
  rfl
theorem fldD_n (n : Str) (x : Addr) (b m : Int) : (fldD n x b m).lookup ("name" : Str) = some (.str n) := by
  rw [← fldD_put, lookup_putF, if_neg (by decide +kernel), lookup_putF, if_neg (by decide +kernel), lookup_putF, if_neg (by decide +kernel), lookup_putF, if_pos rfl]
theorem fldD_s (n : Str) (x : Addr) (b m : Int) : (fldD n x b m).lookup ("script" : Str) = some (.ref x) := by
  rw [← fldD_put, lookup_putF, if_neg (by decide +kernel), lookup_putF, if_neg (by decide +kernel), lookup_putF, if_pos rfl]
theorem fldD_b (n : Str) (x : Addr) (b m : Int) : (fldD n x b m).lookup ("block" : Str) = some (.int b) := by
  rw [← fldD_put, lookup_putF, if_neg (by decide +kernel), lookup_putF, if_pos rfl]
theorem fldD_m (n : Str) (x : Addr) (b m : Int) : (fldD n x b m).lookup ("many" : Str) = some (.int m) := by
  rw [← fldD_put, lookup_putF, if_pos rfl]
/-- k is a Kind of the Script x of the statements S -/
def KindAt (CS CD : Addr) (H : Hp) (k : Addr) (n : Str) (S : List Stm) (b m : Int) : Prop := ∃ dx x t, H k = some (.ins CD dx (fldD n x b m)) ∧ Sc CS H x t S
theorem KindAt.keep {CS CD : Addr} {H H' : Hp} {k : Addr} {n : Str} {S : List Stm} {b m : Int} (h : KindAt CS CD H k n S b m) (s : Same H H') : KindAt CS CD H' k n S b m := by
  obtain ⟨dx, x, t, h1, h2⟩ := h
  exact ⟨dx, x, t, s _ _ h1, h2.keep s⟩
/-- whether two scripts are equal -/
def sEq (S S' : List Stm) : Bool := PyData.eqv (.tuple (dAll S)) (.tuple (dAll S'))
theorem shapedAll {S : List Stm} {h : Int} (ok : okAll 0 S h) : SeqAt.shaped (.tuple (dAll S)) = true ∧ (PyData.tuple (dAll S)).canLay0 = true := by
  obtain ⟨a, b⟩ := layAll_ok S 0 h ok
  have := b (by decide)
  refine ⟨?_, by rw [PyData.canLay0]; exact a⟩
  unfold SeqAt.shaped
  rw [PyData.canLay0, a, PyData.depth, decide_eq_true (by omega)]; rfl
theorem sEq_refl {S : List Stm} {h : Int} (ok : okAll 0 S h) : sEq S S = true := SeqAt.eqv_refl _ (shapedAll ok).2
def spSEq (CS : Addr) : Sp := fun vs H Q _ => ∃ (x y t u : Addr) (S S' : List Stm), vs = [.ref x, .ref y] ∧ Sc CS H x t S ∧ Sc CS H y u S' ∧ Q (.bl (sEq S S')) H
def kEq (n n' : Str) (S S' : List Stm) (b b' m m' : Int) : Bool := decide (V.str n = V.str n') && sEq S S' && decide (V.int b = V.int b') && decide (V.int m = V.int m')
def spDEq (CS CD : Addr) : Sp := fun vs H Q _ => ∃ (k k' : Addr) (n n' : Str) (S S' : List Stm) (b b' m m' : Int), vs = [.ref k, .ref k'] ∧ KindAt CS CD H k n S b m ∧ KindAt CS CD H k' n' S' b' m' ∧ Q (.bl (kEq n n' S S' b b' m m')) H
/-- a Script, or good statements -/
def Given (CS : Addr) (H : Hp) (v : V) (S : List Stm) : Prop := (∃ x t, v = .ref x ∧ Sc CS H x t S) ∨ ∃ t xs, v = .ref t ∧ H t = some (.tup xs) ∧ atAll H xs S ∧ S ≠ [] ∧ okAll 0 S 0 ∧ cntAll S ≤ 8
theorem Given.keep {CS : Addr} {H H' : Hp} {v : V} {S : List Stm} (g : Given CS H v S) (s : Same H H') : Given CS H' v S := by
  rcases g with ⟨x, t, e, h⟩ | ⟨t, xs, e, h1, h2, h3⟩
  · exact .inl ⟨x, t, e, h.keep s⟩
  · exact .inr ⟨t, xs, e, s _ _ h1, atAll_keep (TK.of_same s) _ _ h2, h3⟩
def spScriptOf (CS : Addr) : Sp := fun vs H Q _ => ∃ (v : V) (S : List Stm), vs = [v] ∧ Given CS H v S ∧ ∀ (x t : Addr) (H' : Hp), Same H H' → Sc CS H' x t S → Q (.ref x) H'
def spDInit (CS CD : Addr) : Sp := fun vs H Q _ => ∃ (k dx : Addr) (n : Str) (v : V) (S : List Stm) (b m : Int), vs = [.ref k, .str n, v, .int b, .int m] ∧ H k = some (.ins CD dx []) ∧ IsName n ∧ Given CS H v S ∧ 1 ≤ b ∧ b ≤ 3 ∧ 1 ≤ m ∧ m ≤ 3 ∧
  ∀ H', KindAt CS CD H' k n S b m → Kp k H H' → Q .non H'
section
variable {P : Program} {w : World} {K : PySem.W.Frag} {mg : Str → Option Value} {base : Heap} {CS CK CD it : Addr}
theorem scSE : FnScope ["self", "other"] ["self", "other"] (defScope sSEq) := ⟨rfl, rfl, rfl, by decide +kernel, rfl, by decide +kernel, by decide +kernel⟩
theorem ok_seq {f : Addr} {fd : FuncData} (F : Fun K "__eq__" "Script.__eq__" sSEq f fd) (T : Txt K w mg CS CK it) (U : TxK K mg CS CD) : FnOk P w K mg base CX0 1 f fd ["self", "other"] (spSEq CS) := by
  refine F.ok scSE (fun vs H Q E h => ?_) (fun cdv A outer s H vs Q E hr h => ?_)
  · obtain ⟨x, y, t, u, S, S', rfl, _⟩ := h
    rfl
  obtain ⟨x, y, t, u, S, S', rfl, C, D, q⟩ := h
  have hu64 : _ + 64 < cLine := Nat.lt_of_le_of_lt (Nat.add_le_add_left (by decide : 64 ≤ 16 * 0 + 200) _) (by have := hr.un; rwa [Nat.add_assoc] at this)
  obtain ⟨⟨dx, dd, pl, bs, kvs, xs, g1, g2, g3, _⟩, ne1, ok1, _⟩ := C
  obtain ⟨⟨dy, ee, pk, cs, lvs, ys, h1, h2, h3, _⟩, ne2, ok2, _⟩ := D
  refine ⟨_, pss_one (ps_ret (pe_and (pe_callB (C8.call_isC U.isS) (by rfl) T.isi (by decide +kernel) (pa_cons (pv 1) (pa_cons (pe_glob (v := .ref CS) (by rfl) T.mgS rfl) pa_nil)))
    (pe_one (pe_cmpR (op_eqD hu64) (pe_fld (pv 0) rfl) (pe_fld (pv 1) rfl) (nomark _))))), ?_⟩
  refine ⟨_, rfl, y, dy, _, rfl, h1, true, rfl, iteT ?_⟩
  exact ⟨_, rfl, x, CS, dx, _, _, rfl, g1, T.clS, T.nS, flds_st _ _ _, _, rfl, y, CS, dy, _, _, rfl, h1, T.clS, T.nS, flds_st _ _ _, _, _, .tup (SqT.of g2) (dpAll_of S xs g3), .tup (SqT.of h2) (dpAll_of S' ys h3), (shapedAll ok1).1, (shapedAll ok2).1, q⟩
theorem scSO : FnScope ["script", "fault"] ["script"] (defScope sScriptOf) := ⟨rfl, rfl, rfl, by decide +kernel, rfl, by decide +kernel, by decide +kernel⟩
theorem ok_scriptof {f fI : Addr} {fd fdI : FuncData} (F : Fun K "script_of" "script_of" sScriptOf f fd) (T : Txt K w mg CS CK it) (U : TxK K mg CS CD) (M : Mk K CS fI) (GI : FnOk P w K mg base CX0 9 fI fdI ["self", "statements"] (spSInit CS)) (bI : Binds K fdI ["self", "statements"] []) :
    FnOk P w K mg base CX0 11 f fd ["script"] (spScriptOf CS) := by
  refine F.ok scSO (fun vs H Q E h => ?_) (fun cdv A outer s H vs Q E hr h => ?_)
  · obtain ⟨v, S, rfl, _⟩ := h
    rfl
  obtain ⟨v, S, rfl, g, q⟩ := h
  refine ⟨_, pss_cons (ps_if (pt_val (pe_callB call_isi (by rfl) T.isi (by decide +kernel) (pa_cons (pv 0) (pa_cons (pe_glob (v := .ref CS) (by rfl) T.mgS rfl) pa_nil)))) (pss_one (ps_ret (pv 0))) pss_nil)
    (pss_one (ps_try_thru0 (pss_one (ps_ret (pe_make M GI hr rfl T.mgS bI .nil pass0 (pa_cons (pv 0) pa_nil)))))), ?_⟩
  rcases g with ⟨x, t, rfl, C⟩ | ⟨t, xs, rfl, h1, h2, h3, h4, h5⟩
  · obtain ⟨⟨dx, dd, pl, bs, kvs, xs, g1, _⟩, _⟩ := id C
    refine ⟨_, rfl, _, _, _, _, true, rfl, .own CS, .base (.ins g1 U.isS.cl U.isS.ha U.isS.hn U.isS.htk U.isS.hm), U.isS.me, true, rfl, iteT ⟨_, rfl, q x t H (Same.refl H) C⟩⟩
  · refine ⟨_, rfl, _, _, _, _, false, rfl, .own CS, .base (.tup h1), U.noT, false, rfl, iteF ?_⟩
    refine ⟨_, rfl, fun x dx nx ndx nex => ?_⟩
    have sx : Same H (L2.upd (L2.upd H dx (.own x)) x (.ins CS dx [])) := fun c o e => by
      rw [upd_ne (ne_of_none e nx), upd_ne (ne_of_none e ndx)]; exact e
    refine ⟨x, t, dx, xs, S, rfl, upd_same, sx _ _ h1, atAll_keep (TK.of_same sx) _ _ h2, h3, h4, h5, fun H8 C8 k8 => ⟨rfl, ?_⟩⟩
    exact q x t H8 (fun c o e => k8 _ _ (sx _ _ e) (ne_of_none e nx)) C8
abbrev psD : List Str := ["self", "name", "script", "block", "many"]
theorem nox_of {X : Cx} {body : List Stmt} {D : Ends} {σ : St} {H : Hp} (h : ∃ t, PSs X.nox body t ∧ t D σ H) : ∃ t, PSs X body t ∧ t D σ H := let ⟨t, a, b⟩ := h; ⟨t, a.nox, b⟩
theorem scDI : FnScope psD psD (defScope sDInit) := ⟨rfl, rfl, rfl, by decide +kernel, rfl, by decide +kernel, by decide +kernel⟩
theorem ok_dinit {f fN fO fW : Addr} {fd fdN fdO fdW : FuncData} (F : FunD K "__init__" "Kind.__init__" (defArgs sDInit) (defBody sDInit) (defScope sDInit) [] [("block", .int 1), ("many", .int 1)] f fd) (U : TxK K mg CS CD)
    (GN : FnOk P w K mg base CX0 1 fN fdN ["value"] spIsName) (bN : Binds K fdN ["value"] []) (kN : PySem.W.keepIn K (.ref fN) = true) (mN : mg "is_name" = some (.ref fN))
    (GO : FnOk P w K mg base CX0 11 fO fdO ["script"] (spScriptOf CS)) (bO : Binds K fdO ["script"] []) (kO : PySem.W.keepIn K (.ref fO) = true) (mO : mg "script_of" = some (.ref fO))
    (GW : FnOk P w K mg base CX0 2 fW fdW ["value", "low", "high"] (spWithin K)) (bW : Binds K fdW ["value", "low", "high"] []) (kW : PySem.W.keepIn K (.ref fW) = true) (mW : mg "is_within" = some (.ref fW)) :
    FnOk P w K mg base CX0 12 f fd psD (spDInit CS CD) := by
  refine F.ok (CX := CX0) scDI (fun vs H Q E h => ?_) (fun cdv A outer s H vs Q E hr h => nox_of ?_)
  · obtain ⟨k, dx, n, v, S, b, m, rfl, _⟩ := h
    rfl
  obtain ⟨k, dx, n, v, S, b, m, rfl, hk, hn, g, b0, b3, m0, m3, q⟩ := h
  have hr1 : Room 1 _ := hr.mono (by decide)
  have hr2 : Room 2 _ := hr.mono (by decide)
  obtain ⟨t1, g1⟩ := U.mB
  obtain ⟨t2, g2⟩ := U.mM
  refine ⟨_, pss_cons (ps_if (pt_not (pt_val (pe_call GN hr1 rfl mN kN bN .nil pass0 (pa_cons (pv 1) pa_nil)))) (pss_one ps_never) pss_nil)
    (pss_cons (ps_set (i := 2) scDI.nd rfl (Or.inl rfl) (pe_call GO hr rfl mO kO bO .nil pass0 (pa_cons (pv 2) pa_nil)))
    (pss_cons (ps_if (pt_not (pt_val (pe_call GW hr2 rfl mW kW bW .nil pass0 (pa_cons (pv 3) (pa_cons pe_int (pa_cons (pe_glob (v := .int 3) (by rfl) g1 ⟨_, rfl⟩) pa_nil)))))) (pss_one ps_never) pss_nil)
    (pss_cons (ps_if (pt_not (pt_val (pe_call GW hr2 rfl mW kW bW .nil pass0 (pa_cons (pv 4) (pa_cons pe_int (pa_cons (pe_glob (v := .int 3) (by rfl) g2 ⟨_, rfl⟩) pa_nil)))))) (pss_one ps_never) pss_nil)
    (pss_cons (ps_fld (pv 0) (pv 1) rfl)
    (pss_cons (ps_fld (pv 0) (pv 2) rfl)
    (pss_cons (ps_fld (pv 0) (pv 3) rfl)
    (pss_one (ps_fld (pv 0) (pv 4) rfl)))))))), ?_⟩
  refine ⟨_, rfl, n, rfl, Nat.le_trans hn.2.1 (by decide), fun H1 s1 => ⟨_, rfl, ?_⟩⟩
  rw [nameB_of hn]
  refine iteF ?_
  refine ⟨_, rfl, v, S, rfl, g.keep s1, fun x t H2 s2 C => ?_⟩
  have wi : ∀ c : Int, 1 ≤ c → c ≤ 3 → (decide ((1 : Int) ≤ c) && decide (c ≤ 3)) = true := fun c a b => by rw [decide_eq_true a, decide_eq_true b]; rfl
  refine ⟨_, rfl, _, "int", true, false, 1, 3, rfl, (Kd.int (H := H2) b).ty, by decide +kernel, by decide +kernel, (fun e => nomatch e), fun _ => ⟨b, rfl, _, rfl, ?_⟩⟩
  rw [wi b b0 b3]
  refine iteF ?_
  refine ⟨_, rfl, _, "int", true, false, 1, 3, rfl, (Kd.int (H := H2) m).ty, by decide +kernel, by decide +kernel, (fun e => nomatch e), fun _ => ⟨m, rfl, _, rfl, ?_⟩⟩
  rw [wi m m0 m3]
  refine iteF ?_
  have hk2 : H2 k = some (.ins CD dx []) := s2 _ _ (s1 _ _ hk)
  refine ⟨_, rfl, _, rfl, k, CD, dx, [], rfl, hk2, U.isD.cl, U.nN, (by show 0 < 1000; decide), ?_⟩
  refine ⟨_, rfl, _, rfl, k, CD, dx, _, rfl, upd_same, U.isD.cl, U.nS, (by show 1 < 1000; decide), ?_⟩
  refine ⟨_, rfl, _, rfl, k, CD, dx, _, rfl, upd_same, U.isD.cl, U.nB, (by show 2 < 1000; decide), ?_⟩
  refine ⟨_, rfl, _, rfl, k, CD, dx, _, rfl, upd_same, U.isD.cl, U.nM, (by show 3 < 1000; decide), ?_⟩
  rw [upd_upd, upd_upd, upd_upd, fldD_put]
  have kk : Kp k H2 (L2.upd H2 k (.ins CD dx (fldD n x b m))) := Kp.upd
  refine q _ ⟨dx, x, t, upd_same, ?_⟩ ((Kp.of_same (s1.trans s2)).trans kk)
  have nkx : k ≠ x := by
    obtain ⟨dx', dd, pl, bs, kvs, xs, h1, _⟩ := C.ex
    intro z
    rw [← z, hk2] at h1
    injection h1 with h1
    injection h1 with e1 e2 e3
    cases e3
  obtain ⟨⟨dx', dd, pl, bs, kvs, xs, h1, h2, h3, h4, h5, h6, h7⟩, r1, r2, r3⟩ := C
  have tk : TK H2 (L2.upd H2 k (.ins CD dx (fldD n x b m))) := fun a ys e => kk a _ e (ne_of e hk2 (by intro z; cases z))
  exact ⟨⟨dx', dd, pl, bs, kvs, xs, kk _ _ h1 nkx.symm, tk _ _ h2, atAll_keep tk _ _ h3, kk _ _ h4 (ne_of h4 hk2 (by intro z; cases z)), h5.keep tk, tk _ _ h6, keys_keep tk h7⟩, r1, r2, r3⟩
theorem scDE : FnScope ["self", "other"] ["self", "other"] (defScope sDEq) := ⟨rfl, rfl, rfl, by decide +kernel, rfl, by decide +kernel, by decide +kernel⟩
theorem ok_deq {f fS : Addr} {fd fdS : FuncData} (F : Fun K "__eq__" "Kind.__eq__" sDEq f fd) (T : Txt K w mg CS CK it) (U : TxK K mg CS CD) (O : OwnEq K CS fS) (GS : FnOk P w K mg base CX0 1 fS fdS ["self", "other"] (spSEq CS)) (bS : Binds K fdS ["self", "other"] []) :
    FnOk P w K mg base CX0 2 f fd ["self", "other"] (spDEq CS CD) := by
  refine F.ok scDE (fun vs H Q E h => ?_) (fun cdv A outer s H vs Q E hr h => ?_)
  · obtain ⟨k, k', n, n', S, S', b, b', m, m', rfl, _⟩ := h
    rfl
  obtain ⟨k, k', n, n', S, S', b, b', m, m', rfl, ⟨dx, x, t, h1, C⟩, ⟨dy, y, u, h2, D⟩, q⟩ := h
  have cl := U.isD.cl
  obtain ⟨dxs, _, _, _, _, _, gx, _⟩ := C.ex
  obtain ⟨dys, _, _, _, _, _, gy, _⟩ := D.ex
  refine ⟨_, pss_one (ps_ret (pe_and (pe_callB (C8.call_isC U.isD) (by rfl) T.isi (by decide +kernel) (pa_cons (pv 1) (pa_cons (pe_glob (v := .ref CD) (by rfl) U.mgD rfl) pa_nil)))
    (pe_and (pe_cmpR op_eq (pe_fld (pv 0) rfl) (pe_fld (pv 1) rfl) (nomark _))
    (pe_and (pe_cmpR (op_eqOwn O GS hr bS pass0) (pe_fld (pv 0) rfl) (pe_fld (pv 1) rfl) (nomark _))
    (pe_and (pe_cmpR op_eq (pe_fld (pv 0) rfl) (pe_fld (pv 1) rfl) (nomark _))
    (pe_one (pe_cmpR op_eq (pe_fld (pv 0) rfl) (pe_fld (pv 1) rfl) (nomark _)))))))), ?_⟩
  refine ⟨_, rfl, k', dy, _, rfl, h2, true, rfl, iteT ?_⟩
  refine ⟨_, rfl, k, CD, dx, _, _, rfl, h1, cl, U.nN, fldD_n _ _ _ _, _, rfl, k', CD, dy, _, _, rfl, h2, cl, U.nN, fldD_n _ _ _ _, rfl, _, rfl, ?_⟩
  unfold kEq at q
  cases e1 : decide (V.str n = V.str n') with
  | false =>
    rw [e1] at q
    exact iteF q
  | true =>
    rw [e1, Bool.true_and] at q
    refine iteT ⟨_, rfl, k, CD, dx, _, _, rfl, h1, cl, U.nS, fldD_s _ _ _ _, _, rfl, k', CD, dy, _, _, rfl, h2, cl, U.nS, fldD_s _ _ _ _, x, y, dxs, dys, _, _, rfl, rfl, gx, gy, x, y, t, u, S, S', rfl, C, D, _, rfl, _, rfl, ?_⟩
    cases e2 : sEq S S' with
    | false =>
      rw [e2] at q
      exact iteF q
    | true =>
      rw [e2, Bool.true_and] at q
      refine iteT ⟨_, rfl, k, CD, dx, _, _, rfl, h1, cl, U.nB, fldD_b _ _ _ _, _, rfl, k', CD, dy, _, _, rfl, h2, cl, U.nB, fldD_b _ _ _ _, rfl, _, rfl, ?_⟩
      cases e3 : decide (V.int b = V.int b') with
      | false =>
        rw [e3] at q
        exact iteF q
      | true =>
        rw [e3, Bool.true_and] at q
        exact iteT ⟨_, rfl, k, CD, dx, _, _, rfl, h1, cl, U.nM, fldD_m _ _ _ _, _, rfl, k', CD, dy, _, _, rfl, h2, cl, U.nM, fldD_m _ _ _ _, rfl, q⟩
end
end Tk
set_option maxRecDepth 100000
/-! len(set(xs)), xs a list of some texts, equal ones among them too -/
namespace LenS
open PySem PySem.Spec PyProof.Rows
/-- how many unlike ones stand in front -/
def many (xs : List Str) : Nat → Nat
  | 0 => 0
  | i + 1 => if (xs.take i).any (· == xs.getD i Str.empty) then many xs i else many xs i + 1
theorem many_le (xs : List Str) : ∀ i, many xs i ≤ i
  | 0 => Nat.le_refl _
  | i + 1 => by
    have := many_le xs i
    unfold many
    split <;> omega
theorem took {xs : List Str} {i : Nat} (h : i < xs.length) (z : Str) : ((xs.take i).any (· == z) || decide (z = xs.getD i Str.empty)) = (xs.take (i + 1)).any (· == z) := by
  have e : xs.getD i Str.empty = xs[i] := by rw [List.getD_eq_getElem?_getD, List.getElem?_eq_getElem h]; rfl
  rw [List.take_add_one, List.getElem?_eq_getElem h, List.any_append, e]
  congr 1
  show decide (z = xs[i]) = ([xs[i]].any (· == z))
  by_cases c : z = xs[i]
  · rw [decide_eq_true c, ← c]; simp
  · rw [decide_eq_false c]
    have : (xs[i] == z) = false := beq_eq_false_iff_ne.mpr fun q => c q.symm
    simp [this]
def upto (xs : List Str) (i : Nat) : Str → Bool := fun z => (xs.take i).any (· == z)
section
variable {prog : Program} {w : World} {A : Around} {I S : Addr} {fp wr : List Addr} {G : Array GenState → Array GenState → Prop} {P : Nat → Value → Prop} {St : Nat → Shared → Prop} {xs : List Str} {R : Result → Shared → Prop}
theorem fill {n : Nat} (hn : n = xs.length) (W : WalksS prog w A.in1 I fp wr G n P St) (out : S ∉ fp) (few : xs.length + 1 < scanBound) (val : ∀ i v, P i v → ∃ t, v = .str (xs.getD i Str.empty) t) (m : Nat) :
    ∀ (i : Nat) (s : Shared), xs.length - i = m → i ≤ xs.length → St i s → s.heap.SetOf (strKind prog w) S (upto xs i) (many xs i) →
      (∀ s', Moved (S :: wr) G s s' → s'.heap.SetOf (strKind prog w) S (upto xs xs.length) (many xs xs.length) → R (.ok (.ret .none)) s') → codeAny (model prog w) A (.builtin "set.update.loop" ⟨[.ref S, .ref I], []⟩) R s := by
  subst hn
  have notw : S ∉ wr := fun h => out (W.sub _ h)
  have wider : ∀ b ∈ wr, b ∈ S :: wr := fun b => List.mem_cons_of_mem _
  have carry : ∀ {s s' : Shared} {f : Str → Bool} {k : Nat}, Moved wr G s s' → s.heap.SetOf (strKind prog w) S f k → s'.heap.SetOf (strKind prog w) S f k := fun mv h => by
    obtain ⟨o, a, b, c, there, more⟩ := h
    exact ⟨o, a, b, c, mv.heap S _ notw there, more⟩
  induction m with
  | zero =>
    intro i s hm hi now have_ last
    obtain rfl : i = xs.length := by omega
    refine codeAny_builtin F.entry_set_update_loop ?_
    rw [Around.under_plainId F.plain_set_update_loop _]
    exact wpAny_bind (W.done s _ _ now fun s' mv => wpAny_pure (last s' (mv.mono wider) (carry mv have_)))
  | succ m ih =>
    intro i s hm hi now have_ last
    have lt : i < xs.length := by omega
    refine codeAny_builtin F.entry_set_update_loop ?_
    rw [Around.under_plainId F.plain_set_update_loop _]
    refine wpAny_bind (W.item i s _ _ lt now fun v s' pv now' mv => ?_)
    obtain ⟨t, rfl⟩ := val i v pv
    refine wpAny_bind (wpAny_holding ?_)
    unfold setAdd
    refine wpAny_holding (wpAny_bind ((strKind prog w).pyHash (k := xs.getD i Str.empty) (strKind_is _ _ _ _) ?_))
    refine wpAny_setAddHashed_of (knd := strKind prog w) (s := { s' with toks := s'.toks + 1 }) (strKind_is _ _ _ _) rfl (carry (s' := s') mv have_) (by have := many_le xs i; omega) fun h2 same put => ?_
    have put2 : h2.SetOf (strKind prog w) S (upto xs (i + 1)) (many xs (i + 1)) := SetOf_congr put (fun z => took lt z) rfl
    refine wpAny_pure ⟨plainId_quiet F.plain_set_update_loop _, ih (i + 1) _ (by omega) lt (W.frame _ s' _ _ now' (Nat.le_succ _) fun b hb o e => ?_) put2 fun s3 mv3 end_ => ?_⟩
    · rw [same.2 b fun z => out (z ▸ hb)]; exact e
    · refine last s3 (Moved.trans W.gtrans ((mv.mono wider).then_heap (Nat.le_succ _) fun b o nb e => ?_) mv3) end_
      rw [same.2 b fun z => nb (z ▸ List.mem_cons_self)]; exact e
variable {E : Value → Shared → Prop} {s : Shared}
set_option maxHeartbeats 3200000 in
theorem make {l : Addr} {items : Array Value} {Q : Value → Shared → Prop} (calm : A.handled = none) (at_ : s.heap.IsList l items) (are : StrsAre items.toList xs) (few : xs.length + 1 < scanBound)
    (h : ∀ (h' : Heap) (tk : Nat), h'.SetOf (strKind prog w) s.heap.objs.size (upto xs xs.length) (many xs xs.length) → (∀ b o, b < s.heap.objs.size → s.heap.get? b = some o → h'.get? b = some o) → Q (.ref s.heap.objs.size) { s with heap := h', toks := tk }) :
    wpAny (model prog w) A (call (.type "set") [.ref l]) Q E s := by
  obtain ⟨c, tl, hmro⟩ := PySem.F.called_set.mro
  obtain ⟨made, sub, notT, canC⟩ := And.intro PySem.F.called_set.made (And.intro PySem.F.called_set.sub (And.intro PySem.F.called_set.notType PySem.F.called_set.canCreate))
  have one := PySem.F.typeCall_set_1 (.ref l)
  refine wpAny_call (codeAny_of_tree (wpAny_pure (a := _) ⟨Code.quiet_builtin _ (by decide +kernel), codeAny_builtin PySem.F.entry_type_call ?_⟩))
  rw [Around.under_plain (weight_type_call_type "set" [.ref l] []) rfl]
  repeat (any_goals (first | assumption | wp_step))
  let new : Obj := { cls := .type "set", dict := none, data := .set #[] 0 (.fresh 0 0 true) }
  let Made : Value → Shared → Prop := fun v s1 => ∃ led : Bool, v = .ref s.heap.objs.size ∧ s1 = { s with heap := s.heap.push { cls := .type "set", dict := none, data := .set #[] 0 (.fresh 0 0 led) } }
  let Full : Value → Shared → Prop := fun v s2 => v = .none ∧ ∃ h' tk, s2 = { s with heap := h', toks := tk } ∧ h'.SetOf (strKind prog w) s.heap.objs.size (upto xs xs.length) (many xs xs.length) ∧ ∀ b o, b < s.heap.objs.size → s.heap.get? b = some o → h'.get? b = some o
  refine codeAny_mono (code_set_new_1 (.ref l) (E := E) (Q₁ := Made) fun led => ⟨led, rfl, rfl⟩) fun r s1 hr => ?_
  match r, hr with
  | .error _, hr => exact hr
  | .ok .next, hr => exact hr.elim
  | .ok .brk, hr => exact hr.elim
  | .ok .cont, hr => exact hr.elim
  | .ok (.ret obj), hr =>
    obtain ⟨led, rfl, rfl⟩ := hr
    have there : (s.heap.push { cls := .type "set", dict := none, data := .set #[] 0 (.fresh 0 0 led) }).get? s.heap.objs.size = some { cls := .type "set", dict := none, data := .set #[] 0 (.fresh 0 0 led) } := Heap.get?_push_size _ rfl
    have typed : Shared.TypeIs { s with heap := s.heap.push { cls := .type "set", dict := none, data := .set #[] 0 (.fresh 0 0 led) } } (.ref s.heap.objs.size) "set" := ⟨_, there, rfl⟩
    have look := PySem.F.called_set.init.lookup
    have bind_ := PySem.F.called_set.init.bind (.ref s.heap.objs.size)
    repeat (any_goals (first | assumption | wp_step))
    refine codeAny_mono (codeAny_call_builtin (R := wants Full E) PySem.F.called_set.init.plain PySem.F.entry_set_init (check_set_init_1 typed ?_)) fun r2 s2 hr2 => ?_
    · obtain ⟨⟨oc, od, odata, osl⟩, lo, lc, ln, ld⟩ := at_
      simp only at lc ld
      subst lc ld
      have lo2 : (s.heap.push { cls := .type "set", dict := none, data := .set #[] 0 (.fresh 0 0 led) }).get? l = some { cls := .type "list", dict := od, data := .seq items ln, slots := osl } := Heap.get?_push_of_some _ lo
      have at2 : (s.heap.push { cls := .type "set", dict := none, data := .set #[] 0 (.fresh 0 0 led) }).IsList l items := ⟨_, lo2, rfl, ln, rfl⟩
      have n1 := PySem.F.sub_list_set
      have n2 := PySem.F.sub_list_frozenset
      have n3 : (Value.type "list" == Value.type "dict") = false := by decide
      unfold Builtin.«set.__init__» noKeywords Builtin.Frozenset.updateFrom
      generalize walk : pyIter = PI
      wp_walk
      subst walk
      refine wpAny_pyIter_list at2 (wpAny_bind (wpAny_runValue ?_))
      have below : l < s.heap.objs.size := Heap.lt_size lo
      have hh3 : A.in1.in1.in1.handled = none := by simp [calm]
      have sz : (s.heap.push { cls := .type "set", dict := none, data := .set #[] 0 (.fresh 0 0 led) }).objs.size = s.heap.objs.size + 1 := Heap.size_push ..
      have len : items.size = xs.length := by rw [← StrsAre.len_eq are, Array.length_toList]
      have far : l ≠ (s.heap.push { cls := .type "set", dict := none, data := .set #[] 0 (.fresh 0 0 led) }).objs.size := by
        rw [sz]
        exact Nat.ne_of_lt (Nat.lt_succ_of_lt below)
      have out : s.heap.objs.size ∉ [(s.heap.push { cls := .type "set", dict := none, data := .set #[] 0 (.fresh 0 0 led) }).objs.size, l] := by
        rw [sz]
        intro z
        simp only [List.mem_cons, List.not_mem_nil, or_false] at z
        exact z.elim (fun e => absurd e (Nat.ne_of_lt (Nat.lt_succ_self _))) fun e => absurd e (Nat.ne_of_gt below)
      refine fill len ((Walks.list hh3 _ l far items).toS) out few (fun i v hv => SS.strs_at are i v (by rw [Array.getElem?_toList]; exact hv)) _ 0 _ rfl (Nat.zero_le _) ⟨⟨_, Heap.get?_push_size _ rfl, rfl, rfl⟩, at2.push _⟩ ?_ ?_
      · have get_ := Heap.get?_push_of_some { cls := .type "list_iterator", data := .fields #[.ref l, .int 0 0] } there
        exact SetOf_congr ((setObjOf_fresh (knd := strKind prog w) led).setOf get_ (by unfold scanBound; omega)) (fun _ => rfl) rfl
      · rintro ⟨h', g', d', tk', os'⟩ mv done_
        obtain rfl : g' = s.gens := mv.gens
        obtain rfl : d' = s.drawn := mv.drawn
        obtain rfl : os' = s.os := mv.os
        refine wpAny_pure (wpAny_pure ⟨rfl, h', tk', rfl, done_, fun b o hb e => ?_⟩)
        refine mv.heap b o (fun z => ?_) (Heap.get?_push_of_some _ (Heap.get?_push_of_some _ e))
        simp only [List.mem_cons, List.not_mem_nil, or_false] at z
        rw [sz] at z
        exact z.elim (fun e => absurd e (Nat.ne_of_lt hb)) fun e => absurd e (Nat.ne_of_lt (Nat.lt_succ_of_lt hb))
    · match r2, hr2 with
      | .error _, hr2 => exact hr2
      | .ok .next, hr2 => exact hr2.elim
      | .ok .brk, hr2 => exact hr2.elim
      | .ok .cont, hr2 => exact hr2.elim
      | .ok (.ret v), hr2 =>
        obtain ⟨rfl, h', tk, rfl, full, keep⟩ := hr2
        repeat (any_goals (first | assumption | wp_step))
        exact h _ _ full keep
end
end LenS
namespace L2
open PySem PySem.Spec PyProof.Rows
theorem strs_vals : ∀ {ys : List Str} {us : List Value}, Vals (ys.map V.str) us → StrsAre us ys
  | [], _, .nil => .nil
  | y :: ys, _, .cons r t => by
    obtain ⟨k, rfl⟩ := r
    exact .cons y k (strs_vals t)
/-- len(set(xs)), xs a list of texts -/
def tLenS (K : PySem.W.Frag) (ta : TE) : TE := fun σ H Q => ta σ H fun x H1 => ∃ l, ∃ xs : List Str, x = .ref l ∧ SqL K H1 l (xs.map V.str) ∧ xs.length ≤ 100 ∧ Q (.int (LenS.many xs xs.length : Nat)) H1
theorem pe_lenS {X : Cx} {a : Expr} {ta : TE} {p p2 q pos : Pos} (hg : Gl X "len") (hm : X.mg "len" = none) (hg2 : Gl X "set") (hm2 : X.mg "set" = none) (ha : PE X a ta) (hc : X.calm = true := by rfl)
    (na : starEach [a] X.env = (false, eval a X.env) :: starEach [] X.env := by rfl) : PE X (.Call (.Name "len" p) [.Call (.Name "set" p2) [a] [] q] [] pos) (tLenS X.K ta) := by
  refine ⟨fun pins s σ H Q I h => ?_⟩
  refine Call_ (ld_blt I hg hm boot_len (callWith_builtin1 (args_cons ?_ rfl) rfl rfl))
  refine Call_ (ld_blt I hg2 hm2 boot_set (callWith_type1 (args_cons (thn (ha.run pins s σ H _ I h) fun v s1 ⟨x, H1, I1, r1, q1⟩ => args_nil ?_) na) na rfl))
  obtain ⟨l, xs, rfl, hq, few, q1⟩ := q1
  cases r1
  obtain ⟨its, r, pl, _⟩ := I1.list hq
  refine LenS.make (I1.ok.hd hc) pl.isList (by simpa using strs_vals r) (by unfold scanBound; omega) fun h' tk full keep => args_nil ?_
  obtain ⟨o, es, ep, t, ho, hex, hd, _, _, _, hf, hn⟩ := full
  have I2 : Inv X pins σ H1 { s1 with heap := h', toks := tk } := I1.kept fun b o e => keep b o (Heap.lt_size e) e
  have le := LenS.many_le xs xs.length
  exact call_len_set ho hex hd hf (by rw [hn]; omega) ⟨.int (LenS.many xs xs.length : Nat), H1, I2.tok _, ⟨_, by rw [hn]⟩, q1⟩
end L2
set_option maxRecDepth 100000
namespace L2
open PySem PySem.Spec PyProof.Rows
/-! ### a class's own methods, where an error may come out -/
section
variable {X : Cx} {CX : CXT} {k n : Nat} {C f : Addr} {fd : FuncData} {ps : List Str} {sp : Sp} {E : St → XK}
theorem tk_runS {A : Around} {pins : List (Addr × Obj)} {σ : St} {H : Hp} {s : Shared} {Q : VK} {us : List Value} {vs : List V} (sb : Sub X k A) (F : FnOk X.prog X.w X.K X.mg X.base CX k f fd ps sp) (hb : Binds X.K fd ps []) (hx : PassesAt CX X σ (E σ))
    (I : Inv X pins σ H s) (r : Vals vs us) (h : sp vs H Q (E σ)) : wpAny (model X.prog X.w) A (call (.ref f) us) (EP X pins σ Q) X.xe s := by
  have e := I.env0
  have e0 : Env0 X.prog X.w X.K X.mg X.base A X.stack s H := ⟨by rw [sb.fr]; exact e.frames, e.mod, e.bs, e.bsz, e.funs, e.frf, e.hok, e.bare⟩
  have hl : us.length = ps.length := r.length.symm.trans (F.len _ _ _ _ h)
  have bd := hb s us I.kIn (by simpa using hl)
  refine wpAny_call (codeAny_mono (F.run A X.stack s H ⟨us, []⟩ us vs Q (E σ) sb.room e0 (by simpa using bd) r h) fun res s' hq => ?_)
  match res, hq with
  | .error e, hq => exact hx pins H s e s' I hq
  | .ok (.ret u), hq => exact I.after hq
/-- o[i] by the class's own __getitem__, which may raise -/
def tIxS (C : Addr) (sp : Sp) (E : St → XK) (ta tb : TE) : TE := fun σ H Q => ta σ H fun x H1 => tb σ H1 fun y H2 => rOwn2 C sp (E σ) x y H2 Q
theorem ix_ownS {value slice : Expr} (M : OwnM X.K C "__getitem__" f) (hf : PySem.W.fnIn X.K f = true) (F : FnOk X.prog X.w X.K X.mg X.base CX k f fd ps sp) (hr : Room (k + 1) X.A) (hb : Binds X.K fd ps []) (hx : ∀ σ, PassesAt CX X σ (E σ))
    {a b : Expr} {ta tb : TE} {pos : Pos} (ha : PE X a ta) (hb2 : PE X b tb) (hs : ∀ o i, subscripted b true o i = runValue (.builtin "lifetime.subscript" ⟨[o, i], []⟩)) : PE X (.Subscript a b pos) (tIxS C sp E ta tb) := by
  refine ⟨fun pins s σ H Q I h => ?_⟩
  refine Subscript_ (binT ha hb2 I h fun v u s2 x y H2 I2 rx ry q => ?_)
  obtain ⟨p, dx, fs, rfl, hp, q⟩ := q
  obtain rfl : v = Value.ref p := rx
  obtain ⟨ox, od, J⟩ := ownInst I2 hp
  obtain ⟨m, hF⟩ := I2.fr
  refine PySem.W.sub_K hF I2.ok.mod.kin J M.at_ hf M.fn ?_ (hs _ _)
  exact tk_runS ⟨hr.in1, rfl⟩ F hb (hx σ) I2 (.cons (show RelV (.ref p) (.ref p) from rfl) (.cons ry .nil)) q
end
/-! ### an error class with one field -/
structure Ecl (K : PySem.W.Frag) (mg : Str → Option Value) (nm f : Str) (C fI : Addr) : Prop where
  gC : mg nm = some (.ref C)
  ox : OexC K C
  iC : PySem.W.findIn K (.ref C) "__init__" = some (some (.ref fI))
  tI : PySem.W.typeIn K (.ref fI) = some (.type "function")
  noF : PySem.W.findIn K (.ref C) f = some none
  xf : XfC K C
  cl : (PySem.W.clsIn K C).isSome = true
  ha : PySem.W.findIn K (.ref C) "__class__" = some (some (.builtin "object.__class__"))
  hn : PySem.W.specialIn K (.builtin "object.__class__") "__get__" = some (some (.builtin "getset_descriptor.__get__"))
  ht : PySem.W.takesIn K (.builtin "object.__class__") = some true
  hm : PySem.W.mroIn K C (.type "object") = some true
  te : PySem.W.exmOne K (.ref C) (.ref C) = some true
/-- what such an __init__ promises -/
def spEI (C : Addr) (f : Str) : Sp := fun vs H Q _ => ∃ (a : Addr) (v : V), vs = [.ref a, v] ∧ H a = some (exo a C none) ∧ ∀ dx, H dx = none → dx ≠ a → Q .non (upd (upd H dx (exd dx [(f, v)])) a (exo a C (some dx)))
/-- raise C(e) -/
theorem ps_raise1 {X : Cx} {W : WX} {nm f : Str} {C fI : Addr} {fd : FuncData} {ps : List Str} {e : Expr} {es : List Expr} {ta : TA} {p pos ppos : Pos} (hc : X.calm = true) (tk : Takes X W) (T : Ecl X.K X.mg nm f C fI) (F1 : FnOk X.prog X.w X.K X.mg X.base CX0 1 fI fd ps (spEI C f)) (hr : Room 2 X.A) (hb : Binds X.K fd ps [])
    (hg : Gl X nm) (ha : PA X (e :: es) ta) (hdb : (nm == ("__debug__" : Str)) = false := by decide) (he : starEach (e :: es) X.env = (false, eval e X.env) :: starEach es X.env := by rfl) (hpl : (backTo pos (starEach es X.env)).any (·.1) = false := by rfl) :
    PS X (.Raise (some (.Call (.Name nm p) (e :: es) [] pos)) none ppos) (fun _ σ H => tMkO C (spEI C f) [] ta σ H fun cls d H' => W cls d σ H') :=
  ps_raise (pos := ppos) hc tk (pmk_oex T.ox T.iC T.tI F1 hr hb .nil pass0 hg T.gC ha hdb he hpl)
theorem made1 {C : Addr} {f : Str} {v : V} {H1 : Hp} {Q : XK} (q : ∀ d, H1 d = none → Q (.ref C) (some d) (upd H1 d (.xd [(f, v)]))) : [v].length ≤ 1000 ∧ ∀ a, H1 a = none → spEI C f (.ref a :: ([v] ++ [])) (upd H1 a (exo a C none))
    (fun v H2 => v = .non ∧ ∃ (d : Addr) (fs : List (Str × V)), H2 a = some (exo a C (some d)) ∧ H2 d = some (exd d fs) ∧ H1 d = none ∧ Q (.ref C) (some d) (upd (del H2 a) d (.xd fs))) (fun _ _ _ => False) := by
  refine ⟨(by show 1 ≤ 1000; decide), fun a ha => ⟨a, v, rfl, upd_same, fun dx hd ne => ⟨rfl, dx, _, upd_same, by rw [upd_ne ne, upd_same], by rw [upd_ne ne] at hd; exact hd, ?_⟩⟩⟩
  have hd' : H1 dx = none := by rw [upd_ne ne] at hd; exact hd
  have e : upd (del (upd (upd (upd H1 a (exo a C none)) dx (exd dx [(f, v)])) a (exo a C (some dx))) a) dx (.xd [(f, v)]) = upd H1 dx (.xd [(f, v)]) := by
    funext b
    by_cases h1 : b = dx
    · rw [h1, upd_same, upd_same]
    · rw [upd_ne h1, upd_ne h1]
      by_cases h2 : b = a
      · rw [h2, del_same, ha]
      · rw [del_ne h2, upd_ne h2, upd_ne h1, upd_ne h2]
  rw [e]
  exact q dx hd'
/-- isinstance(e, c), e the caught error with its dict -/
def rIsX (K : PySem.W.Frag) (a : Addr) (cls : Value) (d : Option Addr) (D : Addr) : List V → Hp → VK → Prop := fun xs H Q => ∃ (c : V) (cv : Value) (b : Bool) (dd : Addr) (fs : List (Str × V)), cls = .ref D ∧ d = some dd ∧ H dd = some (.xd fs) ∧ xs = [.ref a, c] ∧ (∀ u, RelV c u → u = cv) ∧ PySem.W.kitOne K (.ref D) cv = some b ∧ Q (.bl b) H
theorem call_isX {X : Cx} {a D : Addr} {cls : Value} {d : Option Addr} {nm f : Str} {fI : Addr} {mg : Str → Option Value} {oe : Obj} {pn : List (Addr × Obj)} (T : Ecl X.K mg nm f D fI) (hz : Zc cls d oe) (hf : ∃ vs, oe.data = .fields vs) :
    CallR (X.suite a ((a, oe) :: pn)) (.builtin "isinstance") (rIsX X.K a cls d D) := by
  rintro pins s σ H xs us Q I r ⟨c, cv, b, dd, fs, rfl, rfl, ea, rfl, hcv, e, q⟩
  obtain ⟨u1, u2, rfl, r1, r2⟩ : ∃ u1 u2, us = [u1, u2] ∧ RelV (.ref a) u1 ∧ RelV c u2 := by
    cases r with
    | cons p1 t1 => cases t1 with
      | cons p2 t2 => cases t2; exact ⟨_, _, rfl, p1, p2⟩
  obtain rfl : u1 = Value.ref a := r1
  rw [hcv u2 r2]
  have own := (I.pin (a, oe) (List.mem_append_left _ List.mem_cons_self)).1
  obtain ⟨vs, isF⟩ := hf
  obtain ⟨mA, named, _⟩ := show ObjOk X.prog X.w H s.heap dd (.xd fs) from I.hok dd _ ea
  obtain ⟨od, at_, _⟩ := lookIn_ns named
  have J : PySem.W.InstAt s.heap a oe D (some od) := by
    refine ⟨own, hz.1, ?_, by rw [hz.2]; exact at_⟩
    unfold PySem.W.notCls
    rw [isF] <;> rfl
  have kit := PySem.W.kitx_exc (x := a) (ox := oe) (od := some od) T.cl T.xf.ga T.xf.gg T.xf.exC T.ha T.hn T.ht T.hm
  exact PySem.W.kia_one kit I.kIn J e (fun z => nomatch z) fun tk => ⟨.bl b, H, I.kept (t' := tk) fun _ _ z => z, rfl, q⟩
/-- x == x, for data and for empty dicts -/
def Slf (K : PySem.W.Frag) (H : Hp) (v : V) : Prop := (∃ d, Dp K H v d ∧ SeqAt.shaped d = true ∧ PyData.eqv d d = true) ∨ ∃ a, v = .ref a ∧ H a = some (.dK [])
def rSlf (K : PySem.W.Frag) : R2 := fun x y H Q => x = y ∧ Slf K H x ∧ Q (.bl true) H
theorem op_slf {X : Cx} (hu : X.A.units + 64 < cLine) : OpR X (compareOp .Eq) (rSlf X.K) := by
  intro pins s σ H x y v u Q I rx ry h
  obtain ⟨rfl, h, q⟩ := h
  rcases h with ⟨d, h1, h2, h3⟩ | ⟨a, rfl, h⟩
  · exact op_eqD hu pins s σ H x x v u Q I rx ry ⟨d, d, h1, h1, h2, h2, by rw [h3]; exact q⟩
  · exact op_eqV hu pins s σ H _ _ v u Q I rx ry ⟨1, by decide, .inr ⟨a, a, [], [], rfl, rfl, h, h, rfl, fun p hp => nomatch hp⟩, q⟩
end L2
namespace Tk
open PySem L2
/-- what is no place of the script S -/
def NoPl (H : Hp) (S : List Stm) (v : V) : Prop := (∃ T, Kd H v T ∧ kitB T "tuple" = some false) ∨ ∃ u xs, v = .ref u ∧ H u = some (.tup xs) ∧ xs.length ≤ 100 ∧ (∀ y ∈ xs, ∃ T, Kd H y T) ∧ ∀ p, xs = p.map V.int → look S p = none
theorem NoPl.keep {H H' : Hp} {S : List Stm} {v : V} (s : Same H H') (h : NoPl H S v) : NoPl H' S v := by
  rcases h with ⟨T, k, e⟩ | ⟨u, xs, rfl, h1, h2, h3, h4⟩
  · exact .inl ⟨T, k.keep s, e⟩
  · exact .inr ⟨u, xs, rfl, s _ _ h1, h2, fun y hy => (h3 y hy).imp fun _ k => k.keep s, h4⟩
/-- script[place], there or not -/
def spGetX (CS CN : Addr) : Sp := fun vs H Q E => ∃ (x t : Addr) (v : V) (S : List Stm), vs = [.ref x, v] ∧ Sc CS H x t S ∧
  ((∃ (u : Addr) (p : Pl) (s : Stm), v = .ref u ∧ H u = some (.tup (p.map V.int)) ∧ p.length ≤ 100 ∧ look S p = some s ∧ ∀ (w : V) (H' : Hp), Same H H' → s.at H' w → Q w H') ∨
   (NoPl H S v ∧ ∀ (d : Addr) (H' : Hp), Same H H' → H d = none → H' d = some (.xd [("place", v)]) → E (.ref CN) (some d) H'))
abbrev sNPInit : Stmt := inClass (top 4) 0
section
variable {P : Program} {w : World} {K : PySem.W.Frag} {mg : Str → Option Value} {base : Heap} {CS CK it CN : Addr}
theorem scNP : FnScope ["self", "place"] ["self", "place"] (defScope sNPInit) := ⟨rfl, rfl, rfl, by decide +kernel, rfl, by decide +kernel, by decide +kernel⟩
theorem ok_npi {f : Addr} {fd : FuncData} (F : Fun K "__init__" "NoPlace.__init__" sNPInit f fd) (T : Ecl K mg "NoPlace" "place" CN f) : FnOk P w K mg base CX0 1 f fd ["self", "place"] (spEI CN "place") := by
  refine F.ok scNP (fun vs H Q E h => ?_) (fun cdv A outer s H vs Q E hr h => ?_)
  · obtain ⟨a, v, rfl, _⟩ := h
    rfl
  obtain ⟨a, v, rfl, ha, q⟩ := h
  refine ⟨_, pss_one (ps_ost (pv 0) (pv 1) rfl), ?_⟩
  exact ⟨_, rfl, _, rfl, a, CN, rfl, T.ox, T.noF, .inl ⟨ha, fun dx h1 h2 => q dx h1 h2⟩⟩
theorem map_int_inj : ∀ {a b : Pl}, a.map V.int = b.map V.int → a = b
  | [], [], _ => rfl
  | [], _ :: _, e => by cases e
  | _ :: _, [], e => by cases e
  | i :: r, j :: r', e => by
    rw [List.map_cons, List.map_cons] at e
    injection e with e1 e2
    injection e1 with e1
    rw [e1, map_int_inj e2]
theorem ok_sgetX {f fH fI : Addr} {fd fdH fdI : FuncData} (F : Fun K "__getitem__" "Script.__getitem__" sSGet f fd) (T : Txt K w mg CS CK it) (TN : Ecl K mg "NoPlace" "place" CN fI)
    (GI : FnOk P w K mg base CX0 1 fI fdI ["self", "place"] (spEI CN "place")) (bI : Binds K fdI ["self", "place"] [])
    (GH : FnOk P w K mg base CX0 2 fH fdH ["self", "place"] (spHas CS)) (bH : Binds K fdH ["self", "place"] []) (mH : OwnM K CS "__contains__" fH) : FnOk P w K mg base (L2.CX P w) 3 f fd ["self", "place"] (spGetX CS CN) := by
  refine F.okX scSG (fun vs H Q E h => ?_) (fun cdv A outer s H vs Q E hr h => ?_)
  · obtain ⟨x, t, v, S, rfl, _⟩ := h
    rfl
  obtain ⟨x, t, v, S, rfl, C, hv⟩ := h
  have hu' := hu_of hr
  refine ⟨_, pss_cons (ps_if (pt_cmpR (op_notInOwn mH GH hr bH pass0) (pv 1) (pv 0) (by rfl)) (pss_one (ps_raise1 rfl (takes_of rfl rfl rfl rfl) TN GI hr bI rfl (pa_cons (pv 1) pa_nil))) pss_nil)
    (pss_one (ps_ret (pe_dget hu' (pe_fld (pv 0) rfl) (pv 1) (fun _ _ => rfl)))), ?_⟩
  have has : ∀ H', Same H H' → Sc CS H' x t S := fun H' s => C.keep s
  obtain ⟨⟨dx, dd, pl, bs, kvs, ys, g1, g2, g3, g4, g5, g6, g7⟩, _⟩ := id C
  refine ⟨_, rfl, _, rfl, x, dx, _, rfl, g1, x, t, v, S, rfl, C, ?_⟩
  rcases hv with ⟨u, p, st, rfl, hu, h100, hl, q⟩ | ⟨np, q⟩
  · refine .inr ⟨u, _, rfl, hu, by rw [List.length_map]; exact h100, ?_, ?_, ?_⟩
    · intro y hy
      obtain ⟨i, _, rfl⟩ := List.mem_map.mp hy
      exact ⟨_, .int i⟩
    · intro e
      have : (p.map V.int).all intB = true := by rw [List.all_map]; exact List.all_eq_true.mpr fun _ _ => rfl
      rw [this] at e; cases e
    · intro p' e H' s1
      have ep : p = p' := map_int_inj e
      subst ep
      rw [hl]
      refine ⟨true, rfl, _, rfl, iteF ?_⟩
      obtain ⟨⟨dx, dd, pl, bs, kvs, ys, g1, g2, g3, g4, g5, g6, g7⟩, _⟩ := C.keep s1
      obtain ⟨v, ev, hv⟩ := (Sc.val (x := x) (t := t) (p := p) g5).2 st hl
      have hg : DGet H' dd (.ref u) (valV kvs (key p)) := DGet.t g4 (by rw [key_kV]; exact s1 _ _ hu)
      rw [ev] at hg
      exact ⟨_, rfl, x, CS, dx, _, _, rfl, g1, T.clS, T.nF, flds_fo _ _ _, _, rfl, dd, v, rfl, hg, q v H' s1 hv⟩
  · rcases np with ⟨T', kd, e⟩ | ⟨u, xs, rfl, hu, h100, kds, no⟩
    · exact .inl ⟨T', kd, e, ⟨false, rfl, _, rfl, iteT ⟨_, rfl, made1 fun d hd => q d _ ((show Same H H from fun _ _ e => e).trans (same_new hd _)) ((show Same H H from fun _ _ e => e).free hd) upd_same⟩⟩⟩
    · refine .inr ⟨u, xs, rfl, hu, h100, kds, fun e H' s1 => ⟨false, rfl, _, rfl, iteT ⟨_, rfl, made1 fun d hd => q d _ (s1.trans (same_new hd _)) (s1.free hd) upd_same⟩⟩, fun p e H' s1 => ?_⟩
      rw [no p e]
      exact ⟨false, rfl, _, rfl, iteT ⟨_, rfl, made1 fun d hd => q d _ (s1.trans (same_new hd _)) (s1.free hd) upd_same⟩⟩
end
end Tk
set_option maxRecDepth 100000
namespace L2
open PySem
theorem pe_fldF {X : Cx} {e : Expr} {f : Str} {pos : Pos} {ta : TE} {K : PySem.W.Frag} (hk : X.K = K) (he : PE X e ta) (hb : attributeBase e f X.env (eval e X.env) = eval e X.env) : PE X (.Attribute e f pos) (tFld K ta f) := by
  subst hk
  exact pe_fld he hb
/-- len(o) by the class's own __len__, in a comprehension too -/
theorem call_lenOwnF {X : Cx} {CX : CXT} {k : Nat} {C f : Addr} {fd : FuncData} {ps : List Str} {sp : Sp} {E : XK} {K : PySem.W.Frag} (hk : X.K = K) (M : OwnM K C "__len__" f) (F : FnOk X.prog X.w K X.mg X.base CX k f fd ps sp) (hr : Room (k + 1) X.A) (hb : Binds K fd ps []) (hx : Passes CX X E) :
    CallR X (.builtin "len") (fun xs H Q => ∃ a dx fs, xs = [.ref a] ∧ H a = some (.ins C dx fs) ∧ sp [.ref a] H (fun v H' => ∃ i : Int, v = .int i ∧ 0 ≤ i ∧ i < 2 ^ 63 ∧ Q v H') E) := by
  subst hk
  exact call_lenOwn M F hr hb hx
theorem call_isiF {X : Cx} {K : PySem.W.Frag} (e : X.K = K) : CallR X (.builtin "isinstance") (rIsi K) := by
  subst e
  exact call_isi
end L2
namespace Tk
open PySem L2
abbrev sCount : Stmt := top 35
abbrev sAre : Stmt := top 34
abbrev sFaultY : Stmt := top 33
abbrev tys7 : List String := ["NoneType", "bool", "int", "str", "list", "tuple", "dict"]
theorem Kd.mem {H : Hp} {v : V} {T : String} (k : Kd H v T) : T ∈ tys7 := by cases k <;> simp
/-- what a kind is given -/
structure KR where
  n : Str
  S : List Stm
  b : Int
  m : Int
def IsKind (CS CD : Addr) (H : Hp) (v : V) (r : KR) : Prop := ∃ k, v = .ref k ∧ KindAt CS CD H k r.n r.S r.b r.m
inductive KsAt (CS CD : Addr) (H : Hp) : List V → List KR → Prop
  | nil : KsAt CS CD H [] []
  | cons {v : V} {r : KR} {vs : List V} {rs : List KR} (h : IsKind CS CD H v r) (t : KsAt CS CD H vs rs) : KsAt CS CD H (v :: vs) (r :: rs)
section
variable {CS CD : Addr} {H H' : Hp} {vs : List V} {rs : List KR}
theorem KsAt.len (h : KsAt CS CD H vs rs) : vs.length = rs.length := by
  induction h with
  | nil => rfl
  | cons _ _ ih => rw [List.length_cons, List.length_cons, ih]
theorem IsKind.keep {v : V} {r : KR} (s : Same H H') (h : IsKind CS CD H v r) : IsKind CS CD H' v r := by
  obtain ⟨k, e, h⟩ := h
  exact ⟨k, e, h.keep s⟩
theorem KsAt.keep (s : Same H H') (h : KsAt CS CD H vs rs) : KsAt CS CD H' vs rs := by
  induction h with
  | nil => exact .nil
  | cons h _ ih => exact .cons (h.keep s) ih
theorem KsAt.at {v : V} : ∀ {vs : List V} {rs : List KR} {i : Nat}, KsAt CS CD H vs rs → vs[i]? = some v → ∃ r, rs[i]? = some r ∧ IsKind CS CD H v r
  | _, _, 0, .cons h _, q => ⟨_, rfl, Option.some.inj q ▸ h⟩
  | _, _, i + 1, .cons _ t, q => KsAt.at (i := i) t q
end
def sumM (rs : List KR) : Int := (rs.map KR.m).sum
def spCnt (CS CD : Addr) : Sp := fun vs H Q _ => ∃ (t : Addr) (ks : List V) (rs : List KR), vs = [.ref t] ∧ H t = some (.tup ks) ∧ KsAt CS CD H ks rs ∧ rs.length ≤ 10 ∧ ∀ H', Same H H' → Q (.int (sumM rs)) H'
/-- what the top has made of systems -/
structure TxY (K : PySem.W.Frag) (mg : Str → Option Value) (CD : Addr) : Prop where
  sum : mg "sum" = none
  set : mg "set" = none
  mL : ∃ t, mg "LONGEST_OF_MANY" = some (.int 4 t)
  mA : ∃ t, mg "MOST_AHEAD" = some (.int 4 t)
  mW : ∃ t, mg "MOST_WINDOW" = some (.int 8 t)
  mC : ∃ t, mg "MOST_CRASHES" = some (.int 2 t)
  noD : ∀ T ∈ tys7, PySem.W.kitOne K (.type T) (.ref CD) = some false
section
variable {P : Program} {w : World} {K : PySem.W.Frag} {mg : Str → Option Value} {base : Heap} {CS CK CD it : Addr}
theorem scCn : FnScope ["kinds", "kind"] ["kinds"] (defScope sCount) := ⟨rfl, rfl, rfl, by decide +kernel, rfl, by decide +kernel, by decide +kernel⟩
theorem small10 {n : Nat} (h : n ≤ 10) : n < sizeLine := small1000 (by omega)
theorem tail1 {α : Type} {g : α → V} {φ : KR → α} {rs : List KR} {i : Nat} {r : KR} (er : rs[i]? = some r) (few : rs.length ≤ 10) {H1 H2 H3 : Hp} {D : Addr} (hD : H1 D = none) (h2 : H2 D = some (.lst (((rs.take i).map φ).map g))) (s2 : Same H1 H2) (s3 : Same H2 H3) :
    ∃ acc, H3 D = some (.lst acc) ∧ acc.length < sizeLine ∧ (L2.upd H3 D (.lst (acc ++ [g (φ r)]))) D = some (.lst (((rs.take (i + 1)).map φ).map g)) ∧ Same H1 (L2.upd H3 D (.lst (acc ++ [g (φ r)]))) ∧ i + 1 ≤ rs.length := by
  refine ⟨_, s3 _ _ h2, small10 ?_, ?_, fun b o e => ?_, (List.getElem?_eq_some_iff.mp er).1⟩
  · rw [List.length_map, List.length_map, List.length_take]; omega
  · rw [upd_same, List.take_add_one, er]; simp
  · rw [upd_ne (ne_of_none e hD)]; exact s3 _ _ (s2 _ _ e)
theorem ok_count {f : Addr} {fd : FuncData} (F : Fun K "count_of_sessions" "count_of_sessions" sCount f fd) (U : TxK K mg CS CD) (Y : TxY K mg CD) : FnOk P w K mg base CX0 1 f fd ["kinds"] (spCnt CS CD) := by
  refine F.ok scCn (fun vs H Q E h => ?_) (fun cdv A outer s H vs Q E hr h => ?_)
  · obtain ⟨t, ks, rs, rfl, _⟩ := h
    rfl
  obtain ⟨t, ks, rs, rfl, ht, hR, few, q⟩ := h
  refine ⟨_, pss_one (ps_ret (pe_callB (cr_sum rfl) (by rfl) Y.sum (by decide +kernel) (pa_cons
    (pe_lc (own := [("kind", 1)]) (g := gName 1) (tt := tYes) rfl scCn.nd (pi_tup (pv 0)) (blkOk_by (own := [("kind", 1)]) (N := ["kinds", "kind"]) (sc := defScope sCount) (by decide +kernel))
      (fun _ _ _ _ _ => pg_name (i := 1) scCn.nd rfl (Or.inl rfl)) (fun _ _ _ _ _ => pts_nil) (fun _ _ _ _ _ => pe_fldF (K := K) rfl (pv 1) rfl)) pa_nil))), ?_⟩
  refine ⟨_, rfl, t, rfl, ⟨_, SqT.of ht⟩, fun D hD => ?_⟩
  refine lc_tup (K := K) (a := t) (xs := ks) (fun i H2 => H2 D = some (.lst (((rs.take i).map KR.m).map V.int)) ∧ Same H H2 ∧ i ≤ rs.length) ⟨upd_same, same_new hD _, Nat.zero_le _⟩ (fun i H2 _ z => SqT.of (z.2.1 _ _ ht)) ?_ ?_
  · rintro i v H2 hv ⟨h2, s2, _⟩
    obtain ⟨r, er, k, rfl, dx, x, tt, hk, hx⟩ := hR.at hv
    have hk2 := s2 _ _ hk
    have hx2 := hx.keep s2
    refine ⟨rfl, ?_⟩
    unfold tYes
    dsimp only
    rw [if_pos rfl]
    exact ⟨_, rfl, k, CD, dx, _, _, rfl, hk2, U.isD.cl, U.nM, fldD_m _ _ _ _, tail1 er few hD h2 s2 (Same.refl _)⟩
  rintro H2 ⟨h2, s2, _⟩
  rw [hR.len, List.take_length] at h2
  exact ⟨D, _, rfl, SqL.of h2, q H2 s2⟩
/-- whether kinds are such as a system can have -/
def dupB (rs : List KR) : Bool := decide (LenS.many (rs.map KR.n) rs.length < rs.length)
def areB (rs : List KR) : Bool := !rs.isEmpty && !dupB rs && decide (sumM rs ≤ 3)
/-- a kind, or what is none -/
def OrKind (CS CD : Addr) (H : Hp) (v : V) : Option KR → Prop
  | some r => IsKind CS CD H v r
  | none => ∃ T, Kd H v T
inductive OsAt (CS CD : Addr) (H : Hp) : List V → List (Option KR) → Prop
  | nil : OsAt CS CD H [] []
  | cons {v : V} {r : Option KR} {vs : List V} {rs : List (Option KR)} (h : OrKind CS CD H v r) (t : OsAt CS CD H vs rs) : OsAt CS CD H (v :: vs) (r :: rs)
theorem OrKind.keep {H H' : Hp} {v : V} (s : Same H H') : ∀ {r : Option KR}, OrKind CS CD H v r → OrKind CS CD H' v r
  | some _, h => IsKind.keep s h
  | none, ⟨T, h⟩ => ⟨T, h.keep s⟩
theorem OsAt.keep {H H' : Hp} {vs : List V} {rs : List (Option KR)} (s : Same H H') (h : OsAt CS CD H vs rs) : OsAt CS CD H' vs rs := by
  induction h with
  | nil => exact .nil
  | cons h _ ih => exact .cons (h.keep s) ih
theorem OsAt.len {H : Hp} {vs : List V} {rs : List (Option KR)} (h : OsAt CS CD H vs rs) : vs.length = rs.length := by
  induction h with
  | nil => rfl
  | cons _ _ ih => rw [List.length_cons, List.length_cons, ih]
theorem OsAt.at {H : Hp} {v : V} : ∀ {vs : List V} {rs : List (Option KR)} {i : Nat}, OsAt CS CD H vs rs → vs[i]? = some v → ∃ r, rs[i]? = some r ∧ OrKind CS CD H v r
  | _, _, 0, .cons h _, q => ⟨_, rfl, Option.some.inj q ▸ h⟩
  | _, _, i + 1, .cons _ t, q => OsAt.at (i := i) t q
theorem OsAt.all {H : Hp} : ∀ {vs : List V} {os : List (Option KR)}, OsAt CS CD H vs os → os.all Option.isSome = true → ∃ rs, os = rs.map some ∧ KsAt CS CD H vs rs
  | _, _, .nil, _ => ⟨[], rfl, .nil⟩
  | _, _, .cons (r := some r) h t, e => by
    obtain ⟨rs, rfl, k⟩ := t.all (by simpa using e)
    exact ⟨r :: rs, rfl, .cons h k⟩
theorem OsAt.of {H : Hp} {vs : List V} {rs : List KR} (h : KsAt CS CD H vs rs) : OsAt CS CD H vs (rs.map some) := by
  induction h with
  | nil => exact .nil
  | cons h _ ih => exact .cons h ih
def aresB (os : List (Option KR)) : Bool := os.all Option.isSome && areB (os.filterMap id)
theorem aresB_some (rs : List KR) : aresB (rs.map some) = areB rs := by
  have e : (rs.map some).filterMap id = rs := by simp
  unfold aresB
  rw [e]
  simp
def spAre (CS CD : Addr) : Sp := fun vs H Q _ => ∃ (t : Addr) (ks : List V) (os : List (Option KR)), vs = [.ref t] ∧ H t = some (.tup ks) ∧ OsAt CS CD H ks os ∧ os.length ≤ 10 ∧ ∀ H', Same H H' → Q (.bl (aresB os)) H'
theorem scAr : FnScope ["kinds", "kind"] ["kinds"] (defScope sAre) := ⟨rfl, rfl, rfl, by decide +kernel, rfl, by decide +kernel, by decide +kernel⟩
theorem ok_are {f fC : Addr} {fd fdC : FuncData} (F : Fun K "are_kinds" "are_kinds" sAre f fd) (B : Bl mg) (T : Txt K w mg CS CK it) (U : TxK K mg CS CD) (Y : TxY K mg CD) (GC : FnOk P w K mg base CX0 1 fC fdC ["kinds"] (spCnt CS CD)) (bC : Binds K fdC ["kinds"] []) (kC : PySem.W.keepIn K (.ref fC) = true) (mC : mg "count_of_sessions" = some (.ref fC)) :
    FnOk P w K mg base CX0 2 f fd ["kinds"] (spAre CS CD) := by
  refine F.ok scAr (fun vs H Q E h => ?_) (fun cdv A outer s H vs Q E hr h => ?_)
  · obtain ⟨t, ks, rs, rfl, _⟩ := h
    rfl
  obtain ⟨t, ks, os, rfl, ht, hO, few, q⟩ := h
  obtain ⟨tM, gM⟩ := U.mM
  refine ⟨_, pss_cons (ps_if (PW.pt (pw_or (pt_not (pt_truth (pv 0) (by intro _; rfl))) (pw_or1 (pt_not (pt_val (pe_callB (cr_all rfl) (by rfl) T.all (by decide +kernel) (pa_cons
      (pe_lc (own := [("kind", 1)]) (g := gName 1) (tt := tYes) rfl scAr.nd (pi_tup (pv 0)) (blkOk_by (own := [("kind", 1)]) (N := ["kinds", "kind"]) (sc := defScope sAre) (by decide +kernel))
        (fun _ _ _ _ _ => pg_name (i := 1) scAr.nd rfl (Or.inl rfl)) (fun _ _ _ _ _ => pts_nil) (fun _ _ _ _ _ => pe_callB (call_isiF (K := K) rfl) (by rfl) T.isi (by decide +kernel) (pa_cons (pv 1) (pa_cons (pe_glob (v := .ref CD) (by rfl) U.mgD rfl) pa_nil)))) pa_nil))))))) (pss_one (ps_ret pe_bl)) pss_nil)
    (pss_cons (ps_if (pt_cmpR op_lt (pe_lenS (by rfl) B.len (by rfl) Y.set
      (pe_lc (own := [("kind", 1)]) (g := gName 1) (tt := tYes) rfl scAr.nd (pi_tup (pv 0)) (blkOk_by (own := [("kind", 1)]) (N := ["kinds", "kind"]) (sc := defScope sAre) (by decide +kernel))
        (fun _ _ _ _ _ => pg_name (i := 1) scAr.nd rfl (Or.inl rfl)) (fun _ _ _ _ _ => pts_nil) (fun _ _ _ _ _ => pe_fldF (K := K) rfl (pv 1) rfl))) (pe_callB call_len_seq (by rfl) B.len PySem.boot_len (pa_cons (pv 0) pa_nil)) (nomark _)) (pss_one (ps_ret pe_bl)) pss_nil)
    (pss_one (ps_ret (pe_cmpR op_le (pe_call GC hr rfl mC kC bC .nil pass0 (pa_cons (pv 0) pa_nil)) (pe_glob (v := .int 3) (by rfl) gM ⟨_, rfl⟩) (nomark _))))), ?_⟩
  refine ⟨_, rfl, !ks.isEmpty, .inr (.inl ⟨_, SqT.of ht, rfl⟩), ?_⟩
  have lo := hO.len
  cases ec : ks.isEmpty with
  | true =>
    have e0 : os = [] := List.eq_nil_of_length_eq_zero (by rw [← lo, List.isEmpty_iff.mp ec]; rfl)
    have z := q H (Same.refl H)
    rw [e0] at z
    exact iteT (iteT z)
  | false =>
  refine iteF ?_
  refine ⟨_, rfl, t, rfl, ⟨_, SqT.of ht⟩, fun D hD => ?_⟩
  refine lc_tup (K := K) (a := t) (xs := ks) (fun i H2 => H2 D = some (.lst (((os.take i).map Option.isSome).map V.bl)) ∧ Same H H2 ∧ i ≤ os.length) ⟨upd_same, same_new hD _, Nat.zero_le _⟩ (fun i H2 _ z => SqT.of (z.2.1 _ _ ht)) ?_ ?_
  · rintro i v H2 hv ⟨h2, s2, _⟩
    obtain ⟨o, eo, hk⟩ := hO.at hv
    have hk2 := OrKind.keep s2 hk
    have lt := (List.getElem?_eq_some_iff.mp eo).1
    refine ⟨rfl, ?_⟩
    unfold tYes
    dsimp only
    rw [if_pos rfl]
    have fin : ∃ acc, H2 D = some (.lst acc) ∧ acc.length < sizeLine ∧ (L2.upd H2 D (.lst (acc ++ [.bl o.isSome]))) D = some (.lst (((os.take (i + 1)).map Option.isSome).map V.bl)) ∧ Same H (L2.upd H2 D (.lst (acc ++ [.bl o.isSome]))) ∧ i + 1 ≤ os.length := by
      refine ⟨_, h2, small10 ?_, ?_, fun b o e => ?_, lt⟩
      · rw [List.length_map, List.length_map, List.length_take]; omega
      · rw [upd_same, List.take_add_one, eo]; simp
      · rw [upd_ne (ne_of_none e hD)]; exact s2 _ _ e
    match o, hk2, fin with
    | some r, ⟨k, ev, dx, x, tt, hk, hx⟩, fin => exact ⟨_, rfl, v, _, _, _, true, rfl, .own CD, ev ▸ .base (.ins hk U.isD.cl U.isD.ha U.isD.hn U.isD.htk U.isD.hm), U.isD.me, fin⟩
    | none, ⟨T', kd⟩, fin => exact ⟨_, rfl, v, _, _, _, false, rfl, .own CD, kd.ty, Y.noD _ kd.mem, fin⟩
  rintro H2 ⟨h2, s2, _⟩
  rw [lo, List.take_length] at h2
  have ea : (os.map Option.isSome).all id = os.all Option.isSome := by rw [List.all_map]; rfl
  refine ⟨D, _, rfl, SqL.of h2, ?_⟩
  rw [ea]
  cases eg : os.all Option.isSome with
  | false =>
    have z := q H2 s2
    unfold aresB at z
    rw [eg] at z
    exact ⟨_, rfl, iteT z⟩
  | true =>
  refine ⟨_, rfl, iteF ?_⟩
  obtain ⟨rs, rfl, hR⟩ := hO.all eg
  rw [aresB_some] at q
  rw [List.length_map] at few lo
  have ht2 := s2 _ _ ht
  have hR2 := hR.keep s2
  refine ⟨_, rfl, t, rfl, ⟨_, SqT.of ht2⟩, fun D2 hD2 => ?_⟩
  refine lc_tup (K := K) (a := t) (xs := ks) (fun i H3 => H3 D2 = some (.lst (((rs.take i).map KR.n).map V.str)) ∧ Same H2 H3 ∧ i ≤ rs.length) ⟨upd_same, same_new hD2 _, Nat.zero_le _⟩ (fun i H3 _ z => SqT.of (z.2.1 _ _ ht2)) ?_ ?_
  · rintro i v H3 hv ⟨h3, s3, _⟩
    obtain ⟨r, er, k, rfl, dx, x, tt, hk, hx⟩ := hR2.at hv
    refine ⟨rfl, ?_⟩
    unfold tYes
    dsimp only
    rw [if_pos rfl]
    exact ⟨_, rfl, k, CD, dx, _, _, rfl, s3 _ _ hk, U.isD.cl, U.nN, fldD_n _ _ _ _, tail1 er few hD2 h3 s3 (Same.refl _)⟩
  rintro H3 ⟨h3, s3, _⟩
  rw [hR.len, List.take_length] at h3
  refine ⟨D2, rs.map KR.n, rfl, SqL.of h3, by rw [List.length_map]; omega, _, rfl, t, _, rfl, .inr (SqT.of (s3 _ _ ht2)), _, _, rfl, rfl, _, rfl, ?_⟩
  have ed : decide (((LenS.many (rs.map KR.n) (rs.map KR.n).length : Nat) : Int) < ((ks.length : Nat) : Int)) = dupB rs := by
    unfold dupB
    rw [List.length_map, hR.len]
    exact decide_eq_decide.mpr Int.ofNat_lt
  rw [ed]
  have er : rs.isEmpty = false := by
    cases rs with
    | nil => rw [List.length_eq_zero_iff.mp hR.len] at ec; cases ec
    | cons _ _ => rfl
  have s03 := s2.trans s3
  cases e5 : dupB rs with
  | true =>
    have z := q H3 s03
    unfold areB at z
    rw [e5, er] at z
    exact iteT z
  | false =>
  refine iteF ⟨_, rfl, t, ks, rs, rfl, s03 _ _ ht, hR.keep s03, few, fun H4 s4 => ?_⟩
  have z := q H4 (s03.trans s4)
  unfold areB at z
  rw [e5, er] at z
  exact ⟨_, _, rfl, rfl, z⟩
/-- the greatest of a field of kinds -/
def IsMax (ns : List Int) (m : Int) : Prop := m ∈ ns ∧ ∀ y ∈ ns, y ≤ m
def maxI : List Int → Int
  | [] => 0
  | [x] => x
  | x :: y :: r => max x (maxI (y :: r))
theorem maxI_is : ∀ {ns : List Int}, ns ≠ [] → IsMax ns (maxI ns)
  | [], h => absurd rfl h
  | [x], _ => ⟨by simp [maxI], fun y hy => by rw [List.mem_singleton.mp hy]; exact Int.le_refl _⟩
  | x :: y :: r, _ => by
    obtain ⟨h1, h2⟩ := maxI_is (ns := y :: r) (by simp)
    refine ⟨?_, fun z hz => ?_⟩
    · show max x (maxI (y :: r)) ∈ _
      rcases Int.le_total x (maxI (y :: r)) with h | h
      · rw [Int.max_eq_right h]; exact List.mem_cons_of_mem _ h1
      · rw [Int.max_eq_left h]; simp
    · show z ≤ max x (maxI (y :: r))
      rcases List.mem_cons.mp hz with rfl | hz
      · exact Int.le_max_left _ _
      · exact Int.le_trans (h2 z hz) (Int.le_max_right _ _)
theorem max_uniq {ns : List Int} {m : Int} (h : m ∈ ns) (g : ∀ y ∈ ns, y ≤ m) : m = maxI ns := by
  obtain ⟨h1, h2⟩ := maxI_is (ns := ns) (by intro z; rw [z] at h; cases h)
  exact Int.le_antisymm (h2 _ h) (g _ h1)
def maxB (rs : List KR) : Int := maxI (rs.map KR.b)
def maxS (rs : List KR) : Int := maxI (rs.map fun r => ((cntAll r.S : Nat) : Int))
/-- a value that is a whole number within -/
def inB (v : V) (lo hi : Int) : Bool := match v with | .int i => decide (lo ≤ i) && decide (i ≤ hi) | _ => false
theorem inB_no {v : V} {lo hi : Int} (h : intB v = false) : inB v lo hi = false := by
  cases v with
  | int i => cases h
  | _ => rfl
theorem intB_int {v : V} (h : intB v = true) : ∃ i, v = .int i := by
  cases v with
  | int i => exact ⟨i, rfl⟩
  | _ => cases h
def isNon : V → Bool | .non => true | _ => false
/-- the first reason to refuse a system -/
def yWhy (os : List (Option KR)) (va vw vc : V) : Option Str :=
  if aresB os = false then some "kinds" else
  let rs := os.filterMap id
  if sumM rs = 3 ∧ 4 < maxS rs then some "size" else
  if inB va 0 4 = false then some "ahead" else
  if isNon vw = false ∧ inB vw (maxB rs) 8 = false then some "window" else
  if inB vc 0 2 = false then some "crashes" else none
def optV : Option Str → V | none => .non | some z => .str z
/-- the values of a system, of any kind -/
def AnyV (H : Hp) (v : V) : Prop := ∃ T, Kd H v T
def spFaultY (CS CD : Addr) : Sp := fun vs H Q _ => ∃ (t : Addr) (ks : List V) (os : List (Option KR)) (va vw vc : V), vs = [.ref t, va, vw, vc] ∧ H t = some (.tup ks) ∧ OsAt CS CD H ks os ∧ os.length ≤ 10 ∧ AnyV H va ∧ AnyV H vw ∧ AnyV H vc ∧ ∀ H', Same H H' → Q (optV (yWhy os va vw vc)) H'
abbrev nsF : List Str := ["kinds", "ahead", "window", "crashes", "full", "greatest_block", "kind"]
theorem scFY : FnScope nsF ["kinds", "ahead", "window", "crashes"] (defScope sFaultY) := ⟨rfl, rfl, rfl, by decide +kernel, rfl, by decide +kernel, by decide +kernel⟩
theorem ok_faultY {f fC fA fW fL : Addr} {fd fdC fdA fdW fdL : FuncData} (F : Fun K "fault_of_system" "fault_of_system" sFaultY f fd) (B : Bl mg) (T : Txt K w mg CS CK it) (U : TxK K mg CS CD) (Y : TxY K mg CD)
    (GC : FnOk P w K mg base CX0 1 fC fdC ["kinds"] (spCnt CS CD)) (bC : Binds K fdC ["kinds"] []) (kC : PySem.W.keepIn K (.ref fC) = true) (mC : mg "count_of_sessions" = some (.ref fC))
    (GA : FnOk P w K mg base CX0 2 fA fdA ["kinds"] (spAre CS CD)) (bA : Binds K fdA ["kinds"] []) (kA : PySem.W.keepIn K (.ref fA) = true) (mA : mg "are_kinds" = some (.ref fA))
    (GW : FnOk P w K mg base CX0 2 fW fdW ["value", "low", "high"] (spWithin K)) (bW : Binds K fdW ["value", "low", "high"] []) (kW : PySem.W.keepIn K (.ref fW) = true) (mW : mg "is_within" = some (.ref fW))
    (mL : OwnM K CS "__len__" fL) (GL : FnOk P w K mg base CX0 1 fL fdL ["self"] (spSLen CS)) (bL : Binds K fdL ["self"] []) :
    FnOk P w K mg base CX0 3 f fd ["kinds", "ahead", "window", "crashes"] (spFaultY CS CD) := by
  refine F.ok scFY (fun vs H Q E h => ?_) (fun cdv A outer s H vs Q E hr h => ?_)
  · obtain ⟨t, ks, os, va, vw, vc, rfl, _⟩ := h
    rfl
  obtain ⟨t, ks, os, va, vw, vc, rfl, ht, hO, few, ⟨Ta, ka⟩, ⟨Tw, kw⟩, ⟨Tc, kc⟩, q⟩ := h
  obtain ⟨tM, gM⟩ := U.mM
  obtain ⟨tL, gL⟩ := Y.mL
  obtain ⟨tA, gA⟩ := Y.mA
  obtain ⟨tW, gW⟩ := Y.mW
  obtain ⟨tC, gC⟩ := Y.mC
  have hr1 : Room 1 _ := hr.mono (by decide)
  refine ⟨_, pss_cons (ps_if (pt_not (pt_val (pe_call GA hr rfl mA kA bA .nil pass0 (pa_cons (pv 0) pa_nil)))) (pss_one (ps_ret pe_str)) pss_nil)
    (pss_cons (ps_set (i := 4) scFY.nd rfl (Or.inl rfl) (pe_cmpR op_eq (pe_call GC hr1 rfl mC kC bC .nil pass0 (pa_cons (pv 0) pa_nil)) (pe_glob (v := .int 3) (by rfl) gM ⟨_, rfl⟩) (nomark _)))
    (C8.pss_cut (ps_if (PW.pt (pw_and (pt_val (pv 4)) (pw_and1 (pt_cmpR op_gt (pe_callB (cr_max rfl) (by rfl) B.max (by decide +kernel) (pa_cons
        (pe_lc (own := [("kind", 6)]) (g := gName 6) (tt := tYes) rfl scFY.nd (pi_tup (pv 0)) (blkOk_by (own := [("kind", 6)]) (N := nsF) (sc := defScope sFaultY) (by decide +kernel))
          (fun _ _ _ _ _ => pg_name (i := 6) scFY.nd rfl (Or.inl rfl)) (fun _ _ _ _ _ => pts_nil) (fun _ _ _ _ _ => pe_callB (call_lenOwnF (C := CS) (K := K) rfl mL GL hr bL pass0) (by rfl) B.len PySem.boot_len (pa_cons (pe_fldF (K := K) rfl (pv 6) rfl) pa_nil))) pa_nil)) (pe_glob (v := .int 4) (by rfl) gL ⟨_, rfl⟩) (nomark _))))) (pss_one (ps_ret pe_str)) pss_nil)
    (pss_cons (ps_if (pt_not (pt_val (pe_call GW hr rfl mW kW bW .nil pass0 (pa_cons (pv 1) (pa_cons pe_int (pa_cons (pe_glob (v := .int 4) (by rfl) gA ⟨_, rfl⟩) pa_nil)))))) (pss_one (ps_ret pe_str)) pss_nil)
    (pss_cons (ps_set (i := 5) scFY.nd rfl (Or.inl rfl) (pe_callB (cr_max rfl) (by rfl) B.max (by decide +kernel) (pa_cons
        (pe_lc (own := [("kind", 6)]) (g := gName 6) (tt := tYes) rfl scFY.nd (pi_tup (pv 0)) (blkOk_by (own := [("kind", 6)]) (N := nsF) (sc := defScope sFaultY) (by decide +kernel))
          (fun _ _ _ _ _ => pg_name (i := 6) scFY.nd rfl (Or.inl rfl)) (fun _ _ _ _ _ => pts_nil) (fun _ _ _ _ _ => pe_fldF (K := K) rfl (pv 6) rfl)) pa_nil)))
    (C8.pss_cut (ps_if (PW.pt (pw_and (pt_cmpR op_notN (pv 2) pe_non (nomark _)) (pw_and1 (pt_not (pt_val (pe_call GW hr rfl mW kW bW .nil pass0 (pa_cons (pv 2) (pa_cons (pv 5) (pa_cons (pe_glob (v := .int 8) (by rfl) gW ⟨_, rfl⟩) pa_nil))))))))) (pss_one (ps_ret pe_str)) pss_nil)
    (pss_cons (ps_if (pt_not (pt_val (pe_call GW hr rfl mW kW bW .nil pass0 (pa_cons (pv 3) (pa_cons pe_int (pa_cons (pe_glob (v := .int 2) (by rfl) gC ⟨_, rfl⟩) pa_nil)))))) (pss_one (ps_ret pe_str)) pss_nil)
    (pss_one (ps_ret pe_non)))))))), ?_⟩
  refine ⟨_, rfl, t, ks, os, rfl, ht, hO, few, fun H1 s1 => ?_⟩
  cases ea : aresB os with
  | false =>
    have z := q H1 s1
    unfold yWhy at z
    rw [if_pos ea] at z
    exact ⟨_, rfl, iteT z⟩
  | true =>
  refine ⟨_, rfl, iteF ?_⟩
  obtain ⟨rs, rfl, hR⟩ : ∃ rs, os = rs.map some ∧ KsAt CS CD H ks rs := hO.all (by unfold aresB at ea; rw [Bool.and_eq_true] at ea; exact ea.1)
  have ef : (rs.map some).filterMap id = rs := by simp
  have ne : rs ≠ [] := by
    rw [aresB_some] at ea
    intro z
    rw [z] at ea
    exact absurd ea (by decide)
  unfold yWhy at q
  rw [if_neg (by rw [ea]; decide), ef] at q
  dsimp only at q
  rw [List.length_map] at few
  have ht1 := s1 _ _ ht
  refine ⟨_, rfl, t, ks, rs, rfl, ht1, hR.keep s1, few, fun H2 s2 => ⟨rfl, ?_⟩⟩
  have s02 := s1.trans s2
  refine ⟨fun σ' H' => σ' = [some (.ref t), some va, some vw, some vc, some (.bl (decide (V.int (sumM rs) = V.int 3))), none, none] ∧ Same H H' ∧ ¬ (sumM rs = 3 ∧ 4 < maxS rs), ?_, ?_⟩
  · refine ⟨_, rfl, _, rfl, ?_⟩
    by_cases c3 : sumM rs = 3
    · refine iteTb (by rw [c3]; rfl) ?_
      have ht2 := s02 _ _ ht
      refine ⟨_, rfl, t, rfl, ⟨_, SqT.of ht2⟩, fun D hD => ?_⟩
      refine lc_tup (K := K) (a := t) (xs := ks) (fun i H3 => H3 D = some (.lst (((rs.take i).map fun r => ((cntAll r.S : Nat) : Int)).map V.int)) ∧ Same H2 H3 ∧ i ≤ rs.length) ⟨upd_same, same_new hD _, Nat.zero_le _⟩ (fun i H3 _ z => SqT.of (z.2.1 _ _ ht2)) ?_ ?_
      · rintro i v H3 hv ⟨h3, s3, _⟩
        obtain ⟨r, er, k, rfl, dx, x, tt, hk, hx⟩ := (hR.keep s02).at hv
        have hx3 := hx.keep s3
        obtain ⟨⟨dx', dd, pl, bs, kvs, xs, g1, _⟩, _⟩ := id hx3
        refine ⟨rfl, ?_⟩
        unfold tYes
        dsimp only
        rw [if_pos rfl]
        have few8 := hx3.few
        exact ⟨_, rfl, k, CD, dx, _, _, rfl, s3 _ _ hk, U.isD.cl, U.nS, fldD_s _ _ _ _, x, dx', _, rfl, g1, x, tt, r.S, rfl, hx3, _, rfl, by omega, by omega, tail1 (g := V.int) (φ := fun r => ((cntAll r.S : Nat) : Int)) er few hD h3 s3 (Same.refl _)⟩
      rintro H3 ⟨h3, s3, _⟩
      rw [hR.len, List.take_length] at h3
      refine ⟨D, _, rfl, SqL.of h3, by rw [List.length_map]; exact List.length_pos_iff.mpr ne, fun m hm1 hm2 => ?_⟩
      have em : m = maxS rs := max_uniq hm1 hm2
      subst em
      refine ⟨_, _, rfl, rfl, _, rfl, ite2 (fun c => ?_) (fun c => ?_)⟩
      · have c4 := of_decide_eq_true c
        rw [if_pos ⟨c3, c4⟩] at q
        exact q H3 (s02.trans s3)
      · exact ⟨rfl, s02.trans s3, fun z => c (decide_eq_true z.2)⟩
    · refine iteFb (decide_eq_false fun z => c3 (by injection z)) ⟨rfl, s02, fun z => c3 z.1⟩
  rintro σ' H3 ⟨rfl, s3, nsz⟩
  rw [if_neg nsz] at q
  have ht3 := s3 _ _ ht
  obtain ⟨b1, b2, k1, k2, eb⟩ := ka.intB
  refine ⟨_, rfl, va, Ta, b1, b2, 0, 4, rfl, (ka.keep s3).ty, k1, k2, fun h => ⟨_, rfl, iteT ?_⟩, fun h => ?_⟩
  · rw [if_pos (inB_no (eb ▸ h))] at q
    exact q H3 s3
  obtain ⟨ia, rfl⟩ := intB_int (eb ▸ h)
  refine ⟨ia, rfl, _, rfl, ?_⟩
  rw [show (decide (0 ≤ ia) && decide (ia ≤ 4)) = inB (.int ia) 0 4 from rfl]
  cases e1 : inB (.int ia) 0 4 with
  | false =>
    rw [if_pos e1] at q
    exact iteT (q H3 s3)
  | true =>
  refine iteF ?_
  rw [if_neg (by rw [e1]; decide)] at q
  refine ⟨_, rfl, t, rfl, ⟨_, SqT.of ht3⟩, fun D hD => ?_⟩
  refine lc_tup (K := K) (a := t) (xs := ks) (fun i H4 => H4 D = some (.lst (((rs.take i).map KR.b).map V.int)) ∧ Same H3 H4 ∧ i ≤ rs.length) ⟨upd_same, same_new hD _, Nat.zero_le _⟩ (fun i H4 _ z => SqT.of (z.2.1 _ _ ht3)) ?_ ?_
  · rintro i v H4 hv ⟨h4, s4, _⟩
    obtain ⟨r, er, k, rfl, dx, x, tt, hk, hx⟩ := (hR.keep s3).at hv
    refine ⟨rfl, ?_⟩
    unfold tYes
    dsimp only
    rw [if_pos rfl]
    exact ⟨_, rfl, k, CD, dx, _, _, rfl, s4 _ _ hk, U.isD.cl, U.nB, fldD_b _ _ _ _, tail1 er few hD h4 s4 (Same.refl _)⟩
  rintro H4 ⟨h4, s4, _⟩
  rw [hR.len, List.take_length] at h4
  refine ⟨D, _, rfl, SqL.of h4, by rw [List.length_map]; exact List.length_pos_iff.mpr ne, fun m hm1 hm2 => ?_⟩
  have em : m = maxB rs := max_uniq hm1 hm2
  subst em
  have s04 := s3.trans s4
  refine ⟨fun σ' H' => σ' = [some (.ref t), some (.int ia), some vw, some vc, some (.bl (decide (V.int (sumM rs) = V.int 3))), some (.int (maxB rs)), none] ∧ Same H H' ∧ ¬ (isNon vw = false ∧ inB vw (maxB rs) 8 = false), ?_, ?_⟩
  · refine ⟨_, rfl, rfl, _, rfl, ?_⟩
    have en : (!decide (vw = V.non)) = !isNon vw := by cases vw <;> rfl
    rw [en]
    cases e2 : isNon vw with
    | true => exact iteF ⟨rfl, s04, fun z => absurd z.1 (by decide)⟩
    | false =>
      obtain ⟨b1, b2, k1, k2, eb⟩ := kw.intB
      refine iteT ⟨_, rfl, _, rfl, vw, Tw, b1, b2, maxB rs, 8, rfl, (kw.keep s04).ty, k1, k2, fun h => ⟨_, rfl, iteT ?_⟩, fun h => ?_⟩
      · rw [if_pos ⟨e2, inB_no (eb ▸ h)⟩] at q
        exact q H4 s04
      obtain ⟨i, rfl⟩ := intB_int (eb ▸ h)
      refine ⟨i, rfl, _, rfl, ?_⟩
      rw [show (decide (maxB rs ≤ i) && decide (i ≤ 8)) = inB (.int i) (maxB rs) 8 from rfl]
      cases e3 : inB (.int i) (maxB rs) 8 with
      | false =>
        rw [if_pos ⟨e2, e3⟩] at q
        exact iteT (q H4 s04)
      | true => exact iteF ⟨rfl, s04, fun z => absurd z.2 (by decide)⟩
  rintro σ' H5 ⟨rfl, s5, nw⟩
  rw [if_neg nw] at q
  obtain ⟨b1, b2, k1, k2, eb⟩ := kc.intB
  refine ⟨_, rfl, vc, Tc, b1, b2, 0, 2, rfl, (kc.keep s5).ty, k1, k2, fun h => ⟨_, rfl, iteT ?_⟩, fun h => ?_⟩
  · rw [if_pos (inB_no (eb ▸ h))] at q
    exact q H5 s5
  obtain ⟨i, rfl⟩ := intB_int (eb ▸ h)
  refine ⟨i, rfl, _, rfl, ?_⟩
  rw [show (decide (0 ≤ i) && decide (i ≤ 2)) = inB (.int i) 0 2 from rfl]
  cases e1 : inB (.int i) 0 2 with
  | false =>
    rw [if_pos e1] at q
    exact iteT (q H5 s5)
  | true =>
    rw [if_neg (by rw [e1]; decide)] at q
    exact iteF (q H5 s5)
end
end Tk
set_option maxRecDepth 100000
namespace L2
open PySem PySem.Spec PyProof.Rows
/-- C(e, .., k = v, ..), where an error may come out of its __init__, as the wish at these slots says -/
def tMakeKS (C : Addr) (n m : Nat) (sp : Sp) (gV : List V → List V → List V) (E : St → XK) (t tk : TA) : TE := fun σ H Q => t σ H fun vs H1 => tk σ H1 fun zs H2 => vs.length = n ∧ zs.length = m ∧ ∀ x dx, H2 x = none → H2 dx = none → dx ≠ x →
  sp (gV (.ref x :: vs) zs) (upd (upd H2 dx (.own x)) x (.ins C dx [])) (fun v H3 => v = .non ∧ Q (.ref x) H3) (E σ)
section
variable {X : Cx} {CX : CXT} {k n : Nat} {f C : Addr} {fd : FuncData} {ps ks : List Str} {sp : Sp} {E : St → XK} {x : Str} {p pos : Pos} {e : Expr} {es : List Expr} {kws : List Keyword} {t tk : TA} {g : List Value → List Value → List Value} {gV : List V → List V → List V}
theorem run_makeKS {pins : List (Addr × Obj)} {σ : St} {H : Hp} {s : Shared} {Q : VK} {us ws : List Value} {vs zs : List V} {E : XK} (M : Mk X.K C f) (F : FnOk X.prog X.w X.K X.mg X.base CX k f fd ps sp) (hr : Room (k + 1) X.A) (hb : KBn X.K fd ps (n + 1) ks g gV) (hx : PassesAt CX X σ E)
    (I : Inv X pins σ H s) (r : Vals vs us) (rz : Vals zs ws) (l1 : vs.length = n) (l2 : zs.length = ks.length)
    (h : ∀ x dx, H x = none → H dx = none → dx ≠ x → sp (gV (.ref x :: vs) zs) (upd (upd H dx (.own x)) x (.ins C dx [])) (fun v H2 => v = .non ∧ Q (.ref x) H2) E) :
    wpAny (model X.prog X.w) X.A (call (.ref C) us (ks.zip ws)) (EP X pins σ Q) X.xe s := by
  have hq := h (s.heap.objs.size + 1) s.heap.objs.size (I.hok.fresh (Nat.le_succ _)) (I.hok.fresh (Nat.le_refl _)) (Nat.ne_of_lt (Nat.lt_succ_self _))
  have I2 := Inv.made (C := C) I
  have r1 : Vals (V.ref (s.heap.objs.size + 1) :: vs) (Value.ref (s.heap.objs.size + 1) :: us) := .cons rfl r
  have r2 := hb.rel r1 rz
  have n1 : (Value.ref (s.heap.objs.size + 1) :: us).length = n + 1 := by
    rw [List.length_cons, ← r.length, l1]
  refine wpAny_call (make_map (f := f) I.kIn M.makes M.init (beq_iff_eq.mp M.fn) (codeAny_mono (F.run _ X.stack _ _ ⟨Value.ref (s.heap.objs.size + 1) :: us, ks.zip ws⟩ (g (Value.ref (s.heap.objs.size + 1) :: us) ws) _ _ E (hr.make C us (ks.zip ws))
    (I2.env0.make C us (ks.zip ws)) (hb.to _ (Value.ref (s.heap.objs.size + 1) :: us) ws I2.kIn n1 (rz.length.symm.trans l2)) r2 hq) fun r s' hq' => ?_))
  cases r with
  | error e => exact hx pins _ _ e s' I2 hq'
  | ok fl =>
    cases fl with
    | ret u =>
      obtain ⟨v, H', I3, rv, ev, q3⟩ := I2.after hq'
      subst ev
      exact ⟨rv, ⟨V.ref (s.heap.objs.size + 1), H', I3, rfl, q3⟩⟩
    | next => exact False.elim hq'
    | brk => exact False.elim hq'
    | cont => exact False.elim hq'
theorem pe_makeKS (M : Mk X.K C f) (F : FnOk X.prog X.w X.K X.mg X.base CX k f fd ps sp) (hr : Room (k + 1) X.A) (hg : Gl X x) (hm : X.mg x = some (.ref C)) (hb : KBn X.K fd ps (n + 1) ks g gV) (hx : ∀ σ, PassesAt CX X σ (E σ)) (ha : PA X (e :: es) t) (hkw : PK X kws tk)
    (hall : (backToKw pos (keywordEach kws X.env)).all (·.1.isSome) = true := by rfl) (hks : (backToKw pos (keywordEach kws X.env)).filterMap (·.1) = ks := by rfl) (hdb : (x == ("__debug__" : Str)) = false := by decide)
    (he : starEach (e :: es) X.env = (false, eval e X.env) :: starEach es X.env := by rfl) (hpl : ((backTo pos (starEach (e :: es) X.env)).any (·.1) || (backToKw pos (keywordEach kws X.env)).any (·.1.isNone)) = false := by rfl) :
    PE X (.Call (.Name x p) (e :: es) kws pos) (tMakeKS C n ks.length sp gV E t tk) := by
  refine ⟨fun pins s σ H Q I h => ?_⟩
  refine wpAny_Call_Name_kw (ld_glob I hg hm ?_ hdb)
  refine PySem.W.callWith_KW (h₀ := X.base) I.ok.mod.kin M.kp hall (thn (ha.run pos pins s σ H _ I h) fun us s1 ⟨vs, H1, I1, r, q⟩ => ?_) hpl he
  refine thn (hkw.run pos pins s1 σ H1 _ I1 q) fun ws s2 ⟨zs, H2, I2, rz, l1, l2, q2⟩ => ⟨I2.kIn, ?_⟩
  rw [hks]
  exact run_makeKS M F hr hb (hx σ) I2 r rz l1 l2 q2
end
end L2
set_option maxRecDepth 100000
/-! def f(a, .., *v, k = .., ..): a star parameter beside keyword-only ones -/
namespace StK
open PySem PySem.Spec PyProof.Rows L2 StX
/-- what the reading of defaults leaves to do -/
def KwTail {α : Type} (D : Addr) : List (Str × Value) → Sem α → Sem α → Prop
  | [], t, r => t = r
  | q :: l, t, r => ∃ (β γ : Type) (k1 : Option Value → Sem β) (k2 : β → Sem γ) (k3 : γ → Sem α) (a : β), t = ((nsGet D q.1 >>= k1) >>= k2) >>= k3 ∧ k1 (some q.2) = pure a ∧ KwTail D l (k2 a >>= k3) r
theorem KwTail.wp {α : Type} {K : PySem.W.Frag} {M : Model} {A : Around} {s : Shared} {D : Addr} {Q : α → Shared → Prop} {E : Value → Shared → Prop} (X : K.In s.heap) : ∀ {l : List (Str × Value)} {t r : Sem α}, (∀ q ∈ l, PySem.W.nsIn K D q.1 = some (some q.2)) → KwTail D l t r → wpAny M A r Q E s → wpAny M A t Q E s
  | [], t, r, _, e, h => by
    rw [show t = r from e]; exact h
  | q :: l, t, r, hl, e, h => by
    obtain ⟨β, γ, k1, k2, k3, a, e1, e2, e3⟩ := e
    have l1 : PySem.W.Looks M s.heap (nsGet D q.1 >>= k1) a := (PySem.W.looks_nsIn X (hl q (List.mem_cons_self ..))).andThen (PySem.W.Looks.of_pure e2)
    rw [e1, bind_assoc]
    exact wpAny_bind (l1.here (KwTail.wp X (fun p hp => hl p (List.mem_cons_of_mem _ hp)) e3 h))
/-- a def that is called with the keywords ks -/
def FnRK (P : Program) (w : World) (K : PySem.W.Frag) (mg : Str → Option Value) (base : Heap) (CX : CXT) (k : Nat) (f : Addr) (ks : List Str) (sp : List V → Sp) : Prop :=
  ∀ (A : Around) (outer : List Env) (s : Shared) (H : Hp) (us ws : List Value) (vs zs : List V) (Q : VK) (E : XK), Room k A → Env0 P w K mg base A outer s H → Vals vs us → Vals zs ws → zs.length = ks.length → sp zs vs H Q E →
    codeAny (model P w) A (.call (.ref f) ⟨us, ks.zip ws⟩) (CR CX outer P w H s Q E) s
section
variable {CX : CXT} {P : Program} {w : World} {K : PySem.W.Frag} {mg : Str → Option Value} {base : Heap} {k n : Nat} {f D : Addr} {name qual : Str} {params : Arguments} {body : List Stmt} {scope : Scope} {doc pm cdv ct oc : Value} {an od : Option Addr}
  {osl : Array (Option Value)} {N ps ks : List Str} {ms : List (Str × V)} {sp : Sp} {pv : Str}
theorem fn_starK (lk : K.lookup f = some ⟨oc, od, .func (PySem.W.fnOf name qual params body scope .none (.ref D) doc pm an cdv ct), osl⟩) (hcd : PySem.W.codeIn K cdv qual = true) (S : FnScope N (ps ++ [pv]) scope) (hCX : CXUp CX)
    (hms : ∀ q ∈ ms, ∃ u, PySem.W.nsIn K D q.1 = some (some u) ∧ RelV q.2 u) (g : {α : Type} → List α → List α → List α → List α)
    (hrel : ∀ {vs mz zs : List V} {us mv ws : List Value}, Vals vs us → Vals mz mv → Vals zs ws → Vals (g vs mz zs) (g us mv ws))
    (hlen : ∀ {α : Type} (us mv ws : List α), us.length = n → mv.length = ms.length → ws.length = ks.length → (g us mv ws).length = ps.length)
    (hb : ∀ us rest mv ws : List Value, us.length = n → mv.length = ms.length → ws.length = ks.length → KwTail D ((ms.map (·.1)).zip mv) (bindArgs (PySem.W.fnOf name qual params body scope .none (.ref D) doc pm an cdv ct) ⟨us ++ rest, ks.zip ws⟩) (newTuple rest >>= fun t => pure (ps.zip (g us mv ws) ++ [(pv, t)])))
    (hbody : ∀ (A : Around) (outer : List Env) (s : Shared) (H : Hp) (vs : List V) (Q : VK) (E : XK), Room k (A.deeper (envOfC qual scope s.heap.objs.size f cdv)) → sp vs H Q E →
      ∃ t, PSs (cxOf CX P w K mg base N qual scope f cdv A outer s H E) body t ∧ t { nx := fun _ H' => Q .non H', rt := Q } (start N vs) H) :
    FnRK P w K mg base CX (k + 1) f ks (fun zs vs H Q E => ∃ ws rest, vs = ws ++ rest ∧ ws.length = n ∧ rest.length ≤ sizeLine ∧ ∀ p, H p = Option.none → sp (g ws (ms.map (·.2)) zs ++ [V.ref p]) (upd H p (.tup rest)) Q E) := by
  intro A outer s H us wz vs zs Q E hr e0 r rz hz hsp
  obtain ⟨ws, rest, ev, hl, hs, hq⟩ := hsp
  subst ev
  obtain ⟨u1, u2, eu, r1, r2⟩ := vals_split r
  subst eu
  obtain ⟨mv, ml, rm, hks⟩ := kwd_vals hms
  have KX : K.In s.heap := e0.mod.kin.keeps fun b o e => (e0.bs b o e).1
  have hn : H s.heap.objs.size = Option.none := e0.hok.fresh (Nat.le_refl _)
  have hl1 : u1.length = n := by rw [← r1.length]; exact hl
  have hl2 : u2.length ≤ sizeLine := by rw [← r2.length]; exact hs
  have hlz : wz.length = ks.length := by rw [← rz.length]; exact hz
  have rg := hrel r1 rm rz
  have lg : (g u1 mv wz).length = ps.length := hlen _ _ _ hl1 ml hlz
  have lg' : (g ws (ms.map (·.2)) zs).length = ps.length := by rw [rg.length]; exact lg
  refine run_bnd lk hcd S hr e0 (G := fun xs H2 => ∃ p, H p = Option.none ∧ xs = g ws (ms.map (·.2)) zs ++ [V.ref p] ∧ H2 = upd H p (.tup rest)) (fun A' Ex Q' h => ?_) fun s2 H2 xs ⟨p, hp, ex, eH⟩ hr' => ?_
  · refine KwTail.wp KX hks (hb u1 u2 mv wz hl1 ml hlz) ?_
    refine wpAny_bind (wpAny_newTuple (wpAny_pure ?_) hl2)
    have new : ObjOk P w (upd H s.heap.objs.size (.tup rest)) (s.heap.push ({ cls := .type "tuple", data := .seq u2.toArray } : Obj)) s.heap.objs.size (.tup rest) := ⟨hs, u2, r2, ⟨_, Heap.get?_push_size _ rfl, rfl, _, rfl⟩⟩
    have un := un_laid (fs := frs outer) (s := s) (o := ({ cls := .type "tuple", data := .seq u2.toArray } : Obj)) (u := .tup rest) hn
    have z := h _ _ (g ws (ms.map (·.2)) zs ++ [V.ref s.heap.objs.size]) (g u1 mv wz ++ [Value.ref s.heap.objs.size]) (env0_laid e0 new) un rfl (fun e s' => hCX outer s H _ _ E e s' un (fun b o q => Heap.get?_push_of_some _ q) rfl) (rg.append (.cons rfl .nil))
      (by rw [List.length_append, List.length_append, lg'] <;> rfl) ⟨_, hn, rfl, rfl⟩
    rw [List.zip_append lg.symm] at z
    exact z
  · subst ex eH
    exact hbody A outer s2 _ _ Q E hr' (hq p hp)
end
/-! ### C(e, .., k = v, ..) of such an __init__, where an error may come out -/
def tMakeRK (C : Addr) (m : Nat) (sp : List V → Sp) (E : L2.St → XK) (t tk : TA) : TE := fun σ H Q => t σ H fun vs H1 => tk σ H1 fun zs H2 => zs.length = m ∧ ∀ x dx, H2 x = none → H2 dx = none → dx ≠ x →
  sp zs (V.ref x :: vs) (upd (upd H2 dx (.own x)) x (.ins C dx [])) (fun v H3 => v = .non ∧ Q (.ref x) H3) (E σ)
section
variable {X : Cx} {CX : CXT} {k : Nat} {f C : Addr} {ks : List Str} {sp : List V → Sp} {E : L2.St → XK} {x : Str} {p pos : Pos} {e : Expr} {es : List Expr} {kws : List Keyword} {t tk : TA}
theorem run_makeRK {pins : List (Addr × Obj)} {σ : L2.St} {H : Hp} {s : Shared} {Q : VK} {us ws : List Value} {vs zs : List V} {E : XK} (M : Mk X.K C f) (F : FnRK X.prog X.w X.K X.mg X.base CX k f ks sp) (hr : Room (k + 1) X.A) (hx : PassesAt CX X σ E)
    (I : Inv X pins σ H s) (r : Vals vs us) (rz : Vals zs ws) (l2 : zs.length = ks.length)
    (h : ∀ x dx, H x = none → H dx = none → dx ≠ x → sp zs (V.ref x :: vs) (upd (upd H dx (.own x)) x (.ins C dx [])) (fun v H2 => v = .non ∧ Q (.ref x) H2) E) :
    wpAny (model X.prog X.w) X.A (call (.ref C) us (ks.zip ws)) (EP X pins σ Q) X.xe s := by
  have hq := h (s.heap.objs.size + 1) s.heap.objs.size (I.hok.fresh (Nat.le_succ _)) (I.hok.fresh (Nat.le_refl _)) (Nat.ne_of_lt (Nat.lt_succ_self _))
  have I2 := Inv.made (C := C) I
  have r1 : Vals (V.ref (s.heap.objs.size + 1) :: vs) (Value.ref (s.heap.objs.size + 1) :: us) := .cons rfl r
  refine wpAny_call (make_map (f := f) I.kIn M.makes M.init (beq_iff_eq.mp M.fn) (codeAny_mono (F _ X.stack _ _ (Value.ref (s.heap.objs.size + 1) :: us) ws _ _ _ E (hr.make C us (ks.zip ws)) (I2.env0.make C us (ks.zip ws)) r1 rz l2 hq) fun r s' hq' => ?_))
  cases r with
  | error e => exact hx pins _ _ e s' I2 hq'
  | ok fl =>
    cases fl with
    | ret u =>
      obtain ⟨v, H', I3, rv, ev, q3⟩ := I2.after hq'
      subst ev
      exact ⟨rv, ⟨V.ref (s.heap.objs.size + 1), H', I3, rfl, q3⟩⟩
    | next => exact False.elim hq'
    | brk => exact False.elim hq'
    | cont => exact False.elim hq'
theorem pe_makeRK0 (M : Mk X.K C f) (F : FnRK X.prog X.w X.K X.mg X.base CX k f ks sp) (hr : Room (k + 1) X.A) (hg : Gl X x) (hm : X.mg x = some (.ref C)) (hx : ∀ σ, PassesAt CX X σ (E σ)) (hkw : PK X kws tk)
    (hall : (backToKw pos (keywordEach kws X.env)).all (·.1.isSome) = true := by rfl) (hks : (backToKw pos (keywordEach kws X.env)).filterMap (·.1) = ks := by rfl) (hdb : (x == ("__debug__" : Str)) = false := by decide)
    (hpl : ((backTo pos (starEach [] X.env)).any (·.1) || (backToKw pos (keywordEach kws X.env)).any (·.1.isNone)) = false := by rfl) :
    PE X (.Call (.Name x p) [] kws pos) (tMakeRK C ks.length sp E tNil tk) := by
  refine ⟨fun pins s σ H Q I h => ?_⟩
  refine wpAny_Call_Name_kw (ld_glob I hg hm ?_ hdb)
  refine PySem.W.callWith_KW0 (h₀ := X.base) I.ok.mod.kin M.kp hall ?_ hpl
  refine thn (hkw.run pos pins s σ H _ I h) fun ws s2 ⟨zs, H2, I2, rz, l2, q2⟩ => ⟨I2.kIn, ?_⟩
  rw [hks]
  exact run_makeRK (us := []) (vs := []) M F hr (hx σ) I2 .nil rz l2 q2
theorem pe_makeRK (M : Mk X.K C f) (F : FnRK X.prog X.w X.K X.mg X.base CX k f ks sp) (hr : Room (k + 1) X.A) (hg : Gl X x) (hm : X.mg x = some (.ref C)) (hx : ∀ σ, PassesAt CX X σ (E σ)) (ha : PA X (e :: es) t) (hkw : PK X kws tk)
    (hall : (backToKw pos (keywordEach kws X.env)).all (·.1.isSome) = true := by rfl) (hks : (backToKw pos (keywordEach kws X.env)).filterMap (·.1) = ks := by rfl) (hdb : (x == ("__debug__" : Str)) = false := by decide)
    (he : starEach (e :: es) X.env = (false, eval e X.env) :: starEach es X.env := by rfl) (hpl : ((backTo pos (starEach (e :: es) X.env)).any (·.1) || (backToKw pos (keywordEach kws X.env)).any (·.1.isNone)) = false := by rfl) :
    PE X (.Call (.Name x p) (e :: es) kws pos) (tMakeRK C ks.length sp E t tk) := by
  refine ⟨fun pins s σ H Q I h => ?_⟩
  refine wpAny_Call_Name_kw (ld_glob I hg hm ?_ hdb)
  refine PySem.W.callWith_KW (h₀ := X.base) I.ok.mod.kin M.kp hall (thn (ha.run pos pins s σ H _ I h) fun us s1 ⟨vs, H1, I1, r, q⟩ => ?_) hpl he
  refine thn (hkw.run pos pins s1 σ H1 _ I1 q) fun ws s2 ⟨zs, H2, I2, rz, l2, q2⟩ => ⟨I2.kIn, ?_⟩
  rw [hks]
  exact run_makeRK M F hr (hx σ) I2 r rz l2 q2
end
end StK
set_option maxRecDepth 100000
namespace Tk
open PySem L2 StK
abbrev sYInit : Stmt := inClass (top 31) 0
abbrev psY : List Str := ["self", "ahead", "window", "crashes"]
theorem bindY0 (D : Addr) (doc pm cdv ct : Value) (an : Option Addr) : ∀ us rest mv ws : List Value, us.length = 1 → mv.length = 3 → ws.length = 0 →
    KwTail D ((["ahead", "window", "crashes"] : List Str).zip mv) (bindArgs (PySem.W.fnOf "__init__" "System.__init__" (defArgs sYInit) (defBody sYInit) (defScope sYInit) .none (.ref D) doc pm an cdv ct) ⟨us ++ rest, ([] : List Str).zip ws⟩) (newTuple rest >>= fun t => pure (psY.zip (us ++ mv) ++ [(("kinds" : Str), t)]))
  | [u], [], [a, b, c], [], _, _, _ => ⟨_, _, _, _, _, _, rfl, rfl, _, _, _, _, _, _, rfl, rfl, _, _, _, _, _, _, rfl, rfl, rfl⟩
  | [u], r :: rs, [a, b, c], [], _, _, _ => ⟨_, _, _, _, _, _, rfl, rfl, _, _, _, _, _, _, rfl, rfl, _, _, _, _, _, _, rfl, rfl, rfl⟩
theorem bindY3 (D : Addr) (doc pm cdv ct : Value) (an : Option Addr) : ∀ us rest mv ws : List Value, us.length = 1 → mv.length = 0 → ws.length = 3 →
    KwTail D (([] : List Str).zip mv) (bindArgs (PySem.W.fnOf "__init__" "System.__init__" (defArgs sYInit) (defBody sYInit) (defScope sYInit) .none (.ref D) doc pm an cdv ct) ⟨us ++ rest, (["ahead", "window", "crashes"] : List Str).zip ws⟩) (newTuple rest >>= fun t => pure (psY.zip (us ++ ws) ++ [(("kinds" : Str), t)]))
  | [u], [], [], [a, b, c], _, _, _ => rfl
  | [u], r :: rs, [], [a, b, c], _, _, _ => rfl
end Tk
set_option maxRecDepth 100000
namespace Tk
open PySem L2 StK
abbrev sBYInit : Stmt := inClass (top 6) 0
theorem y1 : ¬ (("kinds" : Str) = "ahead") := by decide +kernel
theorem y2 : ¬ (("kinds" : Str) = "window") := by decide +kernel
theorem y3 : ¬ (("kinds" : Str) = "crashes") := by decide +kernel
theorem y4 : ¬ (("kinds" : Str) = "sessions") := by decide +kernel
theorem y5 : ¬ (("ahead" : Str) = "window") := by decide +kernel
theorem y6 : ¬ (("ahead" : Str) = "crashes") := by decide +kernel
theorem y7 : ¬ (("ahead" : Str) = "sessions") := by decide +kernel
theorem y8 : ¬ (("window" : Str) = "crashes") := by decide +kernel
theorem y9 : ¬ (("window" : Str) = "sessions") := by decide +kernel
theorem y10 : ¬ (("crashes" : Str) = "sessions") := by decide +kernel
def fldY (t : Addr) (a w c : V) (l : Addr) : List (Str × V) := [("kinds", .ref t), ("ahead", a), ("window", w), ("crashes", c), ("sessions", .ref l)]
theorem fldY_put (t : Addr) (a w c : V) (l : Addr) : putF "sessions" (.ref l) (putF "crashes" c (putF "window" w (putF "ahead" a (putF "kinds" (.ref t) [])))) = fldY t a w c l := by
  simp only [putF, if_neg y1, if_neg y2, if_neg y3, if_neg y4, if_neg y5, if_neg y6, if_neg y7, if_neg y8, if_neg y9, if_neg y10]
  rfl
section
variable (t : Addr) (a w c : V) (l : Addr)
theorem fldY_k : (fldY t a w c l).lookup ("kinds" : Str) = some (.ref t) := by
  rw [← fldY_put, lookup_putF, if_neg (by decide +kernel), lookup_putF, if_neg (by decide +kernel), lookup_putF, if_neg (by decide +kernel), lookup_putF, if_neg (by decide +kernel), lookup_putF, if_pos rfl]
theorem fldY_a : (fldY t a w c l).lookup ("ahead" : Str) = some a := by
  rw [← fldY_put, lookup_putF, if_neg (by decide +kernel), lookup_putF, if_neg (by decide +kernel), lookup_putF, if_neg (by decide +kernel), lookup_putF, if_pos rfl]
theorem fldY_w : (fldY t a w c l).lookup ("window" : Str) = some w := by
  rw [← fldY_put, lookup_putF, if_neg (by decide +kernel), lookup_putF, if_neg (by decide +kernel), lookup_putF, if_pos rfl]
theorem fldY_c : (fldY t a w c l).lookup ("crashes" : Str) = some c := by
  rw [← fldY_put, lookup_putF, if_neg (by decide +kernel), lookup_putF, if_pos rfl]
theorem fldY_l : (fldY t a w c l).lookup ("sessions" : Str) = some (.ref l) := by
  rw [← fldY_put, lookup_putF, if_pos rfl]
end
/-- the names of the sessions -/
def sess (rs : List KR) : List Str := (rs.map fun r => List.replicate r.m.toNat r.n).flatten
theorem sess_le {rs : List KR} (h : ∀ r ∈ rs, 1 ≤ r.m ∧ r.m ≤ 3) : (sess rs).length ≤ 3 * rs.length := by
  induction rs with
  | nil => exact Nat.le_refl _
  | cons r rs ih =>
    have h1 := h r List.mem_cons_self
    have h2 := ih fun x hx => h x (List.mem_cons_of_mem _ hx)
    show ((List.replicate r.m.toNat r.n) ++ sess rs).length ≤ _
    rw [List.length_append, List.length_replicate, List.length_cons]
    omega
theorem sess_snoc (rs : List KR) (r : KR) : sess (rs ++ [r]) = sess rs ++ List.replicate r.m.toNat r.n := by
  unfold sess
  rw [List.map_append, List.flatten_append]
  simp
structure FY (K : PySem.W.Frag) (CY : Addr) : Prop where
  isY : C8.InsC K CY
  nK : NoAttr K CY "kinds"
  nA : NoAttr K CY "ahead"
  nW : NoAttr K CY "window"
  nC : NoAttr K CY "crashes"
  nL : NoAttr K CY "sessions"
def spYInit (CS CD CY CBY : Addr) : Sp := fun vs H Q E => ∃ (y dx t : Addr) (ks : List V) (os : List (Option KR)) (va vw vc : V), vs = [.ref y, va, vw, vc, .ref t] ∧ H y = some (.ins CY dx []) ∧ H t = some (.tup ks) ∧ OsAt CS CD H ks os ∧ os.length ≤ 10 ∧ (∀ r, some r ∈ os → 1 ≤ r.m ∧ r.m ≤ 3) ∧
  AnyV H va ∧ AnyV H vw ∧ AnyV H vc ∧
  (∀ z, yWhy os va vw vc = some z → ∀ (d : Addr) (H' : Hp), Same H H' → H d = none → H' d = some (.xd [("why", .str z)]) → E (.ref CBY) (some d) H') ∧
  (∀ rs, yWhy os va vw vc = none → os = rs.map some → ∀ (l : Addr) (H' : Hp), H' y = some (.ins CY dx (fldY t va vw vc l)) → H' l = some (.tup ((sess rs).map V.str)) → Kp y H H' → Q .non H')
abbrev nsY : List Str := ["self", "ahead", "window", "crashes", "kinds", "why", "kind", "index"]
section
variable {P : Program} {w : World} {K : PySem.W.Frag} {mg : Str → Option Value} {base : Heap} {CS CK CD CY CBY it : Addr}
theorem scBY : FnScope ["self", "why"] ["self", "why"] (defScope sBYInit) := ⟨rfl, rfl, rfl, by decide +kernel, rfl, by decide +kernel, by decide +kernel⟩
theorem ok_byi {f : Addr} {fd : FuncData} (F : Fun K "__init__" "BadSystem.__init__" sBYInit f fd) (T : Ecl K mg "BadSystem" "why" CBY f) : FnOk P w K mg base CX0 1 f fd ["self", "why"] (spEI CBY "why") := by
  refine F.ok scBY (fun vs H Q E h => ?_) (fun cdv A outer s H vs Q E hr h => ?_)
  · obtain ⟨a, v, rfl, _⟩ := h
    rfl
  obtain ⟨a, v, rfl, ha, q⟩ := h
  refine ⟨_, pss_one (ps_ost (pv 0) (pv 1) rfl), ?_⟩
  exact ⟨_, rfl, _, rfl, a, CBY, rfl, T.ox, T.noF, .inl ⟨ha, fun dx h1 h2 => q dx h1 h2⟩⟩
theorem scYI : FnScope nsY (psY ++ [("kinds" : Str)]) (defScope sYInit) := ⟨rfl, rfl, rfl, by decide +kernel, rfl, by decide +kernel, by decide +kernel⟩
theorem body_yinit {fF fX f : Addr} {fdF fdX : FuncData} (U : TxK K mg CS CD) (Y : TxY K mg CD) (G : FY K CY) (B : Bl mg) (TB : Ecl K mg "BadSystem" "why" CBY fX)
    (GX : FnOk P w K mg base CX0 1 fX fdX ["self", "why"] (spEI CBY "why")) (bX : Binds K fdX ["self", "why"] [])
    (GF : FnOk P w K mg base CX0 3 fF fdF ["kinds", "ahead", "window", "crashes"] (spFaultY CS CD)) (bF : Binds K fdF ["kinds", "ahead", "window", "crashes"] []) (kF : PySem.W.keepIn K (.ref fF) = true) (mF : mg "fault_of_system" = some (.ref fF))
    (A : Around) (outer : List Env) (s : Shared) (H : Hp) (vs : List V) (Q : VK) (E : XK) (cdv : Value) (hr : Room 3 (A.deeper (PyProof.Rows.envOfC "System.__init__" (defScope sYInit) s.heap.objs.size f cdv))) (h : spYInit CS CD CY CBY vs H Q E) :
    ∃ t, PSs (cxOf (L2.CX P w) P w K mg base nsY "System.__init__" (defScope sYInit) f cdv A outer s H E) (defBody sYInit) t ∧ t { nx := fun _ H' => Q .non H', rt := Q } (L2.start nsY vs) H := by
  obtain ⟨y, dx, t, ks, os, va, vw, vc, rfl, hy, ht, hO, few, lim, aa, aw, ac, qx, q⟩ := h
  refine ⟨_, pss_cons (ps_set (i := 5) scYI.nd rfl (Or.inl rfl) (pe_call GF hr rfl mF kF bF .nil pass0 (pa_cons (pv 4) (pa_cons (pv 1) (pa_cons (pv 2) (pa_cons (pv 3) pa_nil))))))
    (pss_cons (ps_if (pt_cmpR op_notN (pv 5) pe_non (nomark _)) (pss_one (ps_raise1 rfl (takes_of rfl rfl rfl rfl) TB GX (hr.mono (by decide)) bX rfl (pa_cons (pv 5) pa_nil))) pss_nil)
    (pss_cons (ps_fld (pv 0) (pv 4) rfl)
    (pss_cons (ps_fld (pv 0) (pv 1) rfl)
    (pss_cons (ps_fld (pv 0) (pv 2) rfl)
    (pss_cons (ps_fld (pv 0) (pv 3) rfl)
    (pss_one (ps_fld (pv 0) (pe_callTy call_tuple_of (by rfl) B.tuple (by decide +kernel) (pa_cons
      (pe_lc2 (own := [("kind", 6), ("index", 7)]) (vs1 := [7]) (g := gName 6) (g1 := gName 7) (tt := tYes) (tt1 := tYes) rfl scYI.nd (pi_tup (pv 4)) (blkOk_by (own := [("kind", 6), ("index", 7)]) (N := nsY) (sc := defScope sYInit) (by decide +kernel)) (by decide)
        (fun _ _ _ _ _ => pg_name (i := 6) scYI.nd rfl (Or.inl rfl)) (fun _ _ _ _ _ => pts_nil)
        (fun _ _ _ _ _ => pi_range1 rfl B.range (pa_cons (pe_fldF (K := K) rfl (pv 6) rfl) pa_nil)) (fun _ _ _ _ _ => pg_name (i := 7) scYI.nd rfl (Or.inl rfl)) (fun _ _ _ _ _ => pts_nil)
        (fun _ _ _ _ _ => pe_fldF (K := K) rfl (pv 6) rfl)) pa_nil)) rfl))))))), ?_⟩
  refine ⟨_, rfl, _, rfl, _, rfl, _, rfl, t, ks, os, va, vw, vc, rfl, ht, hO, few, aa, aw, ac, fun H1 s1 => ?_⟩
  refine ⟨_, rfl, rfl, _, rfl, ?_⟩
  cases ey : yWhy os va vw vc with
  | some z =>
    refine iteTb (by rw [decide_eq_false (show ¬ optV (some z) = V.non from fun e => nomatch e)]; rfl) ⟨_, rfl, made1 fun d hd => ?_⟩
    exact qx z ey d _ (s1.trans (same_new hd _)) (s1.free hd) upd_same
  | none =>
  refine iteFb (by decide) ?_
  have hg : aresB os = true := by
    cases e : aresB os with
    | true => rfl
    | false => unfold yWhy at ey; rw [if_pos e] at ey; cases ey
  obtain ⟨rs, rfl, hR⟩ : ∃ rs, os = rs.map some ∧ KsAt CS CD H ks rs := hO.all (by unfold aresB at hg; rw [Bool.and_eq_true] at hg; exact hg.1)
  rw [List.length_map] at few
  have lim' : ∀ r ∈ rs, 1 ≤ r.m ∧ r.m ≤ 3 := fun r hr => lim r (List.mem_map.mpr ⟨r, hr, rfl⟩)
  have hy1 := s1 _ _ hy
  have cl := G.isY.cl
  refine ⟨_, rfl, _, rfl, y, CY, dx, [], rfl, hy1, cl, G.nK, (by show 0 < 1000; decide), ?_⟩
  refine ⟨_, rfl, _, rfl, y, CY, dx, _, rfl, upd_same, cl, G.nA, (by show 1 < 1000; decide), ?_⟩
  refine ⟨_, rfl, _, rfl, y, CY, dx, _, rfl, upd_same, cl, G.nW, (by show 2 < 1000; decide), ?_⟩
  refine ⟨_, rfl, _, rfl, y, CY, dx, _, rfl, upd_same, cl, G.nC, (by show 3 < 1000; decide), ?_⟩
  rw [upd_upd, upd_upd, upd_upd]
  have k2 : Kp y H (L2.upd H1 y (.ins CY dx (putF "crashes" vc (putF "window" vw (putF "ahead" va (putF "kinds" (.ref t) [])))))) := (Kp.of_same s1).trans Kp.upd
  have hy2 : (L2.upd H1 y (.ins CY dx (putF "crashes" vc (putF "window" vw (putF "ahead" va (putF "kinds" (.ref t) [])))))) y = some (.ins CY dx (putF "crashes" vc (putF "window" vw (putF "ahead" va (putF "kinds" (.ref t) []))))) := upd_same
  generalize (L2.upd H1 y (.ins CY dx (putF "crashes" vc (putF "window" vw (putF "ahead" va (putF "kinds" (.ref t) [])))))) = H2 at k2 hy2 ⊢
  have ht2 : H2 t = some (.tup ks) := k2 _ _ ht (ne_of ht hy (by intro z; cases z))
  have hR2 : ∀ {i : Nat} {v : V}, ks[i]? = some v → ∃ r k dk x, rs[i]? = some r ∧ v = .ref k ∧ H2 k = some (.ins CD dk (fldD r.n x r.b r.m)) := fun hv => by
    obtain ⟨r, er, k, rfl, dk, x, tt, hk, _⟩ := hR.at hv
    refine ⟨r, k, dk, x, er, rfl, k2 _ _ hk fun z => ?_⟩
    rw [z, hy] at hk
    injection hk with hk
    injection hk with e1 e2 e3
    cases e3
  refine ⟨_, rfl, t, rfl, ⟨_, SqT.of ht2⟩, fun D hD => ?_⟩
  have nyD : y ≠ D := ne_of_none hy2 hD
  refine ⟨fun i m H3 => m = ks.length - i ∧ i ≤ ks.length ∧ H3 D = some (.lst ((sess (rs.take i)).map V.str)) ∧ Same H2 H3, ⟨ks.length, rfl, Nat.zero_le _, upd_same, same_new hD _⟩, ?_⟩
  rintro i m H3 ⟨rfl, hi, h3, s3⟩
  by_cases lt : i < ks.length
  · obtain ⟨r, k, dk, x, er, ek, hk⟩ := hR2 (List.getElem?_eq_getElem lt)
    have lir : i < rs.length := (List.getElem?_eq_some_iff.mp er).1
    have rl := lim' r (List.mem_of_getElem? er)
    refine .inr ⟨⟨ks, ks[i], SqT.of (s3 _ _ ht2), List.getElem?_eq_getElem lt⟩, fun H4 => H4 D = some (.lst ((sess (rs.take (i + 1))).map V.str)) ∧ Same H2 H4, fun H4 h4 => ⟨ks.length - (i + 1), by omega, rfl, lt, h4⟩, ?_⟩
    rintro v H4 ⟨rfl, hv⟩
    have ev := hv ks (SqT.of (s3 _ _ ht2))
    rw [List.getElem?_eq_getElem lt] at ev
    obtain rfl : ks[i] = v := Option.some.inj ev
    refine ⟨rfl, ?_⟩
    unfold tYes
    dsimp only
    rw [if_pos rfl]
    refine ⟨_, rfl, k, CD, dk, _, _, ek, s3 _ _ hk, U.isD.cl, U.nM, fldD_m _ _ _ _, r.m, rfl, by omega, by omega, ?_⟩
    have et : rs.take (i + 1) = rs.take i ++ [r] := by rw [List.take_add_one, er]; rfl
    have lt3 : (sess (rs.take i)).length ≤ 3 * i := by
      have := sess_le (rs := rs.take i) fun r hr => lim' r (List.mem_of_mem_take hr)
      rw [List.length_take] at this
      omega
    refine ⟨fun j p H5 => p = r.m.toNat - j ∧ j ≤ r.m.toNat ∧ H5 D = some (.lst ((sess (rs.take i) ++ List.replicate j r.n).map V.str)) ∧ Same H2 H5, ⟨r.m.toNat, rfl, Nat.zero_le _, by rw [List.replicate_zero, List.append_nil]; exact h3, s3⟩, ?_⟩
    rintro j p H5 ⟨rfl, hj, h5, s5⟩
    by_cases lj : j < r.m.toNat
    · refine .inr ⟨lj, fun H6 => H6 D = some (.lst ((sess (rs.take i) ++ List.replicate (j + 1) r.n).map V.str)) ∧ Same H2 H6, fun H6 h6 => ⟨r.m.toNat - (j + 1), by omega, rfl, lj, h6⟩, ?_⟩
      rintro v H6 ⟨rfl, rfl⟩
      refine ⟨rfl, ?_⟩
      rw [if_pos rfl]
      refine ⟨_, rfl, k, CD, dk, _, _, ek, s5 _ _ hk, U.isD.cl, U.nN, fldD_n _ _ _ _, _, h5, small1000 ?_, ?_, fun b o e => ?_⟩
      · rw [List.length_map, List.length_append, List.length_replicate]; omega
      · rw [upd_same, List.replicate_succ', ← List.append_assoc, List.map_append (l₂ := [r.n])]; rfl
      · rw [upd_ne (ne_of_none e hD)]; exact s5 _ _ e
    · have ej : j = r.m.toNat := by omega
      subst ej
      refine .inl ⟨Nat.le_refl _, ?_, s5⟩
      rw [et, sess_snoc]; exact h5
  · have ei : i = ks.length := by omega
    subst ei
    rw [hR.len, List.take_length] at h3
    refine .inl ⟨⟨ks, SqT.of (s3 _ _ ht2), Nat.le_refl _⟩, ?_⟩
    refine ⟨D, _, rfl, .inl ⟨SqL.of h3, fun l hl => ?_⟩⟩
    have hy3 := s3 _ _ hy2
    have nyl : y ≠ l := ne_of_none hy3 hl
    refine ⟨_, rfl, y, CY, dx, _, rfl, by rw [upd_ne nyl]; exact hy3, cl, G.nL, (by show 4 < 1000; decide), ?_⟩
    rw [fldY_put]
    refine q rs ey rfl l _ upd_same (by rw [upd_ne nyl.symm]; exact upd_same) ?_
    exact ((k2.trans (Kp.of_same s3)).new hl).trans Kp.upd
end
end Tk
set_option maxRecDepth 100000
namespace Tk
open PySem L2 StK StX
theorem bindYw (D : Addr) (doc pm cdv ct : Value) (an : Option Addr) : ∀ us rest mv ws : List Value, us.length = 1 → mv.length = 2 → ws.length = 1 →
    KwTail D ((["ahead", "crashes"] : List Str).zip mv) (bindArgs (PySem.W.fnOf "__init__" "System.__init__" (defArgs sYInit) (defBody sYInit) (defScope sYInit) .none (.ref D) doc pm an cdv ct) ⟨us ++ rest, (["window"] : List Str).zip ws⟩) (newTuple rest >>= fun t => pure (psY.zip (us ++ (mv.take 1 ++ ws ++ mv.drop 1)) ++ [(("kinds" : Str), t)]))
  | [u], [], [a, c], [b], _, _, _ => ⟨_, _, _, _, _, _, rfl, rfl, _, _, _, _, _, _, rfl, rfl, rfl⟩
  | [u], r :: rs, [a, c], [b], _, _, _ => ⟨_, _, _, _, _, _, rfl, rfl, _, _, _, _, _, _, rfl, rfl, rfl⟩
theorem bindYp (D : Addr) (doc pm cdv ct : Value) (an : Option Addr) : ∀ us rest mv ws : List Value, us.length = 1 → mv.length = 0 → ws.length = 3 →
    KwTail D (([] : List Str).zip mv) (bindArgs (PySem.W.fnOf "__init__" "System.__init__" (defArgs sYInit) (defBody sYInit) (defScope sYInit) .none (.ref D) doc pm an cdv ct) ⟨us ++ rest, (["crashes", "ahead", "window"] : List Str).zip ws⟩) (newTuple rest >>= fun t => pure (psY.zip (us ++ (ws.drop 1 ++ ws.take 1)) ++ [(("kinds" : Str), t)]))
  | [u], [], [], [a, b, c], _, _, _ => rfl
  | [u], r :: rs, [], [a, b, c], _, _, _ => rfl
theorem bindYq (D : Addr) (doc pm cdv ct : Value) (an : Option Addr) : ∀ us rest mv ws : List Value, us.length = 1 → mv.length = 0 → ws.length = 3 →
    KwTail D (([] : List Str).zip mv) (bindArgs (PySem.W.fnOf "__init__" "System.__init__" (defArgs sYInit) (defBody sYInit) (defScope sYInit) .none (.ref D) doc pm an cdv ct) ⟨us ++ rest, (["window", "ahead", "crashes"] : List Str).zip ws⟩) (newTuple rest >>= fun t => pure (psY.zip (us ++ ((ws.drop 1).take 1 ++ (ws.take 1 ++ ws.drop 2))) ++ [(("kinds" : Str), t)]))
  | [u], [], [], [a, b, c], _, _, _ => rfl
  | [u], r :: rs, [], [a, b, c], _, _, _ => rfl
/-- System(k, ..): what is asked of the arguments in front, vs the instance and the kinds; a, w, c the values -/
def spYC (CS CD CY CBY : Addr) (a w c : V) : Sp := fun vs H Q E => ∃ (y dx : Addr) (ks : List V) (os : List (Option KR)), vs = .ref y :: ks ∧ H y = some (.ins CY dx []) ∧ OsAt CS CD H ks os ∧ os.length ≤ 10 ∧ (∀ r, some r ∈ os → 1 ≤ r.m ∧ r.m ≤ 3) ∧
  AnyV H a ∧ AnyV H w ∧ AnyV H c ∧
  (∀ z, yWhy os a w c = some z → ∀ (d : Addr) (H' : Hp), Same H H' → H d = none → H' d = some (.xd [("why", .str z)]) → E (.ref CBY) (some d) H') ∧
  (∀ rs, yWhy os a w c = none → os = rs.map some → ∀ (t l : Addr) (H' : Hp), H' y = some (.ins CY dx (fldY t a w c l)) → H' t = some (.tup ks) → H' l = some (.tup ((sess rs).map V.str)) → Kp y H H' → Q .non H')
section
variable {P : Program} {w : World} {K : PySem.W.Frag} {mg : Str → Option Value} {base : Heap} {CS CK CD CY CBY KD : Addr}
/-- where System.__init__ stands, with its defaults at KD -/
structure FnY (K : PySem.W.Frag) (KD f : Addr) : Prop where
  ex : ∃ oc od doc pm an cdv ct osl, K.lookup f = some ⟨oc, od, .func (PySem.W.fnOf "__init__" "System.__init__" (defArgs sYInit) (defBody sYInit) (defScope sYInit) .none (.ref KD) doc pm an cdv ct), osl⟩ ∧ PySem.W.codeIn K cdv "System.__init__" = true
  da : ∃ t, PySem.W.nsIn K KD "ahead" = some (some (.int 0 t))
  dw : PySem.W.nsIn K KD "window" = some (some .none)
  dc : ∃ t, PySem.W.nsIn K KD "crashes" = some (some (.int 0 t))
/-- a call with the keywords ks; sel: ahead, window, crashes from the keywords' values -/
def FnYK (P : Program) (w : World) (K : PySem.W.Frag) (mg : Str → Option Value) (base : Heap) (CS CD CY CBY f : Addr) (ks : List Str) (sel : List V → V × V × V) : Prop :=
  FnRK P w K mg base (L2.CX P w) 4 f ks (fun zs => spYC CS CD CY CBY (sel zs).1 (sel zs).2.1 (sel zs).2.2)
theorem fnrk_mono {CX : CXT} {k : Nat} {f : Addr} {ks : List Str} {sp sp' : List V → Sp} (F : FnRK P w K mg base CX k f ks sp) (h : ∀ zs vs H Q E, zs.length = ks.length → sp' zs vs H Q E → sp zs vs H Q E) : FnRK P w K mg base CX k f ks sp' :=
  fun A outer s H us ws vs zs Q E a b c d e g => F A outer s H us ws vs zs Q E a b c d e (h zs vs H Q E e g)
theorem yc_of {a wv c : V} {vs : List V} {H : Hp} {Q : VK} {E : XK} (h : spYC CS CD CY CBY a wv c vs H Q E) : ∃ ws rest, vs = ws ++ rest ∧ ws.length = 1 ∧ rest.length ≤ sizeLine ∧ ∀ p, H p = Option.none → spYInit CS CD CY CBY (ws ++ [a, wv, c] ++ [V.ref p]) (L2.upd H p (.tup rest)) Q E := by
  obtain ⟨y, dx, ks, os, rfl, hy, hO, few, lim, aa, aw, ac, qx, q⟩ := h
  refine ⟨[.ref y], ks, rfl, rfl, Nat.le_of_lt (small10 (by rw [hO.len]; exact few)), fun p hp => ?_⟩
  have s := same_new hp (.tup ks)
  have nyp := ne_of_none hy hp
  refine ⟨y, dx, p, ks, os, a, wv, c, rfl, s _ _ hy, upd_same, hO.keep s, few, lim, aa.imp fun _ k => k.keep s, aw.imp fun _ k => k.keep s, ac.imp fun _ k => k.keep s, fun z ez d H' s' hd hx => qx z ez d H' (s.trans s') ?_ hx, fun rs ez eo l H' h1 h2 k => q rs ez eo p l H' h1 (k _ _ upd_same nyp.symm) h2 ((Kp.of_same s).trans k)⟩
  exact s.free hd
theorem fny0 {f : Addr} (Z : FnY K KD f)
    (body : ∀ (A : Around) (outer : List Env) (s : Shared) (H : Hp) (vs : List V) (Q : VK) (E : XK) (cdv : Value), Room 3 (A.deeper (PyProof.Rows.envOfC "System.__init__" (defScope sYInit) s.heap.objs.size f cdv)) → spYInit CS CD CY CBY vs H Q E →
      ∃ t, PSs (cxOf (L2.CX P w) P w K mg base nsY "System.__init__" (defScope sYInit) f cdv A outer s H E) (defBody sYInit) t ∧ t { nx := fun _ H' => Q .non H', rt := Q } (L2.start nsY vs) H) :
    FnYK P w K mg base CS CD CY CBY f [] (fun _ => (.int 0, .non, .int 0)) := by
  obtain ⟨⟨oc, od, doc, pm, an, cdv, ct, osl, lk, hcd⟩, ⟨ta, da⟩, dw, ⟨tc, dc⟩⟩ := Z
  refine fnrk_mono (fn_starK (n := 1) (ks := []) (ms := [("ahead", .int 0), ("window", .non), ("crashes", .int 0)]) (sp := spYInit CS CD CY CBY) lk hcd scYI cxUp ?_ (fun us mv ws => us ++ mv) (fun a b _ => a.append b) ?_ (bindY0 KD doc pm cdv ct an) fun A outer s H vs Q E hr h => body A outer s H vs Q E cdv hr h) fun zs vs H Q E _ h => yc_of h
  · intro q hq
    simp only [List.mem_cons, List.not_mem_nil, or_false] at hq
    rcases hq with rfl | rfl | rfl
    · exact ⟨_, da, _, rfl⟩
    · exact ⟨_, dw, rfl⟩
    · exact ⟨_, dc, _, rfl⟩
  · intro α us mv ws h1 h2 h3
    rw [List.length_append, h1, h2]; rfl
def sel3 : List V → V × V × V
  | [x, y, z] => (x, y, z)
  | _ => (.non, .non, .non)
theorem fny3 {f : Addr} (Z : FnY K KD f)
    (body : ∀ (A : Around) (outer : List Env) (s : Shared) (H : Hp) (vs : List V) (Q : VK) (E : XK) (cdv : Value), Room 3 (A.deeper (PyProof.Rows.envOfC "System.__init__" (defScope sYInit) s.heap.objs.size f cdv)) → spYInit CS CD CY CBY vs H Q E →
      ∃ t, PSs (cxOf (L2.CX P w) P w K mg base nsY "System.__init__" (defScope sYInit) f cdv A outer s H E) (defBody sYInit) t ∧ t { nx := fun _ H' => Q .non H', rt := Q } (L2.start nsY vs) H) :
    FnYK P w K mg base CS CD CY CBY f ["ahead", "window", "crashes"] sel3 := by
  obtain ⟨⟨oc, od, doc, pm, an, cdv, ct, osl, lk, hcd⟩, _⟩ := Z
  refine fnrk_mono (fn_starK (n := 1) (ks := ["ahead", "window", "crashes"]) (ms := []) (sp := spYInit CS CD CY CBY) lk hcd scYI cxUp (fun q hq => nomatch hq) (fun us mv ws => us ++ ws) (fun a b c => a.append c) ?_ (bindY3 KD doc pm cdv ct an) fun A outer s H vs Q E hr h => body A outer s H vs Q E cdv hr h) fun zs vs H Q E hz h => ?_
  · intro α us mv ws h1 h2 h3
    match us, ws, h1, h3 with
    | [_], [_, _, _], _, _ => rfl
  · match zs, hz with
    | [x, y, z], _ => exact yc_of h
def selp : List V → V × V × V
  | [x, y, z] => (y, z, x)
  | _ => (.non, .non, .non)
theorem fnyp {f : Addr} (Z : FnY K KD f)
    (body : ∀ (A : Around) (outer : List Env) (s : Shared) (H : Hp) (vs : List V) (Q : VK) (E : XK) (cdv : Value), Room 3 (A.deeper (PyProof.Rows.envOfC "System.__init__" (defScope sYInit) s.heap.objs.size f cdv)) → spYInit CS CD CY CBY vs H Q E →
      ∃ t, PSs (cxOf (L2.CX P w) P w K mg base nsY "System.__init__" (defScope sYInit) f cdv A outer s H E) (defBody sYInit) t ∧ t { nx := fun _ H' => Q .non H', rt := Q } (L2.start nsY vs) H) :
    FnYK P w K mg base CS CD CY CBY f ["crashes", "ahead", "window"] selp := by
  obtain ⟨⟨oc, od, doc, pm, an, cdv, ct, osl, lk, hcd⟩, _⟩ := Z
  refine fnrk_mono (fn_starK (n := 1) (ks := ["crashes", "ahead", "window"]) (ms := []) (sp := spYInit CS CD CY CBY) lk hcd scYI cxUp (fun q hq => nomatch hq) (fun us mv ws => us ++ (ws.drop 1 ++ ws.take 1)) (fun a b c => a.append ((c.drop 1).append (c.take 1))) ?_ (bindYp KD doc pm cdv ct an) fun A outer s H vs Q E hr h => body A outer s H vs Q E cdv hr h) fun zs vs H Q E hz h => ?_
  · intro α us mv ws h1 h2 h3
    match us, ws, h1, h3 with
    | [_], [_, _, _], _, _ => rfl
  · match zs, hz with
    | [x, y, z], _ => exact yc_of h
def selq : List V → V × V × V
  | [x, y, z] => (y, x, z)
  | _ => (.non, .non, .non)
theorem fnyq {f : Addr} (Z : FnY K KD f)
    (body : ∀ (A : Around) (outer : List Env) (s : Shared) (H : Hp) (vs : List V) (Q : VK) (E : XK) (cdv : Value), Room 3 (A.deeper (PyProof.Rows.envOfC "System.__init__" (defScope sYInit) s.heap.objs.size f cdv)) → spYInit CS CD CY CBY vs H Q E →
      ∃ t, PSs (cxOf (L2.CX P w) P w K mg base nsY "System.__init__" (defScope sYInit) f cdv A outer s H E) (defBody sYInit) t ∧ t { nx := fun _ H' => Q .non H', rt := Q } (L2.start nsY vs) H) :
    FnYK P w K mg base CS CD CY CBY f ["window", "ahead", "crashes"] selq := by
  obtain ⟨⟨oc, od, doc, pm, an, cdv, ct, osl, lk, hcd⟩, _⟩ := Z
  refine fnrk_mono (fn_starK (n := 1) (ks := ["window", "ahead", "crashes"]) (ms := []) (sp := spYInit CS CD CY CBY) lk hcd scYI cxUp (fun q hq => nomatch hq) (fun us mv ws => us ++ ((ws.drop 1).take 1 ++ (ws.take 1 ++ ws.drop 2))) (fun a b c => a.append (((c.drop 1).take 1).append ((c.take 1).append (c.drop 2)))) ?_ (bindYq KD doc pm cdv ct an) fun A outer s H vs Q E hr h => body A outer s H vs Q E cdv hr h) fun zs vs H Q E hz h => ?_
  · intro α us mv ws h1 h2 h3
    match us, ws, h1, h3 with
    | [_], [_, _, _], _, _ => rfl
  · match zs, hz with
    | [x, y, z], _ => exact yc_of h
def selw : List V → V × V × V
  | [x] => (.int 0, x, .int 0)
  | _ => (.non, .non, .non)
theorem fnyw {f : Addr} (Z : FnY K KD f)
    (body : ∀ (A : Around) (outer : List Env) (s : Shared) (H : Hp) (vs : List V) (Q : VK) (E : XK) (cdv : Value), Room 3 (A.deeper (PyProof.Rows.envOfC "System.__init__" (defScope sYInit) s.heap.objs.size f cdv)) → spYInit CS CD CY CBY vs H Q E →
      ∃ t, PSs (cxOf (L2.CX P w) P w K mg base nsY "System.__init__" (defScope sYInit) f cdv A outer s H E) (defBody sYInit) t ∧ t { nx := fun _ H' => Q .non H', rt := Q } (L2.start nsY vs) H) :
    FnYK P w K mg base CS CD CY CBY f ["window"] selw := by
  obtain ⟨⟨oc, od, doc, pm, an, cdv, ct, osl, lk, hcd⟩, ⟨ta, da⟩, _, ⟨tc, dc⟩⟩ := Z
  refine fnrk_mono (fn_starK (n := 1) (ks := ["window"]) (ms := [("ahead", .int 0), ("crashes", .int 0)]) (sp := spYInit CS CD CY CBY) lk hcd scYI cxUp ?_ (fun us mv ws => us ++ (mv.take 1 ++ ws ++ mv.drop 1)) (fun a b c => a.append (((b.take 1).append c).append (b.drop 1))) ?_ (bindYw KD doc pm cdv ct an) fun A outer s H vs Q E hr h => body A outer s H vs Q E cdv hr h) fun zs vs H Q E hz h => ?_
  · intro q hq
    simp only [List.mem_cons, List.not_mem_nil, or_false] at hq
    rcases hq with rfl | rfl
    · exact ⟨_, da, _, rfl⟩
    · exact ⟨_, dc, _, rfl⟩
  · intro α us mv ws h1 h2 h3
    match us, mv, ws, h1, h2, h3 with
    | [_], [_, _], [_], _, _, _ => rfl
  · match zs, hz with
    | [x], _ => exact yc_of h
end
end Tk
set_option maxRecDepth 100000
/-! Own rule: == of two tuples of as many instances of a class with its own __eq__, whatever it answers. -/
namespace TE8
open PySem PySem.SeqAt
open AutoSeq1 (wpAny_loadPart')
open MeetsSeq MeetsSeq2 MeetsSeq3 SeqRoads2
section
variable {prog : Program} {w : World} {A : Around} {R : Result → Shared → Prop}
theorem tuple_eqB (l b : Addr) (items items2 : Array Value) (n n2 : Nat) (dd dd2 : Option Addr) (sl sl2 : Array (Option Value)) (hsz : items.size = items2.size) (I : Nat → Shared → Prop)
    (turn : ∀ i (h1 : i < items.size) (h2 : i < items2.size) s, I i s → wpAny (model prog w) A.in1 (eqBool items[i] items2[i]) (fun r s' => (r = true ∧ I (i + 1) s') ∨ (r = false ∧ R (.ok (.ret (.bool false))) s')) (fun e s' => R (.error e) s') s)
    (fin : ∀ s, I items.size s → R (.ok (.ret (.bool true))) s) {s : Shared} (hl1 : s.heap.get? l = some { cls := .type "tuple", dict := dd, data := .seq items n, slots := sl }) (hb1 : s.heap.get? b = some { cls := .type "tuple", dict := dd2, data := .seq items2 n2, slots := sl2 }) (h : I 0 s) :
    wpAny (model prog w) A.in1 (Builtin.«tuple.__eq__» ⟨[.ref l, .ref b], []⟩) (GQ.FinOf prog w A R) (fun e s' => R (.error e) s') s := by
  have f2 := AutoSeq1.sub_tuple_tuple
  have hZ : (items.toList.zip items2.toList).length = items.size := by simp [hsz]
  have h0 := h
  obtain ⟨hp, g, d, tk, os⟩ := s
  wp_walk using wpAny_loadPart' hl1, wpAny_loadPart' hb1, wpAny_forIn_list _ (fun rest b s' => b.1 = none ∧ ∃ i, rest = (items.toList.zip items2.toList).drop i ∧ i ≤ items.size ∧ I i s') _
  case turn =>
    rintro ⟨y, x⟩ rest b s' ⟨hb', i, hz, hi, hI⟩
    have hlt : i < (items.toList.zip items2.toList).length := by
      rcases Nat.lt_or_ge i (items.toList.zip items2.toList).length with h' | h'
      · exact h'
      · rw [List.drop_of_length_le h'] at hz; cases hz
    have h1 : i < items.size := hZ ▸ hlt
    have h2 : i < items2.size := hsz ▸ h1
    rw [List.drop_eq_getElem_cons hlt] at hz
    injection hz with hyx hrest
    have hy : y = items[i] := by have := congrArg Prod.fst hyx; simpa using this
    have hx : x = items2[i] := by have := congrArg Prod.snd hyx; simpa using this
    subst hy hx
    refine wpAny_bind (wpAny_mono (turn i h1 h2 s' hI) (fun r s2 q2 => ?_) fun _ _ x => x)
    rcases q2 with ⟨hr, q2⟩ | ⟨hr, q2⟩
    · subst hr
      wp_walk
      exact ⟨rfl, i + 1, hrest, h1, q2⟩
    · subst hr
      wp_walk
      exact q2
  case fin =>
    rintro ⟨b1, b2⟩ s' ⟨hb', i, hz, hi, hI⟩
    simp only at hb'
    subst hb'
    have hge : items.size ≤ i := by
      rcases Nat.lt_or_ge i (items.toList.zip items2.toList).length with h' | h'
      · rw [List.drop_eq_getElem_cons h'] at hz; cases hz
      · exact hZ ▸ h'
    have hi' : i = items.size := by omega
    have hR : R (.ok (.ret (.bool true))) s' := fin s' (hi' ▸ hI)
    wp_walk
    simpa [Builtin.Tuple.tupleCompareSizes, hsz] using hR
  case h =>
    exact ⟨rfl, 0, rfl, Nat.zero_le _, h0⟩
end
section
variable {prog : Program} {w : World} {A : Around} {E : Value → Shared → Prop} {s : Shared}
theorem rc_tupB {l b : Addr} {items items2 : Array Value} {Q : Value → Shared → Prop} (hsz : items.size = items2.size) (hu : A.units < cLine) (I : Nat → Shared → Prop)
    (hl : s.heap.IsTuple l items) (hb : s.heap.IsTuple b items2)
    (turn : ∀ i (h1 : i < items.size) (h2 : i < items2.size) s, I i s → wpAny (model prog w) A.in1 (eqBool items[i] items2[i]) (fun r s' => (r = true ∧ I (i + 1) s') ∨ (r = false ∧ Q (.bool false) s')) E s)
    (fin : ∀ s, I items.size s → Q (.bool true) s) (h : I 0 s) : wpAny (model prog w) A (richCompare .Eq (.ref l) (.ref b)) Q E s := by
  obtain ⟨⟨cls, dd, data, sl⟩, ho, hc, n, hd⟩ := id hl
  obtain ⟨⟨cls2, dd2, data2, sl2⟩, ho2, hc2, n2, hd2⟩ := id hb
  simp only at hc hd hc2 hd2
  subst hc hd hc2 hd2
  refine wpAny_richCompare_same_room (op := .Eq) ⟨_, ho, rfl⟩ ⟨_, ho2, rfl⟩ F.slot_tuple_eq (GQ.call_here F.slot_tuple_eq ⟨_, ho, rfl⟩ F.entry_tuple_eq (F.args_tuple_eq_2 _ _) ?_) hu
  refine tuple_eqB (R := wants (fun v s' => v ≠ .notImplemented ∧ Q v s') E) l b items items2 n n2 dd dd2 sl sl2 hsz I (fun i h1 h2 s' hi => wpAny_mono (turn i h1 h2 s' hi) (fun r s2 q => ?_) fun _ _ x => x) (fun s' q => ⟨(fun x => nomatch x), fin s' q⟩) ho ho2 h
  rcases q with q | ⟨e, q⟩
  · exact .inl q
  · exact .inr ⟨e, (fun x => nomatch x), q⟩
end
end TE8
namespace L2
open PySem PySem.Spec PyProof.Rows
/-- two instances of C, which c says to be equal or not -/
def DEqB (C : Addr) (sp : Sp) (E : XK) (c : Bool) (x y : V) (H : Hp) : Prop := ∃ a b dx dy fs gs, x = .ref a ∧ y = .ref b ∧ H a = some (.ins C dx fs) ∧ H b = some (.ins C dy gs) ∧ (a = b → c = true) ∧ sp [.ref a, .ref b] H (fun v H' => v = .bl c ∧ Ext H H') E
/-- item by item, in every later heap -/
inductive PrsB (D : Bool → V → V → Hp → Prop) (H : Hp) : List Bool → List V → List V → Prop
  | nil : PrsB D H [] [] []
  | cons {c : Bool} {x y : V} {cs : List Bool} {xs ys : List V} (h : ∀ H', Ext H H' → D c x y H') (t : PrsB D H cs xs ys) : PrsB D H (c :: cs) (x :: xs) (y :: ys)
section
variable {D : Bool → V → V → Hp → Prop} {H : Hp} {cs : List Bool} {xs ys : List V}
theorem PrsB.len (p : PrsB D H cs xs ys) : xs.length = ys.length ∧ cs.length = xs.length := by
  induction p with
  | nil => exact ⟨rfl, rfl⟩
  | cons _ _ ih => exact ⟨by rw [List.length_cons, List.length_cons, ih.1], by rw [List.length_cons, List.length_cons, ih.2]⟩
theorem PrsB.at : ∀ {cs : List Bool} {xs ys : List V} {i : Nat}, PrsB D H cs xs ys → i < xs.length → ∃ c x y, cs[i]? = some c ∧ xs[i]? = some x ∧ ys[i]? = some y ∧ ∀ H', Ext H H' → D c x y H'
  | _, _, _, 0, .cons h _, _ => ⟨_, _, _, rfl, rfl, rfl, h⟩
  | _, _, _, i + 1, .cons _ t, l => PrsB.at (i := i) t (Nat.lt_of_succ_lt_succ l)
end
def rTupB (K : PySem.W.Frag) (C : Addr) (sp : Sp) (E : XK) : R2 := fun x y H Q => ∃ a b xs ys cs, x = .ref a ∧ y = .ref b ∧ SqT K H a xs ∧ SqT K H b ys ∧ PrsB (DEqB C sp E) H cs xs ys ∧ ∀ H', Ext H H' → Q (.bl (cs.all id)) H'
section
variable {X : Cx} {CX : CXT} {k : Nat} {C f : Addr} {fd : FuncData} {ps : List Str} {sp : Sp} {E : XK}
theorem eq_insB (hs : PySem.W.findIn X.K (.ref C) "__eq__" = some (some (.ref f))) (hf : PySem.W.isFn X.K (.ref f) = true) (F : FnOk X.prog X.w X.K X.mg X.base CX k f fd ps sp) (hb : Binds X.K fd ps []) (hx : Passes CX X E)
    {A : Around} {pins : List (Addr × Obj)} {s : Shared} {σ : St} {H : Hp} {x y : V} {u v : Value} {c : Bool} (sb : Sub X k A) (I : Inv X pins σ H s) (rx : RelV x u) (ry : RelV y v) (d : DEqB C sp E c x y H) :
    wpAny (model X.prog X.w) A (eqBool u v) (fun r s' => r = c ∧ ∃ H', Inv X pins σ H' s' ∧ Ext H H') X.xe s := by
  obtain ⟨a, b, dx, dy, fs, gs, rfl, rfl, ha, hb', hc, hr⟩ := d
  cases rx
  cases ry
  by_cases hab : a = b
  · subst hab
    rw [hc rfl]
    exact SeqAt.EqAt.same (A := A) (s := s) (.ref a) X.prog X.w X.xe _ ⟨rfl, H, I, Ext.rfl'⟩
  · refine GQ.eqBool_refG hab ?_
    obtain ⟨mA, J, _⟩ := ins_get I.hok ha
    obtain ⟨mB, J', _⟩ := ins_get I.hok hb'
    obtain ⟨od, J, _⟩ := J.look
    obtain ⟨od', J', _⟩ := J'.look
    obtain ⟨m, hF⟩ := I.fr
    refine PySem.W.cmp_K (op := .Eq) (tb := .ref C) sb.room.units0 hF I.ok.mod.kin J J'.type (by simp [PySem.W.notFirst]) hs hf ?_
    have e0 : Env0 X.prog X.w X.K X.mg X.base A X.stack s H := by
      have e := I.env0
      exact ⟨by rw [sb.fr]; exact e.frames, e.mod, e.bs, e.bsz, e.funs, e.frf, e.hok, e.bare⟩
    have hl := F.len _ _ _ _ hr
    have r2 : Vals [V.ref a, V.ref b] [Value.ref a, Value.ref b] := .cons rfl (.cons rfl .nil)
    refine wpAny_call (codeAny_mono (F.run A X.stack s H ⟨[.ref a, .ref b], []⟩ [.ref a, .ref b] [.ref a, .ref b] _ E sb.room e0 (by
      have := hb s [.ref a, .ref b] I.kIn (by simpa using hl)
      simpa using this) r2 hr) fun r s' hq => ?_)
    cases r with
    | error e => exact hx pins σ H s e s' I hq
    | ok fl =>
      cases fl with
      | ret w =>
        obtain ⟨z, H', I', rz, ez, ex⟩ := I.after hq
        subst ez
        cases rz
        exact ⟨c, rfl, rfl, H', I', ex⟩
      | next => exact False.elim hq
      | brk => exact False.elim hq
      | cont => exact False.elim hq
theorem op_eqTupB (hs : PySem.W.findIn X.K (.ref C) "__eq__" = some (some (.ref f))) (hf : PySem.W.isFn X.K (.ref f) = true) (F : FnOk X.prog X.w X.K X.mg X.base CX k f fd ps sp) (hr : Room (k + 1) X.A) (hb : Binds X.K fd ps []) (hx : Passes CX X E) :
    OpR X (compareOp .Eq) (rTupB X.K C sp E) := by
  intro pins s σ H x y v u Q I rx ry h
  obtain ⟨a, b, xs, ys, cs, rfl, rfl, ha, hb', p, q⟩ := h
  cases rx
  cases ry
  obtain ⟨its, r, e, z⟩ := I.tuple ha
  obtain ⟨its2, r2, e2, z2⟩ := I.tuple hb'
  obtain ⟨l1, l2⟩ := p.len
  have hsz : its.toArray.size = its2.toArray.size := by rw [List.size_toArray, List.size_toArray, ← r.length, ← r2.length]; exact l1
  show wpAny (model X.prog X.w) X.A (richCompare .Eq _ _) (EP X pins σ Q) X.xe s
  refine TE8.rc_tupB hsz hr.units0 (fun i s' => (∃ H', Inv X pins σ H' s' ∧ Ext H H') ∧ (cs.take i).all id = true) e e2 (fun i h1 h2 s' q' => ?_) (fun s' q' => ?_) ⟨⟨H, I, Ext.rfl'⟩, rfl⟩
  · obtain ⟨⟨H1, I1, e1⟩, ca⟩ := q'
    have g1 : its[i]? = some its.toArray[i] := by
      have h1' : i < its.length := by simpa using h1
      rw [List.getElem?_eq_getElem h1'] <;> simp
    have g2 : its2[i]? = some its2.toArray[i] := by
      have h2' : i < its2.length := by simpa using h2
      rw [List.getElem?_eq_getElem h2'] <;> simp
    have k1 : i < xs.length := by rw [r.length]; simpa using h1
    obtain ⟨c, x, y, hc, hx', hy', d⟩ := p.at k1
    obtain ⟨u, hu, ru⟩ := r.get hx'
    obtain ⟨v, hv, rv⟩ := r2.get hy'
    rw [g1] at hu
    rw [g2] at hv
    rw [Option.some.inj hu, Option.some.inj hv]
    refine wpAny_mono (eq_insB hs hf F hb hx (A := X.A.in1) ⟨hr.in1, rfl⟩ I1 ru rv (d H1 e1)) (fun r s2 z => ?_) fun _ _ x => x
    obtain ⟨hr', H2, I2, e2'⟩ := z
    cases c with
    | true =>
      refine .inl ⟨hr', ⟨H2, I2, e1.trans e2'⟩, ?_⟩
      rw [List.take_add_one, hc, List.all_append, ca]
      rfl
    | false =>
      refine .inr ⟨hr', .bl false, H2, I2, rfl, ?_⟩
      have ef : cs.all id = false := by
        rw [List.all_eq_false]
        exact ⟨false, List.mem_of_getElem? hc, by decide⟩
      rw [← ef]
      exact q H2 (e1.trans e2')
  · obtain ⟨⟨H1, I1, e1⟩, ca⟩ := q'
    have el : cs.take its.toArray.size = cs := by
      rw [List.take_of_length_le]
      rw [l2, r.length, List.size_toArray]
      exact Nat.le_refl _
    rw [el] at ca
    refine ⟨.bl true, H1, I1, rfl, ?_⟩
    rw [← ca]
    exact q H1 e1
end
end L2
set_option maxRecDepth 100000
/-! C(*y, k = v, ..) -/
namespace PySem.W
open PySem
section
variable {M : Model} {A : Around} {E : Value → Shared → Prop} {s : Shared}
theorem ks_lone_kw {f : Value} {x : Sem Value} {pos : Pos} {kws : List (Option Str × Sem Value)} {Q : Args → Shared → Prop} (hall : kws.all (·.1.isSome) = true)
    (h : wpAny M A x (fun v s₁ => wpAny M A (evalAll (kws.map (·.2))) (fun ks s₂ => StarOf M A E v (fun vs s₃ => Q ⟨vs, (kws.filterMap (·.1)).zip ks⟩ s₃) s₂) E s₁) E s) :
    wpAny M A (evalArgs f true [(true, (do let v ← x; standAt pos; pure v))] kws) Q E s := by
  unfold evalArgs
  first
    | refine wpAny_bind (wpAny_bind (wpAny_mono h (fun v s₁ h₁ => wpAny_bind (wpAny_standAt (wpAny_pure ?_))) fun _ _ x => x))
    | refine wpAny_bind (wpAny_bind (wpAny_bind (wpAny_mono h (fun v s₁ h₁ => wpAny_bind (wpAny_standAt (wpAny_pure (wpAny_pure ?_)))) fun _ _ x => x)))
  refine wpAny_holding ?_
  dsimp only
  rw [if_pos hall]
  refine wpAny_bind (wpAny_mono h₁ (fun ks s₂ h₂ => ?_) fun _ _ x => x)
  unfold StarOf at h₂
  refine wpAny_bind (wpAny_bind (wpAny_mono h₂ (fun b s₃ h₃ => ?_) fun _ _ x => x))
  obtain ⟨rfl, h₃⟩ := h₃
  have z : ∀ keep, wpAny M A (holding keep (collect v)) (fun vs s₄ => wpAny M A (pure (⟨vs, (kws.filterMap (·.1)).zip ks⟩ : Args)) Q E s₄) E s₃ := fun keep => wpAny_holding (vs := keep) (wpAny_mono h₃ (fun vs s₄ h₄ => wpAny_pure h₄) fun _ _ x => x)
  try simp only [Bool.false_eq_true, if_false]
  first
    | exact z _
    | exact wpAny_bind (wpAny_pure (z _))
theorem ks_call_kw {f : Value} {first : List Value} {pos : Pos} {Q : Value → Shared → Prop} {P : Heap → Prop} {args : List (Bool × Sem Value)} {kws : List (Option Str × Sem Value)} (hst : args.any (·.1) = true)
    (hk : ∀ h, P h → ∃ k, (k = Keeper.frame ∨ k = Keeper.machine ∨ k = Keeper.boundFrame) ∧ Looks M h (keeperOf f) k)
    (h : wpAny M A (evalArgs f true args kws) (fun a s₁ => P s₁.heap ∧ wpAny M A (call f (first ++ a.pos) a.kw) Q E s₁) E s) : wpAny M A (callWith pos f first args kws) Q E s := by
  unfold callWith
  refine wpAny_bind (wpAny_holding (wpAny_mono h (fun a s₁ h₁ => wpAny_bind (wpAny_standAt ?_)) fun _ _ x => x))
  obtain ⟨k, hk', L⟩ := hk _ h₁.1
  simp only [hst, Bool.true_or]
  refine wpAny_bind (L.here ?_)
  have tail : ∀ {t : Sem Value}, wpAny M A t Q E s₁ → wpAny M A (t >>= fun r => holding [r] point >>= fun _ => pure r) Q E s₁ :=
    fun ht => wpAny_bind (wpAny_mono ht (fun r s₂ hr => wpAny_bind (wpAny_holding (wpAny_point (wpAny_pure hr)))) fun _ _ x => x)
  have marked (mk : Value) : wpAny M A (callMarked mk f (first ++ a.pos) a.kw) Q E s₁ := by unfold callMarked; exact Calls.wpAny_keep h₁.2
  rcases hk' with rfl | rfl | rfl <;> dsimp only <;> first | exact tail (marked _) | exact tail (wpAny_operating h₁.2)
end
end PySem.W
namespace StK
open PySem PySem.Spec PyProof.Rows L2 StX
def tMakeRS (K : PySem.W.Frag) (C : Addr) (m : Nat) (sp : List V → Sp) (E : L2.St → XK) (te : TE) (tk : TA) : TE := fun σ H Q => te σ H fun y H1 => tk σ H1 fun zs H2 => zs.length = m ∧ ∃ a xs, y = V.ref a ∧ (SqT K H2 a xs ∨ SqL K H2 a xs) ∧ ∀ x dx, H2 x = none → H2 dx = none → dx ≠ x →
  sp zs (V.ref x :: xs) (upd (upd H2 dx (.own x)) x (.ins C dx [])) (fun v H3 => v = .non ∧ Q (.ref x) H3) (E σ)
section
variable {X : Cx} {CX : CXT} {k : Nat} {f C : Addr} {ks : List Str} {sp : List V → Sp} {E : L2.St → XK} {x : Str} {p sp_ pos : Pos} {e : Expr} {kws : List Keyword} {te : TE} {tk : TA}
theorem pe_makeRS (M : Mk X.K C f) (F : FnRK X.prog X.w X.K X.mg X.base CX k f ks sp) (hr : Room (k + 1) X.A) (hg : Gl X x) (hm : X.mg x = some (.ref C)) (hx : ∀ σ, PassesAt CX X σ (E σ)) (he : PE X e te) (hkw : PK X kws tk)
    (hall : (backToKw pos (keywordEach kws X.env)).all (·.1.isSome) = true := by rfl) (hks : (backToKw pos (keywordEach kws X.env)).filterMap (·.1) = ks := by rfl) (hdb : (x == ("__debug__" : Str)) = false := by decide)
    (hst : starEach [.Starred e sp_] X.env = [(true, eval e X.env)] := by rfl) :
    PE X (.Call (.Name x p) [.Starred e sp_] kws pos) (tMakeRS X.K C ks.length sp E te tk) := by
  refine ⟨fun pins s σ H Q I h => ?_⟩
  refine wpAny_Call_Name_kw (ld_glob I hg hm ?_ hdb)
  rw [hst]
  refine PySem.W.ks_call_kw rfl (PySem.W.keeps_K M.kp) (PySem.W.ks_lone_kw hall (thn (he.run pins s σ H _ I h) fun v s1 ⟨y, H1, I1, ry, q⟩ => ?_))
  refine thn (hkw.run pos pins s1 σ H1 _ I1 q) fun ws s2 ⟨zs, H2, I2, rz, l2, a, xs, ey, hxs, q2⟩ => ?_
  subst ey
  obtain rfl : v = Value.ref a := ry
  refine star_any I2 hxs fun us s3 I3 rv => ⟨I3.kIn, ?_⟩
  rw [hks]
  exact run_makeRK (us := us) (vs := xs) M F hr (hx σ) I3 rv rz l2 q2
end
end StK
set_option maxRecDepth 100000
namespace L2
open PySem PySem.Spec PyProof.Rows
section
variable {X : Cx} {CX : CXT} {k : Nat} {f C : Addr} {fd : FuncData} {ps : List Str} {sp : Sp} {E : St → XK} {m : Str} {pos apos : Pos} {e o : Expr} {es : List Expr} {ta : TE} {t : TA}
/-- o.m(e, ..), where an error may come out, as the wish at these slots says -/
def tMethXS (C : Addr) (m : Str) (sp : Sp) (E : St → XK) (ta : TE) (t : TA) : TE := fun σ H Q => ta σ H fun x H1 => ∃ a dx fs, x = .ref a ∧ H1 a = some (.ins C dx fs) ∧ fs.lookup m = none ∧ t σ H1 fun vs H2 => sp (x :: vs) H2 Q (E σ)
abbrev mcall (X : Cx) (o : Expr) (m : Str) (apos pos : Pos) (es : List Expr) (pl : Sem Bool) : Sem Value := (do let ov ← eval o X.env; standAt apos.atName; let (g, one) ← holding [ov] (getMethod ov m pl); callWith pos g one (backTo pos (starEach es X.env)) (backToKw pos (keywordEach [] X.env)))
theorem pe_methXS {pl : Sem Bool} (he : PE X o ta) (c : Cls X.K C) (hm : Meth X.K C m f) (F : FnOk X.prog X.w X.K X.mg X.base CX k f fd ps sp) (hr : Room k X.A) (hb : Binds X.K fd ps []) (hx : ∀ σ, PassesAt CX X σ (E σ)) (ha : PA X (e :: es) t)
    (ht : eval (.Call (.Attribute o m apos) (e :: es) [] pos) X.env = mcall X o m apos pos (e :: es) pl := by rfl) (h1 : starEach (e :: es) X.env = (false, eval e X.env) :: starEach es X.env := by rfl) (h2 : (backTo pos (starEach es X.env)).any (·.1) = false := by rfl) :
    PE X (.Call (.Attribute o m apos) (e :: es) [] pos) (tMethXS C m sp E ta t) := by
  constructor
  intro pins s σ H Q I h
  refine PySem.W.methodCall_KW (pl := pl) (thn (he.run pins s σ H _ I h) fun u s1 q => ?_) ht
  obtain ⟨_, H1, I1, ru, a, dx, fs, rfl, ea, l, q⟩ := q
  have eu : u = Value.ref a := ru
  subst eu
  refine getmeth_ok I1 ea c hm l (PySem.W.callWith_K (first := [.ref a]) (h₀ := X.base) I.ok.mod.kin hm.kp (thn (ha.run pos pins s1 σ H1 _ I1 q) fun us s2 q2 => ?_) h1 h2)
  obtain ⟨vs, H2, I2, r, q2⟩ := q2
  exact ⟨I2.kIn, run_fnS (us := .ref a :: us) (vs := .ref a :: vs) F hr hb (hx σ) I2 (.cons rfl r) q2⟩
end
end L2
set_option maxRecDepth 100000
/-! o.m(k = v, ..), keywords alone, where an error may come out -/
namespace L2
open PySem PySem.Spec PyProof.Rows
def tMethN (C : Addr) (m : Str) (nk : Nat) (sp : Sp) (gV : List V → List V → List V) (E : St → XK) (ta : TE) (tk : TA) : TE := fun σ H Q => ta σ H fun x H1 => ∃ a dx fs, x = .ref a ∧ H1 a = some (.ins C dx fs) ∧ fs.lookup m = none ∧
  tk σ H1 fun zs H2 => zs.length = nk ∧ sp (gV [.ref a] zs) H2 Q (E σ)
section
variable {X : Cx} {CX : CXT} {k n : Nat} {f C : Addr} {fd : FuncData} {ps ks : List Str} {sp : Sp} {E : St → XK} {x m : Str} {p pos apos : Pos} {o : Expr} {kws : List Keyword} {ta : TE} {tk : TA} {g : List Value → List Value → List Value} {gV : List V → List V → List V}
theorem run_fnNS {pins : List (Addr × Obj)} {σ : St} {H : Hp} {s : Shared} {Q : VK} {us ws : List Value} {vs zs : List V} {E : XK} (F : FnOk X.prog X.w X.K X.mg X.base CX k f fd ps sp) (hr : Room k X.A) (hb : KBn X.K fd ps n ks g gV) (hx : PassesAt CX X σ E)
    (I : Inv X pins σ H s) (r : Vals vs us) (rz : Vals zs ws) (l1 : vs.length = n) (l2 : zs.length = ks.length) (h : sp (gV vs zs) H Q E) : wpAny (model X.prog X.w) X.A (call (.ref f) us (ks.zip ws)) (EP X pins σ Q) X.xe s := by
  have bd := hb.to s us ws I.kIn (by rw [← r.length]; exact l1) (by rw [← rz.length]; exact l2)
  refine wpAny_call (codeAny_mono (F.run X.A X.stack s H ⟨us, ks.zip ws⟩ (g us ws) (gV vs zs) Q E hr I.env0 bd (hb.rel r rz) h) fun res s' hq => ?_)
  match res, hq with
  | .error e, hq => exact hx pins H s e s' I hq
  | .ok (.ret u), hq => exact I.after hq
theorem pe_methN {pl : Sem Bool} (he : PE X o ta) (c : Cls X.K C) (hm : Meth X.K C m f) (F : FnOk X.prog X.w X.K X.mg X.base CX k f fd ps sp) (hr : Room k X.A) (hb : KBn X.K fd ps 1 ks g gV) (hx : ∀ σ, PassesAt CX X σ (E σ)) (hkw : PK X kws tk)
    (hall : (backToKw pos (keywordEach kws X.env)).all (·.1.isSome) = true := by rfl) (hks : (backToKw pos (keywordEach kws X.env)).filterMap (·.1) = ks := by rfl)
    (ht : eval (.Call (.Attribute o m apos) [] kws pos) X.env = (do
      let ov ← eval o X.env
      standAt apos.atName
      let (f, first) ← holding [ov] (getMethod ov m pl)
      callWith pos f first (backTo pos (starEach [] X.env)) (backToKw pos (keywordEach kws X.env))) := by rfl)
    (hpl : ((backTo pos (starEach [] X.env)).any (·.1) || (backToKw pos (keywordEach kws X.env)).any (·.1.isNone)) = false := by rfl) :
    PE X (.Call (.Attribute o m apos) [] kws pos) (tMethN C m ks.length sp gV E ta tk) := by
  constructor
  intro pins s σ H Q I h
  refine PySem.W.methodCall_KW (pl := pl) (thn (he.run pins s σ H _ I h) fun u s1 q => ?_) ht
  obtain ⟨_, H1, I1, ru, a, dx, fs, rfl, ea, l, q⟩ := q
  have eu : u = Value.ref a := ru
  subst eu
  refine getmeth_ok I1 ea c hm l (PySem.W.callWith_KW0 (first := [.ref a]) (h₀ := X.base) I.ok.mod.kin hm.kp hall ?_ hpl)
  refine thn (hkw.run pos pins s1 σ H1 _ I1 q) fun ws s2 ⟨zs, H2, I2, rz, l2, q2⟩ => ⟨I2.kIn, ?_⟩
  rw [hks]
  exact run_fnNS (us := [.ref a]) (vs := [.ref a]) F hr hb (hx σ) I2 (.cons rfl .nil) rz rfl l2 q2
end
end L2
set_option maxRecDepth 100000
namespace Tk
open PySem L2
/-- all but lists is as it was -/
def NL (H H' : Hp) : Prop := ∀ b o, H b = some o → (∀ ys, o ≠ .lst ys) → H' b = some o
theorem NL.refl (H : Hp) : NL H H := fun _ _ e _ => e
theorem NL.trans {H H1 H2 : Hp} (x : NL H H1) (y : NL H1 H2) : NL H H2 := fun b o e n => y b o (x b o e n) n
theorem NL.same {H H' : Hp} (s : Same H H') : NL H H' := fun b o e _ => s b o e
theorem NL.kp {p : Addr} {ys : List V} {H H' : Hp} (k : Kp p H H') (hp : H p = some (.lst ys)) : NL H H' := fun b o e n => k b o e (fun z => by rw [z, hp] at e; exact n _ (Option.some.inj e).symm)
theorem NL.k2 {p b : Addr} {ys zs : List V} {H H' : Hp} (k : K2 p b H H') (hp : H p = some (.lst ys)) (hb : H b = some (.lst zs)) : NL H H' := fun c o e n =>
  k c o e (fun z => by rw [z, hp] at e; exact n _ (Option.some.inj e).symm) (fun z => by rw [z, hb] at e; exact n _ (Option.some.inj e).symm)
theorem NL.upd {p : Addr} {ys : List V} {o : HO} {H : Hp} (hp : H p = some (.lst ys)) : NL H (L2.upd H p o) := fun b u e n => by
  rw [upd_ne (fun z => by rw [z, hp] at e; exact n _ (Option.some.inj e).symm)]; exact e
theorem NL.tk {H H' : Hp} (x : NL H H') : TK H H' := fun a xs e => x a _ e (fun ys z => by cases z)
theorem Sc.nl {CS : Addr} {H H' : Hp} {x t : Addr} {S : List Stm} (h : Sc CS H x t S) (k : NL H H') : Sc CS H' x t S := by
  obtain ⟨⟨dx, dd, pl, bs, kvs, xs, h1, h2, h3, h4, h5, h6, h7⟩, a, b, c⟩ := h
  have tk := k.tk
  exact ⟨⟨dx, dd, pl, bs, kvs, xs, k _ _ h1 (fun _ z => by cases z), tk _ _ h2, atAll_keep tk _ _ h3, k _ _ h4 (fun _ z => by cases z), h5.keep tk, tk _ _ h6, keys_keep tk h7⟩, a, b, c⟩
theorem KindAt.nl {CS CD : Addr} {H H' : Hp} {k : Addr} {n : Str} {S : List Stm} {b m : Int} (h : KindAt CS CD H k n S b m) (x : NL H H') : KindAt CS CD H' k n S b m := by
  obtain ⟨dx, y, t, h1, h2⟩ := h
  exact ⟨dx, y, t, x _ _ h1 (fun _ z => by cases z), h2.nl x⟩
/-- good statements at t -/
def GoodT (H : Hp) (t : Addr) (S : List Stm) : Prop := (∃ xs, H t = some (.tup xs) ∧ atAll H xs S) ∧ S ≠ [] ∧ okAll 0 S 0 ∧ cntAll S ≤ 8
theorem GoodT.nl {H H' : Hp} {t : Addr} {S : List Stm} (g : GoodT H t S) (k : NL H H') : GoodT H' t S := by
  obtain ⟨⟨xs, h1, h2⟩, h3⟩ := g
  exact ⟨⟨xs, k.tk _ _ h1, atAll_keep k.tk _ _ h2⟩, h3⟩
/-- a row of a kind's values -/
def RowAt (H : Hp) (a : Addr) (n : Str) (b m : Int) : Prop := H a = some (.tup [.str n, .int b, .int m]) ∧ IsName n ∧ 1 ≤ b ∧ b ≤ 3 ∧ 1 ≤ m ∧ m ≤ 3
def rowD (n : Str) (b m : Int) : PyData := .tuple [.str n, .int b, .int m]
theorem row_dp {K : PySem.W.Frag} {H : Hp} {a : Addr} {n : Str} {b m : Int} (r : RowAt H a n b m) : Dp K H (.ref a) (rowD n b m) ∧ SeqAt.shaped (rowD n b m) = true := by
  refine ⟨.tup (SqT.of r.1) (.cons (.str _) (.cons (.int _) (.cons (.int _) .nil))), ?_⟩
  have e : (rowD n b m).canLay0 = true := by
    simp only [rowD, PyData.canLay0, PyData.canLayAll0, low_ok r.2.1.2.2]; rfl
  have d : (rowD n b m).depth ≤ 64 := by simp only [rowD, PyData.depth, PyData.depthAll]; omega
  unfold SeqAt.shaped
  rw [e, decide_eq_true d]; rfl
theorem kEq_row (n n' : Str) (S S' : List Stm) (b b' m m' : Int) : kEq n n' S S' b b' m m' = (sEq S S' && PyData.eqv (rowD n b m) (rowD n' b' m')) := by
  have e : PyData.eqv (rowD n b m) (rowD n' b' m') = (decide (V.str n = V.str n') && (decide (V.int b = V.int b') && decide (V.int m = V.int m'))) := by
    simp only [rowD, PyData.eqv, PyData.eqvAll, Bool.and_true]
    have e1 : (n == n') = decide (V.str n = V.str n') := by
      by_cases h : n = n'
      · subst h; simp
      · rw [decide_eq_false (fun z => h (by injection z))]; simpa using h
    have e2 : ∀ i j : Int, (i == j) = decide (V.int i = V.int j) := fun i j => by
      by_cases h : i = j
      · subst h; simp
      · rw [decide_eq_false (fun z => h (by injection z))]; simpa using h
    rw [e1, e2, e2]
  rw [e]
  unfold kEq
  cases decide (V.str n = V.str n') <;> cases sEq S S' <;> cases decide (V.int b = V.int b') <;> cases decide (V.int m = V.int m') <;> rfl
theorem kEq_comm (n n' : Str) (S S' : List Stm) (b b' m m' : Int) : kEq n' n S' S b' b m' m = kEq n n' S S' b b' m m' := by
  rw [kEq_row, kEq_row, PySem.W.eqv_comm (rowD n' b' m')]
  unfold sEq
  rw [PySem.W.eqv_comm]
theorem kEq_refl {n : Str} {S : List Stm} {b m : Int} (ok : okAll 0 S 0) : kEq n n S S b b m m = true := by
  unfold kEq
  rw [decide_eq_true rfl, decide_eq_true rfl, decide_eq_true rfl, sEq_refl ok]; rfl
end Tk
set_option maxRecDepth 100000
namespace L2
open PySem PySem.Spec PyProof.Rows
theorem walk_zipT {K : PySem.W.Frag} {a b : Addr} {xs ys : List V} {n : Nat} (hn : n = min xs.length ys.length) : Walk (RZ.ItzT K a b) n (fun H => SqT K H a xs ∧ SqT K H b ys) (YPair (fun i => xs[i]?) (fun i => ys[i]?)) := by
  subst hn
  refine ⟨fun i _ hi q => ?_, fun _ q => ⟨xs, ys, q.1, q.2, by omega⟩, fun i H v H' _ q y => ?_⟩
  · have h1 : i < xs.length := by omega
    have h2 : i < ys.length := by omega
    exact ⟨xs, ys, xs[i], ys[i], q.1, q.2, by simp [h1], by simp [h2]⟩
  · obtain ⟨T, x, z, h1, h2, h3, h4, h5⟩ := y
    exact ⟨T, x, z, h1, h2, h3, h4 xs q.1, h5 ys q.2⟩
end L2
namespace Tk
open PySem L2 StK
abbrev sYEq : Stmt := inClass (top 31) 3
abbrev sYWv : Stmt := inClass (top 31) 5
abbrev sYWb : Stmt := inClass (top 31) 6
abbrev sKept : Stmt := top 37
abbrev sAB : Stmt := top 36
/-- a system as it was made -/
def SysAt (CS CD CY : Addr) (H : Hp) (y : Addr) (rs : List KR) (va vw vc : V) : Prop := ∃ dx t l ks, H y = some (.ins CY dx (fldY t va vw vc l)) ∧ H t = some (.tup ks) ∧ KsAt CS CD H ks rs ∧ H l = some (.tup ((sess rs).map V.str))
theorem SysAt.keep {CS CD CY : Addr} {H H' : Hp} {y : Addr} {rs : List KR} {va vw vc : V} (s : Same H H') (h : SysAt CS CD CY H y rs va vw vc) : SysAt CS CD CY H' y rs va vw vc := by
  obtain ⟨dx, t, l, ks, h1, h2, h3, h4⟩ := h
  exact ⟨dx, t, l, ks, s _ _ h1, s _ _ h2, h3.keep s, s _ _ h4⟩
section
variable {P : Program} {w : World} {K : PySem.W.Frag} {mg : Str → Option Value} {base : Heap} {CS CK CD CY CBY it : Addr}
/-! == of systems -/
def krEq (r r' : KR) : Bool := kEq r.n r'.n r.S r'.S r.b r'.b r.m r'.m
def ksEq : List KR → List KR → Bool
  | [], [] => true
  | r :: rs, r' :: rs' => krEq r r' && ksEq rs rs'
  | _, _ => false
theorem wd_inj {w w' : Wd} : w.s = w'.s → w = w' := by
  cases w <;> cases w' <;> first | (intro _; rfl) | (intro h; exact absurd h (by decide +kernel))
theorem lockS_inj {b b' : Bool} : lockS b = lockS b' → b = b' := by
  cases b <;> cases b' <;> first | (intro _; rfl) | (intro h; exact absurd h (by decide +kernel))
theorem tup_inj {xs ys : List V} {H : Hp} {a : Addr} (h : H a = some (.tup xs)) (h' : H a = some (.tup ys)) : xs = ys := by
  rw [h] at h'
  injection h' with h'
  injection h'
mutual
theorem at_inj {H : Hp} : ∀ (s s' : Stm) (v : V), s.at H v → s'.at H v → s = s'
  | .one w, s', v, h, h' => by
    unfold Stm.at at h
    obtain ⟨a, rfl, h⟩ := h
    cases s' with
    | one w' =>
      unfold Stm.at at h'
      obtain ⟨b, e, h'⟩ := h'
      cases e
      have e := tup_inj h h'
      injection e with e _
      injection e with e
      rw [wd_inj e]
    | nam b' z' =>
      unfold Stm.at at h'
      obtain ⟨b, e, h'⟩ := h'
      cases e
      exact absurd (congrArg List.length (tup_inj h h')) (by simp)
    | ch y n =>
      unfold Stm.at at h'
      obtain ⟨b, c, d, xs, ys, e, h', _⟩ := h'
      cases e
      exact absurd (congrArg List.length (tup_inj h h')) (by simp)
  | .nam b z, s', v, h, h' => by
    unfold Stm.at at h
    obtain ⟨a, rfl, h⟩ := h
    cases s' with
    | one w' =>
      unfold Stm.at at h'
      obtain ⟨b, e, h'⟩ := h'
      cases e
      exact absurd (congrArg List.length (tup_inj h h')) (by simp)
    | nam b' z' =>
      unfold Stm.at at h'
      obtain ⟨c, e, h'⟩ := h'
      cases e
      have e := tup_inj h h'
      injection e with e1 e
      injection e with e2 _
      injection e1 with e1
      injection e2 with e2
      rw [lockS_inj e1, e2]
    | ch y n =>
      unfold Stm.at at h'
      obtain ⟨b, c, d, xs, ys, e, h', _⟩ := h'
      cases e
      exact absurd (congrArg List.length (tup_inj h h')) (by simp)
  | .ch y n, s', v, h, h' => by
    unfold Stm.at at h
    obtain ⟨a, b, c, xs, ys, rfl, h, h1, h2, h3, h4⟩ := h
    cases s' with
    | one w' =>
      unfold Stm.at at h'
      obtain ⟨b, e, h'⟩ := h'
      cases e
      exact absurd (congrArg List.length (tup_inj h h')) (by simp)
    | nam b' z' =>
      unfold Stm.at at h'
      obtain ⟨b, e, h'⟩ := h'
      cases e
      exact absurd (congrArg List.length (tup_inj h h')) (by simp)
    | ch y' n' =>
      unfold Stm.at at h'
      obtain ⟨a', b', c', xs', ys', e, h', h1', h2', h3', h4'⟩ := h'
      cases e
      have e := tup_inj h h'
      injection e with _ e
      injection e with e1 e
      injection e with e2 _
      injection e1 with e1
      injection e2 with e2
      subst e1
      subst e2
      have ex := tup_inj h1 h1'
      have ey := tup_inj h3 h3'
      subst ex
      subst ey
      rw [atAll_inj y y' xs h2 h2', atAll_inj n n' ys h4 h4']
theorem atAll_inj {H : Hp} : ∀ (B B' : List Stm) (xs : List V), atAll H xs B → atAll H xs B' → B = B'
  | [], B', xs, h, h' => by
    have l := atAll_len h
    have l' := atAll_len h'
    cases B' with
    | nil => rfl
    | cons s r => rw [l] at l'; simp at l'
  | s :: r, B', xs, h, h' => by
    have l := atAll_len h
    have l' := atAll_len h'
    cases B' with
    | nil => rw [l] at l'; simp at l'
    | cons s' r' =>
      unfold atAll at h h'
      obtain ⟨v, vs, e, h1, h2⟩ := h
      obtain ⟨v', vs', e', h1', h2'⟩ := h'
      rw [e] at e'
      injection e' with e1 e2
      subst e1
      subst e2
      rw [at_inj s s' v h1 h1', atAll_inj r r' vs h2 h2']
end
theorem sc_inj {CS x t t' : Addr} {H : Hp} {S S' : List Stm} (h : Sc CS H x t S) (h' : Sc CS H x t' S') : S = S' := by
  obtain ⟨dx, dd, pl, bs, kvs, xs, h1, h2, h3, _⟩ := h.ex
  obtain ⟨dx', dd', pl', bs', kvs', xs', h1', h2', h3', _⟩ := h'.ex
  rw [h1] at h1'
  injection h1' with e
  injection e with _ _ e
  have e1 : (flds t dd pl).lookup ("statements" : Str) = (flds t' dd' pl').lookup ("statements" : Str) := by rw [e]
  rw [flds_st, flds_st] at e1
  injection e1 with e1
  injection e1 with e1
  subst e1
  have ex := tup_inj h2 h2'
  subst ex
  exact atAll_inj S S' xs h3 h3'
theorem kind_inj {CS CD k : Addr} {H : Hp} {r r' : KR} (h : KindAt CS CD H k r.n r.S r.b r.m) (h' : KindAt CS CD H k r'.n r'.S r'.b r'.m) : r = r' := by
  obtain ⟨dx, x, t, h1, h2⟩ := h
  obtain ⟨dx', x', t', h1', h2'⟩ := h'
  rw [h1] at h1'
  injection h1' with e
  injection e with _ _ e
  obtain ⟨n, S, b, m⟩ := r
  obtain ⟨n', S', b', m'⟩ := r'
  unfold fldD at e
  simp only [List.cons.injEq, Prod.mk.injEq, true_and, and_true, V.str.injEq, V.ref.injEq, V.int.injEq] at e
  obtain ⟨e1, e2, e3, e4⟩ := e
  subst e1 e2 e3 e4
  have e5 : S = S' := sc_inj h2 h2'
  rw [e5]
def spYEq (CS CD CY : Addr) : Sp := fun vs H Q _ => ∃ (y z : Addr) (rs rs' : List KR) (va vw vc va' vw' vc' : V), vs = [.ref y, .ref z] ∧ SysAt CS CD CY H y rs va vw vc ∧ SysAt CS CD CY H z rs' va' vw' vc' ∧ rs.length = rs'.length ∧
  scal va va' = true ∧ scal vw vw' = true ∧ scal vc vc' = true ∧ ∀ H', Same H H' → Q (.bl (ksEq rs rs' && decide (va = va') && decide (vw = vw') && decide (vc = vc'))) H'
theorem krEq_refl {r : KR} (ok : okAll 0 r.S 0) : krEq r r = true := by
  unfold krEq kEq
  rw [sEq_refl ok]
  simp
theorem prs_of (E : XK) {H : Hp} : ∀ {rs rs' : List KR} {ks ks' : List V}, KsAt CS CD H ks rs → KsAt CS CD H ks' rs' → rs.length = rs'.length → PrsB (DEqB CD (spDEq CS CD) E) H (List.zipWith krEq rs rs') ks ks'
  | _, _, _, _, .nil, .nil, _ => .nil
  | _, _, _, _, .cons (r := r) h t, .cons (r := r') h' t', l => by
    refine .cons (fun H' e => ?_) (prs_of E t t' (by simpa using l))
    obtain ⟨k, rfl, hk⟩ := h.keep e
    obtain ⟨k', rfl, hk'⟩ := h'.keep e
    obtain ⟨d1, _, _, g1, sc⟩ := id hk
    obtain ⟨d2, _, _, g2, _⟩ := id hk'
    refine ⟨k, k', d1, d2, _, _, rfl, rfl, g1, g2, fun e => ?_, k, k', _, _, _, _, _, _, _, _, rfl, hk, hk', rfl, fun _ _ q => q⟩
    subst e
    rw [← kind_inj hk hk']
    exact krEq_refl sc.ok
  | _, _, _, _, .nil, .cons _ _, l => by simp at l
  | _, _, _, _, .cons _ _, .nil, l => by simp at l
theorem zip_all : ∀ {rs rs' : List KR}, rs.length = rs'.length → (List.zipWith krEq rs rs').all id = ksEq rs rs'
  | [], [], _ => rfl
  | r :: rs, r' :: rs', l => by
    rw [List.zipWith_cons_cons, List.all_cons, zip_all (by simpa using l), ksEq]
    rfl
  | [], _ :: _, l => by simp at l
  | _ :: _, [], l => by simp at l
theorem scYE : FnScope ["self", "other"] ["self", "other"] (defScope sYEq) := ⟨rfl, rfl, rfl, by decide +kernel, rfl, by decide +kernel, by decide +kernel⟩
theorem ok_yeq {f fD : Addr} {fd fdD : FuncData} (F : Fun K "__eq__" "System.__eq__" sYEq f fd) (T : Txt K w mg CS CK it) (U : TxK K mg CS CD) (G : FY K CY) (mY : mg "System" = some (.ref CY))
    (ED : PySem.W.findIn K (.ref CD) "__eq__" = some (some (.ref fD))) (fnD : PySem.W.isFn K (.ref fD) = true) (GD : FnOk P w K mg base CX0 2 fD fdD ["self", "other"] (spDEq CS CD)) (bD : Binds K fdD ["self", "other"] []) :
    FnOk P w K mg base CX0 4 f fd ["self", "other"] (spYEq CS CD CY) := by
  refine F.ok scYE (fun vs H Q E h => ?_) (fun cdv A outer s H vs Q E hr h => ?_)
  · obtain ⟨y, z, rs, rs', va, vw, vc, va', vw', vc', rfl, _⟩ := h
    rfl
  obtain ⟨y, z, rs, rs', va, vw, vc, va', vw', vc', rfl, ⟨dx, t, l, ks, hy, ht, hK, hl⟩, ⟨dz, t', l', ks', hz, ht', hK', hl'⟩, ln, sa, sw, sc, q⟩ := h
  have cl := G.isY.cl
  refine ⟨_, (pss_one (ps_ret (pe_and (pe_callB (C8.call_isC G.isY) (by rfl) T.isi (by decide +kernel) (pa_cons (pv 1) (pa_cons (pe_glob (v := .ref CY) (by rfl) mY rfl) pa_nil))) (pe_and (pe_cmpR (op_eqTupB ED fnD GD (hr.mono (by decide)) bD pass0) (pe_fld (pv 0) rfl) (pe_fld (pv 1) rfl) (nomark _)) (pe_and (pe_cmpR op_eq (pe_fld (pv 0) rfl) (pe_fld (pv 1) rfl) (nomark _)) (pe_and (pe_cmpR op_eq (pe_fld (pv 0) rfl) (pe_fld (pv 1) rfl) (nomark _)) (pe_one (pe_cmpR op_eq (pe_fld (pv 0) rfl) (pe_fld (pv 1) rfl) (nomark _))))))))), ?_⟩
  refine ⟨_, rfl, z, dz, _, rfl, hz, true, rfl, iteT ?_⟩
  refine ⟨_, rfl, y, CY, dx, _, _, rfl, hy, cl, G.nK, fldY_k _ _ _ _ _, _, rfl, z, CY, dz, _, _, rfl, hz, cl, G.nK, fldY_k _ _ _ _ _, t, t', ks, ks', _, rfl, rfl, SqT.of ht, SqT.of ht', prs_of _ hK hK' ln, fun H1 e1 => ⟨_, rfl, ?_⟩⟩
  rw [zip_all ln]
  have hy1 := e1 _ _ hy
  have hz1 := e1 _ _ hz
  have q := q H1 e1
  cases c1 : ksEq rs rs' with
  | false => rw [c1] at q; exact iteF q
  | true =>
  rw [c1, Bool.true_and] at q
  refine iteT ⟨_, rfl, y, CY, dx, _, _, rfl, hy1, cl, G.nA, fldY_a _ _ _ _ _, _, rfl, z, CY, dz, _, _, rfl, hz1, cl, G.nA, fldY_a _ _ _ _ _, sa, _, rfl, ?_⟩
  cases c2 : decide (va = va') with
  | false => rw [c2] at q; exact iteF q
  | true =>
  rw [c2, Bool.true_and] at q
  refine iteT ⟨_, rfl, y, CY, dx, _, _, rfl, hy1, cl, G.nW, fldY_w _ _ _ _ _, _, rfl, z, CY, dz, _, _, rfl, hz1, cl, G.nW, fldY_w _ _ _ _ _, sw, _, rfl, ?_⟩
  cases c3 : decide (vw = vw') with
  | false => rw [c3] at q; exact iteF q
  | true =>
  rw [c3, Bool.true_and] at q
  exact iteT ⟨_, rfl, y, CY, dx, _, _, rfl, hy1, cl, G.nC, fldY_c _ _ _ _ _, _, rfl, z, CY, dz, _, _, rfl, hz1, cl, G.nC, fldY_c _ _ _ _ _, sc, q⟩

/-! value_or_kept -/
def keptV (v w : V) : V := if inB v (-1) (-1) = true then w else v
def spKept : Sp := fun vs H Q _ => ∃ (v w : V) (T : String), vs = [v, w] ∧ Kd H v T ∧ Q (keptV v w) H
theorem kd_int9 {H : Hp} {v : V} {T : String} (k : Kd H v T) : (∃ i, v = .int i ∧ T = "int") ∨ (∃ b1 b2, kitB T "int" = some b1 ∧ kitB T "bool" = some b2 ∧ (b1 && !b2) = false ∧ ∀ lo hi, inB v lo hi = false) := by
  cases k with
  | int i => exact .inl ⟨i, rfl, rfl⟩
  | non => exact .inr ⟨false, false, by decide +kernel, by decide +kernel, rfl, fun _ _ => rfl⟩
  | bl b => exact .inr ⟨true, true, by decide +kernel, by decide +kernel, rfl, fun _ _ => rfl⟩
  | str z => exact .inr ⟨false, false, by decide +kernel, by decide +kernel, rfl, fun _ _ => rfl⟩
  | lst e => exact .inr ⟨false, false, by decide +kernel, by decide +kernel, rfl, fun _ _ => rfl⟩
  | tup e => exact .inr ⟨false, false, by decide +kernel, by decide +kernel, rfl, fun _ _ => rfl⟩
  | dK e => exact .inr ⟨false, false, by decide +kernel, by decide +kernel, rfl, fun _ _ => rfl⟩
theorem scKept : FnScope ["value", "kept"] ["value", "kept"] (defScope sKept) := ⟨rfl, rfl, rfl, by decide +kernel, rfl, by decide +kernel, by decide +kernel⟩
theorem ok_kept {f fW : Addr} {fd fdW : FuncData} (F : Fun K "value_or_kept" "value_or_kept" sKept f fd) (GW : FnOk P w K mg base CX0 2 fW fdW ["value", "low", "high"] (spWithin K)) (bW : Binds K fdW ["value", "low", "high"] []) (kW : PySem.W.keepIn K (.ref fW) = true) (mW : mg "is_within" = some (.ref fW)) :
    FnOk P w K mg base CX0 3 f fd ["value", "kept"] spKept := by
  refine F.ok scKept (fun vs H Q E h => ?_) (fun cdv A outer s H vs Q E hr h => ?_)
  · obtain ⟨v, w, T, rfl, _⟩ := h
    rfl
  obtain ⟨v, w, T, rfl, kd, q⟩ := h
  refine ⟨_, (pss_one (ps_ret (pe_ifExp (pt_val (pe_call GW (hr.mono (by decide)) rfl mW kW bW .nil pass0 (pa_cons (pv 0) (pa_cons (pe_un un_neg (pe_int)) (pa_cons (pe_un un_neg (pe_int)) pa_nil))))) (pv 1) (pv 0)))), ?_⟩
  unfold keptV at q
  rcases kd_int9 kd with ⟨i, rfl, rfl⟩ | ⟨b1, b2, e1, e2, e3, no⟩
  · refine ⟨_, rfl, _, rfl, _, rfl, _, "int", true, false, _, _, rfl, (Kd.int (H := H) i).ty, by decide +kernel, by decide +kernel, (fun e => nomatch e), fun _ => ⟨i, rfl, _, rfl, ?_⟩⟩
    have e1 : inB (.int i) (-1) (-1) = (decide ((-1 : Int) ≤ i) && decide (i ≤ -1)) := rfl
    rw [e1] at q
    cases e : (decide ((-1 : Int) ≤ i) && decide (i ≤ -1)) with
    | true => rw [if_pos e] at q; exact iteT ⟨_, rfl, q⟩
    | false => rw [if_neg (by rw [e]; decide)] at q; exact iteF ⟨_, rfl, q⟩
  · rw [no, if_neg (by decide)] at q
    exact ⟨_, rfl, _, rfl, _, rfl, _, T, b1, b2, _, _, rfl, kd.ty, e1, e2, fun _ => ⟨_, rfl, iteF ⟨_, rfl, q⟩⟩, fun z => by rw [e3] at z; cases z⟩
/-! are_blocks -/
/-- what is handed as blocks: some: a tuple of these values -/
def BsAt (H : Hp) (v : V) : Option (List V) → Prop
  | some bs => ∃ t, v = .ref t ∧ H t = some (.tup bs) ∧ bs.length ≤ 10 ∧ ∀ b ∈ bs, AnyV H b
  | none => ∃ T, Kd H v T ∧ kitB T "tuple" = some false
def absB (ob : Option (List V)) (n : Nat) : Bool := match ob with
  | some bs => decide (bs.length = n) && bs.all fun b => inB b 1 3
  | none => false
def spAB : Sp := fun vs H Q _ => ∃ (v : V) (ob : Option (List V)) (n : Nat), vs = [v, .int (n : Int)] ∧ BsAt H v ob ∧ ∀ H', Same H H' → Q (.bl (absB ob n)) H'
theorem scAB : FnScope ["blocks", "count", "block"] ["blocks", "count"] (defScope sAB) := ⟨rfl, rfl, rfl, by decide +kernel, rfl, by decide +kernel, by decide +kernel⟩
theorem ok_ab {f fW : Addr} {fd fdW : FuncData} (F : Fun K "are_blocks" "are_blocks" sAB f fd) (B : Bl mg) (T : Txt K w mg CS CK it) (U : TxK K mg CS CD) (GW : FnOk P w K mg base CX0 2 fW fdW ["value", "low", "high"] (spWithin K)) (bW : Binds K fdW ["value", "low", "high"] []) (kW : PySem.W.keepIn K (.ref fW) = true) (mW : mg "is_within" = some (.ref fW)) :
    FnOk P w K mg base CX0 3 f fd ["blocks", "count"] spAB := by
  refine F.ok scAB (fun vs H Q E h => ?_) (fun cdv A outer s H vs Q E hr h => ?_)
  · obtain ⟨v, ob, n, rfl, _⟩ := h
    rfl
  obtain ⟨v, ob, n, rfl, hb, q⟩ := h
  have nd := scAB.nd
  obtain ⟨tB, gB⟩ := U.mB
  refine ⟨_, (pss_cons (ps_if (PW.pt (pw_or (pt_not (pt_val (pe_callB call_isi (by rfl) T.isi (by decide +kernel) (pa_cons (pv 0) (pa_cons (pe_bltn (v := .ty "tuple") (by rfl) B.tuple (by decide +kernel) rfl) pa_nil))))) (pw_or1 (pt_cmpR op_ne (pe_callB call_len_seq (by rfl) B.len PySem.boot_len (pa_cons (pv 0) pa_nil)) (pv 1) (nomark _))))) (pss_one (ps_ret (pe_bl))) pss_nil)
  (pss_one (ps_ret (pe_callB (cr_all rfl) (by rfl) T.all (by decide +kernel) (pa_cons (pe_lc (own := [("block", 2)]) (g := gName 2) (tt := tYes) rfl nd (pi_tup (pv 0)) (blkOk_by (own := [("block", 2)]) (N := ["blocks", "count", "block"]) (sc := defScope sAB) (by decide +kernel)) (fun _ _ _ _ _ => pg_name (i := 2) nd rfl (Or.inl rfl)) (fun _ _ _ _ _ => pts_nil) (fun _ _ _ _ _ => pe_call GW (hr.mono (by decide)) rfl mW kW bW .nil pass0 (pa_cons (pv 2) (pa_cons (pe_int) (pa_cons (pe_glob (v := .int 3) (by rfl) gB ⟨_, rfl⟩) pa_nil))))) pa_nil))))), ?_⟩
  cases ob with
  | none =>
    obtain ⟨T0, kd, kt⟩ := hb
    exact ⟨_, rfl, v, _, _, _, false, rfl, .ty "tuple", kd.ty, kit_ty kt, false, rfl, iteT (iteT (q H (Same.refl H)))⟩
  | some bs =>
  obtain ⟨t, rfl, ht, few, any⟩ := hb
  refine ⟨_, rfl, .ref t, _, _, _, true, rfl, .ty "tuple", .base (.tup ht), kit_ty (by decide +kernel), true, rfl, iteF ?_⟩
  refine ⟨_, rfl, t, _, rfl, .inr (SqT.of ht), _, rfl, rfl, _, rfl, ?_⟩
  have ed : (!decide (V.int ((bs.length : Nat) : Int) = V.int (n : Int))) = !decide (bs.length = n) := by
    rw [decide_eq_decide.mpr (show V.int ((bs.length : Nat) : Int) = V.int (n : Int) ↔ bs.length = n from ⟨fun e => by injection e with e; omega, fun e => by rw [e]⟩)]
  rw [ed]
  have z := q H (Same.refl H)
  unfold absB at q z
  dsimp only at q z
  cases el : decide (bs.length = n) with
  | false => rw [el] at z; exact iteT z
  | true =>
  rw [el] at q
  refine iteF ?_
  refine ⟨_, rfl, t, rfl, ⟨_, SqT.of ht⟩, fun D hD => ?_⟩
  refine lc_tup (K := K) (a := t) (xs := bs) (fun i H2 => H2 D = some (.lst (((bs.take i).map fun b => inB b 1 3).map V.bl)) ∧ Same H H2 ∧ i ≤ bs.length) ⟨upd_same, same_new hD _, Nat.zero_le _⟩ (fun i H2 _ z => SqT.of (z.2.1 _ _ ht)) ?_ ?_
  · rintro i b H2 hv ⟨h2, s2, _⟩
    have lt := (List.getElem?_eq_some_iff.mp hv).1
    obtain ⟨T0, kd⟩ := any b (List.mem_of_getElem? hv)
    refine ⟨rfl, ?_⟩
    unfold tYes
    dsimp only
    rw [if_pos rfl]
    have fin : ∃ acc, H2 D = some (.lst acc) ∧ acc.length < sizeLine ∧ (L2.upd H2 D (.lst (acc ++ [.bl (inB b 1 3)]))) D = some (.lst (((bs.take (i + 1)).map fun b => inB b 1 3).map V.bl)) ∧ Same H (L2.upd H2 D (.lst (acc ++ [.bl (inB b 1 3)]))) ∧ i + 1 ≤ bs.length := by
      refine ⟨_, h2, small1000 (by rw [List.length_map, List.length_map, List.length_take]; omega), ?_, fun c o e => ?_, lt⟩
      · rw [upd_same, List.take_add_one, hv]; simp
      · rw [upd_ne (ne_of_none e hD)]; exact s2 _ _ e
    have kd2 := kd.keep s2
    rcases kd_int9 kd with ⟨j, rfl, rfl⟩ | ⟨b1, b2, e1, e2, e3, no⟩
    · exact ⟨_, rfl, _, "int", true, false, _, _, rfl, (Kd.int (H := H2) j).ty, by decide +kernel, by decide +kernel, (fun e => nomatch e), fun _ => ⟨j, rfl, fin⟩⟩
    · rw [no] at fin
      exact ⟨_, rfl, _, T0, b1, b2, _, _, rfl, kd2.ty, e1, e2, fun _ => fin, fun z => by rw [e3] at z; cases z⟩
  rintro H2 ⟨h2, s2, _⟩
  rw [List.take_length] at h2
  refine ⟨D, _, rfl, SqL.of h2, ?_⟩
  have ea : (bs.map fun b => inB b 1 3).all id = bs.all fun b => inB b 1 3 := by rw [List.all_map]; rfl
  rw [ea]
  exact q H2 s2
end
end Tk
set_option maxRecDepth 100000
namespace L2
open PySem PySem.Spec PyProof.Rows
/-- a call of what may raise, where it doesn't -/
theorem passN {X : Cx} : Passes (L2.CX X.prog X.w) X E0 := fun _ _ _ _ _ _ _ h => by
  obtain ⟨_, _, _, _, _, _, _, _, _, _, _, _, h⟩ := h
  exact h.elim
theorem passNA {X : Cx} (σ : St) : PassesAt (L2.CX X.prog X.w) X σ E0 := fun _ _ _ _ _ _ h => by
  obtain ⟨_, _, _, _, _, _, _, _, _, _, _, _, h⟩ := h
  exact h.elim
end L2
namespace Tk
open PySem L2 StK
abbrev sSys : Stmt := top 42
/-- a row of a kind's values -/
def RowS (H : Hp) (v : V) (r : KR) : Prop := ∃ t b, v = .ref t ∧ H t = some (.tup [.str r.n, .ref b, .int r.b, .int r.m]) ∧ GoodT H b r.S
inductive RsS (H : Hp) : List V → List KR → Prop
  | nil : RsS H [] []
  | cons {v : V} {r : KR} {vs : List V} {rs : List KR} (h : RowS H v r) (t : RsS H vs rs) : RsS H (v :: vs) (r :: rs)
def KrOk (r : KR) : Prop := IsName r.n ∧ 1 ≤ r.b ∧ r.b ≤ 3 ∧ 1 ≤ r.m ∧ r.m ≤ 3
section
variable {H H' : Hp} {vs : List V} {rs : List KR}
theorem RowS.nl {v : V} {r : KR} (s : NL H H') (h : RowS H v r) : RowS H' v r := by
  obtain ⟨t, b, e, h1, h2⟩ := h
  exact ⟨t, b, e, s.tk _ _ h1, h2.nl s⟩
theorem RsS.len (h : RsS H vs rs) : vs.length = rs.length := by
  induction h with
  | nil => rfl
  | cons _ _ ih => rw [List.length_cons, List.length_cons, ih]
theorem RsS.nl (s : NL H H') (h : RsS H vs rs) : RsS H' vs rs := by
  induction h with
  | nil => exact .nil
  | cons h _ ih => exact .cons (h.nl s) ih
theorem RsS.at {v : V} : ∀ {vs : List V} {rs : List KR} {i : Nat}, RsS H vs rs → vs[i]? = some v → ∃ r, rs[i]? = some r ∧ RowS H v r
  | _, _, 0, .cons h _, q => ⟨_, rfl, Option.some.inj q ▸ h⟩
  | _, _, i + 1, .cons _ t, q => RsS.at (i := i) t q
theorem RsS.snoc {v : V} {r : KR} (h : RsS H vs rs) (g : RowS H v r) : RsS H (vs ++ [v]) (rs ++ [r]) := by
  induction h with
  | nil => exact .cons g .nil
  | cons h _ ih => exact .cons h ih
end
theorem KsAt.snoc {CS CD : Addr} {H : Hp} {v : V} {r : KR} {vs : List V} {rs : List KR} (h : KsAt CS CD H vs rs) (g : IsKind CS CD H v r) : KsAt CS CD H (vs ++ [v]) (rs ++ [r]) := by
  induction h with
  | nil => exact .cons g .nil
  | cons h _ ih => exact .cons h ih
theorem IsKind.nl {CS CD : Addr} {H H' : Hp} {v : V} {r : KR} (h : IsKind CS CD H v r) (s : NL H H') : IsKind CS CD H' v r := by
  obtain ⟨k, e, h⟩ := h
  exact ⟨k, e, h.nl s⟩
theorem KsAt.nl {CS CD : Addr} {H H' : Hp} {vs : List V} {rs : List KR} (h : KsAt CS CD H vs rs) (s : NL H H') : KsAt CS CD H' vs rs := by
  induction h with
  | nil => exact .nil
  | cons h _ ih => exact .cons (h.nl s) ih
theorem somes_inj' : ∀ {a b : List KR}, a.map some = b.map some → a = b
  | [], [], _ => rfl
  | [], _ :: _, e => by cases e
  | _ :: _, [], e => by cases e
  | x :: a, y :: b, e => by
    rw [List.map_cons, List.map_cons] at e
    injection e with e1 e2
    injection e1 with e1
    rw [e1, somes_inj' e2]
def spSys (CS CD CY : Addr) : Sp := fun vs H Q _ => ∃ (rl vl : Addr) (rvs : List V) (rs : List KR) (va vw vc : V), vs = [.ref rl, .ref vl] ∧ H rl = some (.lst rvs) ∧ RsS H rvs rs ∧ (rs.length = 1 ∨ rs.length = 2) ∧ (∀ r ∈ rs, KrOk r) ∧ H vl = some (.lst [va, vw, vc]) ∧ AnyV H va ∧ AnyV H vw ∧ AnyV H vc ∧
  yWhy (rs.map some) va vw vc = none ∧ ∀ (y : Addr) (H' : Hp), Same H H' → SysAt CS CD CY H' y rs va vw vc → Q (.ref y) H'
section
variable {P : Program} {w : World} {K : PySem.W.Frag} {mg : Str → Option Value} {base : Heap} {CS CK CD CY CBY KD it : Addr}
theorem scSys : FnScope ["_law_rows", "_law_values", "_law_kinds", "_law_row"] ["_law_rows", "_law_values"] (defScope sSys) := ⟨rfl, rfl, rfl, by decide +kernel, rfl, by decide +kernel, by decide +kernel⟩
theorem ok_sys {f fY fK : Addr} {fd fdK : FuncData} (F : Fun K "_law_system" "_law_system" sSys f fd) (B : Bl mg) (U : TxK K mg CS CD) (MY : Mk K CY fY) (mY : mg "System" = some (.ref CY)) (G3 : FnYK P w K mg base CS CD CY CBY fY ["ahead", "window", "crashes"] sel3)
    (MD : Mk K CD fK) (GK : FnOk P w K mg base CX0 12 fK fdK psD (spDInit CS CD)) (bK : KBn K fdK psD 3 ["block", "many"] (fun us ws => us ++ ws) (fun vs zs => vs ++ zs)) :
    FnOk P w K mg base CX0 14 f fd ["_law_rows", "_law_values"] (spSys CS CD CY) := by
  refine F.ok scSys (fun vs H Q E h => ?_) (fun cdv A outer s H vs Q E hr h => ?_)
  · obtain ⟨rl, vl, rvs, rs, va, vw, vc, rfl, _⟩ := h
    rfl
  obtain ⟨rl, vl, rvs, rs, va, vw, vc, rfl, hrl, hrs, len, oks, hvl, aa, aw, ac, good, q⟩ := h
  have nd := scSys.nd
  refine ⟨_, (pss_cons (ps_setLc (i := 2) (own := [("_law_row", 3)]) (g := gName 3) (tt := tYes) rfl nd rfl rfl (sw_true rfl rfl rfl (by decide +kernel)) (pi_list (pv 0)) (blkOk_by (own := [("_law_row", 3)]) (N := ["_law_rows", "_law_values", "_law_kinds", "_law_row"]) (sc := defScope sSys) (by decide +kernel)) (fun _ _ _ _ _ => pg_name (i := 3) nd rfl (Or.inl rfl)) (fun _ _ _ _ _ => pts_nil) (fun _ _ _ _ _ => pe_makeK MD GK (hr.mono (by decide)) rfl U.mgD bK pass0 (pa_cons (pe_ix (r := rIxT K) ix_tup (pv 3) (pe_int) (fun _ _ => rfl)) (pa_cons (pe_ix (r := rIxT K) ix_tup (pv 3) (pe_int) (fun _ _ => rfl)) pa_nil)) (pk_cons (pe_ix (r := rIxT K) ix_tup (pv 3) (pe_int) (fun _ _ => rfl)) (pk_cons (pe_ix (r := rIxT K) ix_tup (pv 3) (pe_int) (fun _ _ => rfl)) pk_nil))))
  (pss_cons (ps_if (pt_cmpR op_eq (pe_callB call_len_seq (by rfl) B.len PySem.boot_len (pa_cons (pv 2) pa_nil)) (pe_int) (nomark _)) (pss_one (ps_ret (StK.pe_makeRK MY G3 (hr.mono (by decide)) rfl mY (fun σ => passNA σ) (pa_cons (pe_ix ix_list (pv 2) (pe_int) (fun _ _ => rfl)) pa_nil) (pk_cons (pe_ix ix_list (pv 1) (pe_int) (fun _ _ => rfl)) (pk_cons (pe_ix ix_list (pv 1) (pe_int) (fun _ _ => rfl)) (pk_cons (pe_ix ix_list (pv 1) (pe_int) (fun _ _ => rfl)) pk_nil)))))) pss_nil)
  (pss_one (ps_ret (StK.pe_makeRK MY G3 (hr.mono (by decide)) rfl mY (fun σ => passNA σ) (pa_cons (pe_ix ix_list (pv 2) (pe_int) (fun _ _ => rfl)) (pa_cons (pe_ix ix_list (pv 2) (pe_int) (fun _ _ => rfl)) pa_nil)) (pk_cons (pe_ix ix_list (pv 1) (pe_int) (fun _ _ => rfl)) (pk_cons (pe_ix ix_list (pv 1) (pe_int) (fun _ _ => rfl)) (pk_cons (pe_ix ix_list (pv 1) (pe_int) (fun _ _ => rfl)) pk_nil)))))))), ?_⟩
  refine ⟨_, rfl, rl, rfl, ⟨_, SqL.of hrl⟩, fun D hD => ?_⟩
  refine lc_list (K := K) (a := rl) (xs := rvs) (fun i H2 => ∃ ks, H2 D = some (.lst ks) ∧ KsAt CS CD H2 ks (rs.take i) ∧ Same H H2 ∧ i ≤ rs.length) ⟨[], upd_same, .nil, same_new hD _, Nat.zero_le _⟩ (fun i H2 _ z => SqL.of (z.elim fun _ z => z.2.2.1 _ _ hrl)) ?_ ?_
  · rintro i v H2 hv ⟨ks, h2, hK, s2, hi⟩
    obtain ⟨r, er, t, b, rfl, ht, hb⟩ := hrs.at hv
    have ht2 := s2 _ _ ht
    have ro := oks r (List.mem_of_getElem? er)
    have li := (List.getElem?_eq_some_iff.mp er).1
    refine ⟨rfl, ?_⟩
    unfold tYes
    dsimp only
    rw [if_pos rfl]
    refine ⟨_, rfl, t, _, _, _, rfl, rfl, SqT.of ht2, rfl, _, rfl, t, _, _, _, rfl, rfl, SqT.of ht2, rfl, _, rfl, t, _, _, _, rfl, rfl, SqT.of ht2, rfl, _, rfl, t, _, _, _, rfl, rfl, SqT.of ht2, rfl, rfl, rfl, fun x dx nx ndx ne => ?_⟩
    have sx : Same H2 (L2.upd (L2.upd H2 dx (.own x)) x (.ins CD dx [])) := fun c o e => by rw [upd_ne (ne_of_none e nx), upd_ne (ne_of_none e ndx)]; exact e
    obtain ⟨⟨bxs, g1, g2⟩, g3, g4, g5⟩ := hb.nl (NL.same (s2.trans sx))
    refine ⟨x, dx, r.n, .ref b, r.S, r.b, r.m, rfl, upd_same, ro.1, .inr ⟨b, bxs, rfl, g1, g2, g3, g4, g5⟩, ro.2.1, ro.2.2.1, ro.2.2.2.1, ro.2.2.2.2, fun H3 hk kk => ⟨rfl, ?_⟩⟩
    have s3 : Same H2 H3 := fun c o e => kk _ _ (sx _ _ e) (ne_of_none e nx)
    have h3 := s3 _ _ h2
    have hKl := hK.len
    rw [List.length_take] at hKl
    have k3 : Kp D H3 (L2.upd H3 D (.lst (ks ++ [.ref x]))) := Kp.upd
    have nlD : NL H3 (L2.upd H3 D (.lst (ks ++ [.ref x]))) := NL.upd h3
    refine ⟨_, h3, small1000 (by omega), ks ++ [.ref x], upd_same, ?_, fun c o e => ?_, li⟩
    · rw [List.take_add_one, er]
      exact KsAt.snoc ((hK.keep s3).nl nlD) ⟨x, rfl, hk.nl nlD⟩
    · rw [upd_ne (ne_of_none e hD)]
      exact s3 _ _ (s2 _ _ e)
  rintro H2 ⟨ks, h2, hK, s2, _⟩
  rw [hrs.len, List.take_length] at hK
  have lk := hK.len
  have hO := OsAt.of hK
  have lim : ∀ r, some r ∈ rs.map some → 1 ≤ r.m ∧ r.m ≤ 3 := fun r hr => by
    obtain ⟨x, hx, e⟩ := List.mem_map.mp hr
    cases e
    exact (oks _ hx).2.2.2
  have hvl2 := s2 _ _ hvl
  have aa2 := aa.imp fun _ k => k.keep s2
  have aw2 := aw.imp fun _ k => k.keep s2
  have ac2 := ac.imp fun _ k => k.keep s2
  have fin : ∀ (x dx : Addr), H2 x = none → H2 dx = none → dx ≠ x → spYC CS CD CY CBY va vw vc (.ref x :: ks) (L2.upd (L2.upd H2 dx (.own x)) x (.ins CY dx [])) (fun v H3 => v = .non ∧ Q (.ref x) H3) E0 := by
    intro x dx nx ndx ne
    have s : Same H2 (L2.upd (L2.upd H2 dx (.own x)) x (.ins CY dx [])) := fun b o e => by
      rw [upd_ne (ne_of_none e nx), upd_ne (ne_of_none e ndx)]; exact e
    refine ⟨x, dx, ks, rs.map some, rfl, upd_same, hO.keep s, by rw [List.length_map]; omega, lim, aa2.imp fun _ k => k.keep s, aw2.imp fun _ k => k.keep s, ac2.imp fun _ k => k.keep s, fun z ez => (by rw [good] at ez; cases ez), fun rs' _ eo t l H' h1 h2' h3' k => ⟨rfl, ?_⟩⟩
    have e2 : Same H2 H' := fun b o e => k _ _ (s _ _ e) (ne_of_none e nx)
    exact q x H' (s2.trans e2) ⟨dx, t, l, ks, h1, h2', hK.keep e2, by rw [somes_inj' eo]; exact h3'⟩
  rcases len with l1 | l2
  · match ks, lk.trans l1, h2, fin with
    | [k0], _, h2, fin =>
      refine ⟨_, rfl, D, _, rfl, .inl (SqL.of h2), rfl, _, rfl, iteTb (show decide (V.int ((1 : Nat) : Int) = V.int 1) = true from by decide) ?_⟩
      exact ⟨_, rfl, D, _, _, _, rfl, rfl, SqL.of h2, rfl, _, rfl, vl, _, _, _, rfl, rfl, SqL.of hvl2, rfl, _, rfl, vl, _, _, _, rfl, rfl, SqL.of hvl2, rfl, _, rfl, vl, _, _, _, rfl, rfl, SqL.of hvl2, rfl, rfl, fun x dx nx ndx ne => fin x dx nx ndx ne⟩
  · match ks, lk.trans l2, h2, fin with
    | [k0, k1], _, h2, fin =>
      refine ⟨_, rfl, D, _, rfl, .inl (SqL.of h2), rfl, _, rfl, iteFb (show decide (V.int ((2 : Nat) : Int) = V.int 1) = false from by decide) ?_⟩
      exact ⟨_, rfl, D, _, _, _, rfl, rfl, SqL.of h2, rfl, _, rfl, D, _, _, _, rfl, rfl, SqL.of h2, rfl, _, rfl, vl, _, _, _, rfl, rfl, SqL.of hvl2, rfl, _, rfl, vl, _, _, _, rfl, rfl, SqL.of hvl2, rfl, _, rfl, vl, _, _, _, rfl, rfl, SqL.of hvl2, rfl, rfl, fun x dx nx ndx ne => fin x dx nx ndx ne⟩

/-! with_values -/
abbrev psWV : List Str := ["self", "ahead", "window", "crashes"]
def spWV (CS CD CY CBY : Addr) : Sp := fun vs H Q E => ∃ (y : Addr) (rs : List KR) (va vw vc a w c : V), vs = [.ref y, a, w, c] ∧ SysAt CS CD CY H y rs va vw vc ∧ rs.length ≤ 3 ∧ (∀ r ∈ rs, KrOk r) ∧ AnyV H va ∧ AnyV H vw ∧ AnyV H vc ∧ AnyV H a ∧ AnyV H w ∧ AnyV H c ∧
  (∀ z, yWhy (rs.map some) (keptV a va) (keptV w vw) (keptV c vc) = some z → ∀ (d : Addr) (H' : Hp), Same H H' → H d = none → H' d = some (.xd [("why", .str z)]) → E (.ref CBY) (some d) H') ∧
  (yWhy (rs.map some) (keptV a va) (keptV w vw) (keptV c vc) = none → ∀ (u : Addr) (H' : Hp), Same H H' → SysAt CS CD CY H' u rs (keptV a va) (keptV w vw) (keptV c vc) → Q (.ref u) H')
theorem kept_any {H : Hp} {v w : V} (h : AnyV H v) (g : AnyV H w) : AnyV H (keptV v w) := by
  unfold keptV
  split
  · exact g
  · exact h
/-- System(*ks, ..) of kinds that stand there -/
theorem yc_ks {CS CD CY CBY : Addr} {a wv c : V} {ks : List V} {rs : List KR} {H : Hp} {x dx : Addr} {Q : VK} {E : XK} (hK : KsAt CS CD H ks rs) (few : rs.length ≤ 3) (oks : ∀ r ∈ rs, KrOk r) (aa : AnyV H a) (aw : AnyV H wv) (ac : AnyV H c)
    (nx : H x = none) (ndx : H dx = none) (ne : dx ≠ x)
    (qx : ∀ z, yWhy (rs.map some) a wv c = some z → ∀ (d : Addr) (H' : Hp), Same H H' → H d = none → H' d = some (.xd [("why", .str z)]) → E (.ref CBY) (some d) H')
    (q : yWhy (rs.map some) a wv c = none → ∀ (H' : Hp), Same H H' → SysAt CS CD CY H' x rs a wv c → Q (.ref x) H') :
    spYC CS CD CY CBY a wv c (.ref x :: ks) (L2.upd (L2.upd H dx (.own x)) x (.ins CY dx [])) (fun v H3 => v = .non ∧ Q (.ref x) H3) E := by
  have s : Same H (L2.upd (L2.upd H dx (.own x)) x (.ins CY dx [])) := fun b o e => by
    rw [upd_ne (ne_of_none e nx), upd_ne (ne_of_none e ndx)]; exact e
  have lim : ∀ r, some r ∈ rs.map some → 1 ≤ r.m ∧ r.m ≤ 3 := fun r hr => by
    obtain ⟨x, hx, e⟩ := List.mem_map.mp hr
    cases e
    exact (oks _ hx).2.2.2
  refine ⟨x, dx, ks, rs.map some, rfl, upd_same, (OsAt.of hK).keep s, by rw [List.length_map]; omega, lim, aa.imp fun _ k => k.keep s, aw.imp fun _ k => k.keep s, ac.imp fun _ k => k.keep s, fun z ez d H' s' hd hx => qx z ez d H' (s.trans s') (s.free hd) hx, fun rs' ez eo t l H' h1 h2 h3 k => ⟨rfl, ?_⟩⟩
  have e2 : Same H H' := fun b o e => k _ _ (s _ _ e) (ne_of_none e nx)
  exact q ez H' e2 ⟨dx, t, l, ks, h1, h2, hK.keep e2, by rw [somes_inj' eo]; exact h3⟩
theorem scWV : FnScope ["self", "ahead", "window", "crashes", "kinds"] ["self", "ahead", "window", "crashes"] (defScope sYWv) := ⟨rfl, rfl, rfl, by decide +kernel, rfl, by decide +kernel, by decide +kernel⟩
theorem ok_wv {f fP fY : Addr} {fd fdP : FuncData} (F : FunD K "with_values" "System.with_values" (defArgs sYWv) (defBody sYWv) (defScope sYWv) [] [("ahead", .int (-1)), ("window", .int (-1)), ("crashes", .int (-1))] f fd) (B : Bl mg) (G : FY K CY)
    (GP : FnOk P w K mg base CX0 3 fP fdP ["value", "kept"] spKept) (bP : Binds K fdP ["value", "kept"] []) (kP : PySem.W.keepIn K (.ref fP) = true) (mP : mg "value_or_kept" = some (.ref fP))
    (MY : Mk K CY fY) (mY : mg "System" = some (.ref CY)) (G3 : FnYK P w K mg base CS CD CY CBY fY ["ahead", "window", "crashes"] sel3) :
    FnOk P w K mg base (L2.CX P w) 6 f fd psWV (spWV CS CD CY CBY) := by
  refine F.ok scWV (fun vs H Q E h => ?_) (fun cdv A outer s H vs Q E hr h => ?_)
  · obtain ⟨y, rs, va, vw, vc, a, w, c, rfl, _⟩ := h
    rfl
  obtain ⟨y, rs, va, vw, vc, a, wv, c, rfl, S, few, oks, ia, iw, ic, aa, aw, ac, qx, q⟩ := h
  have nd := scWV.nd
  obtain ⟨dx, t, l, ks, hy, ht, hK, hl⟩ := id S
  obtain ⟨Ta, ka⟩ := id aa
  obtain ⟨Tw, kw⟩ := id aw
  obtain ⟨Tc, kc⟩ := id ac
  refine ⟨_, (pss_cons (ps_set (i := 4) nd rfl (Or.inl rfl) (pe_fld (pv 0) rfl))
  (pss_cons (ps_set (i := 1) nd rfl (Or.inl rfl) (pe_call GP (hr.mono (by decide)) rfl mP kP bP .nil pass0 (pa_cons (pv 1) (pa_cons (pe_fld (pv 0) rfl) pa_nil))))
  (pss_cons (ps_set (i := 2) nd rfl (Or.inl rfl) (pe_call GP (hr.mono (by decide)) rfl mP kP bP .nil pass0 (pa_cons (pv 2) (pa_cons (pe_fld (pv 0) rfl) pa_nil))))
  (pss_cons (ps_set (i := 3) nd rfl (Or.inl rfl) (pe_call GP (hr.mono (by decide)) rfl mP kP bP .nil pass0 (pa_cons (pv 3) (pa_cons (pe_fld (pv 0) rfl) pa_nil))))
  (pss_one (ps_ret (StK.pe_makeRS MY G3 (hr.mono (by decide)) rfl mY (fun σ => passAt (takes_of rfl rfl rfl rfl) σ) (pv 4) (pk_cons (pv 1) (pk_cons (pv 2) (pk_cons (pv 3) pk_nil)))))))))), ?_⟩
  have cl := G.isY.cl
  refine ⟨_, rfl, y, CY, dx, _, _, rfl, hy, cl, G.nK, fldY_k _ _ _ _ _, ?_⟩
  refine ⟨_, rfl, _, rfl, y, CY, dx, _, _, rfl, hy, cl, G.nA, fldY_a _ _ _ _ _, a, va, Ta, rfl, ka, ?_⟩
  refine ⟨_, rfl, _, rfl, y, CY, dx, _, _, rfl, hy, cl, G.nW, fldY_w _ _ _ _ _, wv, vw, Tw, rfl, kw, ?_⟩
  refine ⟨_, rfl, _, rfl, y, CY, dx, _, _, rfl, hy, cl, G.nC, fldY_c _ _ _ _ _, c, vc, Tc, rfl, kc, ?_⟩
  exact ⟨_, rfl, _, rfl, _, rfl, _, rfl, rfl, t, ks, rfl, .inl (SqT.of ht), fun x d nx ndx ne => yc_ks hK few oks (kept_any aa ia) (kept_any aw iw) (kept_any ac ic) nx ndx ne (fun z ez d' H' s' hd hx => qx z ez d' H' s' hd hx) fun ez H' s' S' => q ez x H' s' S'⟩
end
end Tk
set_option maxRecDepth 100000
namespace Tk
open PySem L2 StK
def rbs (rs : List KR) (bs : List V) : List KR := List.zipWith (fun r b => { r with b := match b with | .int i => i | _ => 0 }) rs bs
theorem rbs_len {rs : List KR} {bs : List V} (h : bs.length = rs.length) : (rbs rs bs).length = rs.length := by
  unfold rbs
  rw [List.length_zipWith, h, Nat.min_self]
/-- the reason why such blocks are refused -/
def wbWhy (rs : List KR) (va vw vc : V) (ob : Option (List V)) : Option Str :=
  if absB ob rs.length = true then yWhy ((rbs rs (ob.getD [])).map some) va vw vc else some "blocks"
def spWB (CS CD CY CBY : Addr) : Sp := fun vs H Q E => ∃ (y : Addr) (v : V) (ob : Option (List V)) (rs : List KR) (va vw vc : V), vs = [.ref y, v] ∧ SysAt CS CD CY H y rs va vw vc ∧ BsAt H v ob ∧ rs.length ≤ 3 ∧ (∀ r ∈ rs, KrOk r) ∧ AnyV H va ∧ AnyV H vw ∧ AnyV H vc ∧
  (∀ z, wbWhy rs va vw vc ob = some z → ∀ (d : Addr) (H' : Hp), Same H H' → H d = none → H' d = some (.xd [("why", .str z)]) → E (.ref CBY) (some d) H') ∧
  (wbWhy rs va vw vc ob = none → ∀ (u : Addr) (H' : Hp), Same H H' → SysAt CS CD CY H' u (rbs rs (ob.getD [])) va vw vc → Q (.ref u) H')
theorem rbs_snoc {rs : List KR} {bs : List V} {i : Nat} {r : KR} {j : Int} (er : rs[i]? = some r) (eb : bs[i]? = some (.int j)) : (rbs rs bs).take (i + 1) = (rbs rs bs).take i ++ [{ r with b := j }] := by
  rw [List.take_add_one]
  unfold rbs
  rw [List.getElem?_zipWith, er, eb]
  rfl
theorem scWB : FnScope ["self", "blocks", "kinds", "kind", "block"] ["self", "blocks"] (defScope sYWb) := ⟨rfl, rfl, rfl, by decide +kernel, rfl, by decide +kernel, by decide +kernel⟩
section
variable {P : Program} {w : World} {K : PySem.W.Frag} {mg : Str → Option Value} {base : Heap} {CS CK CD CY CBY KD it : Addr}
theorem ok_wb {f fA fY fK fX : Addr} {fd fdA fdK fdX : FuncData} (F : Fun K "with_blocks" "System.with_blocks" sYWb f fd) (B : Bl mg) (U : TxK K mg CS CD) (G : FY K CY) (mz : mg "zip" = none)
    (GA : FnOk P w K mg base CX0 3 fA fdA ["blocks", "count"] spAB) (bA : Binds K fdA ["blocks", "count"] []) (kA : PySem.W.keepIn K (.ref fA) = true) (mA : mg "are_blocks" = some (.ref fA))
    (TB : Ecl K mg "BadSystem" "why" CBY fX) (GX : FnOk P w K mg base CX0 1 fX fdX ["self", "why"] (spEI CBY "why")) (bX : Binds K fdX ["self", "why"] [])
    (MY : Mk K CY fY) (mY : mg "System" = some (.ref CY)) (G3 : FnYK P w K mg base CS CD CY CBY fY ["ahead", "window", "crashes"] sel3)
    (MD : Mk K CD fK) (GK : FnOk P w K mg base CX0 12 fK fdK psD (spDInit CS CD)) (bK : KBn K fdK psD 3 ["block", "many"] (fun us ws => us ++ ws) (fun vs zs => vs ++ zs)) :
    FnOk P w K mg base (L2.CX P w) 14 f fd ["self", "blocks"] (spWB CS CD CY CBY) := by
  refine F.okX scWB (fun vs H Q E h => ?_) (fun cdv A outer s H vs Q E hr h => ?_)
  · obtain ⟨y, v, ob, rs, va, vw, vc, rfl, _⟩ := h
    rfl
  obtain ⟨y, v, ob, rs, va, vw, vc, rfl, S, hb, few, oks, ia, iw, ic, qx, q⟩ := h
  have nd := scWB.nd
  obtain ⟨dx, t, l, ks, hy, ht, hK, hl⟩ := id S
  refine ⟨_, (pss_cons (ps_if (pt_not (pt_val (pe_call GA (hr.mono (by decide)) rfl mA kA bA .nil pass0 (pa_cons (pv 1) (pa_cons (pe_callB call_len_seq (by rfl) B.len PySem.boot_len (pa_cons (pe_fld (pv 0) rfl) pa_nil)) pa_nil))))) (pss_one (ps_raise1 rfl (takes_of rfl rfl rfl rfl) TB GX (hr.mono (by decide)) bX rfl (pa_cons pe_str pa_nil))) pss_nil)
  (pss_cons (ps_setLc (i := 2) (own := [("kind", 3), ("block", 4)]) (g := gTup K 2 (gCons (gName 3) (gCons (gName 4) gNil))) (tt := tYes) rfl nd rfl rfl (sw_true rfl rfl rfl (by decide +kernel)) (RZ.pi_zipA (by rfl) mz (pa_cons (pe_fld (pv 0) rfl) (pa_cons (pv 1) pa_nil))) (blkOk_by (own := [("kind", 3), ("block", 4)]) (N := ["self", "blocks", "kinds", "kind", "block"]) (sc := defScope sYWb) (by decide +kernel)) (fun _ _ _ _ _ => pg_tup rfl (pgs_cons (pg_name (i := 3) nd rfl (Or.inl rfl)) (pgs_cons (pg_name (i := 4) nd rfl (Or.inl rfl)) pgs_nil))) (fun _ _ _ _ _ => pts_nil) (fun _ _ _ _ _ => pe_makeK MD GK (hr.mono (by decide)) rfl U.mgD bK pass0 (pa_cons (pe_fldF (K := K) rfl (pv 3) rfl) (pa_cons (pe_fldF (K := K) rfl (pv 3) rfl) pa_nil)) (pk_cons (pv 4) (pk_cons (pe_fldF (K := K) rfl (pv 3) rfl) pk_nil))))
  (pss_one (ps_ret (StK.pe_makeRS MY G3 (hr.mono (by decide)) rfl mY (fun σ => passAt (takes_of rfl rfl rfl rfl) σ) (pv 2) (pk_cons (pe_fld (pv 0) rfl) (pk_cons (pe_fld (pv 0) rfl) (pk_cons (pe_fld (pv 0) rfl) pk_nil)))))))), ?_⟩
  have cl := G.isY.cl
  have lk := hK.len
  have lk' : ((ks.length : Nat) : Int) = ((rs.length : Nat) : Int) := by rw [lk]
  refine ⟨_, rfl, _, rfl, y, CY, dx, _, _, rfl, hy, cl, G.nK, fldY_k _ _ _ _ _, t, _, rfl, .inr (SqT.of ht), v, ob, rs.length, (by rw [lk']; rfl), hb, fun H1 s1 => ⟨_, rfl, ?_⟩⟩
  unfold wbWhy at q qx
  cases ea : absB ob rs.length with
  | false =>
    rw [if_neg (by rw [ea]; decide)] at qx
    exact iteT (made1 fun d hd => qx _ rfl d _ (s1.trans (same_new hd _)) (s1.free hd) upd_same)
  | true =>
  rw [if_pos ea] at q qx
  refine iteF ?_
  cases ob with
  | none => cases ea
  | some bs =>
  obtain ⟨u, rfl, hu, _, any⟩ := hb
  unfold absB at ea
  dsimp only at ea
  rw [Bool.and_eq_true] at ea
  have lb : bs.length = rs.length := of_decide_eq_true ea.1
  have whole : ∀ b ∈ bs, ∃ i, b = .int i ∧ 1 ≤ i ∧ i ≤ 3 := fun b hb => by
    have z := (List.all_eq_true.mp ea.2) b hb
    cases b with
    | int i =>
      have z' : (decide (1 ≤ i) && decide (i ≤ 3)) = true := z
      rw [Bool.and_eq_true] at z'
      exact ⟨i, rfl, of_decide_eq_true z'.1, of_decide_eq_true z'.2⟩
    | _ => cases z
  show _
  dsimp only [Option.getD] at q qx
  have hy1 := s1 _ _ hy
  have ht1 := s1 _ _ ht
  have hu1 := s1 _ _ hu
  have hK1 := hK.keep s1
  have lr := rbs_len (rs := rs) (bs := bs) lb
  refine ⟨_, rfl, y, CY, dx, _, _, rfl, hy1, cl, G.nK, fldY_k _ _ _ _ _, _, rfl, t, u, ks, bs, rfl, .inr ⟨SqT.of ht1, SqT.of hu1, fun D hD => ?_⟩⟩
  refine lc_it (walk_zipT (K := K) (a := t) (b := u) (xs := ks) (ys := bs) (n := rs.length) (by rw [lk, lb, Nat.min_self])) (fun i H2 => ∃ ks', H2 D = some (.lst ks') ∧ KsAt CS CD H2 ks' ((rbs rs bs).take i) ∧ Same H1 H2) ⟨[], upd_same, .nil, same_new hD _⟩ (fun i H2 _ z => z.elim fun _ z => ⟨SqT.of (z.2.2 _ _ ht1), SqT.of (z.2.2 _ _ hu1)⟩) ?_ ?_
  · rintro i x0 H2 H3 hi ⟨ks', h2, hK2, s2⟩ ⟨T, x', y', rfl, hT, rfl, ex, ey⟩
    obtain ⟨r, er, k, rfl, hk⟩ := (hK1.keep s2).at ex
    obtain ⟨dk, xx, tt, hki, hsc⟩ := hk.keep (same_new hT (.tup [V.ref k, y']))
    obtain ⟨j, rfl, j1, j3⟩ := whole y' (List.mem_of_getElem? ey)
    have ro := oks r (List.mem_of_getElem? er)
    have sT := same_new hT (.tup [V.ref k, V.int j])
    refine ⟨T, _, rfl, SqT.of upd_same, rfl, _, _, rfl, _, _, rfl, rfl, rfl, ?_⟩
    unfold tYes
    dsimp only
    rw [if_pos rfl]
    have cD := U.isD.cl
    refine ⟨_, rfl, k, CD, dk, _, _, rfl, hki, cD, U.nN, fldD_n _ _ _ _, _, rfl, k, CD, dk, _, _, rfl, hki, cD, U.nS, fldD_s _ _ _ _, _, rfl, _, rfl, k, CD, dk, _, _, rfl, hki, cD, U.nM, fldD_m _ _ _ _, rfl, rfl, fun x dx nx ndx ne => ?_⟩
    have sx : Same (L2.upd H2 T (.tup [V.ref k, V.int j])) (L2.upd (L2.upd (L2.upd H2 T (.tup [V.ref k, V.int j])) dx (.own x)) x (.ins CD dx [])) := fun c o e => by rw [upd_ne (ne_of_none e nx), upd_ne (ne_of_none e ndx)]; exact e
    refine ⟨x, dx, r.n, .ref xx, r.S, j, r.m, rfl, upd_same, ro.1, .inl ⟨xx, tt, rfl, hsc.keep sx⟩, j1, j3, ro.2.2.2.1, ro.2.2.2.2, fun H4 hk4 kk => ⟨rfl, ?_⟩⟩
    have s4 : Same H2 H4 := fun c o e => kk _ _ (sx _ _ (sT _ _ e)) (ne_of_none (sT _ _ e) nx)
    have h4 := s4 _ _ h2
    have hKl := hK2.len
    rw [List.length_take] at hKl
    have nlD : NL H4 (L2.upd H4 D (.lst (ks' ++ [.ref x]))) := NL.upd h4
    refine ⟨_, h4, small1000 (by omega), ks' ++ [.ref x], upd_same, ?_, fun c o e => ?_⟩
    · rw [rbs_snoc er ey]
      exact KsAt.snoc ((hK2.keep s4).nl nlD) ⟨x, rfl, hk4.nl nlD⟩
    · rw [upd_ne (ne_of_none e hD)]
      exact s4 _ _ (s2 _ _ e)
  rintro H2 ⟨ks', h2, hK2, s2⟩
  rw [← lr, List.take_length] at hK2
  have s02 := s1.trans s2
  have hy2 := s02 _ _ hy
  have oks' : ∀ r ∈ rbs rs bs, KrOk r := fun r hr => by
    unfold rbs at hr
    obtain ⟨i, hi⟩ := List.getElem?_of_mem hr
    rw [List.getElem?_zipWith] at hi
    cases er : rs[i]? with
    | none => rw [er] at hi; simp at hi
    | some r0 =>
      cases eb : bs[i]? with
      | none => rw [er, eb] at hi; simp at hi
      | some b0 =>
        rw [er, eb] at hi
        obtain ⟨j, rfl, j1, j3⟩ := whole b0 (List.mem_of_getElem? eb)
        have ro := oks r0 (List.mem_of_getElem? er)
        have e : ({ r0 with b := j } : KR) = r := Option.some.inj hi
        rw [← e]
        exact ⟨ro.1, j1, j3, ro.2.2.2⟩
  exact ⟨_, rfl, _, rfl, y, CY, dx, _, _, rfl, hy2, cl, G.nA, fldY_a _ _ _ _ _, _, rfl, y, CY, dx, _, _, rfl, hy2, cl, G.nW, fldY_w _ _ _ _ _, _, rfl, y, CY, dx, _, _, rfl, hy2, cl, G.nC, fldY_c _ _ _ _ _, rfl, D, ks', rfl, .inr (SqL.of h2), fun x d nx ndx ne => yc_ks hK2 (by omega) oks' (ia.imp fun _ k => k.keep s02) (iw.imp fun _ k => k.keep s02) (ic.imp fun _ k => k.keep s02) nx ndx ne (fun z ez d' H' s' hd hx => qx z ez d' H' (s02.trans s') (s02.free hd) hx) fun ez H' s' S' => q ez x H' (s02.trans s') S'⟩
end
end Tk
set_option maxRecDepth 100000
namespace Tk
open PySem L2 StK
abbrev sInteger : Stmt := top 45
abbrev sChd : Stmt := top 43
abbrev sTold9 : Stmt := top 44


def spInteger : Sp := fun vs H Q _ => ∃ (v : V) (T : String) (lo hi : Int), vs = [v, .int lo, .int hi] ∧ Kd H v T ∧ Q (.bl (inB v lo hi)) H
/-- what with_values is handed -/
def gvA (left : Int) (g : V) : V := if left = 0 ∨ left = 2 then g else .int (-1)
def gvW (left : Int) (g : V) : V := if left = 0 ∨ left = 1 then g else .int (-1)
def spChd (CS CD CY CBY : Addr) : Sp := fun vs H Q E => ∃ (y gl : Addr) (left : Int) (rs : List KR) (va vw vc a w c : V), vs = [.ref y, .ref gl, .int left] ∧ SysAt CS CD CY H y rs va vw vc ∧ rs.length ≤ 3 ∧ (∀ r ∈ rs, KrOk r) ∧ AnyV H va ∧ AnyV H vw ∧ AnyV H vc ∧ H gl = some (.lst [a, w, c]) ∧ AnyV H a ∧ AnyV H w ∧ AnyV H c ∧
  (∀ z, yWhy (rs.map some) (keptV (gvA left a) va) (keptV (gvW left w) vw) (keptV (gvA left c) vc) = some z → ∀ (d : Addr) (H' : Hp), Same H H' → H d = none → H' d = some (.xd [("why", .str z)]) → E (.ref CBY) (some d) H') ∧
  (yWhy (rs.map some) (keptV (gvA left a) va) (keptV (gvW left w) vw) (keptV (gvA left c) vc) = none → ∀ (u : Addr) (H' : Hp), Same H H' → SysAt CS CD CY H' u rs (keptV (gvA left a) va) (keptV (gvW left w) vw) (keptV (gvA left c) vc) → Q (.ref u) H')
theorem scChd : FnScope ["_law_system_here", "_law_given", "_law_left"] ["_law_system_here", "_law_given", "_law_left"] (defScope sChd) := ⟨rfl, rfl, rfl, by decide +kernel, rfl, by decide +kernel, by decide +kernel⟩
section
variable {P : Program} {w : World} {K : PySem.W.Frag} {mg : Str → Option Value} {base : Heap} {CS CK CD CY CBY CBK CT KD it : Addr}
theorem scIt : FnScope ["_law_value_here", "_law_least", "_law_most"] ["_law_value_here", "_law_least", "_law_most"] (defScope sInteger) := ⟨rfl, rfl, rfl, by decide +kernel, rfl, by decide +kernel, by decide +kernel⟩
theorem ok_integer {f : Addr} {fd : FuncData} (F : Fun K "_law_integer" "_law_integer" sInteger f fd) (B : Bl mg) (T : Txt K w mg CS CK it) : FnOk P w K mg base CX0 1 f fd ["_law_value_here", "_law_least", "_law_most"] spInteger := by
  refine F.ok scIt (fun vs H Q E h => ?_) (fun cdv A outer s H vs Q E hr h => ?_)
  · obtain ⟨v, T', lo, hi, rfl, _⟩ := h
    rfl
  obtain ⟨v, T', lo, hi, rfl, k, q⟩ := h
  obtain ⟨b1, b2, k1, k2, eb⟩ := k.intB
  refine ⟨_, pss_one (ps_ret (pe_and (pe_callB call_isi (by rfl) T.isi (by decide +kernel) (pa_cons (pv 0) (pa_cons (pe_bltn (v := .ty "int") (by rfl) B.int (by decide +kernel) rfl) pa_nil)))
    (pe_and (pe_not (pe_callB call_isi (by rfl) T.isi (by decide +kernel) (pa_cons (pv 0) (pa_cons (pe_bltn (v := .ty "bool") (by rfl) T.bool (by decide +kernel) rfl) pa_nil)))) (pe_one (pe_chain op_le op_le (pv 1) (pv 0) (pv 2)))))), ?_⟩
  refine ⟨_, rfl, v, _, _, _, b1, rfl, .ty "int", k.ty, kit_ty k1, b1, rfl, ?_⟩
  cases b1 with
  | false => rw [inB_no (v := v) (by rw [← eb]; rfl)] at q; exact iteF q
  | true =>
  refine iteT ⟨_, rfl, v, _, _, _, b2, rfl, .ty "bool", k.ty, kit_ty k2, _, rfl, _, rfl, ?_⟩
  cases b2 with
  | true => rw [inB_no (v := v) (by rw [← eb]; rfl)] at q; exact iteFb rfl q
  | false =>
  obtain ⟨i, rfl⟩ := intB_int (v := v) (by rw [← eb]; rfl)
  have q' : Q (.bl (decide (lo ≤ i) && decide (i ≤ hi))) H := q
  refine iteTb rfl ⟨_, rfl, _, rfl, _, _, rfl, rfl, _, rfl, ?_⟩
  by_cases c : lo ≤ i
  · rw [decide_eq_true c, Bool.true_and] at q'
    exact iteTb (decide_eq_true c) ⟨_, rfl, _, _, rfl, rfl, q'⟩
  · rw [decide_eq_false c, Bool.false_and] at q'
    exact iteFb (decide_eq_false c) q'
theorem any_int {H : Hp} (i : Int) : AnyV H (.int i) := ⟨_, .int i⟩
theorem ok_chd {f fV : Addr} {fd fdV : FuncData} {g0 g1 g2 g3 : List Value → List Value → List Value} (F : Fun K "_law_changed" "_law_changed" sChd f fd) (G : FY K CY)
    (MV : Meth K CY "with_values" fV) (GV : FnOk P w K mg base (L2.CX P w) 6 fV fdV psWV (spWV CS CD CY CBY))
    (b0 : KBn K fdV psWV 1 ["ahead", "window", "crashes"] g0 (fun vs zs => vs ++ zs)) (b1 : KBn K fdV psWV 1 ["window"] g1 (fun vs zs => vs ++ (([.int (-1), .int (-1)] : List V).take 1 ++ zs ++ ([.int (-1), .int (-1)] : List V).drop 1)))
    (b2 : KBn K fdV psWV 1 ["crashes", "ahead"] g2 (fun vs zs => vs ++ (zs.drop 1 ++ [.int (-1)] ++ zs.take 1))) (b3 : KBn K fdV psWV 1 [] g3 (fun vs zs => vs ++ [.int (-1), .int (-1), .int (-1)])) :
    FnOk P w K mg base (L2.CX P w) 7 f fd ["_law_system_here", "_law_given", "_law_left"] (spChd CS CD CY CBY) := by
  refine F.okX scChd (fun vs H Q E h => ?_) (fun cdv A outer s H vs Q E hr h => ?_)
  · obtain ⟨y, gl, left, rs, va, vw, vc, a, w, c, rfl, _⟩ := h
    rfl
  obtain ⟨y, gl, left, rs, va, vw, vc, a, wv, c, rfl, S, few, oks, ia, iw, ic, hg, aa, aw, ac, qx, q⟩ := h
  have nd := scChd.nd
  obtain ⟨dx, t, l, ks, hy, _⟩ := id S
  refine ⟨_, (pss_cons (ps_if (pt_cmpR op_eq (pv 2) (pe_int) (nomark _)) (pss_one (ps_ret (pe_methN (pv 0) G.isY.cl MV GV (hr.mono (by decide)) b0 (fun σ => passAt (takes_of rfl rfl rfl rfl) σ) (pk_cons (pe_ix ix_list (pv 1) (pe_int) (fun _ _ => rfl)) (pk_cons (pe_ix ix_list (pv 1) (pe_int) (fun _ _ => rfl)) (pk_cons (pe_ix ix_list (pv 1) (pe_int) (fun _ _ => rfl)) pk_nil)))))) pss_nil)
  (pss_cons (ps_if (pt_cmpR op_eq (pv 2) (pe_int) (nomark _)) (pss_one (ps_ret (pe_methN (pv 0) G.isY.cl MV GV (hr.mono (by decide)) b1 (fun σ => passAt (takes_of rfl rfl rfl rfl) σ) (pk_cons (pe_ix ix_list (pv 1) (pe_int) (fun _ _ => rfl)) pk_nil)))) pss_nil)
  (pss_cons (ps_if (pt_cmpR op_eq (pv 2) (pe_int) (nomark _)) (pss_one (ps_ret (pe_methN (pv 0) G.isY.cl MV GV (hr.mono (by decide)) b2 (fun σ => passAt (takes_of rfl rfl rfl rfl) σ) (pk_cons (pe_ix ix_list (pv 1) (pe_int) (fun _ _ => rfl)) (pk_cons (pe_ix ix_list (pv 1) (pe_int) (fun _ _ => rfl)) pk_nil))))) pss_nil)
  (pss_one (ps_ret (pe_methN (pv 0) G.isY.cl MV GV (hr.mono (by decide)) b3 (fun σ => passAt (takes_of rfl rfl rfl rfl) σ) pk_nil)))))), ?_⟩
  have IX : ∀ (i : Int) (v : V), atI [a, wv, c] i = some v → True := fun _ _ _ => trivial
  unfold gvA gvW at q qx
  refine ⟨_, rfl, rfl, _, rfl, ite2 (fun e0 => ?_) (fun e0 => ?_)⟩
  · have e : left = 0 := by have := of_decide_eq_true e0; injection this
    rw [if_pos (.inl e), if_pos (.inl e), if_pos (.inl e)] at q qx
    exact ⟨_, rfl, y, dx, _, rfl, hy, rfl, _, rfl, gl, _, _, _, rfl, rfl, SqL.of hg, rfl, _, rfl, gl, _, _, _, rfl, rfl, SqL.of hg, rfl, _, rfl, gl, _, _, _, rfl, rfl, SqL.of hg, rfl, rfl, y, rs, va, vw, vc, a, wv, c, rfl, S, few, oks, ia, iw, ic, aa, aw, ac, qx, q⟩
  have n0 : left ≠ 0 := fun e => e0 (decide_eq_true (by rw [e]))
  refine ⟨_, rfl, rfl, _, rfl, ite2 (fun e1 => ?_) (fun e1 => ?_)⟩
  · have e : left = 1 := by have := of_decide_eq_true e1; injection this
    rw [if_neg (by omega), if_pos (.inr e), if_neg (by omega)] at q qx
    exact ⟨_, rfl, y, dx, _, rfl, hy, rfl, _, rfl, gl, _, _, _, rfl, rfl, SqL.of hg, rfl, rfl, y, rs, va, vw, vc, .int (-1), wv, .int (-1), rfl, S, few, oks, ia, iw, ic, any_int _, aw, any_int _, qx, q⟩
  have n1 : left ≠ 1 := fun e => e1 (decide_eq_true (by rw [e]))
  refine ⟨_, rfl, rfl, _, rfl, ite2 (fun e2 => ?_) (fun e2 => ?_)⟩
  · have e : left = 2 := by have := of_decide_eq_true e2; injection this
    rw [if_pos (.inr e), if_neg (by omega), if_pos (.inr e)] at q qx
    exact ⟨_, rfl, y, dx, _, rfl, hy, rfl, _, rfl, gl, _, _, _, rfl, rfl, SqL.of hg, rfl, _, rfl, gl, _, _, _, rfl, rfl, SqL.of hg, rfl, rfl, y, rs, va, vw, vc, a, .int (-1), c, rfl, S, few, oks, ia, iw, ic, aa, any_int _, ac, qx, q⟩
  have n2 : left ≠ 2 := fun e => e2 (decide_eq_true (by rw [e]))
  rw [if_neg (by omega), if_neg (by omega), if_neg (by omega)] at q qx
  exact ⟨_, rfl, y, dx, _, rfl, hy, rfl, rfl, y, rs, va, vw, vc, .int (-1), .int (-1), .int (-1), rfl, S, few, oks, ia, iw, ic, any_int _, any_int _, any_int _, qx, q⟩
/-! told -/
def spTo9 (CS CD CY : Addr) : Sp := fun vs H Q _ => ∃ (y gl : Addr) (left : Int) (bv : V) (rs rs' : List KR) (va vw vc a' w' c' : V) (why : Option Str), vs = [.ref y, .ref gl, .int left, bv] ∧ SysAt CS CD CY H y rs va vw vc ∧ rs.length ≤ 3 ∧ (∀ r ∈ rs, KrOk r) ∧ AnyV H va ∧ AnyV H vw ∧ AnyV H vc ∧
  ((∃ a w c, bv = .non ∧ H gl = some (.lst [a, w, c]) ∧ AnyV H a ∧ AnyV H w ∧ AnyV H c ∧ rs' = rs ∧ a' = keptV (gvA left a) va ∧ w' = keptV (gvW left w) vw ∧ c' = keptV (gvA left c) vc ∧ why = yWhy (rs.map some) a' w' c') ∨
   (∃ bt v ob, bv = .ref bt ∧ H bt = some (.tup [v]) ∧ BsAt H v ob ∧ rs' = rbs rs (ob.getD []) ∧ a' = va ∧ w' = vw ∧ c' = vc ∧ why = wbWhy rs va vw vc ob)) ∧
  (∀ z, why = some z → ∀ (u : Addr) (H' : Hp), Same H H' → H' u = some (.tup [.str "refused", .str z]) → Q (.ref u) H') ∧
  (why = none → ∀ (u y' : Addr) (H' : Hp), Same H H' → H' u = some (.tup [.str "made", .ref y']) → SysAt CS CD CY H' y' rs' a' w' c' → Q (.ref u) H')
theorem scTold9 : FnScope ["_law_system_here", "_law_given", "_law_left", "_law_blocks", "_law_made", "e"] ["_law_system_here", "_law_given", "_law_left", "_law_blocks"] (defScope sTold9) := ⟨rfl, rfl, rfl, by decide +kernel, rfl, by decide +kernel, by decide +kernel⟩
theorem ok_told9 {f fC fB fX : Addr} {fd fdC fdB : FuncData} (F : Fun K "_law_told" "_law_told" sTold9 f fd) (T : Txt K w mg CS CK it) (G : FY K CY) (TB : Ecl K mg "BadSystem" "why" CBY fX)
    (mK : mg "BadKind" = some (.ref CBK)) (mT : mg "TakeError" = some (.ref CT)) (k1 : PySem.W.kitOne K (.ref CBY) (.ref CBK) = some false) (k2 : PySem.W.kitOne K (.ref CBY) (.ref CT) = some true)
    (GC : FnOk P w K mg base (L2.CX P w) 7 fC fdC ["_law_system_here", "_law_given", "_law_left"] (spChd CS CD CY CBY)) (bC : Binds K fdC ["_law_system_here", "_law_given", "_law_left"] []) (kC : PySem.W.keepIn K (.ref fC) = true) (mC : mg "_law_changed" = some (.ref fC))
    (MB : Meth K CY "with_blocks" fB) (GB : FnOk P w K mg base (L2.CX P w) 14 fB fdB ["self", "blocks"] (spWB CS CD CY CBY)) (bB : Binds K fdB ["self", "blocks"] []) :
    FnOk P w K mg base CX0 16 f fd ["_law_system_here", "_law_given", "_law_left", "_law_blocks"] (spTo9 CS CD CY) := by
  refine F.ok scTold9 (fun vs H Q E h => ?_) (fun cdv A outer s H vs Q E hr h => ?_)
  · obtain ⟨y, gl, left, bv, rs, rs', va, vw, vc, a', w', c', why, rfl, _⟩ := h
    rfl
  obtain ⟨y, gl, left, bv, rs, rs', va, vw, vc, a', w', c', why, rfl, S, few, oks, ia, iw, ic, alt, qx, q⟩ := h
  have nd := scTold9.nd
  obtain ⟨dx, t, l, ks, hy, _⟩ := id S
  refine ⟨_, (pss_cons (ps_try_as (i := 5) rfl rfl nd rfl rfl ⟨rfl, by decide, .inl TB.gC⟩ takes0
 (fun W pn xe tk _ => (pss_one (ps_if (pt_cmpR op_notN (pv 3) (pe_non) (nomark _)) (pss_one (ps_set (i := 4) nd rfl (Or.inl rfl) (pe_methXS (pv 0) G.isY.cl MB GB (hr.mono (by decide)) bB (fun σ => passAt tk σ) (pa_cons (pe_ix (r := rIxT K) ix_tup (pv 3) pe_int (fun _ _ => rfl)) pa_nil)))) (pss_one (ps_set (i := 4) nd rfl (Or.inl rfl) (pe_callS GC (hr.mono (by decide)) rfl mC kC bC (fun σ => passAt tk σ) (pa_cons (pv 0) (pa_cons (pv 1) (pa_cons (pv 2) pa_nil)))))))))
 (fun a oe cls d pn hz hf => (pss_cons (ps_if (PW.pt (pw_or (pt_val (pe_callB (call_isX TB hz hf) (by rfl) T.isi (by decide +kernel) (pa_cons (pv 5) (pa_cons (pe_glob (v := .ref CBK) (by rfl) mK rfl) pa_nil)))) (pw_or1 (pt_not (pt_val (pe_callB (call_isX TB hz hf) (by rfl) T.isi (by decide +kernel) (pa_cons (pv 5) (pa_cons (pe_glob (v := .ref CT) (by rfl) mT rfl) pa_nil)))))))) (pss_one (ps_ret (pe_tup (pa_cons (pe_str) (pa_cons (pe_non) pa_nil))))) pss_nil)
  (pss_one (ps_ret (pe_tup (pa_cons (pe_str) (pa_cons (pe_xf TB.xf TB.noF hz hf (pv 5)) pa_nil))))))))
 (pss_one (ps_ret (pe_tup (pa_cons (pe_str) (pa_cons (pv 4) pa_nil)))))), ?_⟩
  have bad : ∀ (z : Str) (d : Addr) (H' : Hp), why = some z → Same H H' → H' d = some (.xd [("why", .str z)]) → ∀ u : Addr, H' u = none → Q (.ref u) (L2.upd H' u (.tup [.str "refused", .str z])) := fun z d H' ez s1 hx u hu => qx z ez u _ (s1.trans (same_new hu _)) upd_same
  rcases alt with ⟨a, wv, c, rfl, hg, aa, aw, ac, rfl, rfl, rfl, rfl, rfl⟩ | ⟨bt, v, ob, rfl, hbt, hb, rfl, rfl, rfl, rfl, rfl⟩
  · refine ⟨_, rfl, rfl, _, rfl, iteFb (by decide) ?_⟩
    refine ⟨_, rfl, _, rfl, _, rfl, y, gl, left, rs', va, vw, vc, a, wv, c, rfl, S, few, oks, ia, iw, ic, hg, aa, aw, ac, fun z ez d H' s1 hd hx => ?_, fun ez y' H' s1 S' => ?_⟩
    · refine ⟨true, TB.te, fun _ a ha => ?_, fun z => nomatch z⟩
      refine ⟨_, rfl, .ref CBK, _, false, d, _, rfl, rfl, hx, rfl, (fun u z => z), k1, false, rfl, iteF ?_⟩
      refine ⟨_, rfl, .ref CT, _, true, d, _, rfl, rfl, hx, rfl, (fun u z => z), k2, true, rfl, iteF ?_⟩
      exact ⟨_, rfl, rfl, rfl, d, _, _, rfl, hx, rfl, (by show 2 ≤ sizeLine; decide), fun u hu => bad z d H' ez s1 hx u hu⟩
    · exact ⟨_, rfl, (by show 2 ≤ sizeLine; decide), fun u hu => q ez u y' _ (s1.trans (same_new hu _)) upd_same (S'.keep (same_new hu _))⟩
  · refine ⟨_, rfl, rfl, _, rfl, iteTb (by rfl) ?_⟩
    refine ⟨_, rfl, y, dx, _, rfl, hy, rfl, _, rfl, bt, _, _, _, rfl, rfl, SqT.of hbt, rfl, y, v, ob, rs, a', w', c', rfl, S, hb, few, oks, ia, iw, ic, fun z ez d H' s1 hd hx => ?_, fun ez y' H' s1 S' => ?_⟩
    · refine ⟨true, TB.te, fun _ a ha => ?_, fun z => nomatch z⟩
      refine ⟨_, rfl, .ref CBK, _, false, d, _, rfl, rfl, hx, rfl, (fun u z => z), k1, false, rfl, iteF ?_⟩
      refine ⟨_, rfl, .ref CT, _, true, d, _, rfl, rfl, hx, rfl, (fun u z => z), k2, true, rfl, iteF ?_⟩
      exact ⟨_, rfl, rfl, rfl, d, _, _, rfl, hx, rfl, (by show 2 ≤ sizeLine; decide), fun u hu => bad z d H' ez s1 hx u hu⟩
    · exact ⟨_, rfl, (by show 2 ≤ sizeLine; decide), fun u hu => q ez u y' _ (s1.trans (same_new hu _)) upd_same (S'.keep (same_new hu _))⟩
end
end Tk
set_option maxRecDepth 100000
namespace Tk
open PySem L2
/-! ## what a law's turn keeps: the heap of before, the pool p, the lists of D (newest first), facts that only lists could break -/
theorem nodup_at : ∀ {N : List Addr} {i j : Nat} {x : Addr}, N.Nodup → N[i]? = some x → N[j]? = some x → i = j
  | [], _, _, _, _, h, _ => by simp at h
  | _ :: _, 0, 0, _, _, _, _ => rfl
  | a :: N, 0, j + 1, x, n, h, g => by
    have e : a = x := Option.some.inj h
    exact absurd (List.mem_of_getElem? (show N[j]? = some a from e ▸ g)) (List.nodup_cons.mp n).1
  | a :: N, i + 1, 0, x, n, h, g => by
    have e : a = x := Option.some.inj g
    exact absurd (List.mem_of_getElem? (show N[i]? = some a from e ▸ h)) (List.nodup_cons.mp n).1
  | a :: N, i + 1, j + 1, x, n, h, g => by rw [nodup_at (N := N) (List.nodup_cons.mp n).2 h g]
structure Ww (p : Addr) (D : List (Addr × List V)) (F : Hp → Prop) (H0 H : Hp) : Prop where
  same : Same H0 H
  pool : PoolAt H p
  p0 : H0 p = none
  ls : ∀ e ∈ D, H e.1 = some (.lst e.2)
  l0 : ∀ e ∈ D, H0 e.1 = none
  np : ∀ e ∈ D, e.1 ≠ p
  nd : (D.map (·.1)).Nodup
  fc : F H
  st : ∀ H1 H2, NL H1 H2 → F H1 → F H2
section
variable {p : Addr} {D : List (Addr × List V)} {F : Hp → Prop} {H0 H H' : Hp}
theorem Ww.start (s : Same H0 H) (P : PoolAt H p) (n : H0 p = none) : Ww p [] (fun _ => True) H0 H :=
  ⟨s, P, n, fun _ h => (nomatch h), fun _ h => (nomatch h), fun _ h => (nomatch h), List.nodup_nil, trivial, fun _ _ _ _ => trivial⟩
theorem Ww.at (w : Ww p D F H0 H) (i : Nat) {a : Addr} {xs : List V} (e : D[i]? = some (a, xs)) : H a = some (.lst xs) := w.ls _ (List.mem_of_getElem? e)
theorem Ww.ne (w : Ww p D F H0 H) (i : Nat) {a : Addr} {xs : List V} (e : D[i]? = some (a, xs)) : a ≠ p := w.np _ (List.mem_of_getElem? e)
theorem Ww.sm (w : Ww p D F H0 H) (s : Same H H') : Ww p D F H0 H' := by
  obtain ⟨x, y, z, e⟩ := w.pool
  exact ⟨w.same.trans s, ⟨x, y, z, s _ _ e⟩, w.p0, fun e h => s _ _ (w.ls e h), w.l0, w.np, w.nd, w.st _ _ (NL.same s) w.fc, w.st⟩
theorem Ww.new (w : Ww p D F H0 H) {a : Addr} (h : H a = none) (o : HO) : Ww p D F H0 (L2.upd H a o) := w.sm (same_new h o)
theorem Ww.pn (w : Ww p D F H0 H) {a : Addr} (h : H a = none) : a ≠ p := by
  obtain ⟨x, y, z, e⟩ := w.pool
  intro z; rw [z, e] at h; cases h
theorem Ww.un (w : Ww p D F H0 H) {a : Addr} (h : H a = none) : a ∉ D.map (·.1) := fun hm => by
  obtain ⟨e, he, rfl⟩ := List.mem_map.mp hm
  rw [w.ls e he] at h; cases h
/-- one more list, which stands there already but was not in the heap of before the last step -/
theorem Ww.more (w : Ww p D F H0 H) {a : Addr} {xs : List V} (h : H a = some (.lst xs)) (h0 : H0 a = none) (n : a ≠ p) (u : a ∉ D.map (·.1)) : Ww p ((a, xs) :: D) F H0 H := by
  refine ⟨w.same, w.pool, w.p0, fun e he => ?_, fun e he => ?_, fun e he => ?_, List.nodup_cons.mpr ⟨u, w.nd⟩, w.fc, w.st⟩
  · rcases List.mem_cons.mp he with rfl | he
    · exact h
    · exact w.ls e he
  · rcases List.mem_cons.mp he with rfl | he
    · exact h0
    · exact w.l0 e he
  · rcases List.mem_cons.mp he with rfl | he
    · exact n
    · exact w.np e he
theorem Ww.newL (w : Ww p D F H0 H) {a : Addr} (h : H a = none) (xs : List V) : Ww p ((a, xs) :: D) F H0 (L2.upd H a (.lst xs)) :=
  (w.new h _).more upd_same (w.same.free h) (w.pn h) (w.un h)
theorem Ww.kp (w : Ww p D F H0 H) (k : Kp p H H') (P : PoolAt H' p) : Ww p D F H0 H' := by
  obtain ⟨x, y, z, e⟩ := w.pool
  exact ⟨fun b o e => k b o (w.same b o e) (ne_of_none e w.p0), P, w.p0, fun e he => k _ _ (w.ls e he) (w.np e he), w.l0, w.np, w.nd, w.st _ _ (NL.kp k e) w.fc, w.st⟩
/-- forget the newest list -/
theorem Ww.drop {a : Addr} {xs : List V} (w : Ww p ((a, xs) :: D) F H0 H) : Ww p D F H0 H :=
  ⟨w.same, w.pool, w.p0, fun e he => w.ls e (List.mem_cons_of_mem _ he), fun e he => w.l0 e (List.mem_cons_of_mem _ he), fun e he => w.np e (List.mem_cons_of_mem _ he), (List.nodup_cons.mp w.nd).2, w.fc, w.st⟩
/-- one of the lists is changed, and nothing else but the pool -/
theorem Ww.ch (w : Ww p D F H0 H) (i : Nat) {a : Addr} {xs ys : List V} (e : D[i]? = some (a, xs)) (k : ∀ b o, H b = some o → b ≠ p → b ≠ a → H' b = some o) (P : PoolAt H' p) (h : H' a = some (.lst ys)) : Ww p (D.set i (a, ys)) F H0 H' := by
  have hi := (List.getElem?_eq_some_iff.mp e).1
  have m : (D.set i (a, ys)).map (·.1) = D.map (·.1) := by
    rw [List.map_set]
    refine List.ext_getElem? fun j => ?_
    rw [List.getElem?_set]
    by_cases c : i = j
    · subst c
      rw [if_pos rfl, if_pos (by rw [List.length_map]; exact hi), List.getElem?_map, e]; rfl
    · rw [if_neg c]
  have ha := w.at i e
  have uniq : ∀ j b zs, D[j]? = some (b, zs) → j ≠ i → b ≠ a := fun j b zs hj ne z => by
    subst z
    have e1 : (D.map (·.1))[j]? = some b := by rw [List.getElem?_map, hj]; rfl
    have e2 : (D.map (·.1))[i]? = some b := by rw [List.getElem?_map, e]; rfl
    exact ne (nodup_at w.nd e1 e2)
  have mem : ∀ q ∈ D.set i (a, ys), q = (a, ys) ∨ (q ∈ D ∧ q.1 ≠ a) := fun q hq => by
    obtain ⟨j, hj⟩ := List.getElem?_of_mem hq
    by_cases c : i = j
    · subst c
      rw [List.getElem?_set_self hi] at hj
      exact .inl (Option.some.inj hj).symm
    · rw [List.getElem?_set_ne c] at hj
      exact .inr ⟨List.mem_of_getElem? hj, uniq j q.1 q.2 hj fun z => c z.symm⟩
  obtain ⟨x, y, z, ep⟩ := w.pool
  have nl : NL H H' := fun b o q n => k b o q (fun z => by rw [z, ep] at q; exact n _ (Option.some.inj q).symm) (fun z => by rw [z, ha] at q; exact n _ (Option.some.inj q).symm)
  refine ⟨fun b o q => k b o (w.same b o q) (ne_of_none q w.p0) (ne_of_none q (w.l0 _ (List.mem_of_getElem? e))), P, w.p0, fun q hq => ?_, fun q hq => ?_, fun q hq => ?_, by rw [m]; exact w.nd, w.st _ _ nl w.fc, w.st⟩
  · rcases mem q hq with rfl | ⟨h1, h2⟩
    · exact h
    · exact k _ _ (w.ls q h1) (w.np q h1) h2
  · rcases mem q hq with rfl | ⟨h1, _⟩
    · show H0 a = none
      exact w.l0 (a, xs) (List.mem_of_getElem? e)
    · exact w.l0 q h1
  · rcases mem q hq with rfl | ⟨h1, _⟩
    · show a ≠ p
      exact w.np (a, xs) (List.mem_of_getElem? e)
    · exact w.np q h1
theorem Ww.put (w : Ww p D F H0 H) (i : Nat) {a : Addr} {xs : List V} (ys : List V) (e : D[i]? = some (a, xs)) : Ww p (D.set i (a, ys)) F H0 (L2.upd H a (.lst ys)) := by
  obtain ⟨x, y, z, ep⟩ := w.pool
  exact w.ch i e (fun b o q _ n => by rw [upd_ne n]; exact q) ⟨x, y, z, by rw [upd_ne (w.ne i e).symm]; exact ep⟩ upd_same
theorem Ww.k2 (w : Ww p D F H0 H) (i : Nat) {a : Addr} {xs ys : List V} (e : D[i]? = some (a, xs)) (k : K2 p a H H') (P : PoolAt H' p) (h : H' a = some (.lst ys)) : Ww p (D.set i (a, ys)) F H0 H' := w.ch i e k P h
/-- a further fact -/
theorem Ww.add (w : Ww p D F H0 H) {G : Hp → Prop} (g : G H) (st : ∀ H1 H2, NL H1 H2 → G H1 → G H2) : Ww p D (fun H => F H ∧ G H) H0 H :=
  ⟨w.same, w.pool, w.p0, w.ls, w.l0, w.np, w.nd, ⟨w.fc, g⟩, fun H1 H2 n h => ⟨w.st H1 H2 n h.1, st H1 H2 n h.2⟩⟩
theorem Ww.to (w : Ww p D F H0 H) {G : Hp → Prop} (g : G H) (st : ∀ H1 H2, NL H1 H2 → G H1 → G H2) : Ww p D G H0 H :=
  ⟨w.same, w.pool, w.p0, w.ls, w.l0, w.np, w.nd, g, st⟩
end
end Tk
set_option maxRecDepth 100000
namespace Tk
open PySem L2 StK
theorem shaped_by {d : PyData} (h : d.canLay0 = true) (l : d.depth ≤ 64) : SeqAt.shaped d = true := by
  unfold SeqAt.shaped
  rw [h, decide_eq_true l]; rfl
theorem slf_dp {K : PySem.W.Frag} {H : Hp} {v : V} {d : PyData} (h : ∀ H', Same H H' → Dp K H' v d) (l : d.canLay0 = true) (n : d.depth ≤ 64) : ∀ H', Same H H' → Slf K H' v := fun H' s => .inl ⟨d, h H' s, shaped_by l n, SeqAt.eqv_refl _ l⟩
theorem strs_dp {K : PySem.W.Frag} {H : Hp} : ∀ zs : List Str, DpAll K H (zs.map V.str) (zs.map PyData.str)
  | [] => .nil
  | z :: zs => .cons (.str z) (strs_dp zs)
theorem strs_lay : ∀ zs : List Str, (∀ z ∈ zs, PyData.strOk z = true) → PyData.canLayAll0 (zs.map PyData.str) = true ∧ PyData.depthAll (zs.map PyData.str) = 0
  | [], _ => ⟨rfl, rfl⟩
  | z :: zs, h => by
    obtain ⟨a, b⟩ := strs_lay zs fun y hy => h y (List.mem_cons_of_mem _ hy)
    rw [List.map_cons]
    constructor
    · rw [PyData.canLayAll0, a]
      show (PyData.strOk z && true) = true
      rw [h z List.mem_cons_self]; rfl
    · rw [PyData.depthAll, b]; rfl
theorem SysAt.nl {CS CD CY : Addr} {H H' : Hp} {y : Addr} {rs : List KR} {va vw vc : V} (s : NL H H') (h : SysAt CS CD CY H y rs va vw vc) : SysAt CS CD CY H' y rs va vw vc := by
  obtain ⟨dx, t, l, ks, h1, h2, h3, h4⟩ := h
  exact ⟨dx, t, l, ks, s _ _ h1 (fun _ z => by cases z), s.tk _ _ h2, h3.nl s, s.tk _ _ h4⟩
theorem many_full {xs : List Str} : ∀ i, i ≤ xs.length → (∀ j, j < i → (xs.take j).any (· == xs.getD j Str.empty) = false) → LenS.many xs i = i
  | 0, _, _ => rfl
  | i + 1, h, g => by
    unfold LenS.many
    rw [g i (Nat.lt_succ_self i), many_full i (by omega) fun j hj => g j (by omega)]
    rfl
/-- rows of which a system can be made -/
structure Gs (rs : List KR) : Prop where
  ne : rs ≠ []
  two : rs.length ≤ 2
  ok : ∀ r ∈ rs, KrOk r
  cnt : ∀ r ∈ rs, ((cntAll r.S : Nat) : Int) ≤ 4
  nod : (rs.map KR.n).Nodup
  sum : sumM rs ≤ 3
theorem nodup_dup {rs : List KR} (h : (rs.map KR.n).Nodup) : dupB rs = false := by
  unfold dupB
  have e : LenS.many (rs.map KR.n) rs.length = rs.length := by
    have l : (rs.map KR.n).length = rs.length := List.length_map _
    refine many_full (xs := rs.map KR.n) rs.length (by rw [l]; exact Nat.le_refl _) fun j hj => ?_
    rw [List.any_eq_false]
    intro z hz e
    have e' : z = (rs.map KR.n).getD j Str.empty := by simpa using e
    have hj' : j < (rs.map KR.n).length := by rw [l]; exact hj
    rw [List.getD_eq_getElem?_getD, List.getElem?_eq_getElem hj'] at e'
    obtain ⟨i, hi⟩ := List.getElem?_of_mem hz
    have li : i < j := by
      have := (List.getElem?_eq_some_iff.mp hi).1
      rw [List.length_take] at this
      omega
    rw [List.getElem?_take_of_lt li] at hi
    have := nodup_ix h hi (show (rs.map KR.n)[j]? = some z by rw [List.getElem?_eq_getElem hj', e']; rfl)
    omega
  rw [e]
  exact decide_eq_false (Nat.lt_irrefl _)
theorem max_le {ns : List Int} {m : Int} (ne : ns ≠ []) (h : ∀ y ∈ ns, y ≤ m) : maxI ns ≤ m := h _ (maxI_is ne).1
theorem Gs.why {rs : List KR} (g : Gs rs) {a c : Int} {vw : V} (a0 : 0 ≤ a) (a4 : a ≤ 4) (w : vw = .non ∨ ∃ i, vw = .int i ∧ 3 ≤ i ∧ i ≤ 8) (c0 : 0 ≤ c) (c2 : c ≤ 2) : yWhy (rs.map some) (.int a) vw (.int c) = none := by
  have e : (rs.map some).filterMap id = rs := by simp
  unfold yWhy
  rw [aresB_some, e]
  have ea : areB rs = true := by
    unfold areB
    rw [nodup_dup g.nod, decide_eq_true g.sum]
    cases rs with
    | nil => exact absurd rfl g.ne
    | cons _ _ => rfl
  rw [ea, if_neg (by decide)]
  have em : maxS rs ≤ 4 := max_le (by intro z; exact g.ne (List.map_eq_nil_iff.mp z)) fun y hy => by
    obtain ⟨r, hr, rfl⟩ := List.mem_map.mp hy
    exact g.cnt r hr
  have eb : maxB rs ≤ 3 := max_le (by intro z; exact g.ne (List.map_eq_nil_iff.mp z)) fun y hy => by
    obtain ⟨r, hr, rfl⟩ := List.mem_map.mp hy
    exact (g.ok r hr).2.2.1
  dsimp only
  rw [if_neg (by omega)]
  have i1 : inB (.int a) 0 4 = true := by
    show (decide (0 ≤ a) && decide (a ≤ 4)) = true
    rw [decide_eq_true a0, decide_eq_true a4]; rfl
  have i2 : inB (.int c) 0 2 = true := by
    show (decide (0 ≤ c) && decide (c ≤ 2)) = true
    rw [decide_eq_true c0, decide_eq_true c2]; rfl
  rw [i1, i2, if_neg (by decide), if_neg ?_, if_neg (by decide)]
  rintro ⟨h1, h2⟩
  rcases w with rfl | ⟨i, rfl, w1, w2⟩
  · cases h1
  · have : inB (.int i) (maxB rs) 8 = true := by
      show (decide (maxB rs ≤ i) && decide (i ≤ 8)) = true
      rw [decide_eq_true (show maxB rs ≤ i by omega), decide_eq_true w2]; rfl
    rw [this] at h2
    cases h2
theorem sumM_app (a b : List KR) : sumM (a ++ b) = sumM a + sumM b := by
  unfold sumM
  rw [List.map_append, List.sum_append]
theorem sumM_one (r : KR) : sumM [r] = r.m := by
  unfold sumM
  simp
/-! ## rows as data -/
def rowD4 (r : KR) : PyData := .tuple [.str r.n, .tuple (dAll r.S), .int r.b, .int r.m]
theorem eqv_row (r r' : KR) : PyData.eqv (rowD4 r) (rowD4 r') = krEq r r' := by
  have e1 : (r.n == r'.n) = decide (V.str r.n = V.str r'.n) := by
    by_cases h : r.n = r'.n
    · rw [h]; simp
    · rw [decide_eq_false (fun z => h (by injection z))]; simpa using h
  have e2 : ∀ i j : Int, (i == j) = decide (V.int i = V.int j) := fun i j => by
    by_cases h : i = j
    · subst h; simp
    · rw [decide_eq_false (fun z => h (by injection z))]; simpa using h
  have e : PyData.eqv (rowD4 r) (rowD4 r') = (decide (V.str r.n = V.str r'.n) && (sEq r.S r'.S && (decide (V.int r.b = V.int r'.b) && decide (V.int r.m = V.int r'.m)))) := by
    show PyData.eqvAll _ _ = _
    unfold sEq
    simp only [PyData.eqvAll, Bool.and_true]
    rw [← e1, ← e2, ← e2]
    rfl
  rw [e]
  unfold krEq kEq
  cases decide (V.str r.n = V.str r'.n) <;> cases sEq r.S r'.S <;> cases decide (V.int r.b = V.int r'.b) <;> cases decide (V.int r.m = V.int r'.m) <;> rfl
theorem eqv_rows : ∀ rs rs' : List KR, PyData.eqv (.list (rs.map rowD4)) (.list (rs'.map rowD4)) = ksEq rs rs'
  | [], [] => rfl
  | [], _ :: _ => rfl
  | _ :: _, [] => rfl
  | r :: rs, r' :: rs' => by
    have ih := eqv_rows rs rs'
    show PyData.eqvAll _ _ = _
    have ih' : PyData.eqvAll (rs.map rowD4) (rs'.map rowD4) = ksEq rs rs' := ih
    rw [List.map_cons, List.map_cons, PyData.eqvAll, ih', eqv_row]
    rfl
theorem ksEq_comm (rs rs' : List KR) : ksEq rs' rs = ksEq rs rs' := by rw [← eqv_rows, ← eqv_rows, PySem.W.eqv_comm]
theorem rs_dp {K : PySem.W.Frag} {H : Hp} {vs : List V} {rs : List KR} (h : RsS H vs rs) : DpAll K H vs (rs.map rowD4) := by
  induction h with
  | nil => exact .nil
  | cons h _ ih =>
    obtain ⟨t, b, rfl, ht, ⟨xs, hb, hx⟩, _⟩ := h
    exact .cons (.tup (SqT.of ht) (.cons (.str _) (.cons (.tup (SqT.of hb) (dpAll_of _ xs hx)) (.cons (.int _) (.cons (.int _) .nil))))) ih
theorem row_lay {r : KR} (n : IsName r.n) (ok : okAll 0 r.S 0) : (rowD4 r).canLay0 = true ∧ (rowD4 r).depth ≤ 9 := by
  obtain ⟨l1, l2⟩ := layAll_ok r.S 0 0 ok
  have l3 := l2 (by decide)
  constructor
  · simp only [rowD4, PyData.canLay0, PyData.canLayAll0, low_ok n.2.2, l1]; rfl
  · simp only [rowD4, PyData.depth, PyData.depthAll]; omega
theorem rows_lay : ∀ {rs : List KR}, (∀ r ∈ rs, IsName r.n ∧ okAll 0 r.S 0) → PyData.canLayAll0 (rs.map rowD4) = true ∧ PyData.depthAll (rs.map rowD4) ≤ 9
  | [], _ => ⟨rfl, by show 0 ≤ 9; decide⟩
  | r :: rs, h => by
    obtain ⟨a, b⟩ := rows_lay fun x hx => h x (List.mem_cons_of_mem _ hx)
    obtain ⟨c, d⟩ := row_lay (h r List.mem_cons_self).1 (h r List.mem_cons_self).2
    rw [List.map_cons]
    exact ⟨by rw [PyData.canLayAll0, a, c]; rfl, by rw [PyData.depthAll]; omega⟩
theorem rs_shaped {rs : List KR} (h : ∀ r ∈ rs, IsName r.n ∧ okAll 0 r.S 0) : SeqAt.shaped (.list (rs.map rowD4)) = true := by
  obtain ⟨a, b⟩ := rows_lay h
  exact shaped_by (by rw [PyData.canLay0]; exact a) (by rw [PyData.depth]; omega)
theorem rs_good {H : Hp} {vs : List V} {rs : List KR} (h : RsS H vs rs) : ∀ r ∈ rs, okAll 0 r.S 0 := by
  induction h with
  | nil => exact fun r hr => nomatch hr
  | cons h _ ih =>
    intro r hr
    rcases List.mem_cons.mp hr with rfl | hr
    · obtain ⟨_, _, _, _, g⟩ := h
      exact g.2.2.1
    · exact ih r hr
/-! ## values as data -/
def dv : V → PyData
  | .int i => .int i
  | _ => .none
def IntNon (v : V) : Prop := v = .non ∨ ∃ i, v = .int i
theorem dv_dp {K : PySem.W.Frag} {H : Hp} {v : V} (h : IntNon v) : Dp K H v (dv v) := by
  rcases h with rfl | ⟨i, rfl⟩
  · exact .non
  · exact .int i
theorem dv_lay (v : V) : (dv v).canLay0 = true ∧ (dv v).depth = 0 := by
  cases v <;> exact ⟨rfl, rfl⟩
theorem dv_eq {v w : V} (h : IntNon v) (g : IntNon w) : PyData.eqv (dv v) (dv w) = decide (v = w) := by
  rcases h with rfl | ⟨i, rfl⟩ <;> rcases g with rfl | ⟨j, rfl⟩
  · rfl
  · rfl
  · rfl
  · show (i == j) = _
    by_cases h : i = j
    · subst h; simp
    · rw [decide_eq_false (fun z => h (by injection z))]; simpa using h
def valsD (a w c : V) : PyData := .list [dv a, dv w, dv c]
theorem vals_dp {K : PySem.W.Frag} {H : Hp} {a w c : V} {l : Addr} (ia : IntNon a) (iw : IntNon w) (ic : IntNon c) (h : H l = some (.lst [a, w, c])) : Dp K H (.ref l) (valsD a w c) := .lst (SqL.of h) (.cons (dv_dp ia) (.cons (dv_dp iw) (.cons (dv_dp ic) .nil)))
theorem vals_shaped (a w c : V) : SeqAt.shaped (valsD a w c) = true := by
  refine shaped_by ?_ ?_
  · simp only [valsD, PyData.canLay0, PyData.canLayAll0, (dv_lay _).1]; rfl
  · simp only [valsD, PyData.depth, PyData.depthAll, (dv_lay _).2]; omega
theorem vals_eq {a w c a' w' c' : V} (ia : IntNon a) (iw : IntNon w) (ic : IntNon c) (ia' : IntNon a') (iw' : IntNon w') (ic' : IntNon c') : PyData.eqv (valsD a' w' c') (valsD a w c) = (decide (a = a') && decide (w = w') && decide (c = c')) := by
  show PyData.eqvAll _ _ = _
  simp only [PyData.eqvAll, dv_eq ia' ia, dv_eq iw' iw, dv_eq ic' ic, Bool.and_true]
  have e : ∀ x y : V, decide (x = y) = decide (y = x) := fun x y => decide_eq_decide.mpr ⟨Eq.symm, Eq.symm⟩
  rw [e a' a, e w' w, e c' c, Bool.and_assoc]
theorem scal_in {v w : V} (h : IntNon v) (g : IntNon w) : scal v w = true := by
  rcases h with rfl | ⟨i, rfl⟩ <;> rcases g with rfl | ⟨j, rfl⟩ <;> rfl

/-! ## the law's value and same -/
abbrev nothing : Nat := 0
def PlainV (v : V) : Prop := v = .non ∨ (∃ i, v = .int i) ∨ (∃ b, v = .bl b) ∨ v = .str "1"
theorem PlainV.any {H : Hp} {v : V} (h : PlainV v) : AnyV H v := by
  rcases h with rfl | ⟨i, rfl⟩ | ⟨b, rfl⟩ | rfl
  · exact ⟨_, .non⟩
  · exact ⟨_, .int i⟩
  · exact ⟨_, .bl b⟩
  · exact ⟨_, .str _⟩
def spVal9 : Sp := fun vs H Q _ => ∃ (p : Addr) (m : Int), vs = [.ref p, .int m] ∧ PoolAt H p ∧ ∀ (v : V) (H' : Hp), PlainV v → Kp p H H' → PoolAt H' p → Q v H'
def spSame (CS CD CY : Addr) : Sp := fun vs H Q _ => ∃ (u : Addr) (dv : V) (rl vl : Addr) (why : Option Str), vs = [.ref u, dv, .ref rl, .ref vl] ∧ dv = optV why ∧
  (∀ z, why = some z → PyData.strOk z = true ∧ H u = some (.tup [.str "refused", .str z])) ∧
  (why = none → ∃ (y : Addr) (rvs : List V) (rs : List KR) (a c : Int) (w : V), H u = some (.tup [.str "made", .ref y]) ∧ SysAt CS CD CY H y rs (.int a) w (.int c) ∧ H rl = some (.lst rvs) ∧ RsS H rvs rs ∧ Gs rs ∧ H vl = some (.lst [.int a, w, .int c]) ∧ IntNon w ∧ yWhy (rs.map some) (.int a) w (.int c) = none) ∧
  ∀ H', Same H H' → Q (.bl true) H'
theorem ksEq_refl : ∀ {rs : List KR}, (∀ r ∈ rs, okAll 0 r.S 0) → ksEq rs rs = true
  | [], _ => rfl
  | r :: rs, h => by
    rw [ksEq, krEq_refl (h r List.mem_cons_self), ksEq_refl fun x hx => h x (List.mem_cons_of_mem _ hx)]
    rfl
theorem refused_eq {K : PySem.W.Frag} {H : Hp} {u t : Addr} {z : Str} (hz : PyData.strOk z = true) (hu : H u = some (.tup [.str "refused", .str z])) (ht : H t = some (.tup [.str "refused", .str z])) :
    ∃ d, Dp K H (.ref u) d ∧ Dp K H (.ref t) d ∧ SeqAt.shaped d = true ∧ PyData.eqv d d = true := by
  have lay : PyData.canLay0 (.tuple [.str "refused", .str z]) = true := by
    show PyData.canLayAll0 [.str "refused", .str z] = true
    rw [PyData.canLayAll0, PyData.canLayAll0, PyData.canLayAll0]
    show (PyData.strOk "refused" && (PyData.strOk z && true)) = true
    rw [hz]; decide +kernel
  refine ⟨_, .tup (SqT.of hu) (.cons (.str _) (.cons (.str _) .nil)), .tup (SqT.of ht) (.cons (.str _) (.cons (.str _) .nil)), shaped_by lay (by simp only [PyData.depth, PyData.depthAll]; omega), SeqAt.eqv_refl _ lay⟩
abbrev sVal9 : Stmt := top 46
abbrev sSame : Stmt := top 47
theorem scVal9 : FnScope ["_law_pool_here", "_law_most", "_law_rows"] ["_law_pool_here", "_law_most"] (defScope sVal9) := ⟨rfl, rfl, rfl, by decide +kernel, rfl, by decide +kernel, by decide +kernel⟩
theorem scSame : FnScope ["_law_told_here", "_law_due", "_law_rows", "_law_values"] ["_law_told_here", "_law_due", "_law_rows", "_law_values"] (defScope sSame) := ⟨rfl, rfl, rfl, by decide +kernel, rfl, by decide +kernel, by decide +kernel⟩
section
variable {P : Program} {w : World} {K : PySem.W.Frag} {mg : Str → Option Value} {base : Heap} {CS CK CD CY CBY KD it : Addr}
theorem ok_val9 {f fD : Addr} {fd fdD : FuncData} (F : Fun K "_law_value" "_law_value" sVal9 f fd) (B : Bl mg) (GD : FnOk P w K mg base CX0 1 fD fdD ["_law_pool_here", "_law_amount"] spDraw) (bD : Binds K fdD ["_law_pool_here", "_law_amount"] []) (kD : PySem.W.keepIn K (.ref fD) = true) (mD : mg "_law_draw" = some (.ref fD)) :
    FnOk P w K mg base CX0 2 f fd ["_law_pool_here", "_law_most"] spVal9 := by
  refine F.ok scVal9 (fun vs H Q E h => ?_) (fun cdv A outer s H vs Q E hr h => ?_)
  · obtain ⟨p, m, rfl, _⟩ := h
    rfl
  obtain ⟨p, m, rfl, P0, q⟩ := h
  have nd := scVal9.nd
  refine ⟨_, (pss_cons (ps_set (i := 2) nd rfl (Or.inl rfl) (pe_lst (pa_cons (pe_op op_sub (pe_int) (pe_int)) (pa_cons (pe_op op_sub (pe_int) (pe_int)) (pa_cons (pe_int) (pa_cons (pe_int) (pa_cons (pv 1) (pa_cons (pe_op op_add (pv 1) (pe_int)) (pa_cons (pe_op op_sub (pe_int) (pe_int)) (pa_cons (pe_bl) (pa_cons (pe_str) (pa_cons (pe_bl) (pa_cons (pe_op op_sub (pv 1) (pe_int)) (pa_cons (pe_int) pa_nil))))))))))))))
  (pss_one (ps_ret (pe_ix ix_list (pv 2) (pe_call GD (hr.mono (by decide)) rfl mD kD bD .nil pass0 (pa_cons (pv 0) (pa_cons (pe_callB call_len_seq (by rfl) B.len PySem.boot_len (pa_cons (pv 2) pa_nil)) pa_nil))) (fun _ _ => rfl))))), ?_⟩
  refine ⟨_, _, rfl, rfl, _, _, rfl, rfl, _, rfl, _, rfl, _, _, rfl, rfl, _, _, rfl, rfl, _, rfl, _, _, rfl, rfl, (by show 12 ≤ sizeLine; decide), fun L hL => ?_⟩
  have s1 := same_new hL (.lst [V.int (0 - 1), .int (0 - 1), .int 0, .int 1, .int m, .int (m + 1), .int (0 - 2), .bl true, .str "1", .bl false, .int (m - 1), .int 2])
  have P1 : PoolAt (L2.upd H L (.lst [V.int (0 - 1), .int (0 - 1), .int 0, .int 1, .int m, .int (m + 1), .int (0 - 2), .bl true, .str "1", .bl false, .int (m - 1), .int 2])) p := by
    obtain ⟨a, b, c, e⟩ := P0
    exact ⟨a, b, c, s1 _ _ e⟩
  have pL : L ≠ p := by
    obtain ⟨a, b, c, e⟩ := P0
    intro z; rw [z, e] at hL; cases hL
  refine ⟨_, rfl, _, rfl, _, rfl, L, _, rfl, .inl (SqL.of upd_same), p, 12, rfl, P1, by decide, by decide, fun r H2 r0 r1 k2 P2 => ?_⟩
  have hL2 := k2 _ _ (show (L2.upd H L (.lst [V.int (0 - 1), .int (0 - 1), .int 0, .int 1, .int m, .int (m + 1), .int (0 - 2), .bl true, .str "1", .bl false, .int (m - 1), .int 2])) L = _ from upd_same) pL
  have kp : Kp p H H2 := (Kp.of_same s1).trans k2
  have fin : ∀ v, atI [V.int (0 - 1), .int (0 - 1), .int 0, .int 1, .int m, .int (m + 1), .int (0 - 2), .bl true, .str "1", .bl false, .int (m - 1), .int 2] r = some v → PlainV v → ∃ a xs i v', V.ref L = .ref a ∧ V.int r = .int i ∧ SqL K H2 a xs ∧ atI xs i = some v' ∧ Q v' H2 := fun v e pv => ⟨L, _, r, v, rfl, rfl, SqL.of hL2, e, q v H2 pv kp P2⟩
  have rr : r = 0 ∨ r = 1 ∨ r = 2 ∨ r = 3 ∨ r = 4 ∨ r = 5 ∨ r = 6 ∨ r = 7 ∨ r = 8 ∨ r = 9 ∨ r = 10 ∨ r = 11 := by omega
  rcases rr with rfl | rfl | rfl | rfl | rfl | rfl | rfl | rfl | rfl | rfl | rfl | rfl
  · exact fin _ rfl (.inr (.inl ⟨_, rfl⟩))
  · exact fin _ rfl (.inr (.inl ⟨_, rfl⟩))
  · exact fin _ rfl (.inr (.inl ⟨_, rfl⟩))
  · exact fin _ rfl (.inr (.inl ⟨_, rfl⟩))
  · exact fin _ rfl (.inr (.inl ⟨_, rfl⟩))
  · exact fin _ rfl (.inr (.inl ⟨_, rfl⟩))
  · exact fin _ rfl (.inr (.inl ⟨_, rfl⟩))
  · exact fin _ rfl (.inr (.inr (.inl ⟨_, rfl⟩)))
  · exact fin _ rfl (.inr (.inr (.inr rfl)))
  · exact fin _ rfl (.inr (.inr (.inl ⟨_, rfl⟩)))
  · exact fin _ rfl (.inr (.inl ⟨_, rfl⟩))
  · exact fin _ rfl (.inr (.inl ⟨_, rfl⟩))
theorem ok_same {f fS fE : Addr} {fd fdS fdE : FuncData} (F : Fun K "_law_same" "_law_same" sSame f fd)
    (GS : FnOk P w K mg base CX0 14 fS fdS ["_law_rows", "_law_values"] (spSys CS CD CY)) (bS : Binds K fdS ["_law_rows", "_law_values"] []) (kS : PySem.W.keepIn K (.ref fS) = true) (mS : mg "_law_system" = some (.ref fS))
    (OY : OwnEq K CY fE) (GE : FnOk P w K mg base CX0 4 fE fdE ["self", "other"] (spYEq CS CD CY)) (bE : Binds K fdE ["self", "other"] []) :
    FnOk P w K mg base CX0 15 f fd ["_law_told_here", "_law_due", "_law_rows", "_law_values"] (spSame CS CD CY) := by
  refine F.ok scSame (fun vs H Q E h => ?_) (fun cdv A outer s H vs Q E hr h => ?_)
  · obtain ⟨u, dv, rl, vl, why, rfl, _⟩ := h
    rfl
  obtain ⟨u, dv, rl, vl, why, rfl, rfl, hz, hm, q⟩ := h
  have nd := scSame.nd
  have hu64 : _ + 64 < cLine := Nat.lt_of_le_of_lt (Nat.add_le_add_left (by decide : 64 ≤ 16 * 14 + 200) _) (by have := hr.un; rwa [Nat.add_assoc] at this)
  refine ⟨_, (pss_cons (ps_if (pt_cmpR op_notN (pv 1) (pe_non) (nomark _)) (pss_one (ps_ret (pe_cmpR (op_eqD hu64) (pv 0) (pe_tup (pa_cons (pe_str) (pa_cons (pv 1) pa_nil))) (nomark _)))) pss_nil)
  (pss_one (ps_ret (pe_and (pe_cmpR op_eq (pe_ix ix_tup (pv 0) (pe_int) (fun _ _ => rfl)) (pe_str) (nomark _)) (pe_one (pe_cmpR (op_eqOwn OY GE (hr.mono (by decide)) bE pass0) (pe_ix ix_tup (pv 0) pe_int (fun _ _ => rfl)) (pe_call GS (hr.mono (by decide)) rfl mS kS bS .nil pass0 (pa_cons (pv 2) (pa_cons (pv 3) pa_nil))) (nomark _))))))), ?_⟩
  cases why with
  | some z =>
    obtain ⟨ok, hu⟩ := hz z rfl
    refine ⟨_, rfl, rfl, _, rfl, iteTb (by rw [decide_eq_false (show ¬ optV (some z) = V.non from fun e => nomatch e)]; rfl) ?_⟩
    refine ⟨_, rfl, _, rfl, (by show 2 ≤ sizeLine; decide), fun t ht => ?_⟩
    obtain ⟨d, e1, e2, sh, eq⟩ := refused_eq (K := K) ok ((same_new ht _) _ _ hu) upd_same
    refine ⟨d, d, e1, e2, sh, sh, ?_⟩
    rw [eq]
    exact q _ (same_new ht _)
  | none =>
    obtain ⟨y, rvs, rs, a, c, wv, hu, S, hrl, hrs, gs, hvl, iw, good⟩ := hm rfl
    refine ⟨_, rfl, rfl, _, rfl, iteFb (by decide) ?_⟩
    refine ⟨_, rfl, u, _, _, _, rfl, rfl, SqT.of hu, rfl, rfl, _, rfl, iteTb (by decide) ?_⟩
    have any : ∀ {H : Hp} {v : V}, IntNon v → AnyV H v := fun h => by
      rcases h with rfl | ⟨j, rfl⟩
      · exact ⟨_, .non⟩
      · exact ⟨_, .int j⟩
    have len : rs.length = 1 ∨ rs.length = 2 := by
      have := gs.two
      have n0 : rs.length ≠ 0 := fun e => gs.ne (List.length_eq_zero_iff.mp e)
      omega
    refine ⟨_, rfl, u, _, _, _, rfl, rfl, SqT.of hu, rfl, _, rfl, _, rfl, rl, vl, rvs, rs, _, _, _, rfl, hrl, hrs, len, gs.ok, hvl, any_int _, any iw, any_int _, good, fun y2 H2 s2 S2 => ?_⟩
    have S1 := S.keep s2
    obtain ⟨d1, _, _, _, g1, _⟩ := id S1
    obtain ⟨d2, _, _, _, g2, _⟩ := id S2
    have ie : IntNon (.int a) := .inr ⟨_, rfl⟩
    have ic : IntNon (.int c) := .inr ⟨_, rfl⟩
    refine ⟨y, y2, d1, d2, _, _, rfl, rfl, g1, g2, ⟨y, y2, rs, rs, _, _, _, _, _, _, rfl, S1, S2, rfl, scal_in ie ie, scal_in iw iw, scal_in ic ic, fun H3 s3 => ⟨_, rfl, ?_⟩⟩⟩
    rw [ksEq_refl (rs_good hrs), decide_eq_true rfl, decide_eq_true rfl, decide_eq_true rfl]
    exact q H3 (s2.trans s3)
end
end Tk
set_option maxRecDepth 100000
namespace Tk
open PySem L2 StK
abbrev sVF : Stmt := top 48
abbrev sBF : Stmt := top 49
/-! ## reasons for rows of which a system can be made -/
/-- the first reason among the three values -/
def chn (va vw vc : V) (m : Int) : Option Str := if inB va 0 4 = false then some "ahead" else if isNon vw = false ∧ inB vw m 8 = false then some "window" else if inB vc 0 2 = false then some "crashes" else none
theorem Gs.y {rs : List KR} (g : Gs rs) (va vw vc : V) : yWhy (rs.map some) va vw vc = chn va vw vc (maxB rs) := by
  have e : (rs.map some).filterMap id = rs := by simp
  unfold yWhy
  rw [aresB_some, e]
  have ea : areB rs = true := by
    unfold areB
    rw [nodup_dup g.nod, decide_eq_true g.sum]
    cases rs with
    | nil => exact absurd rfl g.ne
    | cons _ _ => rfl
  rw [ea, if_neg (by decide)]
  have em : maxS rs ≤ 4 := max_le (by intro z; exact g.ne (List.map_eq_nil_iff.mp z)) fun y hy => by
    obtain ⟨r, hr, rfl⟩ := List.mem_map.mp hy
    exact g.cnt r hr
  dsimp only
  rw [if_neg (by omega)]
  rfl
theorem chain_ok {va vw vc : V} {m : Int} {z : Str} (h : chn va vw vc m = some z) : PyData.strOk z = true := by
  unfold chn at h
  split at h
  · injection h with h; subst h; decide +kernel
  split at h
  · injection h with h; subst h; decide +kernel
  split at h
  · injection h with h; subst h; decide +kernel
  · cases h
theorem chain_none {va vw vc : V} {m : Int} (h : chn va vw vc m = none) : (∃ a, va = .int a) ∧ IntNon vw ∧ ∃ c, vc = .int c := by
  unfold chn at h
  have wi : ∀ (v : V) (lo hi : Int), inB v lo hi ≠ false → ∃ i, v = .int i := fun v lo hi n => by
    cases v with
    | int i => exact ⟨i, rfl⟩
    | _ => exact absurd rfl n
  split at h
  · cases h
  rename_i h1
  split at h
  · cases h
  rename_i h2
  split at h
  · cases h
  rename_i h3
  refine ⟨wi _ _ _ h1, ?_, wi _ _ _ h3⟩
  cases e : isNon vw with
  | true =>
    cases vw with
    | non => exact .inl rfl
    | _ => cases e
  | false => exact .inr (wi _ _ _ fun z => h2 ⟨e, z⟩)
theorem IntNon.plain {v : V} (h : IntNon v) : PlainV v := h.imp id fun ⟨i, e⟩ => .inl ⟨i, e⟩
theorem PlainV.int (i : Int) : PlainV (.int i) := .inr (.inl ⟨i, rfl⟩)
theorem kept_if (u : Bool) (g v : V) : keptV (if u = true then g else .int (-1)) v = if (u && !inB g (-1) (-1)) = true then g else v := by
  unfold keptV
  cases u with
  | true =>
    rw [if_pos rfl]
    cases inB g (-1) (-1) <;> rfl
  | false => rfl
theorem gvA_if (left : Int) (g : V) : gvA left g = if decide (left = 0 ∨ left = 2) = true then g else .int (-1) := by
  unfold gvA
  by_cases h : left = 0 ∨ left = 2
  · rw [if_pos h, if_pos (decide_eq_true h)]
  · rw [if_neg h, if_neg (by rw [decide_eq_false h]; decide)]
theorem gvW_if (left : Int) (g : V) : gvW left g = if decide (left = 0 ∨ left = 1) = true then g else .int (-1) := by
  unfold gvW
  by_cases h : left = 0 ∨ left = 1
  · rw [if_pos h, if_pos (decide_eq_true h)]
  · rw [if_neg h, if_neg (by rw [decide_eq_false h]; decide)]
theorem if_plain {c : Prop} [Decidable c] {g v : V} (hg : PlainV g) (hv : PlainV v) : PlainV (if c then g else v) := by
  split
  · exact hg
  · exact hv
/-! ## blocks -/
theorem rbs_map : ∀ {rs : List KR} {bs : List V}, bs.length = rs.length → (rbs rs bs).map KR.n = rs.map KR.n ∧ (rbs rs bs).map KR.m = rs.map KR.m
  | [], _, _ => ⟨rfl, rfl⟩
  | r :: rs, b :: bs, h => by
    obtain ⟨a, c⟩ := rbs_map (rs := rs) (bs := bs) (by simpa using h)
    obtain ⟨r', e, e1, e2⟩ : ∃ r', rbs (r :: rs) (b :: bs) = r' :: rbs rs bs ∧ r'.n = r.n ∧ r'.m = r.m := ⟨_, rfl, rfl, rfl⟩
    rw [e, List.map_cons, List.map_cons, List.map_cons, List.map_cons, a, c, e1, e2]
    exact ⟨rfl, rfl⟩
theorem rbs_mem {rs : List KR} {bs : List V} (w : ∀ b ∈ bs, inB b 1 3 = true) {r : KR} (hr : r ∈ rbs rs bs) : ∃ r0 ∈ rs, ∃ j, 1 ≤ j ∧ j ≤ 3 ∧ r = { r0 with b := j } := by
  unfold rbs at hr
  obtain ⟨i, hi⟩ := List.getElem?_of_mem hr
  rw [List.getElem?_zipWith] at hi
  cases er : rs[i]? with
  | none => rw [er] at hi; simp at hi
  | some r0 =>
    cases eb : bs[i]? with
    | none => rw [er, eb] at hi; simp at hi
    | some b0 =>
      rw [er, eb] at hi
      have z := w b0 (List.mem_of_getElem? eb)
      cases b0 with
      | int j =>
        have z' : (decide (1 ≤ j) && decide (j ≤ 3)) = true := z
        rw [Bool.and_eq_true] at z'
        exact ⟨r0, List.mem_of_getElem? er, j, of_decide_eq_true z'.1, of_decide_eq_true z'.2, (Option.some.inj hi).symm⟩
      | _ => cases z
theorem Gs.rbs {rs : List KR} {bs : List V} (g : Gs rs) (l : bs.length = rs.length) (w : ∀ b ∈ bs, inB b 1 3 = true) : Gs (rbs rs bs) := by
  obtain ⟨en, em⟩ := rbs_map l
  have el := rbs_len l
  refine ⟨fun z => ?_, by rw [el]; exact g.two, fun r hr => ?_, fun r hr => ?_, by rw [en]; exact g.nod, ?_⟩
  · rw [z] at el
    exact g.ne (List.length_eq_zero_iff.mp el.symm)
  · obtain ⟨r0, h0, j, j1, j3, rfl⟩ := rbs_mem w hr
    have ro := g.ok r0 h0
    exact ⟨ro.1, j1, j3, ro.2.2.2⟩
  · obtain ⟨r0, h0, j, j1, j3, rfl⟩ := rbs_mem w hr
    exact g.cnt r0 h0
  · have : sumM (Tk.rbs rs bs) = sumM rs := by unfold sumM; rw [em]
    rw [this]; exact g.sum
theorem rbs_b : ∀ {rs : List KR} {is : List Int}, is.length = rs.length → (rbs rs (is.map V.int)).map KR.b = is
  | [], [], _ => rfl
  | r :: rs, i :: is, h => by
    have e : rbs (r :: rs) ((i :: is).map V.int) = { r with b := i } :: rbs rs (is.map V.int) := rfl
    rw [e, List.map_cons, rbs_b (rs := rs) (is := is) (by simpa using h)]
theorem all_intsV : ∀ {bs : List V}, (∀ b ∈ bs, inB b 1 3 = true) → ∃ is : List Int, bs = is.map V.int
  | [], _ => ⟨[], rfl⟩
  | b :: bs, w => by
    obtain ⟨is, e⟩ := all_intsV fun x hx => w x (List.mem_cons_of_mem _ hx)
    have z := w b List.mem_cons_self
    cases b with
    | int j => exact ⟨j :: is, by rw [e]; rfl⟩
    | _ => cases z
/-- what the law hands as blocks, by its shape -/
def gob1 (bs : List V) (sh : Int) : HO := if sh = 0 then .lst bs else .tup bs
def gob2 (bs : List V) (sh : Int) : HO := if sh = 0 then .lst bs else if sh = 1 then .tup (bs ++ [.int 1]) else .tup bs
def gob (bs : List V) (sh : Int) : HO := if sh = 0 then .lst bs else if sh = 1 then .tup (bs ++ [.int 1]) else if sh = 2 then .tup (bs.drop 1) else .tup bs
def obO (bs : List V) (sh : Int) : Option (List V) := if sh = 0 then none else if sh = 1 then some (bs ++ [.int 1]) else if sh = 2 then some (bs.drop 1) else some bs
theorem bsAt_gob {H : Hp} {g : Addr} {bs : List V} {sh : Int} (h : H g = some (gob bs sh)) (l : bs.length ≤ 9) (p : ∀ b ∈ bs, PlainV b) : BsAt H (.ref g) (obO bs sh) := by
  unfold gob at h
  unfold obO
  by_cases c0 : sh = 0
  · rw [if_pos c0] at h
    rw [if_pos c0]
    exact ⟨_, .lst h, by decide +kernel⟩
  rw [if_neg c0] at h
  rw [if_neg c0]
  by_cases c1 : sh = 1
  · rw [if_pos c1] at h
    rw [if_pos c1]
    refine ⟨g, rfl, h, by rw [List.length_append]; show bs.length + 1 ≤ 10; omega, fun b hb => ?_⟩
    rcases List.mem_append.mp hb with hb | hb
    · exact (p b hb).any
    · rw [List.mem_singleton.mp hb]; exact any_int _
  rw [if_neg c1] at h
  rw [if_neg c1]
  by_cases c2 : sh = 2
  · rw [if_pos c2] at h
    rw [if_pos c2]
    exact ⟨g, rfl, h, by rw [List.length_drop]; omega, fun b hb => (p b (List.mem_of_mem_drop hb)).any⟩
  rw [if_neg c2] at h
  rw [if_neg c2]
  exact ⟨g, rfl, h, by omega, fun b hb => (p b hb).any⟩
def goodB (bs : List V) (sh : Int) : Bool := decide (2 < sh) && bs.all fun b => inB b 1 3
theorem abs_obO {bs : List V} {sh : Int} {n : Nat} (s0 : 0 ≤ sh) (l : bs.length = n) (n0 : 0 < n) : absB (obO bs sh) n = goodB bs sh := by
  unfold obO goodB
  by_cases c0 : sh = 0
  · rw [if_pos c0, decide_eq_false (by omega)]; rfl
  rw [if_neg c0]
  by_cases c1 : sh = 1
  · rw [if_pos c1, decide_eq_false (show ¬ 2 < sh by omega)]
    unfold absB
    dsimp only
    rw [decide_eq_false (by rw [List.length_append]; show ¬ (bs.length + 1 = n); omega)]
    rfl
  rw [if_neg c1]
  by_cases c2 : sh = 2
  · rw [if_pos c2, decide_eq_false (show ¬ 2 < sh by omega)]
    unfold absB
    dsimp only
    rw [decide_eq_false (by rw [List.length_drop]; omega)]
    rfl
  rw [if_neg c2, decide_eq_true (show 2 < sh by omega)]
  unfold absB
  dsimp only
  rw [decide_eq_true l]
theorem chn_win {a c m : Int} {vw : V} (a0 : 0 ≤ a) (a4 : a ≤ 4) (c0 : 0 ≤ c) (c2 : c ≤ 2) : chn (.int a) vw (.int c) m = if isNon vw = false ∧ inB vw m 8 = false then (some "window" : Option Str) else none := by
  have i1 : inB (.int a) 0 4 = true := by
    show (decide (0 ≤ a) && decide (a ≤ 4)) = true
    rw [decide_eq_true a0, decide_eq_true a4]; rfl
  have i2 : inB (.int c) 0 2 = true := by
    show (decide (0 ≤ c) && decide (c ≤ 2)) = true
    rw [decide_eq_true c0, decide_eq_true c2]; rfl
  unfold chn
  rw [i1, i2, if_neg (by decide), if_neg (show ¬ (true = false) by decide)]
/-- the least of ones and noughts -/
theorem min_ones {bs : List V} {m : Int} (h : m ∈ bs.map fun b => if inB b 1 3 = true then (1 : Int) else 0) (g : ∀ y, y ∈ (bs.map fun b => if inB b 1 3 = true then (1 : Int) else 0) → m ≤ y) : decide (V.int m = V.int 1) = bs.all fun b => inB b 1 3 := by
  cases e : bs.all fun b => inB b 1 3 with
  | true =>
    rw [List.all_eq_true] at e
    obtain ⟨b, hb, rfl⟩ := List.mem_map.mp h
    rw [if_pos (e b hb)]; rfl
  | false =>
    have : ∃ b ∈ bs, inB b 1 3 = false := by
      rw [List.all_eq_false] at e
      obtain ⟨b, hb, z⟩ := e
      exact ⟨b, hb, by simpa using z⟩
    obtain ⟨b, hb, z⟩ := this
    have := g 0 (List.mem_map.mpr ⟨b, hb, by rw [z]; rfl⟩)
    exact decide_eq_false fun w => by injection w with w; omega
theorem up2 {H : Hp} {L M : Addr} {o x : HO} (hM : H M = none) (hL : H L = some o) : L2.upd H M x L = some o := same_new hM x _ _ hL
theorem rs_max {rs : List KR} {m : Int} (h : m ∈ rs.map KR.b) (g : ∀ y, y ∈ rs.map KR.b → y ≤ m) : m = maxB rs := max_uniq h g
theorem scVF : FnScope ["_law_system_here", "_law_rows", "_law_values", "_law_given", "_law_left", "_law_used", "_law_most", "_law_row", "_law_new", "_law_at", "_law_kept", "_law_due"] ["_law_system_here", "_law_rows", "_law_values", "_law_given", "_law_left"] (defScope sVF) := ⟨rfl, rfl, rfl, by decide +kernel, rfl, by decide +kernel, by decide +kernel⟩
theorem scBF : FnScope ["_law_system_here", "_law_rows", "_law_values", "_law_blocks", "_law_shape", "_law_given", "_law_good", "_law_chunk", "_law_changed_here", "_law_due", "_law_at"] ["_law_system_here", "_law_rows", "_law_values", "_law_blocks", "_law_shape"] (defScope sBF) := ⟨rfl, rfl, rfl, by decide +kernel, rfl, by decide +kernel, by decide +kernel⟩
def spVF (CS CD CY : Addr) : Sp := fun vs H Q _ => ∃ (y rl vl gl : Addr) (left : Int) (rvs : List V) (rs : List KR) (va vc : Int) (vw a w c : V), vs = [.ref y, .ref rl, .ref vl, .ref gl, .int left] ∧ SysAt CS CD CY H y rs (.int va) vw (.int vc) ∧ H rl = some (.lst rvs) ∧ RsS H rvs rs ∧ Gs rs ∧ H vl = some (.lst [.int va, vw, .int vc]) ∧ IntNon vw ∧ H gl = some (.lst [a, w, c]) ∧ PlainV a ∧ PlainV w ∧ PlainV c ∧ 0 ≤ left ∧ left < 4 ∧ ∀ H', Same H H' → Q (.bl true) H'
def spBF (CS CD CY : Addr) : Sp := fun vs H Q _ => ∃ (y rl vl bl : Addr) (sh : Int) (rvs bs : List V) (rs : List KR) (va vc : Int) (vw : V), vs = [.ref y, .ref rl, .ref vl, .ref bl, .int sh] ∧ SysAt CS CD CY H y rs (.int va) vw (.int vc) ∧ H rl = some (.lst rvs) ∧ RsS H rvs rs ∧ Gs rs ∧ H vl = some (.lst [.int va, vw, .int vc]) ∧ 0 ≤ va ∧ va ≤ 4 ∧ 0 ≤ vc ∧ vc ≤ 2 ∧ (vw = .non ∨ ∃ i, vw = .int i ∧ i ≤ 8) ∧ H bl = some (.lst bs) ∧ bs.length = rs.length ∧ (∀ b ∈ bs, PlainV b) ∧ 0 ≤ sh ∧ ∀ H', Same H H' → Q (.bl true) H'
section
variable {P : Program} {w : World} {K : PySem.W.Frag} {mg : Str → Option Value} {base : Heap} {CS CK CD CY CBY KD it : Addr}
theorem ok_vf {f fI fT fS : Addr} {fd fdI fdT fdS : FuncData} (F : Fun K "_law_values_fit" "_law_values_fit" sVF f fd) (B : Bl mg) (T : Txt K w mg CS CK it)
    (GI : FnOk P w K mg base CX0 1 fI fdI ["_law_value_here", "_law_least", "_law_most"] spInteger) (bI : Binds K fdI ["_law_value_here", "_law_least", "_law_most"] []) (kI : PySem.W.keepIn K (.ref fI) = true) (mI : mg "_law_integer" = some (.ref fI))
    (GT : FnOk P w K mg base CX0 16 fT fdT ["_law_system_here", "_law_given", "_law_left", "_law_blocks"] (spTo9 CS CD CY)) (bT : Binds K fdT ["_law_system_here", "_law_given", "_law_left", "_law_blocks"] []) (kT : PySem.W.keepIn K (.ref fT) = true) (mT : mg "_law_told" = some (.ref fT))
    (GS : FnOk P w K mg base CX0 15 fS fdS ["_law_told_here", "_law_due", "_law_rows", "_law_values"] (spSame CS CD CY)) (bS : Binds K fdS ["_law_told_here", "_law_due", "_law_rows", "_law_values"] []) (kS : PySem.W.keepIn K (.ref fS) = true) (mS : mg "_law_same" = some (.ref fS)) :
    FnOk P w K mg base CX0 17 f fd ["_law_system_here", "_law_rows", "_law_values", "_law_given", "_law_left"] (spVF CS CD CY) := by
  refine F.ok scVF (fun vs H Q E h => ?_) (fun cdv A outer s H vs Q E hr h => ?_)
  · obtain ⟨y, rl, vl, gl, left, rvs, rs, va, vc, vw, a, wv, c, rfl, _⟩ := h
    rfl
  obtain ⟨y, rl, vl, gl, left, rvs, rs, va, vc, vw, a, wv, c, rfl, S, hrl, hrs, gs, hvl, iw, hgl, pa, pw, pc, l0, l4, q⟩ := h
  have nd := scVF.nd
  refine ⟨_, (pss_cons (ps_set (i := 5) nd rfl (Or.inl rfl) (pe_ix ix_list (pe_lst (pa_cons (pe_lst (pa_cons (pe_bl) (pa_cons (pe_bl) (pa_cons (pe_bl) pa_nil)))) (pa_cons (pe_lst (pa_cons (pe_bl) (pa_cons (pe_bl) (pa_cons (pe_bl) pa_nil)))) (pa_cons (pe_lst (pa_cons (pe_bl) (pa_cons (pe_bl) (pa_cons (pe_bl) pa_nil)))) (pa_cons (pe_lst (pa_cons (pe_bl) (pa_cons (pe_bl) (pa_cons (pe_bl) pa_nil)))) pa_nil))))) (pv 4) (fun _ _ => rfl)))
  (pss_cons (ps_set (i := 6) nd rfl (Or.inl rfl) (pe_callB (cr_max rfl) (by rfl) B.max (by decide +kernel) (pa_cons (pe_lc (own := [("_law_row", 7)]) (g := gName 7) (tt := tYes) rfl nd (pi_list (pv 1)) (blkOk_by (own := [("_law_row", 7)]) (N := ["_law_system_here", "_law_rows", "_law_values", "_law_given", "_law_left", "_law_used", "_law_most", "_law_row", "_law_new", "_law_at", "_law_kept", "_law_due"]) (sc := defScope sVF) (by decide +kernel)) (fun _ _ _ _ _ => pg_name (i := 7) nd rfl (Or.inl rfl)) (fun _ _ _ _ _ => pts_nil) (fun _ _ _ _ _ => pe_ix (r := rIxT K) ix_tup (pv 7) (pe_int) (fun _ _ => rfl))) pa_nil)))
  (pss_cons (ps_set (i := 8) nd rfl (Or.inl rfl) (pe_callTy call_list_of (by rfl) T.list (by decide +kernel) (pa_cons (pv 2) pa_nil)))
  (pss_cons (ps_for PassesOwn.never rfl (pi_range1 rfl B.range (pa_cons (pe_int) pa_nil)) (pg_name (i := 9) nd rfl (Or.inl rfl)) (pss_cons (ps_set (i := 10) nd rfl (Or.inl rfl) (pe_call GI (hr.mono (by decide)) rfl mI kI bI .nil pass0 (pa_cons (pe_ix ix_list (pv 3) (pv 9) (fun _ _ => rfl)) (pa_cons (pe_op op_sub (pe_int) (pe_int)) (pa_cons (pe_op op_sub (pe_int) (pe_int)) pa_nil)))))
  (pss_one (ps_if (PW.pt (pw_and (pt_val (pe_ix ix_list (pv 5) (pv 9) (fun _ _ => rfl))) (pw_and1 (pt_not (pt_val (pv 10)))))) (pss_one (ps_asg (pe_ix ix_list (pv 3) (pv 9) (fun _ _ => rfl)) (pg_sub (pv 8) (pv 9) set_list))) pss_nil))))
  (pss_cons (ps_set (i := 11) nd rfl (Or.inl rfl) (pe_non))
  (C8.pss_cut (ps_if (pt_not (pt_val (pe_call GI (hr.mono (by decide)) rfl mI kI bI .nil pass0 (pa_cons (pe_ix ix_list (pv 8) (pe_int) (fun _ _ => rfl)) (pa_cons (pe_int) (pa_cons (pe_int) pa_nil)))))) (pss_one (ps_set (i := 11) nd rfl (Or.inl rfl) (pe_str))) pss_nil)
  (C8.pss_cut (ps_if (PW.pt (pw_and (pt_cmpR op_notN (pe_ix ix_list (pv 8) (pe_int) (fun _ _ => rfl)) (pe_non) (nomark _)) (pw_and1 (pt_not (pt_val (pe_call GI (hr.mono (by decide)) rfl mI kI bI .nil pass0 (pa_cons (pe_ix ix_list (pv 8) (pe_int) (fun _ _ => rfl)) (pa_cons (pv 6) (pa_cons (pe_int) pa_nil))))))))) (pss_one (ps_set (i := 11) nd rfl (Or.inl rfl) (pe_str))) pss_nil)
  (C8.pss_cut (ps_if (pt_not (pt_val (pe_call GI (hr.mono (by decide)) rfl mI kI bI .nil pass0 (pa_cons (pe_ix ix_list (pv 8) (pe_int) (fun _ _ => rfl)) (pa_cons (pe_int) (pa_cons (pe_int) pa_nil)))))) (pss_one (ps_set (i := 11) nd rfl (Or.inl rfl) (pe_str))) pss_nil)
  (pss_one (ps_ret (pe_call GS (hr.mono (by decide)) rfl mS kS bS .nil pass0 (pa_cons (pe_call GT (hr.mono (by decide)) rfl mT kT bT .nil pass0 (pa_cons (pv 0) (pa_cons (pv 3) (pa_cons (pv 4) (pa_cons (pe_non) pa_nil))))) (pa_cons (pv 11) (pa_cons (pv 1) (pa_cons (pv 8) pa_nil))))))))))))))), ?_⟩
  have three : ∀ u v w : V, ([u, v, w] : List V).length ≤ sizeLine := fun _ _ _ => by show 3 ≤ sizeLine; decide
  refine ⟨three _ _ _, fun M1 h1 => ⟨three _ _ _, fun M2 h2 => ⟨three _ _ _, fun M3 h3 => ⟨three _ _ _, fun M4 h4 => ⟨(by show 4 ≤ sizeLine; decide), fun M5 h5 => ?_⟩⟩⟩⟩⟩
  have hU : ∃ HU U, HU = (L2.upd (L2.upd (L2.upd (L2.upd (L2.upd H M1 (.lst [V.bl true, .bl true, .bl true])) M2 (.lst [V.bl false, .bl true, .bl false])) M3 (.lst [V.bl true, .bl false, .bl true])) M4 (.lst [V.bl false, .bl false, .bl false])) M5 (.lst [V.ref M1, .ref M2, .ref M3, .ref M4])) ∧ Same H HU ∧ HU M5 = some (.lst [V.ref M1, .ref M2, .ref M3, .ref M4]) ∧ atI [V.ref M1, .ref M2, .ref M3, .ref M4] left = some (.ref U) ∧ HU U = some (.lst [.bl (decide (left = 0 ∨ left = 2)), .bl (decide (left = 0 ∨ left = 1)), .bl (decide (left = 0 ∨ left = 2))]) := by
    have l : left = 0 ∨ left = 1 ∨ left = 2 ∨ left = 3 := by omega
    rcases l with rfl | rfl | rfl | rfl
    · exact ⟨_, M1, rfl, (fun a o e => up2 h5 (up2 h4 (up2 h3 (up2 h2 (up2 h1 e))))), upd_same, rfl, up2 h5 (up2 h4 (up2 h3 (up2 h2 upd_same)))⟩
    · exact ⟨_, M2, rfl, (fun a o e => up2 h5 (up2 h4 (up2 h3 (up2 h2 (up2 h1 e))))), upd_same, rfl, up2 h5 (up2 h4 (up2 h3 upd_same))⟩
    · exact ⟨_, M3, rfl, (fun a o e => up2 h5 (up2 h4 (up2 h3 (up2 h2 (up2 h1 e))))), upd_same, rfl, up2 h5 (up2 h4 upd_same)⟩
    · exact ⟨_, M4, rfl, (fun a o e => up2 h5 (up2 h4 (up2 h3 (up2 h2 (up2 h1 e))))), upd_same, rfl, up2 h5 upd_same⟩
  obtain ⟨HU, U, eU, sU, h5', atU, hU⟩ := hU
  rw [← eU]
  clear eU h1 h2 h3 h4 h5
  refine ⟨_, rfl, M5, _, _, _, rfl, rfl, SqL.of h5', atU, ?_⟩
  have fewr := gs.two
  refine ⟨_, rfl, rl, rfl, ⟨_, SqL.of (sU _ _ hrl)⟩, fun D hD => ?_⟩
  refine lc_list (K := K) (a := rl) (xs := rvs) (fun i H3 => H3 D = some (.lst (((rs.take i).map KR.b).map V.int)) ∧ Same HU H3 ∧ i ≤ rs.length) ⟨upd_same, same_new hD _, Nat.zero_le _⟩ (fun i H3 _ z => SqL.of (z.2.1 _ _ (sU _ _ hrl))) ?_ ?_
  · rintro i v H3 hv ⟨h3, s3, _⟩
    obtain ⟨r, er, t, b, rfl, ht, hb⟩ := hrs.at hv
    refine ⟨rfl, ?_⟩
    unfold tYes
    dsimp only
    rw [if_pos rfl]
    exact ⟨_, rfl, t, _, _, _, rfl, rfl, SqT.of (s3 _ _ (sU _ _ ht)), rfl, tail1 (g := V.int) (φ := KR.b) er (by omega) hD h3 s3 (Same.refl _)⟩
  rintro H3 ⟨h3, s3, _⟩
  rw [hrs.len, List.take_length] at h3
  refine ⟨D, _, rfl, SqL.of h3, by rw [List.length_map]; exact List.length_pos_iff.mpr gs.ne, fun m hm1 hm2 => ?_⟩
  have em : m = maxB rs := rs_max hm1 hm2
  subst em
  have s03 := sU.trans s3
  have hU3 := s3 _ _ hU
  clear h3 hD h5' atU
  refine ⟨_, rfl, vl, _, rfl, .inl (SqL.of (s03 _ _ hvl)), fun N hN => ?_⟩
  have eA : keptV (gvA left a) (.int va) = if ((decide (left = 0 ∨ left = 2)) && !inB a (-1) (-1)) = true then a else .int va := by rw [gvA_if, kept_if]
  have eW : keptV (gvW left wv) vw = if ((decide (left = 0 ∨ left = 1)) && !inB wv (-1) (-1)) = true then wv else vw := by rw [gvW_if, kept_if]
  have eC : keptV (gvA left c) (.int vc) = if ((decide (left = 0 ∨ left = 2)) && !inB c (-1) (-1)) = true then c else .int vc := by rw [gvA_if, kept_if]
  refine ⟨_, rfl, by decide, by decide, ?_⟩
  refine for_range (lo := 0) (n := 3) (fun i σ H' => ∃ v9 v10 : Option V, σ = [some (.ref y), some (.ref rl), some (.ref vl), some (.ref gl), some (.int left), some (.ref U), some (.int (maxB rs)), none, some (.ref N), v9, v10, none] ∧ Same H3 H' ∧
    H' N = some (.lst [if 0 < i then keptV (gvA left a) (.int va) else .int va, if 1 < i then keptV (gvW left wv) vw else vw, if 2 < i then keptV (gvA left c) (.int vc) else .int vc])) ⟨none, none, rfl, same_new hN _, upd_same⟩ ?_ ?_
  · rintro i σ H4 hi ⟨v9, v10, rfl, s4, hN4⟩
    have s04 := s03.trans s4
    have hg4 := s04 _ _ hgl
    have hU4 := s4 _ _ hU3
    rcases (show i = 0 ∨ i = 1 ∨ i = 2 by omega) with rfl | rfl | rfl
    · obtain ⟨Ta, ka⟩ := pa.any (H := H4)
      refine ⟨_, rfl, _, rfl, gl, _, _, _, rfl, rfl, SqL.of hg4, rfl, _, _, rfl, rfl, _, _, rfl, rfl, a, Ta, _, _, rfl, ka, ?_⟩
      refine ⟨_, rfl, _, rfl, U, _, _, _, rfl, rfl, SqL.of hU4, rfl, _, rfl, ?_⟩
      by_cases hu : (decide (left = 0 ∨ left = 2)) = true
      · refine iteTb hu ⟨_, rfl, _, rfl, ?_⟩
        by_cases hk : inB a (-1) (-1) = true
        · refine iteFb (show (!inB a (-1) (-1)) = false by rw [hk]; rfl) ⟨_, _, rfl, s4, ?_⟩
          rw [hN4, eA, if_neg (show ¬ (((decide (left = 0 ∨ left = 2)) && !inB a (-1) (-1)) = true) by rw [hk]; simp)]
          rfl
        · refine iteTb (show (!inB a (-1) (-1)) = true by simpa using hk) ⟨_, rfl, _, rfl, gl, _, _, _, rfl, rfl, SqL.of hg4, rfl, _, rfl, _, rfl, N, _, 0, 0, rfl, rfl, hN4, rfl, ?_⟩
          refine ⟨_, _, rfl, fun b o z => by rw [upd_ne (ne_of_none z hN)]; exact s4 _ _ z, ?_⟩
          rw [upd_same, eA, if_pos (show ((decide (left = 0 ∨ left = 2)) && !inB a (-1) (-1)) = true by rw [hu]; simpa using hk)]
          rfl
      · refine iteFb (by simpa using hu) ⟨_, _, rfl, s4, ?_⟩
        rw [hN4, eA, if_neg (show ¬ (((decide (left = 0 ∨ left = 2)) && !inB a (-1) (-1)) = true) by rw [Bool.and_eq_true]; exact fun z => hu z.1)]
        rfl
    · obtain ⟨Ta, ka⟩ := pw.any (H := H4)
      refine ⟨_, rfl, _, rfl, gl, _, _, _, rfl, rfl, SqL.of hg4, rfl, _, _, rfl, rfl, _, _, rfl, rfl, wv, Ta, _, _, rfl, ka, ?_⟩
      refine ⟨_, rfl, _, rfl, U, _, _, _, rfl, rfl, SqL.of hU4, rfl, _, rfl, ?_⟩
      by_cases hu : (decide (left = 0 ∨ left = 1)) = true
      · refine iteTb hu ⟨_, rfl, _, rfl, ?_⟩
        by_cases hk : inB wv (-1) (-1) = true
        · refine iteFb (show (!inB wv (-1) (-1)) = false by rw [hk]; rfl) ⟨_, _, rfl, s4, ?_⟩
          rw [hN4, eW, if_neg (show ¬ (((decide (left = 0 ∨ left = 1)) && !inB wv (-1) (-1)) = true) by rw [hk]; simp)]
          rfl
        · refine iteTb (show (!inB wv (-1) (-1)) = true by simpa using hk) ⟨_, rfl, _, rfl, gl, _, _, _, rfl, rfl, SqL.of hg4, rfl, _, rfl, _, rfl, N, _, 1, 1, rfl, rfl, hN4, rfl, ?_⟩
          refine ⟨_, _, rfl, fun b o z => by rw [upd_ne (ne_of_none z hN)]; exact s4 _ _ z, ?_⟩
          rw [upd_same, eW, if_pos (show ((decide (left = 0 ∨ left = 1)) && !inB wv (-1) (-1)) = true by rw [hu]; simpa using hk)]
          rfl
      · refine iteFb (by simpa using hu) ⟨_, _, rfl, s4, ?_⟩
        rw [hN4, eW, if_neg (show ¬ (((decide (left = 0 ∨ left = 1)) && !inB wv (-1) (-1)) = true) by rw [Bool.and_eq_true]; exact fun z => hu z.1)]
        rfl
    · obtain ⟨Ta, ka⟩ := pc.any (H := H4)
      refine ⟨_, rfl, _, rfl, gl, _, _, _, rfl, rfl, SqL.of hg4, rfl, _, _, rfl, rfl, _, _, rfl, rfl, c, Ta, _, _, rfl, ka, ?_⟩
      refine ⟨_, rfl, _, rfl, U, _, _, _, rfl, rfl, SqL.of hU4, rfl, _, rfl, ?_⟩
      by_cases hu : (decide (left = 0 ∨ left = 2)) = true
      · refine iteTb hu ⟨_, rfl, _, rfl, ?_⟩
        by_cases hk : inB c (-1) (-1) = true
        · refine iteFb (show (!inB c (-1) (-1)) = false by rw [hk]; rfl) ⟨_, _, rfl, s4, ?_⟩
          rw [hN4, eC, if_neg (show ¬ (((decide (left = 0 ∨ left = 2)) && !inB c (-1) (-1)) = true) by rw [hk]; simp)]
          rfl
        · refine iteTb (show (!inB c (-1) (-1)) = true by simpa using hk) ⟨_, rfl, _, rfl, gl, _, _, _, rfl, rfl, SqL.of hg4, rfl, _, rfl, _, rfl, N, _, 2, 2, rfl, rfl, hN4, rfl, ?_⟩
          refine ⟨_, _, rfl, fun b o z => by rw [upd_ne (ne_of_none z hN)]; exact s4 _ _ z, ?_⟩
          rw [upd_same, eC, if_pos (show ((decide (left = 0 ∨ left = 2)) && !inB c (-1) (-1)) = true by rw [hu]; simpa using hk)]
          rfl
      · refine iteFb (by simpa using hu) ⟨_, _, rfl, s4, ?_⟩
        rw [hN4, eC, if_neg (show ¬ (((decide (left = 0 ∨ left = 2)) && !inB c (-1) (-1)) = true) by rw [Bool.and_eq_true]; exact fun z => hu z.1)]
        rfl
  rintro σ H4 ⟨v9, v10, rfl, s4, hN4⟩
  rw [if_pos (by decide), if_pos (by decide), if_pos (by decide)] at hN4
  have s04 := s03.trans s4
  have PA : PlainV (keptV (gvA left a) (.int va)) := by rw [eA]; exact if_plain pa (PlainV.int _)
  have PW' : PlainV (keptV (gvW left wv) vw) := by rw [eW]; exact if_plain pw iw.plain
  have PC : PlainV (keptV (gvA left c) (.int vc)) := by rw [eC]; exact if_plain pc (PlainV.int _)
  clear eA eW eC
  obtain ⟨A', eA⟩ : ∃ A', A' = keptV (gvA left a) (.int va) := ⟨_, rfl⟩
  obtain ⟨W', eW⟩ : ∃ W', W' = keptV (gvW left wv) vw := ⟨_, rfl⟩
  obtain ⟨C', eC⟩ : ∃ C', C' = keptV (gvA left c) (.int vc) := ⟨_, rfl⟩
  rw [← eA] at hN4 PA
  rw [← eW] at hN4 PW'
  rw [← eC] at hN4 PC
  obtain ⟨Ta, ka⟩ := PA.any (H := H4)
  obtain ⟨Tw, kw⟩ := PW'.any (H := H4)
  obtain ⟨Tc, kc⟩ := PC.any (H := H4)
  refine ⟨fun σ' H' => H' = H4 ∧ σ' = [some (.ref y), some (.ref rl), some (.ref vl), some (.ref gl), some (.int left), some (.ref U), some (.int (maxB rs)), none, some (.ref N), v9, v10, some (optV (if inB C' 0 2 = false then (some "crashes" : Option Str) else none))], ?_, ?_⟩
  · refine ⟨_, rfl, N, _, _, _, rfl, rfl, SqL.of hN4, rfl, C', Tc, _, _, rfl, kc, _, rfl, ?_⟩
    by_cases hk : inB C' 0 2 = false
    · refine iteTb (show (!inB C' 0 2) = true by rw [hk]; rfl) ⟨rfl, ?_⟩
      rw [if_pos hk]; rfl
    · refine iteFb (show (!inB C' 0 2) = false by simpa using hk) ⟨rfl, ?_⟩
      rw [if_neg hk]; rfl
  rintro σ' H5 ⟨e5, rfl⟩
  subst e5
  refine ⟨fun σ' H' => H' = H5 ∧ σ' = [some (.ref y), some (.ref rl), some (.ref vl), some (.ref gl), some (.int left), some (.ref U), some (.int (maxB rs)), none, some (.ref N), v9, v10, some (optV (if isNon W' = false ∧ inB W' (maxB rs) 8 = false then (some "window" : Option Str) else if inB C' 0 2 = false then some "crashes" else none))], ?_, ?_⟩
  · refine ⟨_, rfl, N, _, _, _, rfl, rfl, SqL.of hN4, rfl, rfl, _, rfl, ?_⟩
    cases en : isNon W' with
    | true =>
      have ew : W' = .non := by
        cases hW : W' with
        | non => rfl
        | _ => rw [hW] at en; cases en
      refine iteFb (by rw [ew]; rfl) ⟨rfl, ?_⟩
      rw [if_neg (show ¬ (true = false ∧ inB W' (maxB rs) 8 = false) from fun z => by cases z.1)]
    | false =>
      have nw : W' ≠ .non := fun z => by rw [z] at en; cases en
      refine iteTb (show (!decide (W' = V.non)) = true by rw [decide_eq_false nw]; rfl) ⟨_, rfl, N, _, _, _, rfl, rfl, SqL.of hN4, rfl, _, rfl, W', Tw, _, _, rfl, kw, _, rfl, ?_⟩
      by_cases hk : inB W' (maxB rs) 8 = false
      · refine iteTb (show (!inB W' (maxB rs) 8) = true by rw [hk]; rfl) ⟨rfl, ?_⟩
        rw [if_pos (show false = false ∧ inB W' (maxB rs) 8 = false from ⟨rfl, hk⟩)]; rfl
      · refine iteFb (show (!inB W' (maxB rs) 8) = false by simpa using hk) ⟨rfl, ?_⟩
        rw [if_neg (show ¬ (false = false ∧ inB W' (maxB rs) 8 = false) from fun z => hk z.2)]
  rintro σ' H6 ⟨e6, rfl⟩
  subst e6
  refine ⟨fun σ' H' => H' = H6 ∧ σ' = [some (.ref y), some (.ref rl), some (.ref vl), some (.ref gl), some (.int left), some (.ref U), some (.int (maxB rs)), none, some (.ref N), v9, v10, some (optV (chn A' W' C' (maxB rs)))], ?_, ?_⟩
  · refine ⟨_, rfl, N, _, _, _, rfl, rfl, SqL.of hN4, rfl, A', Ta, _, _, rfl, ka, _, rfl, ?_⟩
    unfold chn
    by_cases hk : inB A' 0 4 = false
    · refine iteTb (show (!inB A' 0 4) = true by rw [hk]; rfl) ⟨rfl, ?_⟩
      rw [if_pos hk]; rfl
    · refine iteFb (show (!inB A' 0 4) = false by simpa using hk) ⟨rfl, ?_⟩
      rw [if_neg hk]
  rintro σ' H7 ⟨e7, rfl⟩
  subst e7
  have ia : ∀ {H : Hp}, AnyV H vw := fun {H} => iw.plain.any
  refine ⟨_, rfl, _, rfl, _, rfl, y, gl, left, .non, rs, rs, .int va, vw, .int vc, A', W', C', chn A' W' C' (maxB rs), rfl, S.keep s04, by omega, gs.ok, any_int _, ia, any_int _, .inl ⟨a, wv, c, rfl, s04 _ _ hgl, pa.any, pw.any, pc.any, rfl, eA, eW, eC, (gs.y _ _ _).symm⟩, fun z ez u H8 s8 hu => ?_, fun ez u y' H8 s8 hu S8 => ?_⟩
  · refine ⟨_, rfl, _, rfl, _, rfl, u, _, rl, N, some z, rfl, congrArg optV ez, fun z' e => ?_, fun e => (nomatch e), fun H' s9 => q H' ((s04.trans s8).trans s9)⟩
    injection e with e
    subst e
    exact ⟨chain_ok ez, hu⟩
  · obtain ⟨⟨a', rfl⟩, iW, ⟨c', rfl⟩⟩ := chain_none ez
    refine ⟨_, rfl, _, rfl, _, rfl, u, _, rl, N, none, rfl, congrArg optV ez, fun z' e => (nomatch e), fun _ => ⟨y', rvs, rs, a', c', W', hu, S8, s8 _ _ (s04 _ _ hrl), hrs.nl (NL.same (s04.trans s8)), gs, s8 _ _ hN4, iW, by rw [gs.y]; exact ez⟩, fun H' s9 => q H' ((s04.trans s8).trans s9)⟩
end
end Tk
set_option maxRecDepth 100000
namespace Tk
open PySem L2 StK
section
variable {P : Program} {w : World} {K : PySem.W.Frag} {mg : Str → Option Value} {base : Heap} {CS CK CD CY CBY KD it : Addr}
theorem obO_good {bs : List V} {sh : Int} (h : goodB bs sh = true) : 2 < sh ∧ (∀ b ∈ bs, inB b 1 3 = true) ∧ obO bs sh = some bs := by
  unfold goodB at h
  rw [Bool.and_eq_true] at h
  have h2 := of_decide_eq_true h.1
  refine ⟨h2, fun b hb => (List.all_eq_true.mp h.2) b hb, ?_⟩
  unfold obO
  rw [if_neg (by omega), if_neg (by omega), if_neg (by omega)]
theorem wb_eq {rs : List KR} {bs : List V} {sh : Int} {va vw vc : V} (gs : Gs rs) (lb : bs.length = rs.length) (sh0 : 0 ≤ sh) : wbWhy rs va vw vc (obO bs sh) = if goodB bs sh = true then chn va vw vc (maxB (rbs rs bs)) else some "blocks" := by
  have ner : 0 < rs.length := List.length_pos_iff.mpr gs.ne
  unfold wbWhy
  rw [abs_obO sh0 lb ner]
  by_cases h : goodB bs sh = true
  · obtain ⟨_, w, e⟩ := obO_good h
    rw [if_pos h, if_pos h, e]
    exact (gs.rbs lb w).y _ _ _
  · rw [if_neg h, if_neg h]
theorem ok_bf {f fI fT fS : Addr} {fd fdI fdT fdS : FuncData} (F : Fun K "_law_blocks_fit" "_law_blocks_fit" sBF f fd) (B : Bl mg) (Bmin : mg "min" = none) (T : Txt K w mg CS CK it)
    (GI : FnOk P w K mg base CX0 1 fI fdI ["_law_value_here", "_law_least", "_law_most"] spInteger) (bI : Binds K fdI ["_law_value_here", "_law_least", "_law_most"] []) (kI : PySem.W.keepIn K (.ref fI) = true) (mI : mg "_law_integer" = some (.ref fI))
    (GT : FnOk P w K mg base CX0 16 fT fdT ["_law_system_here", "_law_given", "_law_left", "_law_blocks"] (spTo9 CS CD CY)) (bT : Binds K fdT ["_law_system_here", "_law_given", "_law_left", "_law_blocks"] []) (kT : PySem.W.keepIn K (.ref fT) = true) (mT : mg "_law_told" = some (.ref fT))
    (GS : FnOk P w K mg base CX0 15 fS fdS ["_law_told_here", "_law_due", "_law_rows", "_law_values"] (spSame CS CD CY)) (bS : Binds K fdS ["_law_told_here", "_law_due", "_law_rows", "_law_values"] []) (kS : PySem.W.keepIn K (.ref fS) = true) (mS : mg "_law_same" = some (.ref fS)) :
    FnOk P w K mg base CX0 17 f fd ["_law_system_here", "_law_rows", "_law_values", "_law_blocks", "_law_shape"] (spBF CS CD CY) := by
  refine F.ok scBF (fun vs H Q E h => ?_) (fun cdv A outer s H vs Q E hr h => ?_)
  · obtain ⟨y, rl, vl, bl, sh, rvs, bs, rs, va, vc, vw, rfl, _⟩ := h
    rfl
  obtain ⟨y, rl, vl, bl, sh, rvs, bs, rs, va, vc, vw, rfl, S, hrl, hrs, gs, hvl, a0, a4, c0, c2, hw, hbl, lb, pb, sh0, q⟩ := h
  have nd := scBF.nd
  refine ⟨_, (pss_cons (ps_set (i := 5) nd rfl (Or.inl rfl) (pe_callTy call_tuple_of (by rfl) B.tuple (by decide +kernel) (pa_cons (pv 3) pa_nil)))
  (C8.pss_cut (ps_if (pt_cmpR op_eq (pv 4) (pe_int) (nomark _)) (pss_one (ps_set (i := 5) nd rfl (Or.inl rfl) (pe_callTy call_list_of (by rfl) T.list (by decide +kernel) (pa_cons (pv 3) pa_nil)))) pss_nil)
  (C8.pss_cut (ps_if (pt_cmpR op_eq (pv 4) (pe_int) (nomark _)) (pss_one (ps_set (i := 5) nd rfl (Or.inl rfl) (pe_op op_catT (pv 5) (pe_tup (pa_cons (pe_int) pa_nil))))) pss_nil)
  (C8.pss_cut (ps_if (pt_cmpR op_eq (pv 4) (pe_int) (nomark _)) (pss_one (ps_set (i := 5) nd rfl (Or.inl rfl) (pe_slice sl_tup (pv 5) (po_some (pe_int)) po_none))) pss_nil)
  (C8.pss_cut (ps_set (i := 6) nd rfl (Or.inl rfl) (pe_and (pe_cmpR op_gt (pv 4) (pe_int) (nomark _)) (pe_one (pe_cmpR op_eq (pe_callB (cr_min rfl) (by rfl) Bmin (by decide +kernel) (pa_cons (pe_lc (own := [("_law_chunk", 7)]) (g := gName 7) (tt := tYes) rfl nd (pi_list (pv 3)) (blkOk_by (own := [("_law_chunk", 7)]) (N := ["_law_system_here", "_law_rows", "_law_values", "_law_blocks", "_law_shape", "_law_given", "_law_good", "_law_chunk", "_law_changed_here", "_law_due", "_law_at"]) (sc := defScope sBF) (by decide +kernel)) (fun _ _ _ _ _ => pg_name (i := 7) nd rfl (Or.inl rfl)) (fun _ _ _ _ _ => pts_nil) (fun _ _ _ _ _ => pe_callTy call_int1 (by rfl) B.int (by decide +kernel) (pa_cons (pe_call GI (hr.mono (by decide)) rfl mI kI bI .nil pass0 (pa_cons (pv 7) (pa_cons (pe_int) (pa_cons (pe_int) pa_nil)))) pa_nil))) pa_nil)) (pe_int) (nomark _)))))
  (pss_cons (ps_set (i := 8) nd rfl (Or.inl rfl) (pe_lst pa_nil))
  (pss_cons (ps_set (i := 9) nd rfl (Or.inl rfl) (pe_str))
  (C8.pss_cut (ps_if (pt_val (pv 6)) (pss_cons (ps_setLc (i := 8) (own := [("_law_at", 10)]) (g := gName 10) (tt := tYes) rfl nd rfl rfl (sw_true rfl rfl rfl (by decide +kernel)) (pi_range1 rfl B.range (pa_cons (pe_callB call_len_seq (by rfl) B.len PySem.boot_len (pa_cons (pv 1) pa_nil)) pa_nil)) (blkOk_by (own := [("_law_at", 10)]) (N := ["_law_system_here", "_law_rows", "_law_values", "_law_blocks", "_law_shape", "_law_given", "_law_good", "_law_chunk", "_law_changed_here", "_law_due", "_law_at"]) (sc := defScope sBF) (by decide +kernel)) (fun _ _ _ _ _ => pg_name (i := 10) nd rfl (Or.inl rfl)) (fun _ _ _ _ _ => pts_nil) (fun _ _ _ _ _ => pe_op (r := rCatT K) op_catT (pe_op (r := rCatT K) op_catT (pe_slice (r := rSlT K) sl_tup (pe_ix (r := rIxL K) ix_list (pv 1) (pv 10) (fun _ _ => rfl)) po_none (po_some (pe_int))) (pe_tup (pa_cons (pe_ix (r := rIxL K) ix_list (pv 3) (pv 10) (fun _ _ => rfl)) pa_nil))) (pe_slice (r := rSlT K) sl_tup (pe_ix (r := rIxL K) ix_list (pv 1) (pv 10) (fun _ _ => rfl)) (po_some (pe_int)) po_none)))
  (pss_cons (ps_set (i := 9) nd rfl (Or.inl rfl) (pe_non))
  (pss_one (ps_if (PW.pt (pw_and (pt_cmpR op_notN (pe_ix ix_list (pv 2) (pe_int) (fun _ _ => rfl)) (pe_non) (nomark _)) (pw_and1 (pt_cmpR op_gt (pe_callB (cr_max rfl) (by rfl) B.max (by decide +kernel) (pa_cons (pv 3) pa_nil)) (pe_ix ix_list (pv 2) (pe_int) (fun _ _ => rfl)) (nomark _))))) (pss_one (ps_set (i := 9) nd rfl (Or.inl rfl) (pe_str))) pss_nil)))) pss_nil)
  (pss_one (ps_ret (pe_call GS (hr.mono (by decide)) rfl mS kS bS .nil pass0 (pa_cons (pe_call GT (hr.mono (by decide)) rfl mT kT bT .nil pass0 (pa_cons (pv 0) (pa_cons (pe_lst pa_nil) (pa_cons (pe_int) (pa_cons (pe_tup (pa_cons (pv 5) pa_nil)) pa_nil))))) (pa_cons (pv 9) (pa_cons (pv 8) (pa_cons (pv 2) pa_nil))))))))))))))), ?_⟩
  have fewr := gs.two
  have ner : 0 < rs.length := List.length_pos_iff.mpr gs.ne
  have lb2 : bs.length ≤ 2 := by omega
  have nb : bs ≠ [] := fun z => by rw [z] at lb; simp at lb; omega
  refine ⟨_, rfl, bl, _, rfl, .inl ⟨SqL.of hbl, fun G hG => ?_⟩⟩
  have s1 := same_new hG (.tup bs)
  refine ⟨fun σ' H' => ∃ g : Addr, σ' = [some (.ref y), some (.ref rl), some (.ref vl), some (.ref bl), some (.int sh), some (.ref g), none, none, none, none, none] ∧ Same H H' ∧ H' g = some (gob1 bs sh), ?_, ?_⟩
  · refine ⟨_, rfl, rfl, _, rfl, ite2 (fun e => ?_) (fun e => ?_)⟩
    · have e : sh = 0 := by have := of_decide_eq_true e; injection this
      refine ⟨_, rfl, bl, _, rfl, .inl (SqL.of (s1 _ _ hbl)), fun G2 hG2 => ⟨G2, rfl, s1.trans (same_new hG2 _), ?_⟩⟩
      rw [upd_same]; unfold gob1; rw [if_pos e]
    · have e : sh ≠ 0 := fun z => e (decide_eq_true (by rw [z]))
      refine ⟨G, rfl, s1, ?_⟩
      rw [upd_same]; unfold gob1; rw [if_neg e]
  rintro σ1 H1 ⟨g1, rfl, t1, hg1⟩
  clear s1 hG
  refine ⟨fun σ' H' => ∃ g : Addr, σ' = [some (.ref y), some (.ref rl), some (.ref vl), some (.ref bl), some (.int sh), some (.ref g), none, none, none, none, none] ∧ Same H H' ∧ H' g = some (gob2 bs sh), ?_, ?_⟩
  · refine ⟨_, rfl, rfl, _, rfl, ite2 (fun e => ?_) (fun e => ?_)⟩
    · have e : sh = 1 := by have := of_decide_eq_true e; injection this
      have hg1' : H1 g1 = some (.tup bs) := by rw [hg1]; unfold gob1; rw [if_neg (by omega)]
      refine ⟨_, rfl, (by show 1 ≤ sizeLine; decide), fun O hO => ?_⟩
      have s2 := same_new hO (.tup [V.int 1])
      refine ⟨g1, O, _, _, rfl, rfl, SqT.of (s2 _ _ hg1'), SqT.of upd_same, nb, (by show bs.length + 1 ≤ sizeLine; exact small10 (by omega)), fun z => (nomatch z), fun _ p hp => ⟨p, rfl, (t1.trans s2).trans (same_new hp _), ?_⟩⟩
      rw [upd_same]; unfold gob2; rw [if_neg (by omega), if_pos e]
    · have e : sh ≠ 1 := fun z => e (decide_eq_true (by rw [z]))
      refine ⟨g1, rfl, t1, ?_⟩
      rw [hg1]; unfold gob1 gob2; rw [if_neg e]
  rintro σ2 H2 ⟨g2, rfl, t2, hg2⟩
  clear hg1 t1
  refine ⟨fun σ' H' => ∃ g : Addr, σ' = [some (.ref y), some (.ref rl), some (.ref vl), some (.ref bl), some (.int sh), some (.ref g), none, none, none, none, none] ∧ Same H H' ∧ H' g = some (gob bs sh), ?_, ?_⟩
  · refine ⟨_, rfl, rfl, _, rfl, ite2 (fun e => ?_) (fun e => ?_)⟩
    · have e : sh = 2 := by have := of_decide_eq_true e; injection this
      have hg2' : H2 g2 = some (.tup bs) := by rw [hg2]; unfold gob2; rw [if_neg (by omega), if_neg (by omega)]
      refine ⟨_, rfl, _, rfl, g2, _, rfl, SqT.of hg2', ?_, fun p hp => ⟨p, rfl, t2.trans (same_new hp _), ?_⟩⟩
      · rintro ⟨z, _⟩
        rw [show (some (1 : Int)) = some ((1 : Nat) : Int) from rfl, HT.sIx_nat] at z
        omega
      · rw [upd_same]; unfold gob; rw [if_neg (by omega), if_neg (by omega), if_pos e]
        have ec : cutV bs (some 1) none = bs.drop 1 := by
          unfold cutV
          rw [show (some (1 : Int)) = some ((1 : Nat) : Int) from rfl, HT.sIx_nat, HT.sIx_none, Nat.min_eq_left (by omega), List.take_of_length_le (by rw [List.length_drop]; omega)]
        rw [ec]
    · have e : sh ≠ 2 := fun z => e (decide_eq_true (by rw [z]))
      refine ⟨g2, rfl, t2, ?_⟩
      rw [hg2]; unfold gob2 gob; rw [if_neg e]
  rintro σ3 H3 ⟨g3, rfl, t3, hg3⟩
  clear hg2 t2
  refine ⟨fun σ' H' => σ' = [some (.ref y), some (.ref rl), some (.ref vl), some (.ref bl), some (.int sh), some (.ref g3), some (.bl (goodB bs sh)), none, none, none, none] ∧ Same H3 H', ?_, ?_⟩
  · refine ⟨_, rfl, _, _, rfl, rfl, _, rfl, ?_⟩
    by_cases h2 : 2 < sh
    · refine iteTb (decide_eq_true h2) ⟨_, rfl, bl, rfl, ⟨_, SqL.of (t3 _ _ hbl)⟩, fun D hD => ?_⟩
      refine lc_list (K := K) (a := bl) (xs := bs) (fun i H4 => H4 D = some (.lst (((bs.take i).map fun b => (if inB b 1 3 = true then (1 : Int) else 0)).map V.int)) ∧ Same H3 H4) ⟨upd_same, same_new hD _⟩ (fun i H4 _ z => SqL.of (z.2 _ _ (t3 _ _ hbl))) ?_ ?_
      · rintro i v H4 hv ⟨h4, s4⟩
        refine ⟨rfl, ?_⟩
        unfold tYes
        dsimp only
        rw [if_pos rfl]
        obtain ⟨Tv, kv⟩ := (pb v (List.mem_of_getElem? hv)).any (H := H4)
        refine ⟨_, rfl, v, Tv, _, _, rfl, kv, .inr ⟨_, rfl, _, h4, small10 ?_, ?_, fun b o z => ?_⟩⟩
        · rw [List.length_map, List.length_map, List.length_take]; omega
        · rw [upd_same, List.take_add_one, hv]; simp
        · rw [upd_ne (ne_of_none z hD)]; exact s4 _ _ z
      rintro H4 ⟨h4, s4⟩
      rw [List.take_length] at h4
      refine ⟨D, _, rfl, SqL.of h4, by rw [List.length_map]; omega, fun m hm1 hm2 => ?_⟩
      have em := min_ones hm1 hm2
      refine ⟨rfl, ?_⟩
      rw [em]
      refine ⟨?_, s4⟩
      unfold goodB
      rw [decide_eq_true h2]
      rfl
    · refine iteFb (decide_eq_false h2) ⟨?_, Same.refl _⟩
      unfold goodB
      rw [decide_eq_false h2]
      rfl
  rintro σ4 H4 ⟨rfl, s4⟩
  have t4 := t3.trans s4
  have hg4 := s4 _ _ hg3
  clear hg3 t3
  refine ⟨Nat.zero_le _, fun C hC => ?_⟩
  have s5 := same_new hC (.lst [])
  refine ⟨fun σ' H' => ∃ (c : Addr) (v10 : Option V) (cvs : List V), σ' = [some (.ref y), some (.ref rl), some (.ref vl), some (.ref bl), some (.int sh), some (.ref g3), some (.bl (goodB bs sh)), none, some (.ref c), some (optV (wbWhy rs (.int va) vw (.int vc) (obO bs sh))), v10] ∧ Same H4 H' ∧ H' c = some (.lst cvs) ∧ (goodB bs sh = true → RsS H' cvs (rbs rs bs)), ?_, ?_⟩
  · refine ⟨_, rfl, ?_⟩
    cases hgd : goodB bs sh with
    | false =>
      have ew := wb_eq (va := .int va) (vw := vw) (vc := .int vc) gs lb sh0
      rw [hgd, if_neg (by decide)] at ew
      refine ⟨_, rfl, iteFb rfl ⟨C, none, [], ?_, s5, upd_same, fun z => (nomatch z)⟩⟩
      rw [ew]; rfl
    | true =>
      obtain ⟨h2, wb, eo⟩ := obO_good hgd
      obtain ⟨is, ei⟩ := all_intsV wb
      have lr := hrs.len
      have t45 := t4.trans s5
      refine ⟨_, rfl, iteTb rfl ⟨_, rfl, rl, rvs, rfl, .inl (SqL.of (t45 _ _ hrl)), _, rfl, by omega, by omega, fun D hD => ?_⟩⟩
      refine lc_range (lo := 0) (n := ((rvs.length : Nat) : Int).toNat) (fun i H7 => ∃ cvs, H7 D = some (.lst cvs) ∧ cvs.length = i ∧ RsS H7 cvs ((rbs rs bs).take i) ∧ Same (L2.upd H4 C (.lst [])) H7) ⟨[], upd_same, rfl, .nil, same_new hD _⟩ ?_ ?_
      · rintro i H7 hi ⟨cvs, hc7, lc7, hr7, s7⟩
        rw [Int.toNat_natCast] at hi
        refine ⟨rfl, ?_⟩
        unfold tYes
        dsimp only
        rw [if_pos rfl]
        have t7 := t45.trans s7
        have hv : rvs[i]? = some rvs[i] := List.getElem?_eq_getElem hi
        obtain ⟨r, er, t, b, ev, ht, hb⟩ := hrs.at hv
        have hbi : bs[i]? = some (bs[i]'(by omega)) := List.getElem?_eq_getElem (by omega)
        obtain ⟨j, ej⟩ : ∃ j, bs[i]'(by omega) = .int j := by
          have hm := wb _ (List.mem_of_getElem? hbi)
          cases e : bs[i]'(by omega) with
          | int j => exact ⟨j, rfl⟩
          | _ => rw [e] at hm; cases hm
        rw [ej] at hbi
        rw [ev] at hv
        have ht7 := t7 _ _ ht
        have a1 : atI rvs ((0 : Int) + (i : Int)) = some (.ref t) := by rw [Int.zero_add, atI_nat]; exact hv
        have a2 : atI bs ((0 : Int) + (i : Int)) = some (.int j) := by rw [Int.zero_add, atI_nat]; exact hbi
        have w1 : ¬ (HT.sIx 4 0 none = 0 ∧ HT.sIx 4 4 (some 2) = 4) := by decide
        have w2 : ¬ (HT.sIx 4 0 (some 3) = 0 ∧ HT.sIx 4 4 none = 4) := by decide
        have fresh : ∀ {p : Addr} {H8 : Hp} {o : HO}, H8 p = some o → H8 p = none → False := fun a b => by rw [a] at b; cases b
        refine ⟨_, rfl, _, rfl, rl, _, _, _, rfl, rfl, SqL.of (t7 _ _ hrl), a1, _, rfl, t, _, rfl, SqT.of ht7, w1, fun p1 hp1 => ?_⟩
        have u1 := same_new hp1 (.tup (cutV [V.str r.n, .ref b, .int r.b, .int r.m] none (some 2)))
        refine ⟨_, rfl, _, rfl, bl, _, _, _, rfl, rfl, SqL.of (u1 _ _ (t7 _ _ hbl)), a2, (by show 1 ≤ sizeLine; decide), fun p2 hp2 => ?_⟩
        have u2 := same_new hp2 (.tup [V.int j])
        refine ⟨p1, p2, _, _, rfl, rfl, SqT.of (u2 _ _ upd_same), SqT.of upd_same, (by intro z; cases z), small10 (by show 2 ≤ 10; decide), fun z => (nomatch z), fun _ p3 hp3 => ?_⟩
        have u3 := same_new hp3 (.tup [V.str r.n, .ref b, .int j])
        refine ⟨_, rfl, _, rfl, rl, _, _, _, rfl, rfl, SqL.of (u3 _ _ (u2 _ _ (u1 _ _ (t7 _ _ hrl)))), a1, _, rfl, t, _, rfl, SqT.of (u3 _ _ (u2 _ _ (u1 _ _ ht7))), w2, fun p4 hp4 => ?_⟩
        have u4 := same_new hp4 (.tup [V.int r.m])
        refine ⟨p3, p4, _, _, rfl, rfl, SqT.of (u4 _ _ upd_same), SqT.of upd_same, (by intro z; cases z), small10 (by show 3 ≤ 10; decide), fun z => (nomatch z), fun _ p5 hp5 => ?_⟩
        have u5 := same_new hp5 (.tup [V.str r.n, .ref b, .int j, .int r.m])
        have uu := (((u1.trans u2).trans u3).trans u4).trans u5
        refine ⟨cvs, uu _ _ hc7, small10 (by omega), cvs ++ [.ref p5], upd_same, by rw [List.length_append, lc7]; rfl, ?_, fun b' o z => by rw [upd_ne (ne_of_none z hD)]; exact uu _ _ (s7 _ _ z)⟩
        rw [rbs_snoc er hbi]
        refine RsS.snoc (hr7.nl ((NL.same uu).trans (NL.upd (uu _ _ hc7)))) ⟨p5, b, rfl, ?_, hb.nl ((NL.same (t7.trans uu)).trans (NL.upd (uu _ _ hc7)))⟩
        rw [upd_ne (fun z => by have := uu _ _ hc7; rw [← z] at this; exact absurd (this.symm.trans upd_same) (by intro w; cases w))]
        exact upd_same
      · rintro H7 ⟨cvs, hc7, lc7, hr7, s7⟩
        rw [Int.toNat_natCast] at lc7 hr7
        rw [List.take_of_length_le (by rw [rbs_len lb]; omega)] at hr7
        have t7 := t45.trans s7
        have ew := wb_eq (va := .int va) (vw := vw) (vc := .int vc) gs lb sh0
        rw [hgd, if_pos rfl, chn_win a0 a4 c0 c2] at ew
        have fin : ∀ (v : Option Str), v = wbWhy rs (.int va) vw (.int vc) (obO bs sh) → ∃ (c : Addr) (v10 : Option V) (cvs : List V), [some (V.ref y), some (.ref rl), some (.ref vl), some (.ref bl), some (.int sh), some (.ref g3), some (.bl true), none, some (.ref D), some (optV v), none] = [some (.ref y), some (.ref rl), some (.ref vl), some (.ref bl), some (.int sh), some (.ref g3), some (.bl true), none, some (.ref c), some (optV (wbWhy rs (.int va) vw (.int vc) (obO bs sh))), v10] ∧ Same H4 H7 ∧ H7 c = some (.lst cvs) ∧ (true = true → RsS H7 cvs (rbs rs bs)) := fun v e => ⟨D, none, cvs, by rw [e], s5.trans s7, hc7, fun _ => hr7⟩
        refine ⟨_, rfl, vl, _, _, _, rfl, rfl, SqL.of (t7 _ _ hvl), rfl, rfl, _, rfl, ?_⟩
        rcases hw with rfl | ⟨wi, rfl, w8⟩
        · refine iteFb (by decide) (fin none ?_)
          rw [ew]; rfl
        · refine iteTb rfl ⟨_, rfl, bl, is, rfl, SqL.of (by rw [t7 _ _ hbl, ei]), ?_, fun mm hm1 hm2 => ?_⟩
          · have : bs.length = is.length := by rw [ei, List.length_map]
            omega
          · have li : is.length = rs.length := by rw [← lb, ei, List.length_map]
            have em : mm = maxB (rbs rs bs) := by
              unfold maxB
              rw [ei, rbs_b li]
              exact max_uniq hm1 hm2
            have el : (isNon (.int wi) = false ∧ inB (.int wi) (maxB (rbs rs bs)) 8 = false) ↔ wi < mm := by
              rw [em]
              show (false = false ∧ (decide (maxB (rbs rs bs) ≤ wi) && decide (wi ≤ 8)) = false) ↔ _
              rw [decide_eq_true w8, Bool.and_true, decide_eq_false_iff_not]
              constructor
              · rintro ⟨_, h⟩; omega
              · intro h; exact ⟨rfl, by omega⟩
            refine ⟨_, rfl, vl, _, _, _, rfl, rfl, SqL.of (t7 _ _ hvl), rfl, _, _, rfl, rfl, _, rfl, ?_⟩
            by_cases hc : wi < mm
            · refine iteTb (decide_eq_true hc) (fin (some "window") ?_)
              rw [ew, if_pos (el.mpr hc)]
            · refine iteFb (decide_eq_false hc) (fin none ?_)
              rw [ew, if_neg (fun z => hc (el.mp z))]
  rintro σ5 H5 ⟨c, v10, cvs, rfl, t5, hc, hcv⟩
  have ew := wb_eq (va := .int va) (vw := vw) (vc := .int vc) gs lb sh0
  have t45 := t4.trans t5
  have iw : IntNon vw := hw.imp id fun ⟨i, e, _⟩ => ⟨i, e⟩
  have hg5 := t5 _ _ hg4
  refine ⟨_, rfl, Nat.zero_le _, fun L hL => ⟨_, rfl, (by show 1 ≤ sizeLine; decide), fun bt hbt => ?_⟩⟩
  have s6 := (same_new hL (.lst [])).trans (same_new hbt (.tup [V.ref g3]))
  refine ⟨y, L, 0, .ref bt, rs, rbs rs ((obO bs sh).getD []), .int va, vw, .int vc, .int va, vw, .int vc, wbWhy rs (.int va) vw (.int vc) (obO bs sh), rfl, S.keep (t45.trans s6), by omega, gs.ok, any_int _, iw.plain.any, any_int _, .inr ⟨bt, .ref g3, obO bs sh, rfl, upd_same, bsAt_gob (s6 _ _ hg5) (by omega) pb, rfl, rfl, rfl, rfl, rfl⟩, fun z ez u H8 s8 hu => ?_, fun ez u y' H8 s8 hu S8 => ?_⟩
  · refine ⟨_, rfl, _, rfl, _, rfl, u, _, c, vl, some z, rfl, congrArg optV ez, fun z' e => ?_, fun e => (nomatch e), fun H' s9 => q H' (((t45.trans s6).trans s8).trans s9)⟩
    injection e with e
    subst e
    refine ⟨?_, hu⟩
    rw [ew] at ez
    split at ez
    · exact chain_ok ez
    · injection ez with ez; subst ez; decide +kernel
  · have hgd : goodB bs sh = true := by
      cases hg : goodB bs sh with
      | true => rfl
      | false => rw [ew, hg, if_neg (by decide)] at ez; cases ez
    obtain ⟨_, wb, eo⟩ := obO_good hgd
    have ez' := ez
    rw [ew, if_pos hgd] at ez'
    rw [eo] at S8
    have s68 := s6.trans s8
    have g2 := gs.rbs lb wb
    refine ⟨_, rfl, _, rfl, _, rfl, u, _, c, vl, none, rfl, congrArg optV ez, fun z' e => (nomatch e), fun _ => ⟨y', cvs, rbs rs bs, va, vc, vw, hu, S8, s68 _ _ hc, (hcv hgd).nl (NL.same s68), g2, s68 _ _ (t45 _ _ hvl), iw, by rw [g2.y]; exact ez'⟩, fun H' s9 => q H' ((t45.trans s68).trans s9)⟩
end
end Tk
set_option maxRecDepth 100000
set_option maxHeartbeats 4000000
/-! tuple * int, the number not above one -/
namespace L2
open PySem PySem.Spec PyProof.Rows
theorem tuple_mul_one (l : Addr) (items : Array Value) (n : Nat) (dd : Option Addr) (sl : Array (Option Value)) (u : Tok) (he : items.isEmpty = false) :
    Meets (Builtin.«tuple.__mul__» ⟨[.ref l, .int 1 u], []⟩) (fun _ R s => s.heap.get? l = some { cls := .type "tuple", dict := dd, data := .seq items n, slots := sl } ∧ R (.ok (.ret (Value.ref l))) s) :=
  .of_wp fun prog w A R s h => by
    obtain ⟨hp, g, d, tk, os⟩ := s
    obtain ⟨hl, h⟩ := h
    have f1 := AutoSeq1.idx_int
    wp_walk using wpAny_loadPart' hl
    exact ⟨_, rfl, h⟩
theorem tuple_mul_none (l : Addr) (items : Array Value) (n : Nat) (dd : Option Addr) (sl : Array (Option Value)) (u : Tok) (he : items.isEmpty = false) :
    Meets (Builtin.«tuple.__mul__» ⟨[.ref l, .int 0 u], []⟩) (fun _ R s => s.heap.get? l = some { cls := .type "tuple", dict := dd, data := .seq items n, slots := sl } ∧
      R (.ok (.ret (Value.ref s.heap.objs.size))) { s with heap := s.heap.push { cls := Value.type "tuple", data := Data.seq #[] }, toks := s.toks }) :=
  .of_wp fun prog w A R s h => by
    obtain ⟨hp, g, d, tk, os⟩ := s
    obtain ⟨hl, h⟩ := h
    have f1 := AutoSeq1.idx_int
    have c : (items.isEmpty || (0 : Int) == 1) = false := by rw [he]; rfl
    wp_walk using wpAny_loadPart' hl
    repeat (first
      | (refine wpAny_ite_false (decide_eq_false (by rw [c]; exact Bool.false_ne_true)) ?_; wp_walk using wpAny_loadPart' hl))
    exact ⟨_, rfl, h⟩
def rRepA (K : PySem.W.Frag) : R2 := fun x y H Q => ∃ l k xs, x = .ref l ∧ y = .int k ∧ SqT K H l xs ∧ xs ≠ [] ∧ 0 ≤ k ∧ k ≤ 1000 ∧ xs.length ≤ 1000 ∧ (k = 1 → Q (.ref l) H) ∧ (k ≠ 1 → ∀ p, H p = none → Q (.ref p) (upd H p (.tup (List.replicate k.toNat xs).flatten)))
theorem op_repA {X : Cx} : OpR X (binaryOp .Mult) (rRepA X.K) := by
  intro pins s σ H x y v u Q I rx ry h
  obtain ⟨l, k, xs, rfl, rfl, hT, hne, k0, k1, hz, q1, q2⟩ := h
  by_cases big : 2 ≤ k
  · exact op_repT pins s σ H _ _ v u Q I rx ry ⟨l, k, xs, rfl, rfl, hT, hne, big, k1, hz, q2 (by omega)⟩
  cases rx
  obtain ⟨t, rfl⟩ := ry
  obtain ⟨its, r, ⟨⟨cls, dd, data, sl⟩, ho, hc, n, hd⟩, hs⟩ := I.tuple hT
  simp only at hc hd
  subst hc hd
  have full : its.toArray.isEmpty = false := by
    cases its with
    | nil =>
      cases r
      exact absurd rfl hne
    | cons _ _ => rfl
  have typ : s.TypeIs (.ref l) "tuple" := ⟨_, ho, rfl⟩
  rcases (show k = 0 ∨ k = 1 by omega) with rfl | rfl
  · refine wpAny_binaryOp_repeat_ref (T := "tuple") (U := "int") (by decide) typ (fun s' => typeIs_int s' 0 t) noFill_tuple_mul F.fills_int_mul F.slot_int_rmul repeat_tuple F.slot_int_index.lookup
      (call_meets F.slot_int_rmul (typeIs_int s 0 t) F.entry_int_rmul (F.args_int_rmul_2 _ _) (int_rmul_tuple 0 t l its.toArray n dd sl) ⟨ho, rfl, typ, call_meets F.slot_tuple_mul typ F.entry_tuple_mul (F.args_tuple_mul_2 _ _) (tuple_mul_none l its.toArray n dd sl t full) ⟨ho, ?_⟩⟩)
    have new : ObjOk X.prog X.w (upd H s.heap.objs.size (.tup [])) (s.heap.push { cls := Value.type "tuple", data := Data.seq #[] }) s.heap.objs.size (.tup []) := ⟨Nat.zero_le _, [], .nil, IsTup.new _ _⟩
    exact ⟨.ref s.heap.objs.size, _, I.laid (t' := s.toks) (o := .tup []) (fun b ob q => Heap.get?_push_of_some _ q) (Nat.le_refl _) new, rfl, q2 (by decide) _ (I.hok.fresh (Nat.le_refl _))⟩
  · exact wpAny_binaryOp_repeat_ref (T := "tuple") (U := "int") (by decide) typ (fun s' => typeIs_int s' 1 t) noFill_tuple_mul F.fills_int_mul F.slot_int_rmul repeat_tuple F.slot_int_index.lookup
      (call_meets F.slot_int_rmul (typeIs_int s 1 t) F.entry_int_rmul (F.args_int_rmul_2 _ _) (int_rmul_tuple 1 t l its.toArray n dd sl) ⟨ho, rfl, typ, call_meets F.slot_tuple_mul typ F.entry_tuple_mul (F.args_tuple_mul_2 _ _) (tuple_mul_one l its.toArray n dd sl t full) ⟨ho, ⟨.ref l, H, I, rfl, q1 rfl⟩⟩⟩)
end L2
set_option maxRecDepth 100000
namespace Tk
open PySem L2 StK
def spLaw (K : PySem.W.Frag) : Sp := fun vs H Q _ => ∃ (a : Addr) (ns : List Int), vs = [.ref a] ∧ SqL K H a (ns.map V.int) ∧ ns.length ≤ 63 ∧ ∀ H', Q (.bl true) H'
theorem scLaw : FnScope ["_law_script", "_law_k", "_law_pool_here", "_law_left", "_law_given", "_law_shape", "_law_wrong", "_law_names_here", "_law_rows", "_law_at", "_law_amount", "_law_most", "_law_row", "_law_values", "_law_system_here", "_law_blocks"] ["_law_script"] (defScope sLaw) := ⟨rfl, rfl, rfl, by decide +kernel, rfl, by decide +kernel, by decide +kernel⟩
section
variable {P : Program} {w : World} {K : PySem.W.Frag} {mg : Str → Option Value} {base : Heap} {CS CK CD CY it : Addr}
theorem rep_fin {Q : VK} {k : Int} {t3 : Addr} {H : Hp} {xs : List V} (Gd : Addr → Hp → Prop) (h : ∀ t H', Gd t H' → Q (.ref t) H') (h1 : k = 1 → Gd t3 H) (h2 : k ≠ 1 → ∀ p, H p = none → Gd p (L2.upd H p (.tup (List.replicate k.toNat xs).flatten))) : (k = 1 → Q (.ref t3) H) ∧ (k ≠ 1 → ∀ p, H p = none → Q (.ref p) (L2.upd H p (.tup (List.replicate k.toNat xs).flatten))) :=
  ⟨fun e => h _ _ (h1 e), fun e p hp => h _ _ (h2 e p hp)⟩
def tcS (j : Nat) : List Stm := if j = 0 then [.one .take, .one .commit] else [.one .take, .one .commit, .one .take, .one .commit]
theorem tc_good {H : Hp} {t t1 t2 : Addr} {j : Nat} (h1 : H t1 = some (.tup [.str "take"])) (h2 : H t2 = some (.tup [.str "commit"])) (ht : H t = some (.tup (if j = 0 then [V.ref t1, .ref t2] else [V.ref t1, .ref t2, .ref t1, .ref t2]))) : GoodT H t (tcS j) := by
  have a1 : Stm.at H (.ref t1) (.one .take) := by unfold Stm.at; exact ⟨t1, rfl, h1⟩
  have a2 : Stm.at H (.ref t2) (.one .commit) := by unfold Stm.at; exact ⟨t2, rfl, h2⟩
  unfold tcS
  by_cases e : j = 0
  · rw [if_pos e] at ht
    rw [if_pos e]
    refine ⟨⟨_, ht, ?_⟩, by simp, ?_, ?_⟩
    · simp only [atAll]; exact ⟨_, _, rfl, a1, _, _, rfl, a2, rfl⟩
    · simp [okAll, Stm.ok, Stm.held, Wd.held]
    · simp [cntAll, Stm.cnt]
  · rw [if_neg e] at ht
    rw [if_neg e]
    refine ⟨⟨_, ht, ?_⟩, by simp, ?_, ?_⟩
    · simp only [atAll]; exact ⟨_, _, rfl, a1, _, _, rfl, a2, _, _, rfl, a1, _, _, rfl, a2, rfl⟩
    · simp [okAll, Stm.ok, Stm.held, Wd.held]
    · simp [cntAll, Stm.cnt]
theorem tc_cnt (j : Nat) : ((cntAll (tcS j) : Nat) : Int) ≤ 4 := by
  unfold tcS
  split <;> simp [cntAll, Stm.cnt]
theorem ok_law {f fP fD fN fV fS fA fC fE : Addr} {fd fdP fdD fdN fdV fdS fdA fdC fdE : FuncData} (F : Fun K "law" "law" sLaw f fd) (B : Bl mg) (T : Txt K w mg CS CK it) (U : TxK K mg CS CD)
    (GP : FnOk P w K mg base CX0 1 fP fdP ["_law_script", "_law_k"] (spPool K)) (bP : Binds K fdP ["_law_script", "_law_k"] []) (kP : PySem.W.keepIn K (.ref fP) = true) (mP : mg "_law_pool" = some (.ref fP))
    (GD : FnOk P w K mg base CX0 1 fD fdD ["_law_pool_here", "_law_amount"] spDraw) (bD : Binds K fdD ["_law_pool_here", "_law_amount"] []) (kD : PySem.W.keepIn K (.ref fD) = true) (mD : mg "_law_draw" = some (.ref fD))
    (GN : FnOk P w K mg base CX0 2 fN fdN ["_law_pool_here"] spNames) (bN : Binds K fdN ["_law_pool_here"] []) (kN : PySem.W.keepIn K (.ref fN) = true) (mN : mg "_law_names" = some (.ref fN))
    (GV : FnOk P w K mg base CX0 2 fV fdV ["_law_pool_here", "_law_most"] spVal9) (bV : Binds K fdV ["_law_pool_here", "_law_most"] []) (kV : PySem.W.keepIn K (.ref fV) = true) (mV : mg "_law_value" = some (.ref fV))
    (GS : FnOk P w K mg base CX0 14 fS fdS ["_law_rows", "_law_values"] (spSys CS CD CY)) (bS : Binds K fdS ["_law_rows", "_law_values"] []) (kS : PySem.W.keepIn K (.ref fS) = true) (mS : mg "_law_system" = some (.ref fS))
    (GA : FnOk P w K mg base CX0 17 fA fdA ["_law_system_here", "_law_rows", "_law_values", "_law_given", "_law_left"] (spVF CS CD CY)) (bA : Binds K fdA ["_law_system_here", "_law_rows", "_law_values", "_law_given", "_law_left"] []) (kA : PySem.W.keepIn K (.ref fA) = true) (mA : mg "_law_values_fit" = some (.ref fA))
    (GC : FnOk P w K mg base CX0 17 fC fdC ["_law_system_here", "_law_rows", "_law_values", "_law_blocks", "_law_shape"] (spBF CS CD CY)) (bC : Binds K fdC ["_law_system_here", "_law_rows", "_law_values", "_law_blocks", "_law_shape"] []) (kC : PySem.W.keepIn K (.ref fC) = true) (mC : mg "_law_blocks_fit" = some (.ref fC))
    (OY : OwnEq K CY fE) (GE : FnOk P w K mg base CX0 4 fE fdE ["self", "other"] (spYEq CS CD CY)) (bE : Binds K fdE ["self", "other"] []) :
    FnOk P w K mg base CX0 18 f fd ["_law_script"] (spLaw K) := by
  refine F.ok scLaw (fun vs H Q E h => ?_) (fun cdv A outer s H vs Q E hr h => ?_)
  · obtain ⟨a, ns, rfl, _⟩ := h
    rfl
  obtain ⟨a, ns, rfl, hS, h63, q⟩ := h
  have nd := scLaw.nd
  refine ⟨_, (pss_cons (ps_for PassesOwn.never rfl (pi_range1 rfl B.range (pa_cons (pe_callB (call_max2 rfl) (by rfl) B.max (by decide +kernel) (pa_cons (pe_int) (pa_cons (pe_callB call_len_seq (by rfl) B.len PySem.boot_len (pa_cons (pv 0) pa_nil)) pa_nil))) pa_nil)) (pg_name (i := 1) nd rfl (Or.inl rfl)) (pss_cons (ps_set (i := 2) nd rfl (Or.inr rfl) (pe_call GP (hr.mono (by decide)) rfl mP kP bP .nil pass0 (pa_cons (pv 0) (pa_cons (pv 1) pa_nil))))
  (pss_cons (ps_set (i := 3) nd rfl (Or.inl rfl) (pe_call GD (hr.mono (by decide)) rfl mD kD bD .nil pass0 (pa_cons (pv 2) (pa_cons (pe_int) pa_nil))))
  (pss_cons (ps_set (i := 4) nd rfl (Or.inl rfl) (pe_lst (pa_cons (pe_call GV (hr.mono (by decide)) rfl mV kV bV .nil pass0 (pa_cons (pv 2) (pa_cons (pe_int) pa_nil))) (pa_cons (pe_call GV (hr.mono (by decide)) rfl mV kV bV .nil pass0 (pa_cons (pv 2) (pa_cons (pe_int) pa_nil))) (pa_cons (pe_call GV (hr.mono (by decide)) rfl mV kV bV .nil pass0 (pa_cons (pv 2) (pa_cons (pe_int) pa_nil))) pa_nil)))))
  (C8.pss_cut (ps_if (pt_cmpR op_eq (pe_call GD (hr.mono (by decide)) rfl mD kD bD .nil pass0 (pa_cons (pv 2) (pa_cons (pe_int) pa_nil))) (pe_int) (nomark _)) (pss_one (ps_asg (pe_non) (pg_sub (pv 4) (pe_int) set_list))) pss_nil)
  (pss_cons (ps_set (i := 5) nd rfl (Or.inl rfl) (pe_call GD (hr.mono (by decide)) rfl mD kD bD .nil pass0 (pa_cons (pv 2) (pa_cons (pe_int) pa_nil))))
  (pss_cons (ps_set (i := 6) nd rfl (Or.inl rfl) (pe_cmpR op_eq (pe_call GD (hr.mono (by decide)) rfl mD kD bD .nil pass0 (pa_cons (pv 2) (pa_cons (pe_int) pa_nil))) (pe_int) (nomark _)))
  (pss_cons (ps_set (i := 7) nd rfl (Or.inl rfl) (pe_call GN (hr.mono (by decide)) rfl mN kN bN .nil pass0 (pa_cons (pv 2) pa_nil)))
  (pss_cons (ps_set (i := 8) nd rfl (Or.inl rfl) (pe_lst pa_nil))
  (pss_cons (ps_for PassesOwn.never rfl (pi_range1 rfl B.range (pa_cons (pe_op op_add (pe_int) (pe_call GD (hr.mono (by decide)) rfl mD kD bD .nil pass0 (pa_cons (pv 2) (pa_cons (pe_int) pa_nil)))) pa_nil)) (pg_name (i := 9) nd rfl (Or.inl rfl)) (pss_cons (ps_set (i := 10) nd rfl (Or.inl rfl) (pe_op op_add (pe_int) (pe_op op_mul (pv 9) (pe_call GD (hr.mono (by decide)) rfl mD kD bD .nil pass0 (pa_cons (pv 2) (pa_cons (pe_int) pa_nil))))))
  (pss_one (ps_expr (pe_bm PySem.F.plainAttrs_list PySem.F.slot_list_append PySem.F.type_list_append mt_append (pv 8) (pa_cons (pe_tup (pa_cons (pe_ix ix_list (pv 7) (pv 9) (fun _ _ => rfl)) (pa_cons (pe_op op_repA (pe_tup (pa_cons (pe_tup (pa_cons (pe_str) pa_nil)) (pa_cons (pe_tup (pa_cons (pe_str) pa_nil)) pa_nil))) (pe_op op_add (pe_int) (pv 9))) (pa_cons (pe_op op_add (pe_int) (pe_call GD (hr.mono (by decide)) rfl mD kD bD .nil pass0 (pa_cons (pv 2) (pa_cons (pe_int) pa_nil)))) (pa_cons (pv 10) pa_nil))))) pa_nil))))))
  (C8.pss_cut (ps_if (pt_cmpR op_eq (pe_callB call_len_seq (by rfl) B.len PySem.boot_len (pa_cons (pv 8) pa_nil)) (pe_int) (nomark _)) (pss_one (ps_asg (pe_op op_catT (pe_slice sl_tup (pe_ix ix_list (pv 8) (pe_int) (fun _ _ => rfl)) po_none (po_some (pe_int))) (pe_tup (pa_cons (pe_op op_add (pe_int) (pe_call GD (hr.mono (by decide)) rfl mD kD bD .nil pass0 (pa_cons (pv 2) (pa_cons (pe_int) pa_nil)))) pa_nil))) (pg_sub (pv 8) (pe_int) set_list))) pss_nil)
  (pss_cons (ps_set (i := 11) nd rfl (Or.inl rfl) (pe_callB (cr_max rfl) (by rfl) B.max (by decide +kernel) (pa_cons (pe_lc (own := [("_law_row", 12)]) (g := gName 12) (tt := tYes) rfl nd (pi_list (pv 8)) (blkOk_by (own := [("_law_row", 12)]) (N := ["_law_script", "_law_k", "_law_pool_here", "_law_left", "_law_given", "_law_shape", "_law_wrong", "_law_names_here", "_law_rows", "_law_at", "_law_amount", "_law_most", "_law_row", "_law_values", "_law_system_here", "_law_blocks"]) (sc := defScope sLaw) (by decide +kernel)) (fun _ _ _ _ _ => pg_name (i := 12) nd rfl (Or.inl rfl)) (fun _ _ _ _ _ => pts_nil) (fun _ _ _ _ _ => pe_ix (r := rIxT K) ix_tup (pv 12) (pe_int) (fun _ _ => rfl))) pa_nil)))
  (pss_cons (ps_set (i := 13) nd rfl (Or.inl rfl) (pe_lst (pa_cons (pe_call GD (hr.mono (by decide)) rfl mD kD bD .nil pass0 (pa_cons (pv 2) (pa_cons (pe_int) pa_nil))) (pa_cons (pe_ix ix_list (pe_lst (pa_cons (pe_non) (pa_cons (pe_op op_add (pv 11) (pe_call GD (hr.mono (by decide)) rfl mD kD bD .nil pass0 (pa_cons (pv 2) (pa_cons (pe_int) pa_nil)))) pa_nil))) (pe_call GD (hr.mono (by decide)) rfl mD kD bD .nil pass0 (pa_cons (pv 2) (pa_cons (pe_int) pa_nil))) (fun _ _ => rfl)) (pa_cons (pe_call GD (hr.mono (by decide)) rfl mD kD bD .nil pass0 (pa_cons (pv 2) (pa_cons (pe_int) pa_nil))) pa_nil)))))
  (pss_cons (ps_set (i := 14) nd rfl (Or.inl rfl) (pe_call GS (hr.mono (by decide)) rfl mS kS bS .nil pass0 (pa_cons (pv 8) (pa_cons (pv 13) pa_nil))))
  (pss_cons (ps_if (pt_not (pt_val (pe_call GA (hr.mono (by decide)) rfl mA kA bA .nil pass0 (pa_cons (pv 14) (pa_cons (pv 8) (pa_cons (pv 13) (pa_cons (pv 4) (pa_cons (pv 3) pa_nil)))))))) (pss_one (ps_ret (pe_bl))) pss_nil)
  (pss_cons (ps_setLc (i := 15) (own := [("_law_row", 12)]) (g := gName 12) (tt := tYes) rfl nd rfl rfl (sw_true rfl rfl rfl (by decide +kernel)) (pi_list (pv 8)) (blkOk_by (own := [("_law_row", 12)]) (N := ["_law_script", "_law_k", "_law_pool_here", "_law_left", "_law_given", "_law_shape", "_law_wrong", "_law_names_here", "_law_rows", "_law_at", "_law_amount", "_law_most", "_law_row", "_law_values", "_law_system_here", "_law_blocks"]) (sc := defScope sLaw) (by decide +kernel)) (fun _ _ _ _ _ => pg_name (i := 12) nd rfl (Or.inl rfl)) (fun _ _ _ _ _ => pts_nil) (fun _ _ _ _ _ => pe_op op_add (pe_int) (pe_call GD (hr.mono (by decide)) rfl mD kD bD .nil pass0 (pa_cons (pv 2) (pa_cons (pe_int) pa_nil)))))
  (C8.pss_cut (ps_if (pt_val (pv 6)) (pss_one (ps_asg (pe_ix ix_list (pe_lst (pa_cons (pe_int) (pa_cons (pe_int) (pa_cons (pe_bl) (pa_cons (pe_non) (pa_cons (pe_str) (pa_cons (pe_op op_sub (pe_int) (pe_int)) pa_nil))))))) (pe_call GD (hr.mono (by decide)) rfl mD kD bD .nil pass0 (pa_cons (pv 2) (pa_cons (pe_int) pa_nil))) (fun _ _ => rfl)) (pg_sub (pv 15) (pe_call GD (hr.mono (by decide)) rfl mD kD bD .nil pass0 (pa_cons (pv 2) (pa_cons (pe_callB call_len_seq (by rfl) B.len PySem.boot_len (pa_cons (pv 15) pa_nil)) pa_nil))) set_list))) pss_nil)
  (pss_one (ps_if (PW.pt (pw_or (pt_not (pt_val (pe_call GC (hr.mono (by decide)) rfl mC kC bC .nil pass0 (pa_cons (pv 14) (pa_cons (pv 8) (pa_cons (pv 13) (pa_cons (pv 15) (pa_cons (pv 5) pa_nil)))))))) (pw_or1 (pt_not (pt_cmpR (op_eqOwn OY GE (hr.mono (by decide)) bE pass0) (pv 14) (pe_call GS (hr.mono (by decide)) rfl mS kS bS .nil pass0 (pa_cons (pv 8) (pa_cons (pv 13) pa_nil))) (nomark _)))))) (pss_one (ps_ret (pe_bl))) pss_nil)))))))))))))))))))
  (pss_one (ps_ret (pe_bl)))), ?_⟩
  have hl0 : (ns.map V.int).length = ns.length := List.length_map _
  have bnd : (if ((ns.map V.int).length : Int) > 1 then ((ns.map V.int).length : Int) else 1) ≤ 63 ∧ 1 ≤ (if ((ns.map V.int).length : Int) > 1 then ((ns.map V.int).length : Int) else 1) := by
    rw [hl0]
    split <;> omega
  refine ⟨_, rfl, a, _, rfl, .inl hS, _, _, rfl, _, rfl, by omega, by omega, ?_⟩
  refine for_range (lo := 0) (fun i σ H2 => ∃ v1 v2 v3 v4 v5 v6 v7 v8 v9 v10 v11 v12 v13 v14 v15 : Option V, σ = [some (.ref a), v1, v2, v3, v4, v5, v6, v7, v8, v9, v10, v11, v12, v13, v14, v15] ∧ Same H H2) ⟨none, none, none, none, none, none, none, none, none, none, none, none, none, none, none, rfl, Same.refl H⟩ ?_ ?_
  rotate_left
  · rintro σ H2 ⟨_, _, _, _, _, _, _, _, _, _, _, _, _, _, _, rfl, _⟩
    exact q H2
  rintro i σ H2 hi ⟨v1, v2, v3, v4, v5, v6, v7, v8, v9, v10, v11, v12, v13, v14, v15, rfl, s2⟩
  refine ⟨_, rfl, _, rfl, a, ns, _, rfl, s2.seq hS, by omega, fun p H3 hp s3 P3 => ?_⟩
  have w3 : Ww p [] (fun _ => True) H H3 := Ww.start (s2.trans s3) P3 (s2.free hp)
  refine ⟨_, rfl, p, 4, rfl, w3.pool, by decide, by decide, fun left H4 l0 l4 k4 P4 => ?_⟩
  have w4 := w3.kp k4 P4
  refine ⟨_, rfl, p, 4, rfl, w4.pool, fun ga H5 pa k5 P5 => ?_⟩
  have w5 := w4.kp k5 P5
  refine ⟨_, rfl, p, 8, rfl, w5.pool, fun gw H6 pw k6 P6 => ?_⟩
  have w6 := w5.kp k6 P6
  refine ⟨_, rfl, p, 2, rfl, w6.pool, fun gc H7 pc k7 P7 => ⟨(by show 3 ≤ sizeLine; decide), fun G hG => ?_⟩⟩
  have w7 := (w6.kp k7 P7).newL hG [ga, gw, gc]
  generalize (L2.upd H7 G (.lst [ga, gw, gc])) = H8 at w7 ⊢
  clear w3 w4 w5 w6 k4 k5 k6 k7 P3 P4 P5 P6 P7 s2 s3 hp hG
  refine ⟨fun σ' H' => ∃ gw' : V, σ' = [some (.ref a), some (.int (0 + (i : Int))), some (.ref p), some (.int left), some (.ref G), v5, v6, v7, v8, v9, v10, v11, v12, v13, v14, v15] ∧ PlainV gw' ∧ Ww p [(G, [ga, gw', gc])] (fun _ => True) H H', ?_, ?_⟩
  · refine ⟨_, rfl, p, 4, rfl, w7.pool, by decide, by decide, fun r H9 r0 r4 k8 P8 => ⟨rfl, _, rfl, ite2 (fun _ => ?_) (fun _ => ?_)⟩⟩
    · have w8 := w7.kp k8 P8
      exact ⟨_, rfl, G, _, 1, 1, rfl, rfl, w8.at 0 rfl, rfl, .non, rfl, .inl rfl, w8.put 0 _ rfl⟩
    · exact ⟨gw, rfl, pw, w7.kp k8 P8⟩
  clear w7 pw
  rintro σ' H2 ⟨gw', rfl, pw, w1⟩
  refine ⟨_, rfl, p, 12, rfl, w1.pool, by decide, by decide, fun sh H3 sh0 sh12 k3 P3 => ?_⟩
  have w2 := w1.kp k3 P3
  refine ⟨_, rfl, p, 3, rfl, w2.pool, by decide, by decide, fun wr H4 wr0 wr3 k4 P4 => ⟨rfl, ?_⟩⟩
  have w3 := w2.kp k4 P4
  refine ⟨_, rfl, p, rfl, w3.pool, fun nq H5 hq k5 P5 N5 => ?_⟩
  obtain ⟨x, y, z, hn, ix, iy, iz, xy, xz, yz⟩ := N5
  have w5 := (w3.kp k5 P5).more hn (w3.same.free hq) (w3.pn hq) (w3.un hq)
  clear w1 w2 w3 k3 k4 k5 P3 P4 P5 hq hn
  refine ⟨Nat.zero_le _, fun R hR => ?_⟩
  have w6 := w5.newL hR []
  generalize (L2.upd H5 R (.lst [])) = H6 at w6 ⊢
  clear w5 hR
  refine ⟨_, rfl, p, 2, rfl, w6.pool, by decide, by decide, fun n H7 n0 n2 k7 P7 => ⟨_, _, rfl, rfl, 1 + n, rfl, by omega, by omega, ?_⟩⟩
  have w7 := w6.kp k7 P7
  clear w6 k7 P7
  refine for_range (lo := 0) (n := (1 + n).toNat) (fun j σ H' => ∃ (rvs : List V) (rs : List KR) (u9 u10 : Option V), σ = [some (.ref a), some (.int (0 + (i : Int))), some (.ref p), some (.int left), some (.ref G), some (.int sh), some (.bl (decide (V.int wr = V.int 0))), some (.ref nq), some (.ref R), u9, u10, v11, v12, v13, v14, v15] ∧
    Ww p [(R, rvs), (nq, [.str x, .str y, .str z]), (G, [ga, gw', gc])] (fun H' => RsS H' rvs rs) H H' ∧ rs.length = j ∧ (∀ r ∈ rs, KrOk r ∧ ((cntAll r.S : Nat) : Int) ≤ 4) ∧ rs.map KR.n = [x, y, z].take j ∧ (0 < j → sumM rs + 1 ≤ 2 * (j : Int))) ⟨[], [], v9, v10, rfl, w7.to .nil fun _ _ n h => h.nl n, rfl, fun r hr => (nomatch hr), rfl, fun h => by omega⟩ ?_ ?_
  · rintro j σ H1 hj ⟨rvs, rs, u9, u10, rfl, w1, lj, ok, nms, sm⟩
    have j2 : j < 2 := by omega
    refine ⟨_, rfl, _, rfl, p, 2, rfl, w1.pool, by decide, by decide, fun d2 H3 d20 d22 k3 P3 => ⟨_, _, rfl, rfl, .inl ⟨by omega, by omega⟩, _, _, rfl, rfl, ?_⟩⟩
    have w3 := w1.kp k3 P3
    clear w1 k3 P3
    have at_ : atI [V.str x, .str y, .str z] (0 + (j : Int)) = (([x, y, z] : List Str)[j]?).map V.str := by
      rw [show (0 : Int) + (j : Int) = ((j : Nat) : Int) from by omega]
      match j, j2 with
      | 0, _ => rfl
      | 1, _ => rfl
    obtain ⟨nm, en⟩ : ∃ nm, ([x, y, z] : List Str)[j]? = some nm := ⟨_, List.getElem?_eq_getElem (show j < 3 by omega)⟩
    rw [en] at at_
    have inm : IsName nm := by
      have := List.mem_of_getElem? en
      simp only [List.mem_cons, List.not_mem_nil, or_false] at this
      rcases this with rfl | rfl | rfl <;> assumption
    refine ⟨_, rfl, .inl ⟨rfl, _, SqL.of (w3.at 0 rfl)⟩, _, rfl, _, rfl, nq, _, _, _, rfl, rfl, SqL.of (w3.at 1 rfl), at_, (by show 1 ≤ sizeLine; decide), fun t1 ht1 => ⟨(by show 1 ≤ sizeLine; decide), fun t2 ht2 => ⟨(by show 2 ≤ sizeLine; decide), fun t3 ht3 => ?_⟩⟩⟩
    have s1 := same_new ht1 (.tup [.str "take"])
    have s2 := same_new ht2 (.tup [.str "commit"])
    have s3 := same_new ht3 (.tup [.ref t1, .ref t2])
    have g1 := s3 _ _ (s2 _ _ (show (L2.upd H3 t1 (.tup [.str "take"])) t1 = _ from upd_same))
    have g2 := s3 _ _ (show (L2.upd (L2.upd H3 t1 (.tup [.str "take"])) t2 (.tup [.str "commit"])) t2 = _ from upd_same)
    have g3 : (L2.upd (L2.upd (L2.upd H3 t1 (.tup [.str "take"])) t2 (.tup [.str "commit"])) t3 (.tup [.ref t1, .ref t2])) t3 = _ := upd_same
    have w4 := w3.sm ((s1.trans s2).trans s3)
    generalize (L2.upd (L2.upd (L2.upd H3 t1 (.tup [.str "take"])) t2 (.tup [.str "commit"])) t3 (.tup [.ref t1, .ref t2])) = H4 at w4 g1 g2 g3 ⊢
    clear w3 s1 s2 s3 ht1 ht2 ht3
    refine ⟨_, rfl, _, _, rfl, rfl, t3, _, _, rfl, rfl, SqT.of g3, by simp, by omega, by omega, by show 2 ≤ 1000; decide, ?_⟩
    refine ⟨fun e => ?_, fun e t ht => ?_⟩
    · have gt : GoodT H4 t3 (tcS j) := tc_good g1 g2 (by rw [g3, if_pos (by omega)])
      refine ⟨_, rfl, p, 3, rfl, w4.pool, by decide, by decide, fun d3 H5 d30 d33 k5 P5 => ⟨_, _, rfl, rfl, _, rfl, (by show 4 ≤ sizeLine; decide), fun u hu => ?_⟩⟩
      have w5 := (w4.add (G := fun H => GoodT H t3 (tcS j)) gt fun _ _ n h => h.nl n).kp k5 P5
      have am : 1 ≤ 1 + (0 + (j : Int)) * d2 ∧ 1 + (0 + (j : Int)) * d2 ≤ 1 + j := by
        rcases (show j = 0 ∨ j = 1 by omega) with rfl | rfl <;> constructor <;> simp <;> omega
      have w7 := w5.new hu (.tup [.str nm, .ref t3, .int (1 + d3), .int (1 + (0 + (j : Int)) * d2)])
      have hu7 : (L2.upd H5 u (.tup [.str nm, .ref t3, .int (1 + d3), .int (1 + (0 + (j : Int)) * d2)])) u = _ := upd_same
      refine ⟨R, rvs, .ref u, rfl, rfl, w7.at 0 rfl, small1000 (by rw [w7.fc.1.len]; omega), ?_⟩
      have w8 := ((w7.to (G := fun H => RsS H (rvs ++ [.ref u]) (rs ++ [⟨nm, tcS j, 1 + d3, (1 + (0 + (j : Int)) * d2)⟩])) (w7.fc.1.snoc ⟨u, t3, rfl, hu7, w7.fc.2⟩) fun _ _ n h => RsS.nl (vs := rvs ++ [.ref u]) (rs := rs ++ [⟨nm, tcS j, 1 + d3, (1 + (0 + (j : Int)) * d2)⟩]) n h).put 0 (rvs ++ [.ref u]) rfl)
      refine ⟨_, _, _, _, rfl, w8, by rw [List.length_append, lj]; rfl, fun r hr => ?_, ?_, fun _ => ?_⟩
      · rcases List.mem_append.mp hr with h | h
        · exact ok r h
        · rw [List.mem_singleton.mp h]
          exact ⟨⟨inm, by show 1 ≤ 1 + d3; omega, by show 1 + d3 ≤ 3; omega, by show 1 ≤ (1 + (0 + (j : Int)) * d2); omega, by show (1 + (0 + (j : Int)) * d2) ≤ 3; omega⟩, tc_cnt j⟩
      · rw [List.map_append, nms, List.take_add_one, en]; rfl
      · rw [sumM_app, sumM_one]
        show sumM rs + (1 + (0 + (j : Int)) * d2) + 1 ≤ 2 * ((j + 1 : Nat) : Int)
        rcases (show j = 0 ∨ j = 1 by omega) with e0 | e0
        · have : rs = [] := List.length_eq_zero_iff.mp (by omega)
          rw [this]
          show (0 : Int) + (1 + (0 + (j : Int)) * d2) + 1 ≤ _
          omega
        · have := sm (by omega)
          omega
    · have s5 := same_new ht (.tup (List.replicate (1 + (0 + (j : Int))).toNat [V.ref t1, .ref t2]).flatten)
      have gt : GoodT _ t (tcS j) := tc_good (s5 _ _ g1) (s5 _ _ g2) (by
        have e1 : j = 1 := by omega
        subst e1
        rw [upd_same]; rfl)
      have w4 := w4.sm s5
      clear s5 ht
      generalize (L2.upd H4 t (.tup (List.replicate (1 + (0 + (j : Int))).toNat [V.ref t1, .ref t2]).flatten)) = H4 at w4 gt ⊢
      refine ⟨_, rfl, p, 3, rfl, w4.pool, by decide, by decide, fun d3 H5 d30 d33 k5 P5 => ⟨_, _, rfl, rfl, _, rfl, (by show 4 ≤ sizeLine; decide), fun u hu => ?_⟩⟩
      have w5 := (w4.add (G := fun H => GoodT H t (tcS j)) gt fun _ _ n h => h.nl n).kp k5 P5
      have am : 1 ≤ 1 + (0 + (j : Int)) * d2 ∧ 1 + (0 + (j : Int)) * d2 ≤ 1 + j := by
        rcases (show j = 0 ∨ j = 1 by omega) with rfl | rfl <;> constructor <;> simp <;> omega
      have w7 := w5.new hu (.tup [.str nm, .ref t, .int (1 + d3), .int (1 + (0 + (j : Int)) * d2)])
      have hu7 : (L2.upd H5 u (.tup [.str nm, .ref t, .int (1 + d3), .int (1 + (0 + (j : Int)) * d2)])) u = _ := upd_same
      refine ⟨R, rvs, .ref u, rfl, rfl, w7.at 0 rfl, small1000 (by rw [w7.fc.1.len]; omega), ?_⟩
      have w8 := ((w7.to (G := fun H => RsS H (rvs ++ [.ref u]) (rs ++ [⟨nm, tcS j, 1 + d3, (1 + (0 + (j : Int)) * d2)⟩])) (w7.fc.1.snoc ⟨u, t, rfl, hu7, w7.fc.2⟩) fun _ _ n h => RsS.nl (vs := rvs ++ [.ref u]) (rs := rs ++ [⟨nm, tcS j, 1 + d3, (1 + (0 + (j : Int)) * d2)⟩]) n h).put 0 (rvs ++ [.ref u]) rfl)
      refine ⟨_, _, _, _, rfl, w8, by rw [List.length_append, lj]; rfl, fun r hr => ?_, ?_, fun _ => ?_⟩
      · rcases List.mem_append.mp hr with h | h
        · exact ok r h
        · rw [List.mem_singleton.mp h]
          exact ⟨⟨inm, by show 1 ≤ 1 + d3; omega, by show 1 + d3 ≤ 3; omega, by show 1 ≤ (1 + (0 + (j : Int)) * d2); omega, by show (1 + (0 + (j : Int)) * d2) ≤ 3; omega⟩, tc_cnt j⟩
      · rw [List.map_append, nms, List.take_add_one, en]; rfl
      · rw [sumM_app, sumM_one]
        show sumM rs + (1 + (0 + (j : Int)) * d2) + 1 ≤ 2 * ((j + 1 : Nat) : Int)
        rcases (show j = 0 ∨ j = 1 by omega) with e0 | e0
        · have : rs = [] := List.length_eq_zero_iff.mp (by omega)
          rw [this]
          show (0 : Int) + (1 + (0 + (j : Int)) * d2) + 1 ≤ _
          omega
        · have := sm (by omega)
          omega
  rintro σ H1 ⟨rvs, rs, u9, u10, rfl, w1, lj, ok, nms, sm⟩
  clear w7
  refine ⟨fun σ' H' => ∃ (rvs : List V) (rs : List KR), σ' = [some (.ref a), some (.int (0 + (i : Int))), some (.ref p), some (.int left), some (.ref G), some (.int sh), some (.bl (decide (V.int wr = V.int 0))), some (.ref nq), some (.ref R), u9, u10, v11, v12, v13, v14, v15] ∧ Ww p [(R, rvs), (nq, [.str x, .str y, .str z]), (G, [ga, gw', gc])] (fun H' => RsS H' rvs rs) H H' ∧ Gs rs, ?_, ?_⟩
  · refine ⟨_, rfl, R, _, rfl, .inl (SqL.of (w1.at 0 rfl)), rfl, _, rfl, ?_⟩
    have n12 : (1 + n).toNat = 1 ∨ (1 + n).toNat = 2 := by omega
    have hfc := w1.fc
    rcases n12 with e | e
    · rw [e] at lj nms
      obtain ⟨r0, rfl⟩ : ∃ r0, rs = [r0] := by
        match rs, lj with
        | [r], _ => exact ⟨r, rfl⟩
      obtain ⟨v0, rfl⟩ : ∃ v0, rvs = [v0] := by
        have hl := hfc.len
        match rvs, hl with
        | [v], _ => exact ⟨v, rfl⟩
      obtain ⟨t0, b0, rfl, ht0, gd0⟩ : RowS H1 v0 r0 := by
        cases hfc with
        | cons h t => exact h
      refine iteTb (show decide (V.int ((1 : Nat) : Int) = V.int 1) = true from by decide) ?_
      refine ⟨_, rfl, R, _, _, _, rfl, rfl, SqL.of (w1.at 0 rfl), rfl, _, rfl, t0, _, rfl, SqT.of ht0, (by show ¬ ((0 : Nat) = 0 ∧ (3 : Nat) = 4); decide), fun s hs => ?_⟩
      have w2 := w1.new hs (.tup [V.str r0.n, .ref b0, .int r0.b])
      have hs2 : (L2.upd H1 s (.tup [V.str r0.n, .ref b0, .int r0.b])) s = _ := upd_same
      have gd2 := gd0.nl (NL.same (same_new hs (.tup [V.str r0.n, .ref b0, .int r0.b])))
      refine ⟨_, rfl, p, 3, rfl, w2.pool, by decide, by decide, fun d H3 d0 d3 k3 P3 => ⟨_, _, rfl, rfl, (by show 1 ≤ sizeLine; decide), fun o ho => ?_⟩⟩
      have hs3 := k3 _ _ hs2 (ne_of_none ((w1.pool).choose_spec.choose_spec.choose_spec) hs).symm
      have w3 := (w2.add (G := fun H => GoodT H b0 r0.S) gd2 fun _ _ n h => h.nl n).kp k3 P3
      have so := same_new ho (.tup [V.int (1 + d)])
      have w4 := w3.sm so
      refine ⟨s, o, _, _, rfl, rfl, SqT.of (so _ _ hs3), SqT.of upd_same, (by intro z; cases z), small10 (by show 3 ≤ 10; decide), (fun z => nomatch z), fun _ u hu => ?_⟩
      have su := same_new hu (.tup [V.str r0.n, .ref b0, .int r0.b, .int (1 + d)])
      have w5 := w4.sm su
      have hu5 : (L2.upd _ u (.tup [V.str r0.n, .ref b0, .int r0.b, .int (1 + d)])) u = _ := upd_same (H := L2.upd H3 o (.tup [V.int (1 + d)]))
      refine ⟨_, rfl, R, _, 0, 0, rfl, rfl, w5.at 0 rfl, rfl, ?_⟩
      have w6 := (w5.to (G := fun H => RsS H [.ref u] [{ r0 with m := 1 + d }]) (.cons ⟨u, b0, rfl, hu5, w5.fc.2⟩ .nil) fun _ _ n h => RsS.nl (vs := [.ref u]) (rs := [{ r0 with m := 1 + d }]) n h).put 0 [.ref u] rfl
      have o0 := ok r0 (by simp)
      refine ⟨_, _, rfl, w6, ⟨by simp, by simp, fun r hr => ?_, fun r hr => ?_, by simp, ?_⟩⟩
      · rw [List.mem_singleton.mp hr]
        exact ⟨o0.1.1, o0.1.2.1, o0.1.2.2.1, by show 1 ≤ 1 + d; omega, by show 1 + d ≤ 3; omega⟩
      · rw [List.mem_singleton.mp hr]; exact o0.2
      · rw [sumM_one]; show 1 + d ≤ 3; omega
    · rw [e] at lj nms sm
      refine iteFb (decide_eq_false (by rw [hfc.len, lj]; decide)) ⟨_, _, rfl, w1, ⟨fun z => (by rw [z] at lj; cases lj), by omega, fun r hr => (ok r hr).1, fun r hr => (ok r hr).2, ?_, ?_⟩⟩
      · rw [nms]
        simp [xy]
      · have := sm (by decide)
        omega
  clear w1 lj ok nms sm rvs rs
  rintro σ' H2 ⟨rvs, rs, rfl, w2, gs⟩
  have fewr := gs.two
  refine ⟨_, rfl, R, rfl, ⟨_, SqL.of (w2.at 0 rfl)⟩, fun D hD => ?_⟩
  refine lc_list (K := K) (a := R) (xs := rvs) (fun i H3 => H3 D = some (.lst (((rs.take i).map KR.b).map V.int)) ∧ Same H2 H3 ∧ i ≤ rs.length) ⟨upd_same, same_new hD _, Nat.zero_le _⟩ (fun i H3 _ z => SqL.of (z.2.1 _ _ (w2.at 0 rfl))) ?_ ?_
  · rintro i v H3 hv ⟨h3, s3, _⟩
    obtain ⟨r, er, t, b, rfl, ht, hb⟩ := w2.fc.at hv
    refine ⟨rfl, ?_⟩
    unfold tYes
    dsimp only
    rw [if_pos rfl]
    exact ⟨_, rfl, t, _, _, _, rfl, rfl, SqT.of (s3 _ _ ht), rfl, tail1 (g := V.int) (φ := KR.b) er (by omega) hD h3 s3 (Same.refl _)⟩
  rintro H3 ⟨h3, s3, _⟩
  rw [w2.fc.len, List.take_length] at h3
  refine ⟨D, _, rfl, SqL.of h3, by rw [List.length_map]; exact List.length_pos_iff.mpr gs.ne, fun m hm1 hm2 => ?_⟩
  have em : m = maxB rs := rs_max hm1 hm2
  have m13 : 1 ≤ m ∧ m ≤ 3 := by
    obtain ⟨r, hr, e⟩ := List.mem_map.mp hm1
    have := gs.ok r hr
    rw [← e]
    exact ⟨this.2.1, this.2.2.1⟩
  have w3 := w2.sm s3
  clear w2 h3 hD hm1 hm2 s3
  refine ⟨_, rfl, p, 5, rfl, w3.pool, by decide, by decide, fun va H4 a0 a5 k4 P4 => ?_⟩
  have w4 := w3.kp k4 P4
  refine ⟨_, rfl, _, rfl, p, 6, rfl, w4.pool, by decide, by decide, fun r4 H5 r40 r46 k5 P5 => ⟨_, _, rfl, rfl, (by show 2 ≤ sizeLine; decide), fun Lb hLb => ?_⟩⟩
  have w5 := (w4.kp k5 P5).newL hLb [V.non, .int (m + r4)]
  refine ⟨_, rfl, p, 2, rfl, w5.pool, by decide, by decide, fun r5 H6 r50 r52 k6 P6 => ?_⟩
  have w6 := w5.kp k6 P6
  obtain ⟨vw, ew, hvw⟩ : ∃ v, atI [V.non, .int (m + r4)] r5 = some v ∧ (v = .non ∨ ∃ i, v = .int i ∧ m ≤ i ∧ i ≤ 8) := by
    have : r5 = 0 ∨ r5 = 1 := by omega
    rcases this with rfl | rfl
    · exact ⟨_, rfl, .inl rfl⟩
    · exact ⟨_, rfl, .inr ⟨_, rfl, by omega, by omega⟩⟩
  refine ⟨Lb, _, _, _, rfl, rfl, SqL.of (w6.at 0 rfl), ew, _, rfl, p, 3, rfl, w6.pool, by decide, by decide, fun vc H7 c0 c3 k7 P7 => ⟨(by show 3 ≤ sizeLine; decide), fun VL hVL => ?_⟩⟩
  have w7 := (w6.drop.kp k7 P7).newL hVL [.int va, vw, .int vc]
  generalize (L2.upd H7 VL (.lst [.int va, vw, .int vc])) = H8 at w7 ⊢
  clear w3 w4 w5 w6 k4 k5 k6 k7 P4 P5 P6 P7 hLb hVL ew
  have ia : IntNon (.int va) := .inr ⟨_, rfl⟩
  have ic : IntNon (.int vc) := .inr ⟨_, rfl⟩
  have iw : IntNon vw := hvw.imp id fun ⟨i, e, _⟩ => ⟨i, e⟩
  have hw8 : vw = .non ∨ ∃ i, vw = .int i ∧ i ≤ 8 := hvw.imp id fun ⟨i, e, _, h⟩ => ⟨i, e, h⟩
  have any : ∀ {H : Hp} {v : V}, IntNon v → AnyV H v := fun h => by
    rcases h with rfl | ⟨j, rfl⟩
    · exact ⟨_, .non⟩
    · exact ⟨_, .int j⟩
  have good : yWhy (rs.map some) (.int va) vw (.int vc) = none := by
    rw [gs.y, chn_win a0 (by omega) c0 (by omega), if_neg]
    rintro ⟨h1, h2⟩
    rcases hvw with rfl | ⟨i, rfl, h3, h4⟩
    · cases h1
    · have h2 : (decide (maxB rs ≤ i) && decide (i ≤ 8)) = false := h2
      rw [decide_eq_true h4, decide_eq_true (by omega)] at h2
      cases h2
  have len : rs.length = 1 ∨ rs.length = 2 := by
    have n0 : rs.length ≠ 0 := fun e => gs.ne (List.length_eq_zero_iff.mp e)
    omega
  refine ⟨_, rfl, _, rfl, R, VL, rvs, rs, _, _, _, rfl, w7.at 1 rfl, w7.fc, len, gs.ok, w7.at 0 rfl, any ia, any iw, any ic, good, fun y1 H9 s9 S9 => ?_⟩
  have w9 := (w7.sm s9).add (G := fun H => SysAt CS CD CY H y1 rs (.int va) vw (.int vc)) S9 fun _ _ n h => SysAt.nl n h
  clear w7 s9 S9
  refine ⟨_, rfl, _, rfl, _, rfl, _, rfl, _, rfl, y1, R, VL, G, left, rvs, rs, va, vc, vw, ga, gw', gc, rfl, w9.fc.2, w9.at 1 rfl, w9.fc.1, gs, w9.at 0 rfl, iw, w9.at 3 rfl, pa, pw, pc, l0, l4, fun HA sA => ⟨_, rfl, iteF ?_⟩⟩
  have wA := w9.sm sA
  clear w9 sA
  refine ⟨_, rfl, R, rfl, ⟨_, SqL.of (wA.at 1 rfl)⟩, fun BL hBL => ?_⟩
  refine lc_list (K := K) (a := R) (xs := rvs) (fun i H' => ∃ bs : List V, bs.length = i ∧ (∀ b ∈ bs, PlainV b) ∧ Ww p [(BL, bs), (VL, [.int va, vw, .int vc]), (R, rvs), (nq, [.str x, .str y, .str z]), (G, [ga, gw', gc])] (fun H' => RsS H' rvs rs ∧ SysAt CS CD CY H' y1 rs (.int va) vw (.int vc)) H H') ⟨[], rfl, fun b h => (nomatch h), wA.newL hBL []⟩ (fun i H' _ ⟨bs, _, _, w⟩ => SqL.of (w.at 2 rfl)) ?_ ?_
  · rintro i v H' hv ⟨bs, lb, pb, w⟩
    have hi := (List.getElem?_eq_some_iff.mp hv).1
    have := w.fc.1.len
    refine ⟨rfl, ?_⟩
    unfold tYes
    dsimp only
    rw [if_pos rfl]
    refine ⟨_, rfl, p, 3, rfl, w.pool, by decide, by decide, fun d H'' d0 d3 k P => ⟨_, _, rfl, rfl, bs, (w.kp k P).at 0 rfl, small10 (by omega), bs ++ [V.int (1 + d)], by rw [List.length_append, lb]; rfl, fun b hb => ?_, (w.kp k P).put 0 (bs ++ [V.int (1 + d)]) rfl⟩⟩
    rcases List.mem_append.mp hb with hb | hb
    · exact pb b hb
    · rw [List.mem_singleton.mp hb]; exact PlainV.int _
  rintro HB ⟨bs, lb, pb, wB⟩
  rw [wB.fc.1.len] at lb
  clear wA hBL
  refine ⟨fun σ' H' => ∃ bs : List V, σ' = [some (.ref a), some (.int (0 + (i : Int))), some (.ref p), some (.int left), some (.ref G), some (.int sh), some (.bl (decide (V.int wr = V.int 0))), some (.ref nq), some (.ref R), u9, u10, some (.int m), v12, some (.ref VL), some (.ref y1), some (.ref BL)] ∧ bs.length = rs.length ∧ (∀ b ∈ bs, PlainV b) ∧ Ww p [(BL, bs), (VL, [.int va, vw, .int vc]), (R, rvs), (nq, [.str x, .str y, .str z]), (G, [ga, gw', gc])] (fun H' => RsS H' rvs rs ∧ SysAt CS CD CY H' y1 rs (.int va) vw (.int vc)) H H', ?_, ?_⟩
  · refine ⟨_, rfl, _, rfl, ite2 (fun _ => ?_) (fun _ => ⟨bs, rfl, lb, pb, wB⟩)⟩
    refine ⟨_, _, rfl, rfl, (by show 6 ≤ sizeLine; decide), fun X hX => ?_⟩
    have wX := wB.newL hX [V.int 0, .int 4, .bl true, .non, .str "1", .int (0 - 1)]
    refine ⟨_, rfl, p, 6, rfl, wX.pool, by decide, by decide, fun r6 HC r60 r66 k6 P6 => ?_⟩
    obtain ⟨bv, eb, pbv⟩ : ∃ v, atI [V.int 0, .int 4, .bl true, .non, .str "1", .int (0 - 1)] r6 = some v ∧ PlainV v := by
      have : r6 = 0 ∨ r6 = 1 ∨ r6 = 2 ∨ r6 = 3 ∨ r6 = 4 ∨ r6 = 5 := by omega
      rcases this with rfl | rfl | rfl | rfl | rfl | rfl
      · exact ⟨_, rfl, PlainV.int _⟩
      · exact ⟨_, rfl, PlainV.int _⟩
      · exact ⟨_, rfl, .inr (.inr (.inl ⟨_, rfl⟩))⟩
      · exact ⟨_, rfl, .inl rfl⟩
      · exact ⟨_, rfl, .inr (.inr (.inr rfl))⟩
      · exact ⟨_, rfl, PlainV.int _⟩
    have wY := wX.kp k6 P6
    have wZ := wY.drop
    refine ⟨X, _, _, _, rfl, rfl, SqL.of (wY.at 0 rfl), eb, _, rfl, _, rfl, _, rfl, BL, bs, rfl, .inl (SqL.of (wZ.at 0 rfl)), p, _, rfl, wZ.pool, by omega, by omega, fun r7 HD r70 r77 k7 P7 => ?_⟩
    have wQ := wZ.kp k7 P7
    refine ⟨BL, bs, r7, r7.toNat, rfl, rfl, wQ.at 0 rfl, ?_, bs.set r7.toNat bv, rfl, by rw [List.length_set]; exact lb, fun b hb => ?_, wQ.put 0 _ rfl⟩
    · unfold ixN
      rw [if_pos r70, if_pos r77]
    · rcases List.mem_or_eq_of_mem_set hb with h | h
      · exact pb b h
      · rw [h]; exact pbv
  clear wB lb pb bs
  rintro σ' HC ⟨bs, rfl, lb, pb, wC⟩
  refine ⟨_, rfl, _, rfl, _, rfl, _, rfl, _, rfl, y1, R, VL, BL, sh, rvs, bs, rs, va, vc, vw, rfl, wC.fc.2, wC.at 2 rfl, wC.fc.1, gs, wC.at 1 rfl, a0, by omega, c0, by omega, hw8, wC.at 0 rfl, lb, pb, sh0, fun HD sD => ⟨_, rfl, iteF ?_⟩⟩
  have wD := wC.sm sD
  clear wC sD
  refine ⟨_, rfl, _, rfl, _, rfl, R, VL, rvs, rs, _, _, _, rfl, wD.at 2 rfl, wD.fc.1, len, gs.ok, wD.at 1 rfl, any ia, any iw, any ic, good, fun y2 HE sE SE => ?_⟩
  have S1 := wD.fc.2.keep sE
  obtain ⟨d1, _, _, _, g1, _⟩ := id S1
  obtain ⟨d2, _, _, _, g2, _⟩ := id SE
  refine ⟨y1, y2, d1, d2, _, _, rfl, rfl, g1, g2, ⟨y1, y2, rs, rs, _, _, _, _, _, _, rfl, S1, SE, rfl, scal_in ia ia, scal_in iw iw, scal_in ic ic, fun HF sF => ⟨_, rfl, ?_⟩⟩⟩
  rw [ksEq_refl (rs_good wD.fc.1), decide_eq_true rfl, decide_eq_true rfl, decide_eq_true rfl]
  exact ⟨_, rfl, iteFb rfl ⟨_, _, _, _, _, _, _, _, _, _, _, _, _, _, _, rfl, (wD.sm sE).same.trans sF⟩⟩
end
end Tk
set_option maxRecDepth 100000
namespace Tk
open PySem L2 StK PyProof.Rows
theorem checks {P : Program} {w : World} {K : PySem.W.Frag} {mg : Str → Option Value} {base : Heap} {CS CK it : Addr} {fB fS fF fH : Addr} {fdB fdS fdF fdH : FuncData} (FB : Fun K "check_branch" "Check.check_branch" sKBr fB fdB) (FS : Fun K "check_statement" "Check.check_statement" sKSt fS fdS) (B : Bl mg) (T : Txt K w mg CS CK it)
    (bB : Binds K fdB psKB []) (mB : Meth K CK "check_branch" fB) (bS : Binds K fdS psKS []) (mS : Meth K CK "check_statement" fS)
    (GF : FnOk P w K mg base CX0 2 fF fdF ["statement", "place", "earlier", "held"] spFault) (bF : Binds K fdF ["statement", "place", "earlier", "held"] []) (kF : PySem.W.keepIn K (.ref fF) = true) (mF : mg "fault_of" = some (.ref fF)) (GH : FnOk P w K mg base CX0 1 fH fdH ["word", "held"] spHeld) (bH : Binds K fdH ["word", "held"] []) (kH : PySem.W.keepIn K (.ref fH) = true) (mH : mg "held_after" = some (.ref fH)) : ∀ m : Nat, FnOk P w K mg base CX0 (2 + 2 * m) fB fdB psKB (spKB CK m)
  | 0 => by
    have no : ∀ vs H Q E, ¬ spKB CK 0 vs H Q E := fun vs H Q E h => by
      obtain ⟨c, dd, t, u, xs, h, B, d, p, W, _, e, d2, _⟩ := h
      omega
    exact ⟨fun vs H Q E h => absurd h (no vs H Q E), fun A outer s H args us vs Q E _ _ _ _ h => absurd h (no vs H Q E)⟩
  | m + 1 => ok_kbr FB T (ok_kst (Nat.le_add_right 2 _) FS B T (checks FB FS B T bB mB bS mS GF bF kF mF GH bH kH mH m) bB mB GF bF kF mF GH bH kH mH) bS mS
theorem kit_ref {K : PySem.W.Frag} {D C : Addr} {b : Bool} (hne : (Value.ref D == Value.ref C) = false) (ic : PySem.W.isClsIn K C = true) (tC : PySem.W.typeIn K (.ref C) = some (.type "type")) (s : PySem.W.subIn K (.ref D) (.ref C) = some b) : PySem.W.kitOne K (.ref D) (.ref C) = some b := by
  have e1 : (PySem.W.clsIn K C).isSome = true := ic
  unfold PySem.W.kitOne
  rw [hne, if_neg (by decide)]
  show (if ((PySem.W.clsIn K C).isSome && PySem.W.typeIn K (.ref C) == some (.type "type")) = true then PySem.W.subIn K (.ref D) (.ref C) else none) = some b
  rw [e1, tC, if_pos (show (true && some (Value.type "type") == some (Value.type "type")) = true from by rw [beq_self_eq_true]; rfl)]
  exact s
theorem ve_ok {CT : Addr} : PySem.HandSPX.refsVE [.ref CT, .type "ValueError", .type "Exception", .type "BaseException", .type "object"] = true := by
  show PySem.HandSPX.refsVE [.type "ValueError", .type "Exception", .type "BaseException", .type "object"] = true
  decide +kernel
theorem kit_no {K : PySem.W.Frag} {C : Addr} {t : String} (iC : PySem.W.isClsIn K C = true) (tC : PySem.W.typeIn K (.ref C) = some (.type "type")) (u : PySem.W.subIn K (.type t) (.ref C) = some false) : PySem.W.kitOne K (.type t) (.ref C) = some false := by
  have e1 : (PySem.W.clsIn K C).isSome = true := iC
  show (if ((PySem.W.clsIn K C).isSome && PySem.W.typeIn K (.ref C) == some (.type "type")) = true then PySem.W.subIn K (.type t) (.ref C) else none) = some false
  rw [e1, tC, if_pos (show (true && some (Value.type "type") == some (Value.type "type")) = true from by rw [beq_self_eq_true]; rfl)]
  exact u
set_option maxHeartbeats 4000000 in
theorem all_mk {l : PySem.W.OpenLaw} {w : World} {K : PySem.W.Frag} {h : Heap} {mg : Str → Option Value} {fa CS CK CD CY CBY CBK CT it KD KY KV f_isInt f_within f_isName f_fault f_form f_held f_scriptOf f_count f_are f_faultY f_kept f_ab f_pool f_draw f_names f_sys f_chd f_told f_lint f_val f_same f_vf f_bf f_law f_sinit f_seq f_slen f_kinit f_kbr f_kst f_deq f_yeq f_ywb f_byi f_dinit f_yinit f_ywv : Addr} (X : K.In h) (G : h.Ns mainGlobals mg) (hfa : mg "law" = some (.ref fa))
    {nmCBY qCBY : Str} {NCBY : Addr} {bsCBY sbCBY : List Value} {snCBY : List Str} {abCBY : Bool} {coCBY : Option Bool} {ddCBY : Option Addr} {m0CBY m1CBY m2CBY m3CBY m5CBY : Option Value}
    {od_isInt an_isInt : Option Addr} {sl_isInt : Array (Option Value)} {oc_isInt kV_isInt dc_isInt pm_isInt cd_isInt ct_isInt : Value}
    {od_within an_within : Option Addr} {sl_within : Array (Option Value)} {oc_within kV_within dc_within pm_within cd_within ct_within : Value}
    {od_isName an_isName : Option Addr} {sl_isName : Array (Option Value)} {oc_isName kV_isName dc_isName pm_isName cd_isName ct_isName : Value}
    {od_fault an_fault : Option Addr} {sl_fault : Array (Option Value)} {oc_fault kV_fault dc_fault pm_fault cd_fault ct_fault : Value}
    {od_form an_form : Option Addr} {sl_form : Array (Option Value)} {oc_form kV_form dc_form pm_form cd_form ct_form : Value}
    {od_held an_held : Option Addr} {sl_held : Array (Option Value)} {oc_held kV_held dc_held pm_held cd_held ct_held : Value}
    {od_scriptOf an_scriptOf : Option Addr} {sl_scriptOf : Array (Option Value)} {oc_scriptOf kV_scriptOf dc_scriptOf pm_scriptOf cd_scriptOf ct_scriptOf : Value}
    {od_count an_count : Option Addr} {sl_count : Array (Option Value)} {oc_count kV_count dc_count pm_count cd_count ct_count : Value}
    {od_are an_are : Option Addr} {sl_are : Array (Option Value)} {oc_are kV_are dc_are pm_are cd_are ct_are : Value}
    {od_faultY an_faultY : Option Addr} {sl_faultY : Array (Option Value)} {oc_faultY kV_faultY dc_faultY pm_faultY cd_faultY ct_faultY : Value}
    {od_kept an_kept : Option Addr} {sl_kept : Array (Option Value)} {oc_kept kV_kept dc_kept pm_kept cd_kept ct_kept : Value}
    {od_ab an_ab : Option Addr} {sl_ab : Array (Option Value)} {oc_ab kV_ab dc_ab pm_ab cd_ab ct_ab : Value}
    {od_pool an_pool : Option Addr} {sl_pool : Array (Option Value)} {oc_pool kV_pool dc_pool pm_pool cd_pool ct_pool : Value}
    {od_draw an_draw : Option Addr} {sl_draw : Array (Option Value)} {oc_draw kV_draw dc_draw pm_draw cd_draw ct_draw : Value}
    {od_names an_names : Option Addr} {sl_names : Array (Option Value)} {oc_names kV_names dc_names pm_names cd_names ct_names : Value}
    {od_sys an_sys : Option Addr} {sl_sys : Array (Option Value)} {oc_sys kV_sys dc_sys pm_sys cd_sys ct_sys : Value}
    {od_chd an_chd : Option Addr} {sl_chd : Array (Option Value)} {oc_chd kV_chd dc_chd pm_chd cd_chd ct_chd : Value}
    {od_told an_told : Option Addr} {sl_told : Array (Option Value)} {oc_told kV_told dc_told pm_told cd_told ct_told : Value}
    {od_lint an_lint : Option Addr} {sl_lint : Array (Option Value)} {oc_lint kV_lint dc_lint pm_lint cd_lint ct_lint : Value}
    {od_val an_val : Option Addr} {sl_val : Array (Option Value)} {oc_val kV_val dc_val pm_val cd_val ct_val : Value}
    {od_same an_same : Option Addr} {sl_same : Array (Option Value)} {oc_same kV_same dc_same pm_same cd_same ct_same : Value}
    {od_vf an_vf : Option Addr} {sl_vf : Array (Option Value)} {oc_vf kV_vf dc_vf pm_vf cd_vf ct_vf : Value}
    {od_bf an_bf : Option Addr} {sl_bf : Array (Option Value)} {oc_bf kV_bf dc_bf pm_bf cd_bf ct_bf : Value}
    {od_law an_law : Option Addr} {sl_law : Array (Option Value)} {oc_law kV_law dc_law pm_law cd_law ct_law : Value}
    {od_sinit an_sinit : Option Addr} {sl_sinit : Array (Option Value)} {oc_sinit kV_sinit dc_sinit pm_sinit cd_sinit ct_sinit : Value}
    {od_seq an_seq : Option Addr} {sl_seq : Array (Option Value)} {oc_seq kV_seq dc_seq pm_seq cd_seq ct_seq : Value}
    {od_slen an_slen : Option Addr} {sl_slen : Array (Option Value)} {oc_slen kV_slen dc_slen pm_slen cd_slen ct_slen : Value}
    {od_kinit an_kinit : Option Addr} {sl_kinit : Array (Option Value)} {oc_kinit kV_kinit dc_kinit pm_kinit cd_kinit ct_kinit : Value}
    {od_kbr an_kbr : Option Addr} {sl_kbr : Array (Option Value)} {oc_kbr kV_kbr dc_kbr pm_kbr cd_kbr ct_kbr : Value}
    {od_kst an_kst : Option Addr} {sl_kst : Array (Option Value)} {oc_kst kV_kst dc_kst pm_kst cd_kst ct_kst : Value}
    {od_deq an_deq : Option Addr} {sl_deq : Array (Option Value)} {oc_deq kV_deq dc_deq pm_deq cd_deq ct_deq : Value}
    {od_yeq an_yeq : Option Addr} {sl_yeq : Array (Option Value)} {oc_yeq kV_yeq dc_yeq pm_yeq cd_yeq ct_yeq : Value}
    {od_ywb an_ywb : Option Addr} {sl_ywb : Array (Option Value)} {oc_ywb kV_ywb dc_ywb pm_ywb cd_ywb ct_ywb : Value}
    {od_byi an_byi : Option Addr} {sl_byi : Array (Option Value)} {oc_byi kV_byi dc_byi pm_byi cd_byi ct_byi : Value}
    {od_dinit an_dinit : Option Addr} {sl_dinit : Array (Option Value)} {oc_dinit dc_dinit pm_dinit cd_dinit ct_dinit : Value}
    {od_yinit an_yinit : Option Addr} {sl_yinit : Array (Option Value)} {oc_yinit dc_yinit pm_yinit cd_yinit ct_yinit : Value}
    {od_ywv an_ywv : Option Addr} {sl_ywv : Array (Option Value)} {oc_ywv dc_ywv pm_ywv cd_ywv ct_ywv : Value}
    {esI : Array DictEntry} {nI : Nat} {t_LONGEST_NAME t_MOST_STATEMENTS t_MOST_HELD t_MOST_NESTED t_MOST_BLOCK t_MOST_SESSIONS t_LONGEST_OF_MANY t_MOST_AHEAD t_MOST_WINDOW t_MOST_CRASHES t_take t_commit t_rollback t_drop t_leave t_lock t_unlock t_choose tk1 tk2 tk3 tk4 tk5 tk6 tk7 : Tok}
    (aCS : PySem.W.nsIn K mainGlobals "Script" = some (some (.ref CS)))
    (aCK : PySem.W.nsIn K mainGlobals "Check" = some (some (.ref CK)))
    (aCD : PySem.W.nsIn K mainGlobals "Kind" = some (some (.ref CD)))
    (aCY : PySem.W.nsIn K mainGlobals "System" = some (some (.ref CY)))
    (aCBY : PySem.W.nsIn K mainGlobals "BadSystem" = some (some (.ref CBY)))
    (aCBK : PySem.W.nsIn K mainGlobals "BadKind" = some (some (.ref CBK)))
    (aCT : PySem.W.nsIn K mainGlobals "TakeError" = some (some (.ref CT)))
    (pgCS : PySem.W.plainGet K CS Str.empty = true)
    (hdCS : PySem.W.hasDictIn K CS = true)
    (poCS : PySem.W.plainOver K CS = true)
    (saCS : PySem.W.findIn K (.ref CS) "__setattr__" = some (some (.builtin "object.__setattr__")))
    (mkCS : PySem.W.makesIn K CS = true)
    (kcCS : PySem.W.keepIn K (.ref CS) = true)
    (pgCK : PySem.W.plainGet K CK Str.empty = true)
    (hdCK : PySem.W.hasDictIn K CK = true)
    (poCK : PySem.W.plainOver K CK = true)
    (saCK : PySem.W.findIn K (.ref CK) "__setattr__" = some (some (.builtin "object.__setattr__")))
    (mkCK : PySem.W.makesIn K CK = true)
    (kcCK : PySem.W.keepIn K (.ref CK) = true)
    (pgCD : PySem.W.plainGet K CD Str.empty = true)
    (hdCD : PySem.W.hasDictIn K CD = true)
    (poCD : PySem.W.plainOver K CD = true)
    (saCD : PySem.W.findIn K (.ref CD) "__setattr__" = some (some (.builtin "object.__setattr__")))
    (mkCD : PySem.W.makesIn K CD = true)
    (kcCD : PySem.W.keepIn K (.ref CD) = true)
    (pgCY : PySem.W.plainGet K CY Str.empty = true)
    (hdCY : PySem.W.hasDictIn K CY = true)
    (poCY : PySem.W.plainOver K CY = true)
    (saCY : PySem.W.findIn K (.ref CY) "__setattr__" = some (some (.builtin "object.__setattr__")))
    (mkCY : PySem.W.makesIn K CY = true)
    (kcCY : PySem.W.keepIn K (.ref CY) = true)
    (caCS : PySem.W.findIn K (.ref CS) "__class__" = some (some (.builtin "object.__class__")))
    (obCS : PySem.W.mroIn K CS (.type "object") = some true)
    (caCD : PySem.W.findIn K (.ref CD) "__class__" = some (some (.builtin "object.__class__")))
    (obCD : PySem.W.mroIn K CD (.type "object") = some true)
    (caCY : PySem.W.findIn K (.ref CY) "__class__" = some (some (.builtin "object.__class__")))
    (obCY : PySem.W.mroIn K CY (.type "object") = some true)
    (neCS : PySem.W.findIn K (.ref CS) "__ne__" = some (some (.builtin "object.__ne__")))
    (neCD : PySem.W.findIn K (.ref CD) "__ne__" = some (some (.builtin "object.__ne__")))
    (neCY : PySem.W.findIn K (.ref CY) "__ne__" = some (some (.builtin "object.__ne__")))
    (cn : PySem.W.specialIn K (.builtin "object.__class__") "__get__" = some (some (.builtin "getset_descriptor.__get__")))
    (ct : PySem.W.takesIn K (.builtin "object.__class__") = some true)
    (iCS : PySem.W.isClsIn K CS = true)
    (tCS : PySem.W.typeIn K (.ref CS) = some (.type "type"))
    (uCS : PySem.W.subIn K (.type "tuple") (.ref CS) = some false)
    (iCD : PySem.W.isClsIn K CD = true)
    (tCD : PySem.W.typeIn K (.ref CD) = some (.type "type"))
    (u_NoneType : PySem.W.subIn K (.type "NoneType") (.ref CD) = some false)
    (u_bool : PySem.W.subIn K (.type "bool") (.ref CD) = some false)
    (u_int : PySem.W.subIn K (.type "int") (.ref CD) = some false)
    (u_str : PySem.W.subIn K (.type "str") (.ref CD) = some false)
    (u_list : PySem.W.subIn K (.type "list") (.ref CD) = some false)
    (u_tuple : PySem.W.subIn K (.type "tuple") (.ref CD) = some false)
    (u_dict : PySem.W.subIn K (.type "dict") (.ref CD) = some false)
    (nCSstatements : PySem.W.findIn K (.ref CS) "statements" = some none)
    (nCSfound : PySem.W.findIn K (.ref CS) "found" = some none)
    (nCSplaces : PySem.W.findIn K (.ref CS) "places" = some none)
    (nCKfound : PySem.W.findIn K (.ref CK) "found" = some none)
    (nCDname : PySem.W.findIn K (.ref CD) "name" = some none)
    (nCDscript : PySem.W.findIn K (.ref CD) "script" = some none)
    (nCDblock : PySem.W.findIn K (.ref CD) "block" = some none)
    (nCDmany : PySem.W.findIn K (.ref CD) "many" = some none)
    (nCYkinds : PySem.W.findIn K (.ref CY) "kinds" = some none)
    (nCYahead : PySem.W.findIn K (.ref CY) "ahead" = some none)
    (nCYwindow : PySem.W.findIn K (.ref CY) "window" = some none)
    (nCYcrashes : PySem.W.findIn K (.ref CY) "crashes" = some none)
    (nCYsessions : PySem.W.findIn K (.ref CY) "sessions" = some none)
    (xCBY : K.lookup CBY = some (excClassObj nmCBY qCBY CBY NCBY bsCBY [.ref CT, .type "ValueError", .type "Exception", .type "BaseException", .type "object"] true snCBY sbCBY abCBY coCBY ddCBY m0CBY m1CBY m2CBY m3CBY m5CBY "ValueError.__new__"))
    (saCBY : PySem.W.findIn K (.ref CBY) "__setattr__" = some (some (.builtin "object.__setattr__")))
    (gaCBY : PySem.W.findIn K (.ref CBY) "__getattribute__" = some (some (.builtin "BaseException.__getattribute__")))
    (ggCBY : PySem.W.findIn K (.ref CBY) "__getattr__" = some none)
    (nfCBY : PySem.W.findIn K (.ref CBY) "why" = some none)
    (eCBY : PySem.W.subIn K (.ref CBY) (.type "BaseException") = some true)
    (tCBY : PySem.W.typeIn K (.ref CBY) = some (.type "type"))
    (hCBY : PySem.W.hasDictIn K CBY = true)
    (kcCBY : PySem.W.keepIn K (.ref CBY) = true)
    (caCBY : PySem.W.findIn K (.ref CBY) "__class__" = some (some (.builtin "object.__class__")))
    (obCBY : PySem.W.mroIn K CBY (.type "object") = some true)
    (iCBY : PySem.W.isClsIn K CBY = true)
    (iCT : PySem.W.isClsIn K CT = true)
    (tCT : PySem.W.typeIn K (.ref CT) = some (.type "type"))
    (iCBK : PySem.W.isClsIn K CBK = true)
    (tCBK : PySem.W.typeIn K (.ref CBK) = some (.type "type"))
    (sCBYCBY : PySem.W.subIn K (.ref CBY) (.ref CBY) = some true)
    (sCBYCT : PySem.W.subIn K (.ref CBY) (.ref CT) = some true)
    (sCBYCBK : PySem.W.subIn K (.ref CBY) (.ref CBK) = some false)
    (dCBYCT : (Value.ref CBY == Value.ref CT) = false)
    (dCBYCBK : (Value.ref CBY == Value.ref CBK) = false)
    (a_isInt : PySem.W.nsIn K mainGlobals "is_integer" = some (some (.ref f_isInt)))
    (l_isInt : K.lookup f_isInt = some ⟨oc_isInt, od_isInt, .func (PySem.W.fnOf "is_integer" "is_integer" (defArgs sIsInt) (defBody sIsInt) (defScope sIsInt) .none kV_isInt dc_isInt pm_isInt an_isInt cd_isInt ct_isInt), sl_isInt⟩)
    (c_isInt : PySem.W.codeIn K cd_isInt "is_integer" = true)
    (k_isInt : PySem.W.keepIn K (.ref f_isInt) = true)
    (a_within : PySem.W.nsIn K mainGlobals "is_within" = some (some (.ref f_within)))
    (l_within : K.lookup f_within = some ⟨oc_within, od_within, .func (PySem.W.fnOf "is_within" "is_within" (defArgs sWithin) (defBody sWithin) (defScope sWithin) .none kV_within dc_within pm_within an_within cd_within ct_within), sl_within⟩)
    (c_within : PySem.W.codeIn K cd_within "is_within" = true)
    (k_within : PySem.W.keepIn K (.ref f_within) = true)
    (a_isName : PySem.W.nsIn K mainGlobals "is_name" = some (some (.ref f_isName)))
    (l_isName : K.lookup f_isName = some ⟨oc_isName, od_isName, .func (PySem.W.fnOf "is_name" "is_name" (defArgs sIsName) (defBody sIsName) (defScope sIsName) .none kV_isName dc_isName pm_isName an_isName cd_isName ct_isName), sl_isName⟩)
    (c_isName : PySem.W.codeIn K cd_isName "is_name" = true)
    (k_isName : PySem.W.keepIn K (.ref f_isName) = true)
    (a_fault : PySem.W.nsIn K mainGlobals "fault_of" = some (some (.ref f_fault)))
    (l_fault : K.lookup f_fault = some ⟨oc_fault, od_fault, .func (PySem.W.fnOf "fault_of" "fault_of" (defArgs sFault) (defBody sFault) (defScope sFault) .none kV_fault dc_fault pm_fault an_fault cd_fault ct_fault), sl_fault⟩)
    (c_fault : PySem.W.codeIn K cd_fault "fault_of" = true)
    (k_fault : PySem.W.keepIn K (.ref f_fault) = true)
    (a_form : PySem.W.nsIn K mainGlobals "has_form" = some (some (.ref f_form)))
    (l_form : K.lookup f_form = some ⟨oc_form, od_form, .func (PySem.W.fnOf "has_form" "has_form" (defArgs sForm) (defBody sForm) (defScope sForm) .none kV_form dc_form pm_form an_form cd_form ct_form), sl_form⟩)
    (c_form : PySem.W.codeIn K cd_form "has_form" = true)
    (k_form : PySem.W.keepIn K (.ref f_form) = true)
    (a_held : PySem.W.nsIn K mainGlobals "held_after" = some (some (.ref f_held)))
    (l_held : K.lookup f_held = some ⟨oc_held, od_held, .func (PySem.W.fnOf "held_after" "held_after" (defArgs sHeld) (defBody sHeld) (defScope sHeld) .none kV_held dc_held pm_held an_held cd_held ct_held), sl_held⟩)
    (c_held : PySem.W.codeIn K cd_held "held_after" = true)
    (k_held : PySem.W.keepIn K (.ref f_held) = true)
    (a_scriptOf : PySem.W.nsIn K mainGlobals "script_of" = some (some (.ref f_scriptOf)))
    (l_scriptOf : K.lookup f_scriptOf = some ⟨oc_scriptOf, od_scriptOf, .func (PySem.W.fnOf "script_of" "script_of" (defArgs sScriptOf) (defBody sScriptOf) (defScope sScriptOf) .none kV_scriptOf dc_scriptOf pm_scriptOf an_scriptOf cd_scriptOf ct_scriptOf), sl_scriptOf⟩)
    (c_scriptOf : PySem.W.codeIn K cd_scriptOf "script_of" = true)
    (k_scriptOf : PySem.W.keepIn K (.ref f_scriptOf) = true)
    (a_count : PySem.W.nsIn K mainGlobals "count_of_sessions" = some (some (.ref f_count)))
    (l_count : K.lookup f_count = some ⟨oc_count, od_count, .func (PySem.W.fnOf "count_of_sessions" "count_of_sessions" (defArgs sCount) (defBody sCount) (defScope sCount) .none kV_count dc_count pm_count an_count cd_count ct_count), sl_count⟩)
    (c_count : PySem.W.codeIn K cd_count "count_of_sessions" = true)
    (k_count : PySem.W.keepIn K (.ref f_count) = true)
    (a_are : PySem.W.nsIn K mainGlobals "are_kinds" = some (some (.ref f_are)))
    (l_are : K.lookup f_are = some ⟨oc_are, od_are, .func (PySem.W.fnOf "are_kinds" "are_kinds" (defArgs sAre) (defBody sAre) (defScope sAre) .none kV_are dc_are pm_are an_are cd_are ct_are), sl_are⟩)
    (c_are : PySem.W.codeIn K cd_are "are_kinds" = true)
    (k_are : PySem.W.keepIn K (.ref f_are) = true)
    (a_faultY : PySem.W.nsIn K mainGlobals "fault_of_system" = some (some (.ref f_faultY)))
    (l_faultY : K.lookup f_faultY = some ⟨oc_faultY, od_faultY, .func (PySem.W.fnOf "fault_of_system" "fault_of_system" (defArgs sFaultY) (defBody sFaultY) (defScope sFaultY) .none kV_faultY dc_faultY pm_faultY an_faultY cd_faultY ct_faultY), sl_faultY⟩)
    (c_faultY : PySem.W.codeIn K cd_faultY "fault_of_system" = true)
    (k_faultY : PySem.W.keepIn K (.ref f_faultY) = true)
    (a_kept : PySem.W.nsIn K mainGlobals "value_or_kept" = some (some (.ref f_kept)))
    (l_kept : K.lookup f_kept = some ⟨oc_kept, od_kept, .func (PySem.W.fnOf "value_or_kept" "value_or_kept" (defArgs sKept) (defBody sKept) (defScope sKept) .none kV_kept dc_kept pm_kept an_kept cd_kept ct_kept), sl_kept⟩)
    (c_kept : PySem.W.codeIn K cd_kept "value_or_kept" = true)
    (k_kept : PySem.W.keepIn K (.ref f_kept) = true)
    (a_ab : PySem.W.nsIn K mainGlobals "are_blocks" = some (some (.ref f_ab)))
    (l_ab : K.lookup f_ab = some ⟨oc_ab, od_ab, .func (PySem.W.fnOf "are_blocks" "are_blocks" (defArgs sAB) (defBody sAB) (defScope sAB) .none kV_ab dc_ab pm_ab an_ab cd_ab ct_ab), sl_ab⟩)
    (c_ab : PySem.W.codeIn K cd_ab "are_blocks" = true)
    (k_ab : PySem.W.keepIn K (.ref f_ab) = true)
    (a_pool : PySem.W.nsIn K mainGlobals "_law_pool" = some (some (.ref f_pool)))
    (l_pool : K.lookup f_pool = some ⟨oc_pool, od_pool, .func (PySem.W.fnOf "_law_pool" "_law_pool" (defArgs sPool) (defBody sPool) (defScope sPool) .none kV_pool dc_pool pm_pool an_pool cd_pool ct_pool), sl_pool⟩)
    (c_pool : PySem.W.codeIn K cd_pool "_law_pool" = true)
    (k_pool : PySem.W.keepIn K (.ref f_pool) = true)
    (a_draw : PySem.W.nsIn K mainGlobals "_law_draw" = some (some (.ref f_draw)))
    (l_draw : K.lookup f_draw = some ⟨oc_draw, od_draw, .func (PySem.W.fnOf "_law_draw" "_law_draw" (defArgs sDraw) (defBody sDraw) (defScope sDraw) .none kV_draw dc_draw pm_draw an_draw cd_draw ct_draw), sl_draw⟩)
    (c_draw : PySem.W.codeIn K cd_draw "_law_draw" = true)
    (k_draw : PySem.W.keepIn K (.ref f_draw) = true)
    (a_names : PySem.W.nsIn K mainGlobals "_law_names" = some (some (.ref f_names)))
    (l_names : K.lookup f_names = some ⟨oc_names, od_names, .func (PySem.W.fnOf "_law_names" "_law_names" (defArgs sNames) (defBody sNames) (defScope sNames) .none kV_names dc_names pm_names an_names cd_names ct_names), sl_names⟩)
    (c_names : PySem.W.codeIn K cd_names "_law_names" = true)
    (k_names : PySem.W.keepIn K (.ref f_names) = true)
    (a_sys : PySem.W.nsIn K mainGlobals "_law_system" = some (some (.ref f_sys)))
    (l_sys : K.lookup f_sys = some ⟨oc_sys, od_sys, .func (PySem.W.fnOf "_law_system" "_law_system" (defArgs sSys) (defBody sSys) (defScope sSys) .none kV_sys dc_sys pm_sys an_sys cd_sys ct_sys), sl_sys⟩)
    (c_sys : PySem.W.codeIn K cd_sys "_law_system" = true)
    (k_sys : PySem.W.keepIn K (.ref f_sys) = true)
    (a_chd : PySem.W.nsIn K mainGlobals "_law_changed" = some (some (.ref f_chd)))
    (l_chd : K.lookup f_chd = some ⟨oc_chd, od_chd, .func (PySem.W.fnOf "_law_changed" "_law_changed" (defArgs sChd) (defBody sChd) (defScope sChd) .none kV_chd dc_chd pm_chd an_chd cd_chd ct_chd), sl_chd⟩)
    (c_chd : PySem.W.codeIn K cd_chd "_law_changed" = true)
    (k_chd : PySem.W.keepIn K (.ref f_chd) = true)
    (a_told : PySem.W.nsIn K mainGlobals "_law_told" = some (some (.ref f_told)))
    (l_told : K.lookup f_told = some ⟨oc_told, od_told, .func (PySem.W.fnOf "_law_told" "_law_told" (defArgs sTold9) (defBody sTold9) (defScope sTold9) .none kV_told dc_told pm_told an_told cd_told ct_told), sl_told⟩)
    (c_told : PySem.W.codeIn K cd_told "_law_told" = true)
    (k_told : PySem.W.keepIn K (.ref f_told) = true)
    (a_lint : PySem.W.nsIn K mainGlobals "_law_integer" = some (some (.ref f_lint)))
    (l_lint : K.lookup f_lint = some ⟨oc_lint, od_lint, .func (PySem.W.fnOf "_law_integer" "_law_integer" (defArgs sInteger) (defBody sInteger) (defScope sInteger) .none kV_lint dc_lint pm_lint an_lint cd_lint ct_lint), sl_lint⟩)
    (c_lint : PySem.W.codeIn K cd_lint "_law_integer" = true)
    (k_lint : PySem.W.keepIn K (.ref f_lint) = true)
    (a_val : PySem.W.nsIn K mainGlobals "_law_value" = some (some (.ref f_val)))
    (l_val : K.lookup f_val = some ⟨oc_val, od_val, .func (PySem.W.fnOf "_law_value" "_law_value" (defArgs sVal9) (defBody sVal9) (defScope sVal9) .none kV_val dc_val pm_val an_val cd_val ct_val), sl_val⟩)
    (c_val : PySem.W.codeIn K cd_val "_law_value" = true)
    (k_val : PySem.W.keepIn K (.ref f_val) = true)
    (a_same : PySem.W.nsIn K mainGlobals "_law_same" = some (some (.ref f_same)))
    (l_same : K.lookup f_same = some ⟨oc_same, od_same, .func (PySem.W.fnOf "_law_same" "_law_same" (defArgs sSame) (defBody sSame) (defScope sSame) .none kV_same dc_same pm_same an_same cd_same ct_same), sl_same⟩)
    (c_same : PySem.W.codeIn K cd_same "_law_same" = true)
    (k_same : PySem.W.keepIn K (.ref f_same) = true)
    (a_vf : PySem.W.nsIn K mainGlobals "_law_values_fit" = some (some (.ref f_vf)))
    (l_vf : K.lookup f_vf = some ⟨oc_vf, od_vf, .func (PySem.W.fnOf "_law_values_fit" "_law_values_fit" (defArgs sVF) (defBody sVF) (defScope sVF) .none kV_vf dc_vf pm_vf an_vf cd_vf ct_vf), sl_vf⟩)
    (c_vf : PySem.W.codeIn K cd_vf "_law_values_fit" = true)
    (k_vf : PySem.W.keepIn K (.ref f_vf) = true)
    (a_bf : PySem.W.nsIn K mainGlobals "_law_blocks_fit" = some (some (.ref f_bf)))
    (l_bf : K.lookup f_bf = some ⟨oc_bf, od_bf, .func (PySem.W.fnOf "_law_blocks_fit" "_law_blocks_fit" (defArgs sBF) (defBody sBF) (defScope sBF) .none kV_bf dc_bf pm_bf an_bf cd_bf ct_bf), sl_bf⟩)
    (c_bf : PySem.W.codeIn K cd_bf "_law_blocks_fit" = true)
    (k_bf : PySem.W.keepIn K (.ref f_bf) = true)
    (a_law : PySem.W.nsIn K mainGlobals "law" = some (some (.ref f_law)))
    (l_law : K.lookup f_law = some ⟨oc_law, od_law, .func (PySem.W.fnOf "law" "law" (defArgs sLaw) (defBody sLaw) (defScope sLaw) .none kV_law dc_law pm_law an_law cd_law ct_law), sl_law⟩)
    (c_law : PySem.W.codeIn K cd_law "law" = true)
    (k_law : PySem.W.keepIn K (.ref f_law) = true)
    (a_sinit : PySem.W.findIn K (.ref CS) "__init__" = some (some (.ref f_sinit)))
    (i_sinit : PySem.W.isFn K (.ref f_sinit) = true)
    (l_sinit : K.lookup f_sinit = some ⟨oc_sinit, od_sinit, .func (PySem.W.fnOf "__init__" "Script.__init__" (defArgs sSInit) (defBody sSInit) (defScope sSInit) .none kV_sinit dc_sinit pm_sinit an_sinit cd_sinit ct_sinit), sl_sinit⟩)
    (c_sinit : PySem.W.codeIn K cd_sinit "Script.__init__" = true)
    (k_sinit : PySem.W.keepIn K (.ref f_sinit) = true)
    (a_seq : PySem.W.findIn K (.ref CS) "__eq__" = some (some (.ref f_seq)))
    (i_seq : PySem.W.isFn K (.ref f_seq) = true)
    (l_seq : K.lookup f_seq = some ⟨oc_seq, od_seq, .func (PySem.W.fnOf "__eq__" "Script.__eq__" (defArgs sSEq) (defBody sSEq) (defScope sSEq) .none kV_seq dc_seq pm_seq an_seq cd_seq ct_seq), sl_seq⟩)
    (c_seq : PySem.W.codeIn K cd_seq "Script.__eq__" = true)
    (k_seq : PySem.W.keepIn K (.ref f_seq) = true)
    (a_slen : PySem.W.findIn K (.ref CS) "__len__" = some (some (.ref f_slen)))
    (i_slen : PySem.W.isFn K (.ref f_slen) = true)
    (l_slen : K.lookup f_slen = some ⟨oc_slen, od_slen, .func (PySem.W.fnOf "__len__" "Script.__len__" (defArgs sSLen) (defBody sSLen) (defScope sSLen) .none kV_slen dc_slen pm_slen an_slen cd_slen ct_slen), sl_slen⟩)
    (c_slen : PySem.W.codeIn K cd_slen "Script.__len__" = true)
    (k_slen : PySem.W.keepIn K (.ref f_slen) = true)
    (a_kinit : PySem.W.findIn K (.ref CK) "__init__" = some (some (.ref f_kinit)))
    (i_kinit : PySem.W.isFn K (.ref f_kinit) = true)
    (l_kinit : K.lookup f_kinit = some ⟨oc_kinit, od_kinit, .func (PySem.W.fnOf "__init__" "Check.__init__" (defArgs sKInit) (defBody sKInit) (defScope sKInit) .none kV_kinit dc_kinit pm_kinit an_kinit cd_kinit ct_kinit), sl_kinit⟩)
    (c_kinit : PySem.W.codeIn K cd_kinit "Check.__init__" = true)
    (k_kinit : PySem.W.keepIn K (.ref f_kinit) = true)
    (a_kbr : PySem.W.findIn K (.ref CK) "check_branch" = some (some (.ref f_kbr)))
    (i_kbr : PySem.W.isFn K (.ref f_kbr) = true)
    (l_kbr : K.lookup f_kbr = some ⟨oc_kbr, od_kbr, .func (PySem.W.fnOf "check_branch" "Check.check_branch" (defArgs sKBr) (defBody sKBr) (defScope sKBr) .none kV_kbr dc_kbr pm_kbr an_kbr cd_kbr ct_kbr), sl_kbr⟩)
    (c_kbr : PySem.W.codeIn K cd_kbr "Check.check_branch" = true)
    (k_kbr : PySem.W.keepIn K (.ref f_kbr) = true)
    (a_kst : PySem.W.findIn K (.ref CK) "check_statement" = some (some (.ref f_kst)))
    (i_kst : PySem.W.isFn K (.ref f_kst) = true)
    (l_kst : K.lookup f_kst = some ⟨oc_kst, od_kst, .func (PySem.W.fnOf "check_statement" "Check.check_statement" (defArgs sKSt) (defBody sKSt) (defScope sKSt) .none kV_kst dc_kst pm_kst an_kst cd_kst ct_kst), sl_kst⟩)
    (c_kst : PySem.W.codeIn K cd_kst "Check.check_statement" = true)
    (k_kst : PySem.W.keepIn K (.ref f_kst) = true)
    (a_deq : PySem.W.findIn K (.ref CD) "__eq__" = some (some (.ref f_deq)))
    (i_deq : PySem.W.isFn K (.ref f_deq) = true)
    (l_deq : K.lookup f_deq = some ⟨oc_deq, od_deq, .func (PySem.W.fnOf "__eq__" "Kind.__eq__" (defArgs sDEq) (defBody sDEq) (defScope sDEq) .none kV_deq dc_deq pm_deq an_deq cd_deq ct_deq), sl_deq⟩)
    (c_deq : PySem.W.codeIn K cd_deq "Kind.__eq__" = true)
    (k_deq : PySem.W.keepIn K (.ref f_deq) = true)
    (a_yeq : PySem.W.findIn K (.ref CY) "__eq__" = some (some (.ref f_yeq)))
    (i_yeq : PySem.W.isFn K (.ref f_yeq) = true)
    (l_yeq : K.lookup f_yeq = some ⟨oc_yeq, od_yeq, .func (PySem.W.fnOf "__eq__" "System.__eq__" (defArgs sYEq) (defBody sYEq) (defScope sYEq) .none kV_yeq dc_yeq pm_yeq an_yeq cd_yeq ct_yeq), sl_yeq⟩)
    (c_yeq : PySem.W.codeIn K cd_yeq "System.__eq__" = true)
    (k_yeq : PySem.W.keepIn K (.ref f_yeq) = true)
    (a_ywb : PySem.W.findIn K (.ref CY) "with_blocks" = some (some (.ref f_ywb)))
    (i_ywb : PySem.W.isFn K (.ref f_ywb) = true)
    (l_ywb : K.lookup f_ywb = some ⟨oc_ywb, od_ywb, .func (PySem.W.fnOf "with_blocks" "System.with_blocks" (defArgs sYWb) (defBody sYWb) (defScope sYWb) .none kV_ywb dc_ywb pm_ywb an_ywb cd_ywb ct_ywb), sl_ywb⟩)
    (c_ywb : PySem.W.codeIn K cd_ywb "System.with_blocks" = true)
    (k_ywb : PySem.W.keepIn K (.ref f_ywb) = true)
    (a_byi : PySem.W.findIn K (.ref CBY) "__init__" = some (some (.ref f_byi)))
    (i_byi : PySem.W.typeIn K (.ref f_byi) = some (.type "function"))
    (l_byi : K.lookup f_byi = some ⟨oc_byi, od_byi, .func (PySem.W.fnOf "__init__" "BadSystem.__init__" (defArgs sBYInit) (defBody sBYInit) (defScope sBYInit) .none kV_byi dc_byi pm_byi an_byi cd_byi ct_byi), sl_byi⟩)
    (c_byi : PySem.W.codeIn K cd_byi "BadSystem.__init__" = true)
    (k_byi : PySem.W.keepIn K (.ref f_byi) = true)
    (a_dinit : PySem.W.findIn K (.ref CD) "__init__" = some (some (.ref f_dinit)))
    (i_dinit : PySem.W.isFn K (.ref f_dinit) = true)
    (l_dinit : K.lookup f_dinit = some ⟨oc_dinit, od_dinit, .func (PySem.W.fnOf "__init__" "Kind.__init__" (defArgs sDInit) (defBody sDInit) (defScope sDInit) .none (.ref KD) dc_dinit pm_dinit an_dinit cd_dinit ct_dinit), sl_dinit⟩)
    (c_dinit : PySem.W.codeIn K cd_dinit "Kind.__init__" = true)
    (k_dinit : PySem.W.keepIn K (.ref f_dinit) = true)
    (a_yinit : PySem.W.findIn K (.ref CY) "__init__" = some (some (.ref f_yinit)))
    (i_yinit : PySem.W.isFn K (.ref f_yinit) = true)
    (l_yinit : K.lookup f_yinit = some ⟨oc_yinit, od_yinit, .func (PySem.W.fnOf "__init__" "System.__init__" (defArgs sYInit) (defBody sYInit) (defScope sYInit) .none (.ref KY) dc_yinit pm_yinit an_yinit cd_yinit ct_yinit), sl_yinit⟩)
    (c_yinit : PySem.W.codeIn K cd_yinit "System.__init__" = true)
    (k_yinit : PySem.W.keepIn K (.ref f_yinit) = true)
    (a_ywv : PySem.W.findIn K (.ref CY) "with_values" = some (some (.ref f_ywv)))
    (i_ywv : PySem.W.isFn K (.ref f_ywv) = true)
    (l_ywv : K.lookup f_ywv = some ⟨oc_ywv, od_ywv, .func (PySem.W.fnOf "with_values" "System.with_values" (defArgs sYWv) (defBody sYWv) (defScope sYWv) .none (.ref KV) dc_ywv pm_ywv an_ywv cd_ywv ct_ywv), sl_ywv⟩)
    (c_ywv : PySem.W.codeIn K cd_ywv "System.with_values" = true)
    (k_ywv : PySem.W.keepIn K (.ref f_ywv) = true)
    (kv1 : PySem.W.nsIn K KV "ahead" = some (some (.int (-1) tk5)))
    (kv2 : PySem.W.nsIn K KV "window" = some (some (.int (-1) tk6)))
    (kv3 : PySem.W.nsIn K KV "crashes" = some (some (.int (-1) tk7)))
    (kd1 : PySem.W.nsIn K KD "block" = some (some (.int 1 tk1)))
    (kd2 : PySem.W.nsIn K KD "many" = some (some (.int 1 tk2)))
    (ky1 : PySem.W.nsIn K KY "ahead" = some (some (.int 0 tk3)))
    (ky2 : PySem.W.nsIn K KY "window" = some (some .none))
    (ky3 : PySem.W.nsIn K KY "crashes" = some (some (.int 0 tk4)))
    (z_len : PySem.W.nsIn K mainGlobals "len" = some none)
    (z_int : PySem.W.nsIn K mainGlobals "int" = some none)
    (z_max : PySem.W.nsIn K mainGlobals "max" = some none)
    (z_range : PySem.W.nsIn K mainGlobals "range" = some none)
    (z_tuple : PySem.W.nsIn K mainGlobals "tuple" = some none)
    (z_isinstance : PySem.W.nsIn K mainGlobals "isinstance" = some none)
    (z_all : PySem.W.nsIn K mainGlobals "all" = some none)
    (z_list : PySem.W.nsIn K mainGlobals "list" = some none)
    (z_enumerate : PySem.W.nsIn K mainGlobals "enumerate" = some none)
    (z_str : PySem.W.nsIn K mainGlobals "str" = some none)
    (z_bool : PySem.W.nsIn K mainGlobals "bool" = some none)
    (z_sum : PySem.W.nsIn K mainGlobals "sum" = some none)
    (z_set : PySem.W.nsIn K mainGlobals "set" = some none)
    (z_zip : PySem.W.nsIn K mainGlobals "zip" = some none)
    (z_min : PySem.W.nsIn K mainGlobals "min" = some none)
    (v_LONGEST_NAME : PySem.W.nsIn K mainGlobals "LONGEST_NAME" = some (some (.int 8 t_LONGEST_NAME)))
    (v_MOST_STATEMENTS : PySem.W.nsIn K mainGlobals "MOST_STATEMENTS" = some (some (.int 8 t_MOST_STATEMENTS)))
    (v_MOST_HELD : PySem.W.nsIn K mainGlobals "MOST_HELD" = some (some (.int 3 t_MOST_HELD)))
    (v_MOST_NESTED : PySem.W.nsIn K mainGlobals "MOST_NESTED" = some (some (.int 2 t_MOST_NESTED)))
    (v_MOST_BLOCK : PySem.W.nsIn K mainGlobals "MOST_BLOCK" = some (some (.int 3 t_MOST_BLOCK)))
    (v_MOST_SESSIONS : PySem.W.nsIn K mainGlobals "MOST_SESSIONS" = some (some (.int 3 t_MOST_SESSIONS)))
    (v_LONGEST_OF_MANY : PySem.W.nsIn K mainGlobals "LONGEST_OF_MANY" = some (some (.int 4 t_LONGEST_OF_MANY)))
    (v_MOST_AHEAD : PySem.W.nsIn K mainGlobals "MOST_AHEAD" = some (some (.int 4 t_MOST_AHEAD)))
    (v_MOST_WINDOW : PySem.W.nsIn K mainGlobals "MOST_WINDOW" = some (some (.int 8 t_MOST_WINDOW)))
    (v_MOST_CRASHES : PySem.W.nsIn K mainGlobals "MOST_CRASHES" = some (some (.int 2 t_MOST_CRASHES)))
    (aI : PySem.W.nsIn K mainGlobals "ITEMS" = some (some (.ref it)))
    (lI : K.lookup it = some ⟨.type "dict", none, .dict esI nI, #[]⟩)
    (kI : PySem.W.KeysLit w.params esI.toList)
    (sI : (it == sysModules) = false)
    (e_take : PySem.W.nsIn K it "take" = some (some (.int 1 t_take)))
    (e_commit : PySem.W.nsIn K it "commit" = some (some (.int 1 t_commit)))
    (e_rollback : PySem.W.nsIn K it "rollback" = some (some (.int 1 t_rollback)))
    (e_drop : PySem.W.nsIn K it "drop" = some (some (.int 1 t_drop)))
    (e_leave : PySem.W.nsIn K it "leave" = some (some (.int 1 t_leave)))
    (e_lock : PySem.W.nsIn K it "lock" = some (some (.int 2 t_lock)))
    (e_unlock : PySem.W.nsIn K it "unlock" = some (some (.int 2 t_unlock)))
    (e_choose : PySem.W.nsIn K it "choose" = some (some (.int 3 t_choose)))
    : ∃ fd : FuncData, (∀ (s : Shared) (v : Value), BindsTo s fd ⟨[v], []⟩ [("_law_script", v)]) ∧ ∀ base : Heap, K.In base → base.Ns mainGlobals mg → FnOk l.prog w K mg base CX0 18 fa fd ["_law_script"] (spLaw K) := by
  have e := hfa.symm.trans (PySem.W.mg_of X G a_law)
  cases e
  have B : Bl mg := ⟨PySem.W.mg_none_of X G z_len, PySem.W.mg_none_of X G z_int, PySem.W.mg_none_of X G z_max, PySem.W.mg_none_of X G z_range, PySem.W.mg_none_of X G z_tuple⟩
  have kg : ∀ z n, (z, n) ∈ items8 → KG K w it z (.int n) := by
    intro z n hm
    simp only [items8, List.mem_cons, List.not_mem_nil, or_false, Prod.mk.injEq] at hm
    rcases hm with ⟨rfl, rfl⟩ | ⟨rfl, rfl⟩ | ⟨rfl, rfl⟩ | ⟨rfl, rfl⟩ | ⟨rfl, rfl⟩ | ⟨rfl, rfl⟩ | ⟨rfl, rfl⟩ | ⟨rfl, rfl⟩
    · exact ⟨⟨_, _, _, lI, kI, e_take, ⟨_, rfl⟩⟩, sI⟩
    · exact ⟨⟨_, _, _, lI, kI, e_commit, ⟨_, rfl⟩⟩, sI⟩
    · exact ⟨⟨_, _, _, lI, kI, e_rollback, ⟨_, rfl⟩⟩, sI⟩
    · exact ⟨⟨_, _, _, lI, kI, e_drop, ⟨_, rfl⟩⟩, sI⟩
    · exact ⟨⟨_, _, _, lI, kI, e_leave, ⟨_, rfl⟩⟩, sI⟩
    · exact ⟨⟨_, _, _, lI, kI, e_lock, ⟨_, rfl⟩⟩, sI⟩
    · exact ⟨⟨_, _, _, lI, kI, e_unlock, ⟨_, rfl⟩⟩, sI⟩
    · exact ⟨⟨_, _, _, lI, kI, e_choose, ⟨_, rfl⟩⟩, sI⟩
  have T : Txt K w mg CS CK it := ⟨PySem.W.mg_none_of X G z_isinstance, PySem.W.mg_none_of X G z_all, PySem.W.mg_none_of X G z_list, PySem.W.mg_none_of X G z_enumerate, PySem.W.mg_none_of X G z_str, PySem.W.mg_none_of X G z_bool,
    ⟨_, PySem.W.mg_of X G v_LONGEST_NAME⟩, ⟨_, PySem.W.mg_of X G v_MOST_STATEMENTS⟩, ⟨_, PySem.W.mg_of X G v_MOST_HELD⟩, ⟨_, PySem.W.mg_of X G v_MOST_NESTED⟩, PySem.W.mg_of X G aI, ⟨_, _, lI⟩, kg,
    ⟨pgCS, hdCS, poCS, saCS⟩, ⟨pgCK, hdCK, poCK, saCK⟩, PySem.W.mg_of X G aCS, PySem.W.mg_of X G aCK, nCSstatements, nCSfound, nCSplaces, nCKfound⟩
  have noT : PySem.W.kitOne K (.type "tuple") (.ref CS) = some false := kit_no iCS tCS uCS
  have noD : ∀ t ∈ tys7, PySem.W.kitOne K (.type t) (.ref CD) = some false := fun t ht => by
    simp only [List.mem_cons, List.not_mem_nil, or_false] at ht
    rcases ht with rfl | rfl | rfl | rfl | rfl | rfl | rfl
    · exact kit_no iCD tCD u_NoneType
    · exact kit_no iCD tCD u_bool
    · exact kit_no iCD tCD u_int
    · exact kit_no iCD tCD u_str
    · exact kit_no iCD tCD u_list
    · exact kit_no iCD tCD u_tuple
    · exact kit_no iCD tCD u_dict
  have me : ∀ C : Addr, PySem.W.kitOne K (.ref C) (.ref C) = some true := fun C => by
    unfold PySem.W.kitOne
    rw [if_pos (beq_self_eq_true _)]
  have U : TxK K mg CS CD := ⟨⟨⟨pgCS, hdCS, poCS, saCS⟩, caCS, cn, ct, obCS, me CS⟩, ⟨⟨pgCD, hdCD, poCD, saCD⟩, caCD, cn, ct, obCD, me CD⟩, PySem.W.mg_of X G aCD, ⟨_, PySem.W.mg_of X G v_MOST_BLOCK⟩, ⟨_, PySem.W.mg_of X G v_MOST_SESSIONS⟩, noT, nCDname, nCDscript, nCDblock, nCDmany⟩
  have Y : TxY K mg CD := ⟨PySem.W.mg_none_of X G z_sum, PySem.W.mg_none_of X G z_set, ⟨_, PySem.W.mg_of X G v_LONGEST_OF_MANY⟩, ⟨_, PySem.W.mg_of X G v_MOST_AHEAD⟩, ⟨_, PySem.W.mg_of X G v_MOST_WINDOW⟩, ⟨_, PySem.W.mg_of X G v_MOST_CRASHES⟩, noD⟩
  have Z : FY K CY := ⟨⟨⟨pgCY, hdCY, poCY, saCY⟩, caCY, cn, ct, obCY, me CY⟩, nCYkinds, nCYahead, nCYwindow, nCYcrashes, nCYsessions⟩
  have ZF : FnY K KY f_yinit := ⟨⟨_, _, _, _, _, _, _, _, l_yinit, c_yinit⟩, ⟨_, ky1⟩, ky2, ⟨_, ky3⟩⟩
  have R1 : PySem.W.kitOne K (.ref CBY) (.ref CBK) = some false := kit_ref dCBYCBK iCBK tCBK sCBYCBK
  have R2 : PySem.W.kitOne K (.ref CBY) (.ref CT) = some true := kit_ref dCBYCT iCT tCT sCBYCT
  have E_CBY : Ecl K mg "BadSystem" "why" CBY f_byi := ⟨PySem.W.mg_of X G aCBY, ⟨⟨_, _, _, _, _, _, _, _, _, _, _, _, _, _, _, xCBY, ve_ok⟩, saCBY, eCBY, tCBY, kcCBY⟩, a_byi, i_byi, nfCBY, ⟨gaCBY, ggCBY, eCBY, hCBY⟩, iCBY, caCBY, cn, ct, obCBY, PySem.W.exm_ref eCBY hCBY tCBY sCBYCBY⟩
  have F_isInt := fun_mk (st := sIsInt) l_isInt c_isInt k_isInt
  have b_isInt := F_isInt.binds (ps := ["value"]) fun _ _ _ _ _ _ us hl => match us, hl with | [_], _ => rfl
  have m_isInt := PySem.W.mg_of X G a_isInt
  have F_within := fun_mk (st := sWithin) l_within c_within k_within
  have b_within := F_within.binds (ps := ["value", "low", "high"]) fun _ _ _ _ _ _ us hl => match us, hl with | [_, _, _], _ => rfl
  have m_within := PySem.W.mg_of X G a_within
  have F_isName := fun_mk (st := sIsName) l_isName c_isName k_isName
  have b_isName := F_isName.binds (ps := ["value"]) fun _ _ _ _ _ _ us hl => match us, hl with | [_], _ => rfl
  have m_isName := PySem.W.mg_of X G a_isName
  have F_fault := fun_mk (st := sFault) l_fault c_fault k_fault
  have b_fault := F_fault.binds (ps := ["statement", "place", "earlier", "held"]) fun _ _ _ _ _ _ us hl => match us, hl with | [_, _, _, _], _ => rfl
  have m_fault := PySem.W.mg_of X G a_fault
  have F_form := fun_mk (st := sForm) l_form c_form k_form
  have b_form := F_form.binds (ps := ["statement"]) fun _ _ _ _ _ _ us hl => match us, hl with | [_], _ => rfl
  have m_form := PySem.W.mg_of X G a_form
  have F_held := fun_mk (st := sHeld) l_held c_held k_held
  have b_held := F_held.binds (ps := ["word", "held"]) fun _ _ _ _ _ _ us hl => match us, hl with | [_, _], _ => rfl
  have m_held := PySem.W.mg_of X G a_held
  have F_scriptOf := fun_mk (st := sScriptOf) l_scriptOf c_scriptOf k_scriptOf
  have b_scriptOf := F_scriptOf.binds (ps := ["script"]) fun _ _ _ _ _ _ us hl => match us, hl with | [_], _ => rfl
  have m_scriptOf := PySem.W.mg_of X G a_scriptOf
  have F_count := fun_mk (st := sCount) l_count c_count k_count
  have b_count := F_count.binds (ps := ["kinds"]) fun _ _ _ _ _ _ us hl => match us, hl with | [_], _ => rfl
  have m_count := PySem.W.mg_of X G a_count
  have F_are := fun_mk (st := sAre) l_are c_are k_are
  have b_are := F_are.binds (ps := ["kinds"]) fun _ _ _ _ _ _ us hl => match us, hl with | [_], _ => rfl
  have m_are := PySem.W.mg_of X G a_are
  have F_faultY := fun_mk (st := sFaultY) l_faultY c_faultY k_faultY
  have b_faultY := F_faultY.binds (ps := ["kinds", "ahead", "window", "crashes"]) fun _ _ _ _ _ _ us hl => match us, hl with | [_, _, _, _], _ => rfl
  have m_faultY := PySem.W.mg_of X G a_faultY
  have F_kept := fun_mk (st := sKept) l_kept c_kept k_kept
  have b_kept := F_kept.binds (ps := ["value", "kept"]) fun _ _ _ _ _ _ us hl => match us, hl with | [_, _], _ => rfl
  have m_kept := PySem.W.mg_of X G a_kept
  have F_ab := fun_mk (st := sAB) l_ab c_ab k_ab
  have b_ab := F_ab.binds (ps := ["blocks", "count"]) fun _ _ _ _ _ _ us hl => match us, hl with | [_, _], _ => rfl
  have m_ab := PySem.W.mg_of X G a_ab
  have F_pool := fun_mk (st := sPool) l_pool c_pool k_pool
  have b_pool := F_pool.binds (ps := ["_law_script", "_law_k"]) fun _ _ _ _ _ _ us hl => match us, hl with | [_, _], _ => rfl
  have m_pool := PySem.W.mg_of X G a_pool
  have F_draw := fun_mk (st := sDraw) l_draw c_draw k_draw
  have b_draw := F_draw.binds (ps := ["_law_pool_here", "_law_amount"]) fun _ _ _ _ _ _ us hl => match us, hl with | [_, _], _ => rfl
  have m_draw := PySem.W.mg_of X G a_draw
  have F_names := fun_mk (st := sNames) l_names c_names k_names
  have b_names := F_names.binds (ps := ["_law_pool_here"]) fun _ _ _ _ _ _ us hl => match us, hl with | [_], _ => rfl
  have m_names := PySem.W.mg_of X G a_names
  have F_sys := fun_mk (st := sSys) l_sys c_sys k_sys
  have b_sys := F_sys.binds (ps := ["_law_rows", "_law_values"]) fun _ _ _ _ _ _ us hl => match us, hl with | [_, _], _ => rfl
  have m_sys := PySem.W.mg_of X G a_sys
  have F_chd := fun_mk (st := sChd) l_chd c_chd k_chd
  have b_chd := F_chd.binds (ps := ["_law_system_here", "_law_given", "_law_left"]) fun _ _ _ _ _ _ us hl => match us, hl with | [_, _, _], _ => rfl
  have m_chd := PySem.W.mg_of X G a_chd
  have F_told := fun_mk (st := sTold9) l_told c_told k_told
  have b_told := F_told.binds (ps := ["_law_system_here", "_law_given", "_law_left", "_law_blocks"]) fun _ _ _ _ _ _ us hl => match us, hl with | [_, _, _, _], _ => rfl
  have m_told := PySem.W.mg_of X G a_told
  have F_lint := fun_mk (st := sInteger) l_lint c_lint k_lint
  have b_lint := F_lint.binds (ps := ["_law_value_here", "_law_least", "_law_most"]) fun _ _ _ _ _ _ us hl => match us, hl with | [_, _, _], _ => rfl
  have m_lint := PySem.W.mg_of X G a_lint
  have F_val := fun_mk (st := sVal9) l_val c_val k_val
  have b_val := F_val.binds (ps := ["_law_pool_here", "_law_most"]) fun _ _ _ _ _ _ us hl => match us, hl with | [_, _], _ => rfl
  have m_val := PySem.W.mg_of X G a_val
  have F_same := fun_mk (st := sSame) l_same c_same k_same
  have b_same := F_same.binds (ps := ["_law_told_here", "_law_due", "_law_rows", "_law_values"]) fun _ _ _ _ _ _ us hl => match us, hl with | [_, _, _, _], _ => rfl
  have m_same := PySem.W.mg_of X G a_same
  have F_vf := fun_mk (st := sVF) l_vf c_vf k_vf
  have b_vf := F_vf.binds (ps := ["_law_system_here", "_law_rows", "_law_values", "_law_given", "_law_left"]) fun _ _ _ _ _ _ us hl => match us, hl with | [_, _, _, _, _], _ => rfl
  have m_vf := PySem.W.mg_of X G a_vf
  have F_bf := fun_mk (st := sBF) l_bf c_bf k_bf
  have b_bf := F_bf.binds (ps := ["_law_system_here", "_law_rows", "_law_values", "_law_blocks", "_law_shape"]) fun _ _ _ _ _ _ us hl => match us, hl with | [_, _, _, _, _], _ => rfl
  have m_bf := PySem.W.mg_of X G a_bf
  have F_law := fun_mk (st := sLaw) l_law c_law k_law
  have m_law := PySem.W.mg_of X G a_law
  have F_sinit := fun_mk (st := sSInit) l_sinit c_sinit k_sinit
  have b_sinit := F_sinit.binds (ps := ["self", "statements"]) fun _ _ _ _ _ _ us hl => match us, hl with | [_, _], _ => rfl
  have F_seq := fun_mk (st := sSEq) l_seq c_seq k_seq
  have b_seq := F_seq.binds (ps := ["self", "other"]) fun _ _ _ _ _ _ us hl => match us, hl with | [_, _], _ => rfl
  have F_slen := fun_mk (st := sSLen) l_slen c_slen k_slen
  have b_slen := F_slen.binds (ps := ["self"]) fun _ _ _ _ _ _ us hl => match us, hl with | [_], _ => rfl
  have F_kinit := fun_mk (st := sKInit) l_kinit c_kinit k_kinit
  have b_kinit := F_kinit.binds (ps := ["self"]) fun _ _ _ _ _ _ us hl => match us, hl with | [_], _ => rfl
  have F_kbr := fun_mk (st := sKBr) l_kbr c_kbr k_kbr
  have b_kbr := F_kbr.binds (ps := ["self", "branch", "above", "held"]) fun _ _ _ _ _ _ us hl => match us, hl with | [_, _, _, _], _ => rfl
  have F_kst := fun_mk (st := sKSt) l_kst c_kst k_kst
  have b_kst := F_kst.binds (ps := ["self", "statement", "place", "held"]) fun _ _ _ _ _ _ us hl => match us, hl with | [_, _, _, _], _ => rfl
  have F_deq := fun_mk (st := sDEq) l_deq c_deq k_deq
  have b_deq := F_deq.binds (ps := ["self", "other"]) fun _ _ _ _ _ _ us hl => match us, hl with | [_, _], _ => rfl
  have F_yeq := fun_mk (st := sYEq) l_yeq c_yeq k_yeq
  have b_yeq := F_yeq.binds (ps := ["self", "other"]) fun _ _ _ _ _ _ us hl => match us, hl with | [_, _], _ => rfl
  have F_ywb := fun_mk (st := sYWb) l_ywb c_ywb k_ywb
  have b_ywb := F_ywb.binds (ps := ["self", "blocks"]) fun _ _ _ _ _ _ us hl => match us, hl with | [_, _], _ => rfl
  have F_byi := fun_mk (st := sBYInit) l_byi c_byi k_byi
  have b_byi := F_byi.binds (ps := ["self", "why"]) fun _ _ _ _ _ _ us hl => match us, hl with | [_, _], _ => rfl
  have F_dinit : FunD K "__init__" "Kind.__init__" (defArgs sDInit) (defBody sDInit) (defScope sDInit) [] [("block", .int 1), ("many", .int 1)] f_dinit _ := ⟨⟨_, _, _, _, _, _, _, _, _, _, rfl, l_dinit, c_dinit, .inl ⟨rfl, rfl⟩, .inr ⟨KD, rfl, fun q hq => by
    simp only [List.mem_cons, List.not_mem_nil, or_false] at hq
    rcases hq with rfl | rfl
    · exact ⟨_, kd1, ⟨_, rfl⟩⟩
    · exact ⟨_, kd2, ⟨_, rfl⟩⟩⟩⟩, k_dinit⟩
  obtain ⟨mv, b_dinit⟩ := F_dinit.kbinds0 (ps := ["self", "name", "script", "block", "many"]) 3 ["block", "many"] [] (fun us mv ws => us ++ ws) (by simp) (fun q hq => by cases hq) (fun r1 _ r3 => r1.append r3)
    (fun _ _ _ _ _ _ us mv ws h1 h2 h3 => match us, mv, ws, h1, h2, h3 with | [_, _, _], [], [_, _], _, _, _ => rfl)
  have F_ywv : FunD K "with_values" "System.with_values" (defArgs sYWv) (defBody sYWv) (defScope sYWv) [] [("ahead", .int (-1)), ("window", .int (-1)), ("crashes", .int (-1))] f_ywv _ := ⟨⟨_, _, _, _, _, _, _, _, _, _, rfl, l_ywv, c_ywv, .inl ⟨rfl, rfl⟩, .inr ⟨KV, rfl, fun q hq => by
    simp only [List.mem_cons, List.not_mem_nil, or_false] at hq
    rcases hq with rfl | rfl | rfl
    · exact ⟨_, kv1, ⟨_, rfl⟩⟩
    · exact ⟨_, kv2, ⟨_, rfl⟩⟩
    · exact ⟨_, kv3, ⟨_, rfl⟩⟩⟩⟩, k_ywv⟩
  obtain ⟨_, b0⟩ := F_ywv.kbinds0 (ps := psWV) 1 ["ahead", "window", "crashes"] [] (fun us mv ws => us ++ ws) (by simp) (fun q hq => by cases hq) (fun r1 _ r3 => r1.append r3)
    (fun _ _ _ _ _ _ us mv ws h1 h2 h3 => match us, mv, ws, h1, h2, h3 with | [_], [], [_, _, _], _, _, _ => rfl)
  obtain ⟨_, b1⟩ := F_ywv.kbinds0 (ps := psWV) 1 ["window"] [("ahead", .int (-1)), ("crashes", .int (-1))] (fun us mv ws => us ++ (mv.take 1 ++ ws ++ mv.drop 1)) (by simp) (fun q hq => by
    simp only [List.mem_cons, List.not_mem_nil, or_false] at hq
    rcases hq with rfl | rfl <;> simp) (fun r1 r2 r3 => r1.append (((r2.take 1).append r3).append (r2.drop 1)))
    (fun _ _ _ _ _ _ us mv ws h1 h2 h3 => match us, mv, ws, h1, h2, h3 with | [_], [_, _], [_], _, _, _ => ⟨_, _, _, _, _, _, rfl, rfl, _, _, _, _, _, _, rfl, rfl, rfl⟩)
  obtain ⟨_, b2⟩ := F_ywv.kbinds0 (ps := psWV) 1 ["crashes", "ahead"] [("window", .int (-1))] (fun us mv ws => us ++ (ws.drop 1 ++ mv ++ ws.take 1)) (by simp) (fun q hq => by
    rw [List.mem_singleton] at hq; rw [hq]; simp) (fun r1 r2 r3 => r1.append (((r3.drop 1).append r2).append (r3.take 1)))
    (fun _ _ _ _ _ _ us mv ws h1 h2 h3 => match us, mv, ws, h1, h2, h3 with | [_], [_], [_, _], _, _, _ => ⟨_, _, _, _, _, _, rfl, rfl, rfl⟩)
  obtain ⟨_, b3⟩ := F_ywv.kbinds0 (ps := psWV) 1 [] [("ahead", .int (-1)), ("window", .int (-1)), ("crashes", .int (-1))] (fun us mv ws => us ++ mv) (by simp) (fun q hq => hq) (fun r1 r2 _ => r1.append r2)
    (fun _ _ _ _ _ _ us mv ws h1 h2 h3 => match us, mv, ws, h1, h2, h3 with | [_], [_, _, _], [], _, _, _ => ⟨_, _, _, _, _, _, rfl, rfl, _, _, _, _, _, _, rfl, rfl, _, _, _, _, _, _, rfl, rfl, rfl⟩)
  refine ⟨PySem.W.fnOf "law" "law" (defArgs sLaw) (defBody sLaw) (defScope sLaw) .none kV_law dc_law pm_law an_law cd_law ct_law, fun s v => .of_eq rfl, fun base _ _ => ?_⟩
  have Gii := ok_isint (P := l.prog) (w := w) (base := base) F_isInt B T
  have Gwi := ok_within F_within Gii b_isInt k_isInt m_isInt
  have Gnm := ok_isname (P := l.prog) (w := w) (base := base) F_isName B T
  have Gfo := ok_form (P := l.prog) (w := w) (base := base) F_form B T
  have Gfa := ok_fault F_fault B T Gfo b_form k_form m_form Gnm b_isName k_isName m_isName
  have Gpo := ok_pool (P := l.prog) (w := w) (base := base) F_pool B
  have Gdr := ok_draw (P := l.prog) (w := w) (base := base) F_draw B
  have Gna := ok_names F_names B Gdr b_draw k_draw m_draw
  have Gki := ok_kinit (P := l.prog) (w := w) (base := base) F_kinit T
  have Ghd := ok_held (P := l.prog) (w := w) (mg := mg) (base := base) F_held
  have Gkb := checks F_kbr F_kst B T b_kbr ⟨a_kbr, i_kbr, k_kbr⟩ b_kst ⟨a_kst, i_kst, k_kst⟩ Gfa b_fault k_fault m_fault Ghd b_held k_held m_held 3
  have Gin := ok_sinit F_sinit B T ⟨mkCK, a_kinit, i_kinit, kcCK⟩ Gki b_kinit Gkb b_kbr ⟨a_kbr, i_kbr, k_kbr⟩
  have Gse := ok_seq (P := l.prog) (w := w) (base := base) F_seq T U
  have Gsl := ok_slen (P := l.prog) (w := w) (base := base) F_slen B T
  have MS : Mk K CS f_sinit := ⟨mkCS, a_sinit, i_sinit, kcCS⟩
  have Gso := ok_scriptof F_scriptOf T U MS Gin b_sinit
  have Gdi := ok_dinit F_dinit U Gnm b_isName k_isName m_isName Gso b_scriptOf k_scriptOf m_scriptOf Gwi b_within k_within m_within
  have OS : OwnEq K CS f_seq := ⟨a_seq, i_seq, neCS, obCS⟩
  have Gde := ok_deq F_deq T U OS Gse b_seq
  have Gcn := ok_count (P := l.prog) (w := w) (base := base) F_count U Y
  have Gar := ok_are F_are B T U Y Gcn b_count k_count m_count
  have Gfy := ok_faultY F_faultY B T U Y Gcn b_count k_count m_count Gar b_are k_are m_are Gwi b_within k_within m_within ⟨a_slen, i_slen⟩ Gsl b_slen
  have Gby := ok_byi (P := l.prog) (w := w) (mg := mg) (base := base) F_byi E_CBY
  have bod := fun (A : Around) (outer : List Env) (s : Shared) (H : Hp) (vs : List V) (Q : VK) (E : XK) (cdv : Value) (hr : Room 3 (A.deeper (PyProof.Rows.envOfC "System.__init__" (defScope sYInit) s.heap.objs.size f_yinit cdv))) (h : spYInit CS CD CY CBY vs H Q E) => body_yinit U Y Z B E_CBY Gby b_byi Gfy b_faultY k_faultY m_faultY A outer s H vs Q E cdv hr h
  have G3 := fny3 ZF bod
  have Gkp := ok_kept F_kept Gwi b_within k_within m_within
  have Gab := ok_ab F_ab B T U Gwi b_within k_within m_within
  have MD : Mk K CD f_dinit := ⟨mkCD, a_dinit, i_dinit, kcCD⟩
  have MY : Mk K CY f_yinit := ⟨mkCY, a_yinit, i_yinit, kcCY⟩
  have Gye := ok_yeq F_yeq T U Z (PySem.W.mg_of X G aCY) a_deq i_deq Gde b_deq
  have Gwv := ok_wv F_ywv B Z Gkp b_kept k_kept m_kept MY (PySem.W.mg_of X G aCY) G3
  have Gwb := ok_wb F_ywb B U Z (PySem.W.mg_none_of X G z_zip) Gab b_ab k_ab m_ab E_CBY Gby b_byi MY (PySem.W.mg_of X G aCY) G3 MD Gdi b_dinit
  have MV : Meth K CY "with_values" f_ywv := ⟨a_ywv, i_ywv, k_ywv⟩
  have MB : Meth K CY "with_blocks" f_ywb := ⟨a_ywb, i_ywb, k_ywb⟩
  have Gsy := ok_sys F_sys B U MY (PySem.W.mg_of X G aCY) G3 MD Gdi b_dinit
  have Gch := ok_chd F_chd Z MV Gwv b0 b1 b2 b3
  have Gto := ok_told9 F_told T Z E_CBY (PySem.W.mg_of X G aCBK) (PySem.W.mg_of X G aCT) R1 R2 Gch b_chd k_chd m_chd MB Gwb b_ywb
  have Git := ok_integer (P := l.prog) (w := w) (base := base) F_lint B T
  have Gva := ok_val9 F_val B Gdr b_draw k_draw m_draw
  have OY : OwnEq K CY f_yeq := ⟨a_yeq, i_yeq, neCY, obCY⟩
  have Gsm := ok_same F_same Gsy b_sys k_sys m_sys OY Gye b_yeq
  have Gvf := ok_vf F_vf B T Git b_lint k_lint m_lint Gto b_told k_told m_told Gsm b_same k_same m_same
  have Gbf := ok_bf F_bf B (PySem.W.mg_none_of X G z_min) T Git b_lint k_lint m_lint Gto b_told k_told m_told Gsm b_same k_same m_same
  exact ok_law F_law B T U Gpo b_pool k_pool m_pool Gdr b_draw k_draw m_draw Gna b_names k_names m_names Gva b_val k_val m_val Gsy b_sys k_sys m_sys Gvf b_vf k_vf m_vf Gbf b_bf k_bf m_bf OY Gye b_yeq
theorem walk {l : PySem.W.OpenLaw} {q : Program} {loose : List Str} {XP : (Str → Option Value) → Heap → Prop} {YP : World → Heap → Prop} {d : DefRec} {K : Params → PySem.W.Frag} (hn : l.most = some 63) (hdf : d.params.defaults = [])
    (hY : ∀ (w : World) (h : Heap), YP w h → (K w.params).In h)
    (F : ∀ (w : World) (mg : Str → Option Value) (fa : Addr) (h : Heap), (K w.params).In h → h.Ns mainGlobals mg → mg d.name = some (.ref fa) →
      ∃ fd : FuncData, (∀ (s : Shared) (u : Value), BindsTo s fd ⟨[u], []⟩ [("_law_script", u)]) ∧ ∀ base : Heap, (K w.params).In base → base.Ns mainGlobals mg → FnOk l.prog w (K w.params) mg base CX0 18 fa fd ["_law_script"] (spLaw (K w.params))) :
    PySem.W.WalkO q loose XP YP l.row.toRowW d [] (fun f vs => PySem.call f vs) :=
  L2.walk_of (n := 63) (k := 18) (x := "_law_script") (CX := fun _ => CX0) (sp := fun w => spLaw (K w.params)) hn (by decide) hdf ⟨rfl, by decide, by decide⟩ hY F (fun _ _ a ns hl _ hS => ⟨a, ns, rfl, hS, hl, fun _ => rfl⟩) fun _ _ _ _ _ z => z
end Tk
open PySem PySem.W PyProof.Rows
set_option maxRecDepth 100000 in
set_option maxHeartbeats 0 in
theorem PySem.Challenge.cw_takenahead_k09_system_values_holds : PySem.Challenge.rw_takenahead_k09_system_values.Holds := by
  w_on; o_law; k_head; (case hw => w_witness2)
  k_fill
  refine Tk.walk (l := PySem.Challenge.rw_takenahead_k09_system_values) rfl rfl (fun w h Y => PySem.W.kIn_of Y) ?F
  case F =>
    intro w mg fa h KX G hmg
    refine' Tk.all_mk KX G hmg ?aCS ?aCK ?aCD ?aCY ?aCBY ?aCBK ?aCT ?pgCS ?hdCS ?poCS ?saCS ?mkCS ?kcCS ?pgCK ?hdCK ?poCK ?saCK ?mkCK ?kcCK ?pgCD ?hdCD ?poCD ?saCD ?mkCD ?kcCD ?pgCY ?hdCY ?poCY ?saCY ?mkCY ?kcCY ?caCS ?obCS ?caCD ?obCD ?caCY ?obCY ?neCS ?neCD ?neCY ?cn ?ct ?iCS ?tCS ?uCS ?iCD ?tCD ?u_NoneType ?u_bool ?u_int ?u_str ?u_list ?u_tuple ?u_dict ?nCSstatements ?nCSfound ?nCSplaces ?nCKfound ?nCDname ?nCDscript ?nCDblock ?nCDmany ?nCYkinds ?nCYahead ?nCYwindow ?nCYcrashes ?nCYsessions ?xCBY ?saCBY ?gaCBY ?ggCBY ?nfCBY ?eCBY ?tCBY ?hCBY ?kcCBY ?caCBY ?obCBY ?iCBY ?iCT ?tCT ?iCBK ?tCBK ?sCBYCBY ?sCBYCT ?sCBYCBK ?dCBYCT ?dCBYCBK ?a_isInt ?l_isInt ?c_isInt ?k_isInt ?a_within ?l_within ?c_within ?k_within ?a_isName ?l_isName ?c_isName ?k_isName ?a_fault ?l_fault ?c_fault ?k_fault ?a_form ?l_form ?c_form ?k_form ?a_held ?l_held ?c_held ?k_held ?a_scriptOf ?l_scriptOf ?c_scriptOf ?k_scriptOf ?a_count ?l_count ?c_count ?k_count ?a_are ?l_are ?c_are ?k_are ?a_faultY ?l_faultY ?c_faultY ?k_faultY ?a_kept ?l_kept ?c_kept ?k_kept ?a_ab ?l_ab ?c_ab ?k_ab ?a_pool ?l_pool ?c_pool ?k_pool ?a_draw ?l_draw ?c_draw ?k_draw ?a_names ?l_names ?c_names ?k_names ?a_sys ?l_sys ?c_sys ?k_sys ?a_chd ?l_chd ?c_chd ?k_chd ?a_told ?l_told ?c_told ?k_told ?a_lint ?l_lint ?c_lint ?k_lint ?a_val ?l_val ?c_val ?k_val ?a_same ?l_same ?c_same ?k_same ?a_vf ?l_vf ?c_vf ?k_vf ?a_bf ?l_bf ?c_bf ?k_bf ?a_law ?l_law ?c_law ?k_law ?a_sinit ?i_sinit ?l_sinit ?c_sinit ?k_sinit ?a_seq ?i_seq ?l_seq ?c_seq ?k_seq ?a_slen ?i_slen ?l_slen ?c_slen ?k_slen ?a_kinit ?i_kinit ?l_kinit ?c_kinit ?k_kinit ?a_kbr ?i_kbr ?l_kbr ?c_kbr ?k_kbr ?a_kst ?i_kst ?l_kst ?c_kst ?k_kst ?a_deq ?i_deq ?l_deq ?c_deq ?k_deq ?a_yeq ?i_yeq ?l_yeq ?c_yeq ?k_yeq ?a_ywb ?i_ywb ?l_ywb ?c_ywb ?k_ywb ?a_byi ?i_byi ?l_byi ?c_byi ?k_byi ?a_dinit ?i_dinit ?l_dinit ?c_dinit ?k_dinit ?a_yinit ?i_yinit ?l_yinit ?c_yinit ?k_yinit ?a_ywv ?i_ywv ?l_ywv ?c_ywv ?k_ywv ?kv1 ?kv2 ?kv3 ?kd1 ?kd2 ?ky1 ?ky2 ?ky3 ?z_len ?z_int ?z_max ?z_range ?z_tuple ?z_isinstance ?z_all ?z_list ?z_enumerate ?z_str ?z_bool ?z_sum ?z_set ?z_zip ?z_min ?v_LONGEST_NAME ?v_MOST_STATEMENTS ?v_MOST_HELD ?v_MOST_NESTED ?v_MOST_BLOCK ?v_MOST_SESSIONS ?v_LONGEST_OF_MANY ?v_MOST_AHEAD ?v_MOST_WINDOW ?v_MOST_CRASHES ?aI ?lI ?kI ?sI ?e_take ?e_commit ?e_rollback ?e_drop ?e_leave ?e_lock ?e_unlock ?e_choose
    (case aCS => k_is)
    (case aCK => k_is)
    (case aCD => k_is)
    (case aCY => k_is)
    (case aCBY => k_is)
    (case aCBK => k_is)
    (case aCT => k_is)
    (case pgCS => k_is)
    (case hdCS => k_is)
    (case poCS => k_is)
    (case saCS => k_is)
    (case mkCS => k_is)
    (case kcCS => k_is)
    (case pgCK => k_is)
    (case hdCK => k_is)
    (case poCK => k_is)
    (case saCK => k_is)
    (case mkCK => k_is)
    (case kcCK => k_is)
    (case pgCD => k_is)
    (case hdCD => k_is)
    (case poCD => k_is)
    (case saCD => k_is)
    (case mkCD => k_is)
    (case kcCD => k_is)
    (case pgCY => k_is)
    (case hdCY => k_is)
    (case poCY => k_is)
    (case saCY => k_is)
    (case mkCY => k_is)
    (case kcCY => k_is)
    (case caCS => k_is)
    (case obCS => k_is)
    (case caCD => k_is)
    (case obCD => k_is)
    (case caCY => k_is)
    (case obCY => k_is)
    (case neCS => k_is)
    (case neCD => k_is)
    (case neCY => k_is)
    (case cn => k_is)
    (case ct => k_is)
    (case iCS => k_is)
    (case tCS => k_is)
    (case uCS => k_is)
    (case iCD => k_is)
    (case tCD => k_is)
    (case u_NoneType => k_is)
    (case u_bool => k_is)
    (case u_int => k_is)
    (case u_str => k_is)
    (case u_list => k_is)
    (case u_tuple => k_is)
    (case u_dict => k_is)
    (case nCSstatements => k_is)
    (case nCSfound => k_is)
    (case nCSplaces => k_is)
    (case nCKfound => k_is)
    (case nCDname => k_is)
    (case nCDscript => k_is)
    (case nCDblock => k_is)
    (case nCDmany => k_is)
    (case nCYkinds => k_is)
    (case nCYahead => k_is)
    (case nCYwindow => k_is)
    (case nCYcrashes => k_is)
    (case nCYsessions => k_is)
    (case xCBY => k_is)
    (case saCBY => k_is)
    (case gaCBY => k_is)
    (case ggCBY => k_is)
    (case nfCBY => k_is)
    (case eCBY => k_is)
    (case tCBY => k_is)
    (case hCBY => k_is)
    (case kcCBY => k_is)
    (case caCBY => k_is)
    (case obCBY => k_is)
    (case iCBY => k_is)
    (case iCT => k_is)
    (case tCT => k_is)
    (case iCBK => k_is)
    (case tCBK => k_is)
    (case sCBYCBY => k_is)
    (case sCBYCT => k_is)
    (case sCBYCBK => k_is)
    (case dCBYCT => first | rfl | decide)
    (case dCBYCBK => first | rfl | decide)
    (case a_isInt => k_is)
    (case l_isInt => k_is)
    (case c_isInt => k_is)
    (case k_isInt => k_is)
    (case a_within => k_is)
    (case l_within => k_is)
    (case c_within => k_is)
    (case k_within => k_is)
    (case a_isName => k_is)
    (case l_isName => k_is)
    (case c_isName => k_is)
    (case k_isName => k_is)
    (case a_fault => k_is)
    (case l_fault => k_is)
    (case c_fault => k_is)
    (case k_fault => k_is)
    (case a_form => k_is)
    (case l_form => k_is)
    (case c_form => k_is)
    (case k_form => k_is)
    (case a_held => k_is)
    (case l_held => k_is)
    (case c_held => k_is)
    (case k_held => k_is)
    (case a_scriptOf => k_is)
    (case l_scriptOf => k_is)
    (case c_scriptOf => k_is)
    (case k_scriptOf => k_is)
    (case a_count => k_is)
    (case l_count => k_is)
    (case c_count => k_is)
    (case k_count => k_is)
    (case a_are => k_is)
    (case l_are => k_is)
    (case c_are => k_is)
    (case k_are => k_is)
    (case a_faultY => k_is)
    (case l_faultY => k_is)
    (case c_faultY => k_is)
    (case k_faultY => k_is)
    (case a_kept => k_is)
    (case l_kept => k_is)
    (case c_kept => k_is)
    (case k_kept => k_is)
    (case a_ab => k_is)
    (case l_ab => k_is)
    (case c_ab => k_is)
    (case k_ab => k_is)
    (case a_pool => k_is)
    (case l_pool => k_is)
    (case c_pool => k_is)
    (case k_pool => k_is)
    (case a_draw => k_is)
    (case l_draw => k_is)
    (case c_draw => k_is)
    (case k_draw => k_is)
    (case a_names => k_is)
    (case l_names => k_is)
    (case c_names => k_is)
    (case k_names => k_is)
    (case a_sys => k_is)
    (case l_sys => k_is)
    (case c_sys => k_is)
    (case k_sys => k_is)
    (case a_chd => k_is)
    (case l_chd => k_is)
    (case c_chd => k_is)
    (case k_chd => k_is)
    (case a_told => k_is)
    (case l_told => k_is)
    (case c_told => k_is)
    (case k_told => k_is)
    (case a_lint => k_is)
    (case l_lint => k_is)
    (case c_lint => k_is)
    (case k_lint => k_is)
    (case a_val => k_is)
    (case l_val => k_is)
    (case c_val => k_is)
    (case k_val => k_is)
    (case a_same => k_is)
    (case l_same => k_is)
    (case c_same => k_is)
    (case k_same => k_is)
    (case a_vf => k_is)
    (case l_vf => k_is)
    (case c_vf => k_is)
    (case k_vf => k_is)
    (case a_bf => k_is)
    (case l_bf => k_is)
    (case c_bf => k_is)
    (case k_bf => k_is)
    (case a_law => k_is)
    (case l_law => k_is)
    (case c_law => k_is)
    (case k_law => k_is)
    (case a_sinit => k_is)
    (case i_sinit => k_is)
    (case l_sinit => k_is)
    (case c_sinit => k_is)
    (case k_sinit => k_is)
    (case a_seq => k_is)
    (case i_seq => k_is)
    (case l_seq => k_is)
    (case c_seq => k_is)
    (case k_seq => k_is)
    (case a_slen => k_is)
    (case i_slen => k_is)
    (case l_slen => k_is)
    (case c_slen => k_is)
    (case k_slen => k_is)
    (case a_kinit => k_is)
    (case i_kinit => k_is)
    (case l_kinit => k_is)
    (case c_kinit => k_is)
    (case k_kinit => k_is)
    (case a_kbr => k_is)
    (case i_kbr => k_is)
    (case l_kbr => k_is)
    (case c_kbr => k_is)
    (case k_kbr => k_is)
    (case a_kst => k_is)
    (case i_kst => k_is)
    (case l_kst => k_is)
    (case c_kst => k_is)
    (case k_kst => k_is)
    (case a_deq => k_is)
    (case i_deq => k_is)
    (case l_deq => k_is)
    (case c_deq => k_is)
    (case k_deq => k_is)
    (case a_yeq => k_is)
    (case i_yeq => k_is)
    (case l_yeq => k_is)
    (case c_yeq => k_is)
    (case k_yeq => k_is)
    (case a_ywb => k_is)
    (case i_ywb => k_is)
    (case l_ywb => k_is)
    (case c_ywb => k_is)
    (case k_ywb => k_is)
    (case a_byi => k_is)
    (case i_byi => k_is)
    (case l_byi => k_is)
    (case c_byi => k_is)
    (case k_byi => k_is)
    (case a_dinit => k_is)
    (case i_dinit => k_is)
    (case l_dinit => k_is)
    (case c_dinit => k_is)
    (case k_dinit => k_is)
    (case a_yinit => k_is)
    (case i_yinit => k_is)
    (case l_yinit => k_is)
    (case c_yinit => k_is)
    (case k_yinit => k_is)
    (case a_ywv => k_is)
    (case i_ywv => k_is)
    (case l_ywv => k_is)
    (case c_ywv => k_is)
    (case k_ywv => k_is)
    (case kv1 => k_is)
    (case kv2 => k_is)
    (case kv3 => k_is)
    (case kd1 => k_is)
    (case kd2 => k_is)
    (case ky1 => k_is)
    (case ky2 => k_is)
    (case ky3 => k_is)
    (case z_len => k_is)
    (case z_int => k_is)
    (case z_max => k_is)
    (case z_range => k_is)
    (case z_tuple => k_is)
    (case z_isinstance => k_is)
    (case z_all => k_is)
    (case z_list => k_is)
    (case z_enumerate => k_is)
    (case z_str => k_is)
    (case z_bool => k_is)
    (case z_sum => k_is)
    (case z_set => k_is)
    (case z_zip => k_is)
    (case z_min => k_is)
    (case v_LONGEST_NAME => k_is)
    (case v_MOST_STATEMENTS => k_is)
    (case v_MOST_HELD => k_is)
    (case v_MOST_NESTED => k_is)
    (case v_MOST_BLOCK => k_is)
    (case v_MOST_SESSIONS => k_is)
    (case v_LONGEST_OF_MANY => k_is)
    (case v_MOST_AHEAD => k_is)
    (case v_MOST_WINDOW => k_is)
    (case v_MOST_CRASHES => k_is)
    (case aI => k_is)
    (case lI => k_is)
    (case kI => (repeat (first | exact trivial | refine ⟨⟨_, _, rfl, rfl⟩, ?_⟩)))
    (case sI => first | rfl | decide)
    (case e_take => k_is)
    (case e_commit => k_is)
    (case e_rollback => k_is)
    (case e_drop => k_is)
    (case e_leave => k_is)
    (case e_lock => k_is)
    (case e_unlock => k_is)
    (case e_choose => k_is)
